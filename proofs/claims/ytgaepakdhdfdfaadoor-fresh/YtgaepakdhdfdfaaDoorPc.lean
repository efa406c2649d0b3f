/-
  Registers on paper, all kinds in one form: the steps that are left are counted.
-/
import Derived.Test.YtgaepakdhdfdfaaDoorPb
namespace Go.Proofs.YtgaepakdhdfdfaaDoor
namespace Reg

/-- A register's ways. -/
structure Mach (Q : Type) where
  width : Q → Nat
  wl : Q → Nat
  rl : Q → Nat
  write : Q → (Nat → Nat) → Q
  stepW : Q → Q
  read : Q → Q
  stepR : Q → Q
  out : Q → List Nat
  Inv : (Nat → Nat → Nat) → Q → Nat → Nat → Nat → Nat → Prop

structure Laws {Q : Type} (m : Mach Q) : Prop where
  write : ∀ {Y s b e f l} (v : Nat → Nat), m.Inv Y s b e f l → m.wl s = 0 → (∀ i, i < m.width s → v i = Y (b + 1) i) → m.Inv Y (m.write s v) (b + 1) e f l ∧ 0 < m.wl (m.write s v) ∧ m.wl (m.write s v) ≤ m.width s + 4 ∧ m.rl (m.write s v) = m.rl s ∧ m.width (m.write s v) = m.width s
  stepW : ∀ {Y s b e f l}, m.Inv Y s b e f l → 0 < m.wl s → m.Inv Y (m.stepW s) b (if m.wl s = 1 then b else e) f l ∧ m.wl (m.stepW s) = m.wl s - 1 ∧ m.rl (m.stepW s) = m.rl s ∧ m.width (m.stepW s) = m.width s
  read : ∀ {Y s b e f l}, m.Inv Y s b e f l → m.rl s = 0 → m.Inv Y (m.read s) b e e l ∧ 0 < m.rl (m.read s) ∧ m.rl (m.read s) ≤ m.width s + 3 ∧ m.wl (m.read s) = m.wl s ∧ m.width (m.read s) = m.width s
  stepR : ∀ {Y s b e f l}, m.Inv Y s b e f l → 1 < m.rl s → m.Inv Y (m.stepR s) b e f l ∧ m.rl (m.stepR s) = m.rl s - 1 ∧ m.wl (m.stepR s) = m.wl s ∧ m.width (m.stepR s) = m.width s
  last : ∀ {Y s b e f l}, m.Inv Y s b e f l → m.rl s = 1 → ∃ k, m.out s = (List.range (m.width s)).map (Y k) ∧ f ≤ k ∧ l ≤ k ∧ k ≤ b ∧ m.Inv Y (m.stepR s) b e f k ∧ m.rl (m.stepR s) = 0 ∧ m.wl (m.stepR s) = m.wl s ∧ m.width (m.stepR s) = m.width s

def wl1 (s : Q1) : Nat := if s.wph = 0 then 0 else if s.wph = 1 then s.width + 4 else if s.wph = 2 then s.width + 3 else if s.wph = 3 then s.width - s.wi + 2 else if s.wph = 4 then 2 else 1
def rl1 (s : Q1) : Nat := if s.rph = 0 then 0 else if s.rph = 1 then s.width + 3 else if s.rph = 2 then s.width + 2 else if s.rph = 3 then s.width + 1 else s.width - s.ri
def mach1 : Mach Q1 where
  width := Q1.width
  wl := wl1
  rl := rl1
  write := write1
  stepW := stepW1
  read := read1
  stepR := stepR1
  out := fun s => s.racc ++ [s.mem s.rp s.rq s.ri]
  Inv := fun Y s b e f l => ∃ u c, Inv Y u c s b e f l
theorem laws1 : Laws mach1 where
  write := by
    rintro Y s b e f l v ⟨u, c, h⟩ h0 hv
    have hw : s.wph = 0 := by
      have h0' : wl1 s = 0 := h0
      have := h.wl
      unfold wl1 at h0'
      split at h0' <;> try omega
      split at h0' <;> try omega
      split at h0' <;> try omega
      split at h0' <;> try omega
      split at h0' <;> omega
    exact ⟨⟨u, c, write1_inv h hw v hv⟩, by show 0 < s.width + 4; omega, by show s.width + 4 ≤ s.width + 4; omega, rfl, rfl⟩
  stepW := by
    rintro Y s b e f l ⟨u, c, h⟩ h0
    have h0' : 0 < wl1 s := h0
    have h5 := h.wl
    show (∃ u c, Inv Y u c (stepW1 s) b (if wl1 s = 1 then b else e) f l) ∧ wl1 (stepW1 s) = wl1 s - 1 ∧ rl1 (stepW1 s) = rl1 s ∧ (stepW1 s).width = s.width
    have hc : s.wph = 1 ∨ s.wph = 2 ∨ s.wph = 3 ∨ s.wph = 4 ∨ s.wph = 5 := by
      rcases Nat.eq_zero_or_pos s.wph with k | k
      · unfold wl1 at h0'; rw [if_pos k] at h0'; omega
      · omega
    rcases hc with hw | hw | hw | hw | hw
    · have e1 : wl1 s = s.width + 4 := by simp [wl1, hw]
      have e2 : stepW1 s = { s with wph := 2, wp := 1 - s.reading } := by simp [stepW1, hw]
      rw [if_neg (by omega), e2, e1]
      exact ⟨⟨u, c, stepW1_1 h hw⟩, by simp [wl1], rfl, rfl⟩
    · have e1 : wl1 s = s.width + 3 := by simp [wl1, hw]
      have e2 : stepW1 s = { s with wph := 3, wq := 1 - s.slot s.wp, wi := 0 } := by simp [stepW1, hw]
      rw [if_neg (by omega), e2, e1]
      exact ⟨⟨u, c, stepW1_2 h hw⟩, by simp [wl1], rfl, rfl⟩
    · have e1 : wl1 s = s.width - s.wi + 2 := by simp [wl1, hw]
      have hi := (h.M3 hw).1
      have e2 : stepW1 s = { s with wph := if s.wi + 1 = s.width then 4 else 3, wi := s.wi + 1, mem := set3 s.mem s.wp s.wq s.wi (s.wpay s.wi) } := by simp [stepW1, hw]
      rw [if_neg (by omega), e2, e1]
      refine ⟨⟨u, c, stepW1_3 h hw⟩, ?_, rfl, rfl⟩
      by_cases k : s.wi + 1 = s.width
      · simp [wl1, k]; omega
      · simp [wl1, k]; omega
    · have e1 : wl1 s = 2 := by simp [wl1, hw]
      have e2 : stepW1 s = { s with wph := 5, slot := set1 s.slot s.wp s.wq } := by simp [stepW1, hw]
      rw [if_neg (by omega), e2, e1]
      exact ⟨⟨_, _, stepW1_4 h hw⟩, by simp [wl1], rfl, rfl⟩
    · have e1 : wl1 s = 1 := by simp [wl1, hw]
      have e2 : stepW1 s = { s with wph := 0, latest := s.wp } := by simp [stepW1, hw]
      rw [if_pos e1, e2, e1]
      exact ⟨⟨u, c, stepW1_5 h hw⟩, by simp [wl1], rfl, rfl⟩
  read := by
    rintro Y s b e f l ⟨u, c, h⟩ _
    exact ⟨⟨u, c, read1_inv h⟩, by show 0 < s.width + 3; omega, by show s.width + 3 ≤ s.width + 3; omega, rfl, rfl⟩
  stepR := by
    rintro Y s b e f l ⟨u, c, h⟩ h0
    have h0' : 1 < rl1 s := h0
    have h5 := h.rl
    show (∃ u c, Inv Y u c (stepR1 s) b e f l) ∧ rl1 (stepR1 s) = rl1 s - 1 ∧ wl1 (stepR1 s) = wl1 s ∧ (stepR1 s).width = s.width
    have hc : s.rph = 1 ∨ s.rph = 2 ∨ s.rph = 3 ∨ s.rph = 4 := by
      rcases Nat.eq_zero_or_pos s.rph with k | k
      · unfold rl1 at h0'; rw [if_pos k] at h0'; omega
      · omega
    rcases hc with hw | hw | hw | hw
    · have e1 : rl1 s = s.width + 3 := by simp [rl1, hw]
      have e2 : stepR1 s = { s with rph := 2, rp := s.latest } := by simp [stepR1, hw]
      rw [e2, e1]
      exact ⟨⟨u, c, stepR1_1 h⟩, by simp [rl1], rfl, rfl⟩
    · have e1 : rl1 s = s.width + 2 := by simp [rl1, hw]
      have e2 : stepR1 s = { s with rph := 3, reading := s.rp } := by simp [stepR1, hw]
      rw [e2, e1]
      exact ⟨⟨u, c, stepR1_2 h hw⟩, by simp [rl1], rfl, rfl⟩
    · have e1 : rl1 s = s.width + 1 := by simp [rl1, hw]
      have e2 : stepR1 s = { s with rph := 4, rq := s.slot s.rp, ri := 0, racc := [] } := by simp [stepR1, hw]
      rw [e2, e1]
      exact ⟨⟨u, c, stepR1_3 h hw⟩, by simp [rl1], rfl, rfl⟩
    · have e1 : rl1 s = s.width - s.ri := by simp [rl1, hw]
      have hn : s.ri + 1 ≠ s.width := by omega
      have e2 : stepR1 s = { s with rph := 4, ri := s.ri + 1, racc := s.racc ++ [s.mem s.rp s.rq s.ri] } := by simp [stepR1, hw, hn]
      rw [e2, e1]
      exact ⟨⟨u, c, stepR1_4 h hw hn⟩, by simp [rl1]; omega, rfl, rfl⟩
  last := by
    rintro Y s b e f l ⟨u, c, h⟩ h0
    have h0' : rl1 s = 1 := h0
    have h5 := h.rl
    have hw0 := h.w0
    have hw : s.rph = 4 := by
      unfold rl1 at h0'
      split at h0' <;> try omega
      split at h0' <;> try omega
      split at h0' <;> try omega
      split at h0' <;> omega
    have hn : s.ri + 1 = s.width := by
      have e1 : rl1 s = s.width - s.ri := by simp [rl1, hw]
      omega
    obtain ⟨k, k1, k2, k3, k4, k5⟩ := stepR1_end h hw hn
    have e2 : stepR1 s = { s with rph := 0, ri := s.ri + 1, racc := s.racc ++ [s.mem s.rp s.rq s.ri] } := by simp [stepR1, hw, hn]
    refine ⟨k, k1, k2, k3, k4, ?_⟩
    show (∃ u c, Inv Y u c (stepR1 s) b e f k) ∧ rl1 (stepR1 s) = 0 ∧ wl1 (stepR1 s) = wl1 s ∧ (stepR1 s).width = s.width
    rw [e2]
    exact ⟨⟨u, c, k5⟩, rfl, rfl, rfl⟩

def stepW2 (s : Q2) : Q2 :=
  if s.wph = 1 then { s with wph := if s.wi + 1 = s.width then 2 else 1, wi := s.wi + 1, mem := set2 s.mem s.wb s.wi (s.wpay s.wi) }
  else { s with wph := 0, wb := s.mb, mb := s.wb, fresh := true }
def stepR2 (s : Q2) : Q2 :=
  if s.rph = 1 then (if s.fresh = true then { s with rph := 2, mb := s.rb, rb := s.mb, fresh := false, ri := 0, racc := [] } else { s with rph := 2, ri := 0, racc := [] })
  else { s with rph := if s.ri + 1 = s.width then 0 else 2, ri := s.ri + 1, racc := s.racc ++ [s.mem s.rb s.ri] }
def wl2 (s : Q2) : Nat := if s.wph = 0 then 0 else if s.wph = 1 then s.width - s.wi + 1 else 1
def rl2 (s : Q2) : Nat := if s.rph = 0 then 0 else if s.rph = 1 then s.width + 1 else s.width - s.ri
def mach2 : Mach Q2 where
  width := Q2.width
  wl := wl2
  rl := rl2
  write := write2
  stepW := stepW2
  read := read2
  stepR := stepR2
  out := fun s => s.racc ++ [s.mem s.rb s.ri]
  Inv := fun Y s b e f l => ∃ c, Inv2 Y c s b e f l
theorem laws2 : Laws mach2 where
  write := by
    rintro Y s b e f l v ⟨c, h⟩ h0 hv
    exact ⟨⟨c, write2_inv h v hv⟩, by show 0 < s.width - 0 + 1; omega, by show s.width - 0 + 1 ≤ s.width + 4; omega, rfl, rfl⟩
  stepW := by
    rintro Y s b e f l ⟨c, h⟩ h0
    have h0' : 0 < wl2 s := h0
    have h5 := h.wl
    show (∃ c, Inv2 Y c (stepW2 s) b (if wl2 s = 1 then b else e) f l) ∧ wl2 (stepW2 s) = wl2 s - 1 ∧ rl2 (stepW2 s) = rl2 s ∧ (stepW2 s).width = s.width
    have hc : s.wph = 1 ∨ s.wph = 2 := by
      rcases Nat.eq_zero_or_pos s.wph with k | k
      · unfold wl2 at h0'; rw [if_pos k] at h0'; omega
      · omega
    rcases hc with hw | hw
    · have e1 : wl2 s = s.width - s.wi + 1 := by simp [wl2, hw]
      have hi := (h.M1 hw).1
      have e2 : stepW2 s = { s with wph := if s.wi + 1 = s.width then 2 else 1, wi := s.wi + 1, mem := set2 s.mem s.wb s.wi (s.wpay s.wi) } := by simp [stepW2, hw]
      rw [if_neg (by omega), e2, e1]
      refine ⟨⟨c, stepW2_1 h hw⟩, ?_, rfl, rfl⟩
      by_cases k : s.wi + 1 = s.width
      · simp [wl2, k]; omega
      · simp [wl2, k]; omega
    · have e1 : wl2 s = 1 := by simp [wl2, hw]
      have e2 : stepW2 s = { s with wph := 0, wb := s.mb, mb := s.wb, fresh := true } := by simp [stepW2, hw]
      rw [if_pos e1, e2, e1]
      exact ⟨⟨_, stepW2_2 h hw⟩, by simp [wl2], rfl, rfl⟩
  read := by
    rintro Y s b e f l ⟨c, h⟩ _
    exact ⟨⟨c, read2_inv h⟩, by show 0 < s.width + 1; omega, by show s.width + 1 ≤ s.width + 3; omega, rfl, rfl⟩
  stepR := by
    rintro Y s b e f l ⟨c, h⟩ h0
    have h0' : 1 < rl2 s := h0
    have h5 := h.rl
    show (∃ c, Inv2 Y c (stepR2 s) b e f l) ∧ rl2 (stepR2 s) = rl2 s - 1 ∧ wl2 (stepR2 s) = wl2 s ∧ (stepR2 s).width = s.width
    have hc : s.rph = 1 ∨ s.rph = 2 := by
      rcases Nat.eq_zero_or_pos s.rph with k | k
      · unfold rl2 at h0'; rw [if_pos k] at h0'; omega
      · omega
    rcases hc with hw | hw
    · have e1 : rl2 s = s.width + 1 := by simp [rl2, hw]
      by_cases hf : s.fresh = true
      · have e2 : stepR2 s = { s with rph := 2, mb := s.rb, rb := s.mb, fresh := false, ri := 0, racc := [] } := by simp [stepR2, hw, hf]
        rw [e2, e1]
        exact ⟨⟨c, stepR2_fresh h hf⟩, by simp [rl2], rfl, rfl⟩
      · have e2 : stepR2 s = { s with rph := 2, ri := 0, racc := [] } := by simp [stepR2, hw, hf]
        rw [e2, e1]
        exact ⟨⟨c, stepR2_old h (by simpa using hf)⟩, by simp [rl2], rfl, rfl⟩
    · have e1 : rl2 s = s.width - s.ri := by simp [rl2, hw]
      have hn : s.ri + 1 ≠ s.width := by omega
      have e2 : stepR2 s = { s with rph := 2, ri := s.ri + 1, racc := s.racc ++ [s.mem s.rb s.ri] } := by simp [stepR2, hw, hn]
      rw [e2, e1]
      exact ⟨⟨c, stepR2_2 h hw hn⟩, by simp [rl2]; omega, rfl, rfl⟩
  last := by
    rintro Y s b e f l ⟨c, h⟩ h0
    have h0' : rl2 s = 1 := h0
    have h5 := h.rl
    have hw0 := h.w0
    have hw : s.rph = 2 := by
      unfold rl2 at h0'
      split at h0' <;> try omega
      split at h0' <;> omega
    have hn : s.ri + 1 = s.width := by
      have e1 : rl2 s = s.width - s.ri := by simp [rl2, hw]
      omega
    obtain ⟨k, k1, k2, k3, k4, k5⟩ := stepR2_end h hw hn
    have e2 : stepR2 s = { s with rph := 0, ri := s.ri + 1, racc := s.racc ++ [s.mem s.rb s.ri] } := by simp [stepR2, hw, hn]
    refine ⟨k, k1, k2, k3, k4, ?_⟩
    show (∃ c, Inv2 Y c (stepR2 s) b e f k) ∧ rl2 (stepR2 s) = 0 ∧ wl2 (stepR2 s) = wl2 s ∧ (stepR2 s).width = s.width
    rw [e2]
    exact ⟨⟨c, k5⟩, rfl, rfl, rfl⟩

def mach3 : Mach Q3 where
  width := fun _ => 1
  wl := fun s => if s.wph = 0 then 0 else 1
  rl := fun s => if s.rph = 0 then 0 else 1
  write := fun s v => { s with wph := 1, wval := v 0 }
  stepW := fun s => { s with wph := 0, val := s.wval }
  read := fun s => { s with rph := 1 }
  stepR := fun s => { s with rph := 0 }
  out := fun s => [s.val]
  Inv := Inv3
theorem laws3 : Laws mach3 where
  write := by
    intro Y s b e f l v h h0 hv
    have e1 : v 0 = Y (b + 1) 0 := hv 0 (by show 0 < 1; decide)
    show Inv3 Y { s with wph := 1, wval := v 0 } (b + 1) e f l ∧ _
    rw [e1]
    exact ⟨write3_inv h, by show 0 < 1; decide, by show 1 ≤ 1 + 4; decide, rfl, rfl⟩
  stepW := by
    intro Y s b e f l h h0
    have h0' : 0 < if s.wph = 0 then 0 else 1 := h0
    have hw : s.wph ≠ 0 := fun k => by rw [if_pos k] at h0'; omega
    have e1 : mach3.wl s = 1 := if_neg hw
    rw [if_pos e1, e1]
    exact ⟨stepW3_inv h hw, rfl, rfl, rfl⟩
  read := by
    intro Y s b e f l h _
    exact ⟨read3_inv h, by show 0 < 1; decide, by show 1 ≤ 1 + 3; decide, rfl, rfl⟩
  stepR := by
    intro Y s b e f l h h0
    have h0' : 1 < if s.rph = 0 then 0 else 1 := h0
    split at h0' <;> omega
  last := by
    intro Y s b e f l h h0
    obtain ⟨k1, k2, k3, k4, k5⟩ := stepR3_inv h
    refine ⟨e, ?_, k2, k3, k4, k5, rfl, rfl, rfl⟩
    show [s.val] = (List.range 1).map (Y e)
    rw [k1]; rfl

end Reg
end Go.Proofs.YtgaepakdhdfdfaaDoor
