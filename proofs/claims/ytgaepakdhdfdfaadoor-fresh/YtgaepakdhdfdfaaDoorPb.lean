/-
  Registers on paper: kind 2, three buffers; kind 3, one word.
-/
import Derived.Test.YtgaepakdhdfdfaaDoorPa
namespace Go.Proofs.YtgaepakdhdfdfaaDoor
namespace Reg

def set2 (f : Nat → Nat → Nat) (p i v : Nat) : Nat → Nat → Nat := fun x z => if x = p ∧ z = i then v else f x z
/-- A register of kind 2. The writer: 0 idle, 1 words, 2 its buffer goes to the middle. The reader: 0 idle, 1 begun, 2 words. -/
structure Q2 where
  width : Nat
  wb : Nat
  mb : Nat
  rb : Nat
  fresh : Bool
  mem : Nat → Nat → Nat
  wph : Nat
  wi : Nat
  wpay : Nat → Nat
  rph : Nat
  ri : Nat
  racc : List Nat
def write2 (s : Q2) (v : Nat → Nat) : Q2 := { s with wph := 1, wi := 0, wpay := v }
def read2 (s : Q2) : Q2 := { s with rph := 1 }

structure Inv2 (Y : Nat → Nat → Nat) (c : Nat → Nat) (s : Q2) (b e f l : Nat) : Prop where
  w0 : 0 < s.width
  wl : s.wph ≤ 2
  rl : s.rph ≤ 2
  n1 : s.wb ≠ s.mb
  n2 : s.wb ≠ s.rb
  n3 : s.mb ≠ s.rb
  t1 : s.wb < 3
  t2 : s.mb < 3
  t3 : s.rb < 3
  N0 : f ≤ e ∧ e ≤ b ∧ (s.wph = 0 → e = b)
  F : if s.fresh = true then c s.mb = e else c s.rb = e
  L : l ≤ e ∧ c s.rb ≤ e
  K : s.rph = 2 → f ≤ c s.rb ∧ l ≤ c s.rb
  Mm : s.fresh = true → ∀ i, i < s.width → s.mem s.mb i = Y (c s.mb) i
  Mr : ∀ i, i < s.width → s.mem s.rb i = Y (c s.rb) i
  M1 : s.wph = 1 → s.wi < s.width ∧ ∀ i, i < s.wi → s.mem s.wb i = Y b i
  M2 : s.wph = 2 → ∀ i, i < s.width → s.mem s.wb i = Y b i
  P : s.wph ≠ 0 → ∀ i, i < s.width → s.wpay i = Y b i
  R : s.rph = 2 → s.ri < s.width ∧ s.racc = (List.range s.ri).map (Y (c s.rb))

theorem write2_inv {Y : Nat → Nat → Nat} {c : Nat → Nat} {s : Q2} {b e f l : Nat} (h : Inv2 Y c s b e f l) (v : Nat → Nat) (hv : ∀ i, i < s.width → v i = Y (b + 1) i) : Inv2 Y c (write2 s v) (b + 1) e f l where
  w0 := h.w0
  wl := by show 1 ≤ 2; decide
  rl := h.rl
  n1 := h.n1
  n2 := h.n2
  n3 := h.n3
  t1 := h.t1
  t2 := h.t2
  t3 := h.t3
  N0 := ⟨h.N0.1, by have := h.N0.2.1; omega, fun k => by have k' : 1 = 0 := k; omega⟩
  F := h.F
  L := h.L
  K := h.K
  Mm := h.Mm
  Mr := h.Mr
  M1 := fun _ => ⟨h.w0, fun i hi => by have hi' : i < 0 := hi; omega⟩
  M2 := fun k => by have k' : 1 = 2 := k; omega
  P := fun _ => hv
  R := h.R
theorem read2_inv {Y : Nat → Nat → Nat} {c : Nat → Nat} {s : Q2} {b e f l : Nat} (h : Inv2 Y c s b e f l) : Inv2 Y c (read2 s) b e e l where
  w0 := h.w0
  wl := h.wl
  rl := by show 1 ≤ 2; decide
  n1 := h.n1
  n2 := h.n2
  n3 := h.n3
  t1 := h.t1
  t2 := h.t2
  t3 := h.t3
  N0 := ⟨Nat.le_refl _, h.N0.2⟩
  F := h.F
  L := h.L
  K := fun k => by have k' : 1 = 2 := k; omega
  Mm := h.Mm
  Mr := h.Mr
  M1 := h.M1
  M2 := h.M2
  P := h.P
  R := fun k => by have k' : 1 = 2 := k; omega

theorem stepW2_1 {Y : Nat → Nat → Nat} {c : Nat → Nat} {s : Q2} {b e f l : Nat} (h : Inv2 Y c s b e f l) (hw : s.wph = 1) : Inv2 Y c { s with wph := if s.wi + 1 = s.width then 2 else 1, wi := s.wi + 1, mem := set2 s.mem s.wb s.wi (s.wpay s.wi) } b e f l := by
  have w12 : (if s.wi + 1 = s.width then 2 else 1) = 1 ∨ (if s.wi + 1 = s.width then 2 else 1) = 2 := by split <;> simp
  have same : ∀ i, i < s.wi + 1 → set2 s.mem s.wb s.wi (s.wpay s.wi) s.wb i = Y b i := fun i hi => by
    unfold set2
    by_cases e : i = s.wi
    · rw [if_pos ⟨rfl, e⟩, e]
      exact h.P (by omega) _ (h.M1 hw).1
    · rw [if_neg (fun k => e k.2)]
      exact (h.M1 hw).2 i (by omega)
  have other : ∀ p i, p ≠ s.wb → set2 s.mem s.wb s.wi (s.wpay s.wi) p i = s.mem p i := fun p i k => by
    unfold set2
    rw [if_neg (fun j => k j.1)]
  exact {
    w0 := h.w0
    wl := by show (if s.wi + 1 = s.width then 2 else 1) ≤ 2; omega
    rl := h.rl
    n1 := h.n1
    n2 := h.n2
    n3 := h.n3
    t1 := h.t1
    t2 := h.t2
    t3 := h.t3
    N0 := ⟨h.N0.1, h.N0.2.1, fun k => by have k' : (if s.wi + 1 = s.width then 2 else 1) = 0 := k; omega⟩
    F := h.F
    L := h.L
    K := h.K
    Mm := fun kf i hi => (other s.mb i h.n1.symm).trans (h.Mm kf i hi)
    Mr := fun i hi => (other s.rb i h.n2.symm).trans (h.Mr i hi)
    M1 := fun k => by
      have k' : (if s.wi + 1 = s.width then 2 else 1) = 1 := k
      refine ⟨?_, same⟩
      show s.wi + 1 < s.width
      have := (h.M1 hw).1
      split at k'
      · omega
      · omega
    M2 := fun k => by
      have k' : (if s.wi + 1 = s.width then 2 else 1) = 2 := k
      intro i hi
      refine same i ?_
      have hi' : i < s.width := hi
      split at k'
      · omega
      · omega
    P := fun _ => h.P (by omega)
    R := h.R }
theorem stepW2_2 {Y : Nat → Nat → Nat} {c : Nat → Nat} {s : Q2} {b e f l : Nat} (h : Inv2 Y c s b e f l) (hw : s.wph = 2) : Inv2 Y (set1 c s.wb b) { s with wph := 0, wb := s.mb, mb := s.wb, fresh := true } b b f l := by
  have cr : set1 c s.wb b s.rb = c s.rb := set1_other _ _ h.n2.symm
  have h0 := h.N0
  exact {
    w0 := h.w0
    wl := by show 0 ≤ 2; decide
    rl := h.rl
    n1 := h.n1.symm
    n2 := h.n3
    n3 := h.n2
    t1 := h.t2
    t2 := h.t1
    t3 := h.t3
    N0 := ⟨by omega, Nat.le_refl _, fun _ => rfl⟩
    F := by
      show if true = true then set1 c s.wb b s.wb = b else _
      rw [if_pos rfl, set1_same]
    L := ⟨by have := h.L.1; omega, by show set1 c s.wb b s.rb ≤ b; rw [cr]; have := h.L.2; omega⟩
    K := fun k => by
      show f ≤ set1 c s.wb b s.rb ∧ l ≤ set1 c s.wb b s.rb
      rw [cr]; exact h.K k
    Mm := fun _ i hi => by
      show s.mem s.wb i = Y (set1 c s.wb b s.wb) i
      rw [set1_same]; exact h.M2 hw i hi
    Mr := fun i hi => by
      show s.mem s.rb i = Y (set1 c s.wb b s.rb) i
      rw [cr]; exact h.Mr i hi
    M1 := fun k => by have k' : 0 = 1 := k; omega
    M2 := fun k => by have k' : 0 = 2 := k; omega
    P := fun k => absurd rfl k
    R := fun k => by
      obtain ⟨a1, a2⟩ := h.R k
      refine ⟨a1, ?_⟩
      show s.racc = (List.range s.ri).map (Y (set1 c s.wb b s.rb))
      rw [cr]; exact a2 }
theorem stepR2_fresh {Y : Nat → Nat → Nat} {c : Nat → Nat} {s : Q2} {b e f l : Nat} (h : Inv2 Y c s b e f l) (hf : s.fresh = true) : Inv2 Y c { s with rph := 2, mb := s.rb, rb := s.mb, fresh := false, ri := 0, racc := [] } b e f l := by
  have hm : c s.mb = e := by have := h.F; rw [if_pos hf] at this; exact this
  exact {
    w0 := h.w0
    wl := h.wl
    rl := by show 2 ≤ 2; decide
    n1 := h.n2
    n2 := h.n1
    n3 := h.n3.symm
    t1 := h.t1
    t2 := h.t3
    t3 := h.t2
    N0 := h.N0
    F := by
      show if false = true then _ else c s.mb = e
      rw [if_neg (by decide)]; exact hm
    L := ⟨h.L.1, by show c s.mb ≤ e; omega⟩
    K := fun _ => ⟨by show f ≤ c s.mb; rw [hm]; exact h.N0.1, by show l ≤ c s.mb; rw [hm]; exact h.L.1⟩
    Mm := fun k => by have k' : false = true := k; cases k'
    Mr := h.Mm hf
    M1 := h.M1
    M2 := h.M2
    P := h.P
    R := fun _ => ⟨h.w0, rfl⟩ }
theorem stepR2_old {Y : Nat → Nat → Nat} {c : Nat → Nat} {s : Q2} {b e f l : Nat} (h : Inv2 Y c s b e f l) (hf : s.fresh = false) : Inv2 Y c { s with rph := 2, ri := 0, racc := [] } b e f l := by
  have hm : c s.rb = e := by have := h.F; rw [if_neg (by rw [hf]; decide)] at this; exact this
  exact {
    w0 := h.w0
    wl := h.wl
    rl := by show 2 ≤ 2; decide
    n1 := h.n1
    n2 := h.n2
    n3 := h.n3
    t1 := h.t1
    t2 := h.t2
    t3 := h.t3
    N0 := h.N0
    F := h.F
    L := h.L
    K := fun _ => ⟨by show f ≤ c s.rb; rw [hm]; exact h.N0.1, by show l ≤ c s.rb; rw [hm]; exact h.L.1⟩
    Mm := h.Mm
    Mr := h.Mr
    M1 := h.M1
    M2 := h.M2
    P := h.P
    R := fun _ => ⟨h.w0, rfl⟩ }
theorem Inv2.word {Y : Nat → Nat → Nat} {c : Nat → Nat} {s : Q2} {b e f l : Nat} (h : Inv2 Y c s b e f l) (hr : s.rph = 2) : s.racc ++ [s.mem s.rb s.ri] = (List.range (s.ri + 1)).map (Y (c s.rb)) := by
  obtain ⟨a1, a2⟩ := h.R hr
  rw [range_snoc, a2, h.Mr s.ri a1]
theorem stepR2_2 {Y : Nat → Nat → Nat} {c : Nat → Nat} {s : Q2} {b e f l : Nat} (h : Inv2 Y c s b e f l) (hr : s.rph = 2) (hn : s.ri + 1 ≠ s.width) : Inv2 Y c { s with rph := 2, ri := s.ri + 1, racc := s.racc ++ [s.mem s.rb s.ri] } b e f l where
  w0 := h.w0
  wl := h.wl
  rl := by show 2 ≤ 2; decide
  n1 := h.n1
  n2 := h.n2
  n3 := h.n3
  t1 := h.t1
  t2 := h.t2
  t3 := h.t3
  N0 := h.N0
  F := h.F
  L := h.L
  K := fun _ => h.K hr
  Mm := h.Mm
  Mr := h.Mr
  M1 := h.M1
  M2 := h.M2
  P := h.P
  R := fun _ => ⟨by show s.ri + 1 < s.width; have := (h.R hr).1; omega, h.word hr⟩
theorem stepR2_end {Y : Nat → Nat → Nat} {c : Nat → Nat} {s : Q2} {b e f l : Nat} (h : Inv2 Y c s b e f l) (hr : s.rph = 2) (hn : s.ri + 1 = s.width) :
    ∃ k, s.racc ++ [s.mem s.rb s.ri] = (List.range s.width).map (Y k) ∧ f ≤ k ∧ l ≤ k ∧ k ≤ b ∧ Inv2 Y c { s with rph := 0, ri := s.ri + 1, racc := s.racc ++ [s.mem s.rb s.ri] } b e f k := by
  obtain ⟨a1, a2⟩ := h.K hr
  have h0 := h.N0
  have hl := h.L
  refine ⟨c s.rb, by rw [h.word hr, hn], a1, a2, by omega, ?_⟩
  exact {
    w0 := h.w0
    wl := h.wl
    rl := by show 0 ≤ 2; decide
    n1 := h.n1
    n2 := h.n2
    n3 := h.n3
    t1 := h.t1
    t2 := h.t2
    t3 := h.t3
    N0 := h.N0
    F := h.F
    L := ⟨hl.2, hl.2⟩
    K := fun k => by have k' : 0 = 2 := k; omega
    Mm := h.Mm
    Mr := h.Mr
    M1 := h.M1
    M2 := h.M2
    P := h.P
    R := fun k => by have k' : 0 = 2 := k; omega }

/-- A register of kind 3: one word; the writer and the reader: 0 idle, 1 begun. -/
structure Q3 where
  val : Nat
  wph : Nat
  wval : Nat
  rph : Nat
structure Inv3 (Y : Nat → Nat → Nat) (s : Q3) (b e f l : Nat) : Prop where
  N0 : f ≤ e ∧ e ≤ b ∧ (s.wph = 0 → e = b)
  L : l ≤ e
  V : s.val = Y e 0
  P : s.wph ≠ 0 → s.wval = Y b 0
theorem write3_inv {Y : Nat → Nat → Nat} {s : Q3} {b e f l : Nat} (h : Inv3 Y s b e f l) : Inv3 Y { s with wph := 1, wval := Y (b + 1) 0 } (b + 1) e f l :=
  ⟨⟨h.N0.1, by have := h.N0.2.1; omega, fun k => by have k' : 1 = 0 := k; omega⟩, h.L, h.V, fun _ => rfl⟩
theorem read3_inv {Y : Nat → Nat → Nat} {s : Q3} {b e f l : Nat} (h : Inv3 Y s b e f l) : Inv3 Y { s with rph := 1 } b e e l := ⟨⟨Nat.le_refl _, h.N0.2⟩, h.L, h.V, h.P⟩
theorem stepW3_inv {Y : Nat → Nat → Nat} {s : Q3} {b e f l : Nat} (h : Inv3 Y s b e f l) (hw : s.wph ≠ 0) : Inv3 Y { s with wph := 0, val := s.wval } b b f l :=
  ⟨⟨by have := h.N0; omega, Nat.le_refl _, fun _ => rfl⟩, by have := h.N0; have := h.L; omega, h.P hw, fun k => absurd rfl k⟩
theorem stepR3_inv {Y : Nat → Nat → Nat} {s : Q3} {b e f l : Nat} (h : Inv3 Y s b e f l) : s.val = Y e 0 ∧ f ≤ e ∧ l ≤ e ∧ e ≤ b ∧ Inv3 Y { s with rph := 0 } b e f e :=
  ⟨h.V, h.N0.1, h.L, h.N0.2.1, h.N0, Nat.le_refl _, h.V, h.P⟩

/-- Registers of kinds 2 and 3 at first. -/
theorem first2 (Y : Nat → Nat → Nat) (s : Q2) (hw : 0 < s.width) (h1 : s.wb ≠ s.mb) (h2 : s.wb ≠ s.rb) (h3 : s.mb ≠ s.rb) (t1 : s.wb < 3) (t2 : s.mb < 3) (t3 : s.rb < 3) (hf : s.fresh = false) (h4 : s.wph = 0) (h5 : s.rph = 0) (h6 : ∀ i, i < s.width → s.mem s.rb i = Y 0 i) : Inv2 Y (fun _ => 0) s 0 0 0 0 where
  w0 := hw
  wl := by omega
  rl := by omega
  n1 := h1
  n2 := h2
  n3 := h3
  t1 := t1
  t2 := t2
  t3 := t3
  N0 := ⟨Nat.le_refl _, Nat.le_refl _, fun _ => rfl⟩
  F := by split <;> rfl
  L := ⟨Nat.le_refl _, Nat.le_refl _⟩
  K := fun k => by omega
  Mm := fun k => by rw [hf] at k; cases k
  Mr := h6
  M1 := fun k => by omega
  M2 := fun k => by omega
  P := fun k => absurd h4 k
  R := fun k => by omega
theorem first3 (Y : Nat → Nat → Nat) (s : Q3) (h4 : s.wph = 0) (h6 : s.val = Y 0 0) : Inv3 Y s 0 0 0 0 := ⟨⟨Nat.le_refl _, Nat.le_refl _, fun _ => rfl⟩, Nat.le_refl _, h6, fun k => absurd h4 k⟩

end Reg
end Go.Proofs.YtgaepakdhdfdfaaDoor
