/-
  The cells of kind 1: four slots.
-/
import Derived.Test.YtgaepakdhdfdfaaDoorVd
import Derived.Test.YtgaepakdhdfdfaaDoorVy
namespace Go.Proofs.YtgaepakdhdfdfaaDoor
open Go.RowKit

def K1 : KK Reg.Q1 := fun CB w f s => ∃ kb : Nat → Nat → Nat, CB = [f, kb 0 0, kb 0 1, kb 1 0, kb 1 1] ∧ Bk w f (blk1 s.width kb s.slot s.latest s.reading s.wp s.wq s.rp s.rq) 91 ∧ ∀ p q, p < 2 → q < 2 → Rw w (kb p q) s.width (s.mem p q)
def D1 : Kd Reg.Q1 where
  m := Reg.mach1
  K := K1
  WT := fun n => n + 4
  RT := fun n => n + 3
  pay := Reg.Q1.wpay
  acc := fun s => if s.rph = 4 then s.racc else []

theorem mem1 {f : Nat} {kb : Nat → Nat → Nat} {p q : Nat} (hp : p < 2) (hq : q < 2) : kb p q ∈ [f, kb 0 0, kb 0 1, kb 1 0, kb 1 1] := by
  rcases (by omega : p = 0 ∨ p = 1) with rfl | rfl <;> rcases (by omega : q = 0 ∨ q = 1) with rfl | rfl <;> simp
theorem nd1 {f : Nat} {kb : Nat → Nat → Nat} (h : [f, kb 0 0, kb 0 1, kb 1 0, kb 1 1].Nodup) {p q : Nat} (hp : p < 2) (hq : q < 2) : kb p q ≠ f ∧ ∀ x y, x < 2 → y < 2 → ¬ (x = p ∧ y = q) → kb x y ≠ kb p q := by
  simp at h
  refine ⟨?_, fun x y hx hy hne => ?_⟩
  · rcases (by omega : p = 0 ∨ p = 1) with rfl | rfl <;> rcases (by omega : q = 0 ∨ q = 1) with rfl | rfl <;> omega
  · rcases (by omega : p = 0 ∨ p = 1) with rfl | rfl <;> rcases (by omega : q = 0 ∨ q = 1) with rfl | rfl <;> rcases (by omega : x = 0 ∨ x = 1) with rfl | rfl <;> rcases (by omega : y = 0 ∨ y = 1) with rfl | rfl <;> omega
/-- A step that turns the cells' own block alone. -/
theorem k1_own {f : Nat} {kb : Nat → Nat → Nat} {w w' : World} {n : Nat} {mem : Nat → Nat → Nat → Nat} (hnd : [f, kb 0 0, kb 0 1, kb 1 0, kb 1 1].Nodup) (F : Fr (fun k => k = f) w w') (hm : ∀ p q, p < 2 → q < 2 → Rw w (kb p q) n (mem p q)) : ∀ p q, p < 2 → q < 2 → Rw w' (kb p q) n (mem p q) :=
  fun p q hp hq => (hm p q hp hq).fr F (nd1 hnd hp hq).1

theorem cc1 : Cc D1 53 52 where
  wt0 := fun n => by show n + 4 ≠ 0; omega
  rt0 := fun n => by show n + 3 ≠ 0; omega
  kept := by
    rintro CB w w' f s ⟨kb, rfl, h, hm⟩ hk
    exact ⟨kb, rfl, h.heap (hk f (by simp)), fun p q hp hq => (hm p q hp hq).heap (hk _ (mem1 hp hq))⟩
  lt := by
    rintro CB w f s ⟨kb, rfl, h, hm⟩ k hk
    simp at hk
    rcases hk with rfl | rfl | rfl | rfl | rfl
    · exact h.lt
    · exact (hm 0 0 (by omega) (by omega)).lt
    · exact (hm 0 1 (by omega) (by omega)).lt
    · exact (hm 1 0 (by omega) (by omega)).lt
    · exact (hm 1 1 (by omega) (by omega)).lt
  begW := by
    rintro CB w f s v ⟨kb, rfl, h, hm⟩ h0
    exact ⟨⟨kb, rfl, h, hm⟩, fun i hi => rfl, rfl, rfl, rfl, rfl⟩
  begR := by
    rintro CB w f s ⟨kb, rfl, h, hm⟩ h0
    exact ⟨⟨kb, rfl, h, hm⟩, rfl, rfl, rfl, rfl, rfl⟩
  payW := fun s => by
    show (Reg.stepW1 s).wpay = s.wpay
    unfold Reg.stepW1
    repeat' split
    all_goals rfl
  payR := fun s => by
    show (Reg.stepR1 s).wpay = s.wpay
    unfold Reg.stepR1
    repeat' split
    all_goals rfl
  accW := fun s => by
    show (if (Reg.stepW1 s).rph = 4 then (Reg.stepW1 s).racc else []) = if s.rph = 4 then s.racc else []
    have e1 : (Reg.stepW1 s).rph = s.rph := by
      unfold Reg.stepW1
      repeat' split
      all_goals rfl
    have e2 : (Reg.stepW1 s).racc = s.racc := by
      unfold Reg.stepW1
      repeat' split
      all_goals rfl
    rw [e1, e2]
  top := by
    rintro s ⟨Y, b0, e0, f0, l0, u, c0, I⟩
    have w0 := I.w0
    refine ⟨?_, ?_, by show s.width + 4 ≤ s.width + 4; omega, by show s.width + 3 ≤ s.width + 4; omega⟩
    · show Reg.wl1 s ≤ s.width + 4
      unfold Reg.wl1
      repeat' split
      all_goals omega
    · show Reg.rl1 s ≤ s.width + 3
      unfold Reg.rl1
      repeat' split
      all_goals omega
  write := by
    rintro CB w f s kw c ⟨kb, rfl, h, hm⟩ hnd ⟨Y, b0, e0, f0, l0, u, c0, I⟩ h40 hl hkw hR
    have hl' : 0 < Reg.wl1 s := hl
    have h5 := I.wl
    have w0 := I.w0
    have hc : s.wph = 1 ∨ s.wph = 2 ∨ s.wph = 3 ∨ s.wph = 4 ∨ s.wph = 5 := by
      rcases Nat.eq_zero_or_pos s.wph with k | k
      · unfold Reg.wl1 at hl'; rw [if_pos k] at hl'; omega
      · omega
    rcases hc with hw | hw | hw | hw | hw
    · have e1 : Reg.wl1 s = s.width + 4 := by simp [Reg.wl1, hw]
      have e2 : Reg.stepW1 s = { s with wph := 2, wp := 1 - s.reading } := by simp [Reg.stepW1, hw]
      have e3 : (D1.WT (D1.m.width s) - D1.m.wl s : Nat) = 0 := by show s.width + 4 - Reg.wl1 s = 0; omega
      have e4 : (Reg.wl1 s == 1) = false := by simp [e1]
      rw [e3]
      refine (four_w0 I.rd h).mono ?_
      rintro E w' ⟨rfl, F, b⟩
      refine ⟨?_, ?_, fr_cb F (by simp)⟩
      · show Ending.returned (.bool false) = .returned (.bool (Reg.wl1 s == 1))
        rw [e4]
      · show K1 _ _ f (Reg.stepW1 s)
        rw [e2]
        exact ⟨kb, rfl, b, k1_own hnd F hm⟩
    · have e1 : Reg.wl1 s = s.width + 3 := by simp [Reg.wl1, hw]
      have e2 : Reg.stepW1 s = { s with wph := 3, wq := 1 - s.slot s.wp, wi := 0 } := by simp [Reg.stepW1, hw]
      have e3 : (D1.WT (D1.m.width s) - D1.m.wl s : Nat) = 1 := by show s.width + 4 - Reg.wl1 s = 1; omega
      have e4 : (Reg.wl1 s == 1) = false := by simp [e1]
      rw [e3]
      refine (four_w1 (I.wpl (by omega)) (I.sl s.wp) h).mono ?_
      rintro E w' ⟨rfl, F, b⟩
      refine ⟨?_, ?_, fr_cb F (by simp)⟩
      · show Ending.returned (.bool false) = .returned (.bool (Reg.wl1 s == 1))
        rw [e4]
      · show K1 _ _ f (Reg.stepW1 s)
        rw [e2]
        exact ⟨kb, rfl, b, k1_own hnd F hm⟩
    · have e1 : Reg.wl1 s = s.width - s.wi + 2 := by simp [Reg.wl1, hw]
      have hi := (I.M3 hw).1
      have hp := I.wpl (by omega)
      have hq := I.wql (by omega)
      have e2 : Reg.stepW1 s = { s with wph := if s.wi + 1 = s.width then 4 else 3, wi := s.wi + 1, mem := Reg.set3 s.mem s.wp s.wq s.wi (s.wpay s.wi) } := by simp [Reg.stepW1, hw]
      have e3 : (D1.WT (D1.m.width s) - D1.m.wl s : Nat) = s.wi + 2 := by show s.width + 4 - Reg.wl1 s = s.wi + 2; omega
      have e4 : (Reg.wl1 s == 1) = false := by simp [e1]
      rw [e3]
      refine (four_w2 hp hq hi h40 h (hR.cell s.wi hi) ((hm s.wp s.wq hp hq).cell s.wi hi) ((hm s.wp s.wq hp hq).fz s.wi)).mono ?_
      rintro E w' ⟨rfl, v, hv, rfl⟩
      refine ⟨?_, ?_, ?_⟩
      · show Ending.returned (.bool false) = .returned (.bool (Reg.wl1 s == 1))
        rw [e4]
      · show K1 _ _ f (Reg.stepW1 s)
        rw [e2]
        refine ⟨kb, rfl, (h.heap (hv.block f h.lt)).other (nd1 hnd hp hq).1.symm _ _, fun p q hp' hq' => ?_⟩
        have hm' := (hm p q hp' hq').heap (hv.block _ (hm p q hp' hq').lt)
        by_cases eb : p = s.wp ∧ q = s.wq
        · obtain ⟨rfl, rfl⟩ := eb
          refine (hm'.set s.wi hi (s.wpay s.wi)).congr (fun j hj => ?_)
          show _ = Reg.set3 s.mem s.wp s.wq s.wi (s.wpay s.wi) s.wp s.wq j
          simp [Reg.set3]
        · refine (hm'.other ((nd1 hnd hp hq).2 p q hp' hq' eb) _ _).congr (fun j hj => ?_)
          show _ = Reg.set3 s.mem s.wp s.wq s.wi (s.wpay s.wi) p q j
          unfold Reg.set3
          rw [if_neg (fun x => eb ⟨x.1, x.2.1⟩)]
      · exact (Fr.of_below hv).more (fr_one (kb s.wp s.wq) s.wi _) (fun k e => by have e' : k = kb s.wp s.wq := e; rw [e']; exact mem1 hp hq)
    · have e1 : Reg.wl1 s = 2 := by simp [Reg.wl1, hw]
      have e2 : Reg.stepW1 s = { s with wph := 5, slot := Reg.set1 s.slot s.wp s.wq } := by simp [Reg.stepW1, hw]
      have e3 : (D1.WT (D1.m.width s) - D1.m.wl s : Nat) = s.width + 2 := by show s.width + 4 - Reg.wl1 s = s.width + 2; omega
      have e4 : (Reg.wl1 s == 1) = false := by simp [e1]
      rw [e3]
      refine (four_w3 (I.wpl (by omega)) h40 h).mono ?_
      rintro E w' ⟨rfl, F, b⟩
      refine ⟨?_, ?_, fr_cb F (by simp)⟩
      · show Ending.returned (.bool false) = .returned (.bool (Reg.wl1 s == 1))
        rw [e4]
      · show K1 _ _ f (Reg.stepW1 s)
        rw [e2]
        exact ⟨kb, rfl, b, k1_own hnd F hm⟩
    · have e1 : Reg.wl1 s = 1 := by simp [Reg.wl1, hw]
      have e2 : Reg.stepW1 s = { s with wph := 0, latest := s.wp } := by simp [Reg.stepW1, hw]
      have e3 : (D1.WT (D1.m.width s) - D1.m.wl s : Nat) = s.width + 3 := by show s.width + 4 - Reg.wl1 s = s.width + 3; omega
      rw [e3]
      refine (four_w4 h40 h).mono ?_
      rintro E w' ⟨rfl, F, b⟩
      refine ⟨?_, ?_, fr_cb F (by simp)⟩
      · show Ending.returned (.bool true) = .returned (.bool (Reg.wl1 s == 1))
        rw [e1]; rfl
      · show K1 _ _ f (Reg.stepW1 s)
        rw [e2]
        exact ⟨kb, rfl, b, k1_own hnd F hm⟩
  read := by
    rintro CB w f s kr c g ⟨kb, rfl, h, hm⟩ hnd ⟨Y, b0, e0, f0, l0, u, c0, I⟩ h40 hl hkr hR hA
    have hl' : 0 < Reg.rl1 s := hl
    have h5 := I.rl
    have w0 := I.w0
    have hkf : kr ≠ f := fun e => hkr (by simp [e])
    have hc : s.rph = 1 ∨ s.rph = 2 ∨ s.rph = 3 ∨ s.rph = 4 := by
      rcases Nat.eq_zero_or_pos s.rph with k | k
      · unfold Reg.rl1 at hl'; rw [if_pos k] at hl'; omega
      · omega
    rcases hc with hw | hw | hw | hw
    · have e1 : Reg.rl1 s = s.width + 3 := by simp [Reg.rl1, hw]
      have e2 : Reg.stepR1 s = { s with rph := 2, rp := s.latest } := by simp [Reg.stepR1, hw]
      have e3 : (D1.RT (D1.m.width s) - D1.m.rl s : Nat) = 0 := by show s.width + 3 - Reg.rl1 s = 0; omega
      have e4 : (Reg.rl1 s == 1) = false := by simp [e1]
      rw [e3]
      refine (four_r0 h).mono ?_
      rintro E w' ⟨rfl, F, b⟩
      refine ⟨?_, ?_, F.imp (fun k e => Or.inl (by have e' : k = f := e; simp [e'])), g, hR.fr F hkf, fun _ i y hy => ?_, fun x => ?_⟩
      · show Ending.returned (.bool false) = .returned (.bool (Reg.rl1 s == 1))
        rw [e4]
      · show K1 _ _ f (Reg.stepR1 s)
        rw [e2]
        exact ⟨kb, rfl, b, k1_own hnd F hm⟩
      · have hy' : (if (Reg.stepR1 s).rph = 4 then (Reg.stepR1 s).racc else [])[i]? = some y := hy
        rw [e2] at hy'
        simp at hy'
      · have x' : Reg.rl1 s = 1 := x
        omega
    · have e1 : Reg.rl1 s = s.width + 2 := by simp [Reg.rl1, hw]
      have e2 : Reg.stepR1 s = { s with rph := 3, reading := s.rp } := by simp [Reg.stepR1, hw]
      have e3 : (D1.RT (D1.m.width s) - D1.m.rl s : Nat) = 1 := by show s.width + 3 - Reg.rl1 s = 1; omega
      have e4 : (Reg.rl1 s == 1) = false := by simp [e1]
      rw [e3]
      refine (four_r1 h).mono ?_
      rintro E w' ⟨rfl, F, b⟩
      refine ⟨?_, ?_, F.imp (fun k e => Or.inl (by have e' : k = f := e; simp [e'])), g, hR.fr F hkf, fun _ i y hy => ?_, fun x => ?_⟩
      · show Ending.returned (.bool false) = .returned (.bool (Reg.rl1 s == 1))
        rw [e4]
      · show K1 _ _ f (Reg.stepR1 s)
        rw [e2]
        exact ⟨kb, rfl, b, k1_own hnd F hm⟩
      · have hy' : (if (Reg.stepR1 s).rph = 4 then (Reg.stepR1 s).racc else [])[i]? = some y := hy
        rw [e2] at hy'
        simp at hy'
      · have x' : Reg.rl1 s = 1 := x
        omega
    · have e1 : Reg.rl1 s = s.width + 1 := by simp [Reg.rl1, hw]
      have e2 : Reg.stepR1 s = { s with rph := 4, rq := s.slot s.rp, ri := 0, racc := [] } := by simp [Reg.stepR1, hw]
      have e3 : (D1.RT (D1.m.width s) - D1.m.rl s : Nat) = 2 := by show s.width + 3 - Reg.rl1 s = 2; omega
      have e4 : (Reg.rl1 s == 1) = false := by simp [e1]; omega
      rw [e3]
      refine (four_r2 (I.rpl (by omega)) h).mono ?_
      rintro E w' ⟨rfl, F, b⟩
      refine ⟨?_, ?_, F.imp (fun k e => Or.inl (by have e' : k = f := e; simp [e'])), g, hR.fr F hkf, fun _ i y hy => ?_, fun x => ?_⟩
      · show Ending.returned (.bool false) = .returned (.bool (Reg.rl1 s == 1))
        rw [e4]
      · show K1 _ _ f (Reg.stepR1 s)
        rw [e2]
        exact ⟨kb, rfl, b, k1_own hnd F hm⟩
      · have hy' : (if (Reg.stepR1 s).rph = 4 then (Reg.stepR1 s).racc else [])[i]? = some y := hy
        rw [e2] at hy'
        simp at hy'
      · have x' : Reg.rl1 s = 1 := x
        omega
    · have e1 : Reg.rl1 s = s.width - s.ri := by simp [Reg.rl1, hw]
      obtain ⟨hi, hr⟩ := I.R hw
      have hp := I.rpl (by omega)
      have hq := I.rql hw
      have e2 : Reg.stepR1 s = { s with rph := if s.ri + 1 = s.width then 0 else 4, ri := s.ri + 1, racc := s.racc ++ [s.mem s.rp s.rq s.ri] } := by simp [Reg.stepR1, hw]
      have e3 : (D1.RT (D1.m.width s) - D1.m.rl s : Nat) = s.ri + 3 := by show s.width + 3 - Reg.rl1 s = s.ri + 3; omega
      have hA' : ∀ i y, s.racc[i]? = some y → g i = y := fun i y hy => hA i y (by show (if s.rph = 4 then s.racc else [])[i]? = some y; rw [if_pos hw]; exact hy)
      have hlen : s.racc.length = s.ri := by rw [hr]; simp
      rw [e3]
      refine (four_r3 hp hq hi h40 h ((hm s.rp s.rq hp hq).cell s.ri hi) (hR.cell s.ri hi) (hR.fz s.ri)).mono ?_
      rintro E w' ⟨rfl, v, hv, rfl⟩
      have hR' := hR.heap (hv.block _ hR.lt)
      refine ⟨?_, ?_, ?_, _, (hR'.set s.ri hi (s.mem s.rp s.rq s.ri)), fun _ i y hy => ?_, fun _ i y hy => ?_⟩
      · show Ending.returned (.bool ((s.ri : Int) == (s.width : Int) - 1)) = .returned (.bool (Reg.rl1 s == 1))
        have : ((s.ri : Int) == (s.width : Int) - 1) = (Reg.rl1 s == 1) := by
          rw [Bool.eq_iff_iff]
          simp [e1]
          omega
        rw [this]
      · show K1 _ _ f (Reg.stepR1 s)
        rw [e2]
        exact ⟨kb, rfl, (h.heap (hv.block f h.lt)).other hkf.symm _ _, fun p q hp' hq' => ((hm p q hp' hq').heap (hv.block _ (hm p q hp' hq').lt)).other (fun e : kb p q = kr => hkr (by rw [← e]; exact mem1 hp' hq')) _ _⟩
      · exact (Fr.of_below hv).more (fr_one kr s.ri _) (fun k e => Or.inr e)
      · have hy' : (if (Reg.stepR1 s).rph = 4 then (Reg.stepR1 s).racc else [])[i]? = some y := hy
        rw [e2] at hy'
        dsimp only at hy'
        by_cases hz : s.ri + 1 = s.width
        · simp [hz] at hy'
        · rw [if_neg hz, if_pos rfl] at hy'
          exact snoc_at hlen hA' hy'
      · exact snoc_at hlen hA' hy

end Go.Proofs.YtgaepakdhdfdfaaDoor
