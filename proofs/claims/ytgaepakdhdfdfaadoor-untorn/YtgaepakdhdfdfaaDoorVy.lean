/-
  The cells of kind 2: three buffers.
-/
import Derived.Test.YtgaepakdhdfdfaaDoorVx
namespace Go.Proofs.YtgaepakdhdfdfaaDoor
open Go.RowKit

def K2 : KK Reg.Q2 := fun CB w f s => ∃ kb : Nat → Nat, ∃ gv : Nat, CB = [f, kb 0, kb 1, kb 2] ∧ Bk w f (blk2 s.width kb (.int .u32 ((if s.fresh = true then s.mb else 3 : Nat) : Int)) (.int .u32 (s.wb : Nat)) (.int .u32 (gv : Nat)) (.int .u32 (s.rb : Nat))) 94 ∧
  (∀ b, b < 3 → Rw w (kb b) s.width (s.mem b)) ∧ gv = if s.fresh = true then s.mb else s.rb
def D2 : Kd Reg.Q2 where
  m := Reg.mach2
  K := K2
  WT := fun n => n + 1
  RT := fun n => n + 1
  pay := Reg.Q2.wpay
  acc := fun s => if s.rph = 2 then s.racc else []

theorem mem2 {f : Nat} {kb : Nat → Nat} {b : Nat} (hb : b < 3) : kb b ∈ [f, kb 0, kb 1, kb 2] := by
  rcases (by omega : b = 0 ∨ b = 1 ∨ b = 2) with rfl | rfl | rfl <;> simp
theorem nd2 {f : Nat} {kb : Nat → Nat} (h : [f, kb 0, kb 1, kb 2].Nodup) {b : Nat} (hb : b < 3) : kb b ≠ f ∧ ∀ c, c < 3 → c ≠ b → kb c ≠ kb b := by
  simp at h
  refine ⟨?_, fun c hc hne => ?_⟩
  · rcases (by omega : b = 0 ∨ b = 1 ∨ b = 2) with rfl | rfl | rfl <;> omega
  · rcases (by omega : b = 0 ∨ b = 1 ∨ b = 2) with rfl | rfl | rfl <;> rcases (by omega : c = 0 ∨ c = 1 ∨ c = 2) with rfl | rfl | rfl <;> omega
theorem snoc_at {A : List Nat} {x y : Nat} {g : Nat → Nat} {n : Nat} (hn : A.length = n) (hg : ∀ i y, A[i]? = some y → g i = y) {i : Nat} (h : (A ++ [x])[i]? = some y) : (if i = n then x else g i) = y := by
  by_cases e : i = n
  · rw [if_pos e]
    subst hn
    rw [e] at h
    simpa using h
  · rw [if_neg e]
    refine hg i y ?_
    rcases Nat.lt_or_ge i A.length with c | c
    · rwa [List.getElem?_append_left c] at h
    · have hl := (List.getElem?_eq_some_iff.1 h).1
      simp at hl
      omega

set_option maxHeartbeats 2000000 in
theorem three_write {w : World} {f n kw c : Nat} {kb : Nat → Nat} {x wv gv rv : Value} {E0 : World → Prop} (hg : Calls Tryd.prog 57 #[.pointer (some ⟨f, 0, none⟩)] w fun E w' => E = .returned (.tuple #[]) ∧ E0 w') (_h : Bk w f (blk2 n kb x wv gv rv) 94) :
    Calls Tryd.prog 59 #[.pointer (some ⟨f, 0, none⟩), .int .i64 (n : Nat), slV kw n c] w fun E w' => E = .returned (.bool true) ∧ E0 w' := by
  have HG : Hid (Calls Tryd.prog 57 #[.pointer (some ⟨f, 0, none⟩)] w fun E w' => E = .returned (.tuple #[]) ∧ E0 w') := hg
  clear hg
  go_enter Tryd.func59, Tryd.ntmps59
  go_wp2_with fail
  refine HG.out.mono ?_
  rintro E w1 ⟨rfl, h1⟩
  have H1 : Hid (E0 w1) := h1
  clear h1
  go_wp2_with fail
  go_ret
  exact ⟨rfl, H1.out⟩
set_option maxHeartbeats 2000000 in
theorem three_take {w : World} {f n kr c : Nat} {E0 : World → Prop} (hg : Calls Tryd.prog 60 #[.pointer (some ⟨f, 0, none⟩)] w fun E w' => E = .returned (.tuple #[]) ∧ E0 w') :
    Calls Tryd.prog 58 #[.pointer (some ⟨f, 0, none⟩), .int .i64 0, slV kr n c] w fun E w' => E = .returned (.bool false) ∧ E0 w' := by
  have HG : Hid (Calls Tryd.prog 60 #[.pointer (some ⟨f, 0, none⟩)] w fun E w' => E = .returned (.tuple #[]) ∧ E0 w') := hg
  clear hg
  go_enter Tryd.func58, Tryd.ntmps58
  go_wp2_with fail
  refine HG.out.mono ?_
  rintro E w1 ⟨rfl, h1⟩
  have H1 : Hid (E0 w1) := h1
  clear h1
  go_wp2_with fail
  go_ret
  exact ⟨rfl, H1.out⟩

theorem fr_cb {f : Nat} {L : List Nat} {w w' : World} (F : Fr (fun k => k = f) w w') (hf : f ∈ L) : Fr (fun k => k ∈ L) w w' := F.imp (fun k e => by have e' : k = f := e; rw [e']; exact hf)

theorem cc2 : Cc D2 59 58 where
  wt0 := fun n => by show n + 1 ≠ 0; omega
  rt0 := fun n => by show n + 1 ≠ 0; omega
  kept := by
    rintro CB w w' f s ⟨kb, gv, rfl, h, hm, hg⟩ hk
    exact ⟨kb, gv, rfl, h.heap (hk f (by simp)), fun b hb => (hm b hb).heap (hk _ (mem2 hb)), hg⟩
  lt := by
    rintro CB w f s ⟨kb, gv, rfl, h, hm, hg⟩ k hk
    simp at hk
    rcases hk with rfl | rfl | rfl | rfl
    · exact h.lt
    · exact (hm 0 (by omega)).lt
    · exact (hm 1 (by omega)).lt
    · exact (hm 2 (by omega)).lt
  begW := by
    rintro CB w f s v ⟨kb, gv, rfl, h, hm, hg⟩ h0
    exact ⟨⟨kb, gv, rfl, h, hm, hg⟩, fun i hi => rfl, rfl, rfl, rfl, rfl⟩
  begR := by
    rintro CB w f s ⟨kb, gv, rfl, h, hm, hg⟩ h0
    exact ⟨⟨kb, gv, rfl, h, hm, hg⟩, rfl, rfl, rfl, rfl, rfl⟩
  payW := fun s => by show (Reg.stepW2 s).wpay = s.wpay; unfold Reg.stepW2; split <;> rfl
  payR := fun s => by
    show (Reg.stepR2 s).wpay = s.wpay
    unfold Reg.stepR2
    split
    · split <;> rfl
    · rfl
  accW := fun s => by
    show (if (Reg.stepW2 s).rph = 2 then (Reg.stepW2 s).racc else []) = if s.rph = 2 then s.racc else []
    unfold Reg.stepW2
    split <;> rfl
  top := by
    rintro s _
    refine ⟨?_, ?_, by show s.width + 1 ≤ s.width + 4; omega, by show s.width + 1 ≤ s.width + 4; omega⟩
    · show Reg.wl2 s ≤ s.width + 1
      unfold Reg.wl2
      split
      · omega
      · split <;> omega
    · show Reg.rl2 s ≤ s.width + 1
      unfold Reg.rl2
      split
      · omega
      · split <;> omega
  write := by
    rintro CB w f s kw c ⟨kb, gv, rfl, h, hm, hg⟩ hnd ⟨Y, b0, e0, f0, l0, c0, I⟩ h40 hl hkw hR
    have hl' : 0 < Reg.wl2 s := hl
    have h5 := I.wl
    have t1 := I.t1
    have hc : s.wph = 1 ∨ s.wph = 2 := by
      rcases Nat.eq_zero_or_pos s.wph with k | k
      · unfold Reg.wl2 at hl'; rw [if_pos k] at hl'; omega
      · omega
    rcases hc with hw | hw
    · have e1 : Reg.wl2 s = s.width - s.wi + 1 := by simp [Reg.wl2, hw]
      have hi := (I.M1 hw).1
      have e2 : Reg.stepW2 s = { s with wph := if s.wi + 1 = s.width then 2 else 1, wi := s.wi + 1, mem := Reg.set2 s.mem s.wb s.wi (s.wpay s.wi) } := by simp [Reg.stepW2, hw]
      have e3 : (D2.WT (D2.m.width s) - D2.m.wl s : Nat) = s.wi := by show s.width + 1 - Reg.wl2 s = s.wi; omega
      rw [e3]
      refine (three_word t1 h hi (hR.cell s.wi hi) ((hm s.wb t1).cell s.wi hi) ((hm s.wb t1).fz s.wi)).mono ?_
      rintro E w' ⟨rfl, rfl⟩
      refine ⟨?_, ?_, ?_⟩
      · show Ending.returned (.bool false) = .returned (.bool (Reg.wl2 s == 1))
        have : (Reg.wl2 s == 1) = false := by simp [e1]; omega
        rw [this]
      · show K2 _ _ f (Reg.stepW2 s)
        rw [e2]
        refine ⟨kb, gv, rfl, h.other (nd2 hnd t1).1.symm _ _, fun b hb => ?_, hg⟩
        by_cases eb : b = s.wb
        · subst eb
          refine ((hm s.wb hb).set s.wi hi (s.wpay s.wi)).congr (fun j hj => ?_)
          show _ = Reg.set2 s.mem s.wb s.wi (s.wpay s.wi) s.wb j
          simp [Reg.set2]
        · refine ((hm b hb).other ((nd2 hnd t1).2 b hb eb) _ _).congr (fun j hj => ?_)
          show _ = Reg.set2 s.mem s.wb s.wi (s.wpay s.wi) b j
          simp [Reg.set2, eb]
      · exact Fr.draw ((fr_one (kb s.wb) s.wi _).imp (fun k e => by have e' : k = kb s.wb := e; rw [e']; exact mem2 t1))
    · have e1 : Reg.wl2 s = 1 := by simp [Reg.wl2, hw]
      have e2 : Reg.stepW2 s = { s with wph := 0, wb := s.mb, mb := s.wb, fresh := true } := by simp [Reg.stepW2, hw]
      have e3 : (D2.WT (D2.m.width s) - D2.m.wl s : Nat) = s.width := by show s.width + 1 - Reg.wl2 s = s.width; omega
      rw [e3]
      have key : Calls Tryd.prog 57 #[.pointer (some ⟨f, 0, none⟩)] w fun E w' => E = .returned (.tuple #[]) ∧ (Fr (fun k => k = f) w w' ∧ Bk w' f (blk2 s.width kb (.int .u32 (s.wb : Nat)) (.int .u32 (s.mb : Nat)) (.int .u32 (s.wb : Nat)) (.int .u32 (s.rb : Nat))) 94) := by
        by_cases hf : s.fresh = true
        · rw [if_pos hf] at h
          exact give_fresh I.t2 h
        · rw [if_neg hf] at h hg
          subst hg
          have n1 := I.n1
          have n2 := I.n2
          have n3 := I.n3
          have t2 := I.t2
          have t3 := I.t3
          exact give_old (by omega) t1 t3 n2 h
      refine (three_write key h).mono ?_
      rintro E w' ⟨rfl, F, b⟩
      refine ⟨?_, ?_, fr_cb F (by simp)⟩
      · show Ending.returned (.bool true) = .returned (.bool (Reg.wl2 s == 1))
        rw [e1]; rfl
      · show K2 _ _ f (Reg.stepW2 s)
        rw [e2]
        exact ⟨kb, s.wb, rfl, b, fun b hb => (hm b hb).fr F (nd2 hnd hb).1, rfl⟩
  read := by
    rintro CB w f s kr c g ⟨kb, gv, rfl, h, hm, hg⟩ hnd ⟨Y, b0, e0, f0, l0, c0, I⟩ h40 hl hkr hR hA
    have hl' : 0 < Reg.rl2 s := hl
    have h5 := I.rl
    have t3 := I.t3
    have hc : s.rph = 1 ∨ s.rph = 2 := by
      rcases Nat.eq_zero_or_pos s.rph with k | k
      · unfold Reg.rl2 at hl'; rw [if_pos k] at hl'; omega
      · omega
    rcases hc with hw | hw
    · have e1 : Reg.rl2 s = s.width + 1 := by simp [Reg.rl2, hw]
      have e3 : (D2.RT (D2.m.width s) - D2.m.rl s : Nat) = 0 := by show s.width + 1 - Reg.rl2 s = 0; omega
      have w0 := I.w0
      rw [e3]
      have hne : (Reg.rl2 s == 1) = false := by simp [e1]; omega
      have hkf : kr ≠ f := fun e => hkr (by simp [e])
      by_cases hf : s.fresh = true
      · have e2 : Reg.stepR2 s = { s with rph := 2, mb := s.rb, rb := s.mb, fresh := false, ri := 0, racc := [] } := by simp [Reg.stepR2, hw, hf]
        rw [if_pos hf] at h hg
        subst hg
        refine (three_take (take_fresh I.t2 h)).mono ?_
        rintro E w' ⟨rfl, F, b⟩
        refine ⟨?_, ?_, F.imp (fun k e => Or.inl (by have e' : k = f := e; simp [e'])), g, hR.fr F hkf, fun _ i y hy => ?_, fun x => ?_⟩
        · show Ending.returned (.bool false) = .returned (.bool (Reg.rl2 s == 1))
          rw [hne]
        · show K2 _ _ f (Reg.stepR2 s)
          rw [e2]
          exact ⟨kb, s.mb, rfl, b, fun b hb => (hm b hb).fr F (nd2 hnd hb).1, rfl⟩
        · have hy' : (if (Reg.stepR2 s).rph = 2 then (Reg.stepR2 s).racc else [])[i]? = some y := hy
          rw [e2] at hy'
          simp at hy'
        · have x' : Reg.rl2 s = 1 := x
          omega
      · have e2 : Reg.stepR2 s = { s with rph := 2, ri := 0, racc := [] } := by simp [Reg.stepR2, hw, hf]
        rw [if_neg hf] at h hg
        subst hg
        refine (three_take (take_old h)).mono ?_
        rintro E w' ⟨rfl, F, b⟩
        refine ⟨?_, ?_, F.imp (fun k e => Or.inl (by have e' : k = f := e; simp [e'])), g, hR.fr F hkf, fun _ i y hy => ?_, fun x => ?_⟩
        · show Ending.returned (.bool false) = .returned (.bool (Reg.rl2 s == 1))
          rw [hne]
        · show K2 _ _ f (Reg.stepR2 s)
          rw [e2]
          refine ⟨kb, s.rb, rfl, ?_, fun b hb => (hm b hb).fr F (nd2 hnd hb).1, (if_neg hf).symm⟩
          show Bk w' f (blk2 s.width kb (.int .u32 ((if s.fresh = true then s.mb else 3 : Nat) : Int)) _ _ _) _
          rw [if_neg hf]
          exact b
        · have hy' : (if (Reg.stepR2 s).rph = 2 then (Reg.stepR2 s).racc else [])[i]? = some y := hy
          rw [e2] at hy'
          simp at hy'
        · have x' : Reg.rl2 s = 1 := x
          omega
    · have e1 : Reg.rl2 s = s.width - s.ri := by simp [Reg.rl2, hw]
      obtain ⟨hi, hr⟩ := I.R hw
      have e2 : Reg.stepR2 s = { s with rph := if s.ri + 1 = s.width then 0 else 2, ri := s.ri + 1, racc := s.racc ++ [s.mem s.rb s.ri] } := by simp [Reg.stepR2, hw]
      have e3 : (D2.RT (D2.m.width s) - D2.m.rl s : Nat) = s.ri + 1 := by show s.width + 1 - Reg.rl2 s = s.ri + 1; omega
      have hA' : ∀ i y, s.racc[i]? = some y → g i = y := fun i y hy => hA i y (by show (if s.rph = 2 then s.racc else [])[i]? = some y; rw [if_pos hw]; exact hy)
      have hlen : s.racc.length = s.ri := by rw [hr]; simp
      have hkf : kr ≠ f := fun e => hkr (by simp [e])
      rw [e3]
      refine (three_get t3 h h40 hi ((hm s.rb t3).cell s.ri hi) (hR.cell s.ri hi) (hR.fz s.ri)).mono ?_
      rintro E w' ⟨rfl, rfl⟩
      refine ⟨?_, ?_, ?_, _, (hR.set s.ri hi (s.mem s.rb s.ri)), fun _ i y hy => ?_, fun _ i y hy => ?_⟩
      · show Ending.returned (.bool (((s.ri : Int) + 1) == (s.width : Int))) = .returned (.bool (Reg.rl2 s == 1))
        have : (((s.ri : Int) + 1) == (s.width : Int)) = (Reg.rl2 s == 1) := by
          rw [Bool.eq_iff_iff]
          simp [e1]
          omega
        rw [this]
      · show K2 _ _ f (Reg.stepR2 s)
        rw [e2]
        exact ⟨kb, gv, rfl, h.other hkf.symm _ _, fun b hb => (hm b hb).other (fun e : kb b = kr => hkr (by rw [← e]; exact mem2 hb)) _ _, hg⟩
      · exact Fr.draw ((fr_one kr s.ri _).imp (fun k e => Or.inr e))
      · have hy' : (if (Reg.stepR2 s).rph = 2 then (Reg.stepR2 s).racc else [])[i]? = some y := hy
        rw [e2] at hy'
        dsimp only at hy'
        by_cases hz : s.ri + 1 = s.width
        · simp [hz] at hy'
        · rw [if_neg hz, if_pos rfl] at hy'
          exact snoc_at hlen hA' hy'
      · exact snoc_at hlen hA' hy

end Go.Proofs.YtgaepakdhdfdfaaDoor
