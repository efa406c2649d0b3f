/-
  The cells of kind 3: one word.
-/
import Derived.Test.YtgaepakdhdfdfaaDoorVc
namespace Go.Proofs.YtgaepakdhdfdfaaDoor
open Go.RowKit

def K3 : KK Reg.Q3 := fun CB w f s => CB = [f] ∧ Bk w f #[.int .u64 (s.val : Nat)] 100
def D3 : Kd Reg.Q3 where
  m := Reg.mach3
  K := K3
  WT := fun _ => 1
  RT := fun _ => 1
  pay := fun s _ => s.wval
  acc := fun _ => []

set_option maxRecDepth 100000 in
set_option maxHeartbeats 2000000 in
theorem one_write {w : World} {f kw c n : Nat} {d : Int} {x y : Nat} (h : Bk w f #[.int .u64 (x : Nat)] 100) (hn : 0 < n) (hp : w.cell? ⟨kw, 0, none⟩ = some (.int .u64 (y : Nat))) :
    Calls Tryd.prog 64 #[.pointer (some ⟨f, 0, none⟩), .int .i64 d, slV kw n c] w fun E w' => E = .returned (.bool true) ∧ Fr (fun k => k = f) w w' ∧ Bk w' f #[.int .u64 (y : Nat)] 100 := by
  have HB : Hid (Bk w f #[.int .u64 (x : Nat)] 100) := h
  have h0 : (0 : Int) < (n : Int) := by omega
  clear h
  go_enter Tryd.func64, Tryd.ntmps64
  go_wp2_with fail
  go_region_with (go_at_call 34; refine (store64_any (w := w.drew) f 0 _ (HB.out.cell 0) (HB.out.fz 0)).mono ?_; rintro E w1 ⟨rfl, hw1⟩; have HW : Hid (w1 = w.drew.setCell ⟨f, 0, none⟩ (.int .u64 (y : Nat))) := hw1; clear hw1)
  all_goals go_wp2_with fail
  all_goals go_ret
  all_goals (rw [HW.out]; exact ⟨rfl, (Fr.draw (Fr.refl _ _)).more (fr_one f 0 _) (fun _ e => e), HB.out.drew.set 0 _⟩)
set_option maxRecDepth 100000 in
set_option maxHeartbeats 2000000 in
theorem one_read {w : World} {f kr c n : Nat} {d : Int} {x : Nat} {u : Value} (h : Bk w f #[.int .u64 (x : Nat)] 100) (hn : 0 < n) (hp : w.cell? ⟨kr, 0, none⟩ = some u) (hz : w.frozen? ⟨kr, 0, none⟩ = false) :
    Calls Tryd.prog 63 #[.pointer (some ⟨f, 0, none⟩), .int .i64 d, slV kr n c] w fun E w' => E = .returned (.bool true) ∧ w' = w.setCell ⟨kr, 0, none⟩ (.int .u64 (x : Nat)) := by
  have HB : Hid (Bk w f #[.int .u64 (x : Nat)] 100) := h
  have h0 : (0 : Int) < (n : Int) := by omega
  clear h
  go_enter Tryd.func63, Tryd.ntmps63
  go_wp2_with fail
  refine (load64_any f 0 _ (HB.out.cell 0)).mono ?_
  rintro E w1 ⟨rfl, rfl⟩
  go_wp2_with fail
  go_ret
  exact ⟨rfl, rfl⟩

theorem cc3 : Cc D3 64 63 where
  wt0 := fun _ => by show 1 ≠ 0; decide
  rt0 := fun _ => by show 1 ≠ 0; decide
  kept := by
    rintro CB w w' f s ⟨rfl, h⟩ hk
    exact ⟨rfl, h.heap (hk f (by simp))⟩
  lt := by
    rintro CB w f s ⟨rfl, h⟩ k hk
    simp at hk; subst hk; exact h.lt
  begW := by
    rintro CB w f s v ⟨rfl, h⟩ h0
    refine ⟨⟨rfl, h⟩, fun i hi => ?_, rfl, rfl, rfl, rfl⟩
    have hi' : i < 1 := hi
    obtain rfl : i = 0 := by omega
    rfl
  begR := by
    rintro CB w f s ⟨rfl, h⟩ h0
    exact ⟨⟨rfl, h⟩, rfl, rfl, rfl, rfl, rfl⟩
  payW := fun _ => rfl
  payR := fun _ => rfl
  accW := fun _ => rfl
  top := by
    rintro s _
    refine ⟨?_, ?_, by show 1 ≤ 1 + 4; decide, by show 1 ≤ 1 + 4; decide⟩
    · show (if s.wph = 0 then 0 else 1) ≤ 1
      split <;> omega
    · show (if s.rph = 0 then 0 else 1) ≤ 1
      split <;> omega
  write := by
    rintro CB w f s kw c ⟨rfl, h⟩ _ _ _ hl hkw hR
    have e1 : (if s.wph = 0 then 0 else 1) = 1 := by
      have hl' : 0 < (if s.wph = 0 then 0 else 1) := hl
      split at hl'
      · omega
      · rename_i hc; rw [if_neg hc]
    have e2 : D3.m.wl s = 1 := e1
    refine (one_write h (by show 0 < 1; decide) (hR.cell 0 (by show 0 < 1; decide))).mono ?_
    rintro E w' ⟨rfl, F, b⟩
    refine ⟨by rw [e2]; rfl, ⟨rfl, b⟩, ?_⟩
    exact ⟨F.os, F.tape, F.output, F.size, fun k h1 h2 => F.block k h1 (fun e => h2 (by have e' : k = f := e; simp [e']))⟩
  read := by
    rintro CB w f s kr c g ⟨rfl, h⟩ _ _ _ hl hkr hR hg
    have e1 : (if s.rph = 0 then 0 else 1) = 1 := by
      have hl' : 0 < (if s.rph = 0 then 0 else 1) := hl
      split at hl'
      · omega
      · rename_i hc; rw [if_neg hc]
    have e2 : D3.m.rl s = 1 := e1
    refine (one_read h (by show 0 < 1; decide) (hR.cell 0 (by show 0 < 1; decide)) (hR.fz 0)).mono ?_
    rintro E w' ⟨rfl, rfl⟩
    have hne : f ≠ kr := fun e => hkr (by simp [e])
    refine ⟨by rw [e2]; rfl, ⟨rfl, h.other hne 0 _⟩, ?_, _, hR.set 0 (by show 0 < 1; decide) _, fun x => by omega, fun _ i y hy => ?_⟩
    · exact (fr_one kr 0 _).imp (fun k e => Or.inr e)
    · have hy' : [s.val][i]? = some y := hy
      match i, hy' with
      | 0, hy' => simp at hy'; simp [hy']

end Go.Proofs.YtgaepakdhdfdfaaDoor
