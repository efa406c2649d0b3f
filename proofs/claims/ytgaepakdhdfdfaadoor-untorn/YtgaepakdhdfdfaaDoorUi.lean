/-
  The two laws, walked, by what package reg must do.
-/
import Derived.Test.YtgaepakdhdfdfaaDoorUh
namespace Go.Proofs.YtgaepakdhdfdfaaDoor
open Go.RowKit

theorem Rg.up {a : Nat → Addr} {B B' : Nat} {w : World} (h : Rg a B w) (h1 : B ≤ B') (h2 : B' ≤ w.heap.size) : Rg a B' w :=
  ⟨Nat.le_trans h.low h1, h2, h.e1, h.e2, h.e3, h.e4, h.ne, fun i x y => ⟨Nat.lt_of_lt_of_le (h.row i x y).1 h1, (h.row i x y).2⟩⟩
set_option maxHeartbeats 2000000 in
theorem untorn_any {J : RJ} {a : Nat → Addr} (S : ∀ B, Spec J a B) (w : World) (R : Rg a w.heap.size w) (p : Option Addr) (n c : Nat) (hn : n ≤ 4398046511103) (hs : Sc w p n) :
    Calls Tryd.prog 3 #[.slice p n c] w fun E w' => E = .returned (.bool true) ∧ Below w.heap.size w w' := by
  have HS : Hid (∀ B, Spec J a B) := S
  have HR : Hid (Rg a w.heap.size w) := R
  have HC : Hid (Sc w p n) := hs
  clear S R hs
  go_enter Tryd.func3, Tryd.ntmps3
  go_wp2_with fail
  refine (handed_any w (HS.out _) HR.out).mono ?_
  rintro E w1 ⟨rfl, hb1⟩
  have HB1 : Hid (Below w.heap.size w w1) := hb1
  clear hb1
  go_wp2_with fail
  refine (handing_any w1 (HS.out _) ((HR.out.below HB1.out).up HB1.out.size (Nat.le_refl _)) p n c hn (HC.out.fr (Fr.of_below (own := fun _ => False) HB1.out) (fun _ e => e))).mono ?_
  rintro E w2 ⟨hb2, hb, q, b, e, f, l, rfl, H⟩
  have HB2 : Hid (Below w.heap.size w w2) := below_step HB1.out hb2
  have c5 := H.c5
  clear hb2 H
  go_wp2
  go_ret
  exact ⟨rfl, HB2.out⟩
set_option maxHeartbeats 2000000 in
theorem fresh_any {J : RJ} {a : Nat → Addr} (S : ∀ B, Spec J a B) (w : World) (R : Rg a w.heap.size w) (p : Option Addr) (n c : Nat) (hn : n ≤ 4398046511103) (hs : Sc w p n) :
    Calls Tryd.prog 4 #[.slice p n c] w fun E w' => E = .returned (.bool true) ∧ Below w.heap.size w w' := by
  have HS : Hid (∀ B, Spec J a B) := S
  have HR : Hid (Rg a w.heap.size w) := R
  have HC : Hid (Sc w p n) := hs
  clear S R hs
  go_enter Tryd.func4, Tryd.ntmps4
  go_wp2_with fail
  refine (handed_any w (HS.out _) HR.out).mono ?_
  rintro E w1 ⟨rfl, hb1⟩
  have HB1 : Hid (Below w.heap.size w w1) := hb1
  clear hb1
  go_wp2_with fail
  refine (handing_any w1 (HS.out _) ((HR.out.below HB1.out).up HB1.out.size (Nat.le_refl _)) p n c hn (HC.out.fr (Fr.of_below (own := fun _ => False) HB1.out) (fun _ e => e))).mono ?_
  rintro E w2 ⟨hb2, hb, q, b, e, f, l, rfl, H⟩
  have HB2 : Hid (Below w.heap.size w w2) := below_step HB1.out hb2
  have c5 := H.c6
  clear hb2 H
  go_wp2
  go_ret
  exact ⟨rfl, HB2.out⟩

end Go.Proofs.YtgaepakdhdfdfaaDoor
