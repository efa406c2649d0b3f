/-
  The cells of kind 2: three buffers: the walks.
-/
import Derived.Test.YtgaepakdhdfdfaaDoorVc
namespace Go.Proofs.YtgaepakdhdfdfaaDoor
open Go.RowKit

abbrev blk2 (n : Nat) (kb : Nat → Nat) (x wb gv rb : Value) : Array Value := #[x, slV (kb 0) n n, slV (kb 1) n n, slV (kb 2) n n, wb, gv, rb]
set_option maxRecDepth 100000 in
set_option maxHeartbeats 4000000 in
theorem three_word {w : World} {f n d kw c : Nat} {kb : Nat → Nat} {x gv rv u : Value} {b y : Nat} (hb : b < 3) (h : Bk w f (blk2 n kb x (.int .u32 (b : Nat)) gv rv) 94) (hd : d < n) (hp : w.cell? ⟨kw, d, none⟩ = some (.int .u64 (y : Nat))) (hc : w.cell? ⟨kb b, d, none⟩ = some u) (hz : w.frozen? ⟨kb b, d, none⟩ = false) :
    Calls Tryd.prog 59 #[.pointer (some ⟨f, 0, none⟩), .int .i64 (d : Nat), slV kw n c] w fun E w' => E = .returned (.bool false) ∧ w' = (w.setCell ⟨kb b, d, none⟩ (.int .u64 (y : Nat))).drew := by
  have c1 : w.cell? ⟨f, 1, none⟩ = some (slV (kb 0) n n) := h.cell 1
  have c2 : w.cell? ⟨f, 2, none⟩ = some (slV (kb 1) n n) := h.cell 2
  have c3 : w.cell? ⟨f, 3, none⟩ = some (slV (kb 2) n n) := h.cell 3
  have c4 : w.cell? ⟨f, 4, none⟩ = some (.int .u32 (b : Nat)) := h.cell 4
  have hd' : (d : Int) < (n : Int) := by omega
  clear h
  rcases (by omega : b = 0 ∨ b = 1 ∨ b = 2) with rfl | rfl | rfl
  all_goals go_enter Tryd.func59, Tryd.ntmps59
  all_goals go_wp2_with fail
  all_goals go_region
  all_goals go_wp2_with fail
  all_goals go_ret
  all_goals exact ⟨rfl, rfl⟩
set_option maxRecDepth 100000 in
set_option maxHeartbeats 4000000 in
theorem three_get {w : World} {f n d kr c : Nat} {kb : Nat → Nat} {x wv gv u : Value} {b y : Nat} (hb : b < 3) (h : Bk w f (blk2 n kb x wv gv (.int .u32 (b : Nat))) 94) (hn : n ≤ 40) (hd : d < n) (hp : w.cell? ⟨kb b, d, none⟩ = some (.int .u64 (y : Nat))) (hc : w.cell? ⟨kr, d, none⟩ = some u) (hz : w.frozen? ⟨kr, d, none⟩ = false) :
    Calls Tryd.prog 58 #[.pointer (some ⟨f, 0, none⟩), .int .i64 ((d + 1 : Nat) : Int), slV kr n c] w fun E w' => E = .returned (.bool (((d : Int) + 1) == (n : Int))) ∧ w' = (w.setCell ⟨kr, d, none⟩ (.int .u64 (y : Nat))).drew := by
  have c1 : w.cell? ⟨f, 1, none⟩ = some (slV (kb 0) n n) := h.cell 1
  have c2 : w.cell? ⟨f, 2, none⟩ = some (slV (kb 1) n n) := h.cell 2
  have c3 : w.cell? ⟨f, 3, none⟩ = some (slV (kb 2) n n) := h.cell 3
  have c6 : w.cell? ⟨f, 6, none⟩ = some (.int .u32 (b : Nat)) := h.cell 6
  have hd' : (d : Int) < (n : Int) := by omega
  clear h
  rcases (by omega : b = 0 ∨ b = 1 ∨ b = 2) with rfl | rfl | rfl
  all_goals go_enter Tryd.func58, Tryd.ntmps58
  all_goals go_wp2_with fail
  all_goals go_region
  all_goals go_wp2_with fail
  all_goals go_ret
  all_goals exact ⟨rfl, rfl⟩
set_option maxRecDepth 100000 in
set_option maxHeartbeats 4000000 in
theorem take_fresh {w : World} {f n : Nat} {kb : Nat → Nat} {wv gv rv : Value} {m : Nat} (hm : m < 3) (h : Bk w f (blk2 n kb (.int .u32 (m : Nat)) wv gv rv) 94) :
    Calls Tryd.prog 60 #[.pointer (some ⟨f, 0, none⟩)] w fun E w' => E = .returned (.tuple #[]) ∧ Fr (fun k => k = f) w w' ∧ Bk w' f (blk2 n kb (.int .u32 3) wv gv (.int .u32 (m : Nat))) 94 := by
  have HB : Hid (Bk w f (blk2 n kb (.int .u32 (m : Nat)) wv gv rv) 94) := h
  have hne : ((m : Nat) : Int) ≠ 3 := by omega
  clear h
  go_enter Tryd.func60, Tryd.ntmps60
  go_wp2_with fail
  refine (swap32_any f 0 _ _ (HB.out.cell 0) (HB.out.fz 0)).mono ?_
  rintro E w1 ⟨rfl, rfl⟩
  have c6 : w.cell? ⟨f, 6, none⟩ = some rv := HB.out.cell 6
  have z6 : w.frozen? ⟨f, 6, none⟩ = false := HB.out.fz 6
  go_wp2_with fail
  all_goals go_end0
  all_goals exact ⟨rfl, (fr_one f 0 _).more (fr_one f 6 _) (fun _ e => e), (HB.out.set 0 _).set 6 _⟩
set_option maxRecDepth 100000 in
set_option maxHeartbeats 4000000 in
theorem take_old {w : World} {f n : Nat} {kb : Nat → Nat} {wv gv rv : Value} (h : Bk w f (blk2 n kb (.int .u32 3) wv gv rv) 94) :
    Calls Tryd.prog 60 #[.pointer (some ⟨f, 0, none⟩)] w fun E w' => E = .returned (.tuple #[]) ∧ Fr (fun k => k = f) w w' ∧ Bk w' f (blk2 n kb (.int .u32 3) wv gv rv) 94 := by
  have HB : Hid (Bk w f (blk2 n kb (.int .u32 3) wv gv rv) 94) := h
  clear h
  go_enter Tryd.func60, Tryd.ntmps60
  go_wp2_with fail
  refine (swap32_any f 0 _ _ (HB.out.cell 0) (HB.out.fz 0)).mono ?_
  rintro E w1 ⟨rfl, rfl⟩
  go_wp2_with fail
  all_goals go_end0
  all_goals exact ⟨rfl, fr_one f 0 _, HB.out.set 0 _⟩
set_option maxRecDepth 100000 in
set_option maxHeartbeats 4000000 in
theorem give_fresh {w : World} {f n : Nat} {kb : Nat → Nat} {gv rv : Value} {m b : Nat} (hm : m < 3) (h : Bk w f (blk2 n kb (.int .u32 (m : Nat)) (.int .u32 (b : Nat)) gv rv) 94) :
    Calls Tryd.prog 57 #[.pointer (some ⟨f, 0, none⟩)] w fun E w' => E = .returned (.tuple #[]) ∧ Fr (fun k => k = f) w w' ∧ Bk w' f (blk2 n kb (.int .u32 (b : Nat)) (.int .u32 (m : Nat)) (.int .u32 (b : Nat)) rv) 94 := by
  have HB : Hid (Bk w f (blk2 n kb (.int .u32 (m : Nat)) (.int .u32 (b : Nat)) gv rv) 94) := h
  have hne : ((m : Nat) : Int) ≠ 3 := by omega
  have c4 : w.cell? ⟨f, 4, none⟩ = some (.int .u32 (b : Nat)) := h.cell 4
  have c5 : w.cell? ⟨f, 5, none⟩ = some gv := h.cell 5
  have z4 : w.frozen? ⟨f, 4, none⟩ = false := h.fz 4
  have z5 : w.frozen? ⟨f, 5, none⟩ = false := h.fz 5
  clear h
  go_enter Tryd.func57, Tryd.ntmps57
  go_wp2_with fail
  go_region_with (go_at_call 61; refine (swap32_any (w := w.drew) f 0 _ _ (HB.out.cell 0) (HB.out.fz 0)).mono ?_; rintro E w1 ⟨rfl, rfl⟩)
  all_goals go_wp2_with fail
  all_goals go_end0
  all_goals exact ⟨rfl, (((Fr.draw (Fr.refl _ _)).more (fr_one f 0 _) (fun _ e => e)).more (fr_one f 5 _) (fun _ e => e)).more (fr_one f 4 _) (fun _ e => e), ((HB.out.drew.set 0 _).set 5 _).set 4 _⟩
set_option maxRecDepth 100000 in
set_option maxHeartbeats 4000000 in
theorem give_old {w : World} {f n : Nat} {kb : Nat → Nat} {rv : Value} {b m g : Nat} (hg : g = 3 - b - m) (hb : b < 3) (hm : m < 3) (hbm : b ≠ m) (h : Bk w f (blk2 n kb (.int .u32 3) (.int .u32 (b : Nat)) (.int .u32 (m : Nat)) rv) 94) :
    Calls Tryd.prog 57 #[.pointer (some ⟨f, 0, none⟩)] w fun E w' => E = .returned (.tuple #[]) ∧ Fr (fun k => k = f) w w' ∧ Bk w' f (blk2 n kb (.int .u32 (b : Nat)) (.int .u32 (g : Nat)) (.int .u32 (b : Nat)) rv) 94 := by
  have HB : Hid (Bk w f (blk2 n kb (.int .u32 3) (.int .u32 (b : Nat)) (.int .u32 (m : Nat)) rv) 94) := h
  have c4 : w.cell? ⟨f, 4, none⟩ = some (.int .u32 (b : Nat)) := h.cell 4
  have c5 : w.cell? ⟨f, 5, none⟩ = some (.int .u32 (m : Nat)) := h.cell 5
  have z4 : w.frozen? ⟨f, 4, none⟩ = false := h.fz 4
  have z5 : w.frozen? ⟨f, 5, none⟩ = false := h.fz 5
  clear h
  rcases (by omega : (b = 0 ∧ m = 1 ∧ g = 2) ∨ (b = 0 ∧ m = 2 ∧ g = 1) ∨ (b = 1 ∧ m = 0 ∧ g = 2) ∨ (b = 1 ∧ m = 2 ∧ g = 0) ∨ (b = 2 ∧ m = 0 ∧ g = 1) ∨ (b = 2 ∧ m = 1 ∧ g = 0)) with ⟨rfl, rfl, rfl⟩ | ⟨rfl, rfl, rfl⟩ | ⟨rfl, rfl, rfl⟩ | ⟨rfl, rfl, rfl⟩ | ⟨rfl, rfl, rfl⟩ | ⟨rfl, rfl, rfl⟩
  all_goals clear hg hb hm hbm
  all_goals go_enter Tryd.func57, Tryd.ntmps57
  all_goals go_wp2_with fail
  all_goals go_region_with (go_at_call 61; refine (swap32_any (w := w.drew) f 0 _ _ (HB.out.cell 0) (HB.out.fz 0)).mono ?_; rintro E w1 ⟨rfl, rfl⟩)
  all_goals go_wp2_with fail
  all_goals go_region
  all_goals go_wp2_with fail
  all_goals go_end0
  all_goals exact ⟨rfl, Fr.draw (Fr.draw ((((Fr.refl _ _).more (fr_one f 0 _) (fun _ e => e)).more (fr_one f 5 _) (fun _ e => e)).more (fr_one f 4 _) (fun _ e => e))), ((HB.out.set 0 _).set 5 _).set 4 _⟩

end Go.Proofs.YtgaepakdhdfdfaaDoor
