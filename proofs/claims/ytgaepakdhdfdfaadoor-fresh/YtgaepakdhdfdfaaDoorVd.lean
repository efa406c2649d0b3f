/-
  The cells of kind 1: four slots: the walks.
-/
import Derived.Test.YtgaepakdhdfdfaaDoorVc
namespace Go.Proofs.YtgaepakdhdfdfaaDoor
open Go.RowKit

abbrev u32V (x : Nat) : Value := .int .u32 (x : Nat)
abbrev blk1 (n : Nat) (kb : Nat → Nat → Nat) (sl : Nat → Nat) (lat rd wp wq rp rq : Nat) : Array Value := #[u32V lat, u32V rd, u32V (sl 0), u32V (sl 1), slV (kb 0 0) n n, slV (kb 0 1) n n, slV (kb 1 0) n n, slV (kb 1 1) n n, u32V wp, u32V wq, u32V rp, u32V rq]
set_option maxRecDepth 100000 in
set_option maxHeartbeats 4000000 in
theorem at_any {w : World} {f n : Nat} {kb : Nat → Nat → Nat} {sl : Nat → Nat} {lat rd wp wq rp rq p q : Nat} (hp : p < 2) (hq : q < 2) (h : Bk w f (blk1 n kb sl lat rd wp wq rp rq) 91) :
    Calls Tryd.prog 55 #[.pointer (some ⟨f, 0, none⟩), .agg #[u32V p, u32V q]] w fun E w' => E = .returned (slV (kb p q) n n) ∧ Below w.heap.size w w' := by
  have hlt := h.lt
  have hb : Bk (w.alloc (.cells #[u32V p, u32V q] 89)) f (blk1 n kb sl lat rd wp wq rp rq) 91 := h.heap (((Below.refl _ _).alloc (Nat.le_refl _) _ : Below w.heap.size w _).block f hlt)
  have c4 : (w.alloc (.cells #[u32V p, u32V q] 89)).cell? ⟨f, 4, none⟩ = some (slV (kb 0 0) n n) := hb.cell 4
  have c5 : (w.alloc (.cells #[u32V p, u32V q] 89)).cell? ⟨f, 5, none⟩ = some (slV (kb 0 1) n n) := hb.cell 5
  have c6 : (w.alloc (.cells #[u32V p, u32V q] 89)).cell? ⟨f, 6, none⟩ = some (slV (kb 1 0) n n) := hb.cell 6
  have c7 : (w.alloc (.cells #[u32V p, u32V q] 89)).cell? ⟨f, 7, none⟩ = some (slV (kb 1 1) n n) := hb.cell 7
  have HB : Hid (Below w.heap.size w (w.alloc (.cells #[u32V p, u32V q] 89))) := (Below.refl _ _).alloc (Nat.le_refl _) _
  have x0 : (w.alloc (.cells #[u32V p, u32V q] 89)).cell? ⟨w.heap.size, 0, none⟩ = some (u32V p) := by simp
  have x1 : (w.alloc (.cells #[u32V p, u32V q] 89)).cell? ⟨w.heap.size, 1, none⟩ = some (u32V q) := by simp
  clear h hb hlt
  rcases (by omega : p = 0 ∨ p = 1) with rfl | rfl <;> rcases (by omega : q = 0 ∨ q = 1) with rfl | rfl
  all_goals go_enter Tryd.func55, Tryd.ntmps55
  all_goals go_wp2_with fail
  all_goals go_quiet (fail)
  all_goals go_wp2_with fail
  all_goals go_ret
  all_goals exact ⟨rfl, below_drewN HB.out _⟩

set_option maxRecDepth 100000 in
set_option maxHeartbeats 4000000 in
theorem four_w0 {w : World} {f n kw c : Nat} {kb : Nat → Nat → Nat} {sl : Nat → Nat} {lat rd wp wq rp rq : Nat} (hr : rd < 2) (h : Bk w f (blk1 n kb sl lat rd wp wq rp rq) 91) :
    Calls Tryd.prog 53 #[.pointer (some ⟨f, 0, none⟩), .int .i64 0, slV kw n c] w fun E w' => E = .returned (.bool false) ∧ Fr (fun k => k = f) w w' ∧ Bk w' f (blk1 n kb sl lat rd (1 - rd) wq rp rq) 91 := by
  have HB : Hid (Bk w f (blk1 n kb sl lat rd wp wq rp rq) 91) := h
  have c8 : w.cell? ⟨f, 8, none⟩ = some (u32V wp) := h.cell 8
  have z8 : w.frozen? ⟨f, 8, none⟩ = false := h.fz 8
  clear h
  rcases (by omega : rd = 0 ∨ rd = 1) with rfl | rfl
  all_goals go_enter Tryd.func53, Tryd.ntmps53
  all_goals go_wp2_with fail
  all_goals refine (load32_any f 1 _ (HB.out.cell 1)).mono ?_
  all_goals rintro E u ⟨rfl, rfl⟩
  all_goals go_wp2_with fail
  all_goals go_ret
  all_goals exact ⟨rfl, fr_one f 8 _, HB.out.set 8 _⟩
set_option maxRecDepth 100000 in
set_option maxHeartbeats 4000000 in
theorem four_w1 {w : World} {f n kw c : Nat} {kb : Nat → Nat → Nat} {sl : Nat → Nat} {lat rd wp wq rp rq : Nat} (hp : wp < 2) (hs : sl wp < 2) (h : Bk w f (blk1 n kb sl lat rd wp wq rp rq) 91) :
    Calls Tryd.prog 53 #[.pointer (some ⟨f, 0, none⟩), .int .i64 1, slV kw n c] w fun E w' => E = .returned (.bool false) ∧ Fr (fun k => k = f) w w' ∧ Bk w' f (blk1 n kb sl lat rd wp (1 - sl wp) rp rq) 91 := by
  have HB : Hid (Bk w f (blk1 n kb sl lat rd wp wq rp rq) 91) := h
  have c8 : w.cell? ⟨f, 8, none⟩ = some (u32V wp) := h.cell 8
  have c9 : w.cell? ⟨f, 9, none⟩ = some (u32V wq) := h.cell 9
  have z9 : w.frozen? ⟨f, 9, none⟩ = false := h.fz 9
  have c2 : w.cell? ⟨f, 2 + wp, none⟩ = some (u32V (sl wp)) := by
    rcases (by omega : wp = 0 ∨ wp = 1) with rfl | rfl
    · exact h.cell 2
    · exact h.cell 3
  clear h
  generalize hx : sl wp = x at c2 hs ⊢
  clear hx
  rcases (by omega : wp = 0 ∨ wp = 1) with rfl | rfl <;> rcases (by omega : x = 0 ∨ x = 1) with rfl | rfl
  all_goals go_enter Tryd.func53, Tryd.ntmps53
  all_goals go_wp2_with fail
  all_goals go_region_with (go_at_call 54; refine (load32_any (w := w.drew) f _ _ c2).mono ?_; rintro E u ⟨rfl, rfl⟩)
  all_goals go_wp2_with fail
  all_goals go_ret
  all_goals exact ⟨rfl, Fr.draw (fr_one f 9 _), HB.out.set 9 _⟩
set_option maxRecDepth 100000 in
set_option maxHeartbeats 8000000 in
theorem four_w2 {w : World} {f n kw c i : Nat} {kb : Nat → Nat → Nat} {sl : Nat → Nat} {lat rd wp wq rp rq y : Nat} {v : Value} (hp : wp < 2) (hq : wq < 2) (hi : i < n) (hn : n ≤ 40) (h : Bk w f (blk1 n kb sl lat rd wp wq rp rq) 91) (hy : w.cell? ⟨kw, i, none⟩ = some (.int .u64 (y : Nat))) (hc : w.cell? ⟨kb wp wq, i, none⟩ = some v) (hz : w.frozen? ⟨kb wp wq, i, none⟩ = false) :
    Calls Tryd.prog 53 #[.pointer (some ⟨f, 0, none⟩), .int .i64 ((i + 2 : Nat) : Int), slV kw n c] w fun E w' => E = .returned (.bool false) ∧ ∃ u, Below w.heap.size w u ∧ w' = u.setCell ⟨kb wp wq, i, none⟩ (.int .u64 (y : Nat)) := by
  have HB : Hid (Bk w f (blk1 n kb sl lat rd wp wq rp rq) 91) := h
  have HC : Hid (w.cell? ⟨kb wp wq, i, none⟩ = some v ∧ w.frozen? ⟨kb wp wq, i, none⟩ = false ∧ w.cell? ⟨kw, i, none⟩ = some (.int .u64 (y : Nat))) := ⟨hc, hz, hy⟩
  have c8 : w.cell? ⟨f, 8, none⟩ = some (u32V wp) := h.cell 8
  have c9 : w.cell? ⟨f, 9, none⟩ = some (u32V wq) := h.cell 9
  have hi' : (i : Int) < (n : Int) := by omega
  clear h hc hz
  go_enter Tryd.func53, Tryd.ntmps53
  go_wp2_with fail
  go_region_with (go_at_call 55; refine (at_any (w := w.drew) hp hq HB.out.drew).mono ?_; rintro E u ⟨rfl, hb0⟩; have hb : Below w.heap.size w u := below_step (Below.refl _ _).drew hb0; have x1 : u.cell? ⟨kb wp wq, i, none⟩ = some v := (hb.cell (lt_of_cell HC.out.1)).trans HC.out.1; have x2 : u.frozen? ⟨kb wp wq, i, none⟩ = false := frozen_below hb HC.out.1 HC.out.2.1; have x3 : u.cell? ⟨kw, i, none⟩ = some (.int .u64 (y : Nat)) := (hb.cell (lt_of_cell HC.out.2.2)).trans HC.out.2.2; have HU : Hid (Below w.heap.size w u) := hb; clear hb0 hb)
  all_goals go_wp2_with fail
  all_goals go_ret
  all_goals exact ⟨rfl, u, HU.out, rfl⟩
set_option maxRecDepth 100000 in
set_option maxHeartbeats 4000000 in
theorem four_w3 {w : World} {f n kw c : Nat} {kb : Nat → Nat → Nat} {sl : Nat → Nat} {lat rd wp wq rp rq : Nat} (hp : wp < 2) (hn : n ≤ 40) (h : Bk w f (blk1 n kb sl lat rd wp wq rp rq) 91) :
    Calls Tryd.prog 53 #[.pointer (some ⟨f, 0, none⟩), .int .i64 ((n + 2 : Nat) : Int), slV kw n c] w fun E w' => E = .returned (.bool false) ∧ Fr (fun k => k = f) w w' ∧ Bk w' f (blk1 n kb (Reg.set1 sl wp wq) lat rd wp wq rp rq) 91 := by
  have HB : Hid (Bk w f (blk1 n kb sl lat rd wp wq rp rq) 91) := h
  have c8 : w.cell? ⟨f, 8, none⟩ = some (u32V wp) := h.cell 8
  have c9 : w.cell? ⟨f, 9, none⟩ = some (u32V wq) := h.cell 9
  have c2 : w.cell? ⟨f, 2, none⟩ = some (u32V (sl 0)) := h.cell 2
  have c3 : w.cell? ⟨f, 3, none⟩ = some (u32V (sl 1)) := h.cell 3
  have z2 : w.frozen? ⟨f, 2, none⟩ = false := h.fz 2
  have z3 : w.frozen? ⟨f, 3, none⟩ = false := h.fz 3
  clear h
  rcases (by omega : wp = 0 ∨ wp = 1) with rfl | rfl
  · go_enter Tryd.func53, Tryd.ntmps53
    go_wp2_with fail
    go_region_with (go_at_call 33; refine (store32_any (w := w.drew) f 2 _ c2 z2).mono ?_; rintro E u ⟨rfl, rfl⟩)
    all_goals go_wp2_with fail
    all_goals go_ret
    all_goals exact ⟨rfl, Fr.draw (fr_one f 2 _), HB.out.set 2 _⟩
  · go_enter Tryd.func53, Tryd.ntmps53
    go_wp2_with fail
    go_region_with (go_at_call 33; refine (store32_any (w := w.drew) f 3 _ c3 z3).mono ?_; rintro E u ⟨rfl, rfl⟩)
    all_goals go_wp2_with fail
    all_goals go_ret
    all_goals exact ⟨rfl, Fr.draw (fr_one f 3 _), HB.out.set 3 _⟩
set_option maxRecDepth 100000 in
set_option maxHeartbeats 4000000 in
theorem four_w4 {w : World} {f n kw c : Nat} {kb : Nat → Nat → Nat} {sl : Nat → Nat} {lat rd wp wq rp rq : Nat} (hn : n ≤ 40) (h : Bk w f (blk1 n kb sl lat rd wp wq rp rq) 91) :
    Calls Tryd.prog 53 #[.pointer (some ⟨f, 0, none⟩), .int .i64 ((n + 3 : Nat) : Int), slV kw n c] w fun E w' => E = .returned (.bool true) ∧ Fr (fun k => k = f) w w' ∧ Bk w' f (blk1 n kb sl wp rd wp wq rp rq) 91 := by
  have HB : Hid (Bk w f (blk1 n kb sl lat rd wp wq rp rq) 91) := h
  have c8 : w.cell? ⟨f, 8, none⟩ = some (u32V wp) := h.cell 8
  have c0 : w.cell? ⟨f, 0, none⟩ = some (u32V lat) := h.cell 0
  have z0 : w.frozen? ⟨f, 0, none⟩ = false := h.fz 0
  have e1 : ((n + 3 : Nat) : Int) - 2 = ((n + 1 : Nat) : Int) := by omega
  clear h
  go_enter Tryd.func53, Tryd.ntmps53
  go_wp2_with fail
  go_region_with (go_at_call 33; refine (store32_any (w := w.drew) f 0 _ c0 z0).mono ?_; rintro E u ⟨rfl, rfl⟩)
  all_goals go_wp2_with fail
  all_goals go_ret
  all_goals exact ⟨rfl, Fr.draw (fr_one f 0 _), HB.out.set 0 _⟩

set_option maxRecDepth 100000 in
set_option maxHeartbeats 4000000 in
theorem four_r0 {w : World} {f n kr c : Nat} {kb : Nat → Nat → Nat} {sl : Nat → Nat} {lat rd wp wq rp rq : Nat} (h : Bk w f (blk1 n kb sl lat rd wp wq rp rq) 91) :
    Calls Tryd.prog 52 #[.pointer (some ⟨f, 0, none⟩), .int .i64 0, slV kr n c] w fun E w' => E = .returned (.bool false) ∧ Fr (fun k => k = f) w w' ∧ Bk w' f (blk1 n kb sl lat rd wp wq lat rq) 91 := by
  have HB : Hid (Bk w f (blk1 n kb sl lat rd wp wq rp rq) 91) := h
  have c10 : w.cell? ⟨f, 10, none⟩ = some (u32V rp) := h.cell 10
  have z10 : w.frozen? ⟨f, 10, none⟩ = false := h.fz 10
  clear h
  go_enter Tryd.func52, Tryd.ntmps52
  go_wp2_with fail
  refine (load32_any f 0 _ (HB.out.cell 0)).mono ?_
  rintro E u ⟨rfl, rfl⟩
  go_wp2_with fail
  go_ret
  exact ⟨rfl, fr_one f 10 _, HB.out.set 10 _⟩
set_option maxRecDepth 100000 in
set_option maxHeartbeats 4000000 in
theorem four_r1 {w : World} {f n kr c : Nat} {kb : Nat → Nat → Nat} {sl : Nat → Nat} {lat rd wp wq rp rq : Nat} (h : Bk w f (blk1 n kb sl lat rd wp wq rp rq) 91) :
    Calls Tryd.prog 52 #[.pointer (some ⟨f, 0, none⟩), .int .i64 1, slV kr n c] w fun E w' => E = .returned (.bool false) ∧ Fr (fun k => k = f) w w' ∧ Bk w' f (blk1 n kb sl lat rp wp wq rp rq) 91 := by
  have HB : Hid (Bk w f (blk1 n kb sl lat rd wp wq rp rq) 91) := h
  have c10 : w.cell? ⟨f, 10, none⟩ = some (u32V rp) := h.cell 10
  have c1 : w.cell? ⟨f, 1, none⟩ = some (u32V rd) := h.cell 1
  have z1 : w.frozen? ⟨f, 1, none⟩ = false := h.fz 1
  clear h
  go_enter Tryd.func52, Tryd.ntmps52
  go_wp2_with fail
  go_region_with (go_at_call 33; refine (store32_any (w := w.drew) f 1 _ c1 z1).mono ?_; rintro E u ⟨rfl, rfl⟩)
  all_goals go_wp2_with fail
  all_goals go_ret
  all_goals exact ⟨rfl, Fr.draw (fr_one f 1 _), HB.out.set 1 _⟩
set_option maxRecDepth 100000 in
set_option maxHeartbeats 4000000 in
theorem four_r2 {w : World} {f n kr c : Nat} {kb : Nat → Nat → Nat} {sl : Nat → Nat} {lat rd wp wq rp rq : Nat} (hp : rp < 2) (h : Bk w f (blk1 n kb sl lat rd wp wq rp rq) 91) :
    Calls Tryd.prog 52 #[.pointer (some ⟨f, 0, none⟩), .int .i64 2, slV kr n c] w fun E w' => E = .returned (.bool false) ∧ Fr (fun k => k = f) w w' ∧ Bk w' f (blk1 n kb sl lat rd wp wq rp (sl rp)) 91 := by
  have HB : Hid (Bk w f (blk1 n kb sl lat rd wp wq rp rq) 91) := h
  have c10 : w.cell? ⟨f, 10, none⟩ = some (u32V rp) := h.cell 10
  have c11 : w.cell? ⟨f, 11, none⟩ = some (u32V rq) := h.cell 11
  have z11 : w.frozen? ⟨f, 11, none⟩ = false := h.fz 11
  have c2 : w.cell? ⟨f, 2, none⟩ = some (u32V (sl 0)) := h.cell 2
  have c3 : w.cell? ⟨f, 3, none⟩ = some (u32V (sl 1)) := h.cell 3
  clear h
  rcases (by omega : rp = 0 ∨ rp = 1) with rfl | rfl
  · go_enter Tryd.func52, Tryd.ntmps52
    go_wp2_with fail
    go_region_with (go_at_call 54; refine (load32_any (w := w.drew) f 2 _ c2).mono ?_; rintro E u ⟨rfl, rfl⟩)
    all_goals go_wp2_with fail
    all_goals go_ret
    all_goals exact ⟨rfl, Fr.draw (fr_one f 11 _), HB.out.set 11 _⟩
  · go_enter Tryd.func52, Tryd.ntmps52
    go_wp2_with fail
    go_region_with (go_at_call 54; refine (load32_any (w := w.drew) f 3 _ c3).mono ?_; rintro E u ⟨rfl, rfl⟩)
    all_goals go_wp2_with fail
    all_goals go_ret
    all_goals exact ⟨rfl, Fr.draw (fr_one f 11 _), HB.out.set 11 _⟩
set_option maxRecDepth 100000 in
set_option maxHeartbeats 4000000 in
theorem four_r3 {w : World} {f n kr c i : Nat} {kb : Nat → Nat → Nat} {sl : Nat → Nat} {lat rd wp wq rp rq y : Nat} {v : Value} (hp : rp < 2) (hq : rq < 2) (hi : i < n) (hn : n ≤ 40) (h : Bk w f (blk1 n kb sl lat rd wp wq rp rq) 91) (hy : w.cell? ⟨kb rp rq, i, none⟩ = some (.int .u64 (y : Nat))) (hc : w.cell? ⟨kr, i, none⟩ = some v) (hz : w.frozen? ⟨kr, i, none⟩ = false) :
    Calls Tryd.prog 52 #[.pointer (some ⟨f, 0, none⟩), .int .i64 ((i + 3 : Nat) : Int), slV kr n c] w fun E w' => E = .returned (.bool ((i : Int) == (n : Int) - 1)) ∧ ∃ u, Below w.heap.size w u ∧ w' = u.setCell ⟨kr, i, none⟩ (.int .u64 (y : Nat)) := by
  have HB : Hid (Bk w f (blk1 n kb sl lat rd wp wq rp rq) 91) := h
  have HC : Hid (w.cell? ⟨kr, i, none⟩ = some v ∧ w.frozen? ⟨kr, i, none⟩ = false ∧ w.cell? ⟨kb rp rq, i, none⟩ = some (.int .u64 (y : Nat))) := ⟨hc, hz, hy⟩
  have c10 : w.cell? ⟨f, 10, none⟩ = some (u32V rp) := h.cell 10
  have c11 : w.cell? ⟨f, 11, none⟩ = some (u32V rq) := h.cell 11
  have hi' : (i : Int) < (n : Int) := by omega
  have h0 : ¬ ((i + 3 : Nat) : Int) = 0 := by omega
  have h1 : ¬ ((i + 3 : Nat) : Int) = 1 := by omega
  have h2 : ¬ ((i + 3 : Nat) : Int) = 2 := by omega
  clear h hc hz hy
  go_enter Tryd.func52, Tryd.ntmps52
  go_wp2_with fail
  refine (at_any hp hq HB.out).mono ?_
  rintro E u ⟨rfl, hb⟩
  have x1 : u.cell? ⟨kr, i, none⟩ = some v := (hb.cell (lt_of_cell HC.out.1)).trans HC.out.1
  have x2 : u.frozen? ⟨kr, i, none⟩ = false := frozen_below hb HC.out.1 HC.out.2.1
  have x3 : u.cell? ⟨kb rp rq, i, none⟩ = some (.int .u64 (y : Nat)) := (hb.cell (lt_of_cell HC.out.2.2)).trans HC.out.2.2
  have HU : Hid (Below w.heap.size w u) := hb
  clear hb
  go_wp2_with fail
  go_ret
  exact ⟨rfl, u, HU.out, rfl⟩

end Go.Proofs.YtgaepakdhdfdfaaDoor
