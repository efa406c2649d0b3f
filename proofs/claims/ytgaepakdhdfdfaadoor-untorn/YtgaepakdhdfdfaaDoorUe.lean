/-
  The statements' own functions: pick, words.
-/
import Derived.Test.YtgaepakdhdfdfaaDoorUd
namespace Go.Proofs.YtgaepakdhdfdfaaDoor
open Go.RowKit

/-- pick: within 0 .. n - 1. -/
theorem pick_any (c : Int) (n : Nat) (h0 : 0 < n) (hn : n ≤ 40) (hc : -9223372036854775808 ≤ c) (hc2 : c ≤ 9223372036854775807) (w : World) : Calls Tryd.prog 12 #[.int .i64 c, .int .i64 n] w fun e w' => (∃ k : Nat, k < n ∧ e = .returned (.int .i64 k)) ∧ w' = w := by
  have hm : ∀ d : Int, ∃ k : Nat, k < n ∧ d % (n : Int) = (k : Int) := fun d => by
    have h1 := Int.emod_nonneg d (show (n : Int) ≠ 0 by omega)
    have h2 := Int.emod_lt_of_pos d (show 0 < (n : Int) by omega)
    exact ⟨(d % (n : Int)).toNat, by omega, by omega⟩
  by_cases h : c < 0
  · obtain ⟨k, hk, e⟩ := hm (-(c + 1))
    have e2 : -(c + 1).tmod n = (k : Int) := by
      rw [← Int.neg_tmod, Int.tmod_eq_emod_of_nonneg (by omega), e]
    have HK : Hid (k < n) := hk
    clear hm e hk
    go_enter Tryd.func12, Tryd.ntmps12
    go_wp2
    go_ret
    exact ⟨⟨k, HK.out, rfl⟩, rfl⟩
  · obtain ⟨k, hk, e⟩ := hm c
    have HK : Hid (k < n) := hk
    clear hm hk
    go_enter Tryd.func12, Tryd.ntmps12
    go_wp2
    go_ret
    exact ⟨⟨k, HK.out, rfl⟩, rfl⟩
set_option maxHeartbeats 2000000 in
theorem words_any (x y : Value) (n : Nat) (P : Nat → Nat → Nat) (k : Nat) (hn1 : 1 ≤ n) (hn : n ≤ 40) (w : World) (hx : Ls w x n (vals P k n)) (hy : Ls w y n (vals P k n)) :
    Calls Tryd.prog 29 #[x, y] w fun e w' => e = .returned (.bool true) ∧ Below w.heap.size w w' := by
  obtain ⟨g, o, c, rfl, _, hc, _⟩ := hx
  obtain ⟨g', o', c', rfl, _, hc', _⟩ := hy
  have HC : Hid (∀ w', Below w.heap.size w w' → ∀ j, j < n → w'.cell? ⟨g, o + j, none⟩ = some (.int .u64 (P k j : Nat)) ∧ w'.cell? ⟨g', o' + j, none⟩ = some (.int .u64 (P k j : Nat))) := fun w' hw j hj => by
    have h1 := hc j _ (vals_at P k n j hj)
    have h2 := hc' j _ (vals_at P k n j hj)
    exact ⟨(hw.cell (lt_of_cell h1)).trans h1, (hw.cell (lt_of_cell h2)).trans h2⟩
  clear hc hc'
  have hne : ((n : Int) != (n : Int)) = false := by simp
  go_enter Tryd.func29, Tryd.ntmps29
  go_wp2_with fail
  go_loopg [5] n (fun gk s5 wr => ∃ j : Nat, j ≤ n ∧ s5 = .int .i64 j ∧ gk = n - j ∧ Hid (Below w.heap.size w wr))
  case atStart => exact ⟨0, Nat.zero_le _, rfl, rfl, Below.refl _ _⟩
  case round =>
    obtain ⟨j, hj, rfl, hgk, HB⟩ := hrel
    have HG : Hid (gk = n - j) := hgk
    clear hgk
    by_cases hlt : j < n
    · obtain ⟨q0, q1⟩ := HC.out wr HB.out j hlt
      go_wp2
      go_quiet (fail)
      go_wp2
      go_roundg (n - (j + 1))
      case measure => have := HG.out; omega
      case rel => exact ⟨j + 1, hlt, by go_num, rfl, below_drewN HB.out _⟩
    · go_wp2
      go_ret
      exact ⟨rfl, HB.out⟩

/-- What is kept of a handing: its block. -/
structure Hh (w : World) (hb n b e f l : Nat) : Prop where
  c0 : w.cell? ⟨hb, 0, none⟩ = some (.int .i64 n)
  c1 : w.cell? ⟨hb, 1, none⟩ = some (.int .i64 b)
  c2 : w.cell? ⟨hb, 2, none⟩ = some (.int .i64 e)
  c3 : w.cell? ⟨hb, 3, none⟩ = some (.int .i64 f)
  c4 : w.cell? ⟨hb, 4, none⟩ = some (.int .i64 l)
  c5 : w.cell? ⟨hb, 5, none⟩ = some (.bool true)
  c6 : w.cell? ⟨hb, 6, none⟩ = some (.bool true)
  fz : ∀ o, w.frozen? ⟨hb, o, none⟩ = false
theorem Hh.below {w w' : World} {hb n b e f l : Nat} (h : Hh w hb n b e f l) (k : Below w.heap.size w w') : Hh w' hb n b e f l :=
  ⟨(k.cell (lt_of_cell h.c0)).trans h.c0, (k.cell (lt_of_cell h.c1)).trans h.c1, (k.cell (lt_of_cell h.c2)).trans h.c2, (k.cell (lt_of_cell h.c3)).trans h.c3, (k.cell (lt_of_cell h.c4)).trans h.c4, (k.cell (lt_of_cell h.c5)).trans h.c5, (k.cell (lt_of_cell h.c6)).trans h.c6, fun o => (k.frozen (p := ⟨hb, o, none⟩) (show hb < w.heap.size from lt_of_cell h.c0)).trans (h.fz o)⟩
theorem same_cell {w : World} {k o : Nat} {u v : Value} (h : w.cell? ⟨k, o, none⟩ = some u) : (w.setCell ⟨k, o, none⟩ v).cell? ⟨k, o, none⟩ = some v := World.cell?_setCell_same _ _ _ h
theorem other_cell {w : World} {k o q : Nat} {u v : Value} (h : w.cell? ⟨k, o, none⟩ = some u) (hn : q ≠ o) : (w.setCell ⟨k, q, none⟩ v).cell? ⟨k, o, none⟩ = some u := (World.cell?_setCell_other _ ⟨k, q, none⟩ ⟨k, o, none⟩ _ (fun e => hn (by cases e; rfl))).trans h
theorem Hh.put1 {w : World} {hb n b e f l : Nat} (h : Hh w hb n b e f l) (x : Nat) : Hh (w.setCell ⟨hb, 1, none⟩ (.int .i64 x)) hb n x e f l :=
  ⟨other_cell h.c0 (by decide), same_cell h.c1, other_cell h.c2 (by decide), other_cell h.c3 (by decide), other_cell h.c4 (by decide), other_cell h.c5 (by decide), other_cell h.c6 (by decide), fun o => by simp [h.fz]⟩
theorem Hh.put2 {w : World} {hb n b e f l : Nat} (h : Hh w hb n b e f l) (x : Nat) : Hh (w.setCell ⟨hb, 2, none⟩ (.int .i64 x)) hb n b x f l :=
  ⟨other_cell h.c0 (by decide), other_cell h.c1 (by decide), same_cell h.c2, other_cell h.c3 (by decide), other_cell h.c4 (by decide), other_cell h.c5 (by decide), other_cell h.c6 (by decide), fun o => by simp [h.fz]⟩
theorem Hh.put3 {w : World} {hb n b e f l : Nat} (h : Hh w hb n b e f l) (x : Nat) : Hh (w.setCell ⟨hb, 3, none⟩ (.int .i64 x)) hb n b e x l :=
  ⟨other_cell h.c0 (by decide), other_cell h.c1 (by decide), other_cell h.c2 (by decide), same_cell h.c3, other_cell h.c4 (by decide), other_cell h.c5 (by decide), other_cell h.c6 (by decide), fun o => by simp [h.fz]⟩
theorem Hh.put4 {w : World} {hb n b e f l : Nat} (h : Hh w hb n b e f l) (x : Nat) : Hh (w.setCell ⟨hb, 4, none⟩ (.int .i64 x)) hb n b e f x :=
  ⟨other_cell h.c0 (by decide), other_cell h.c1 (by decide), other_cell h.c2 (by decide), other_cell h.c3 (by decide), same_cell h.c4, other_cell h.c5 (by decide), other_cell h.c6 (by decide), fun o => by simp [h.fz]⟩
theorem Hh.put5 {w : World} {hb n b e f l : Nat} (h : Hh w hb n b e f l) : Hh (w.setCell ⟨hb, 5, none⟩ (.bool true)) hb n b e f l :=
  ⟨other_cell h.c0 (by decide), other_cell h.c1 (by decide), other_cell h.c2 (by decide), other_cell h.c3 (by decide), other_cell h.c4 (by decide), same_cell h.c5, other_cell h.c6 (by decide), fun o => by simp [h.fz]⟩
theorem Hh.put6 {w : World} {hb n b e f l : Nat} (h : Hh w hb n b e f l) : Hh (w.setCell ⟨hb, 6, none⟩ (.bool true)) hb n b e f l :=
  ⟨other_cell h.c0 (by decide), other_cell h.c1 (by decide), other_cell h.c2 (by decide), other_cell h.c3 (by decide), other_cell h.c4 (by decide), other_cell h.c5 (by decide), same_cell h.c6, fun o => by simp [h.fz]⟩
theorem fr_set {u w : World} {hb : Nat} (h : Fr (fun i => i = hb) u w) (o : Nat) (v : Value) : Fr (fun i => i = hb) u (w.setCell ⟨hb, o, none⟩ v) :=
  ⟨h.os, h.tape, h.output, by simpa using h.size, fun k h1 h2 => (Below.heap_setCell w ⟨hb, o, none⟩ v k h2).trans (h.block k h1 h2)⟩
set_option maxHeartbeats 4000000 in
theorem got_any (hb n b e f l k : Nat) (v : Value) (hn1 : 1 ≤ n) (hn : n ≤ 40) (hb42 : b ≤ 4398046511104) (w : World) (h : Hh w hb n b e f l) (hv : Ls w v n (vals payN k n)) (hkb : k ≤ b) (hfk : f ≤ k) (hlk : l ≤ k) :
    Calls Tryd.prog 21 #[.pointer (some ⟨hb, 0, none⟩), v] w fun E w' => E = .returned (.tuple #[]) ∧ Fr (fun i => i = hb) w w' ∧ Hh w' hb n b e f k := by
  have HV : Hid (Ls w v n (vals payN k n)) := hv
  have HH : Hid (Hh w hb n b e f l) := h
  obtain ⟨g, o, c, rfl, _, hc, _⟩ := hv
  have q0 : w.cell? ⟨g, o, none⟩ = some (.int .u64 ((k : Int) * 1000)) := by
    have := hc 0 _ (vals_at payN k n 0 hn1)
    have e : ((payN k 0 : Nat) : Int) = (k : Int) * 1000 := by unfold payN; omega
    rw [Nat.add_zero, e] at this
    exact this
  obtain ⟨c0, c1, c2, c3, c4, c5, c6, fz⟩ := h
  have hne : ((n : Int) != (n : Int)) = false := by simp
  clear hc c1 c2 c3 c4 c5 c6 fz
  go_enter Tryd.func21, Tryd.ntmps21
  go_wp2_with fail
  refine (payload_any hb n k hn (by omega) w c0).mono ?_
  rintro E w1 ⟨v1, rfl, O1, hb1⟩
  have H1 : Hid (Hh w1 hb n b e f l) := HH.out.below hb1
  have V1 : Hid (Ls w1 (.slice (some ⟨g, o, none⟩) n c) n (vals payN k n)) := HV.out.below hb1
  have V2 : Hid (Ls w1 v1 n (vals payN k n)) := Ls.of_own O1 hn1
  have B1 : Hid (Below w.heap.size w w1) := hb1
  clear O1 hb1 q0 c0
  go_wp2_with fail
  refine (words_any _ v1 n payN k hn1 hn w1 V1.out V2.out).mono ?_
  rintro E w2 ⟨rfl, hb2⟩
  have H2 : Hid (Hh w2 hb n b e f l) := H1.out.below hb2
  have B2 : Hid (Below w.heap.size w w2) := below_step B1.out hb2
  obtain ⟨c0, c1, c2, c3, c4, c5, c6, fz⟩ := H2.out
  have i1 : (k : Int) ≤ b := by omega
  have i3 : (f : Int) ≤ k := by omega
  have i4 : (l : Int) ≤ k := by omega
  clear hb2 V1 V2 H1 B1 HV HH
  go_wp2_with fail
  go_end0
  exact ⟨rfl, fr_set (fr_set (fr_set (Fr.of_below B2.out) 5 _) 6 _) 4 _, ((H2.out.put5).put6).put4 k⟩

end Go.Proofs.YtgaepakdhdfdfaaDoor
