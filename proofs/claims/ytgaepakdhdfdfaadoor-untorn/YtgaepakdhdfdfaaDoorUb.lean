/-
  payload, walked: the words of a writing, by its number.
-/
import Derived.Test.YtgaepakdhdfdfaaDoorUa
namespace Go.Proofs.YtgaepakdhdfdfaaDoor
open Go.RowKit

/-- A word of the payload of a writing, by its number. -/
def payN (k i : Nat) : Nat := k * 1000 + i
theorem Tryd.infoU : (Tryd.prog.info? 33).map (fun i => (i.zero, i.size, i.bytes)) = some (some (.int .u64 0), 1, 8) := by kernel_rfl
theorem news_one (w : World) (v : Value) (e : TypeId) : ∀ (j : Nat) (u : Value), [v][j]? = some u → (w.alloc (.cells #[v] e)).cell? ((⟨w.heap.size, 0, none⟩ : Addr).add j) = some u := by
  intro j u hj
  match j, hj with
  | 0, hj => simp at hj; subst hj; simp [Addr.add]
theorem below_grown {W w w' : World} (h : Below W.heap.size W w) {row : Option Nat} (hg : w.grownBy w' row) (hr : ∀ k, row = some k → W.heap.size ≤ k) : Below W.heap.size W w' :=
  ⟨hg.os.trans h.os, hg.tape.trans h.tape, hg.output.trans h.output, Nat.le_trans h.size hg.size, fun k h1 => (hg.block k (Nat.lt_of_lt_of_le h1 h.size) (fun e => by have := hr k e.symm; omega)).trans (h.block k h1)⟩
set_option maxHeartbeats 2000000 in
theorem payload_any (hb n k : Nat) (hn : n ≤ 40) (hk : k ≤ 4398046511104) (w : World) (c0 : w.cell? ⟨hb, 0, none⟩ = some (.int .i64 n)) :
    Calls Tryd.prog 13 #[.pointer (some ⟨hb, 0, none⟩), .int .i64 k] w fun e w' => ∃ v, e = .returned v ∧ w'.ownsRow w.heap.size 33 1 v n (vals payN k n) ∧ Below w.heap.size w w' := by
  obtain ⟨i0, hi, hz0, hz1, hz2⟩ := info_parts Tryd.infoU
  have HC : Hid (∀ w', Below w.heap.size w w' → w'.cell? ⟨hb, 0, none⟩ = some (.int .i64 n)) := fun w' h => (h.cell (lt_of_cell c0)).trans c0
  go_enter Tryd.func13, Tryd.ntmps13
  go_wp2_with fail
  clear c0
  go_loopg [5, 6] n (fun g s5 s6 wr => ∃ j : Nat, j ≤ n ∧ s6 = .int .i64 j ∧ g = n - j ∧ Hid (wr.ownsRow w.heap.size 33 1 s5 j (vals payN k j)) ∧ Hid (Below w.heap.size w wr))
  case atStart => exact ⟨0, Nat.zero_le _, rfl, rfl, World.ownsRow_nil _ _ _ _, Below.refl _ _⟩
  case round =>
    obtain ⟨j, hj, rfl, hg, HO, HB⟩ := hrel
    have HG : Hid (gk = n - j) := hg
    have c0 := HC.out wr HB.out
    clear hg
    by_cases hlt : j < n
    · have HPV : Hid ((((payN k j : Nat) : Int)) = (k : Int) * 1000 + j) := by show _ = _; unfold payN; omega
      have O2 : Hid ((wr.alloc (.cells #[.int .u64 ((k : Int) * 1000 + j)] 33)).ownsRow w.heap.size 33 1 u5 j (vals payN k j)) := HO.out.alloc _
      have c4 : (j + 1) * 8 ≤ 140737488355328 := by omega
      have c5 : w.heap.size ≤ (wr.alloc (.cells #[.int .u64 ((k : Int) * 1000 + j)] 33)).heap.size := Nat.le_trans HB.out.size (by simp)
      go_wp2_with (at_builtin; refine wpList_append_own _ rfl _ _ 34 rfl w.heap.size 33 i0 (.int .u64 0) 1 8 Tryd.underlying34 hi hz0 hz1 hz2 rfl (by decide) u5 j (vals payN k j) rfl O2.out ⟨wr.heap.size, 0, none⟩ 1 1 [.int .u64 ((k : Int) * 1000 + j)] rfl rfl (news_one wr _ _) (by intro u hu; simp at hu; subst hu; rfl) (by unfold maxLen; omega) c4 c5 ?_; intro v4 w4 O4 hg4 hn4)
      go_roundg (n - (j + 1))
      case measure => have := HG.out; omega
      case rel =>
        have hl := O2.out.lt
        refine ⟨j + 1, hlt, by go_num, rfl, ?_, below_grown (HB.out.alloc HB.out.size _) hg4 (fun k hk => (hl k hk).1)⟩
        show w4.ownsRow _ _ _ _ _ _
        rw [vals_snoc, HPV.out]
        exact O4
    · have HE : Hid (j = n) := by show _ = _; omega
      go_wp2
      go_ret
      refine ⟨_, rfl, ?_, HB.out⟩
      have h := HO.out
      rw [HE.out] at h
      exact h

end Go.Proofs.YtgaepakdhdfdfaaDoor
