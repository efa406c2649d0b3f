/-
  operands, walked. (Printed by gen_ca.py.)
-/
import Derived.Test.YtibbjohkiigffaaGreatDoorCz
namespace Go.Proofs.YtibbjohkiigffaaGreatDoor
open Go.RowKit

/-- The operands as they lie. -/
def Kids (N : Nat) (w : World) (v : Value) (l : List Mip.E) : Prop :=
  (l = [] ∧ v = .slice none 0 0) ∨ ∃ g, v = .slice (some ⟨g, 0, none⟩) l.length l.length ∧ ∀ j q, l[j]? = some q → w.cell? ⟨g, j, none⟩ = some (ev N q)
theorem Kids.below {N : Nat} {w w' : World} {v : Value} {l : List Mip.E} (h : Kids N w v l) (k : Below w.heap.size w w') : Kids N w' v l := by
  rcases h with h | ⟨g, h1, h2⟩
  · exact Or.inl h
  · exact Or.inr ⟨g, h1, fun j q hq => (k.cell (lt_of_cell (h2 j q hq))).trans (h2 j q hq)⟩
def OpPost (N : Nat) (e : Mip.E) (w : World) (E : Ending) (w' : World) : Prop := Below w.heap.size w w' ∧ ∃ v, E = .returned v ∧ Kids N w' v (Mip.kids e)

set_option maxHeartbeats 4000000 in
theorem operands_all (N : Nat) : ∀ e : Mip.E, Mil.wf (Mip.er e) false → (∃ t y, ev N e = .iface t y) ∧ ∀ w, Calls Tryz.prog 66 #[ev N e] w (OpPost N e w) := by
  refine Mip.tree_induct ?_ ?_ ?_ ?_ ?_ ?_ ?_ ?_ ?_ ?_
  · intro p k _
    refine ⟨⟨_, _, rfl⟩, fun w => ?_⟩
    have e0 : ev N (Mip.eInt p k) = .iface 194 (.agg #[.int .i64 ((N : Int) - (p : Nat)), .int .i64 (k : Nat)]) := by show Value.iface _ (.agg #[.int .i64 ((N : Int) - (p : Nat)), .int .i64 (k : Nat)]) = _; rfl
    rw [e0]
    have q0 := ta_int_pre (.agg #[.int .i64 ((N : Int) - (p : Nat)), .int .i64 (k : Nat)])
    have q1 := ta_int_two (.agg #[.int .i64 ((N : Int) - (p : Nat)), .int .i64 (k : Nat)])
    have q2 := ta_int_if (.agg #[.int .i64 ((N : Int) - (p : Nat)), .int .i64 (k : Nat)])
    have q3 := ta_int_fby (.agg #[.int .i64 ((N : Int) - (p : Nat)), .int .i64 (k : Nat)])
    have q4 := ta_int_under (.agg #[.int .i64 ((N : Int) - (p : Nat)), .int .i64 (k : Nat)])
    have q5 := ta_int_hold (.agg #[.int .i64 ((N : Int) - (p : Nat)), .int .i64 (k : Nat)])
    have q6 := ta_int_least (.agg #[.int .i64 ((N : Int) - (p : Nat)), .int .i64 (k : Nat)])
    go_enter Tryz.func66, Tryz.ntmps66
    go_wp2
    go_ret
    exact ⟨Below.refl _ _, _, rfl, Or.inl ⟨rfl, rfl⟩⟩
  · intro p k _
    refine ⟨⟨_, _, rfl⟩, fun w => ?_⟩
    have e0 : ev N (Mip.eBool p k) = .iface 196 (.agg #[.int .i64 ((N : Int) - (p : Nat)), .bool (k == 1)]) := by show Value.iface _ (.agg #[.int .i64 ((N : Int) - (p : Nat)), .bool (k == 1)]) = _; rfl
    rw [e0]
    have q0 := ta_bool_pre (.agg #[.int .i64 ((N : Int) - (p : Nat)), .bool (k == 1)])
    have q1 := ta_bool_two (.agg #[.int .i64 ((N : Int) - (p : Nat)), .bool (k == 1)])
    have q2 := ta_bool_if (.agg #[.int .i64 ((N : Int) - (p : Nat)), .bool (k == 1)])
    have q3 := ta_bool_fby (.agg #[.int .i64 ((N : Int) - (p : Nat)), .bool (k == 1)])
    have q4 := ta_bool_under (.agg #[.int .i64 ((N : Int) - (p : Nat)), .bool (k == 1)])
    have q5 := ta_bool_hold (.agg #[.int .i64 ((N : Int) - (p : Nat)), .bool (k == 1)])
    have q6 := ta_bool_least (.agg #[.int .i64 ((N : Int) - (p : Nat)), .bool (k == 1)])
    go_enter Tryz.func66, Tryz.ntmps66
    go_wp2
    go_ret
    exact ⟨Below.refl _ _, _, rfl, Or.inl ⟨rfl, rfl⟩⟩
  · intro p x _
    refine ⟨⟨_, _, rfl⟩, fun w => ?_⟩
    have e0 : ev N (Mip.eName p x) = .iface 85 (.agg #[.int .i64 ((N : Int) - (p : Nat)), .string (bs x)]) := by show Value.iface _ (.agg #[.int .i64 ((N : Int) - (p : Nat)), .string (bs x)]) = _; rfl
    rw [e0]
    have q0 := ta_name_pre (.agg #[.int .i64 ((N : Int) - (p : Nat)), .string (bs x)])
    have q1 := ta_name_two (.agg #[.int .i64 ((N : Int) - (p : Nat)), .string (bs x)])
    have q2 := ta_name_if (.agg #[.int .i64 ((N : Int) - (p : Nat)), .string (bs x)])
    have q3 := ta_name_fby (.agg #[.int .i64 ((N : Int) - (p : Nat)), .string (bs x)])
    have q4 := ta_name_under (.agg #[.int .i64 ((N : Int) - (p : Nat)), .string (bs x)])
    have q5 := ta_name_hold (.agg #[.int .i64 ((N : Int) - (p : Nat)), .string (bs x)])
    have q6 := ta_name_least (.agg #[.int .i64 ((N : Int) - (p : Nat)), .string (bs x)])
    go_enter Tryz.func66, Tryz.ntmps66
    go_wp2
    go_ret
    exact ⟨Below.refl _ _, _, rfl, Or.inl ⟨rfl, rfl⟩⟩
  · intro p x a _ ha
    refine ⟨⟨_, _, rfl⟩, fun w => ?_⟩
    obtain ⟨⟨ta, ya, ea⟩, _⟩ := ha
    have e0 : ev N (Mip.ePre p x a) = .iface 186 (.agg #[.int .i64 ((N : Int) - (p : Nat)), .string (bs x), .iface ta ya]) := by show Value.iface _ (.agg #[.int .i64 ((N : Int) - (p : Nat)), .string (bs x), ev N a]) = _; rw [ea]
    rw [e0]
    have q0 := ta_pre_pre (.agg #[.int .i64 ((N : Int) - (p : Nat)), .string (bs x), .iface ta ya])
    have HB : Hid (Below w.heap.size w ((w.alloc (.cells #[.int .i64 ((N : Int) - (p : Nat)), .string (bs x), .iface ta ya] 186)).alloc (.cells #[.iface ta ya] 87))) := (below_step ((Below.refl w.heap.size w).alloc (Nat.le_refl _) _) ((Below.refl _ _).alloc (Nat.le_refl _) _))
    have HC : Hid (∀ j u, (#[.iface ta ya] : Array Value)[j]? = some u → (((w.alloc (.cells #[.int .i64 ((N : Int) - (p : Nat)), .string (bs x), .iface ta ya] 186)).alloc (.cells #[.iface ta ya] 87))).cell? ⟨w.heap.size + 1, j, none⟩ = some u) := fun j u hu => by
      have hr := heap_alloc_new (w.alloc (.cells #[.int .i64 ((N : Int) - (p : Nat)), .string (bs x), .iface ta ya] 186)) (.cells #[.iface ta ya] 87)
      have hz : (w.alloc (.cells #[.int .i64 ((N : Int) - (p : Nat)), .string (bs x), .iface ta ya] 186)).heap.size = w.heap.size + 1 := by simp
      rw [hz] at hr
      rw [cell_of_row _ _ j _ _ _ hr]; exact hu
    go_enter Tryz.func66, Tryz.ntmps66
    go_wp2
    go_ret
    refine ⟨HB.out, _, rfl, Or.inr ⟨w.heap.size + 1, by simp [Mip.kids, Mip.ePre], fun j q hq => ?_⟩⟩
    refine HC.out j _ ?_
    match j, hq with
    | 0, hq =>
      have e : q = a := (by simpa [Mip.kids, Mip.ePre] using hq.symm)
      subst e
      rw [ea]; rfl
    | j + 1, hq => simp [Mip.kids, Mip.ePre] at hq
  · intro p x a b _ ha hb
    refine ⟨⟨_, _, rfl⟩, fun w => ?_⟩
    obtain ⟨⟨ta, ya, ea⟩, _⟩ := ha
    obtain ⟨⟨tb, yb, eb⟩, _⟩ := hb
    have e0 : ev N (Mip.eTwo p x a b) = .iface 188 (.agg #[.int .i64 ((N : Int) - (p : Nat)), .string (bs x), .iface ta ya, .iface tb yb]) := by show Value.iface _ (.agg #[.int .i64 ((N : Int) - (p : Nat)), .string (bs x), ev N a, ev N b]) = _; rw [ea, eb]
    rw [e0]
    have q0 := ta_two_pre (.agg #[.int .i64 ((N : Int) - (p : Nat)), .string (bs x), .iface ta ya, .iface tb yb])
    have q1 := ta_two_two (.agg #[.int .i64 ((N : Int) - (p : Nat)), .string (bs x), .iface ta ya, .iface tb yb])
    have HB : Hid (Below w.heap.size w ((w.alloc (.cells #[.int .i64 ((N : Int) - (p : Nat)), .string (bs x), .iface ta ya, .iface tb yb] 188)).alloc (.cells #[.iface ta ya, .iface tb yb] 87))) := (below_step ((Below.refl w.heap.size w).alloc (Nat.le_refl _) _) ((Below.refl _ _).alloc (Nat.le_refl _) _))
    have HC : Hid (∀ j u, (#[.iface ta ya, .iface tb yb] : Array Value)[j]? = some u → (((w.alloc (.cells #[.int .i64 ((N : Int) - (p : Nat)), .string (bs x), .iface ta ya, .iface tb yb] 188)).alloc (.cells #[.iface ta ya, .iface tb yb] 87))).cell? ⟨w.heap.size + 1, j, none⟩ = some u) := fun j u hu => by
      have hr := heap_alloc_new (w.alloc (.cells #[.int .i64 ((N : Int) - (p : Nat)), .string (bs x), .iface ta ya, .iface tb yb] 188)) (.cells #[.iface ta ya, .iface tb yb] 87)
      have hz : (w.alloc (.cells #[.int .i64 ((N : Int) - (p : Nat)), .string (bs x), .iface ta ya, .iface tb yb] 188)).heap.size = w.heap.size + 1 := by simp
      rw [hz] at hr
      rw [cell_of_row _ _ j _ _ _ hr]; exact hu
    go_enter Tryz.func66, Tryz.ntmps66
    go_wp2
    go_ret
    refine ⟨HB.out, _, rfl, Or.inr ⟨w.heap.size + 1, by simp [Mip.kids, Mip.eTwo], fun j q hq => ?_⟩⟩
    refine HC.out j _ ?_
    match j, hq with
    | 0, hq =>
      have e : q = a := (by simpa [Mip.kids, Mip.eTwo] using hq.symm)
      subst e
      rw [ea]; rfl
    | 1, hq =>
      have e : q = b := (by simpa [Mip.kids, Mip.eTwo] using hq.symm)
      subst e
      rw [eb]; rfl
    | j + 2, hq => simp [Mip.kids, Mip.eTwo] at hq
  · intro p y a b c ha hb hc
    refine ⟨⟨_, _, rfl⟩, fun w => ?_⟩
    obtain ⟨⟨ta, ya, ea⟩, _⟩ := ha
    obtain ⟨⟨tb, yb, eb⟩, _⟩ := hb
    obtain ⟨⟨tc, yc, ec⟩, _⟩ := hc
    have e0 : ev N (.node 6 0 ([], p) a (.node 0 0 ([], y) b c)) = .iface 190 (.agg #[.int .i64 ((N : Int) - (p : Nat)), .iface ta ya, .iface tb yb, .iface tc yc]) := by show Value.iface _ (.agg #[.int .i64 ((N : Int) - (p : Nat)), ev N a, ev N b, ev N c]) = _; rw [ea, eb, ec]
    rw [e0]
    have q0 := ta_if_pre (.agg #[.int .i64 ((N : Int) - (p : Nat)), .iface ta ya, .iface tb yb, .iface tc yc])
    have q1 := ta_if_two (.agg #[.int .i64 ((N : Int) - (p : Nat)), .iface ta ya, .iface tb yb, .iface tc yc])
    have q2 := ta_if_if (.agg #[.int .i64 ((N : Int) - (p : Nat)), .iface ta ya, .iface tb yb, .iface tc yc])
    have HB : Hid (Below w.heap.size w ((w.alloc (.cells #[.int .i64 ((N : Int) - (p : Nat)), .iface ta ya, .iface tb yb, .iface tc yc] 190)).alloc (.cells #[.iface ta ya, .iface tb yb, .iface tc yc] 87))) := (below_step ((Below.refl w.heap.size w).alloc (Nat.le_refl _) _) ((Below.refl _ _).alloc (Nat.le_refl _) _))
    have HC : Hid (∀ j u, (#[.iface ta ya, .iface tb yb, .iface tc yc] : Array Value)[j]? = some u → (((w.alloc (.cells #[.int .i64 ((N : Int) - (p : Nat)), .iface ta ya, .iface tb yb, .iface tc yc] 190)).alloc (.cells #[.iface ta ya, .iface tb yb, .iface tc yc] 87))).cell? ⟨w.heap.size + 1, j, none⟩ = some u) := fun j u hu => by
      have hr := heap_alloc_new (w.alloc (.cells #[.int .i64 ((N : Int) - (p : Nat)), .iface ta ya, .iface tb yb, .iface tc yc] 190)) (.cells #[.iface ta ya, .iface tb yb, .iface tc yc] 87)
      have hz : (w.alloc (.cells #[.int .i64 ((N : Int) - (p : Nat)), .iface ta ya, .iface tb yb, .iface tc yc] 190)).heap.size = w.heap.size + 1 := by simp
      rw [hz] at hr
      rw [cell_of_row _ _ j _ _ _ hr]; exact hu
    go_enter Tryz.func66, Tryz.ntmps66
    go_wp2
    go_ret
    refine ⟨HB.out, _, rfl, Or.inr ⟨w.heap.size + 1, by simp [Mip.kids], fun j q hq => ?_⟩⟩
    refine HC.out j _ ?_
    match j, hq with
    | 0, hq =>
      have e : q = a := (by simpa [Mip.kids] using hq.symm)
      subst e
      rw [ea]; rfl
    | 1, hq =>
      have e : q = b := (by simpa [Mip.kids] using hq.symm)
      subst e
      rw [eb]; rfl
    | 2, hq =>
      have e : q = c := (by simpa [Mip.kids] using hq.symm)
      subst e
      rw [ec]; rfl
    | j + 3, hq => simp [Mip.kids] at hq
  · intro p a b ha hb
    refine ⟨⟨_, _, rfl⟩, fun w => ?_⟩
    obtain ⟨⟨ta, ya, ea⟩, _⟩ := ha
    obtain ⟨⟨tb, yb, eb⟩, _⟩ := hb
    have e0 : ev N (Mip.eFby p a b) = .iface 173 (.agg #[.int .i64 ((N : Int) - (p : Nat)), .iface ta ya, .iface tb yb]) := by show Value.iface _ (.agg #[.int .i64 ((N : Int) - (p : Nat)), ev N a, ev N b]) = _; rw [ea, eb]
    rw [e0]
    have q0 := ta_fby_pre (.agg #[.int .i64 ((N : Int) - (p : Nat)), .iface ta ya, .iface tb yb])
    have q1 := ta_fby_two (.agg #[.int .i64 ((N : Int) - (p : Nat)), .iface ta ya, .iface tb yb])
    have q2 := ta_fby_if (.agg #[.int .i64 ((N : Int) - (p : Nat)), .iface ta ya, .iface tb yb])
    have q3 := ta_fby_fby (.agg #[.int .i64 ((N : Int) - (p : Nat)), .iface ta ya, .iface tb yb])
    have HB : Hid (Below w.heap.size w ((w.alloc (.cells #[.int .i64 ((N : Int) - (p : Nat)), .iface ta ya, .iface tb yb] 173)).alloc (.cells #[.iface ta ya, .iface tb yb] 87))) := (below_step ((Below.refl w.heap.size w).alloc (Nat.le_refl _) _) ((Below.refl _ _).alloc (Nat.le_refl _) _))
    have HC : Hid (∀ j u, (#[.iface ta ya, .iface tb yb] : Array Value)[j]? = some u → (((w.alloc (.cells #[.int .i64 ((N : Int) - (p : Nat)), .iface ta ya, .iface tb yb] 173)).alloc (.cells #[.iface ta ya, .iface tb yb] 87))).cell? ⟨w.heap.size + 1, j, none⟩ = some u) := fun j u hu => by
      have hr := heap_alloc_new (w.alloc (.cells #[.int .i64 ((N : Int) - (p : Nat)), .iface ta ya, .iface tb yb] 173)) (.cells #[.iface ta ya, .iface tb yb] 87)
      have hz : (w.alloc (.cells #[.int .i64 ((N : Int) - (p : Nat)), .iface ta ya, .iface tb yb] 173)).heap.size = w.heap.size + 1 := by simp
      rw [hz] at hr
      rw [cell_of_row _ _ j _ _ _ hr]; exact hu
    go_enter Tryz.func66, Tryz.ntmps66
    go_wp2
    go_ret
    refine ⟨HB.out, _, rfl, Or.inr ⟨w.heap.size + 1, by simp [Mip.kids, Mip.eFby], fun j q hq => ?_⟩⟩
    refine HC.out j _ ?_
    match j, hq with
    | 0, hq =>
      have e : q = a := (by simpa [Mip.kids, Mip.eFby] using hq.symm)
      subst e
      rw [ea]; rfl
    | 1, hq =>
      have e : q = b := (by simpa [Mip.kids, Mip.eFby] using hq.symm)
      subst e
      rw [eb]; rfl
    | j + 2, hq => simp [Mip.kids, Mip.eFby] at hq
  · intro p a k _ _ ha
    refine ⟨⟨_, _, rfl⟩, fun w => ?_⟩
    obtain ⟨⟨ta, ya, ea⟩, _⟩ := ha
    have e0 : ev N (Mip.eUnder p a k) = .iface 168 (.agg #[.int .i64 ((N : Int) - (p : Nat)), .iface ta ya, .int .i64 (k : Nat)]) := by show Value.iface _ (.agg #[.int .i64 ((N : Int) - (p : Nat)), ev N a, .int .i64 (k : Nat)]) = _; rw [ea]
    rw [e0]
    have q0 := ta_under_pre (.agg #[.int .i64 ((N : Int) - (p : Nat)), .iface ta ya, .int .i64 (k : Nat)])
    have q1 := ta_under_two (.agg #[.int .i64 ((N : Int) - (p : Nat)), .iface ta ya, .int .i64 (k : Nat)])
    have q2 := ta_under_if (.agg #[.int .i64 ((N : Int) - (p : Nat)), .iface ta ya, .int .i64 (k : Nat)])
    have q3 := ta_under_fby (.agg #[.int .i64 ((N : Int) - (p : Nat)), .iface ta ya, .int .i64 (k : Nat)])
    have q4 := ta_under_under (.agg #[.int .i64 ((N : Int) - (p : Nat)), .iface ta ya, .int .i64 (k : Nat)])
    have HB : Hid (Below w.heap.size w ((w.alloc (.cells #[.int .i64 ((N : Int) - (p : Nat)), .iface ta ya, .int .i64 (k : Nat)] 168)).alloc (.cells #[.iface ta ya] 87))) := (below_step ((Below.refl w.heap.size w).alloc (Nat.le_refl _) _) ((Below.refl _ _).alloc (Nat.le_refl _) _))
    have HC : Hid (∀ j u, (#[.iface ta ya] : Array Value)[j]? = some u → (((w.alloc (.cells #[.int .i64 ((N : Int) - (p : Nat)), .iface ta ya, .int .i64 (k : Nat)] 168)).alloc (.cells #[.iface ta ya] 87))).cell? ⟨w.heap.size + 1, j, none⟩ = some u) := fun j u hu => by
      have hr := heap_alloc_new (w.alloc (.cells #[.int .i64 ((N : Int) - (p : Nat)), .iface ta ya, .int .i64 (k : Nat)] 168)) (.cells #[.iface ta ya] 87)
      have hz : (w.alloc (.cells #[.int .i64 ((N : Int) - (p : Nat)), .iface ta ya, .int .i64 (k : Nat)] 168)).heap.size = w.heap.size + 1 := by simp
      rw [hz] at hr
      rw [cell_of_row _ _ j _ _ _ hr]; exact hu
    go_enter Tryz.func66, Tryz.ntmps66
    go_wp2
    go_ret
    refine ⟨HB.out, _, rfl, Or.inr ⟨w.heap.size + 1, by simp [Mip.kids, Mip.eUnder], fun j q hq => ?_⟩⟩
    refine HC.out j _ ?_
    match j, hq with
    | 0, hq =>
      have e : q = a := (by simpa [Mip.kids, Mip.eUnder] using hq.symm)
      subst e
      rw [ea]; rfl
    | j + 1, hq => simp [Mip.kids, Mip.eUnder] at hq
  · intro p a b k _ _ ha hb
    refine ⟨⟨_, _, rfl⟩, fun w => ?_⟩
    obtain ⟨⟨ta, ya, ea⟩, _⟩ := ha
    obtain ⟨⟨tb, yb, eb⟩, _⟩ := hb
    have e0 : ev N (Mip.eHold p a b k) = .iface 171 (.agg #[.int .i64 ((N : Int) - (p : Nat)), .iface ta ya, .iface tb yb, .int .i64 (k : Nat)]) := by show Value.iface _ (.agg #[.int .i64 ((N : Int) - (p : Nat)), ev N a, ev N b, .int .i64 (k : Nat)]) = _; rw [ea, eb]
    rw [e0]
    have q0 := ta_hold_pre (.agg #[.int .i64 ((N : Int) - (p : Nat)), .iface ta ya, .iface tb yb, .int .i64 (k : Nat)])
    have q1 := ta_hold_two (.agg #[.int .i64 ((N : Int) - (p : Nat)), .iface ta ya, .iface tb yb, .int .i64 (k : Nat)])
    have q2 := ta_hold_if (.agg #[.int .i64 ((N : Int) - (p : Nat)), .iface ta ya, .iface tb yb, .int .i64 (k : Nat)])
    have q3 := ta_hold_fby (.agg #[.int .i64 ((N : Int) - (p : Nat)), .iface ta ya, .iface tb yb, .int .i64 (k : Nat)])
    have q4 := ta_hold_under (.agg #[.int .i64 ((N : Int) - (p : Nat)), .iface ta ya, .iface tb yb, .int .i64 (k : Nat)])
    have q5 := ta_hold_hold (.agg #[.int .i64 ((N : Int) - (p : Nat)), .iface ta ya, .iface tb yb, .int .i64 (k : Nat)])
    have HB : Hid (Below w.heap.size w ((w.alloc (.cells #[.int .i64 ((N : Int) - (p : Nat)), .iface ta ya, .iface tb yb, .int .i64 (k : Nat)] 171)).alloc (.cells #[.iface ta ya, .iface tb yb] 87))) := (below_step ((Below.refl w.heap.size w).alloc (Nat.le_refl _) _) ((Below.refl _ _).alloc (Nat.le_refl _) _))
    have HC : Hid (∀ j u, (#[.iface ta ya, .iface tb yb] : Array Value)[j]? = some u → (((w.alloc (.cells #[.int .i64 ((N : Int) - (p : Nat)), .iface ta ya, .iface tb yb, .int .i64 (k : Nat)] 171)).alloc (.cells #[.iface ta ya, .iface tb yb] 87))).cell? ⟨w.heap.size + 1, j, none⟩ = some u) := fun j u hu => by
      have hr := heap_alloc_new (w.alloc (.cells #[.int .i64 ((N : Int) - (p : Nat)), .iface ta ya, .iface tb yb, .int .i64 (k : Nat)] 171)) (.cells #[.iface ta ya, .iface tb yb] 87)
      have hz : (w.alloc (.cells #[.int .i64 ((N : Int) - (p : Nat)), .iface ta ya, .iface tb yb, .int .i64 (k : Nat)] 171)).heap.size = w.heap.size + 1 := by simp
      rw [hz] at hr
      rw [cell_of_row _ _ j _ _ _ hr]; exact hu
    go_enter Tryz.func66, Tryz.ntmps66
    go_wp2
    go_ret
    refine ⟨HB.out, _, rfl, Or.inr ⟨w.heap.size + 1, by simp [Mip.kids, Mip.eHold], fun j q hq => ?_⟩⟩
    refine HC.out j _ ?_
    match j, hq with
    | 0, hq =>
      have e : q = a := (by simpa [Mip.kids, Mip.eHold] using hq.symm)
      subst e
      rw [ea]; rfl
    | 1, hq =>
      have e : q = b := (by simpa [Mip.kids, Mip.eHold] using hq.symm)
      subst e
      rw [eb]; rfl
    | j + 2, hq => simp [Mip.kids, Mip.eHold] at hq
  · intro p x a b _ ha hb
    refine ⟨⟨_, _, rfl⟩, fun w => ?_⟩
    obtain ⟨⟨ta, ya, ea⟩, _⟩ := ha
    obtain ⟨⟨tb, yb, eb⟩, _⟩ := hb
    have e0 : ev N (Mip.eLeast p x a b) = .iface 192 (.agg #[.int .i64 ((N : Int) - (p : Nat)), .string (bs x), .iface ta ya, .iface tb yb]) := by show Value.iface _ (.agg #[.int .i64 ((N : Int) - (p : Nat)), .string (bs x), ev N a, ev N b]) = _; rw [ea, eb]
    rw [e0]
    have q0 := ta_least_pre (.agg #[.int .i64 ((N : Int) - (p : Nat)), .string (bs x), .iface ta ya, .iface tb yb])
    have q1 := ta_least_two (.agg #[.int .i64 ((N : Int) - (p : Nat)), .string (bs x), .iface ta ya, .iface tb yb])
    have q2 := ta_least_if (.agg #[.int .i64 ((N : Int) - (p : Nat)), .string (bs x), .iface ta ya, .iface tb yb])
    have q3 := ta_least_fby (.agg #[.int .i64 ((N : Int) - (p : Nat)), .string (bs x), .iface ta ya, .iface tb yb])
    have q4 := ta_least_under (.agg #[.int .i64 ((N : Int) - (p : Nat)), .string (bs x), .iface ta ya, .iface tb yb])
    have q5 := ta_least_hold (.agg #[.int .i64 ((N : Int) - (p : Nat)), .string (bs x), .iface ta ya, .iface tb yb])
    have q6 := ta_least_least (.agg #[.int .i64 ((N : Int) - (p : Nat)), .string (bs x), .iface ta ya, .iface tb yb])
    have HB : Hid (Below w.heap.size w ((w.alloc (.cells #[.int .i64 ((N : Int) - (p : Nat)), .string (bs x), .iface ta ya, .iface tb yb] 192)).alloc (.cells #[.iface ta ya, .iface tb yb] 87))) := (below_step ((Below.refl w.heap.size w).alloc (Nat.le_refl _) _) ((Below.refl _ _).alloc (Nat.le_refl _) _))
    have HC : Hid (∀ j u, (#[.iface ta ya, .iface tb yb] : Array Value)[j]? = some u → (((w.alloc (.cells #[.int .i64 ((N : Int) - (p : Nat)), .string (bs x), .iface ta ya, .iface tb yb] 192)).alloc (.cells #[.iface ta ya, .iface tb yb] 87))).cell? ⟨w.heap.size + 1, j, none⟩ = some u) := fun j u hu => by
      have hr := heap_alloc_new (w.alloc (.cells #[.int .i64 ((N : Int) - (p : Nat)), .string (bs x), .iface ta ya, .iface tb yb] 192)) (.cells #[.iface ta ya, .iface tb yb] 87)
      have hz : (w.alloc (.cells #[.int .i64 ((N : Int) - (p : Nat)), .string (bs x), .iface ta ya, .iface tb yb] 192)).heap.size = w.heap.size + 1 := by simp
      rw [hz] at hr
      rw [cell_of_row _ _ j _ _ _ hr]; exact hu
    go_enter Tryz.func66, Tryz.ntmps66
    go_wp2
    go_ret
    refine ⟨HB.out, _, rfl, Or.inr ⟨w.heap.size + 1, by simp [Mip.kids, Mip.eLeast], fun j q hq => ?_⟩⟩
    refine HC.out j _ ?_
    match j, hq with
    | 0, hq =>
      have e : q = a := (by simpa [Mip.kids, Mip.eLeast] using hq.symm)
      subst e
      rw [ea]; rfl
    | 1, hq =>
      have e : q = b := (by simpa [Mip.kids, Mip.eLeast] using hq.symm)
      subst e
      rw [eb]; rfl
    | j + 2, hq => simp [Mip.kids, Mip.eLeast] at hq
theorem operands_any (N : Nat) (e : Mip.E) (h : Mil.wf (Mip.er e) false) (w : World) : Calls Tryz.prog 66 #[ev N e] w (OpPost N e w) := (operands_all N e h).2 w
theorem ev_iface (N : Nat) (e : Mip.E) (h : Mil.wf (Mip.er e) false) : ∃ t y, ev N e = .iface t y := (operands_all N e h).1

end Go.Proofs.YtibbjohkiigffaaGreatDoor
