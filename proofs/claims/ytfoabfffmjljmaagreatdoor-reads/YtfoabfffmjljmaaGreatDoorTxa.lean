/-
  Printing: the type switch, the methods, operandText. (Printed by gen_print2.py.)
-/
import Derived.Test.YtfoabfffmjljmaaGreatDoorTxz
namespace Go.Proofs.YtfoabfffmjljmaaGreatDoor
open Go.RowKit

theorem as_int_int (v : Value) (w : World) : (Instr.typeAssert (.iface 173 v) 117 173 true).run Tryz.prog w = .ok (.tuple #[v, .bool true]) w := by kernel_rfl
theorem as_bool_int (v : Value) (w : World) : (Instr.typeAssert (.iface 167 v) 117 173 true).run Tryz.prog w = .ok (.tuple #[.agg #[.int .i64 0, .int .i64 0], .bool false]) w := by kernel_rfl
theorem as_bool_bool (v : Value) (w : World) : (Instr.typeAssert (.iface 167 v) 117 167 true).run Tryz.prog w = .ok (.tuple #[v, .bool true]) w := by kernel_rfl
theorem as_name_int (v : Value) (w : World) : (Instr.typeAssert (.iface 106 v) 117 173 true).run Tryz.prog w = .ok (.tuple #[.agg #[.int .i64 0, .int .i64 0], .bool false]) w := by kernel_rfl
theorem as_name_bool (v : Value) (w : World) : (Instr.typeAssert (.iface 106 v) 117 167 true).run Tryz.prog w = .ok (.tuple #[.agg #[.int .i64 0, .bool false], .bool false]) w := by kernel_rfl
theorem as_name_name (v : Value) (w : World) : (Instr.typeAssert (.iface 106 v) 117 106 true).run Tryz.prog w = .ok (.tuple #[v, .bool true]) w := by kernel_rfl
theorem as_pre_int (v : Value) (w : World) : (Instr.typeAssert (.iface 136 v) 117 173 true).run Tryz.prog w = .ok (.tuple #[.agg #[.int .i64 0, .int .i64 0], .bool false]) w := by kernel_rfl
theorem as_pre_bool (v : Value) (w : World) : (Instr.typeAssert (.iface 136 v) 117 167 true).run Tryz.prog w = .ok (.tuple #[.agg #[.int .i64 0, .bool false], .bool false]) w := by kernel_rfl
theorem as_pre_name (v : Value) (w : World) : (Instr.typeAssert (.iface 136 v) 117 106 true).run Tryz.prog w = .ok (.tuple #[.agg #[.int .i64 0, .string ⟨#[]⟩], .bool false]) w := by kernel_rfl
theorem as_pre_pre (v : Value) (w : World) : (Instr.typeAssert (.iface 136 v) 117 136 true).run Tryz.prog w = .ok (.tuple #[v, .bool true]) w := by kernel_rfl
theorem as_two_int (v : Value) (w : World) : (Instr.typeAssert (.iface 139 v) 117 173 true).run Tryz.prog w = .ok (.tuple #[.agg #[.int .i64 0, .int .i64 0], .bool false]) w := by kernel_rfl
theorem as_two_bool (v : Value) (w : World) : (Instr.typeAssert (.iface 139 v) 117 167 true).run Tryz.prog w = .ok (.tuple #[.agg #[.int .i64 0, .bool false], .bool false]) w := by kernel_rfl
theorem as_two_name (v : Value) (w : World) : (Instr.typeAssert (.iface 139 v) 117 106 true).run Tryz.prog w = .ok (.tuple #[.agg #[.int .i64 0, .string ⟨#[]⟩], .bool false]) w := by kernel_rfl
theorem as_two_pre (v : Value) (w : World) : (Instr.typeAssert (.iface 139 v) 117 136 true).run Tryz.prog w = .ok (.tuple #[.agg #[.int .i64 0, .string ⟨#[]⟩, .nilIface], .bool false]) w := by kernel_rfl
theorem as_two_two (v : Value) (w : World) : (Instr.typeAssert (.iface 139 v) 117 139 true).run Tryz.prog w = .ok (.tuple #[v, .bool true]) w := by kernel_rfl
theorem as_if_int (v : Value) (w : World) : (Instr.typeAssert (.iface 133 v) 117 173 true).run Tryz.prog w = .ok (.tuple #[.agg #[.int .i64 0, .int .i64 0], .bool false]) w := by kernel_rfl
theorem as_if_bool (v : Value) (w : World) : (Instr.typeAssert (.iface 133 v) 117 167 true).run Tryz.prog w = .ok (.tuple #[.agg #[.int .i64 0, .bool false], .bool false]) w := by kernel_rfl
theorem as_if_name (v : Value) (w : World) : (Instr.typeAssert (.iface 133 v) 117 106 true).run Tryz.prog w = .ok (.tuple #[.agg #[.int .i64 0, .string ⟨#[]⟩], .bool false]) w := by kernel_rfl
theorem as_if_pre (v : Value) (w : World) : (Instr.typeAssert (.iface 133 v) 117 136 true).run Tryz.prog w = .ok (.tuple #[.agg #[.int .i64 0, .string ⟨#[]⟩, .nilIface], .bool false]) w := by kernel_rfl
theorem as_if_two (v : Value) (w : World) : (Instr.typeAssert (.iface 133 v) 117 139 true).run Tryz.prog w = .ok (.tuple #[.agg #[.int .i64 0, .string ⟨#[]⟩, .nilIface, .nilIface], .bool false]) w := by kernel_rfl
theorem as_if_if (v : Value) (w : World) : (Instr.typeAssert (.iface 133 v) 117 133 true).run Tryz.prog w = .ok (.tuple #[v, .bool true]) w := by kernel_rfl
theorem as_fby_int (v : Value) (w : World) : (Instr.typeAssert (.iface 159 v) 117 173 true).run Tryz.prog w = .ok (.tuple #[.agg #[.int .i64 0, .int .i64 0], .bool false]) w := by kernel_rfl
theorem as_fby_bool (v : Value) (w : World) : (Instr.typeAssert (.iface 159 v) 117 167 true).run Tryz.prog w = .ok (.tuple #[.agg #[.int .i64 0, .bool false], .bool false]) w := by kernel_rfl
theorem as_fby_name (v : Value) (w : World) : (Instr.typeAssert (.iface 159 v) 117 106 true).run Tryz.prog w = .ok (.tuple #[.agg #[.int .i64 0, .string ⟨#[]⟩], .bool false]) w := by kernel_rfl
theorem as_fby_pre (v : Value) (w : World) : (Instr.typeAssert (.iface 159 v) 117 136 true).run Tryz.prog w = .ok (.tuple #[.agg #[.int .i64 0, .string ⟨#[]⟩, .nilIface], .bool false]) w := by kernel_rfl
theorem as_fby_two (v : Value) (w : World) : (Instr.typeAssert (.iface 159 v) 117 139 true).run Tryz.prog w = .ok (.tuple #[.agg #[.int .i64 0, .string ⟨#[]⟩, .nilIface, .nilIface], .bool false]) w := by kernel_rfl
theorem as_fby_if (v : Value) (w : World) : (Instr.typeAssert (.iface 159 v) 117 133 true).run Tryz.prog w = .ok (.tuple #[.agg #[.int .i64 0, .nilIface, .nilIface, .nilIface], .bool false]) w := by kernel_rfl
theorem as_fby_fby (v : Value) (w : World) : (Instr.typeAssert (.iface 159 v) 117 159 true).run Tryz.prog w = .ok (.tuple #[v, .bool true]) w := by kernel_rfl
theorem as_under_int (v : Value) (w : World) : (Instr.typeAssert (.iface 161 v) 117 173 true).run Tryz.prog w = .ok (.tuple #[.agg #[.int .i64 0, .int .i64 0], .bool false]) w := by kernel_rfl
theorem as_under_bool (v : Value) (w : World) : (Instr.typeAssert (.iface 161 v) 117 167 true).run Tryz.prog w = .ok (.tuple #[.agg #[.int .i64 0, .bool false], .bool false]) w := by kernel_rfl
theorem as_under_name (v : Value) (w : World) : (Instr.typeAssert (.iface 161 v) 117 106 true).run Tryz.prog w = .ok (.tuple #[.agg #[.int .i64 0, .string ⟨#[]⟩], .bool false]) w := by kernel_rfl
theorem as_under_pre (v : Value) (w : World) : (Instr.typeAssert (.iface 161 v) 117 136 true).run Tryz.prog w = .ok (.tuple #[.agg #[.int .i64 0, .string ⟨#[]⟩, .nilIface], .bool false]) w := by kernel_rfl
theorem as_under_two (v : Value) (w : World) : (Instr.typeAssert (.iface 161 v) 117 139 true).run Tryz.prog w = .ok (.tuple #[.agg #[.int .i64 0, .string ⟨#[]⟩, .nilIface, .nilIface], .bool false]) w := by kernel_rfl
theorem as_under_if (v : Value) (w : World) : (Instr.typeAssert (.iface 161 v) 117 133 true).run Tryz.prog w = .ok (.tuple #[.agg #[.int .i64 0, .nilIface, .nilIface, .nilIface], .bool false]) w := by kernel_rfl
theorem as_under_fby (v : Value) (w : World) : (Instr.typeAssert (.iface 161 v) 117 159 true).run Tryz.prog w = .ok (.tuple #[.agg #[.int .i64 0, .nilIface, .nilIface], .bool false]) w := by kernel_rfl
theorem as_under_under (v : Value) (w : World) : (Instr.typeAssert (.iface 161 v) 117 161 true).run Tryz.prog w = .ok (.tuple #[v, .bool true]) w := by kernel_rfl
theorem as_hold_int (v : Value) (w : World) : (Instr.typeAssert (.iface 163 v) 117 173 true).run Tryz.prog w = .ok (.tuple #[.agg #[.int .i64 0, .int .i64 0], .bool false]) w := by kernel_rfl
theorem as_hold_bool (v : Value) (w : World) : (Instr.typeAssert (.iface 163 v) 117 167 true).run Tryz.prog w = .ok (.tuple #[.agg #[.int .i64 0, .bool false], .bool false]) w := by kernel_rfl
theorem as_hold_name (v : Value) (w : World) : (Instr.typeAssert (.iface 163 v) 117 106 true).run Tryz.prog w = .ok (.tuple #[.agg #[.int .i64 0, .string ⟨#[]⟩], .bool false]) w := by kernel_rfl
theorem as_hold_pre (v : Value) (w : World) : (Instr.typeAssert (.iface 163 v) 117 136 true).run Tryz.prog w = .ok (.tuple #[.agg #[.int .i64 0, .string ⟨#[]⟩, .nilIface], .bool false]) w := by kernel_rfl
theorem as_hold_two (v : Value) (w : World) : (Instr.typeAssert (.iface 163 v) 117 139 true).run Tryz.prog w = .ok (.tuple #[.agg #[.int .i64 0, .string ⟨#[]⟩, .nilIface, .nilIface], .bool false]) w := by kernel_rfl
theorem as_hold_if (v : Value) (w : World) : (Instr.typeAssert (.iface 163 v) 117 133 true).run Tryz.prog w = .ok (.tuple #[.agg #[.int .i64 0, .nilIface, .nilIface, .nilIface], .bool false]) w := by kernel_rfl
theorem as_hold_fby (v : Value) (w : World) : (Instr.typeAssert (.iface 163 v) 117 159 true).run Tryz.prog w = .ok (.tuple #[.agg #[.int .i64 0, .nilIface, .nilIface], .bool false]) w := by kernel_rfl
theorem as_hold_under (v : Value) (w : World) : (Instr.typeAssert (.iface 163 v) 117 161 true).run Tryz.prog w = .ok (.tuple #[.agg #[.int .i64 0, .nilIface, .int .i64 0], .bool false]) w := by kernel_rfl
theorem as_hold_hold (v : Value) (w : World) : (Instr.typeAssert (.iface 163 v) 117 163 true).run Tryz.prog w = .ok (.tuple #[v, .bool true]) w := by kernel_rfl
theorem as_least_int (v : Value) (w : World) : (Instr.typeAssert (.iface 165 v) 117 173 true).run Tryz.prog w = .ok (.tuple #[.agg #[.int .i64 0, .int .i64 0], .bool false]) w := by kernel_rfl
theorem as_least_bool (v : Value) (w : World) : (Instr.typeAssert (.iface 165 v) 117 167 true).run Tryz.prog w = .ok (.tuple #[.agg #[.int .i64 0, .bool false], .bool false]) w := by kernel_rfl
theorem as_least_name (v : Value) (w : World) : (Instr.typeAssert (.iface 165 v) 117 106 true).run Tryz.prog w = .ok (.tuple #[.agg #[.int .i64 0, .string ⟨#[]⟩], .bool false]) w := by kernel_rfl
theorem as_least_pre (v : Value) (w : World) : (Instr.typeAssert (.iface 165 v) 117 136 true).run Tryz.prog w = .ok (.tuple #[.agg #[.int .i64 0, .string ⟨#[]⟩, .nilIface], .bool false]) w := by kernel_rfl
theorem as_least_two (v : Value) (w : World) : (Instr.typeAssert (.iface 165 v) 117 139 true).run Tryz.prog w = .ok (.tuple #[.agg #[.int .i64 0, .string ⟨#[]⟩, .nilIface, .nilIface], .bool false]) w := by kernel_rfl
theorem as_least_if (v : Value) (w : World) : (Instr.typeAssert (.iface 165 v) 117 133 true).run Tryz.prog w = .ok (.tuple #[.agg #[.int .i64 0, .nilIface, .nilIface, .nilIface], .bool false]) w := by kernel_rfl
theorem as_least_fby (v : Value) (w : World) : (Instr.typeAssert (.iface 165 v) 117 159 true).run Tryz.prog w = .ok (.tuple #[.agg #[.int .i64 0, .nilIface, .nilIface], .bool false]) w := by kernel_rfl
theorem as_least_under (v : Value) (w : World) : (Instr.typeAssert (.iface 165 v) 117 161 true).run Tryz.prog w = .ok (.tuple #[.agg #[.int .i64 0, .nilIface, .int .i64 0], .bool false]) w := by kernel_rfl
theorem as_least_hold (v : Value) (w : World) : (Instr.typeAssert (.iface 165 v) 117 163 true).run Tryz.prog w = .ok (.tuple #[.agg #[.int .i64 0, .nilIface, .nilIface, .int .i64 0], .bool false]) w := by kernel_rfl
theorem as_least_least (v : Value) (w : World) : (Instr.typeAssert (.iface 165 v) 117 165 true).run Tryz.prog w = .ok (.tuple #[v, .bool true]) w := by kernel_rfl
theorem me_int (u0 : Value) (u1 : Value) (w : World) : (Go.method 326 173 (.agg #[u0, u1]) "ratemill/mill.tightness").run Tryz.prog w = .ok (145, .agg #[u0]) w := by kernel_rfl
theorem me_bool (u0 : Value) (u1 : Value) (w : World) : (Go.method 326 167 (.agg #[u0, u1]) "ratemill/mill.tightness").run Tryz.prog w = .ok (145, .agg #[u0]) w := by kernel_rfl
theorem me_name (u0 : Value) (u1 : Value) (w : World) : (Go.method 326 106 (.agg #[u0, u1]) "ratemill/mill.tightness").run Tryz.prog w = .ok (145, .agg #[u0]) w := by kernel_rfl
theorem me_pre (v : Value) (w : World) : (Go.method 326 136 v "ratemill/mill.tightness").run Tryz.prog w = .ok (139, v) w := by kernel_rfl
theorem me_two (v : Value) (w : World) : (Go.method 326 139 v "ratemill/mill.tightness").run Tryz.prog w = .ok (140, v) w := by kernel_rfl
theorem me_if (v : Value) (w : World) : (Go.method 326 133 v "ratemill/mill.tightness").run Tryz.prog w = .ok (141, v) w := by kernel_rfl
theorem me_fby (u0 : Value) (u1 : Value) (u2 : Value) (w : World) : (Go.method 326 159 (.agg #[u0, u1, u2]) "ratemill/mill.tightness").run Tryz.prog w = .ok (145, .agg #[u0]) w := by kernel_rfl
theorem me_under (u0 : Value) (u1 : Value) (u2 : Value) (w : World) : (Go.method 326 161 (.agg #[u0, u1, u2]) "ratemill/mill.tightness").run Tryz.prog w = .ok (145, .agg #[u0]) w := by kernel_rfl
theorem me_hold (u0 : Value) (u1 : Value) (u2 : Value) (u3 : Value) (w : World) : (Go.method 326 163 (.agg #[u0, u1, u2, u3]) "ratemill/mill.tightness").run Tryz.prog w = .ok (145, .agg #[u0]) w := by kernel_rfl
theorem me_least (u0 : Value) (u1 : Value) (u2 : Value) (u3 : Value) (w : World) : (Go.method 326 165 (.agg #[u0, u1, u2, u3]) "ratemill/mill.tightness").run Tryz.prog w = .ok (145, .agg #[u0]) w := by kernel_rfl

def TC (a : Nat → Addr) (e : Mil.E) : Prop := ∀ v, Evs e v → ∀ w, Pl a w → Calls Tryz.prog 132 #[v] w (TxPost (Mil.txt e) w)
def OT (a : Nat → Addr) (e : Mil.E) : Prop := ∀ v, Evs e v → ∀ (w : World) (l : Nat), Pl a w → Calls Tryz.prog 138 #[v, .int .i64 (l : Nat)] w (TxPost (Mil.brack (Mil.tight e) l (Mil.txt e)) w)
/-- A call that answers a number. -/
def NuP (k : Nat) (w : World) (e : Ending) (w' : World) : Prop := e = .returned (.int .i64 (k : Nat)) ∧ Below w.heap.size w w'

set_option maxHeartbeats 1000000 in
theorem t_atom (u0 : Value) (w : World) : Calls Tryz.prog 145 #[.agg #[u0]] w (NuP 8 w) := by
  go_enter Tryz.func145, Tryz.ntmps145
  go_wp2
  go_ret
  exact ⟨rfl, (Below.refl _ _).alloc (Nat.le_refl _) _⟩
set_option maxHeartbeats 1000000 in
theorem t_if (u0 u1 u2 u3 : Value) (w : World) : Calls Tryz.prog 141 #[.agg #[u0, u1, u2, u3]] w (NuP 0 w) := by
  go_enter Tryz.func141, Tryz.ntmps141
  go_wp2
  go_ret
  exact ⟨rfl, (Below.refl _ _).alloc (Nat.le_refl _) _⟩
set_option maxHeartbeats 1000000 in
theorem t_pre (u : Int) (x : Mil.Bytes) (u1 : Value) (w : World) : Calls Tryz.prog 139 #[.agg #[.int .i64 u, .string (bs x), u1]] w (NuP (if x = Mil.wNot then 3 else 7) w) := by
  by_cases h : x = Mil.wNot
  · rw [if_pos h]
    have hb : ((bs x).toList == [110, 111, 116]) = true := by rw [Lib.toList_data, bs_list, h]; rfl
    clear h
    go_enter Tryz.func139, Tryz.ntmps139
    go_wp2
    go_ret
    exact ⟨rfl, (Below.refl _ _).alloc (Nat.le_refl _) _⟩
  · rw [if_neg h]
    have hb : ((bs x).toList == [110, 111, 116]) = false := by rw [Lib.toList_data, bs_list]; exact beq_false_of_ne h
    clear h
    go_enter Tryz.func139, Tryz.ntmps139
    go_wp2
    go_ret
    exact ⟨rfl, (Below.refl _ _).alloc (Nat.le_refl _) _⟩
set_option maxHeartbeats 1000000 in
theorem t_two (a : Nat → Addr) (u : Int) (x : Mil.Bytes) (hx : Mil.tightOf x ≠ 9) (u1 u2 : Value) (w : World) (h : Pl a w) : Calls Tryz.prog 140 #[.agg #[.int .i64 u, .string (bs x), u1, u2]] w (NuP (Mil.tightOf x) w) := by
  have HP : Hid (Pl a w) := h
  have HX : Hid (Mil.tightOf x ≠ 9) := hx
  clear h hx
  go_enter Tryz.func140, Tryz.ntmps140
  go_wp2_with fail
  have hb : Below w.heap.size w (w.alloc (.cells #[.int .i64 u, .string (bs x), u1, u2] 139)) := (Below.refl _ _).alloc (Nat.le_refl _) _
  refine (operatorOf_any a (bs x) _ (HP.out.below hb).l).mono ?_
  rintro e w1 ⟨⟨b1, b2, b3, rfl⟩, hb1⟩
  have HB : Hid (Below w.heap.size w w1) := below_step hb hb1
  clear hb hb1
  rw [bs_list, tightGo, if_neg HX.out]
  have hfd : ∀ w : World, (Instr.field 151 (.agg #[.string b1, .int .i64 ((Mil.tightOf x : Nat) : Int), .int .i64 b2, .int .i64 b3]) 1).run Tryz.prog w = .ok (.int .i64 ((Mil.tightOf x : Nat) : Int)) w := fun w => by kernel_rfl
  go_wp2
  go_ret
  exact ⟨rfl, HB.out⟩

end Go.Proofs.YtfoabfffmjljmaaGreatDoor
