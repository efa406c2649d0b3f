/-
  Printing: the type switch, the methods, operandText. (Printed by gen_reads.py.)
-/
import Derived.Test.YteheagaiphhhlaaGreatDoorPrt
namespace Go.Proofs.YteheagaiphhhlaaGreatDoor
open Go.RowKit

theorem as_int_int (v : Value) (w : World) : (Instr.typeAssert (.iface 161 v) 110 161 true).run Tryz.prog w = .ok (.tuple #[v, .bool true]) w := by kernel_rfl
theorem as_bool_int (v : Value) (w : World) : (Instr.typeAssert (.iface 159 v) 110 161 true).run Tryz.prog w = .ok (.tuple #[.agg #[.int .i64 0], .bool false]) w := by kernel_rfl
theorem as_bool_bool (v : Value) (w : World) : (Instr.typeAssert (.iface 159 v) 110 159 true).run Tryz.prog w = .ok (.tuple #[v, .bool true]) w := by kernel_rfl
theorem as_name_int (v : Value) (w : World) : (Instr.typeAssert (.iface 142 v) 110 161 true).run Tryz.prog w = .ok (.tuple #[.agg #[.int .i64 0], .bool false]) w := by kernel_rfl
theorem as_name_bool (v : Value) (w : World) : (Instr.typeAssert (.iface 142 v) 110 159 true).run Tryz.prog w = .ok (.tuple #[.agg #[.bool false], .bool false]) w := by kernel_rfl
theorem as_name_name (v : Value) (w : World) : (Instr.typeAssert (.iface 142 v) 110 142 true).run Tryz.prog w = .ok (.tuple #[v, .bool true]) w := by kernel_rfl
theorem as_pre_int (v : Value) (w : World) : (Instr.typeAssert (.iface 127 v) 110 161 true).run Tryz.prog w = .ok (.tuple #[.agg #[.int .i64 0], .bool false]) w := by kernel_rfl
theorem as_pre_bool (v : Value) (w : World) : (Instr.typeAssert (.iface 127 v) 110 159 true).run Tryz.prog w = .ok (.tuple #[.agg #[.bool false], .bool false]) w := by kernel_rfl
theorem as_pre_name (v : Value) (w : World) : (Instr.typeAssert (.iface 127 v) 110 142 true).run Tryz.prog w = .ok (.tuple #[.agg #[.string ⟨#[]⟩], .bool false]) w := by kernel_rfl
theorem as_pre_pre (v : Value) (w : World) : (Instr.typeAssert (.iface 127 v) 110 127 true).run Tryz.prog w = .ok (.tuple #[v, .bool true]) w := by kernel_rfl
theorem as_two_int (v : Value) (w : World) : (Instr.typeAssert (.iface 130 v) 110 161 true).run Tryz.prog w = .ok (.tuple #[.agg #[.int .i64 0], .bool false]) w := by kernel_rfl
theorem as_two_bool (v : Value) (w : World) : (Instr.typeAssert (.iface 130 v) 110 159 true).run Tryz.prog w = .ok (.tuple #[.agg #[.bool false], .bool false]) w := by kernel_rfl
theorem as_two_name (v : Value) (w : World) : (Instr.typeAssert (.iface 130 v) 110 142 true).run Tryz.prog w = .ok (.tuple #[.agg #[.string ⟨#[]⟩], .bool false]) w := by kernel_rfl
theorem as_two_pre (v : Value) (w : World) : (Instr.typeAssert (.iface 130 v) 110 127 true).run Tryz.prog w = .ok (.tuple #[.agg #[.string ⟨#[]⟩, .nilIface], .bool false]) w := by kernel_rfl
theorem as_two_two (v : Value) (w : World) : (Instr.typeAssert (.iface 130 v) 110 130 true).run Tryz.prog w = .ok (.tuple #[v, .bool true]) w := by kernel_rfl
theorem as_if_int (v : Value) (w : World) : (Instr.typeAssert (.iface 124 v) 110 161 true).run Tryz.prog w = .ok (.tuple #[.agg #[.int .i64 0], .bool false]) w := by kernel_rfl
theorem as_if_bool (v : Value) (w : World) : (Instr.typeAssert (.iface 124 v) 110 159 true).run Tryz.prog w = .ok (.tuple #[.agg #[.bool false], .bool false]) w := by kernel_rfl
theorem as_if_name (v : Value) (w : World) : (Instr.typeAssert (.iface 124 v) 110 142 true).run Tryz.prog w = .ok (.tuple #[.agg #[.string ⟨#[]⟩], .bool false]) w := by kernel_rfl
theorem as_if_pre (v : Value) (w : World) : (Instr.typeAssert (.iface 124 v) 110 127 true).run Tryz.prog w = .ok (.tuple #[.agg #[.string ⟨#[]⟩, .nilIface], .bool false]) w := by kernel_rfl
theorem as_if_two (v : Value) (w : World) : (Instr.typeAssert (.iface 124 v) 110 130 true).run Tryz.prog w = .ok (.tuple #[.agg #[.string ⟨#[]⟩, .nilIface, .nilIface], .bool false]) w := by kernel_rfl
theorem as_if_if (v : Value) (w : World) : (Instr.typeAssert (.iface 124 v) 110 124 true).run Tryz.prog w = .ok (.tuple #[v, .bool true]) w := by kernel_rfl
theorem as_fby_int (v : Value) (w : World) : (Instr.typeAssert (.iface 151 v) 110 161 true).run Tryz.prog w = .ok (.tuple #[.agg #[.int .i64 0], .bool false]) w := by kernel_rfl
theorem as_fby_bool (v : Value) (w : World) : (Instr.typeAssert (.iface 151 v) 110 159 true).run Tryz.prog w = .ok (.tuple #[.agg #[.bool false], .bool false]) w := by kernel_rfl
theorem as_fby_name (v : Value) (w : World) : (Instr.typeAssert (.iface 151 v) 110 142 true).run Tryz.prog w = .ok (.tuple #[.agg #[.string ⟨#[]⟩], .bool false]) w := by kernel_rfl
theorem as_fby_pre (v : Value) (w : World) : (Instr.typeAssert (.iface 151 v) 110 127 true).run Tryz.prog w = .ok (.tuple #[.agg #[.string ⟨#[]⟩, .nilIface], .bool false]) w := by kernel_rfl
theorem as_fby_two (v : Value) (w : World) : (Instr.typeAssert (.iface 151 v) 110 130 true).run Tryz.prog w = .ok (.tuple #[.agg #[.string ⟨#[]⟩, .nilIface, .nilIface], .bool false]) w := by kernel_rfl
theorem as_fby_if (v : Value) (w : World) : (Instr.typeAssert (.iface 151 v) 110 124 true).run Tryz.prog w = .ok (.tuple #[.agg #[.nilIface, .nilIface, .nilIface], .bool false]) w := by kernel_rfl
theorem as_fby_fby (v : Value) (w : World) : (Instr.typeAssert (.iface 151 v) 110 151 true).run Tryz.prog w = .ok (.tuple #[v, .bool true]) w := by kernel_rfl
theorem as_under_int (v : Value) (w : World) : (Instr.typeAssert (.iface 153 v) 110 161 true).run Tryz.prog w = .ok (.tuple #[.agg #[.int .i64 0], .bool false]) w := by kernel_rfl
theorem as_under_bool (v : Value) (w : World) : (Instr.typeAssert (.iface 153 v) 110 159 true).run Tryz.prog w = .ok (.tuple #[.agg #[.bool false], .bool false]) w := by kernel_rfl
theorem as_under_name (v : Value) (w : World) : (Instr.typeAssert (.iface 153 v) 110 142 true).run Tryz.prog w = .ok (.tuple #[.agg #[.string ⟨#[]⟩], .bool false]) w := by kernel_rfl
theorem as_under_pre (v : Value) (w : World) : (Instr.typeAssert (.iface 153 v) 110 127 true).run Tryz.prog w = .ok (.tuple #[.agg #[.string ⟨#[]⟩, .nilIface], .bool false]) w := by kernel_rfl
theorem as_under_two (v : Value) (w : World) : (Instr.typeAssert (.iface 153 v) 110 130 true).run Tryz.prog w = .ok (.tuple #[.agg #[.string ⟨#[]⟩, .nilIface, .nilIface], .bool false]) w := by kernel_rfl
theorem as_under_if (v : Value) (w : World) : (Instr.typeAssert (.iface 153 v) 110 124 true).run Tryz.prog w = .ok (.tuple #[.agg #[.nilIface, .nilIface, .nilIface], .bool false]) w := by kernel_rfl
theorem as_under_fby (v : Value) (w : World) : (Instr.typeAssert (.iface 153 v) 110 151 true).run Tryz.prog w = .ok (.tuple #[.agg #[.nilIface, .nilIface], .bool false]) w := by kernel_rfl
theorem as_under_under (v : Value) (w : World) : (Instr.typeAssert (.iface 153 v) 110 153 true).run Tryz.prog w = .ok (.tuple #[v, .bool true]) w := by kernel_rfl
theorem as_hold_int (v : Value) (w : World) : (Instr.typeAssert (.iface 155 v) 110 161 true).run Tryz.prog w = .ok (.tuple #[.agg #[.int .i64 0], .bool false]) w := by kernel_rfl
theorem as_hold_bool (v : Value) (w : World) : (Instr.typeAssert (.iface 155 v) 110 159 true).run Tryz.prog w = .ok (.tuple #[.agg #[.bool false], .bool false]) w := by kernel_rfl
theorem as_hold_name (v : Value) (w : World) : (Instr.typeAssert (.iface 155 v) 110 142 true).run Tryz.prog w = .ok (.tuple #[.agg #[.string ⟨#[]⟩], .bool false]) w := by kernel_rfl
theorem as_hold_pre (v : Value) (w : World) : (Instr.typeAssert (.iface 155 v) 110 127 true).run Tryz.prog w = .ok (.tuple #[.agg #[.string ⟨#[]⟩, .nilIface], .bool false]) w := by kernel_rfl
theorem as_hold_two (v : Value) (w : World) : (Instr.typeAssert (.iface 155 v) 110 130 true).run Tryz.prog w = .ok (.tuple #[.agg #[.string ⟨#[]⟩, .nilIface, .nilIface], .bool false]) w := by kernel_rfl
theorem as_hold_if (v : Value) (w : World) : (Instr.typeAssert (.iface 155 v) 110 124 true).run Tryz.prog w = .ok (.tuple #[.agg #[.nilIface, .nilIface, .nilIface], .bool false]) w := by kernel_rfl
theorem as_hold_fby (v : Value) (w : World) : (Instr.typeAssert (.iface 155 v) 110 151 true).run Tryz.prog w = .ok (.tuple #[.agg #[.nilIface, .nilIface], .bool false]) w := by kernel_rfl
theorem as_hold_under (v : Value) (w : World) : (Instr.typeAssert (.iface 155 v) 110 153 true).run Tryz.prog w = .ok (.tuple #[.agg #[.nilIface, .int .i64 0], .bool false]) w := by kernel_rfl
theorem as_hold_hold (v : Value) (w : World) : (Instr.typeAssert (.iface 155 v) 110 155 true).run Tryz.prog w = .ok (.tuple #[v, .bool true]) w := by kernel_rfl
theorem as_least_int (v : Value) (w : World) : (Instr.typeAssert (.iface 157 v) 110 161 true).run Tryz.prog w = .ok (.tuple #[.agg #[.int .i64 0], .bool false]) w := by kernel_rfl
theorem as_least_bool (v : Value) (w : World) : (Instr.typeAssert (.iface 157 v) 110 159 true).run Tryz.prog w = .ok (.tuple #[.agg #[.bool false], .bool false]) w := by kernel_rfl
theorem as_least_name (v : Value) (w : World) : (Instr.typeAssert (.iface 157 v) 110 142 true).run Tryz.prog w = .ok (.tuple #[.agg #[.string ⟨#[]⟩], .bool false]) w := by kernel_rfl
theorem as_least_pre (v : Value) (w : World) : (Instr.typeAssert (.iface 157 v) 110 127 true).run Tryz.prog w = .ok (.tuple #[.agg #[.string ⟨#[]⟩, .nilIface], .bool false]) w := by kernel_rfl
theorem as_least_two (v : Value) (w : World) : (Instr.typeAssert (.iface 157 v) 110 130 true).run Tryz.prog w = .ok (.tuple #[.agg #[.string ⟨#[]⟩, .nilIface, .nilIface], .bool false]) w := by kernel_rfl
theorem as_least_if (v : Value) (w : World) : (Instr.typeAssert (.iface 157 v) 110 124 true).run Tryz.prog w = .ok (.tuple #[.agg #[.nilIface, .nilIface, .nilIface], .bool false]) w := by kernel_rfl
theorem as_least_fby (v : Value) (w : World) : (Instr.typeAssert (.iface 157 v) 110 151 true).run Tryz.prog w = .ok (.tuple #[.agg #[.nilIface, .nilIface], .bool false]) w := by kernel_rfl
theorem as_least_under (v : Value) (w : World) : (Instr.typeAssert (.iface 157 v) 110 153 true).run Tryz.prog w = .ok (.tuple #[.agg #[.nilIface, .int .i64 0], .bool false]) w := by kernel_rfl
theorem as_least_hold (v : Value) (w : World) : (Instr.typeAssert (.iface 157 v) 110 155 true).run Tryz.prog w = .ok (.tuple #[.agg #[.nilIface, .nilIface, .int .i64 0], .bool false]) w := by kernel_rfl
theorem as_least_least (v : Value) (w : World) : (Instr.typeAssert (.iface 157 v) 110 157 true).run Tryz.prog w = .ok (.tuple #[v, .bool true]) w := by kernel_rfl
theorem me_int (u0 : Value) (w : World) : (Go.method 318 161 (.agg #[u0]) "ratemill/mill.tightness").run Tryz.prog w = .ok (141, .agg #[]) w := by kernel_rfl
theorem me_bool (u0 : Value) (w : World) : (Go.method 318 159 (.agg #[u0]) "ratemill/mill.tightness").run Tryz.prog w = .ok (141, .agg #[]) w := by kernel_rfl
theorem me_name (u0 : Value) (w : World) : (Go.method 318 142 (.agg #[u0]) "ratemill/mill.tightness").run Tryz.prog w = .ok (141, .agg #[]) w := by kernel_rfl
theorem me_pre (v : Value) (w : World) : (Go.method 318 127 v "ratemill/mill.tightness").run Tryz.prog w = .ok (135, v) w := by kernel_rfl
theorem me_two (v : Value) (w : World) : (Go.method 318 130 v "ratemill/mill.tightness").run Tryz.prog w = .ok (136, v) w := by kernel_rfl
theorem me_if (v : Value) (w : World) : (Go.method 318 124 v "ratemill/mill.tightness").run Tryz.prog w = .ok (137, v) w := by kernel_rfl
theorem me_fby (u0 : Value) (u1 : Value) (w : World) : (Go.method 318 151 (.agg #[u0, u1]) "ratemill/mill.tightness").run Tryz.prog w = .ok (141, .agg #[]) w := by kernel_rfl
theorem me_under (u0 : Value) (u1 : Value) (w : World) : (Go.method 318 153 (.agg #[u0, u1]) "ratemill/mill.tightness").run Tryz.prog w = .ok (141, .agg #[]) w := by kernel_rfl
theorem me_hold (u0 : Value) (u1 : Value) (u2 : Value) (w : World) : (Go.method 318 155 (.agg #[u0, u1, u2]) "ratemill/mill.tightness").run Tryz.prog w = .ok (141, .agg #[]) w := by kernel_rfl
theorem me_least (u0 : Value) (u1 : Value) (u2 : Value) (w : World) : (Go.method 318 157 (.agg #[u0, u1, u2]) "ratemill/mill.tightness").run Tryz.prog w = .ok (141, .agg #[]) w := by kernel_rfl

def TC (a : Nat → Addr) (e : Mil.E) : Prop := ∀ w, Pl a w → Calls Tryz.prog 128 #[ev e] w (TxPost (Mil.txt e) w)
def OT (a : Nat → Addr) (e : Mil.E) : Prop := ∀ (w : World) (l : Nat), Pl a w → Calls Tryz.prog 134 #[ev e, .int .i64 (l : Nat)] w (TxPost (Mil.brack (Mil.tight e) l (Mil.txt e)) w)
/-- A call that answers a number. -/
def NuP (k : Nat) (w : World) (e : Ending) (w' : World) : Prop := e = .returned (.int .i64 (k : Nat)) ∧ Below w.heap.size w w'

set_option maxHeartbeats 1000000 in
theorem t_atom (w : World) : Calls Tryz.prog 141 #[.agg #[]] w (NuP 8 w) := by
  go_enter Tryz.func141, Tryz.ntmps141
  go_wp2
  go_ret
  exact ⟨rfl, (Below.refl _ _).alloc (Nat.le_refl _) _⟩
set_option maxHeartbeats 1000000 in
theorem t_if (u0 u1 u2 : Value) (w : World) : Calls Tryz.prog 137 #[.agg #[u0, u1, u2]] w (NuP 0 w) := by
  go_enter Tryz.func137, Tryz.ntmps137
  go_wp2
  go_ret
  exact ⟨rfl, (Below.refl _ _).alloc (Nat.le_refl _) _⟩
set_option maxHeartbeats 1000000 in
theorem t_pre (x : Mil.Bytes) (u1 : Value) (w : World) : Calls Tryz.prog 135 #[.agg #[.string (bs x), u1]] w (NuP (if x = Mil.wNot then 3 else 7) w) := by
  by_cases h : x = Mil.wNot
  · rw [if_pos h]
    have hb : ((bs x).toList == [110, 111, 116]) = true := by rw [Lib.toList_data, bs_list, h]; rfl
    clear h
    go_enter Tryz.func135, Tryz.ntmps135
    go_wp2
    go_ret
    exact ⟨rfl, (Below.refl _ _).alloc (Nat.le_refl _) _⟩
  · rw [if_neg h]
    have hb : ((bs x).toList == [110, 111, 116]) = false := by rw [Lib.toList_data, bs_list]; exact beq_false_of_ne h
    clear h
    go_enter Tryz.func135, Tryz.ntmps135
    go_wp2
    go_ret
    exact ⟨rfl, (Below.refl _ _).alloc (Nat.le_refl _) _⟩
set_option maxHeartbeats 1000000 in
theorem t_two (a : Nat → Addr) (x : Mil.Bytes) (hx : Mil.tightOf x ≠ 9) (u1 u2 : Value) (w : World) (h : Pl a w) : Calls Tryz.prog 136 #[.agg #[.string (bs x), u1, u2]] w (NuP (Mil.tightOf x) w) := by
  have HP : Hid (Pl a w) := h
  have HX : Hid (Mil.tightOf x ≠ 9) := hx
  clear h hx
  go_enter Tryz.func136, Tryz.ntmps136
  go_wp2_with fail
  have hb : Below w.heap.size w (w.alloc (.cells #[.string (bs x), u1, u2] 130)) := (Below.refl _ _).alloc (Nat.le_refl _) _
  refine (tightnessOf_any a (bs x) _ (HP.out.below hb).l).mono ?_
  rintro e w1 ⟨rfl, hb1⟩
  have HB : Hid (Below w.heap.size w w1) := below_step hb hb1
  clear hb hb1
  go_wp2
  go_ret
  refine ⟨?_, HB.out⟩
  rw [bs_list, tightGo, if_neg HX.out]; rfl

end Go.Proofs.YteheagaiphhhlaaGreatDoor
