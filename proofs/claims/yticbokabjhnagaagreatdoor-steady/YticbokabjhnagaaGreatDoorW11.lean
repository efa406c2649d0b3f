import Derived.Test.YticbokabjhnagaaGreatDoorW10
namespace Go.Proofs.YticbokabjhnagaaGreatDoor
set_option maxHeartbeats 32000000
section
open Go.RowKit
theorem below_step {W u v:World} (h:Below W.heap.size W u) (k:Below u.heap.size u v):Below W.heap.size W v:=h.trans (k.mono h.size)
theorem bs_size (x:Mil.Bytes):(bs x).size=x.length:=by simp [bs,ByteArray.size]
theorem ta_int_int (v:Value) (w:World):(Instr.typeAssert (.iface 165 v) 105 165 true).run Tryz.prog w=.ok (.tuple #[v,.bool true]) w:=by kernel_rfl
theorem ta_int_bool (v:Value) (w:World):(Instr.typeAssert (.iface 165 v) 105 168 true).run Tryz.prog w=.ok (.tuple #[.agg #[.int .i64 0,.bool false],.bool false]) w:=by kernel_rfl
theorem ta_int_name (v:Value) (w:World):(Instr.typeAssert (.iface 165 v) 105 103 true).run Tryz.prog w=.ok (.tuple #[.agg #[.int .i64 0,.string ⟨#[]⟩],.bool false]) w:=by kernel_rfl
theorem ta_int_pre (v:Value) (w:World):(Instr.typeAssert (.iface 165 v) 105 172 true).run Tryz.prog w=.ok (.tuple #[.agg #[.int .i64 0,.string ⟨#[]⟩,.nilIface],.bool false]) w:=by kernel_rfl
theorem ta_int_two (v:Value) (w:World):(Instr.typeAssert (.iface 165 v) 105 175 true).run Tryz.prog w=.ok (.tuple #[.agg #[.int .i64 0,.string ⟨#[]⟩,.nilIface,.nilIface],.bool false]) w:=by kernel_rfl
theorem ta_int_if (v:Value) (w:World):(Instr.typeAssert (.iface 165 v) 105 182 true).run Tryz.prog w=.ok (.tuple #[.agg #[.int .i64 0,.nilIface,.nilIface,.nilIface],.bool false]) w:=by kernel_rfl
theorem ta_int_fby (v:Value) (w:World):(Instr.typeAssert (.iface 165 v) 105 185 true).run Tryz.prog w=.ok (.tuple #[.agg #[.int .i64 0,.nilIface,.nilIface],.bool false]) w:=by kernel_rfl
theorem ta_int_under (v:Value) (w:World):(Instr.typeAssert (.iface 165 v) 105 188 true).run Tryz.prog w=.ok (.tuple #[.agg #[.int .i64 0,.nilIface,.int .i64 0],.bool false]) w:=by kernel_rfl
theorem ta_int_hold (v:Value) (w:World):(Instr.typeAssert (.iface 165 v) 105 191 true).run Tryz.prog w=.ok (.tuple #[.agg #[.int .i64 0,.nilIface,.nilIface,.int .i64 0],.bool false]) w:=by kernel_rfl
theorem ta_int_least (v:Value) (w:World):(Instr.typeAssert (.iface 165 v) 105 180 true).run Tryz.prog w=.ok (.tuple #[.agg #[.int .i64 0,.string ⟨#[]⟩,.nilIface,.nilIface],.bool false]) w:=by kernel_rfl
theorem ta_bool_int (v:Value) (w:World):(Instr.typeAssert (.iface 168 v) 105 165 true).run Tryz.prog w=.ok (.tuple #[.agg #[.int .i64 0,.int .i64 0],.bool false]) w:=by kernel_rfl
theorem ta_bool_bool (v:Value) (w:World):(Instr.typeAssert (.iface 168 v) 105 168 true).run Tryz.prog w=.ok (.tuple #[v,.bool true]) w:=by kernel_rfl
theorem ta_bool_name (v:Value) (w:World):(Instr.typeAssert (.iface 168 v) 105 103 true).run Tryz.prog w=.ok (.tuple #[.agg #[.int .i64 0,.string ⟨#[]⟩],.bool false]) w:=by kernel_rfl
theorem ta_bool_pre (v:Value) (w:World):(Instr.typeAssert (.iface 168 v) 105 172 true).run Tryz.prog w=.ok (.tuple #[.agg #[.int .i64 0,.string ⟨#[]⟩,.nilIface],.bool false]) w:=by kernel_rfl
theorem ta_bool_two (v:Value) (w:World):(Instr.typeAssert (.iface 168 v) 105 175 true).run Tryz.prog w=.ok (.tuple #[.agg #[.int .i64 0,.string ⟨#[]⟩,.nilIface,.nilIface],.bool false]) w:=by kernel_rfl
theorem ta_bool_if (v:Value) (w:World):(Instr.typeAssert (.iface 168 v) 105 182 true).run Tryz.prog w=.ok (.tuple #[.agg #[.int .i64 0,.nilIface,.nilIface,.nilIface],.bool false]) w:=by kernel_rfl
theorem ta_bool_fby (v:Value) (w:World):(Instr.typeAssert (.iface 168 v) 105 185 true).run Tryz.prog w=.ok (.tuple #[.agg #[.int .i64 0,.nilIface,.nilIface],.bool false]) w:=by kernel_rfl
theorem ta_bool_under (v:Value) (w:World):(Instr.typeAssert (.iface 168 v) 105 188 true).run Tryz.prog w=.ok (.tuple #[.agg #[.int .i64 0,.nilIface,.int .i64 0],.bool false]) w:=by kernel_rfl
theorem ta_bool_hold (v:Value) (w:World):(Instr.typeAssert (.iface 168 v) 105 191 true).run Tryz.prog w=.ok (.tuple #[.agg #[.int .i64 0,.nilIface,.nilIface,.int .i64 0],.bool false]) w:=by kernel_rfl
theorem ta_bool_least (v:Value) (w:World):(Instr.typeAssert (.iface 168 v) 105 180 true).run Tryz.prog w=.ok (.tuple #[.agg #[.int .i64 0,.string ⟨#[]⟩,.nilIface,.nilIface],.bool false]) w:=by kernel_rfl
theorem ta_name_int (v:Value) (w:World):(Instr.typeAssert (.iface 103 v) 105 165 true).run Tryz.prog w=.ok (.tuple #[.agg #[.int .i64 0,.int .i64 0],.bool false]) w:=by kernel_rfl
theorem ta_name_bool (v:Value) (w:World):(Instr.typeAssert (.iface 103 v) 105 168 true).run Tryz.prog w=.ok (.tuple #[.agg #[.int .i64 0,.bool false],.bool false]) w:=by kernel_rfl
theorem ta_name_name (v:Value) (w:World):(Instr.typeAssert (.iface 103 v) 105 103 true).run Tryz.prog w=.ok (.tuple #[v,.bool true]) w:=by kernel_rfl
theorem ta_name_pre (v:Value) (w:World):(Instr.typeAssert (.iface 103 v) 105 172 true).run Tryz.prog w=.ok (.tuple #[.agg #[.int .i64 0,.string ⟨#[]⟩,.nilIface],.bool false]) w:=by kernel_rfl
theorem ta_name_two (v:Value) (w:World):(Instr.typeAssert (.iface 103 v) 105 175 true).run Tryz.prog w=.ok (.tuple #[.agg #[.int .i64 0,.string ⟨#[]⟩,.nilIface,.nilIface],.bool false]) w:=by kernel_rfl
theorem ta_name_if (v:Value) (w:World):(Instr.typeAssert (.iface 103 v) 105 182 true).run Tryz.prog w=.ok (.tuple #[.agg #[.int .i64 0,.nilIface,.nilIface,.nilIface],.bool false]) w:=by kernel_rfl
theorem ta_name_fby (v:Value) (w:World):(Instr.typeAssert (.iface 103 v) 105 185 true).run Tryz.prog w=.ok (.tuple #[.agg #[.int .i64 0,.nilIface,.nilIface],.bool false]) w:=by kernel_rfl
theorem ta_name_under (v:Value) (w:World):(Instr.typeAssert (.iface 103 v) 105 188 true).run Tryz.prog w=.ok (.tuple #[.agg #[.int .i64 0,.nilIface,.int .i64 0],.bool false]) w:=by kernel_rfl
theorem ta_name_hold (v:Value) (w:World):(Instr.typeAssert (.iface 103 v) 105 191 true).run Tryz.prog w=.ok (.tuple #[.agg #[.int .i64 0,.nilIface,.nilIface,.int .i64 0],.bool false]) w:=by kernel_rfl
theorem ta_name_least (v:Value) (w:World):(Instr.typeAssert (.iface 103 v) 105 180 true).run Tryz.prog w=.ok (.tuple #[.agg #[.int .i64 0,.string ⟨#[]⟩,.nilIface,.nilIface],.bool false]) w:=by kernel_rfl
theorem ta_pre_int (v:Value) (w:World):(Instr.typeAssert (.iface 172 v) 105 165 true).run Tryz.prog w=.ok (.tuple #[.agg #[.int .i64 0,.int .i64 0],.bool false]) w:=by kernel_rfl
theorem ta_pre_bool (v:Value) (w:World):(Instr.typeAssert (.iface 172 v) 105 168 true).run Tryz.prog w=.ok (.tuple #[.agg #[.int .i64 0,.bool false],.bool false]) w:=by kernel_rfl
theorem ta_pre_name (v:Value) (w:World):(Instr.typeAssert (.iface 172 v) 105 103 true).run Tryz.prog w=.ok (.tuple #[.agg #[.int .i64 0,.string ⟨#[]⟩],.bool false]) w:=by kernel_rfl
theorem ta_pre_pre (v:Value) (w:World):(Instr.typeAssert (.iface 172 v) 105 172 true).run Tryz.prog w=.ok (.tuple #[v,.bool true]) w:=by kernel_rfl
theorem ta_pre_two (v:Value) (w:World):(Instr.typeAssert (.iface 172 v) 105 175 true).run Tryz.prog w=.ok (.tuple #[.agg #[.int .i64 0,.string ⟨#[]⟩,.nilIface,.nilIface],.bool false]) w:=by kernel_rfl
theorem ta_pre_if (v:Value) (w:World):(Instr.typeAssert (.iface 172 v) 105 182 true).run Tryz.prog w=.ok (.tuple #[.agg #[.int .i64 0,.nilIface,.nilIface,.nilIface],.bool false]) w:=by kernel_rfl
theorem ta_pre_fby (v:Value) (w:World):(Instr.typeAssert (.iface 172 v) 105 185 true).run Tryz.prog w=.ok (.tuple #[.agg #[.int .i64 0,.nilIface,.nilIface],.bool false]) w:=by kernel_rfl
theorem ta_pre_under (v:Value) (w:World):(Instr.typeAssert (.iface 172 v) 105 188 true).run Tryz.prog w=.ok (.tuple #[.agg #[.int .i64 0,.nilIface,.int .i64 0],.bool false]) w:=by kernel_rfl
theorem ta_pre_hold (v:Value) (w:World):(Instr.typeAssert (.iface 172 v) 105 191 true).run Tryz.prog w=.ok (.tuple #[.agg #[.int .i64 0,.nilIface,.nilIface,.int .i64 0],.bool false]) w:=by kernel_rfl
theorem ta_pre_least (v:Value) (w:World):(Instr.typeAssert (.iface 172 v) 105 180 true).run Tryz.prog w=.ok (.tuple #[.agg #[.int .i64 0,.string ⟨#[]⟩,.nilIface,.nilIface],.bool false]) w:=by kernel_rfl
theorem ta_two_int (v:Value) (w:World):(Instr.typeAssert (.iface 175 v) 105 165 true).run Tryz.prog w=.ok (.tuple #[.agg #[.int .i64 0,.int .i64 0],.bool false]) w:=by kernel_rfl
theorem ta_two_bool (v:Value) (w:World):(Instr.typeAssert (.iface 175 v) 105 168 true).run Tryz.prog w=.ok (.tuple #[.agg #[.int .i64 0,.bool false],.bool false]) w:=by kernel_rfl
theorem ta_two_name (v:Value) (w:World):(Instr.typeAssert (.iface 175 v) 105 103 true).run Tryz.prog w=.ok (.tuple #[.agg #[.int .i64 0,.string ⟨#[]⟩],.bool false]) w:=by kernel_rfl
theorem ta_two_pre (v:Value) (w:World):(Instr.typeAssert (.iface 175 v) 105 172 true).run Tryz.prog w=.ok (.tuple #[.agg #[.int .i64 0,.string ⟨#[]⟩,.nilIface],.bool false]) w:=by kernel_rfl
theorem ta_two_two (v:Value) (w:World):(Instr.typeAssert (.iface 175 v) 105 175 true).run Tryz.prog w=.ok (.tuple #[v,.bool true]) w:=by kernel_rfl
theorem ta_two_if (v:Value) (w:World):(Instr.typeAssert (.iface 175 v) 105 182 true).run Tryz.prog w=.ok (.tuple #[.agg #[.int .i64 0,.nilIface,.nilIface,.nilIface],.bool false]) w:=by kernel_rfl
theorem ta_two_fby (v:Value) (w:World):(Instr.typeAssert (.iface 175 v) 105 185 true).run Tryz.prog w=.ok (.tuple #[.agg #[.int .i64 0,.nilIface,.nilIface],.bool false]) w:=by kernel_rfl
theorem ta_two_under (v:Value) (w:World):(Instr.typeAssert (.iface 175 v) 105 188 true).run Tryz.prog w=.ok (.tuple #[.agg #[.int .i64 0,.nilIface,.int .i64 0],.bool false]) w:=by kernel_rfl
theorem ta_two_hold (v:Value) (w:World):(Instr.typeAssert (.iface 175 v) 105 191 true).run Tryz.prog w=.ok (.tuple #[.agg #[.int .i64 0,.nilIface,.nilIface,.int .i64 0],.bool false]) w:=by kernel_rfl
theorem ta_two_least (v:Value) (w:World):(Instr.typeAssert (.iface 175 v) 105 180 true).run Tryz.prog w=.ok (.tuple #[.agg #[.int .i64 0,.string ⟨#[]⟩,.nilIface,.nilIface],.bool false]) w:=by kernel_rfl
theorem ta_if_int (v:Value) (w:World):(Instr.typeAssert (.iface 182 v) 105 165 true).run Tryz.prog w=.ok (.tuple #[.agg #[.int .i64 0,.int .i64 0],.bool false]) w:=by kernel_rfl
theorem ta_if_bool (v:Value) (w:World):(Instr.typeAssert (.iface 182 v) 105 168 true).run Tryz.prog w=.ok (.tuple #[.agg #[.int .i64 0,.bool false],.bool false]) w:=by kernel_rfl
theorem ta_if_name (v:Value) (w:World):(Instr.typeAssert (.iface 182 v) 105 103 true).run Tryz.prog w=.ok (.tuple #[.agg #[.int .i64 0,.string ⟨#[]⟩],.bool false]) w:=by kernel_rfl
theorem ta_if_pre (v:Value) (w:World):(Instr.typeAssert (.iface 182 v) 105 172 true).run Tryz.prog w=.ok (.tuple #[.agg #[.int .i64 0,.string ⟨#[]⟩,.nilIface],.bool false]) w:=by kernel_rfl
theorem ta_if_two (v:Value) (w:World):(Instr.typeAssert (.iface 182 v) 105 175 true).run Tryz.prog w=.ok (.tuple #[.agg #[.int .i64 0,.string ⟨#[]⟩,.nilIface,.nilIface],.bool false]) w:=by kernel_rfl
theorem ta_if_if (v:Value) (w:World):(Instr.typeAssert (.iface 182 v) 105 182 true).run Tryz.prog w=.ok (.tuple #[v,.bool true]) w:=by kernel_rfl
theorem ta_if_fby (v:Value) (w:World):(Instr.typeAssert (.iface 182 v) 105 185 true).run Tryz.prog w=.ok (.tuple #[.agg #[.int .i64 0,.nilIface,.nilIface],.bool false]) w:=by kernel_rfl
theorem ta_if_under (v:Value) (w:World):(Instr.typeAssert (.iface 182 v) 105 188 true).run Tryz.prog w=.ok (.tuple #[.agg #[.int .i64 0,.nilIface,.int .i64 0],.bool false]) w:=by kernel_rfl
theorem ta_if_hold (v:Value) (w:World):(Instr.typeAssert (.iface 182 v) 105 191 true).run Tryz.prog w=.ok (.tuple #[.agg #[.int .i64 0,.nilIface,.nilIface,.int .i64 0],.bool false]) w:=by kernel_rfl
theorem ta_if_least (v:Value) (w:World):(Instr.typeAssert (.iface 182 v) 105 180 true).run Tryz.prog w=.ok (.tuple #[.agg #[.int .i64 0,.string ⟨#[]⟩,.nilIface,.nilIface],.bool false]) w:=by kernel_rfl
theorem ta_fby_int (v:Value) (w:World):(Instr.typeAssert (.iface 185 v) 105 165 true).run Tryz.prog w=.ok (.tuple #[.agg #[.int .i64 0,.int .i64 0],.bool false]) w:=by kernel_rfl
theorem ta_fby_bool (v:Value) (w:World):(Instr.typeAssert (.iface 185 v) 105 168 true).run Tryz.prog w=.ok (.tuple #[.agg #[.int .i64 0,.bool false],.bool false]) w:=by kernel_rfl
theorem ta_fby_name (v:Value) (w:World):(Instr.typeAssert (.iface 185 v) 105 103 true).run Tryz.prog w=.ok (.tuple #[.agg #[.int .i64 0,.string ⟨#[]⟩],.bool false]) w:=by kernel_rfl
theorem ta_fby_pre (v:Value) (w:World):(Instr.typeAssert (.iface 185 v) 105 172 true).run Tryz.prog w=.ok (.tuple #[.agg #[.int .i64 0,.string ⟨#[]⟩,.nilIface],.bool false]) w:=by kernel_rfl
theorem ta_fby_two (v:Value) (w:World):(Instr.typeAssert (.iface 185 v) 105 175 true).run Tryz.prog w=.ok (.tuple #[.agg #[.int .i64 0,.string ⟨#[]⟩,.nilIface,.nilIface],.bool false]) w:=by kernel_rfl
theorem ta_fby_if (v:Value) (w:World):(Instr.typeAssert (.iface 185 v) 105 182 true).run Tryz.prog w=.ok (.tuple #[.agg #[.int .i64 0,.nilIface,.nilIface,.nilIface],.bool false]) w:=by kernel_rfl
theorem ta_fby_fby (v:Value) (w:World):(Instr.typeAssert (.iface 185 v) 105 185 true).run Tryz.prog w=.ok (.tuple #[v,.bool true]) w:=by kernel_rfl
theorem ta_fby_under (v:Value) (w:World):(Instr.typeAssert (.iface 185 v) 105 188 true).run Tryz.prog w=.ok (.tuple #[.agg #[.int .i64 0,.nilIface,.int .i64 0],.bool false]) w:=by kernel_rfl
theorem ta_fby_hold (v:Value) (w:World):(Instr.typeAssert (.iface 185 v) 105 191 true).run Tryz.prog w=.ok (.tuple #[.agg #[.int .i64 0,.nilIface,.nilIface,.int .i64 0],.bool false]) w:=by kernel_rfl
theorem ta_fby_least (v:Value) (w:World):(Instr.typeAssert (.iface 185 v) 105 180 true).run Tryz.prog w=.ok (.tuple #[.agg #[.int .i64 0,.string ⟨#[]⟩,.nilIface,.nilIface],.bool false]) w:=by kernel_rfl
theorem ta_under_int (v:Value) (w:World):(Instr.typeAssert (.iface 188 v) 105 165 true).run Tryz.prog w=.ok (.tuple #[.agg #[.int .i64 0,.int .i64 0],.bool false]) w:=by kernel_rfl
theorem ta_under_bool (v:Value) (w:World):(Instr.typeAssert (.iface 188 v) 105 168 true).run Tryz.prog w=.ok (.tuple #[.agg #[.int .i64 0,.bool false],.bool false]) w:=by kernel_rfl
theorem ta_under_name (v:Value) (w:World):(Instr.typeAssert (.iface 188 v) 105 103 true).run Tryz.prog w=.ok (.tuple #[.agg #[.int .i64 0,.string ⟨#[]⟩],.bool false]) w:=by kernel_rfl
theorem ta_under_pre (v:Value) (w:World):(Instr.typeAssert (.iface 188 v) 105 172 true).run Tryz.prog w=.ok (.tuple #[.agg #[.int .i64 0,.string ⟨#[]⟩,.nilIface],.bool false]) w:=by kernel_rfl
theorem ta_under_two (v:Value) (w:World):(Instr.typeAssert (.iface 188 v) 105 175 true).run Tryz.prog w=.ok (.tuple #[.agg #[.int .i64 0,.string ⟨#[]⟩,.nilIface,.nilIface],.bool false]) w:=by kernel_rfl
theorem ta_under_if (v:Value) (w:World):(Instr.typeAssert (.iface 188 v) 105 182 true).run Tryz.prog w=.ok (.tuple #[.agg #[.int .i64 0,.nilIface,.nilIface,.nilIface],.bool false]) w:=by kernel_rfl
theorem ta_under_fby (v:Value) (w:World):(Instr.typeAssert (.iface 188 v) 105 185 true).run Tryz.prog w=.ok (.tuple #[.agg #[.int .i64 0,.nilIface,.nilIface],.bool false]) w:=by kernel_rfl
theorem ta_under_under (v:Value) (w:World):(Instr.typeAssert (.iface 188 v) 105 188 true).run Tryz.prog w=.ok (.tuple #[v,.bool true]) w:=by kernel_rfl
theorem ta_under_hold (v:Value) (w:World):(Instr.typeAssert (.iface 188 v) 105 191 true).run Tryz.prog w=.ok (.tuple #[.agg #[.int .i64 0,.nilIface,.nilIface,.int .i64 0],.bool false]) w:=by kernel_rfl
theorem ta_under_least (v:Value) (w:World):(Instr.typeAssert (.iface 188 v) 105 180 true).run Tryz.prog w=.ok (.tuple #[.agg #[.int .i64 0,.string ⟨#[]⟩,.nilIface,.nilIface],.bool false]) w:=by kernel_rfl
theorem ta_hold_int (v:Value) (w:World):(Instr.typeAssert (.iface 191 v) 105 165 true).run Tryz.prog w=.ok (.tuple #[.agg #[.int .i64 0,.int .i64 0],.bool false]) w:=by kernel_rfl
theorem ta_hold_bool (v:Value) (w:World):(Instr.typeAssert (.iface 191 v) 105 168 true).run Tryz.prog w=.ok (.tuple #[.agg #[.int .i64 0,.bool false],.bool false]) w:=by kernel_rfl
theorem ta_hold_name (v:Value) (w:World):(Instr.typeAssert (.iface 191 v) 105 103 true).run Tryz.prog w=.ok (.tuple #[.agg #[.int .i64 0,.string ⟨#[]⟩],.bool false]) w:=by kernel_rfl
theorem ta_hold_pre (v:Value) (w:World):(Instr.typeAssert (.iface 191 v) 105 172 true).run Tryz.prog w=.ok (.tuple #[.agg #[.int .i64 0,.string ⟨#[]⟩,.nilIface],.bool false]) w:=by kernel_rfl
theorem ta_hold_two (v:Value) (w:World):(Instr.typeAssert (.iface 191 v) 105 175 true).run Tryz.prog w=.ok (.tuple #[.agg #[.int .i64 0,.string ⟨#[]⟩,.nilIface,.nilIface],.bool false]) w:=by kernel_rfl
theorem ta_hold_if (v:Value) (w:World):(Instr.typeAssert (.iface 191 v) 105 182 true).run Tryz.prog w=.ok (.tuple #[.agg #[.int .i64 0,.nilIface,.nilIface,.nilIface],.bool false]) w:=by kernel_rfl
theorem ta_hold_fby (v:Value) (w:World):(Instr.typeAssert (.iface 191 v) 105 185 true).run Tryz.prog w=.ok (.tuple #[.agg #[.int .i64 0,.nilIface,.nilIface],.bool false]) w:=by kernel_rfl
theorem ta_hold_under (v:Value) (w:World):(Instr.typeAssert (.iface 191 v) 105 188 true).run Tryz.prog w=.ok (.tuple #[.agg #[.int .i64 0,.nilIface,.int .i64 0],.bool false]) w:=by kernel_rfl
theorem ta_hold_hold (v:Value) (w:World):(Instr.typeAssert (.iface 191 v) 105 191 true).run Tryz.prog w=.ok (.tuple #[v,.bool true]) w:=by kernel_rfl
theorem ta_hold_least (v:Value) (w:World):(Instr.typeAssert (.iface 191 v) 105 180 true).run Tryz.prog w=.ok (.tuple #[.agg #[.int .i64 0,.string ⟨#[]⟩,.nilIface,.nilIface],.bool false]) w:=by kernel_rfl
theorem ta_least_int (v:Value) (w:World):(Instr.typeAssert (.iface 180 v) 105 165 true).run Tryz.prog w=.ok (.tuple #[.agg #[.int .i64 0,.int .i64 0],.bool false]) w:=by kernel_rfl
theorem ta_least_bool (v:Value) (w:World):(Instr.typeAssert (.iface 180 v) 105 168 true).run Tryz.prog w=.ok (.tuple #[.agg #[.int .i64 0,.bool false],.bool false]) w:=by kernel_rfl
theorem ta_least_name (v:Value) (w:World):(Instr.typeAssert (.iface 180 v) 105 103 true).run Tryz.prog w=.ok (.tuple #[.agg #[.int .i64 0,.string ⟨#[]⟩],.bool false]) w:=by kernel_rfl
theorem ta_least_pre (v:Value) (w:World):(Instr.typeAssert (.iface 180 v) 105 172 true).run Tryz.prog w=.ok (.tuple #[.agg #[.int .i64 0,.string ⟨#[]⟩,.nilIface],.bool false]) w:=by kernel_rfl
theorem ta_least_two (v:Value) (w:World):(Instr.typeAssert (.iface 180 v) 105 175 true).run Tryz.prog w=.ok (.tuple #[.agg #[.int .i64 0,.string ⟨#[]⟩,.nilIface,.nilIface],.bool false]) w:=by kernel_rfl
theorem ta_least_if (v:Value) (w:World):(Instr.typeAssert (.iface 180 v) 105 182 true).run Tryz.prog w=.ok (.tuple #[.agg #[.int .i64 0,.nilIface,.nilIface,.nilIface],.bool false]) w:=by kernel_rfl
theorem ta_least_fby (v:Value) (w:World):(Instr.typeAssert (.iface 180 v) 105 185 true).run Tryz.prog w=.ok (.tuple #[.agg #[.int .i64 0,.nilIface,.nilIface],.bool false]) w:=by kernel_rfl
theorem ta_least_under (v:Value) (w:World):(Instr.typeAssert (.iface 180 v) 105 188 true).run Tryz.prog w=.ok (.tuple #[.agg #[.int .i64 0,.nilIface,.int .i64 0],.bool false]) w:=by kernel_rfl
theorem ta_least_hold (v:Value) (w:World):(Instr.typeAssert (.iface 180 v) 105 191 true).run Tryz.prog w=.ok (.tuple #[.agg #[.int .i64 0,.nilIface,.nilIface,.int .i64 0],.bool false]) w:=by kernel_rfl
theorem ta_least_least (v:Value) (w:World):(Instr.typeAssert (.iface 180 v) 105 180 true).run Tryz.prog w=.ok (.tuple #[v,.bool true]) w:=by kernel_rfl
namespace Mip
theorem er_node' {p:E} {t k:Nat} {x:Mil.Bytes} {a b:Mil.E} (h:er p=.node t k x a b):∃y c d,p=.node t k (x,y) c d∧er c=a∧er d=b:=by
 cases p with
 | nil=>cases h
 | node t' k' y c d=>
  have h':(Go.Deep.BT.node t' k' y.1 (er c) (er d):Mil.E)=.node t k x a b:=h
  obtain ⟨rfl,rfl,rfl,h2,h3⟩:=Go.Deep.BT.node.inj h'
  exact ⟨y.2,c,d,rfl,h2,h3⟩
theorem er_nil {p:E} (h:er p=.nil):p=.nil:=by
 cases p with
 | nil=>rfl
 | node _ _ _ _ _=>cases h
theorem tree_induct {Q:E→Prop}
  (h1:∀p (k:Nat),(k:Int)≤Mil.maxInt→Q (eInt p k)) (h2:∀p k,k=0∨k=1→Q (eBool p k)) (h3:∀p x,Mil.NameOk x→Q (eName p x))
  (h4:∀p x a,x=Mil.wNot∨x=Mil.sMinus→Q a→Q (ePre p x a)) (h5:∀p x a b,Mil.tightOf x≠9→Q a→Q b→Q (eTwo p x a b))
  (h6:∀p y a b c,Q a→Q b→Q c→Q (.node 6 0 ([],p) a (.node 0 0 ([],y) b c))) (h7:∀p a b,Q a→Q b→Q (eFby p a b)) (h8:∀p a (k:Nat),2≤k→k≤1000→Q a→Q (eUnder p a k)) (h9:∀p a b (k:Nat),2≤k→k≤1000→Q a→Q b→Q (eHold p a b k)) (h10:∀p x a b,x=Mil.wMin∨x=Mil.wMax→Q a→Q b→Q (eLeast p x a b)) :
  ∀e:E,Mil.wf (er e) false→Q e:=by
 have i1:∀k:Nat,(k:Int)≤Mil.maxInt→∀p,er p=Mil.eInt k→Q p:=fun k hk p hp=>by
  obtain ⟨y,c,d,rfl,hc,hd⟩:=er_node' hp
  rw [er_nil hc,er_nil hd]
  exact h1 y k hk
 have i2:∀k,k=0∨k=1→∀p,er p=Mil.eBool k→Q p:=fun k hk p hp=>by
  obtain ⟨y,c,d,rfl,hc,hd⟩:=er_node' hp
  rw [er_nil hc,er_nil hd]
  exact h2 y k hk
 have i0:∀m,Mil.isConst m→∀p,er p=m→Q p:=fun m hm p hp=>by
  rcases hm with ⟨k,hk,rfl⟩ | ⟨k,hk,rfl⟩ | ⟨k,hk,rfl⟩
  ·exact i1 k hk p hp
  ·exact i2 k hk p hp
  ·obtain ⟨y,c,d,rfl,hc,hd⟩:=er_node' hp
   rw [er_nil hd]
   exact h4 y _ c (Or.inr rfl) (i1 k hk c hc)
 intro e he
 refine Mil.wf_induct (P:=fun m=>∀p,er p=m→Q p) i1 i2 ?_ ?_ ?_ ?_ ?_ ?_ ?_ ?_ _ he e rfl
 ·intro x hx p hp
  obtain ⟨y,c,d,rfl,hc,hd⟩:=er_node' hp
  rw [er_nil hc,er_nil hd]
  exact h3 y x hx
 ·intro x a hx _ ha p hp
  obtain ⟨y,c,d,rfl,hc,hd⟩:=er_node' hp
  rw [er_nil hd]
  exact h4 y x c hx (ha c hc)
 ·intro x a b hx _ _ ha hb p hp
  obtain ⟨y,c,d,rfl,hc,hd⟩:=er_node' hp
  exact h5 y x c d hx (ha c hc) (hb d hd)
 ·intro a b c _ _ _ ha hb hc p hp
  obtain ⟨y,q,r,rfl,h1',h2'⟩:=er_node' hp
  obtain ⟨y',q',r',rfl,h3',h4'⟩:=er_node' h2'
  exact h6 y y' q q' r' (ha q h1') (hb q' h3') (hc r' h4')
 ·intro a b ha _ hb p hp
  obtain ⟨y,c,d,rfl,hc,hd⟩:=er_node' hp
  exact h7 y c d (i0 a ha c hc) (hb d hd)
 ·intro a k h2 hk _ ha p hp
  obtain ⟨y,c,d,rfl,hc,hd⟩:=er_node' hp
  rw [er_nil hd]
  exact h8 y c k h2 hk (ha c hc)
 ·intro a b k h2 hk ha _ hb p hp
  obtain ⟨y,c,d,rfl,hc,hd⟩:=er_node' hp
  exact h9 y c d k h2 hk (i0 a ha c hc) (hb d hd)
 ·intro x a b hx _ _ ha hb p hp
  obtain ⟨y,c,d,rfl,hc,hd⟩:=er_node' hp
  exact h10 y x c d hx (ha c hc) (hb d hd)
def kids:E→List E
 | .node 4 _ _ a _=>[a]
 | .node 5 _ _ a b=>[a,b]
 | .node 6 _ _ a (.node _ _ _ b c)=>[a,b,c]
 | .node 7 _ _ a b=>[a,b]
 | .node 8 _ _ a _=>[a]
 | .node 9 _ _ a b=>[a,b]
 | .node 10 _ _ a b=>[a,b]
 | _=>[]
end Mip
end
end Go.Proofs.YticbokabjhnagaaGreatDoor
