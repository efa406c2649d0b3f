import Derived.Test.YtoiajojadihpbaaGreatDoorQt09
import Derived.LaidEql
import Derived.Stop.Asserts
import Derived.RowKitTokens
namespace Go.Proofs.YtoiajojadihpbaaGreatDoor
set_option maxHeartbeats 8000000
set_option maxRecDepth 100000
section
open Go.RowKit Go.Extern.Stop Go.Stop Go.Extern
theorem kTypeOfE (v:Value) (w:World):(Extern.ReflectliteType.typeOf #[.iface 312 v]).run Tryz.prog w=.ok (.iface 245 (.agg #[.pointer (some ⟨28,312,none⟩)])) w:=by kernel_rfl
theorem kComparableE (w : World) : ((Extern.ReflectliteType.method fun t => do Extern.Rtype.noPackHeld "Comparable" t; pure (.bool (← typeInfo t).comparable)) #[.agg #[.pointer (some ⟨28, 312, none⟩)]]).run Tryz.prog w = .ok (.bool true) w := by kernel_rfl
theorem kMethodComparable (v : Value) (w : World) : (Go.method 465 245 v "Comparable").run Tryz.prog w = .ok (226, v) w := by kernel_rfl
theorem kCompE:(Tryz.prog.info? 312).map (·.comparable)=some true:=by kernel_rfl
theorem kSizeE:(Tryz.prog.info? 314).map (·.size)=some 1:=by kernel_rfl
theorem kNoIsE (v:Value) (xT:TypeId) (w:World):(Instr.typeAssert (.iface 312 v) xT 254 true).run Tryz.prog w=.ok (.tuple #[.nilIface,.bool false]) w:=run_typeAssert_lacksB Tryz.underlying254 (by kernel_rfl) (by kernel_rfl) v xT w
theorem kNoUnwrapE (v:Value) (xT:TypeId) (w:World):(Instr.typeAssert (.iface 312 v) xT 252 true).run Tryz.prog w=.ok (.tuple #[.nilIface,.bool false]) w:=run_typeAssert_lacksB Tryz.underlying252 (by kernel_rfl) (by kernel_rfl) v xT w
theorem kNoUnwrapsE (v:Value) (xT:TypeId) (w:World):(Instr.typeAssert (.iface 312 v) xT 253 true).run Tryz.prog w=.ok (.tuple #[.nilIface,.bool false]) w:=run_typeAssert_lacksB Tryz.underlying253 (by kernel_rfl) (by kernel_rfl) v xT w
theorem kNoAsE (v:Value) (xT:TypeId) (w:World):(Instr.typeAssert (.iface 312 v) xT 249 true).run Tryz.prog w=.ok (.tuple #[.nilIface,.bool false]) w:=run_typeAssert_lacksB Tryz.underlying249 (by kernel_rfl) (by kernel_rfl) v xT w
theorem kNoIsD (v:Value) (xT:TypeId) (w:World):(Instr.typeAssert (.iface 181 v) xT 254 true).run Tryz.prog w=.ok (.tuple #[.nilIface,.bool false]) w:=run_typeAssert_lacksB Tryz.underlying254 (by kernel_rfl) (by kernel_rfl) v xT w
theorem kHasUnwrapD (v:Value) (xT:TypeId) (w:World):(Instr.typeAssert (.iface 181 v) xT 252 true).run Tryz.prog w=.ok (.tuple #[.iface 181 v,.bool true]) w:=run_typeAssert_hasB Tryz.underlying252 (by kernel_rfl) v xT w
theorem kMethodUnwrap (v : Value) (w : World) : (Go.method 465 181 v "Unwrap").run Tryz.prog w = .ok (87, v) w := by kernel_rfl
theorem cTypeOfE (v:Value) (w:World):(callFunc 124 #[.iface 312 v]).run Tryz.prog w=.ok (.value (.iface 245 (.agg #[.pointer (some ⟨28,312,none⟩)]))) w:=by
 rw[@run_callFunc_extern Tryz.prog 124 _ Extern.ReflectliteType.typeOf Tryz.func124 (by kernel_rfl) (by kernel_rfl) (by kernel_rfl) (by kernel_rfl),kTypeOfE];rfl
theorem cComparableE (w:World):(callFunc 226 #[.agg #[.pointer (some ⟨28,312,none⟩)]]).run Tryz.prog w=.ok (.value (.bool true)) w:=by
 rw [@run_callFunc_extern Tryz.prog 226 _ (Extern.ReflectliteType.method fun t => do Extern.Rtype.noPackHeld "Comparable" t; pure (.bool (← typeInfo t).comparable)) Tryz.func226 (by kernel_rfl) (by kernel_rfl) (by kernel_rfl) (by kernel_rfl), kComparableE]; rfl
theorem eql_err (x y:Addr) (w:World) (hx:∃c t,w.heap[x.block]?=some (.cells c t (0,0))) (hy:∃c t,w.heap[y.block]?=some (.cells c t (0,0))) :
  (binOp BinOp.eql 90 (errV x) (errV y)).run Tryz.prog w=.ok (.bool (decide (x=y))) w:=by
 obtain⟨i,hi,hcmp⟩:=oms kCompE
 obtain⟨j,hj,hjs⟩:=oms kSizeE
 obtain⟨ca,ta,ha⟩:=hx
 obtain⟨cb,tb,hb⟩:=hy
 by_cases h:x=y
 ·subst h
  rw[decide_eq_true rfl]
  exact run_eql_iface_ptr_same (P:=Tryz.prog) w x Tryz.underlying90 Tryz.underlying312 hi hcmp hj
 ·rw[decide_eq_false h]
  exact run_eql_iface_ptr_other (P:=Tryz.prog) w Tryz.underlying90 Tryz.underlying312 hi hcmp hj (by rw[hjs];decide) h ha hb
theorem is_err (x y:Addr) (w:World) (hx:∃c t,w.heap[x.block]?=some (.cells c t (0,0))) (hy:∃c t,w.heap[y.block]?=some (.cells c t (0,0))) :
  Calls Tryz.prog 89 #[errV x,errV y] w fun e w'=>e=.returned (.bool (decide (x=y)))/\w'=w:=by
 have h1:=cTypeOfE
 have h2:=cComparableE
 have h3:=kMethodComparable
 have h4:=kNoIsE
 have h5:=kNoUnwrapE
 have h6:=kNoUnwrapsE
 have heq:=eql_err x y w hx hy
 clear hx hy
 by_cases h:x=y
 ·rw[decide_eq_true h] at heq ⊢
  have HH:=hid h
  clear h
  go_enter Tryz.func89,Tryz.ntmps89
  go_wp2
  refine wp_loop_rounds 1 ?_
  rw[rounds_succ]
  go_wp2
  go_ret
  exact⟨rfl,rfl⟩
 ·rw[decide_eq_false h] at heq ⊢
  have HH:=hid h
  clear h
  go_enter Tryz.func89,Tryz.ntmps89
  go_wp2
  refine wp_loop_rounds 1 ?_
  rw[rounds_succ]
  go_wp2
  go_ret
  exact⟨rfl,rfl⟩
theorem is_diag (d:Nat) (at_:Int) (x y:Addr) (w:World) (hd:w.heap[d]?=some (.cells #[.int .i64 at_,errV x] 187 (0,0))) (hx:∃c t,w.heap[x.block]?=some (.cells c t (0,0))) (hy:∃c t,w.heap[y.block]?=some (.cells c t (0,0))) :
  Calls Tryz.prog 89 #[.iface 181 (.pointer (some ⟨d,0,none⟩)),errV y] w fun e w'=>e=.returned (.bool (decide (x=y)))/\w'=w:=by
 have h1:=cTypeOfE
 have h2:=cComparableE
 have h3:=kMethodComparable
 have h4:=kNoIsE
 have h5:=kNoUnwrapE
 have h6:=kNoUnwrapsE
 have h7:=kNoIsD
 have h8:=kHasUnwrapD
 have h9:=kMethodUnwrap
 have heq:=eql_err x y w hx hy
 have hty:=run_eql_iface_types (P:=Tryz.prog) 181 312 (.pointer (some ⟨d,0,none⟩)) (.pointer (some y)) Tryz.underlying90 (by decide) w
 have hc1:w.cell? ⟨d,1,none⟩=some (errV x):=by rw[cor w d 1 _ _ _ hd];rfl
 clear hx hy hd
 by_cases h:x=y
 ·rw[decide_eq_true h] at heq ⊢
  have HH:=hid h
  clear h
  go_enter Tryz.func89,Tryz.ntmps89
  go_wp2
  refine wp_loop_rounds 2 ?_
  rw[rounds_succ]
  go_wp2
  rw[rounds_succ]
  go_wp2
  go_ret
  exact⟨rfl,rfl⟩
 ·rw[decide_eq_false h] at heq ⊢
  have HH:=hid h
  clear h
  go_enter Tryz.func89,Tryz.ntmps89
  go_wp2
  refine wp_loop_rounds 2 ?_
  rw[rounds_succ]
  go_wp2
  rw[rounds_succ]
  go_wp2
  go_ret
  exact⟨rfl,rfl⟩
end
end Go.Proofs.YtoiajojadihpbaaGreatDoor
