import Derived.Test.YticbokabjhnagaaGreatDoorW10
import Derived.LaidEql
import Derived.Stop.Asserts
import Derived.RowKitTokens
namespace Go.Proofs.YticbokabjhnagaaGreatDoor
set_option maxHeartbeats 32000000
section
open Go.RowKit Go.Extern.Stop Go.Stop Go.Extern
theorem kTypeOfE (v:Value) (w:World):(Extern.ReflectliteType.typeOf #[.iface 285 v]).run Tryz.prog w=.ok (.iface 194 (.agg #[.pointer (some ⟨23,285,none⟩)])) w:=by kernel_rfl
theorem kComparableE (w : World) : ((Extern.ReflectliteType.method fun t => do Extern.Rtype.noPackHeld "Comparable" t; pure (.bool (← typeInfo t).comparable)) #[.agg #[.pointer (some ⟨23, 285, none⟩)]]).run Tryz.prog w = .ok (.bool true) w := by kernel_rfl
theorem kMethodComparable (v : Value) (w : World) : (Go.method 426 194 v "Comparable").run Tryz.prog w = .ok (229, v) w := by kernel_rfl
theorem kCompE:(Tryz.prog.info? 285).map (·.comparable)=some true:=by kernel_rfl
theorem kSizeE:(Tryz.prog.info? 287).map (·.size)=some 1:=by kernel_rfl
theorem kNoIsE (v:Value) (xT:TypeId) (w:World):(Instr.typeAssert (.iface 285 v) xT 203 true).run Tryz.prog w=.ok (.tuple #[.nilIface,.bool false]) w:=run_typeAssert_lacksB Tryz.underlying203 (by kernel_rfl) (by kernel_rfl) v xT w
theorem kNoUnwrapE (v:Value) (xT:TypeId) (w:World):(Instr.typeAssert (.iface 285 v) xT 201 true).run Tryz.prog w=.ok (.tuple #[.nilIface,.bool false]) w:=run_typeAssert_lacksB Tryz.underlying201 (by kernel_rfl) (by kernel_rfl) v xT w
theorem kNoUnwrapsE (v:Value) (xT:TypeId) (w:World):(Instr.typeAssert (.iface 285 v) xT 202 true).run Tryz.prog w=.ok (.tuple #[.nilIface,.bool false]) w:=run_typeAssert_lacksB Tryz.underlying202 (by kernel_rfl) (by kernel_rfl) v xT w
theorem kNoAsE (v:Value) (xT:TypeId) (w:World):(Instr.typeAssert (.iface 285 v) xT 198 true).run Tryz.prog w=.ok (.tuple #[.nilIface,.bool false]) w:=run_typeAssert_lacksB Tryz.underlying198 (by kernel_rfl) (by kernel_rfl) v xT w
theorem kNoIsD (v:Value) (xT:TypeId) (w:World):(Instr.typeAssert (.iface 69 v) xT 203 true).run Tryz.prog w=.ok (.tuple #[.nilIface,.bool false]) w:=run_typeAssert_lacksB Tryz.underlying203 (by kernel_rfl) (by kernel_rfl) v xT w
theorem kHasUnwrapD (v:Value) (xT:TypeId) (w:World):(Instr.typeAssert (.iface 69 v) xT 201 true).run Tryz.prog w=.ok (.tuple #[.iface 69 v,.bool true]) w:=run_typeAssert_hasB Tryz.underlying201 (by kernel_rfl) v xT w
theorem kMethodUnwrap (v : Value) (w : World) : (Go.method 426 69 v "Unwrap").run Tryz.prog w = .ok (25, v) w := by kernel_rfl
theorem cTypeOfE (v:Value) (w:World):(callFunc 47 #[.iface 285 v]).run Tryz.prog w=.ok (.value (.iface 194 (.agg #[.pointer (some ⟨23,285,none⟩)]))) w:=by
 rw [@run_callFunc_extern Tryz.prog 47 _ Extern.ReflectliteType.typeOf Tryz.func47 (by kernel_rfl) (by kernel_rfl) (by kernel_rfl) (by kernel_rfl),kTypeOfE];rfl
theorem cComparableE (w:World):(callFunc 229 #[.agg #[.pointer (some ⟨23,285,none⟩)]]).run Tryz.prog w=.ok (.value (.bool true)) w:=by
 rw [@run_callFunc_extern Tryz.prog 229 _ (Extern.ReflectliteType.method fun t => do Extern.Rtype.noPackHeld "Comparable" t; pure (.bool (← typeInfo t).comparable)) Tryz.func229 (by kernel_rfl) (by kernel_rfl) (by kernel_rfl) (by kernel_rfl), kComparableE]; rfl
theorem eql_err (x y:Addr) (w:World) (hx:∃c t,w.heap[x.block]?=some (.cells c t (0,0))) (hy:∃c t,w.heap[y.block]?=some (.cells c t (0,0))) :
  (binOp BinOp.eql 51 (errV x) (errV y)).run Tryz.prog w=.ok (.bool (decide (x=y))) w:=by
 obtain ⟨i,hi,hcmp⟩:=Option.map_eq_some_iff.1 kCompE
 obtain ⟨j,hj,hjs⟩:=Option.map_eq_some_iff.1 kSizeE
 obtain ⟨ca,ta,ha⟩:=hx
 obtain ⟨cb,tb,hb⟩:=hy
 by_cases h:x=y
 ·subst h
  rw [decide_eq_true rfl]
  exact run_eql_iface_ptr_same (P:=Tryz.prog) w x Tryz.underlying51 Tryz.underlying285 hi hcmp hj
 ·rw [decide_eq_false h]
  exact run_eql_iface_ptr_other (P:=Tryz.prog) w Tryz.underlying51 Tryz.underlying285 hi hcmp hj (by rw [hjs];decide) h ha hb
theorem is_err (x y:Addr) (w:World) (hx:∃c t,w.heap[x.block]?=some (.cells c t (0,0))) (hy:∃c t,w.heap[y.block]?=some (.cells c t (0,0))) :
  Calls Tryz.prog 27 #[errV x,errV y] w fun e w'=>e=.returned (.bool (decide (x=y)))∧w'=w:=by
 have h1:=cTypeOfE
 have h2:=cComparableE
 have h3:=kMethodComparable
 have h4:=kNoIsE
 have h5:=kNoUnwrapE
 have h6:=kNoUnwrapsE
 have heq:=eql_err x y w hx hy
 clear hx hy
 by_cases h:x=y
 ·rw [decide_eq_true h] at heq ⊢
  have HH:Hid (x=y):=h
  clear h
  go_enter Tryz.func27,Tryz.ntmps27
  go_wp2
  refine wp_loop_rounds 1 ?_
  rw [rounds_succ]
  go_wp2
  go_ret
  exact ⟨rfl,rfl⟩
 ·rw [decide_eq_false h] at heq ⊢
  have HH:Hid (x≠y):=h
  clear h
  go_enter Tryz.func27,Tryz.ntmps27
  go_wp2
  refine wp_loop_rounds 1 ?_
  rw [rounds_succ]
  go_wp2
  go_ret
  exact ⟨rfl,rfl⟩
theorem is_diag (d:Nat) (at_:Int) (x y:Addr) (w:World) (hd:w.heap[d]?=some (.cells #[.int .i64 at_,errV x] 81 (0,0))) (hx:∃c t,w.heap[x.block]?=some (.cells c t (0,0))) (hy:∃c t,w.heap[y.block]?=some (.cells c t (0,0))) :
  Calls Tryz.prog 27 #[.iface 69 (.pointer (some ⟨d,0,none⟩)),errV y] w fun e w'=>e=.returned (.bool (decide (x=y)))∧w'=w:=by
 have h1:=cTypeOfE
 have h2:=cComparableE
 have h3:=kMethodComparable
 have h4:=kNoIsE
 have h5:=kNoUnwrapE
 have h6:=kNoUnwrapsE
 have h7:=kNoIsD
 have h8:=kHasUnwrapD
 have h9:=kMethodUnwrap
 have heq:=eql_err x y w hx hy
 have hty:=run_eql_iface_types (P:=Tryz.prog) 69 285 (.pointer (some ⟨d,0,none⟩)) (.pointer (some y)) Tryz.underlying51 (by decide) w
 have hc1:w.cell? ⟨d,1,none⟩=some (errV x):=by rw [cell_of_row w d 1 _ _ _ hd];rfl
 clear hx hy hd
 by_cases h:x=y
 ·rw [decide_eq_true h] at heq ⊢
  have HH:Hid (x=y):=h
  clear h
  go_enter Tryz.func27,Tryz.ntmps27
  go_wp2
  refine wp_loop_rounds 2 ?_
  rw [rounds_succ]
  go_wp2
  rw [rounds_succ]
  go_wp2
  go_ret
  exact ⟨rfl,rfl⟩
 ·rw [decide_eq_false h] at heq ⊢
  have HH:Hid (x≠y):=h
  clear h
  go_enter Tryz.func27,Tryz.ntmps27
  go_wp2
  refine wp_loop_rounds 2 ?_
  rw [rounds_succ]
  go_wp2
  rw [rounds_succ]
  go_wp2
  go_ret
  exact ⟨rfl,rfl⟩
end
section
open Go.RowKit Go.Extern.Stop Go.Stop Go.Extern
theorem kValueT (t:Addr) (w:World):(ReflectliteValue.unpack (.iface 78 (.pointer (some t)))).run Tryz.prog w=.ok (.agg #[.pointer (some ⟨23,78,none⟩),.pointer (some ⟨w.heap.size,0,none⟩),.int .u64 150]) (w.alloc (.cells #[.pointer (some t)] 78)):=by kernel_rfl
theorem cValueT (t:Addr) (w:World):(callFunc 43 #[.iface 78 (.pointer (some t))]).run Tryz.prog w=.ok (.value (.agg #[.pointer (some ⟨23,78,none⟩),.pointer (some ⟨w.heap.size,0,none⟩),.int .u64 150])) (w.alloc (.cells #[.pointer (some t)] 78)):=by
 rw [@run_callFunc_extern Tryz.prog 43 _ (fun args=>ReflectliteValue.unpack (args.getD 0 (.tuple #[]))) Tryz.func43 (by kernel_rfl) (by kernel_rfl) (by kernel_rfl) (by kernel_rfl)]
 show ((ReflectliteValue.unpack (.iface 78 (.pointer (some t)))).run Tryz.prog w).andThen _=_
 rw [kValueT];rfl
theorem kValueD (t:Addr) (w:World):(ReflectliteValue.unpack (.iface 69 (.pointer (some t)))).run Tryz.prog w=.ok (.agg #[.pointer (some ⟨23,69,none⟩),.pointer (some ⟨w.heap.size,0,none⟩),.int .u64 150]) (w.alloc (.cells #[.pointer (some t)] 69)):=by kernel_rfl
theorem cValueD (t:Addr) (w:World):(callFunc 43 #[.iface 69 (.pointer (some t))]).run Tryz.prog w=.ok (.value (.agg #[.pointer (some ⟨23,69,none⟩),.pointer (some ⟨w.heap.size,0,none⟩),.int .u64 150])) (w.alloc (.cells #[.pointer (some t)] 69)):=by
 rw [@run_callFunc_extern Tryz.prog 43 _ (fun args=>ReflectliteValue.unpack (args.getD 0 (.tuple #[]))) Tryz.func43 (by kernel_rfl) (by kernel_rfl) (by kernel_rfl) (by kernel_rfl)]
 show ((ReflectliteValue.unpack (.iface 69 (.pointer (some t)))).run Tryz.prog w).andThen _=_
 rw [kValueD];rfl
theorem kTypeT (a : Addr) (w : World) : (ReflectliteValue.methodAny (ReflectliteValue.valueError "reflectlite.Value.Type" 0) (fun t _ _ _ => ReflectliteType.toType t) #[.agg #[.pointer (some ⟨23, 78, none⟩), .pointer (some a), .int .u64 150]]).run Tryz.prog w = .ok (.iface 194 (.agg #[.pointer (some ⟨23, 78, none⟩)])) (w) := by kernel_rfl
theorem cTypeT (a:Addr) (w:World):(callFunc 44 #[.agg #[.pointer (some ⟨23,78,none⟩),.pointer (some a),.int .u64 150]]).run Tryz.prog w=.ok (.value (.iface 194 (.agg #[.pointer (some ⟨23,78,none⟩)]))) (w):=by
 rw [@run_callFunc_extern Tryz.prog 44 _ (ReflectliteValue.methodAny (ReflectliteValue.valueError "reflectlite.Value.Type" 0) (fun t _ _ _ => ReflectliteType.toType t)) Tryz.func44 (by kernel_rfl) (by kernel_rfl) (by kernel_rfl) (by kernel_rfl)]
 skip
 rw [kTypeT];rfl
theorem kKindT  (w:World):((ReflectliteType.abiMethod fun t=>do pure (.int .u8 (←Rtype.kind t))) #[.pointer (some ⟨23,78,none⟩)]).run Tryz.prog w=.ok (.int .u8 22) (w):=by kernel_rfl
theorem cKindT  (w:World):(callFunc 212 #[.pointer (some ⟨23,78,none⟩)]).run Tryz.prog w=.ok (.value (.int .u8 22)) (w):=by
 rw [@run_callFunc_extern Tryz.prog 212 _ ((ReflectliteType.abiMethod fun t=>do pure (.int .u8 (←Rtype.kind t)))) Tryz.func212 (by kernel_rfl) (by kernel_rfl) (by kernel_rfl) (by kernel_rfl)]
 skip
 rw [kKindT];rfl
theorem kKindD  (w:World):((ReflectliteType.abiMethod fun t=>do pure (.int .u8 (←Rtype.kind t))) #[.pointer (some ⟨23,69,none⟩)]).run Tryz.prog w=.ok (.int .u8 22) (w):=by kernel_rfl
theorem cKindD  (w:World):(callFunc 212 #[.pointer (some ⟨23,69,none⟩)]).run Tryz.prog w=.ok (.value (.int .u8 22)) (w):=by
 rw [@run_callFunc_extern Tryz.prog 212 _ ((ReflectliteType.abiMethod fun t=>do pure (.int .u8 (←Rtype.kind t)))) Tryz.func212 (by kernel_rfl) (by kernel_rfl) (by kernel_rfl) (by kernel_rfl)]
 skip
 rw [kKindD];rfl
theorem mKind (h : Value) (w : World) : (Go.method 426 194 (.agg #[h]) "Kind").run Tryz.prog w = .ok (212, h) w := by kernel_rfl
theorem mElem (h : Value) (w : World) : (Go.method 426 194 (.agg #[h]) "Elem").run Tryz.prog w = .ok (230, .agg #[h]) w := by kernel_rfl
theorem mImplements (h : Value) (w : World) : (Go.method 426 194 (.agg #[h]) "Implements").run Tryz.prog w = .ok (231, .agg #[h]) w := by kernel_rfl
theorem mAssignableTo (h : Value) (w : World) : (Go.method 426 194 (.agg #[h]) "AssignableTo").run Tryz.prog w = .ok (228, .agg #[h]) w := by kernel_rfl
theorem kElemT  (w:World):(ReflectliteType.method ReflectliteType.elem #[.agg #[.pointer (some ⟨23,78,none⟩)]]).run Tryz.prog w=.ok (.iface 194 (.agg #[.pointer (some ⟨23,69,none⟩)])) (w):=by kernel_rfl
theorem cElemT  (w:World):(callFunc 230 #[.agg #[.pointer (some ⟨23,78,none⟩)]]).run Tryz.prog w=.ok (.value (.iface 194 (.agg #[.pointer (some ⟨23,69,none⟩)]))) (w):=by
 rw [@run_callFunc_extern Tryz.prog 230 _ (ReflectliteType.method ReflectliteType.elem) Tryz.func230 (by kernel_rfl) (by kernel_rfl) (by kernel_rfl) (by kernel_rfl)]
 skip
 rw [kElemT];rfl
theorem kImplD  (w : World) : (ReflectliteType.relation "Implements" ReflectliteType.implements_ #[.agg #[.pointer (some ⟨23, 69, none⟩)], .iface 194 (.agg #[.pointer (some ⟨23, 51, none⟩)])]).run Tryz.prog w = .ok (.bool true) (w) := by kernel_rfl
theorem cImplD  (w:World):(callFunc 231 #[.agg #[.pointer (some ⟨23,69,none⟩)],.iface 194 (.agg #[.pointer (some ⟨23,51,none⟩)])]).run Tryz.prog w=.ok (.value (.bool true)) (w):=by
 rw [@run_callFunc_extern Tryz.prog 231 _ (ReflectliteType.relation "Implements" ReflectliteType.implements_) Tryz.func231 (by kernel_rfl) (by kernel_rfl) (by kernel_rfl) (by kernel_rfl)]
 skip
 rw [kImplD];rfl
theorem kTypeOfD (v:Value) (w:World):(ReflectliteType.typeOf #[.iface 69 v]).run Tryz.prog w=.ok (.iface 194 (.agg #[.pointer (some ⟨23,69,none⟩)])) (w):=by kernel_rfl
theorem cTypeOfD (v:Value) (w:World):(callFunc 47 #[.iface 69 v]).run Tryz.prog w=.ok (.value (.iface 194 (.agg #[.pointer (some ⟨23,69,none⟩)]))) (w):=by
 rw [@run_callFunc_extern Tryz.prog 47 _ (ReflectliteType.typeOf) Tryz.func47 (by kernel_rfl) (by kernel_rfl) (by kernel_rfl) (by kernel_rfl)]
 skip
 rw [kTypeOfD];rfl
theorem kAssignD  (w : World) : (ReflectliteType.relation "AssignableTo" ReflectliteType.assignableTo #[.agg #[.pointer (some ⟨23, 69, none⟩)], .iface 194 (.agg #[.pointer (some ⟨23, 69, none⟩)])]).run Tryz.prog w = .ok (.bool true) (w) := by kernel_rfl
theorem cAssignD  (w:World):(callFunc 228 #[.agg #[.pointer (some ⟨23,69,none⟩)],.iface 194 (.agg #[.pointer (some ⟨23,69,none⟩)])]).run Tryz.prog w=.ok (.value (.bool true)) (w):=by
 rw [@run_callFunc_extern Tryz.prog 228 _ (ReflectliteType.relation "AssignableTo" ReflectliteType.assignableTo) Tryz.func228 (by kernel_rfl) (by kernel_rfl) (by kernel_rfl) (by kernel_rfl)]
 skip
 rw [kAssignD];rfl
theorem kAssignE  (w : World) : (ReflectliteType.relation "AssignableTo" ReflectliteType.assignableTo #[.agg #[.pointer (some ⟨23, 285, none⟩)], .iface 194 (.agg #[.pointer (some ⟨23, 69, none⟩)])]).run Tryz.prog w = .ok (.bool false) (w) := by kernel_rfl
theorem cAssignE  (w:World):(callFunc 228 #[.agg #[.pointer (some ⟨23,285,none⟩)],.iface 194 (.agg #[.pointer (some ⟨23,69,none⟩)])]).run Tryz.prog w=.ok (.value (.bool false)) (w):=by
 rw [@run_callFunc_extern Tryz.prog 228 _ (ReflectliteType.relation "AssignableTo" ReflectliteType.assignableTo) Tryz.func228 (by kernel_rfl) (by kernel_rfl) (by kernel_rfl) (by kernel_rfl)]
 skip
 rw [kAssignE];rfl
theorem meth1 (z:Sem Value) (f:TypeId→Addr→Nat→Nat→Sem Value) (v:Value) :
  ReflectliteValue.method z f #[v]=(do match ←ReflectliteValue.parts v with | none=>z | some (t,a,fl)=>f t a fl (fl % 32)):=rfl
theorem partsT (a:Addr) (w:World):(ReflectliteValue.parts (.agg #[.pointer (some ⟨23,78,none⟩),.pointer (some a),.int .u64 150])).run Tryz.prog w=.ok (some (78,a,150)) w:=by kernel_rfl
theorem cIsNil (a p:Addr) (W:World) (ha:W.cell? a=some (.pointer (some p))):(callFunc 45 #[.agg #[.pointer (some ⟨23,78,none⟩),.pointer (some a),.int .u64 150]]).run Tryz.prog W=.ok (.value (.bool false)) W:=by
 rw [@run_callFunc_extern Tryz.prog 45 _ (ReflectliteValue.method (ReflectliteValue.valueError "reflectlite.Value.IsNil" 0) ReflectliteValue.isNil) Tryz.func45 (by kernel_rfl) (by kernel_rfl) (by kernel_rfl) (by kernel_rfl), meth1]
 simp only [Sem.run_bind,partsT,Result.andThen]
 simp [ReflectliteValue.isNil,loadVar,isAgg,underlying,Tryz.underlying78,ha,Result.andThen]
theorem elemOfT (w:World):(Rtype.elem? 78).run Tryz.prog w=.ok (some 69) w:=by kernel_rfl
theorem mkD (p:Addr) (w:World):(ReflectliteValue.mk 69 p ReflectliteValue.flagAddr).run Tryz.prog w=.ok (.agg #[.pointer (some ⟨23,69,none⟩),.pointer (some p),.int .u64 406]) w:=by kernel_rfl
theorem cElemV (a p:Addr) (W:World) (ha:W.cell? a=some (.pointer (some p))):(callFunc 79 #[.agg #[.pointer (some ⟨23,78,none⟩),.pointer (some a),.int .u64 150]]).run Tryz.prog W=.ok (.value (.agg #[.pointer (some ⟨23,69,none⟩),.pointer (some p),.int .u64 406])) W:=by
 rw [@run_callFunc_extern Tryz.prog 79 _ (ReflectliteValue.method (ReflectliteValue.valueError "reflectlite.Value.Elem" 0) ReflectliteValue.elem) Tryz.func79 (by kernel_rfl) (by kernel_rfl) (by kernel_rfl) (by kernel_rfl), meth1]
 simp only [Sem.run_bind,partsT,Result.andThen]
 simp [ReflectliteValue.elem,loadVar,isAgg,underlying,Tryz.underlying78,ha,Result.andThen,elemOfT,mkD]
end
section
open Go.RowKit Go.Extern.Stop Go.Stop Go.Extern
abbrev hDD:Value:=.pointer (some ⟨23,78,none⟩)
abbrev hD:Value:=.pointer (some ⟨23,69,none⟩)
theorem partsDa (a:Addr) (w:World):(ReflectliteValue.parts (.agg #[hD,.pointer (some a),.int .u64 406])).run Tryz.prog w=.ok (some (69,a,406)) w:=by kernel_rfl
theorem partsD (a:Addr) (w:World):(ReflectliteValue.parts (.agg #[hD,.pointer (some a),.int .u64 150])).run Tryz.prog w=.ok (some (69,a,150)) w:=by kernel_rfl
theorem directD (w:World):(Rtype.directlyAssignable 69 69).run Tryz.prog w=.ok true w:=by kernel_rfl
theorem cSet (ta b e:Addr) (old:Value) (W:World) (hb:W.cell? b=some (.pointer (some e))) (ht:W.cell? ta=some old) (hf:W.frozen? ta=false) :
  (callFunc 80 #[.agg #[hD,.pointer (some ta),.int .u64 406],.agg #[hD,.pointer (some b),.int .u64 150]]).run Tryz.prog W=.ok (.value (.tuple #[])) (W.setCell ta (.pointer (some e))):=by
 rw [@run_callFunc_extern Tryz.prog 80 _ ReflectliteValue.set Tryz.func80 (by kernel_rfl) (by kernel_rfl) (by kernel_rfl) (by kernel_rfl)]
 show ((ReflectliteValue.parts _ >>= _).run Tryz.prog W).andThen _=_
 have e0:∀(u v:Value) (h1:(#[u,v]:Array Value).size=2) (h2:0 < 2),Array.getLit #[u,v] 0 h1 h2=u:=fun _ _ _ _=>rfl
 have e1:∀(u v:Value) (h1:(#[u,v]:Array Value).size=2) (h2:1 < 2),Array.getLit #[u,v] 1 h1 h2=v:=fun _ _ _ _=>rfl
 simp only [Sem.run_bind,e0,e1,partsDa,partsD,Result.andThen]
 simp [ReflectliteValue.flagAddr,loadVar,isAgg,underlying,Tryz.underlying69,hb,Result.andThen,directD,storeVar,Value.cells,storeCells,Addr.add]
 rw [run_store Tryz.prog W ta _ _ (by rfl)]
 simp [ht,hf]
end
section
open Go.RowKit Go.Extern.Stop Go.Stop Go.Extern
abbrev eTy:Value:=.iface 194 (.agg #[.pointer (some ⟨23,51,none⟩)])
def A1 (t:Addr) (w:World):World:=w.alloc (.cells #[.pointer (some t)] 78)
def A2 (t:Addr) (w:World):World:=(w.alloc (.cells #[.pointer (some t)] 78)).alloc (.cells #[hDD,.pointer (some ⟨w.heap.size,0,none⟩),.int .u64 150] 121)
def A3 (t:Addr) (w:World):World:=((w.alloc (.cells #[.pointer (some t)] 78)).alloc (.cells #[hDD,.pointer (some ⟨w.heap.size,0,none⟩),.int .u64 150] 121)).alloc (.cells #[hDD,.pointer (some ⟨w.heap.size,0,none⟩),.int .u64 150] 121)
theorem as_hit (e t:Addr) (old:Value) (w:World) (hg:w.cell? ⟨3,0,none⟩=some eTy) (ht0:w.cell? t=some old) (hf0:w.frozen? t=false) :
  Calls Tryz.prog 24 #[.iface 69 (.pointer (some e)),.iface 78 (.pointer (some t))] w fun ev w'=>ev=.returned (.bool true)∧w'=((A3 t w).alloc (.cells #[.pointer (some e)] 69)).setCell t (.pointer (some e)):=by
 have a1:=cValueT
 have a2:=cValueD
 have a3:=cTypeT
 have a4:=cKindT
 have a5:=cKindD
 have a6:=mKind
 have a7:=mElem
 have a8:=mImplements
 have a9:=mAssignableTo
 have b1:=cElemT
 have b2:=cImplD
 have b3:=cTypeOfD
 have b4:=cAssignD
 have hlt:3 < w.heap.size:=lt_of_cell hg
 have htl:t.block < w.heap.size:=lt_of_cell ht0
 have n8:=cIsNil ⟨w.heap.size,0,none⟩ t (A2 t w) (by unfold A2;simp)
 have hg2:(A2 t w).cell? ⟨3,0,none⟩=some eTy:=by
  unfold A2
  rw [World.cell?_alloc_lt _ _ ⟨3,0,none⟩ (by simp;omega),World.cell?_alloc_lt _ _ ⟨3,0,none⟩ hlt];exact hg
 have el:=cElemV ⟨w.heap.size,0,none⟩ t (A3 t w) (by unfold A3;rw [World.cell?_alloc_lt _ _ ⟨w.heap.size,0,none⟩ (by simp;omega)];simp)
 have st:=cSet t ⟨w.heap.size+1+1+1,0,none⟩ e old ((A3 t w).alloc (.cells #[.pointer (some e)] 69))
  (by unfold A3;rw [World.cell?_alloc_at _ _ _ _ (by simp)];rfl)
  (by unfold A3;rw [World.cell?_alloc_lt _ _ t (by simp;omega),World.cell?_alloc_lt _ _ t (by simp;omega),World.cell?_alloc_lt _ _ t (by simp;omega),World.cell?_alloc_lt _ _ t htl];exact ht0)
  (by unfold A3;rw [World.frozen?_alloc_old _ _ t (by simp;omega),World.frozen?_alloc_old _ _ t (by simp;omega),World.frozen?_alloc_old _ _ t (by simp;omega),World.frozen?_alloc_old _ _ t (Nat.ne_of_lt htl)];exact hf0)
 unfold A3 at st el ⊢
 unfold A2 at n8 hg2
 clear hg ht0 hf0
 go_enter Tryz.func24,Tryz.ntmps24
 go_wp2
 refine wp_loop_rounds 1 ?_
 rw [rounds_succ]
 go_wp2
 go_ret
 exact ⟨rfl,rfl⟩
theorem as_miss (x t:Addr) (w:World) (hg:w.cell? ⟨3,0,none⟩=some eTy) :
  Calls Tryz.prog 24 #[errV x,.iface 78 (.pointer (some t))] w fun ev w'=>ev=.returned (.bool false)∧w'=A3 t w:=by
 have a1:=cValueT
 have a3:=cTypeT
 have a4:=cKindT
 have a5:=cKindD
 have a6:=mKind
 have a7:=mElem
 have a8:=mImplements
 have a9:=mAssignableTo
 have b1:=cElemT
 have b2:=cImplD
 have b3:=cTypeOfE
 have b4:=cAssignE
 have b5:=kNoAsE
 have b6:=kNoUnwrapE
 have b7:=kNoUnwrapsE
 have hlt:3 < w.heap.size:=lt_of_cell hg
 have n8:=cIsNil ⟨w.heap.size,0,none⟩ t (A2 t w) (by unfold A2;simp)
 have hg2:(A2 t w).cell? ⟨3,0,none⟩=some eTy:=by
  unfold A2
  rw [World.cell?_alloc_lt _ _ ⟨3,0,none⟩ (by simp;omega),World.cell?_alloc_lt _ _ ⟨3,0,none⟩ hlt];exact hg
 unfold A3
 unfold A2 at n8 hg2
 clear hg
 go_enter Tryz.func24,Tryz.ntmps24
 go_wp2
 refine wp_loop_rounds 1 ?_
 rw [rounds_succ]
 go_wp2
 go_ret
 exact ⟨rfl,rfl⟩
end
end Go.Proofs.YticbokabjhnagaaGreatDoor
