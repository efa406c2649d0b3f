import Derived.Test.YtoiajojadihpbaaGreatDoorQt10
namespace Go.Proofs.YtoiajojadihpbaaGreatDoor
set_option maxHeartbeats 8000000
set_option maxRecDepth 100000
section
open Go.RowKit Go.Extern.Stop Go.Stop Go.Extern
theorem kValueT (t:Addr) (w:World):(ReflectliteValue.unpack (.iface 185 (.pointer (some t)))).run Tryz.prog w=.ok (.agg #[.pointer (some ⟨28,185,none⟩),.pointer (some ⟨w.heap.size,0,none⟩),.int .u64 150]) (w.alloc (.cells #[.pointer (some t)] 185)):=by kernel_rfl
theorem cValueT (t:Addr) (w:World):(callFunc 120 #[.iface 185 (.pointer (some t))]).run Tryz.prog w=.ok (.value (.agg #[.pointer (some ⟨28,185,none⟩),.pointer (some ⟨w.heap.size,0,none⟩),.int .u64 150])) (w.alloc (.cells #[.pointer (some t)] 185)):=by
 rw[@run_callFunc_extern Tryz.prog 120 _ (fun args=>ReflectliteValue.unpack (args.getD 0 (.tuple #[]))) Tryz.func120 (by kernel_rfl) (by kernel_rfl) (by kernel_rfl) (by kernel_rfl)]
 show ((ReflectliteValue.unpack (.iface 185 (.pointer (some t)))).run Tryz.prog w).andThen _=_
 rw[kValueT];rfl
theorem kValueD (t:Addr) (w:World):(ReflectliteValue.unpack (.iface 181 (.pointer (some t)))).run Tryz.prog w=.ok (.agg #[.pointer (some ⟨28,181,none⟩),.pointer (some ⟨w.heap.size,0,none⟩),.int .u64 150]) (w.alloc (.cells #[.pointer (some t)] 181)):=by kernel_rfl
theorem cValueD (t:Addr) (w:World):(callFunc 120 #[.iface 181 (.pointer (some t))]).run Tryz.prog w=.ok (.value (.agg #[.pointer (some ⟨28,181,none⟩),.pointer (some ⟨w.heap.size,0,none⟩),.int .u64 150])) (w.alloc (.cells #[.pointer (some t)] 181)):=by
 rw[@run_callFunc_extern Tryz.prog 120 _ (fun args=>ReflectliteValue.unpack (args.getD 0 (.tuple #[]))) Tryz.func120 (by kernel_rfl) (by kernel_rfl) (by kernel_rfl) (by kernel_rfl)]
 show ((ReflectliteValue.unpack (.iface 181 (.pointer (some t)))).run Tryz.prog w).andThen _=_
 rw[kValueD];rfl
theorem kTypeT (a : Addr) (w : World) : (ReflectliteValue.methodAny (ReflectliteValue.valueError "reflectlite.Value.Type" 0) (fun t _ _ _ => ReflectliteType.toType t) #[.agg #[.pointer (some ⟨28, 185, none⟩), .pointer (some a), .int .u64 150]]).run Tryz.prog w = .ok (.iface 245 (.agg #[.pointer (some ⟨28, 185, none⟩)])) (w) := by kernel_rfl
theorem cTypeT (a:Addr) (w:World):(callFunc 121 #[.agg #[.pointer (some ⟨28,185,none⟩),.pointer (some a),.int .u64 150]]).run Tryz.prog w=.ok (.value (.iface 245 (.agg #[.pointer (some ⟨28,185,none⟩)]))) (w):=by
 rw [@run_callFunc_extern Tryz.prog 121 _ (ReflectliteValue.methodAny (ReflectliteValue.valueError "reflectlite.Value.Type" 0) (fun t _ _ _ => ReflectliteType.toType t)) Tryz.func121 (by kernel_rfl) (by kernel_rfl) (by kernel_rfl) (by kernel_rfl)]
 skip
 rw[kTypeT];rfl
theorem kKindT  (w:World):((ReflectliteType.abiMethod fun t=>do pure (.int .u8 (<-Rtype.kind t))) #[.pointer (some ⟨28,185,none⟩)]).run Tryz.prog w=.ok (.int .u8 22) (w):=by kernel_rfl
theorem cKindT  (w:World):(callFunc 216 #[.pointer (some ⟨28,185,none⟩)]).run Tryz.prog w=.ok (.value (.int .u8 22)) (w):=by
 rw[@run_callFunc_extern Tryz.prog 216 _ ((ReflectliteType.abiMethod fun t=>do pure (.int .u8 (<-Rtype.kind t)))) Tryz.func216 (by kernel_rfl) (by kernel_rfl) (by kernel_rfl) (by kernel_rfl)]
 skip
 rw[kKindT];rfl
theorem kKindD  (w:World):((ReflectliteType.abiMethod fun t=>do pure (.int .u8 (<-Rtype.kind t))) #[.pointer (some ⟨28,181,none⟩)]).run Tryz.prog w=.ok (.int .u8 22) (w):=by kernel_rfl
theorem cKindD  (w:World):(callFunc 216 #[.pointer (some ⟨28,181,none⟩)]).run Tryz.prog w=.ok (.value (.int .u8 22)) (w):=by
 rw[@run_callFunc_extern Tryz.prog 216 _ ((ReflectliteType.abiMethod fun t=>do pure (.int .u8 (<-Rtype.kind t)))) Tryz.func216 (by kernel_rfl) (by kernel_rfl) (by kernel_rfl) (by kernel_rfl)]
 skip
 rw[kKindD];rfl
theorem mKind (h : Value) (w : World) : (Go.method 465 245 (.agg #[h]) "Kind").run Tryz.prog w = .ok (216, h) w := by kernel_rfl
theorem mElem (h : Value) (w : World) : (Go.method 465 245 (.agg #[h]) "Elem").run Tryz.prog w = .ok (227, .agg #[h]) w := by kernel_rfl
theorem mImplements (h : Value) (w : World) : (Go.method 465 245 (.agg #[h]) "Implements").run Tryz.prog w = .ok (228, .agg #[h]) w := by kernel_rfl
theorem mAssignableTo (h : Value) (w : World) : (Go.method 465 245 (.agg #[h]) "AssignableTo").run Tryz.prog w = .ok (225, .agg #[h]) w := by kernel_rfl
theorem kElemT  (w:World):(ReflectliteType.method ReflectliteType.elem #[.agg #[.pointer (some ⟨28,185,none⟩)]]).run Tryz.prog w=.ok (.iface 245 (.agg #[.pointer (some ⟨28,181,none⟩)])) (w):=by kernel_rfl
theorem cElemT  (w:World):(callFunc 227 #[.agg #[.pointer (some ⟨28,185,none⟩)]]).run Tryz.prog w=.ok (.value (.iface 245 (.agg #[.pointer (some ⟨28,181,none⟩)]))) (w):=by
 rw[@run_callFunc_extern Tryz.prog 227 _ (ReflectliteType.method ReflectliteType.elem) Tryz.func227 (by kernel_rfl) (by kernel_rfl) (by kernel_rfl) (by kernel_rfl)]
 skip
 rw[kElemT];rfl
theorem kImplD  (w : World) : (ReflectliteType.relation "Implements" ReflectliteType.implements_ #[.agg #[.pointer (some ⟨28, 181, none⟩)], .iface 245 (.agg #[.pointer (some ⟨28, 90, none⟩)])]).run Tryz.prog w = .ok (.bool true) (w) := by kernel_rfl
theorem cImplD  (w:World):(callFunc 228 #[.agg #[.pointer (some ⟨28,181,none⟩)],.iface 245 (.agg #[.pointer (some ⟨28,90,none⟩)])]).run Tryz.prog w=.ok (.value (.bool true)) (w):=by
 rw [@run_callFunc_extern Tryz.prog 228 _ (ReflectliteType.relation "Implements" ReflectliteType.implements_) Tryz.func228 (by kernel_rfl) (by kernel_rfl) (by kernel_rfl) (by kernel_rfl)]
 skip
 rw[kImplD];rfl
theorem kTypeOfD (v:Value) (w:World):(ReflectliteType.typeOf #[.iface 181 v]).run Tryz.prog w=.ok (.iface 245 (.agg #[.pointer (some ⟨28,181,none⟩)])) (w):=by kernel_rfl
theorem cTypeOfD (v:Value) (w:World):(callFunc 124 #[.iface 181 v]).run Tryz.prog w=.ok (.value (.iface 245 (.agg #[.pointer (some ⟨28,181,none⟩)]))) (w):=by
 rw[@run_callFunc_extern Tryz.prog 124 _ (ReflectliteType.typeOf) Tryz.func124 (by kernel_rfl) (by kernel_rfl) (by kernel_rfl) (by kernel_rfl)]
 skip
 rw[kTypeOfD];rfl
theorem kAssignD  (w : World) : (ReflectliteType.relation "AssignableTo" ReflectliteType.assignableTo #[.agg #[.pointer (some ⟨28, 181, none⟩)], .iface 245 (.agg #[.pointer (some ⟨28, 181, none⟩)])]).run Tryz.prog w = .ok (.bool true) (w) := by kernel_rfl
theorem cAssignD  (w:World):(callFunc 225 #[.agg #[.pointer (some ⟨28,181,none⟩)],.iface 245 (.agg #[.pointer (some ⟨28,181,none⟩)])]).run Tryz.prog w=.ok (.value (.bool true)) (w):=by
 rw [@run_callFunc_extern Tryz.prog 225 _ (ReflectliteType.relation "AssignableTo" ReflectliteType.assignableTo) Tryz.func225 (by kernel_rfl) (by kernel_rfl) (by kernel_rfl) (by kernel_rfl)]
 skip
 rw[kAssignD];rfl
theorem kAssignE  (w : World) : (ReflectliteType.relation "AssignableTo" ReflectliteType.assignableTo #[.agg #[.pointer (some ⟨28, 312, none⟩)], .iface 245 (.agg #[.pointer (some ⟨28, 181, none⟩)])]).run Tryz.prog w = .ok (.bool false) (w) := by kernel_rfl
theorem cAssignE  (w:World):(callFunc 225 #[.agg #[.pointer (some ⟨28,312,none⟩)],.iface 245 (.agg #[.pointer (some ⟨28,181,none⟩)])]).run Tryz.prog w=.ok (.value (.bool false)) (w):=by
 rw [@run_callFunc_extern Tryz.prog 225 _ (ReflectliteType.relation "AssignableTo" ReflectliteType.assignableTo) Tryz.func225 (by kernel_rfl) (by kernel_rfl) (by kernel_rfl) (by kernel_rfl)]
 skip
 rw[kAssignE];rfl
theorem meth1 (z:Sem Value) (f:TypeId->Addr->Nat->Nat->Sem Value) (v:Value) :
  ReflectliteValue.method z f #[v]=(do match <-ReflectliteValue.parts v with|none=>z|some (t,a,fl)=>f t a fl (fl % 32)):=rfl
theorem partsT (a:Addr) (w:World):(ReflectliteValue.parts (.agg #[.pointer (some ⟨28,185,none⟩),.pointer (some a),.int .u64 150])).run Tryz.prog w=.ok (some (185,a,150)) w:=by kernel_rfl
theorem cIsNil (a p:Addr) (W:World) (ha:W.cell? a=some (.pointer (some p))):(callFunc 122 #[.agg #[.pointer (some ⟨28,185,none⟩),.pointer (some a),.int .u64 150]]).run Tryz.prog W=.ok (.value (.bool false)) W:=by
 rw [@run_callFunc_extern Tryz.prog 122 _ (ReflectliteValue.method (ReflectliteValue.valueError "reflectlite.Value.IsNil" 0) ReflectliteValue.isNil) Tryz.func122 (by kernel_rfl) (by kernel_rfl) (by kernel_rfl) (by kernel_rfl), meth1]
 simp only[Sem.run_bind,partsT,Result.andThen]
 simp[ReflectliteValue.isNil,loadVar,isAgg,underlying,Tryz.underlying185,ha,Result.andThen]
theorem elemOfT (w:World):(Rtype.elem? 185).run Tryz.prog w=.ok (some 181) w:=by kernel_rfl
theorem mkD (p:Addr) (w:World):(ReflectliteValue.mk 181 p ReflectliteValue.flagAddr).run Tryz.prog w=.ok (.agg #[.pointer (some ⟨28,181,none⟩),.pointer (some p),.int .u64 406]) w:=by kernel_rfl
theorem cElemV (a p:Addr) (W:World) (ha:W.cell? a=some (.pointer (some p))):(callFunc 145 #[.agg #[.pointer (some ⟨28,185,none⟩),.pointer (some a),.int .u64 150]]).run Tryz.prog W=.ok (.value (.agg #[.pointer (some ⟨28,181,none⟩),.pointer (some p),.int .u64 406])) W:=by
 rw [@run_callFunc_extern Tryz.prog 145 _ (ReflectliteValue.method (ReflectliteValue.valueError "reflectlite.Value.Elem" 0) ReflectliteValue.elem) Tryz.func145 (by kernel_rfl) (by kernel_rfl) (by kernel_rfl) (by kernel_rfl), meth1]
 simp only[Sem.run_bind,partsT,Result.andThen]
 simp[ReflectliteValue.elem,loadVar,isAgg,underlying,Tryz.underlying185,ha,Result.andThen,elemOfT,mkD]
end
end Go.Proofs.YtoiajojadihpbaaGreatDoor
