/-
  errors.As at a target of type **Diag. (Printed by gen_reads.py.)
-/
import Derived.Test.YtfoabfffmjljmaaGreatDoorIs
namespace Go.Proofs.YtfoabfffmjljmaaGreatDoor
open Go.RowKit Go.Extern.Stop Go.Stop Go.Extern

theorem kValueT (t : Addr) (w : World) : (ReflectliteValue.unpack (.iface 56 (.pointer (some t)))).run Tryz.prog w = .ok (.agg #[.pointer (some ⟨24, 56, none⟩), .pointer (some ⟨w.heap.size, 0, none⟩), .int .u64 150]) (w.alloc (.cells #[.pointer (some t)] 56)) := by kernel_rfl
theorem cValueT (t : Addr) (w : World) : (callFunc 20 #[.iface 56 (.pointer (some t))]).run Tryz.prog w = .ok (.value (.agg #[.pointer (some ⟨24, 56, none⟩), .pointer (some ⟨w.heap.size, 0, none⟩), .int .u64 150])) (w.alloc (.cells #[.pointer (some t)] 56)) := by
  rw [@run_callFunc_extern Tryz.prog 20 _ (fun args => ReflectliteValue.unpack (args.getD 0 (.tuple #[]))) Tryz.func20 (by kernel_rfl) (by kernel_rfl) (by kernel_rfl) (by kernel_rfl)]
  show ((ReflectliteValue.unpack (.iface 56 (.pointer (some t)))).run Tryz.prog w).andThen _ = _
  rw [kValueT]; rfl
theorem kValueD (t : Addr) (w : World) : (ReflectliteValue.unpack (.iface 52 (.pointer (some t)))).run Tryz.prog w = .ok (.agg #[.pointer (some ⟨24, 52, none⟩), .pointer (some ⟨w.heap.size, 0, none⟩), .int .u64 150]) (w.alloc (.cells #[.pointer (some t)] 52)) := by kernel_rfl
theorem cValueD (t : Addr) (w : World) : (callFunc 20 #[.iface 52 (.pointer (some t))]).run Tryz.prog w = .ok (.value (.agg #[.pointer (some ⟨24, 52, none⟩), .pointer (some ⟨w.heap.size, 0, none⟩), .int .u64 150])) (w.alloc (.cells #[.pointer (some t)] 52)) := by
  rw [@run_callFunc_extern Tryz.prog 20 _ (fun args => ReflectliteValue.unpack (args.getD 0 (.tuple #[]))) Tryz.func20 (by kernel_rfl) (by kernel_rfl) (by kernel_rfl) (by kernel_rfl)]
  show ((ReflectliteValue.unpack (.iface 52 (.pointer (some t)))).run Tryz.prog w).andThen _ = _
  rw [kValueD]; rfl
theorem kTypeT (a : Addr) (w : World) : (ReflectliteValue.methodAny (ReflectliteValue.valueError "reflectlite.Value.Type" 0) (fun t _ _ _ => ReflectliteType.toType t) #[.agg #[.pointer (some ⟨24, 56, none⟩), .pointer (some a), .int .u64 150]]).run Tryz.prog w = .ok (.iface 88 (.agg #[.pointer (some ⟨24, 56, none⟩)])) (w) := by kernel_rfl
theorem cTypeT (a : Addr) (w : World) : (callFunc 21 #[.agg #[.pointer (some ⟨24, 56, none⟩), .pointer (some a), .int .u64 150]]).run Tryz.prog w = .ok (.value (.iface 88 (.agg #[.pointer (some ⟨24, 56, none⟩)]))) (w) := by
  rw [@run_callFunc_extern Tryz.prog 21 _ (ReflectliteValue.methodAny (ReflectliteValue.valueError "reflectlite.Value.Type" 0) (fun t _ _ _ => ReflectliteType.toType t)) Tryz.func21 (by kernel_rfl) (by kernel_rfl) (by kernel_rfl) (by kernel_rfl)]
  skip
  rw [kTypeT]; rfl
theorem kKindT  (w : World) : ((ReflectliteType.abiMethod fun t => do pure (.int .u8 (← Rtype.kind t))) #[.pointer (some ⟨24, 56, none⟩)]).run Tryz.prog w = .ok (.int .u8 22) (w) := by kernel_rfl
theorem cKindT  (w : World) : (callFunc 104 #[.pointer (some ⟨24, 56, none⟩)]).run Tryz.prog w = .ok (.value (.int .u8 22)) (w) := by
  rw [@run_callFunc_extern Tryz.prog 104 _ ((ReflectliteType.abiMethod fun t => do pure (.int .u8 (← Rtype.kind t)))) Tryz.func104 (by kernel_rfl) (by kernel_rfl) (by kernel_rfl) (by kernel_rfl)]
  skip
  rw [kKindT]; rfl
theorem kKindD  (w : World) : ((ReflectliteType.abiMethod fun t => do pure (.int .u8 (← Rtype.kind t))) #[.pointer (some ⟨24, 52, none⟩)]).run Tryz.prog w = .ok (.int .u8 22) (w) := by kernel_rfl
theorem cKindD  (w : World) : (callFunc 104 #[.pointer (some ⟨24, 52, none⟩)]).run Tryz.prog w = .ok (.value (.int .u8 22)) (w) := by
  rw [@run_callFunc_extern Tryz.prog 104 _ ((ReflectliteType.abiMethod fun t => do pure (.int .u8 (← Rtype.kind t)))) Tryz.func104 (by kernel_rfl) (by kernel_rfl) (by kernel_rfl) (by kernel_rfl)]
  skip
  rw [kKindD]; rfl
theorem mKind (h : Value) (w : World) : (Go.method 326 88 (.agg #[h]) "Kind").run Tryz.prog w = .ok (104, h) w := by kernel_rfl
theorem mElem (h : Value) (w : World) : (Go.method 326 88 (.agg #[h]) "Elem").run Tryz.prog w = .ok (115, .agg #[h]) w := by kernel_rfl
theorem mImplements (h : Value) (w : World) : (Go.method 326 88 (.agg #[h]) "Implements").run Tryz.prog w = .ok (116, .agg #[h]) w := by kernel_rfl
theorem mAssignableTo (h : Value) (w : World) : (Go.method 326 88 (.agg #[h]) "AssignableTo").run Tryz.prog w = .ok (113, .agg #[h]) w := by kernel_rfl
theorem kElemT  (w : World) : (ReflectliteType.method ReflectliteType.elem #[.agg #[.pointer (some ⟨24, 56, none⟩)]]).run Tryz.prog w = .ok (.iface 88 (.agg #[.pointer (some ⟨24, 52, none⟩)])) (w) := by kernel_rfl
theorem cElemT  (w : World) : (callFunc 115 #[.agg #[.pointer (some ⟨24, 56, none⟩)]]).run Tryz.prog w = .ok (.value (.iface 88 (.agg #[.pointer (some ⟨24, 52, none⟩)]))) (w) := by
  rw [@run_callFunc_extern Tryz.prog 115 _ (ReflectliteType.method ReflectliteType.elem) Tryz.func115 (by kernel_rfl) (by kernel_rfl) (by kernel_rfl) (by kernel_rfl)]
  skip
  rw [kElemT]; rfl
theorem kImplD  (w : World) : (ReflectliteType.relation "Implements" ReflectliteType.implements_ #[.agg #[.pointer (some ⟨24, 52, none⟩)], .iface 88 (.agg #[.pointer (some ⟨24, 36, none⟩)])]).run Tryz.prog w = .ok (.bool true) (w) := by kernel_rfl
theorem cImplD  (w : World) : (callFunc 116 #[.agg #[.pointer (some ⟨24, 52, none⟩)], .iface 88 (.agg #[.pointer (some ⟨24, 36, none⟩)])]).run Tryz.prog w = .ok (.value (.bool true)) (w) := by
  rw [@run_callFunc_extern Tryz.prog 116 _ (ReflectliteType.relation "Implements" ReflectliteType.implements_) Tryz.func116 (by kernel_rfl) (by kernel_rfl) (by kernel_rfl) (by kernel_rfl)]
  skip
  rw [kImplD]; rfl
theorem kTypeOfD (v : Value) (w : World) : (ReflectliteType.typeOf #[.iface 52 v]).run Tryz.prog w = .ok (.iface 88 (.agg #[.pointer (some ⟨24, 52, none⟩)])) (w) := by kernel_rfl
theorem cTypeOfD (v : Value) (w : World) : (callFunc 24 #[.iface 52 v]).run Tryz.prog w = .ok (.value (.iface 88 (.agg #[.pointer (some ⟨24, 52, none⟩)]))) (w) := by
  rw [@run_callFunc_extern Tryz.prog 24 _ (ReflectliteType.typeOf) Tryz.func24 (by kernel_rfl) (by kernel_rfl) (by kernel_rfl) (by kernel_rfl)]
  skip
  rw [kTypeOfD]; rfl
theorem kAssignD  (w : World) : (ReflectliteType.relation "AssignableTo" ReflectliteType.assignableTo #[.agg #[.pointer (some ⟨24, 52, none⟩)], .iface 88 (.agg #[.pointer (some ⟨24, 52, none⟩)])]).run Tryz.prog w = .ok (.bool true) (w) := by kernel_rfl
theorem cAssignD  (w : World) : (callFunc 113 #[.agg #[.pointer (some ⟨24, 52, none⟩)], .iface 88 (.agg #[.pointer (some ⟨24, 52, none⟩)])]).run Tryz.prog w = .ok (.value (.bool true)) (w) := by
  rw [@run_callFunc_extern Tryz.prog 113 _ (ReflectliteType.relation "AssignableTo" ReflectliteType.assignableTo) Tryz.func113 (by kernel_rfl) (by kernel_rfl) (by kernel_rfl) (by kernel_rfl)]
  skip
  rw [kAssignD]; rfl
theorem kAssignE  (w : World) : (ReflectliteType.relation "AssignableTo" ReflectliteType.assignableTo #[.agg #[.pointer (some ⟨24, 169, none⟩)], .iface 88 (.agg #[.pointer (some ⟨24, 52, none⟩)])]).run Tryz.prog w = .ok (.bool false) (w) := by kernel_rfl
theorem cAssignE  (w : World) : (callFunc 113 #[.agg #[.pointer (some ⟨24, 169, none⟩)], .iface 88 (.agg #[.pointer (some ⟨24, 52, none⟩)])]).run Tryz.prog w = .ok (.value (.bool false)) (w) := by
  rw [@run_callFunc_extern Tryz.prog 113 _ (ReflectliteType.relation "AssignableTo" ReflectliteType.assignableTo) Tryz.func113 (by kernel_rfl) (by kernel_rfl) (by kernel_rfl) (by kernel_rfl)]
  skip
  rw [kAssignE]; rfl

theorem meth1 (z : Sem Value) (f : TypeId → Addr → Nat → Nat → Sem Value) (v : Value) :
    ReflectliteValue.method z f #[v] = (do match ← ReflectliteValue.parts v with | none => z | some (t, a, fl) => f t a fl (fl % 32)) := rfl
theorem partsT (a : Addr) (w : World) : (ReflectliteValue.parts (.agg #[.pointer (some ⟨24, 56, none⟩), .pointer (some a), .int .u64 150])).run Tryz.prog w = .ok (some (56, a, 150)) w := by kernel_rfl
theorem cIsNil (a p : Addr) (W : World) (ha : W.cell? a = some (.pointer (some p))) : (callFunc 22 #[.agg #[.pointer (some ⟨24, 56, none⟩), .pointer (some a), .int .u64 150]]).run Tryz.prog W = .ok (.value (.bool false)) W := by
  rw [@run_callFunc_extern Tryz.prog 22 _ (ReflectliteValue.method (ReflectliteValue.valueError "reflectlite.Value.IsNil" 0) ReflectliteValue.isNil) Tryz.func22 (by kernel_rfl) (by kernel_rfl) (by kernel_rfl) (by kernel_rfl), meth1]
  simp only [Sem.run_bind, partsT, Result.andThen]
  simp [ReflectliteValue.isNil, loadVar, isAgg, underlying, Tryz.underlying56, ha, Result.andThen]
theorem elemOfT (w : World) : (Rtype.elem? 56).run Tryz.prog w = .ok (some 52) w := by kernel_rfl
theorem mkD (p : Addr) (w : World) : (ReflectliteValue.mk 52 p ReflectliteValue.flagAddr).run Tryz.prog w = .ok (.agg #[.pointer (some ⟨24, 52, none⟩), .pointer (some p), .int .u64 406]) w := by kernel_rfl
theorem cElemV (a p : Addr) (W : World) (ha : W.cell? a = some (.pointer (some p))) : (callFunc 33 #[.agg #[.pointer (some ⟨24, 56, none⟩), .pointer (some a), .int .u64 150]]).run Tryz.prog W = .ok (.value (.agg #[.pointer (some ⟨24, 52, none⟩), .pointer (some p), .int .u64 406])) W := by
  rw [@run_callFunc_extern Tryz.prog 33 _ (ReflectliteValue.method (ReflectliteValue.valueError "reflectlite.Value.Elem" 0) ReflectliteValue.elem) Tryz.func33 (by kernel_rfl) (by kernel_rfl) (by kernel_rfl) (by kernel_rfl), meth1]
  simp only [Sem.run_bind, partsT, Result.andThen]
  simp [ReflectliteValue.elem, loadVar, isAgg, underlying, Tryz.underlying56, ha, Result.andThen, elemOfT, mkD]

end Go.Proofs.YtfoabfffmjljmaaGreatDoor
