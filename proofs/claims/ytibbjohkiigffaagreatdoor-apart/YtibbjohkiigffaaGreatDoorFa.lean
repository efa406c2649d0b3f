/-
  Is, As, Asw, Asc, Flt, in one.
-/
import Derived.Test.YtibbjohkiigffaaGreatDoorAd
import Derived.LaidEql
import Derived.Stop.Asserts
import Derived.RowKitTokens
namespace Go.Proofs.YtibbjohkiigffaaGreatDoor
open Go.RowKit Go.Extern.Stop Go.Stop Go.Extern

theorem kTypeOfE (v : Value) (w : World) : (Extern.ReflectliteType.typeOf #[.iface 250 v]).run Tryz.prog w = .ok (.iface 143 (.agg #[.pointer (some ⟨23, 250, none⟩)])) w := by kernel_rfl
theorem kComparableE (w : World) : ((Extern.ReflectliteType.method fun t => do Extern.Rtype.noPackHeld "Comparable" t; pure (.bool (← typeInfo t).comparable)) #[.agg #[.pointer (some ⟨23, 250, none⟩)]]).run Tryz.prog w = .ok (.bool true) w := by kernel_rfl
theorem kMethodComparable (v : Value) (w : World) : (Go.method 391 143 v "Comparable").run Tryz.prog w = .ok (176, v) w := by kernel_rfl
theorem kCompE : (Tryz.prog.info? 250).map (·.comparable) = some true := by kernel_rfl
theorem kSizeE : (Tryz.prog.info? 252).map (·.size) = some 1 := by kernel_rfl
theorem kNoIsE (v : Value) (xT : TypeId) (w : World) : (Instr.typeAssert (.iface 250 v) xT 152 true).run Tryz.prog w = .ok (.tuple #[.nilIface, .bool false]) w := run_typeAssert_lacksB Tryz.underlying152 (by kernel_rfl) (by kernel_rfl) v xT w
theorem kNoUnwrapE (v : Value) (xT : TypeId) (w : World) : (Instr.typeAssert (.iface 250 v) xT 150 true).run Tryz.prog w = .ok (.tuple #[.nilIface, .bool false]) w := run_typeAssert_lacksB Tryz.underlying150 (by kernel_rfl) (by kernel_rfl) v xT w
theorem kNoUnwrapsE (v : Value) (xT : TypeId) (w : World) : (Instr.typeAssert (.iface 250 v) xT 151 true).run Tryz.prog w = .ok (.tuple #[.nilIface, .bool false]) w := run_typeAssert_lacksB Tryz.underlying151 (by kernel_rfl) (by kernel_rfl) v xT w
theorem kNoAsE (v : Value) (xT : TypeId) (w : World) : (Instr.typeAssert (.iface 250 v) xT 147 true).run Tryz.prog w = .ok (.tuple #[.nilIface, .bool false]) w := run_typeAssert_lacksB Tryz.underlying147 (by kernel_rfl) (by kernel_rfl) v xT w
theorem kNoIsD (v : Value) (xT : TypeId) (w : World) : (Instr.typeAssert (.iface 59 v) xT 152 true).run Tryz.prog w = .ok (.tuple #[.nilIface, .bool false]) w := run_typeAssert_lacksB Tryz.underlying152 (by kernel_rfl) (by kernel_rfl) v xT w
theorem kHasUnwrapD (v : Value) (xT : TypeId) (w : World) : (Instr.typeAssert (.iface 59 v) xT 150 true).run Tryz.prog w = .ok (.tuple #[.iface 59 v, .bool true]) w := run_typeAssert_hasB Tryz.underlying150 (by kernel_rfl) v xT w
theorem kMethodUnwrap (v : Value) (w : World) : (Go.method 391 59 v "Unwrap").run Tryz.prog w = .ok (18, v) w := by kernel_rfl

theorem cTypeOfE (v : Value) (w : World) : (callFunc 36 #[.iface 250 v]).run Tryz.prog w = .ok (.value (.iface 143 (.agg #[.pointer (some ⟨23, 250, none⟩)]))) w := by
  rw [@run_callFunc_extern Tryz.prog 36 _ Extern.ReflectliteType.typeOf Tryz.func36 (by kernel_rfl) (by kernel_rfl) (by kernel_rfl) (by kernel_rfl), kTypeOfE]; rfl
theorem cComparableE (w : World) : (callFunc 176 #[.agg #[.pointer (some ⟨23, 250, none⟩)]]).run Tryz.prog w = .ok (.value (.bool true)) w := by
  rw [@run_callFunc_extern Tryz.prog 176 _ (Extern.ReflectliteType.method fun t => do Extern.Rtype.noPackHeld "Comparable" t; pure (.bool (← typeInfo t).comparable)) Tryz.func176 (by kernel_rfl) (by kernel_rfl) (by kernel_rfl) (by kernel_rfl), kComparableE]; rfl

/-- Whether two such errors are one: by their addresses. -/
theorem eql_err (x y : Addr) (w : World) (hx : ∃ c t, w.heap[x.block]? = some (.cells c t (0, 0))) (hy : ∃ c t, w.heap[y.block]? = some (.cells c t (0, 0))) :
    (binOp BinOp.eql 45 (errV x) (errV y)).run Tryz.prog w = .ok (.bool (decide (x = y))) w := by
  obtain ⟨i, hi, hcmp⟩ := Option.map_eq_some_iff.1 kCompE
  obtain ⟨j, hj, hjs⟩ := Option.map_eq_some_iff.1 kSizeE
  obtain ⟨ca, ta, ha⟩ := hx
  obtain ⟨cb, tb, hb⟩ := hy
  by_cases h : x = y
  · subst h
    rw [decide_eq_true rfl]
    exact run_eql_iface_ptr_same (P := Tryz.prog) w x Tryz.underlying45 Tryz.underlying250 hi hcmp hj
  · rw [decide_eq_false h]
    exact run_eql_iface_ptr_other (P := Tryz.prog) w Tryz.underlying45 Tryz.underlying250 hi hcmp hj (by rw [hjs]; decide) h ha hb

set_option maxHeartbeats 2000000 in
/-- errors.Is at two errors of errors.New's make. -/
theorem is_err (x y : Addr) (w : World) (hx : ∃ c t, w.heap[x.block]? = some (.cells c t (0, 0))) (hy : ∃ c t, w.heap[y.block]? = some (.cells c t (0, 0))) :
    Calls Tryz.prog 20 #[errV x, errV y] w fun e w' => e = .returned (.bool (decide (x = y))) ∧ w' = w := by
  have h1 := cTypeOfE
  have h2 := cComparableE
  have h3 := kMethodComparable
  have h4 := kNoIsE
  have h5 := kNoUnwrapE
  have h6 := kNoUnwrapsE
  have heq := eql_err x y w hx hy
  clear hx hy
  by_cases h : x = y
  · rw [decide_eq_true h] at heq ⊢
    have HH : Hid (x = y) := h
    clear h
    go_enter Tryz.func20, Tryz.ntmps20
    go_wp2
    refine wp_loop_rounds 1 ?_
    rw [rounds_succ]
    go_wp2
    go_ret
    exact ⟨rfl, rfl⟩
  · rw [decide_eq_false h] at heq ⊢
    have HH : Hid (x ≠ y) := h
    clear h
    go_enter Tryz.func20, Tryz.ntmps20
    go_wp2
    refine wp_loop_rounds 1 ?_
    rw [rounds_succ]
    go_wp2
    go_ret
    exact ⟨rfl, rfl⟩

set_option maxHeartbeats 2000000 in
/-- errors.Is at a Diag that bears such an error. -/
theorem is_diag (d : Nat) (at_ : Int) (x y : Addr) (w : World) (hd : w.heap[d]? = some (.cells #[.int .i64 at_, errV x] 70 (0, 0))) (hx : ∃ c t, w.heap[x.block]? = some (.cells c t (0, 0))) (hy : ∃ c t, w.heap[y.block]? = some (.cells c t (0, 0))) :
    Calls Tryz.prog 20 #[.iface 59 (.pointer (some ⟨d, 0, none⟩)), errV y] w fun e w' => e = .returned (.bool (decide (x = y))) ∧ w' = w := by
  have h1 := cTypeOfE
  have h2 := cComparableE
  have h3 := kMethodComparable
  have h4 := kNoIsE
  have h5 := kNoUnwrapE
  have h6 := kNoUnwrapsE
  have h7 := kNoIsD
  have h8 := kHasUnwrapD
  have h9 := kMethodUnwrap
  have heq := eql_err x y w hx hy
  have hty := run_eql_iface_types (P := Tryz.prog) 59 250 (.pointer (some ⟨d, 0, none⟩)) (.pointer (some y)) Tryz.underlying45 (by decide) w
  have hc1 : w.cell? ⟨d, 1, none⟩ = some (errV x) := by rw [cell_of_row w d 1 _ _ _ hd]; rfl
  clear hx hy hd
  by_cases h : x = y
  · rw [decide_eq_true h] at heq ⊢
    have HH : Hid (x = y) := h
    clear h
    go_enter Tryz.func20, Tryz.ntmps20
    go_wp2
    refine wp_loop_rounds 2 ?_
    rw [rounds_succ]
    go_wp2
    rw [rounds_succ]
    go_wp2
    go_ret
    exact ⟨rfl, rfl⟩
  · rw [decide_eq_false h] at heq ⊢
    have HH : Hid (x ≠ y) := h
    clear h
    go_enter Tryz.func20, Tryz.ntmps20
    go_wp2
    refine wp_loop_rounds 2 ?_
    rw [rounds_succ]
    go_wp2
    rw [rounds_succ]
    go_wp2
    go_ret
    exact ⟨rfl, rfl⟩

end Go.Proofs.YtibbjohkiigffaaGreatDoor
namespace Go.Proofs.YtibbjohkiigffaaGreatDoor
open Go.RowKit Go.Extern.Stop Go.Stop Go.Extern

theorem kValueT (t : Addr) (w : World) : (ReflectliteValue.unpack (.iface 67 (.pointer (some t)))).run Tryz.prog w = .ok (.agg #[.pointer (some ⟨23, 67, none⟩), .pointer (some ⟨w.heap.size, 0, none⟩), .int .u64 150]) (w.alloc (.cells #[.pointer (some t)] 67)) := by kernel_rfl
theorem cValueT (t : Addr) (w : World) : (callFunc 32 #[.iface 67 (.pointer (some t))]).run Tryz.prog w = .ok (.value (.agg #[.pointer (some ⟨23, 67, none⟩), .pointer (some ⟨w.heap.size, 0, none⟩), .int .u64 150])) (w.alloc (.cells #[.pointer (some t)] 67)) := by
  rw [@run_callFunc_extern Tryz.prog 32 _ (fun args => ReflectliteValue.unpack (args.getD 0 (.tuple #[]))) Tryz.func32 (by kernel_rfl) (by kernel_rfl) (by kernel_rfl) (by kernel_rfl)]
  show ((ReflectliteValue.unpack (.iface 67 (.pointer (some t)))).run Tryz.prog w).andThen _ = _
  rw [kValueT]; rfl
theorem kValueD (t : Addr) (w : World) : (ReflectliteValue.unpack (.iface 59 (.pointer (some t)))).run Tryz.prog w = .ok (.agg #[.pointer (some ⟨23, 59, none⟩), .pointer (some ⟨w.heap.size, 0, none⟩), .int .u64 150]) (w.alloc (.cells #[.pointer (some t)] 59)) := by kernel_rfl
theorem cValueD (t : Addr) (w : World) : (callFunc 32 #[.iface 59 (.pointer (some t))]).run Tryz.prog w = .ok (.value (.agg #[.pointer (some ⟨23, 59, none⟩), .pointer (some ⟨w.heap.size, 0, none⟩), .int .u64 150])) (w.alloc (.cells #[.pointer (some t)] 59)) := by
  rw [@run_callFunc_extern Tryz.prog 32 _ (fun args => ReflectliteValue.unpack (args.getD 0 (.tuple #[]))) Tryz.func32 (by kernel_rfl) (by kernel_rfl) (by kernel_rfl) (by kernel_rfl)]
  show ((ReflectliteValue.unpack (.iface 59 (.pointer (some t)))).run Tryz.prog w).andThen _ = _
  rw [kValueD]; rfl
theorem kTypeT (a : Addr) (w : World) : (ReflectliteValue.methodAny (ReflectliteValue.valueError "reflectlite.Value.Type" 0) (fun t _ _ _ => ReflectliteType.toType t) #[.agg #[.pointer (some ⟨23, 67, none⟩), .pointer (some a), .int .u64 150]]).run Tryz.prog w = .ok (.iface 143 (.agg #[.pointer (some ⟨23, 67, none⟩)])) (w) := by kernel_rfl
theorem cTypeT (a : Addr) (w : World) : (callFunc 33 #[.agg #[.pointer (some ⟨23, 67, none⟩), .pointer (some a), .int .u64 150]]).run Tryz.prog w = .ok (.value (.iface 143 (.agg #[.pointer (some ⟨23, 67, none⟩)]))) (w) := by
  rw [@run_callFunc_extern Tryz.prog 33 _ (ReflectliteValue.methodAny (ReflectliteValue.valueError "reflectlite.Value.Type" 0) (fun t _ _ _ => ReflectliteType.toType t)) Tryz.func33 (by kernel_rfl) (by kernel_rfl) (by kernel_rfl) (by kernel_rfl)]
  skip
  rw [kTypeT]; rfl
theorem kKindT  (w : World) : ((ReflectliteType.abiMethod fun t => do pure (.int .u8 (← Rtype.kind t))) #[.pointer (some ⟨23, 67, none⟩)]).run Tryz.prog w = .ok (.int .u8 22) (w) := by kernel_rfl
theorem cKindT  (w : World) : (callFunc 163 #[.pointer (some ⟨23, 67, none⟩)]).run Tryz.prog w = .ok (.value (.int .u8 22)) (w) := by
  rw [@run_callFunc_extern Tryz.prog 163 _ ((ReflectliteType.abiMethod fun t => do pure (.int .u8 (← Rtype.kind t)))) Tryz.func163 (by kernel_rfl) (by kernel_rfl) (by kernel_rfl) (by kernel_rfl)]
  skip
  rw [kKindT]; rfl
theorem kKindD  (w : World) : ((ReflectliteType.abiMethod fun t => do pure (.int .u8 (← Rtype.kind t))) #[.pointer (some ⟨23, 59, none⟩)]).run Tryz.prog w = .ok (.int .u8 22) (w) := by kernel_rfl
theorem cKindD  (w : World) : (callFunc 163 #[.pointer (some ⟨23, 59, none⟩)]).run Tryz.prog w = .ok (.value (.int .u8 22)) (w) := by
  rw [@run_callFunc_extern Tryz.prog 163 _ ((ReflectliteType.abiMethod fun t => do pure (.int .u8 (← Rtype.kind t)))) Tryz.func163 (by kernel_rfl) (by kernel_rfl) (by kernel_rfl) (by kernel_rfl)]
  skip
  rw [kKindD]; rfl
theorem mKind (h : Value) (w : World) : (Go.method 391 143 (.agg #[h]) "Kind").run Tryz.prog w = .ok (163, h) w := by kernel_rfl
theorem mElem (h : Value) (w : World) : (Go.method 391 143 (.agg #[h]) "Elem").run Tryz.prog w = .ok (177, .agg #[h]) w := by kernel_rfl
theorem mImplements (h : Value) (w : World) : (Go.method 391 143 (.agg #[h]) "Implements").run Tryz.prog w = .ok (178, .agg #[h]) w := by kernel_rfl
theorem mAssignableTo (h : Value) (w : World) : (Go.method 391 143 (.agg #[h]) "AssignableTo").run Tryz.prog w = .ok (175, .agg #[h]) w := by kernel_rfl
theorem kElemT  (w : World) : (ReflectliteType.method ReflectliteType.elem #[.agg #[.pointer (some ⟨23, 67, none⟩)]]).run Tryz.prog w = .ok (.iface 143 (.agg #[.pointer (some ⟨23, 59, none⟩)])) (w) := by kernel_rfl
theorem cElemT  (w : World) : (callFunc 177 #[.agg #[.pointer (some ⟨23, 67, none⟩)]]).run Tryz.prog w = .ok (.value (.iface 143 (.agg #[.pointer (some ⟨23, 59, none⟩)]))) (w) := by
  rw [@run_callFunc_extern Tryz.prog 177 _ (ReflectliteType.method ReflectliteType.elem) Tryz.func177 (by kernel_rfl) (by kernel_rfl) (by kernel_rfl) (by kernel_rfl)]
  skip
  rw [kElemT]; rfl
theorem kImplD  (w : World) : (ReflectliteType.relation "Implements" ReflectliteType.implements_ #[.agg #[.pointer (some ⟨23, 59, none⟩)], .iface 143 (.agg #[.pointer (some ⟨23, 45, none⟩)])]).run Tryz.prog w = .ok (.bool true) (w) := by kernel_rfl
theorem cImplD  (w : World) : (callFunc 178 #[.agg #[.pointer (some ⟨23, 59, none⟩)], .iface 143 (.agg #[.pointer (some ⟨23, 45, none⟩)])]).run Tryz.prog w = .ok (.value (.bool true)) (w) := by
  rw [@run_callFunc_extern Tryz.prog 178 _ (ReflectliteType.relation "Implements" ReflectliteType.implements_) Tryz.func178 (by kernel_rfl) (by kernel_rfl) (by kernel_rfl) (by kernel_rfl)]
  skip
  rw [kImplD]; rfl
theorem kTypeOfD (v : Value) (w : World) : (ReflectliteType.typeOf #[.iface 59 v]).run Tryz.prog w = .ok (.iface 143 (.agg #[.pointer (some ⟨23, 59, none⟩)])) (w) := by kernel_rfl
theorem cTypeOfD (v : Value) (w : World) : (callFunc 36 #[.iface 59 v]).run Tryz.prog w = .ok (.value (.iface 143 (.agg #[.pointer (some ⟨23, 59, none⟩)]))) (w) := by
  rw [@run_callFunc_extern Tryz.prog 36 _ (ReflectliteType.typeOf) Tryz.func36 (by kernel_rfl) (by kernel_rfl) (by kernel_rfl) (by kernel_rfl)]
  skip
  rw [kTypeOfD]; rfl
theorem kAssignD  (w : World) : (ReflectliteType.relation "AssignableTo" ReflectliteType.assignableTo #[.agg #[.pointer (some ⟨23, 59, none⟩)], .iface 143 (.agg #[.pointer (some ⟨23, 59, none⟩)])]).run Tryz.prog w = .ok (.bool true) (w) := by kernel_rfl
theorem cAssignD  (w : World) : (callFunc 175 #[.agg #[.pointer (some ⟨23, 59, none⟩)], .iface 143 (.agg #[.pointer (some ⟨23, 59, none⟩)])]).run Tryz.prog w = .ok (.value (.bool true)) (w) := by
  rw [@run_callFunc_extern Tryz.prog 175 _ (ReflectliteType.relation "AssignableTo" ReflectliteType.assignableTo) Tryz.func175 (by kernel_rfl) (by kernel_rfl) (by kernel_rfl) (by kernel_rfl)]
  skip
  rw [kAssignD]; rfl
theorem kAssignE  (w : World) : (ReflectliteType.relation "AssignableTo" ReflectliteType.assignableTo #[.agg #[.pointer (some ⟨23, 250, none⟩)], .iface 143 (.agg #[.pointer (some ⟨23, 59, none⟩)])]).run Tryz.prog w = .ok (.bool false) (w) := by kernel_rfl
theorem cAssignE  (w : World) : (callFunc 175 #[.agg #[.pointer (some ⟨23, 250, none⟩)], .iface 143 (.agg #[.pointer (some ⟨23, 59, none⟩)])]).run Tryz.prog w = .ok (.value (.bool false)) (w) := by
  rw [@run_callFunc_extern Tryz.prog 175 _ (ReflectliteType.relation "AssignableTo" ReflectliteType.assignableTo) Tryz.func175 (by kernel_rfl) (by kernel_rfl) (by kernel_rfl) (by kernel_rfl)]
  skip
  rw [kAssignE]; rfl

theorem meth1 (z : Sem Value) (f : TypeId → Addr → Nat → Nat → Sem Value) (v : Value) :
    ReflectliteValue.method z f #[v] = (do match ← ReflectliteValue.parts v with | none => z | some (t, a, fl) => f t a fl (fl % 32)) := rfl
theorem partsT (a : Addr) (w : World) : (ReflectliteValue.parts (.agg #[.pointer (some ⟨23, 67, none⟩), .pointer (some a), .int .u64 150])).run Tryz.prog w = .ok (some (67, a, 150)) w := by kernel_rfl
theorem cIsNil (a p : Addr) (W : World) (ha : W.cell? a = some (.pointer (some p))) : (callFunc 34 #[.agg #[.pointer (some ⟨23, 67, none⟩), .pointer (some a), .int .u64 150]]).run Tryz.prog W = .ok (.value (.bool false)) W := by
  rw [@run_callFunc_extern Tryz.prog 34 _ (ReflectliteValue.method (ReflectliteValue.valueError "reflectlite.Value.IsNil" 0) ReflectliteValue.isNil) Tryz.func34 (by kernel_rfl) (by kernel_rfl) (by kernel_rfl) (by kernel_rfl), meth1]
  simp only [Sem.run_bind, partsT, Result.andThen]
  simp [ReflectliteValue.isNil, loadVar, isAgg, underlying, Tryz.underlying67, ha, Result.andThen]
theorem elemOfT (w : World) : (Rtype.elem? 67).run Tryz.prog w = .ok (some 59) w := by kernel_rfl
theorem mkD (p : Addr) (w : World) : (ReflectliteValue.mk 59 p ReflectliteValue.flagAddr).run Tryz.prog w = .ok (.agg #[.pointer (some ⟨23, 59, none⟩), .pointer (some p), .int .u64 406]) w := by kernel_rfl
theorem cElemV (a p : Addr) (W : World) (ha : W.cell? a = some (.pointer (some p))) : (callFunc 56 #[.agg #[.pointer (some ⟨23, 67, none⟩), .pointer (some a), .int .u64 150]]).run Tryz.prog W = .ok (.value (.agg #[.pointer (some ⟨23, 59, none⟩), .pointer (some p), .int .u64 406])) W := by
  rw [@run_callFunc_extern Tryz.prog 56 _ (ReflectliteValue.method (ReflectliteValue.valueError "reflectlite.Value.Elem" 0) ReflectliteValue.elem) Tryz.func56 (by kernel_rfl) (by kernel_rfl) (by kernel_rfl) (by kernel_rfl), meth1]
  simp only [Sem.run_bind, partsT, Result.andThen]
  simp [ReflectliteValue.elem, loadVar, isAgg, underlying, Tryz.underlying67, ha, Result.andThen, elemOfT, mkD]

end Go.Proofs.YtibbjohkiigffaaGreatDoor
namespace Go.Proofs.YtibbjohkiigffaaGreatDoor
open Go.RowKit Go.Extern.Stop Go.Stop Go.Extern

abbrev hDD : Value := .pointer (some ⟨23, 67, none⟩)
abbrev hD : Value := .pointer (some ⟨23, 59, none⟩)
theorem partsDa (a : Addr) (w : World) : (ReflectliteValue.parts (.agg #[hD, .pointer (some a), .int .u64 406])).run Tryz.prog w = .ok (some (59, a, 406)) w := by kernel_rfl
theorem partsD (a : Addr) (w : World) : (ReflectliteValue.parts (.agg #[hD, .pointer (some a), .int .u64 150])).run Tryz.prog w = .ok (some (59, a, 150)) w := by kernel_rfl
theorem directD (w : World) : (Rtype.directlyAssignable 59 59).run Tryz.prog w = .ok true w := by kernel_rfl
theorem cSet (ta b e : Addr) (old : Value) (W : World) (hb : W.cell? b = some (.pointer (some e))) (ht : W.cell? ta = some old) (hf : W.frozen? ta = false) :
    (callFunc 57 #[.agg #[hD, .pointer (some ta), .int .u64 406], .agg #[hD, .pointer (some b), .int .u64 150]]).run Tryz.prog W = .ok (.value (.tuple #[])) (W.setCell ta (.pointer (some e))) := by
  rw [@run_callFunc_extern Tryz.prog 57 _ ReflectliteValue.set Tryz.func57 (by kernel_rfl) (by kernel_rfl) (by kernel_rfl) (by kernel_rfl)]
  show ((ReflectliteValue.parts _ >>= _).run Tryz.prog W).andThen _ = _
  have e0 : ∀ (u v : Value) (h1 : (#[u, v] : Array Value).size = 2) (h2 : 0 < 2), Array.getLit #[u, v] 0 h1 h2 = u := fun _ _ _ _ => rfl
  have e1 : ∀ (u v : Value) (h1 : (#[u, v] : Array Value).size = 2) (h2 : 1 < 2), Array.getLit #[u, v] 1 h1 h2 = v := fun _ _ _ _ => rfl
  simp only [Sem.run_bind, e0, e1, partsDa, partsD, Result.andThen]
  simp [ReflectliteValue.flagAddr, loadVar, isAgg, underlying, Tryz.underlying59, hb, Result.andThen, directD, storeVar, Value.cells, storeCells, Addr.add]
  rw [run_store Tryz.prog W ta _ _ (by rfl)]
  simp [ht, hf]

end Go.Proofs.YtibbjohkiigffaaGreatDoor
namespace Go.Proofs.YtibbjohkiigffaaGreatDoor
open Go.RowKit Go.Extern.Stop Go.Stop Go.Extern

abbrev eTy : Value := .iface 143 (.agg #[.pointer (some ⟨23, 45, none⟩)])
def A1 (t : Addr) (w : World) : World := w.alloc (.cells #[.pointer (some t)] 67)
def A2 (t : Addr) (w : World) : World := (w.alloc (.cells #[.pointer (some t)] 67)).alloc (.cells #[hDD, .pointer (some ⟨w.heap.size, 0, none⟩), .int .u64 150] 100)
def A3 (t : Addr) (w : World) : World := ((w.alloc (.cells #[.pointer (some t)] 67)).alloc (.cells #[hDD, .pointer (some ⟨w.heap.size, 0, none⟩), .int .u64 150] 100)).alloc (.cells #[hDD, .pointer (some ⟨w.heap.size, 0, none⟩), .int .u64 150] 100)

set_option maxHeartbeats 4000000 in
theorem as_hit (e t : Addr) (old : Value) (w : World) (hg : w.cell? ⟨1, 0, none⟩ = some eTy) (ht0 : w.cell? t = some old) (hf0 : w.frozen? t = false) :
    Calls Tryz.prog 17 #[.iface 59 (.pointer (some e)), .iface 67 (.pointer (some t))] w fun ev w' => ev = .returned (.bool true) ∧ w' = ((A3 t w).alloc (.cells #[.pointer (some e)] 59)).setCell t (.pointer (some e)) := by
  have a1 := cValueT
  have a2 := cValueD
  have a3 := cTypeT
  have a4 := cKindT
  have a5 := cKindD
  have a6 := mKind
  have a7 := mElem
  have a8 := mImplements
  have a9 := mAssignableTo
  have b1 := cElemT
  have b2 := cImplD
  have b3 := cTypeOfD
  have b4 := cAssignD
  have hlt : 1 < w.heap.size := lt_of_cell hg
  have htl : t.block < w.heap.size := lt_of_cell ht0
  have n8 := cIsNil ⟨w.heap.size, 0, none⟩ t (A2 t w) (by unfold A2; simp)
  have hg2 : (A2 t w).cell? ⟨1, 0, none⟩ = some eTy := by
    unfold A2
    rw [World.cell?_alloc_lt _ _ ⟨1, 0, none⟩ (by simp; omega), World.cell?_alloc_lt _ _ ⟨1, 0, none⟩ hlt]; exact hg
  have el := cElemV ⟨w.heap.size, 0, none⟩ t (A3 t w) (by unfold A3; rw [World.cell?_alloc_lt _ _ ⟨w.heap.size, 0, none⟩ (by simp; omega)]; simp)
  have st := cSet t ⟨w.heap.size + 1 + 1 + 1, 0, none⟩ e old ((A3 t w).alloc (.cells #[.pointer (some e)] 59))
    (by unfold A3; rw [World.cell?_alloc_at _ _ _ _ (by simp)]; rfl)
    (by unfold A3; rw [World.cell?_alloc_lt _ _ t (by simp; omega), World.cell?_alloc_lt _ _ t (by simp; omega), World.cell?_alloc_lt _ _ t (by simp; omega), World.cell?_alloc_lt _ _ t htl]; exact ht0)
    (by unfold A3; rw [World.frozen?_alloc_old _ _ t (by simp; omega), World.frozen?_alloc_old _ _ t (by simp; omega), World.frozen?_alloc_old _ _ t (by simp; omega), World.frozen?_alloc_old _ _ t (Nat.ne_of_lt htl)]; exact hf0)
  unfold A3 at st el ⊢
  unfold A2 at n8 hg2
  clear hg ht0 hf0
  go_enter Tryz.func17, Tryz.ntmps17
  go_wp2
  refine wp_loop_rounds 1 ?_
  rw [rounds_succ]
  go_wp2
  go_ret
  exact ⟨rfl, rfl⟩

set_option maxHeartbeats 4000000 in
theorem as_miss (x t : Addr) (w : World) (hg : w.cell? ⟨1, 0, none⟩ = some eTy) :
    Calls Tryz.prog 17 #[errV x, .iface 67 (.pointer (some t))] w fun ev w' => ev = .returned (.bool false) ∧ w' = A3 t w := by
  have a1 := cValueT
  have a3 := cTypeT
  have a4 := cKindT
  have a5 := cKindD
  have a6 := mKind
  have a7 := mElem
  have a8 := mImplements
  have a9 := mAssignableTo
  have b1 := cElemT
  have b2 := cImplD
  have b3 := cTypeOfE
  have b4 := cAssignE
  have b5 := kNoAsE
  have b6 := kNoUnwrapE
  have b7 := kNoUnwrapsE
  have hlt : 1 < w.heap.size := lt_of_cell hg
  have n8 := cIsNil ⟨w.heap.size, 0, none⟩ t (A2 t w) (by unfold A2; simp)
  have hg2 : (A2 t w).cell? ⟨1, 0, none⟩ = some eTy := by
    unfold A2
    rw [World.cell?_alloc_lt _ _ ⟨1, 0, none⟩ (by simp; omega), World.cell?_alloc_lt _ _ ⟨1, 0, none⟩ hlt]; exact hg
  unfold A3
  unfold A2 at n8 hg2
  clear hg
  go_enter Tryz.func17, Tryz.ntmps17
  go_wp2
  refine wp_loop_rounds 1 ?_
  rw [rounds_succ]
  go_wp2
  go_ret
  exact ⟨rfl, rfl⟩

end Go.Proofs.YtibbjohkiigffaaGreatDoor
namespace Go.Proofs.YtibbjohkiigffaaGreatDoor
open Go.RowKit Go.Extern.Stop Go.Stop Go.Extern

/-- The errors' variables, the rows that they point to, and the handle of the type error. -/
structure Errs (al : Nat → Addr) (w : World) : Prop where
  size : 23 ≤ w.heap.size
  c0 : w.cell? ⟨0, 0, none⟩ = some (errV (al 0))
  c1 : w.cell? ⟨2, 0, none⟩ = some (errV (al 1))
  c2 : w.cell? ⟨3, 0, none⟩ = some (errV (al 2))
  c3 : w.cell? ⟨4, 0, none⟩ = some (errV (al 3))
  c4 : w.cell? ⟨5, 0, none⟩ = some (errV (al 4))
  c5 : w.cell? ⟨6, 0, none⟩ = some (errV (al 5))
  c6 : w.cell? ⟨7, 0, none⟩ = some (errV (al 6))
  c7 : w.cell? ⟨8, 0, none⟩ = some (errV (al 7))
  c8 : w.cell? ⟨9, 0, none⟩ = some (errV (al 8))
  c9 : w.cell? ⟨10, 0, none⟩ = some (errV (al 9))
  c10 : w.cell? ⟨11, 0, none⟩ = some (errV (al 10))
  c11 : w.cell? ⟨12, 0, none⟩ = some (errV (al 11))
  c12 : w.cell? ⟨13, 0, none⟩ = some (errV (al 12))
  row : ∀ i, i < 13 → ∃ c t, w.heap[(al i).block]? = some (.cells c t (0, 0))
  et : w.cell? ⟨1, 0, none⟩ = some eTy
theorem Errs.below {al : Nat → Addr} {w w' : World} (h : Errs al w) (hb : Below w.heap.size w w') : Errs al w' := by
  have hs := h.size
  have up : ∀ {g : Nat} {v : Value}, w.cell? ⟨g, 0, none⟩ = some v → w'.cell? ⟨g, 0, none⟩ = some v := fun hc => (hb.cell (lt_of_cell hc)).trans hc
  refine ⟨Nat.le_trans hs hb.size, up h.c0, up h.c1, up h.c2, up h.c3, up h.c4, up h.c5, up h.c6, up h.c7, up h.c8, up h.c9, up h.c10, up h.c11, up h.c12, fun i hi => ?_, up h.et⟩
  obtain ⟨c, t, hr⟩ := h.row i hi
  exact ⟨c, t, (hb.block _ (Array.getElem?_eq_some_iff.1 hr).1).trans hr⟩

def allRow (al : Nat → Addr) : Array Value := #[errV (al 0), errV (al 1), errV (al 2), errV (al 3), errV (al 4), errV (al 5), errV (al 6), errV (al 7), errV (al 8), errV (al 9), errV (al 10), errV (al 11), errV (al 12)]
theorem allRow_at (al : Nat → Addr) (j : Nat) (h : j < 13) : (allRow al)[j]? = some (errV (al j)) := by
  have : j = 0 ∨ j = 1 ∨ j = 2 ∨ j = 3 ∨ j = 4 ∨ j = 5 ∨ j = 6 ∨ j = 7 ∨ j = 8 ∨ j = 9 ∨ j = 10 ∨ j = 11 ∨ j = 12 := by omega
  rcases this with rfl | rfl | rfl | rfl | rfl | rfl | rfl | rfl | rfl | rfl | rfl | rfl | rfl <;> rfl

set_option maxHeartbeats 1000000 in
theorem errs_any (al : Nat → Addr) (w : World) (h : Errs al w) :
    Calls Tryz.prog 19 #[] w fun e w' => e = .returned (.slice (some ⟨w.heap.size, 0, none⟩) 13 13) ∧ w' = w.alloc (.cells (allRow al) 45) := by
  have q0 := h.c0
  have q1 := h.c1
  have q2 := h.c2
  have q3 := h.c3
  have q4 := h.c4
  have q5 := h.c5
  have q6 := h.c6
  have q7 := h.c7
  have q8 := h.c8
  have q9 := h.c9
  have q10 := h.c10
  have q11 := h.c11
  have q12 := h.c12
  clear h
  go_enter Tryz.func19, Tryz.ntmps19
  go_wp2
  go_ret
  exact ⟨rfl, rfl⟩

set_option maxHeartbeats 1000000 in
theorem unwrap_any (d : Nat) (at_ : Int) (x : Addr) (w : World) (hd : w.heap[d]? = some (.cells #[.int .i64 at_, errV x] 70 (0, 0))) :
    Calls Tryz.prog 18 #[.pointer (some ⟨d, 0, none⟩)] w fun e w' => e = .returned (errV x) ∧ w' = w := by
  have hc1 : w.cell? ⟨d, 1, none⟩ = some (errV x) := by rw [cell_of_row w d 1 _ _ _ hd]; rfl
  clear hd
  go_enter Tryz.func18, Tryz.ntmps18
  go_wp2
  go_ret
  exact ⟨rfl, rfl⟩

theorem kCompD : (Tryz.prog.info? 59).map (·.comparable) = some true := by kernel_rfl
theorem kSizeD : (Tryz.prog.info? 70).map (·.size) = some 2 := by kernel_rfl
theorem neq_err (x : Addr) (w : World) : (binOp BinOp.neq 45 (errV x) (errV x)).run Tryz.prog w = .ok (.bool false) w := by
  obtain ⟨i, hi, hcmp⟩ := Option.map_eq_some_iff.1 kCompE
  obtain ⟨j, hj, hjs⟩ := Option.map_eq_some_iff.1 kSizeE
  simp only [binOp]
  simp [Op.equal, Op.maxDepth, run_equalIn_iface_ptr_same w 9998 x Tryz.underlying45 Tryz.underlying250 hi hcmp hj]
theorem neq_diag (x : Addr) (w : World) : (binOp BinOp.neq 45 (.iface 59 (.pointer (some x))) (.iface 59 (.pointer (some x)))).run Tryz.prog w = .ok (.bool false) w := by
  obtain ⟨i, hi, hcmp⟩ := Option.map_eq_some_iff.1 kCompD
  obtain ⟨j, hj, hjs⟩ := Option.map_eq_some_iff.1 kSizeD
  simp only [binOp]
  simp [Op.equal, Op.maxDepth, run_equalIn_iface_ptr_same w 9998 x Tryz.underlying45 Tryz.underlying59 hi hcmp hj]

set_option maxHeartbeats 1000000 in
theorem fault_nil (w : World) : Calls Tryz.prog 9 #[.nilIface] w fun e w' => e = .returned (.agg #[.int .i64 0, .int .i64 0]) ∧ Below w.heap.size w w' := by
  go_enter Tryz.func9, Tryz.ntmps9
  go_wp2
  exact bodyPost_ret (v := .agg #[.int .i64 0, .int .i64 0]) (by simp [results, Tryz.results9, go_sem]) rfl ⟨rfl, (Below.refl _ _).alloc (Nat.le_refl _) _⟩

/-- fault's own variables: the result, f, d. -/
structure Fb (w W : World) (E T : Int) (p : Option Addr) : Prop where
  b0 : W.heap[w.heap.size]? = some (.cells #[.int .i64 0, .int .i64 0] 27 (0, 0))
  b1 : W.heap[w.heap.size + 1]? = some (.cells #[.int .i64 E, .int .i64 T] 27 (0, 0))
  b2 : W.heap[w.heap.size + 1 + 1]? = some (.cells #[.pointer p] 59 (0, 0))
  bl : Below w.heap.size w W
theorem Fb.keep {w W W' : World} {E T : Int} {p : Option Addr} (h : Fb w W E T p) (k : Below W.heap.size W W') : Fb w W' E T p :=
  ⟨(k.block _ (Array.getElem?_eq_some_iff.1 h.b0).1).trans h.b0, (k.block _ (Array.getElem?_eq_some_iff.1 h.b1).1).trans h.b1, (k.block _ (Array.getElem?_eq_some_iff.1 h.b2).1).trans h.b2, h.bl.trans (k.mono h.bl.size)⟩
theorem Fb.setE {w W : World} {E T : Int} {p : Option Addr} (h : Fb w W E T p) (E' : Int) : Fb w (W.setCell ⟨w.heap.size + 1, 0, none⟩ (.int .i64 E')) E' T p := by
  refine ⟨(Below.heap_setCell _ _ _ _ (by simp)).trans h.b0, ?_, (Below.heap_setCell _ _ _ _ (by simp)).trans h.b2, h.bl.setCell (p := ⟨w.heap.size + 1, 0, none⟩) (Nat.le_succ _) _⟩
  show (W.heap.modify (w.heap.size + 1) _)[w.heap.size + 1]? = _
  rw [Array.getElem?_modify, if_pos rfl, h.b1]; rfl
theorem Fb.setT {w W : World} {E T : Int} {p : Option Addr} (h : Fb w W E T p) (T' : Int) : Fb w (W.setCell ⟨w.heap.size + 1, 1, none⟩ (.int .i64 T')) E T' p := by
  refine ⟨(Below.heap_setCell _ _ _ _ (by simp)).trans h.b0, ?_, (Below.heap_setCell _ _ _ _ (by simp)).trans h.b2, h.bl.setCell (p := ⟨w.heap.size + 1, 1, none⟩) (Nat.le_succ _) _⟩
  show (W.heap.modify (w.heap.size + 1) _)[w.heap.size + 1]? = _
  rw [Array.getElem?_modify, if_pos rfl, h.b1]; rfl
theorem Fb.setD {w W : World} {E T : Int} {p : Option Addr} (h : Fb w W E T p) (p' : Option Addr) : Fb w (W.setCell ⟨w.heap.size + 1 + 1, 0, none⟩ (.pointer p')) E T p' := by
  refine ⟨(Below.heap_setCell _ _ _ _ (by simp; omega)).trans h.b0, (Below.heap_setCell _ _ _ _ (by simp)).trans h.b1, ?_, h.bl.setCell (p := ⟨w.heap.size + 1 + 1, 0, none⟩) (Nat.le_add_right _ 2) _⟩
  show (W.heap.modify (w.heap.size + 1 + 1) _)[w.heap.size + 1 + 1]? = _
  rw [Array.getElem?_modify, if_pos rfl, h.b2]; rfl
theorem below_A3 (t : Addr) (w : World) : Below w.heap.size w (A3 t w) := (((Below.refl _ _).alloc (Nat.le_refl _) _).alloc (by simp) _).alloc (by simp; omega) _
theorem Fb.cells {w W : World} {E T : Int} {p : Option Addr} (h : Fb w W E T p) :
    W.cell? ⟨w.heap.size, 0, none⟩ = some (.int .i64 0) ∧ W.cell? ⟨w.heap.size, 1, none⟩ = some (.int .i64 0) ∧ W.cell? ⟨w.heap.size + 1, 0, none⟩ = some (.int .i64 E) ∧ W.cell? ⟨w.heap.size + 1, 1, none⟩ = some (.int .i64 T) ∧ W.cell? ⟨w.heap.size + 1 + 1, 0, none⟩ = some (.pointer p) ∧
    (∀ o, W.frozen? ⟨w.heap.size, o, none⟩ = false) ∧ (∀ o, W.frozen? ⟨w.heap.size + 1, o, none⟩ = false) := by
  refine ⟨?_, ?_, ?_, ?_, ?_, fun o => ?_, fun o => ?_⟩
  · rw [cell_of_row W _ 0 _ _ _ h.b0]; rfl
  · rw [cell_of_row W _ 1 _ _ _ h.b0]; rfl
  · rw [cell_of_row W _ 0 _ _ _ h.b1]; rfl
  · rw [cell_of_row W _ 1 _ _ _ h.b1]; rfl
  · rw [cell_of_row W _ 0 _ _ _ h.b2]; rfl
  · unfold World.frozen?; rw [h.b0]; simp
  · unfold World.frozen?; rw [h.b1]; simp
/-- Which error it is: the last one of the row. -/
def lastOf (al : Nat → Addr) (x : Addr) : Nat → Int
  | 0 => 14
  | j + 1 => if x = al j then (j : Int) + 1 else lastOf al x j
/-- Where fault stands once d is made. -/
theorem fb_start (w : World) : Fb w (((w.alloc (.cells #[.int .i64 0, .int .i64 0] 27)).alloc (.cells #[.int .i64 14, .int .i64 (-1)] 27)).alloc (.cells #[.pointer none] 59)) 14 (-1) none := by
  refine ⟨?_, ?_, ?_, (((Below.refl _ _).alloc (Nat.le_refl _) _).alloc (by simp) _).alloc (by simp; omega) _⟩
  · rw [Below.heap_alloc _ _ _ (by simp; omega), Below.heap_alloc _ _ _ (by simp)]; exact heap_alloc_new w _
  · rw [Below.heap_alloc _ _ _ (by simp)]
    have := heap_alloc_new (w.alloc (.cells #[.int .i64 0, .int .i64 0] 27)) (.cells #[.int .i64 14, .int .i64 (-1)] 27)
    simpa using this
  · have := heap_alloc_new ((w.alloc (.cells #[.int .i64 0, .int .i64 0] 27)).alloc (.cells #[.int .i64 14, .int .i64 (-1)] 27)) (.cells #[.pointer none] 59)
    simpa using this

set_option maxRecDepth 100000 in
set_option maxHeartbeats 4000000 in
theorem fault_diag (al : Nat → Addr) (d : Nat) (at_ : Int) (x : Addr) (w : World) (HEr : Errs al w) (hd : w.heap[d]? = some (.cells #[.int .i64 at_, errV x] 70 (0, 0))) (hx : ∃ c t, w.heap[x.block]? = some (.cells c t (0, 0))) :
    Calls Tryz.prog 9 #[.iface 59 (.pointer (some ⟨d, 0, none⟩))] w fun e w' => e = .returned (.agg #[.int .i64 (lastOf al x 13), .int .i64 at_]) ∧ Below w.heap.size w w' := by
  have HE : Hid (Errs al w) := HEr
  have HD : Hid (w.heap[d]? = some (.cells #[.int .i64 at_, errV x] 70 (0, 0))) := hd
  have HX : Hid (∃ c t, w.heap[x.block]? = some (.cells c t (0, 0))) := hx
  have HFS := fb_start w
  clear HEr hd hx
  go_enter Tryz.func9, Tryz.ntmps9
  go_wp2_with fail
  generalize (((w.alloc (.cells #[.int .i64 0, .int .i64 0] 27)).alloc (.cells #[.int .i64 14, .int .i64 (-1)] 27)).alloc (.cells #[.pointer none] 59)) = W3 at HFS ⊢
  have q2 := HFS.cells.2.2.2.2.1
  have fz2 : W3.frozen? ⟨w.heap.size + 1 + 1, 0, none⟩ = false := by unfold World.frozen?; rw [HFS.b2]; simp
  refine (as_hit ⟨d, 0, none⟩ ⟨w.heap.size + 1 + 1, 0, none⟩ (.pointer none) W3 (HE.out.below HFS.bl).et q2 fz2).mono ?_
  rintro e w4 ⟨rfl, hw4⟩
  have F4 : Fb w w4 14 (-1) (some ⟨d, 0, none⟩) := by
    rw [hw4]
    exact (HFS.keep (((below_A3 _ W3).alloc (below_A3 _ W3).size _))).setD _
  clear hw4 HFS q2 fz2
  have cd0 : w4.cell? ⟨d, 0, none⟩ = some (.int .i64 at_) := by rw [cell_of_row w4 d 0 _ _ _ ((F4.bl.block d (Array.getElem?_eq_some_iff.1 HD.out).1).trans HD.out)]; rfl
  have cd1 : w4.cell? ⟨d, 1, none⟩ = some (errV x) := by rw [cell_of_row w4 d 1 _ _ _ ((F4.bl.block d (Array.getElem?_eq_some_iff.1 HD.out).1).trans HD.out)]; rfl
  have H4 : Hid (w4.heap[d]? = some (.cells #[.int .i64 at_, errV x] 70 (0, 0))) := (F4.bl.block d (Array.getElem?_eq_some_iff.1 HD.out).1).trans HD.out
  have n1 := neq_err
  have n2 := neq_diag
  obtain ⟨p0, p1, p2, p3, p4, z0, z1⟩ := F4.cells
  have HF4 : Hid (Fb w w4 14 (-1) (some ⟨d, 0, none⟩)) := F4
  clear F4
  go_wp2_with fail
  go_quiet ((go_at_call 18; exact Calls.quiet_of_same (unwrap_any d at_ x _ H4.out)))
  go_wp2_with fail
  have HF5 : Hid (Fb w ((w4.drewN nq).setCell ⟨w.heap.size + 1, 1, none⟩ (.int .i64 at_)) 14 at_ (some ⟨d, 0, none⟩)) := (HF4.out.keep (below_drewN (Below.refl _ _) nq)).setT at_
  generalize (w4.drewN nq).setCell ⟨w.heap.size + 1, 1, none⟩ (.int .i64 at_) = W5 at HF5 ⊢
  have HRow : Hid (∀ i, i < 13 → ∃ c t, w.heap[(al i).block]? = some (.cells c t (0, 0))) := HE.out.row
  clear p0 p1 p2 p3 p4 z0 z1 cd0 cd1 H4 HF4 n1 n2
  have L5 : Hid (Errs al W5) := HE.out.below HF5.out.bl
  clear HE
  refine (errs_any al W5 L5.out).mono ?_
  rintro e w6 ⟨rfl, hw6⟩
  have F6 : Hid (Fb w w6 14 at_ (some ⟨d, 0, none⟩)) := by rw [hw6]; exact HF5.out.keep ((Below.refl _ _).alloc (Nat.le_refl _) _)
  have R6 : Hid (w6.heap[W5.heap.size]? = some (.cells (allRow al) 45 (0, 0))) := by rw [hw6]; exact heap_alloc_new W5 _
  clear hw6
  go_wp2_with fail
  go_loopg [35] 13 (fun g s35 wr => ∃ j : Nat, j ≤ 13 ∧ s35 = .int .i64 j ∧ g = 13 - j ∧ Hid (Fb w wr (lastOf al x j) at_ (some ⟨d, 0, none⟩)) ∧ Hid (wr.heap[W5.heap.size]? = some (.cells (allRow al) 45 (0, 0))))
  case atStart => exact ⟨0, by decide, rfl, rfl, F6, R6⟩
  case round =>
    obtain ⟨j, hj, rfl, hg, HF, HR⟩ := hrel
    have HG : Hid (gk = 13 - j) := hg
    clear hg F6 R6
    obtain ⟨p0, p1, p2, p3, p4, z0, z1⟩ := HF.out.cells
    by_cases hlt : j < 13
    · have hcj : wr.cell? ⟨W5.heap.size, j, none⟩ = some (errV (al j)) := by rw [cell_of_row wr _ j _ _ _ HR.out]; exact allRow_at al j hlt
      have HDr : Hid (wr.heap[d]? = some (.cells #[.int .i64 at_, errV x] 70 (0, 0))) := (HF.out.bl.block d (Array.getElem?_eq_some_iff.1 HD.out).1).trans HD.out
      have HXr : Hid (∃ c t, wr.heap[x.block]? = some (.cells c t (0, 0))) := by
        obtain ⟨c, t, h⟩ := HX.out
        exact ⟨c, t, (HF.out.bl.block _ (Array.getElem?_eq_some_iff.1 h).1).trans h⟩
      have HRr : Hid (∃ c t, wr.heap[(al j).block]? = some (.cells c t (0, 0))) := by
        obtain ⟨c, t, h⟩ := HRow.out j hlt
        exact ⟨c, t, (HF.out.bl.block _ (Array.getElem?_eq_some_iff.1 h).1).trans h⟩
      go_wp2_with fail
      refine (is_diag d at_ x (al j) _ HDr.out HXr.out HRr.out).mono ?_
      rintro e w7 ⟨rfl, hw⟩
      rw [hw]
      clear hw w7
      by_cases hxj : x = al j
      · rw [decide_eq_true hxj]
        have HXJ : Hid (x = al j) := hxj
        clear hxj hcj
        go_wp2
        go_roundg (13 - (j + 1))
        case measure => have := HG.out; omega
        case rel =>
          refine ⟨j + 1, by omega, by go_num, rfl, ?_, (Below.heap_setCell _ _ _ _ (by have := HF.out.b1; have := HR.out; show W5.heap.size ≠ w.heap.size + 1; have := HF5.out.b1; have := (Array.getElem?_eq_some_iff.1 this).1; omega)).trans HR.out⟩
          have := HF.out.setE ((j : Int) + 1)
          show Fb w _ (if x = al j then (j : Int) + 1 else lastOf al x j) _ _
          rw [if_pos HXJ.out]
          exact this
      · rw [decide_eq_false hxj]
        have HXJ : Hid (x ≠ al j) := hxj
        clear hxj
        go_wp2
        go_roundg (13 - (j + 1))
        case measure => have := HG.out; omega
        case rel =>
          refine ⟨j + 1, by omega, by go_num, rfl, ?_, HR⟩
          show Fb w _ (if x = al j then (j : Int) + 1 else lastOf al x j) _ _
          rw [if_neg HXJ.out]
          exact HF.out
    · have hj13 : j = 13 := by omega
      subst hj13
      go_wp2
      have r0 : ((wr.setCell ⟨w.heap.size, 0, none⟩ (.int .i64 (lastOf al x 13))).setCell ⟨w.heap.size, 1, none⟩ (.int .i64 at_)).cell? ⟨w.heap.size, 0, none⟩ = some (.int .i64 (lastOf al x 13)) :=
        (World.cell?_setCell_other _ _ ⟨w.heap.size, 0, none⟩ _ (by simp)).trans (World.cell?_setCell_same _ _ _ p0)
      have r1 : ((wr.setCell ⟨w.heap.size, 0, none⟩ (.int .i64 (lastOf al x 13))).setCell ⟨w.heap.size, 1, none⟩ (.int .i64 at_)).cell? ⟨w.heap.size, 1, none⟩ = some (.int .i64 at_) :=
        World.cell?_setCell_same (wr.setCell ⟨w.heap.size, 0, none⟩ (.int .i64 (lastOf al x 13))) _ _ ((World.cell?_setCell_other _ _ ⟨w.heap.size, 1, none⟩ _ (by simp)).trans p1)
      exact bodyPost_ret (v := .agg #[.int .i64 (lastOf al x 13), .int .i64 at_]) (by simp [results, Tryz.results9, go_sem, r0, r1]) rfl ⟨rfl, (HF.out.bl.setCell (Nat.le_refl _) _).setCell (p := ⟨w.heap.size, 1, none⟩) (Nat.le_refl _) _⟩

set_option maxRecDepth 100000 in
set_option maxHeartbeats 4000000 in
theorem fault_err (al : Nat → Addr) (x : Addr) (w : World) (HEr : Errs al w) (hx : ∃ c t, w.heap[x.block]? = some (.cells c t (0, 0))) :
    Calls Tryz.prog 9 #[errV x] w fun e w' => e = .returned (.agg #[.int .i64 (lastOf al x 13), .int .i64 (-1)]) ∧ Below w.heap.size w w' := by
  have HE : Hid (Errs al w) := HEr
  have HX : Hid (∃ c t, w.heap[x.block]? = some (.cells c t (0, 0))) := hx
  have HFS := fb_start w
  clear HEr hx
  go_enter Tryz.func9, Tryz.ntmps9
  go_wp2_with fail
  generalize (((w.alloc (.cells #[.int .i64 0, .int .i64 0] 27)).alloc (.cells #[.int .i64 14, .int .i64 (-1)] 27)).alloc (.cells #[.pointer none] 59)) = W3 at HFS ⊢
  refine (as_miss x ⟨w.heap.size + 1 + 1, 0, none⟩ W3 (HE.out.below HFS.bl).et).mono ?_
  rintro e W5 ⟨rfl, hw5⟩
  have HF5 : Hid (Fb w W5 14 (-1) none) := by rw [hw5]; exact HFS.keep (below_A3 _ W3)
  have HRow : Hid (∀ i, i < 13 → ∃ c t, w.heap[(al i).block]? = some (.cells c t (0, 0))) := HE.out.row
  clear hw5 HFS
  go_wp2_with fail
  have L5 : Hid (Errs al W5) := HE.out.below HF5.out.bl
  clear HE
  refine (errs_any al W5 L5.out).mono ?_
  rintro e w6 ⟨rfl, hw6⟩
  have F6 : Hid (Fb w w6 14 (-1) none) := by rw [hw6]; exact HF5.out.keep ((Below.refl _ _).alloc (Nat.le_refl _) _)
  have R6 : Hid (w6.heap[W5.heap.size]? = some (.cells (allRow al) 45 (0, 0))) := by rw [hw6]; exact heap_alloc_new W5 _
  clear hw6
  go_wp2_with fail
  go_loopg [35] 13 (fun g s35 wr => ∃ j : Nat, j ≤ 13 ∧ s35 = .int .i64 j ∧ g = 13 - j ∧ Hid (Fb w wr (lastOf al x j) (-1) none) ∧ Hid (wr.heap[W5.heap.size]? = some (.cells (allRow al) 45 (0, 0))))
  case atStart => exact ⟨0, by decide, rfl, rfl, F6, R6⟩
  case round =>
    obtain ⟨j, hj, rfl, hg, HF, HR⟩ := hrel
    have HG : Hid (gk = 13 - j) := hg
    clear hg F6 R6
    obtain ⟨p0, p1, p2, p3, p4, z0, z1⟩ := HF.out.cells
    by_cases hlt : j < 13
    · have hcj : wr.cell? ⟨W5.heap.size, j, none⟩ = some (errV (al j)) := by rw [cell_of_row wr _ j _ _ _ HR.out]; exact allRow_at al j hlt
      have HXr : Hid (∃ c t, wr.heap[x.block]? = some (.cells c t (0, 0))) := by
        obtain ⟨c, t, h⟩ := HX.out
        exact ⟨c, t, (HF.out.bl.block _ (Array.getElem?_eq_some_iff.1 h).1).trans h⟩
      have HRr : Hid (∃ c t, wr.heap[(al j).block]? = some (.cells c t (0, 0))) := by
        obtain ⟨c, t, h⟩ := HRow.out j hlt
        exact ⟨c, t, (HF.out.bl.block _ (Array.getElem?_eq_some_iff.1 h).1).trans h⟩
      go_wp2_with fail
      refine (is_err x (al j) _ HXr.out HRr.out).mono ?_
      rintro e w7 ⟨rfl, hw⟩
      rw [hw]
      clear hw w7
      by_cases hxj : x = al j
      · rw [decide_eq_true hxj]
        have HXJ : Hid (x = al j) := hxj
        rw [← hxj]
        have hn := neq_err x
        clear hxj hcj
        go_wp2
        go_roundg (13 - (j + 1))
        case measure => have := HG.out; omega
        case rel =>
          refine ⟨j + 1, by omega, by go_num, rfl, ?_, (Below.heap_setCell _ _ _ _ (by have := HF.out.b1; have := HR.out; show W5.heap.size ≠ w.heap.size + 1; have := HF5.out.b1; have := (Array.getElem?_eq_some_iff.1 this).1; omega)).trans HR.out⟩
          have := HF.out.setE ((j : Int) + 1)
          show Fb w _ (if x = al j then (j : Int) + 1 else lastOf al x j) _ _
          rw [if_pos HXJ.out]
          exact this
      · rw [decide_eq_false hxj]
        have HXJ : Hid (x ≠ al j) := hxj
        clear hxj
        go_wp2
        go_roundg (13 - (j + 1))
        case measure => have := HG.out; omega
        case rel =>
          refine ⟨j + 1, by omega, by go_num, rfl, ?_, HR⟩
          show Fb w _ (if x = al j then (j : Int) + 1 else lastOf al x j) _ _
          rw [if_neg HXJ.out]
          exact HF.out
    · have hj13 : j = 13 := by omega
      subst hj13
      go_wp2
      have r0 : ((wr.setCell ⟨w.heap.size, 0, none⟩ (.int .i64 (lastOf al x 13))).setCell ⟨w.heap.size, 1, none⟩ (.int .i64 (-1))).cell? ⟨w.heap.size, 0, none⟩ = some (.int .i64 (lastOf al x 13)) :=
        (World.cell?_setCell_other _ _ ⟨w.heap.size, 0, none⟩ _ (by simp)).trans (World.cell?_setCell_same _ _ _ p0)
      have r1 : ((wr.setCell ⟨w.heap.size, 0, none⟩ (.int .i64 (lastOf al x 13))).setCell ⟨w.heap.size, 1, none⟩ (.int .i64 (-1))).cell? ⟨w.heap.size, 1, none⟩ = some (.int .i64 (-1)) :=
        World.cell?_setCell_same (wr.setCell ⟨w.heap.size, 0, none⟩ (.int .i64 (lastOf al x 13))) _ _ ((World.cell?_setCell_other _ _ ⟨w.heap.size, 1, none⟩ _ (by simp)).trans p1)
      exact bodyPost_ret (v := .agg #[.int .i64 (lastOf al x 13), .int .i64 (-1)]) (by simp [results, Tryz.results9, go_sem, r0, r1]) rfl ⟨rfl, (HF.out.bl.setCell (Nat.le_refl _) _).setCell (p := ⟨w.heap.size, 1, none⟩) (Nat.le_refl _) _⟩

end Go.Proofs.YtibbjohkiigffaaGreatDoor
