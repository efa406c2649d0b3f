/-
  errors.Is and errors.As at what Parse answers: a *Diag, an error of errors.New's make.
-/
import Derived.Test.YtkngcglmfbdblaaGreatDoorTigh
import Derived.LaidEql
import Derived.Stop.Asserts
import Derived.RowKitTokens
namespace Go.Proofs.YtkngcglmfbdblaaGreatDoor
open Go.RowKit Go.Extern.Stop Go.Stop Go.Extern

theorem kTypeOfE (v : Value) (w : World) : (Extern.ReflectliteType.typeOf #[.iface 169 v]).run Tryz.prog w = .ok (.iface 88 (.agg #[.pointer (some ⟨24, 169, none⟩)])) w := by kernel_rfl
theorem kComparableE (w : World) : ((Extern.ReflectliteType.method fun t => do Extern.Rtype.noPackHeld "Comparable" t; pure (.bool (← typeInfo t).comparable)) #[.agg #[.pointer (some ⟨24, 169, none⟩)]]).run Tryz.prog w = .ok (.bool true) w := by kernel_rfl
theorem kMethodComparable (v : Value) (w : World) : (Go.method 326 88 v "Comparable").run Tryz.prog w = .ok (114, v) w := by kernel_rfl
theorem kCompE : (Tryz.prog.info? 169).map (·.comparable) = some true := by kernel_rfl
theorem kSizeE : (Tryz.prog.info? 171).map (·.size) = some 1 := by kernel_rfl
theorem kNoIsE (v : Value) (xT : TypeId) (w : World) : (Instr.typeAssert (.iface 169 v) xT 97 true).run Tryz.prog w = .ok (.tuple #[.nilIface, .bool false]) w := run_typeAssert_lacksB Tryz.underlying97 (by kernel_rfl) (by kernel_rfl) v xT w
theorem kNoUnwrapE (v : Value) (xT : TypeId) (w : World) : (Instr.typeAssert (.iface 169 v) xT 95 true).run Tryz.prog w = .ok (.tuple #[.nilIface, .bool false]) w := run_typeAssert_lacksB Tryz.underlying95 (by kernel_rfl) (by kernel_rfl) v xT w
theorem kNoUnwrapsE (v : Value) (xT : TypeId) (w : World) : (Instr.typeAssert (.iface 169 v) xT 96 true).run Tryz.prog w = .ok (.tuple #[.nilIface, .bool false]) w := run_typeAssert_lacksB Tryz.underlying96 (by kernel_rfl) (by kernel_rfl) v xT w
theorem kNoAsE (v : Value) (xT : TypeId) (w : World) : (Instr.typeAssert (.iface 169 v) xT 92 true).run Tryz.prog w = .ok (.tuple #[.nilIface, .bool false]) w := run_typeAssert_lacksB Tryz.underlying92 (by kernel_rfl) (by kernel_rfl) v xT w
theorem kNoIsD (v : Value) (xT : TypeId) (w : World) : (Instr.typeAssert (.iface 52 v) xT 97 true).run Tryz.prog w = .ok (.tuple #[.nilIface, .bool false]) w := run_typeAssert_lacksB Tryz.underlying97 (by kernel_rfl) (by kernel_rfl) v xT w
theorem kHasUnwrapD (v : Value) (xT : TypeId) (w : World) : (Instr.typeAssert (.iface 52 v) xT 95 true).run Tryz.prog w = .ok (.tuple #[.iface 52 v, .bool true]) w := run_typeAssert_hasB Tryz.underlying95 (by kernel_rfl) v xT w
theorem kMethodUnwrap (v : Value) (w : World) : (Go.method 326 52 v "Unwrap").run Tryz.prog w = .ok (13, v) w := by kernel_rfl

theorem cTypeOfE (v : Value) (w : World) : (callFunc 24 #[.iface 169 v]).run Tryz.prog w = .ok (.value (.iface 88 (.agg #[.pointer (some ⟨24, 169, none⟩)]))) w := by
  rw [@run_callFunc_extern Tryz.prog 24 _ Extern.ReflectliteType.typeOf Tryz.func24 (by kernel_rfl) (by kernel_rfl) (by kernel_rfl) (by kernel_rfl), kTypeOfE]; rfl
theorem cComparableE (w : World) : (callFunc 114 #[.agg #[.pointer (some ⟨24, 169, none⟩)]]).run Tryz.prog w = .ok (.value (.bool true)) w := by
  rw [@run_callFunc_extern Tryz.prog 114 _ (Extern.ReflectliteType.method fun t => do Extern.Rtype.noPackHeld "Comparable" t; pure (.bool (← typeInfo t).comparable)) Tryz.func114 (by kernel_rfl) (by kernel_rfl) (by kernel_rfl) (by kernel_rfl), kComparableE]; rfl

/-- Whether two such errors are one: by their addresses. -/
theorem eql_err (x y : Addr) (w : World) (hx : ∃ c t, w.heap[x.block]? = some (.cells c t (0, 0))) (hy : ∃ c t, w.heap[y.block]? = some (.cells c t (0, 0))) :
    (binOp BinOp.eql 36 (errV x) (errV y)).run Tryz.prog w = .ok (.bool (decide (x = y))) w := by
  obtain ⟨i, hi, hcmp⟩ := Option.map_eq_some_iff.1 kCompE
  obtain ⟨j, hj, hjs⟩ := Option.map_eq_some_iff.1 kSizeE
  obtain ⟨ca, ta, ha⟩ := hx
  obtain ⟨cb, tb, hb⟩ := hy
  by_cases h : x = y
  · subst h
    rw [decide_eq_true rfl]
    exact run_eql_iface_ptr_same (P := Tryz.prog) w x Tryz.underlying36 Tryz.underlying169 hi hcmp hj
  · rw [decide_eq_false h]
    exact run_eql_iface_ptr_other (P := Tryz.prog) w Tryz.underlying36 Tryz.underlying169 hi hcmp hj (by rw [hjs]; decide) h ha hb

set_option maxHeartbeats 2000000 in
/-- errors.Is at two errors of errors.New's make. -/
theorem is_err (x y : Addr) (w : World) (hx : ∃ c t, w.heap[x.block]? = some (.cells c t (0, 0))) (hy : ∃ c t, w.heap[y.block]? = some (.cells c t (0, 0))) :
    Calls Tryz.prog 15 #[errV x, errV y] w fun e w' => e = .returned (.bool (decide (x = y))) ∧ w' = w := by
  have h1 := cTypeOfE
  have h2 := cComparableE
  have h3 := kMethodComparable
  have h4 := kNoIsE
  have h5 := kNoUnwrapE
  have h6 := kNoUnwrapsE
  have heq := eql_err x y w hx hy
  clear hx hy
  by_cases h : x = y
  · rw [decide_eq_true h] at heq ⊢
    have HH : Hid (x = y) := h
    clear h
    go_enter Tryz.func15, Tryz.ntmps15
    go_wp2
    refine wp_loop_rounds 1 ?_
    rw [rounds_succ]
    go_wp2
    go_ret
    exact ⟨rfl, rfl⟩
  · rw [decide_eq_false h] at heq ⊢
    have HH : Hid (x ≠ y) := h
    clear h
    go_enter Tryz.func15, Tryz.ntmps15
    go_wp2
    refine wp_loop_rounds 1 ?_
    rw [rounds_succ]
    go_wp2
    go_ret
    exact ⟨rfl, rfl⟩

set_option maxHeartbeats 2000000 in
/-- errors.Is at a Diag that bears such an error. -/
theorem is_diag (d : Nat) (at_ : Int) (x y : Addr) (w : World) (hd : w.heap[d]? = some (.cells #[.int .i64 at_, errV x] 59 (0, 0))) (hx : ∃ c t, w.heap[x.block]? = some (.cells c t (0, 0))) (hy : ∃ c t, w.heap[y.block]? = some (.cells c t (0, 0))) :
    Calls Tryz.prog 15 #[.iface 52 (.pointer (some ⟨d, 0, none⟩)), errV y] w fun e w' => e = .returned (.bool (decide (x = y))) ∧ w' = w := by
  have h1 := cTypeOfE
  have h2 := cComparableE
  have h3 := kMethodComparable
  have h4 := kNoIsE
  have h5 := kNoUnwrapE
  have h6 := kNoUnwrapsE
  have h7 := kNoIsD
  have h8 := kHasUnwrapD
  have h9 := kMethodUnwrap
  have heq := eql_err x y w hx hy
  have hty := run_eql_iface_types (P := Tryz.prog) 52 169 (.pointer (some ⟨d, 0, none⟩)) (.pointer (some y)) Tryz.underlying36 (by decide) w
  have hc1 : w.cell? ⟨d, 1, none⟩ = some (errV x) := by rw [cell_of_row w d 1 _ _ _ hd]; rfl
  clear hx hy hd
  by_cases h : x = y
  · rw [decide_eq_true h] at heq ⊢
    have HH : Hid (x = y) := h
    clear h
    go_enter Tryz.func15, Tryz.ntmps15
    go_wp2
    refine wp_loop_rounds 2 ?_
    rw [rounds_succ]
    go_wp2
    rw [rounds_succ]
    go_wp2
    go_ret
    exact ⟨rfl, rfl⟩
  · rw [decide_eq_false h] at heq ⊢
    have HH : Hid (x ≠ y) := h
    clear h
    go_enter Tryz.func15, Tryz.ntmps15
    go_wp2
    refine wp_loop_rounds 2 ?_
    rw [rounds_succ]
    go_wp2
    rw [rounds_succ]
    go_wp2
    go_ret
    exact ⟨rfl, rfl⟩

end Go.Proofs.YtkngcglmfbdblaaGreatDoor
