/-
  errors.As, walked: at a *Diag, at an error of errors.New's make.
-/
import Derived.Test.YtkngcglmfbdblaaGreatDoorAs
namespace Go.Proofs.YtkngcglmfbdblaaGreatDoor
open Go.RowKit Go.Extern.Stop Go.Stop Go.Extern

abbrev hDD : Value := .pointer (some ⟨24, 56, none⟩)
abbrev hD : Value := .pointer (some ⟨24, 52, none⟩)
theorem partsDa (a : Addr) (w : World) : (ReflectliteValue.parts (.agg #[hD, .pointer (some a), .int .u64 406])).run Tryz.prog w = .ok (some (52, a, 406)) w := by kernel_rfl
theorem partsD (a : Addr) (w : World) : (ReflectliteValue.parts (.agg #[hD, .pointer (some a), .int .u64 150])).run Tryz.prog w = .ok (some (52, a, 150)) w := by kernel_rfl
theorem directD (w : World) : (Rtype.directlyAssignable 52 52).run Tryz.prog w = .ok true w := by kernel_rfl
theorem cSet (ta b e : Addr) (old : Value) (W : World) (hb : W.cell? b = some (.pointer (some e))) (ht : W.cell? ta = some old) (hf : W.frozen? ta = false) :
    (callFunc 34 #[.agg #[hD, .pointer (some ta), .int .u64 406], .agg #[hD, .pointer (some b), .int .u64 150]]).run Tryz.prog W = .ok (.value (.tuple #[])) (W.setCell ta (.pointer (some e))) := by
  rw [@run_callFunc_extern Tryz.prog 34 _ ReflectliteValue.set Tryz.func34 (by kernel_rfl) (by kernel_rfl) (by kernel_rfl) (by kernel_rfl)]
  show ((ReflectliteValue.parts _ >>= _).run Tryz.prog W).andThen _ = _
  have e0 : ∀ (u v : Value) (h1 : (#[u, v] : Array Value).size = 2) (h2 : 0 < 2), Array.getLit #[u, v] 0 h1 h2 = u := fun _ _ _ _ => rfl
  have e1 : ∀ (u v : Value) (h1 : (#[u, v] : Array Value).size = 2) (h2 : 1 < 2), Array.getLit #[u, v] 1 h1 h2 = v := fun _ _ _ _ => rfl
  simp only [Sem.run_bind, e0, e1, partsDa, partsD, Result.andThen]
  simp [ReflectliteValue.flagAddr, loadVar, isAgg, underlying, Tryz.underlying52, hb, Result.andThen, directD, storeVar, Value.cells, storeCells, Addr.add]
  rw [run_store Tryz.prog W ta _ _ (by rfl)]
  simp [ht, hf]

end Go.Proofs.YtkngcglmfbdblaaGreatDoor
