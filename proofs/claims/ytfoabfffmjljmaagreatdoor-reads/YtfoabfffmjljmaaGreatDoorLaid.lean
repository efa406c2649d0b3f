/-
  The package's variables as they are laid; what is thrown.
-/
import Derived.Test.YtfoabfffmjljmaaGreatDoorBase
import Derived.Laws.Rows
namespace Go.Proofs.YtfoabfffmjljmaaGreatDoor
open Go.RowKit

def bs (x : Mil.Bytes) : ByteArray := ⟨x.toArray⟩
theorem bs_list (x : Mil.Bytes) : (bs x).data.toList = x := rfl
theorem bs_of (s : ByteArray) : bs s.data.toList = s := by cases s; rfl
theorem bs_inj {x y : Mil.Bytes} (h : bs x = bs y) : x = y := by rw [← bs_list x, h, bs_list]
def strCells (l : List Mil.Bytes) : Array Value := (l.map fun x => Value.string (bs x)).toArray
abbrev strs (l : List Mil.Bytes) : List Value := l.map fun x => Value.string (bs x)
abbrev errV (a : Addr) : Value := .iface 169 (.pointer (some a))
/-- The operators' table: a sign, how tightly it binds, the type that it wants, that it gives. -/
def opsTab : List (Mil.Bytes × Int × Int × Int) :=
  [(Mil.wOr, 1, 1, 1), (Mil.wXor, 1, 1, 1), (Mil.wAnd, 2, 1, 1), (Mil.sLt, 4, 0, 1), (Mil.sLe, 4, 0, 1), (Mil.sGt, 4, 0, 1), (Mil.sGe, 4, 0, 1), (Mil.sEq, 4, 2, 1), (Mil.sNe, 4, 2, 1), (Mil.sPlus, 5, 0, 0), (Mil.sMinus, 5, 0, 0), (Mil.sTimes, 6, 0, 0), (Mil.sOver, 6, 0, 0), (Mil.sRest, 6, 0, 0)]
def opCells : Array Value := (opsTab.flatMap fun x => [Value.string (bs x.1), .int .i64 x.2.1, .int .i64 x.2.2.1, .int .i64 x.2.2.2]).toArray

/-- The variables: blocks below 24. -/
structure Laid (a : Nat → Addr) (w : World) : Prop where
  size : 23 ≤ w.heap.size
  long : w.cell? ⟨0, 0, none⟩ = some (errV (a 1))
  token : w.cell? ⟨3, 0, none⟩ = some (errV (a 2))
  synt : w.cell? ⟨4, 0, none⟩ = some (errV (a 3))
  many : w.cell? ⟨1, 0, none⟩ = some (errV (a 4))
  words : ∃ t, w.heap[14]? = some (.cells (strCells Mil.words) t (0, 0))
  signs : ∃ t, w.heap[15]? = some (.cells (strCells Mil.signs) t (0, 0))
  types : ∃ t, w.heap[16]? = some (.cells (strCells [Mil.wInt, Mil.wBool]) t (0, 0))
  ops : ∃ t, w.heap[19]? = some (.cells opCells t (0, 0))
  rng : w.cell? ⟨18, 0, none⟩ = some (errV (a 20))

theorem Laid.kept {a : Nat → Addr} {b : Nat} {w w' : World} (h : Laid a w) (k : Kp b w w') (hb : 23 ≤ b) : Laid a w' := by
  have hs := h.size
  have bl : ∀ g, g < 23 → w'.heap[g]? = w.heap[g]? := fun g hg => k.block g (by omega) (by omega)
  refine ⟨Nat.le_trans hs k.size, k.held h.long ?_, k.held h.token ?_, k.held h.synt ?_, k.held h.many ?_, ?_, ?_, ?_, ?_, k.held h.rng ?_⟩
  · show 0 ≠ b; omega
  · show 3 ≠ b; omega
  · show 4 ≠ b; omega
  · show 1 ≠ b; omega
  · obtain ⟨t, ht⟩ := h.words; exact ⟨t, (bl _ (by omega)).trans ht⟩
  · obtain ⟨t, ht⟩ := h.signs; exact ⟨t, (bl _ (by omega)).trans ht⟩
  · obtain ⟨t, ht⟩ := h.types; exact ⟨t, (bl _ (by omega)).trans ht⟩
  · obtain ⟨t, ht⟩ := h.ops; exact ⟨t, (bl _ (by omega)).trans ht⟩
  · show 18 ≠ b; omega

/-- A Diag is thrown: error number k (1 long, 2 token, 3 syntax, 4 many), at a place. -/
def Thrown (a : Nat → Addr) (k : Nat) (at_ : Int) (e : Ending) (w' : World) : Prop :=
  ∃ d, e = .panicked [{ v := .iface 52 (.pointer (some ⟨d, 0, none⟩)), recovered := false }] ∧ w'.heap[d]? = some (.cells #[.int .i64 at_, errV (a k)] 59 (0, 0))

end Go.Proofs.YtfoabfffmjljmaaGreatDoor
