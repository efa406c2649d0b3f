/-
  Printing: what it leans on; how long a text is; the small functions.
-/
import Derived.Test.YtkngcglmfbdblaaGreatDoorTigh
import Derived.Test.YtkngcglmfbdblaaGreatDoorPap
import Derived.Test.YtkngcglmfbdblaaGreatDoorPrl
import Derived.Lib.Join
import Derived.Lib.AppendIntMem
import Derived.Lib.Small
import Derived.Laws.Concat
import Derived.Deep.RegionHeld3
namespace Go.Proofs.YtkngcglmfbdblaaGreatDoor
open Go.RowKit

/-- What printing leans on. -/
structure Pl (a : Nat → Addr) (w : World) : Prop where
  l : Laid a w
  tab : Lib.TabIs Tryz.prog w "internal/strconv.uint64pow10" .u64 Lib.pow10Tab
theorem Pl.below {a : Nat → Addr} {w w' : World} (h : Pl a w) (hb : Below w.heap.size w w') : Pl a w' :=
  ⟨h.l.kept (Kp.of_below (b := w.heap.size) hb) h.l.size, Lib.tabBelow_of_tabIs h.tab w' hb⟩
theorem formatInt_any (a : Nat → Addr) (k : Nat) (hk : (k : Int) ≤ Mil.maxInt) (w : World) (h : Pl a w) :
    Calls Tryz.prog 125 #[.int .i64 (k : Nat), .int .i64 10] w (TxPost (Lib.decDigits k) w) := by
  refine (Tryz.strconv_FormatInt_10 (k : Nat) (by omega) hk w h.tab).mono ?_
  rintro e w' ⟨rfl, n, os, rfl⟩
  refine ⟨?_, Lib.below_grow _ _ (Nat.le_refl _) _ _⟩
  have : Lib.itoa (k : Nat) = Lib.decDigits k := by
    unfold Lib.itoa
    rw [if_neg (by omega)]; rfl
  rw [this]; rfl
theorem formatBool_any (k : Nat) (w : World) : Calls Tryz.prog 133 #[.bool (k == 1)] w (TxPost (if k = 1 then Mil.wTrue else Mil.wFalse) w) := by
  refine (Tryz.strconv_FormatBool (k == 1) w).mono ?_
  rintro e w' ⟨rfl, rfl⟩
  refine ⟨?_, Below.refl _ _⟩
  by_cases h : k = 1
  · subst h; rfl
  · have : (k == 1) = false := by simpa using h
    rw [this, if_neg h]; rfl

/-- callText: a word, and the parts in a row. -/
theorem callText_any (m : Mil.Bytes) (hm : m.length ≤ 5) (xs : List Mil.Bytes) (hx : xs ≠ []) (hn : xs.length ≤ 3) (hl : ∀ x, x ∈ xs → x.length ≤ 24000) (b : Nat) (w : World) (hb : w.heap[b]? = some (.cells (strCells xs) 9 (0, 0))) :
    Calls Tryz.prog 136 #[.string (bs m), .slice (some ⟨b, 0, none⟩) xs.length xs.length] w (TxPost (m ++ Mil.sOpen ++ Lib.join xs Mil.commaB ++ Mil.sShut) w) := by
  have hjl : (Lib.join xs Mil.commaB).length ≤ 80000 := by
    match xs, hx, hn, hl with
    | [x], _, _, hl => rw [Lib.join_one]; have := hl x (by simp); omega
    | [x, y], _, _, hl =>
      have h1 := hl x (by simp)
      have h2 := hl y (by simp)
      simp [Lib.join, List.intercalate, Mil.commaB]
      omega
    | [x, y, z], _, _, hl =>
      have h1 := hl x (by simp)
      have h2 := hl y (by simp)
      have h3 := hl z (by simp)
      simp [Lib.join, List.intercalate, Mil.commaB]
      omega
  have hJ : Hid (∀ w', Below w.heap.size w w' → Calls Tryz.prog 127 #[.slice (some ⟨b, 0, none⟩) xs.length xs.length, .string (bs Mil.commaB)] w' (TxPost (Lib.join xs Mil.commaB) w')) := by
    intro w' hw
    have hb' : w'.heap[b]? = some (.cells (strCells xs) 9 (0, 0)) := (hw.block b (Array.getElem?_eq_some_iff.1 hb).1).trans hb
    have e1 : ((xs.map bs).map (fun x : ByteArray => x.data.toList)) = xs := by
      rw [List.map_map]
      exact List.map_id xs
    have hj := Tryz.strings_Join b 0 xs.length (xs.map bs) (bs Mil.commaB) w' (by
      intro j x hj
      rw [cell_of_row w' b (0 + j) _ _ _ hb', Nat.zero_add]
      unfold strCells
      rw [List.getElem?_map] at hj
      obtain ⟨y, hy, rfl⟩ := Option.map_eq_some_iff.1 hj
      simp [hy]) (Array.getElem?_eq_some_iff.1 hb').1 (by simp; omega) (by simp) (by rw [e1]; exact Nat.le_trans hjl (by decide))
    rw [e1, List.length_map] at hj
    exact hj
  have hs1 : (bs m).size ≤ 5 := by rw [bs_size]; exact hm
  have hs2 : (bs (Lib.join xs Mil.commaB)).size ≤ 80000 := by rw [bs_size]; exact hjl
  clear hb hx hn hl hjl
  go_enter Tryz.func136, Tryz.ntmps136
  go_wp2_with fail
  refine (hJ.out _ (Below.refl _ _)).mono ?_
  rintro e w1 ⟨rfl, hb1⟩
  go_wp2
  go_ret
  refine ⟨?_, hb1⟩
  show Ending.returned (.string (bs m ++ bs Mil.sOpen ++ bs (Lib.join xs Mil.commaB) ++ bs Mil.sShut)) = _
  rw [bs_add, bs_add, bs_add]

end Go.Proofs.YtkngcglmfbdblaaGreatDoor
