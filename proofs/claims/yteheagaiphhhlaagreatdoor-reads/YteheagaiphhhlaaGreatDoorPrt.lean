/-
  Printing: what it leans on; how long a text is; the small functions.
-/
import Derived.Test.YteheagaiphhhlaaGreatDoorTigh
import Derived.Test.YteheagaiphhhlaaGreatDoorItr
import Derived.Lib.Join
import Derived.Lib.AppendIntMem
import Derived.Lib.Small
import Derived.Laws.Concat
import Derived.Deep.RegionHeld3
namespace Go.Proofs.YteheagaiphhhlaaGreatDoor
open Go.RowKit

namespace Mil
theorem digits_len {k : Nat} (h : (k : Int) ≤ maxInt) : (Lib.decDigits k).length ≤ 20 := by
  rw [Lib.decDigits_length]
  have : ∀ n u : Nat, u < 10 ^ n → Lib.nDigits u ≤ n + 1 := by
    intro n
    induction n with
    | zero => intro u hu; rw [Lib.nDigits]; simp at hu; subst hu; simp
    | succ n ih =>
      intro u hu
      rw [Lib.nDigits]
      split
      · omega
      · have := ih (u / 10) (by rw [Nat.pow_succ] at hu; omega)
        omega
  exact this 19 k (by simp only [maxInt] at h; omega)
theorem brack_len {e : E} {l : Nat} (h : (txt e).length ≤ 40 * (toks e).length) : (brack (tight e) l (txt e)).length ≤ 40 * (brackT (tight e) l (toks e)).length := by
  unfold brack brackT
  split
  · simp [sOpen, sShut]; omega
  · exact h
theorem op_len {x : Bytes} (h : tightOf x ≠ 9) : x.length ≤ 3 := by
  unfold tightOf at h
  by_cases h1 : x = wOr ∨ x = wXor
  · rcases h1 with rfl | rfl <;> decide
  rw [if_neg h1] at h
  by_cases h2 : x = wAnd
  · subst h2; decide
  rw [if_neg h2] at h
  by_cases h3 : x = sLt ∨ x = sLe ∨ x = sGt ∨ x = sGe ∨ x = sEq ∨ x = sNe
  · rcases h3 with rfl | rfl | rfl | rfl | rfl | rfl <;> decide
  rw [if_neg h3] at h
  by_cases h4 : x = sPlus ∨ x = sMinus
  · rcases h4 with rfl | rfl <;> decide
  rw [if_neg h4] at h
  by_cases h5 : x = sTimes ∨ x = sOver ∨ x = sRest
  · rcases h5 with rfl | rfl | rfl <;> decide
  rw [if_neg h5] at h
  exact absurd rfl h
theorem txt_len : ∀ e : E, wf e false → (txt e).length ≤ 40 * (toks e).length := by
  have hint : ∀ k : Nat, (k : Int) ≤ maxInt → (txt (eInt k)).length ≤ 40 * (toks (eInt k)).length := fun k hk => by
    have := digits_len hk
    show (Lib.decDigits k).length ≤ 40 * 1
    omega
  have hbool : ∀ k, k = 0 ∨ k = 1 → (txt (eBool k)).length ≤ 40 * (toks (eBool k)).length := fun k hk => by
    rcases hk with rfl | rfl <;> decide
  have hpre : ∀ x a, x = wNot ∨ x = sMinus → wf a false → (txt a).length ≤ 40 * (toks a).length → (txt (ePre x a)).length ≤ 40 * (toks (ePre x a)).length := by
    intro x a hx _ ha
    rcases hx with rfl | rfl
    · have := brack_len (l := 3) ha
      show (if wNot = wNot then wNot ++ blank ++ brack (tight a) 3 (txt a) else _).length ≤ 40 * (fix wNot :: brackT (tight a) 3 (toks a)).length
      rw [if_pos rfl]
      simp only [List.length_append, List.length_cons, wNot, blank, List.length_nil]
      omega
    · have := brack_len (l := 7) ha
      show (if sMinus = wNot then _ else sMinus ++ brack (tight a) 7 (txt a)).length ≤ 40 * (fix sMinus :: brackT (tight a) 7 (toks a)).length
      rw [if_neg (by decide)]
      simp only [List.length_append, List.length_cons, sMinus, List.length_nil]
      omega
  have hcon : ∀ c, isConst c → (txt c).length ≤ 40 * (toks c).length := by
    rintro c (⟨k, hk, rfl⟩ | ⟨k, hk, rfl⟩ | ⟨k, hk, rfl⟩)
    · exact hint k hk
    · exact hbool k hk
    · exact hpre sMinus _ (Or.inr rfl) (wf_const (Or.inl ⟨k, hk, rfl⟩)) (hint k hk)
  refine wf_induct hint hbool ?_ hpre ?_ ?_ ?_ ?_ ?_ ?_
  · intro x hx
    have := hx.2.2.1
    show x.length ≤ 40 * 1
    omega
  · intro x a b hx _ _ ha hb
    have h1 := brack_len (l := leftOf (tightOf x)) ha
    have h2 := brack_len (l := tightOf x + 1) hb
    have h3 := op_len hx
    show (brack (tight a) (leftOf (tightOf x)) (txt a) ++ blank ++ x ++ blank ++ brack (tight b) (tightOf x + 1) (txt b)).length ≤ 40 * (brackT (tight a) (leftOf (tightOf x)) (toks a) ++ fix x :: brackT (tight b) (tightOf x + 1) (toks b)).length
    simp only [List.length_append, List.length_cons, blank, List.length_nil]
    omega
  · intro a b c _ _ _ ha hb hc
    show (wIf ++ blank ++ txt a ++ blank ++ (wThen ++ blank ++ txt b ++ blank ++ wElse ++ blank ++ txt c)).length ≤ 40 * (fix wIf :: (toks a ++ (fix wThen :: (toks b ++ fix wElse :: toks c)))).length
    simp only [List.length_append, List.length_cons, blank, wIf, wThen, wElse, List.length_nil]
    omega
  · intro a b hca _ hb
    have ha := hcon a hca
    show (wFby ++ sOpen ++ txt a ++ commaB ++ txt b ++ sShut).length ≤ 40 * (fix wFby :: fix sOpen :: (toks a ++ fix sComma :: (toks b ++ [fix sShut]))).length
    simp only [List.length_append, List.length_cons, wFby, sOpen, sShut, commaB, List.length_nil]
    omega
  · intro a k h2 h1000 _ ha
    have hk := digits_len (k := k) (by simp only [maxInt]; omega)
    show (wUnder ++ sOpen ++ txt a ++ commaB ++ Lib.decDigits k ++ sShut).length ≤ 40 * (fix wUnder :: fix sOpen :: (toks a ++ [fix sComma, num k, fix sShut])).length
    simp only [List.length_append, List.length_cons, wUnder, sOpen, sShut, commaB, List.length_nil]
    omega
  · intro a b k h2 h1000 hca _ hb
    have ha := hcon a hca
    have hk := digits_len (k := k) (by simp only [maxInt]; omega)
    show (wHold ++ sOpen ++ txt a ++ commaB ++ txt b ++ commaB ++ Lib.decDigits k ++ sShut).length ≤ 40 * (fix wHold :: fix sOpen :: (toks a ++ fix sComma :: (toks b ++ [fix sComma, num k, fix sShut]))).length
    simp only [List.length_append, List.length_cons, wHold, sOpen, sShut, commaB, List.length_nil]
    omega
  · intro x a b hx _ _ ha hb
    have h3 : x.length = 3 := by rcases hx with rfl | rfl <;> rfl
    show (x ++ sOpen ++ txt a ++ commaB ++ txt b ++ sShut).length ≤ 40 * (fix x :: fix sOpen :: (toks a ++ fix sComma :: (toks b ++ [fix sShut]))).length
    simp only [List.length_append, List.length_cons, sOpen, sShut, commaB, List.length_nil]
    omega
end Mil

/-- What printing leans on. -/
structure Pl (a : Nat → Addr) (w : World) : Prop where
  l : Laid a w
  tab : Lib.TabIs Tryz.prog w "internal/strconv.uint64pow10" .u64 Lib.pow10Tab
theorem Pl.below {a : Nat → Addr} {w w' : World} (h : Pl a w) (hb : Below w.heap.size w w') : Pl a w' :=
  ⟨h.l.kept (Kp.of_below (b := w.heap.size) hb) h.l.size, Lib.tabBelow_of_tabIs h.tab w' hb⟩
theorem below_step {W u v : World} (h : Below W.heap.size W u) (k : Below u.heap.size u v) : Below W.heap.size W v := h.trans (k.mono h.size)
theorem bs_add (x y : Mil.Bytes) : bs x ++ bs y = bs (x ++ y) := ByteArray.mk_append_mk x y
theorem bs_size (x : Mil.Bytes) : (bs x).size = x.length := by simp [bs, ByteArray.size]

/-- A call that answers a text. -/
def TxPost (x : Mil.Bytes) (w : World) (e : Ending) (w' : World) : Prop := e = .returned (.string (bs x)) ∧ Below w.heap.size w w'

theorem formatInt_any (a : Nat → Addr) (k : Nat) (hk : (k : Int) ≤ Mil.maxInt) (w : World) (h : Pl a w) :
    Calls Tryz.prog 121 #[.int .i64 (k : Nat), .int .i64 10] w (TxPost (Lib.decDigits k) w) := by
  refine (Tryz.strconv_FormatInt_10 (k : Nat) (by omega) hk w h.tab).mono ?_
  rintro e w' ⟨rfl, n, os, rfl⟩
  refine ⟨?_, Lib.below_grow _ _ (Nat.le_refl _) _ _⟩
  have : Lib.itoa (k : Nat) = Lib.decDigits k := by
    unfold Lib.itoa
    rw [if_neg (by omega)]; rfl
  rw [this]; rfl
theorem formatBool_any (k : Nat) (w : World) : Calls Tryz.prog 129 #[.bool (k == 1)] w (TxPost (if k = 1 then Mil.wTrue else Mil.wFalse) w) := by
  refine (Tryz.strconv_FormatBool (k == 1) w).mono ?_
  rintro e w' ⟨rfl, rfl⟩
  refine ⟨?_, Below.refl _ _⟩
  by_cases h : k = 1
  · subst h; rfl
  · have : (k == 1) = false := by simpa using h
    rw [this, if_neg h]; rfl

/-- callText: a word, and the parts in a row. -/
theorem callText_any (m : Mil.Bytes) (hm : m.length ≤ 5) (xs : List Mil.Bytes) (hx : xs ≠ []) (hn : xs.length ≤ 3) (hl : ∀ x, x ∈ xs → x.length ≤ 24000) (b : Nat) (w : World) (hb : w.heap[b]? = some (.cells (strCells xs) 9 (0, 0))) :
    Calls Tryz.prog 132 #[.string (bs m), .slice (some ⟨b, 0, none⟩) xs.length xs.length] w (TxPost (m ++ Mil.sOpen ++ Lib.join xs Mil.commaB ++ Mil.sShut) w) := by
  have hjl : (Lib.join xs Mil.commaB).length ≤ 80000 := by
    match xs, hx, hn, hl with
    | [x], _, _, hl => rw [Lib.join_one]; have := hl x (by simp); omega
    | [x, y], _, _, hl =>
      have h1 := hl x (by simp)
      have h2 := hl y (by simp)
      simp [Lib.join, List.intercalate, Mil.commaB]
      omega
    | [x, y, z], _, _, hl =>
      have h1 := hl x (by simp)
      have h2 := hl y (by simp)
      have h3 := hl z (by simp)
      simp [Lib.join, List.intercalate, Mil.commaB]
      omega
  have hJ : Hid (∀ w', Below w.heap.size w w' → Calls Tryz.prog 123 #[.slice (some ⟨b, 0, none⟩) xs.length xs.length, .string (bs Mil.commaB)] w' (TxPost (Lib.join xs Mil.commaB) w')) := by
    intro w' hw
    have hb' : w'.heap[b]? = some (.cells (strCells xs) 9 (0, 0)) := (hw.block b (Array.getElem?_eq_some_iff.1 hb).1).trans hb
    have e1 : ((xs.map bs).map (fun x : ByteArray => x.data.toList)) = xs := by
      rw [List.map_map]
      exact List.map_id xs
    have hj := Tryz.strings_Join b 0 xs.length (xs.map bs) (bs Mil.commaB) w' (by
      intro j x hj
      rw [cell_of_row w' b (0 + j) _ _ _ hb', Nat.zero_add]
      unfold strCells
      rw [List.getElem?_map] at hj
      obtain ⟨y, hy, rfl⟩ := Option.map_eq_some_iff.1 hj
      simp [hy]) (Array.getElem?_eq_some_iff.1 hb').1 (by simp; omega) (by simp) (by rw [e1]; exact Nat.le_trans hjl (by decide))
    rw [e1, List.length_map] at hj
    exact hj
  have hs1 : (bs m).size ≤ 5 := by rw [bs_size]; exact hm
  have hs2 : (bs (Lib.join xs Mil.commaB)).size ≤ 80000 := by rw [bs_size]; exact hjl
  clear hb hx hn hl hjl
  go_enter Tryz.func132, Tryz.ntmps132
  go_wp2_with fail
  refine (hJ.out _ (Below.refl _ _)).mono ?_
  rintro e w1 ⟨rfl, hb1⟩
  go_wp2
  go_ret
  refine ⟨?_, hb1⟩
  show Ending.returned (.string (bs m ++ bs Mil.sOpen ++ bs (Lib.join xs Mil.commaB) ++ bs Mil.sShut)) = _
  rw [bs_add, bs_add, bs_add]

end Go.Proofs.YteheagaiphhhlaaGreatDoor
