/-
  How long a printed text is.
-/
import Derived.Test.YtfoabfffmjljmaaGreatDoorPap
import Derived.Test.YtfoabfffmjljmaaGreatDoorLaid
namespace Go.Proofs.YtfoabfffmjljmaaGreatDoor
open Go.RowKit

namespace Mil
theorem digits_len {k : Nat} (h : (k : Int) ≤ maxInt) : (Lib.decDigits k).length ≤ 20 := by
  rw [Lib.decDigits_length]
  have : ∀ n u : Nat, u < 10 ^ n → Lib.nDigits u ≤ n + 1 := by
    intro n
    induction n with
    | zero => intro u hu; rw [Lib.nDigits]; simp at hu; subst hu; simp
    | succ n ih =>
      intro u hu
      rw [Lib.nDigits]
      split
      · omega
      · have := ih (u / 10) (by rw [Nat.pow_succ] at hu; omega)
        omega
  exact this 19 k (by simp only [maxInt] at h; omega)
theorem brack_len {e : E} {l : Nat} (h : (txt e).length ≤ 40 * (toks e).length) : (brack (tight e) l (txt e)).length ≤ 40 * (brackT (tight e) l (toks e)).length := by
  unfold brack brackT
  split
  · simp [sOpen, sShut]; omega
  · exact h
theorem op_len {x : Bytes} (h : tightOf x ≠ 9) : x.length ≤ 3 := by
  unfold tightOf at h
  by_cases h1 : x = wOr ∨ x = wXor
  · rcases h1 with rfl | rfl <;> decide
  rw [if_neg h1] at h
  by_cases h2 : x = wAnd
  · subst h2; decide
  rw [if_neg h2] at h
  by_cases h3 : x = sLt ∨ x = sLe ∨ x = sGt ∨ x = sGe ∨ x = sEq ∨ x = sNe
  · rcases h3 with rfl | rfl | rfl | rfl | rfl | rfl <;> decide
  rw [if_neg h3] at h
  by_cases h4 : x = sPlus ∨ x = sMinus
  · rcases h4 with rfl | rfl <;> decide
  rw [if_neg h4] at h
  by_cases h5 : x = sTimes ∨ x = sOver ∨ x = sRest
  · rcases h5 with rfl | rfl | rfl <;> decide
  rw [if_neg h5] at h
  exact absurd rfl h
theorem txt_len : ∀ e : E, wf e false → (txt e).length ≤ 40 * (toks e).length := by
  have hint : ∀ k : Nat, (k : Int) ≤ maxInt → (txt (eInt k)).length ≤ 40 * (toks (eInt k)).length := fun k hk => by
    have := digits_len hk
    show (Lib.decDigits k).length ≤ 40 * 1
    omega
  have hbool : ∀ k, k = 0 ∨ k = 1 → (txt (eBool k)).length ≤ 40 * (toks (eBool k)).length := fun k hk => by
    rcases hk with rfl | rfl <;> decide
  have hpre : ∀ x a, x = wNot ∨ x = sMinus → wf a false → (txt a).length ≤ 40 * (toks a).length → (txt (ePre x a)).length ≤ 40 * (toks (ePre x a)).length := by
    intro x a hx _ ha
    rcases hx with rfl | rfl
    · have := brack_len (l := 3) ha
      show (if wNot = wNot then wNot ++ blank ++ brack (tight a) 3 (txt a) else _).length ≤ 40 * (fix wNot :: brackT (tight a) 3 (toks a)).length
      rw [if_pos rfl]
      simp only [List.length_append, List.length_cons, wNot, blank, List.length_nil]
      omega
    · have := brack_len (l := 7) ha
      show (if sMinus = wNot then _ else sMinus ++ brack (tight a) 7 (txt a)).length ≤ 40 * (fix sMinus :: brackT (tight a) 7 (toks a)).length
      rw [if_neg (by decide)]
      simp only [List.length_append, List.length_cons, sMinus, List.length_nil]
      omega
  have hcon : ∀ c, isConst c → (txt c).length ≤ 40 * (toks c).length := by
    rintro c (⟨k, hk, rfl⟩ | ⟨k, hk, rfl⟩ | ⟨k, hk, rfl⟩)
    · exact hint k hk
    · exact hbool k hk
    · exact hpre sMinus _ (Or.inr rfl) (wf_const (Or.inl ⟨k, hk, rfl⟩)) (hint k hk)
  refine wf_induct hint hbool ?_ hpre ?_ ?_ ?_ ?_ ?_ ?_
  · intro x hx
    have := hx.2.2.1
    show x.length ≤ 40 * 1
    omega
  · intro x a b hx _ _ ha hb
    have h1 := brack_len (l := leftOf (tightOf x)) ha
    have h2 := brack_len (l := tightOf x + 1) hb
    have h3 := op_len hx
    show (brack (tight a) (leftOf (tightOf x)) (txt a) ++ blank ++ x ++ blank ++ brack (tight b) (tightOf x + 1) (txt b)).length ≤ 40 * (brackT (tight a) (leftOf (tightOf x)) (toks a) ++ fix x :: brackT (tight b) (tightOf x + 1) (toks b)).length
    simp only [List.length_append, List.length_cons, blank, List.length_nil]
    omega
  · intro a b c _ _ _ ha hb hc
    show (wIf ++ blank ++ txt a ++ blank ++ (wThen ++ blank ++ txt b ++ blank ++ wElse ++ blank ++ txt c)).length ≤ 40 * (fix wIf :: (toks a ++ (fix wThen :: (toks b ++ fix wElse :: toks c)))).length
    simp only [List.length_append, List.length_cons, blank, wIf, wThen, wElse, List.length_nil]
    omega
  · intro a b hca _ hb
    have ha := hcon a hca
    show (wFby ++ sOpen ++ txt a ++ commaB ++ txt b ++ sShut).length ≤ 40 * (fix wFby :: fix sOpen :: (toks a ++ fix sComma :: (toks b ++ [fix sShut]))).length
    simp only [List.length_append, List.length_cons, wFby, sOpen, sShut, commaB, List.length_nil]
    omega
  · intro a k h2 h1000 _ ha
    have hk := digits_len (k := k) (by simp only [maxInt]; omega)
    show (wUnder ++ sOpen ++ txt a ++ commaB ++ Lib.decDigits k ++ sShut).length ≤ 40 * (fix wUnder :: fix sOpen :: (toks a ++ [fix sComma, num k, fix sShut])).length
    simp only [List.length_append, List.length_cons, wUnder, sOpen, sShut, commaB, List.length_nil]
    omega
  · intro a b k h2 h1000 hca _ hb
    have ha := hcon a hca
    have hk := digits_len (k := k) (by simp only [maxInt]; omega)
    show (wHold ++ sOpen ++ txt a ++ commaB ++ txt b ++ commaB ++ Lib.decDigits k ++ sShut).length ≤ 40 * (fix wHold :: fix sOpen :: (toks a ++ fix sComma :: (toks b ++ [fix sComma, num k, fix sShut]))).length
    simp only [List.length_append, List.length_cons, wHold, sOpen, sShut, commaB, List.length_nil]
    omega
  · intro x a b hx _ _ ha hb
    have h3 : x.length = 3 := by rcases hx with rfl | rfl <;> rfl
    show (x ++ sOpen ++ txt a ++ commaB ++ txt b ++ sShut).length ≤ 40 * (fix x :: fix sOpen :: (toks a ++ fix sComma :: (toks b ++ [fix sShut]))).length
    simp only [List.length_append, List.length_cons, sOpen, sShut, commaB, List.length_nil]
    omega
end Mil

theorem below_step {W u v : World} (h : Below W.heap.size W u) (k : Below u.heap.size u v) : Below W.heap.size W v := h.trans (k.mono h.size)
theorem bs_add (x y : Mil.Bytes) : bs x ++ bs y = bs (x ++ y) := ByteArray.mk_append_mk x y
theorem bs_size (x : Mil.Bytes) : (bs x).size = x.length := by simp [bs, ByteArray.size]

/-- A call that answers a text. -/
def TxPost (x : Mil.Bytes) (w : World) (e : Ending) (w' : World) : Prop := e = .returned (.string (bs x)) ∧ Below w.heap.size w w'


end Go.Proofs.YtfoabfffmjljmaaGreatDoor
