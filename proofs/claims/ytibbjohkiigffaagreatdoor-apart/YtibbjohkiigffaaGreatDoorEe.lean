/-
  What the row's condition gives the walks.
-/
import Derived.Test.YtibbjohkiigffaaGreatDoorRows
import Derived.Test.YtibbjohkiigffaaGreatDoorPau
import Derived.Test.YtibbjohkiigffaaGreatDoorFa
namespace Go.Proofs.YtibbjohkiigffaaGreatDoor
open Go Go.RowKit

theorem starE : "*" ++ "errors.errorString" = "*errors.errorString" := by decide
theorem rowE (u : TypeId) (h : Tryz.prog.typeName? 3 u = some "*errors.errorString") : u = 250 :=
  typeName_ptr_named (nm := "errors.errorString") (by rw [starE]; kernel_rfl) (by kernel_rfl) (by decide) u (by rw [starE]; exact h)
theorem cellsES : Tryz.prog.cellsOf 252 = 1 := by kernel_rfl
theorem cellsStr : Tryz.prog.cellsOf 9 = 1 := by kernel_rfl

/-- The sentinels' numbers, and what is said of them. -/
abbrev nums : List Nat := [19, 18, 0, 2, 3, 4, 5, 6, 7, 8, 9, 10, 11, 12, 13]
def sents : List (String × DataW Unit) := [("strconv.ErrRange", Rows.laid_strconv_ErrRange), ("strconv.ErrSyntax", Rows.laid_strconv_ErrSyntax), ("ratemill/mill.ErrLong", Rows.laid_ratemill_mill_ErrLong), ("ratemill/mill.ErrToken", Rows.laid_ratemill_mill_ErrToken), ("ratemill/mill.ErrSyntax", Rows.laid_ratemill_mill_ErrSyntax), ("ratemill/mill.ErrMany", Rows.laid_ratemill_mill_ErrMany), ("ratemill/mill.ErrTwice", Rows.laid_ratemill_mill_ErrTwice), ("ratemill/mill.ErrName", Rows.laid_ratemill_mill_ErrName), ("ratemill/mill.ErrType", Rows.laid_ratemill_mill_ErrType), ("ratemill/mill.ErrPeriod", Rows.laid_ratemill_mill_ErrPeriod), ("ratemill/mill.ErrFree", Rows.laid_ratemill_mill_ErrFree), ("ratemill/mill.ErrCycle", Rows.laid_ratemill_mill_ErrCycle), ("ratemill/mill.ErrFlow", Rows.laid_ratemill_mill_ErrFlow), ("ratemill/mill.ErrInputs", Rows.laid_ratemill_mill_ErrInputs), ("ratemill/mill.ErrOverrun", Rows.laid_ratemill_mill_ErrOverrun)]
def isSent : String × DataW Unit → Bool
  | (_, .iface _ (.ptr _)) => true
  | _ => false
def isOne (n : String) (x : String × DataW Unit) : Bool := x.1 == n
abbrev plains : List (String × DataW Unit) := Rows.apartRow.laid.filter fun x => x.2.handleName?.isNone
theorem plains_sents : plains.filter isSent = sents := by kernel_rfl
theorem plains_words : plains.filter (isOne "ratemill/mill.words") = [("ratemill/mill.words", .agg (Mil.words.map fun x => .lit (.string x)))] := by kernel_rfl
theorem plains_signs : plains.filter (isOne "ratemill/mill.signs") = [("ratemill/mill.signs", .agg (Mil.signs.map fun x => .lit (.string x)))] := by kernel_rfl
theorem plains_types : plains.filter (isOne "ratemill/mill.typeWords") = [("ratemill/mill.typeWords", .agg ([Mil.wInt, Mil.wBool].map fun x => .lit (.string x)))] := by kernel_rfl
theorem plains_ops : plains.filter (isOne "ratemill/mill.operators") = [("ratemill/mill.operators", .agg (opsTab.map fun x => .agg [.lit (.string x.1), .lit (.int .i64 x.2.1), .lit (.int .i64 x.2.2.1), .lit (.int .i64 x.2.2.2)]))] := by kernel_rfl
theorem plains_last : (plains.filter (isOne "math/bits.deBruijn64tab")).map (·.1) = ["math/bits.deBruijn64tab"] := by kernel_rfl
theorem fit : FitErrs Tryz.prog 45 "*errors.errorString" sents nums :=
  ⟨⟨_, rfl⟩, by kernel_rfl, by kernel_rfl, ⟨_, rfl⟩, by kernel_rfl, by kernel_rfl, ⟨_, rfl⟩, by kernel_rfl, by kernel_rfl, ⟨_, rfl⟩, by kernel_rfl, by kernel_rfl, ⟨_, rfl⟩, by kernel_rfl, by kernel_rfl, ⟨_, rfl⟩, by kernel_rfl, by kernel_rfl, ⟨_, rfl⟩, by kernel_rfl, by kernel_rfl, ⟨_, rfl⟩, by kernel_rfl, by kernel_rfl, ⟨_, rfl⟩, by kernel_rfl, by kernel_rfl, ⟨_, rfl⟩, by kernel_rfl, by kernel_rfl, ⟨_, rfl⟩, by kernel_rfl, by kernel_rfl, ⟨_, rfl⟩, by kernel_rfl, by kernel_rfl, ⟨_, rfl⟩, by kernel_rfl, by kernel_rfl, ⟨_, rfl⟩, by kernel_rfl, by kernel_rfl, ⟨_, rfl⟩, by kernel_rfl, by kernel_rfl, trivial⟩

theorem kEt : Tryz.prog.globalNamed "errors.errorType" = some 1 := by kernel_rfl
theorem kRt : (Tryz.prog.cutTypes.find? (·.1 == "internal/reflectlite.rtype")).map (·.2) = some 143 := by kernel_rfl
theorem kOneRow : ((List.range 291).filter fun t => Tryz.prog.rowNamed t [101, 114, 114, 111, 114]) = [45] := by kernel_rfl
theorem kTypes : Tryz.prog.types.size = 291 := by kernel_rfl
theorem handles_are : (Rows.apartRow.laid.filter fun x => x.2.handleName?.isSome) = [("errors.errorType", Rows.laid_errors_errorType)] := by kernel_rfl

theorem et_of {W : World} (h : handlesMet Tryz.prog [("errors.errorType", Rows.laid_errors_errorType)] W) : W.cell? ⟨1, 0, none⟩ = some eTy := by
  obtain ⟨name, u, ty, e1, e2, e3, e4, e5⟩ := h _ (List.mem_singleton.2 rfl)
  have en : name = [101, 114, 114, 111, 114] := (Option.some.inj e1).symm
  subst en
  obtain rfl := Option.some.inj (kRt.symm.trans e2)
  have hm : ty ∈ (List.range 291).filter fun t => Tryz.prog.rowNamed t [101, 114, 114, 111, 114] := List.mem_filter.2 ⟨List.mem_range.2 (by rw [← kTypes]; exact e3), e4⟩
  rw [kOneRow] at hm
  obtain rfl := List.mem_singleton.1 hm
  have hh : typeHandle Tryz.prog 45 = .pointer (some ⟨23, 45, none⟩) := by kernel_rfl
  rw [hh] at e5
  simpa using World.var?_cell kEt e5 0

theorem lt_of_last {W : World} {n : String} {g : Nat} {l : List (String × DataW Unit)} (hl : l.map (·.1) = [n]) (hg : Tryz.prog.globalNamed n = some g) (h : laidMet Tryz.prog l W) : g < W.heap.size := by
  match l, hl with
  | [x], hl =>
    obtain ⟨ps, ⟨g', t', cs, fuel, p, q, hg', ht', hvar, _⟩, _⟩ := h
    have e : x.1 = n := by simpa using hl
    rw [e] at hg' hvar
    obtain rfl := Option.some.inj (hg.symm.trans hg')
    unfold World.var? at hvar
    rw [hg, Option.bind_some] at hvar
    rcases Nat.lt_or_ge g W.heap.size with h' | h'
    · exact h'
    · rw [Array.getElem?_eq_none h'] at hvar
      cases hvar

/-- What the condition gives the walks. -/
theorem of_laid {W : World} (h : laidMetH Tryz.prog Rows.apartRow.laid W) :
    ∃ al : Nat → Addr, Errs al W ∧ Laid (fun k => al (k - 1)) W ∧ ∀ i k, k < i → i < 13 → al k ≠ al i := by
  obtain ⟨h1, h2⟩ := laidMetH_iff.1 h
  rw [handles_are] at h2
  have hE := et_of h2
  have hS : laidMet Tryz.prog sents W := by have := h1.filter isSent; rw [plains_sents] at this; exact this
  have hw := h1.filter (isOne "ratemill/mill.words")
  rw [plains_words] at hw
  have hg := h1.filter (isOne "ratemill/mill.signs")
  rw [plains_signs] at hg
  have ht := h1.filter (isOne "ratemill/mill.typeWords")
  rw [plains_types] at ht
  have ho := h1.filter (isOne "ratemill/mill.operators")
  rw [plains_ops] at ho
  have hl : 23 ≤ W.heap.size := by
    have := lt_of_last plains_last (g := 23 - 1) (by kernel_rfl) (h1.filter (isOne "math/bits.deBruijn64tab"))
    omega
  have qw := strs_of_laid Mil.words (g := 14) (t := 214) (by kernel_rfl) (by kernel_rfl) Tryz.underlying214 Tryz.underlying9 cellsStr (by kernel_rfl) rfl (by decide) hw
  have qg := strs_of_laid Mil.signs (g := 15) (t := 217) (by kernel_rfl) (by kernel_rfl) Tryz.underlying217 Tryz.underlying9 cellsStr (by kernel_rfl) rfl (by decide) hg
  have qt := strs_of_laid [Mil.wInt, Mil.wBool] (g := 16) (t := 221) (by kernel_rfl) (by kernel_rfl) Tryz.underlying221 Tryz.underlying9 cellsStr (by kernel_rfl) rfl (by decide) ht
  have qo := quads_of_laid opsTab (g := 17) (t := 224) (by kernel_rfl) (by kernel_rfl) Tryz.underlying224 Tryz.underlying199 rfl rfl rfl rfl Tryz.underlying9 Tryz.underlying3 Tryz.underlying3 Tryz.underlying3 cellsStr (by kernel_rfl) (by kernel_rfl) (by kernel_rfl) (by kernel_rfl) (by kernel_rfl) rfl (by decide) ho
  obtain ⟨ps, hv, hnd, hrows⟩ := hS
  obtain ⟨xs, hold, _⟩ := errs_of_laid Tryz.underlying45 rowE Tryz.underlying250 Tryz.underlying252 rfl rfl Tryz.underlying9 cellsES cellsStr sents nums ps fit hv hnd hrows
  have hlen : xs.length = 15 := hold_len xs nums hold
  have at_ : ∀ i, i < 15 → W.cell? ⟨nums.getD i 0, 0, none⟩ = some (errV (xs.getD i ⟨0, 0, none⟩)) := fun i hi => (hold_at ⟨0, 0, none⟩ xs nums hold i (by omega)).1
  refine ⟨fun i => if i = 19 then xs.getD 0 ⟨0, 0, none⟩ else xs.getD (i + 2) ⟨0, 0, none⟩, ?_, ?_, ?_⟩
  · exact ⟨hl, at_ 2 (by decide), at_ 3 (by decide), at_ 4 (by decide), at_ 5 (by decide), at_ 6 (by decide), at_ 7 (by decide), at_ 8 (by decide), at_ 9 (by decide), at_ 10 (by decide), at_ 11 (by decide), at_ 12 (by decide), at_ 13 (by decide), at_ 14 (by decide),
      fun i hi => by
        show ∃ c t, W.heap[(if i = 19 then xs.getD 0 ⟨0, 0, none⟩ else xs.getD (i + 2) ⟨0, 0, none⟩ : Addr).block]? = some (.cells c t (0, 0))
        rw [if_neg (by omega)]
        exact (hold_at ⟨0, 0, none⟩ xs nums hold (i + 2) (by omega)).2, hE⟩
  · exact ⟨hl, at_ 2 (by decide), at_ 3 (by decide), at_ 4 (by decide), at_ 5 (by decide), qw, qg, qt, qo, at_ 0 (by decide)⟩
  · intro i k hk hi
    show (if k = 19 then xs.getD 0 ⟨0, 0, none⟩ else xs.getD (k + 2) ⟨0, 0, none⟩ : Addr) ≠ if i = 19 then xs.getD 0 ⟨0, 0, none⟩ else xs.getD (i + 2) ⟨0, 0, none⟩
    rw [if_neg (by omega), if_neg (by omega)]
    exact hold_ne ⟨0, 0, none⟩ xs nums hold (i + 2) (k + 2) (by omega) (by omega)

end Go.Proofs.YtibbjohkiigffaaGreatDoor
