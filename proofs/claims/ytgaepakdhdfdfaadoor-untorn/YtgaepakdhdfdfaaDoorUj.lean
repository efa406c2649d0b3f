/-
  The script opened; the errors, laid.
-/
import Derived.Test.YtgaepakdhdfdfaaDoorRows
import Derived.Test.YtgaepakdhdfdfaaDoorUz
import Derived.Test.YtgaepakdhdfdfaaDoorUi
import Derived.Deep.Slices
import Derived.SizedLaws
import Derived.ProofKit
import Derived.ChangeBears2
import Derived.LaidMore
import Derived.OpenShut
import Derived.Stop.Joined
namespace Go.Proofs.YtgaepakdhdfdfaaDoor
open Go.ChangeShapes Go.WideShapes Go.ChangeAt Go.RowKit Go.Deep

theorem cellsOp : Tryd.prog.cellsOf 43 = 7 := by kernel_rfl
theorem bytesOp : 33 ≤ Tryd.prog.bytesOf 43 := by
  have h : decide (33 ≤ Tryd.prog.bytesOf 43) = true := by kernel_rfl
  exact of_decide_eq_true h
theorem cellsI : Tryd.prog.cellsOf 3 = 1 := by kernel_rfl
theorem cellsS : Tryd.prog.cellsOf 9 = 1 := by kernel_rfl
theorem cellsU : Tryd.prog.cellsOf 34 = 1 := by kernel_rfl

set_option maxHeartbeats 2000000 in
/-- The script, opened. -/
theorem open_script {H : Type} {enc : TypeId × Value → H} {W : World} {fuel : Nat} {cs : List Value} {x : DataW H × List MemPlace} (h : DataW.trod enc Tryd.prog W 0 (fun _ => true) true fuel 22 cs = some x) (hw : ∀ elems spare, x.1 = .slice elems spare → (elems.length + spare.length) * Tryd.prog.bytesOf 43 ≤ reachBytes) :
    ∃ p n c, cs = [.slice p n c] ∧ n ≤ 4398046511103 ∧ Sc W p n := by
  rcases open_slice Tryd.underlying22 h with ⟨rfl, _⟩ | ⟨a, len, cap, m, n, D, P, rfl, _, hl, _, hm, hx1, hx⟩
  · exact ⟨none, 0, 0, rfl, by decide, fun j hj => by omega⟩
  · have hm' : m = cap := by simpa using hm
    have hlen : len ≤ 4398046511103 := by
      have h1 := hw _ _ (congrArg Prod.fst hx1)
      simp only [List.length_map, List.length_range] at h1
      have h2 : reachBytes = 140737488351232 := by decide
      rw [h2] at h1
      have h3 := Nat.mul_le_mul_left (len + (m - len)) bytesOp
      omega
    refine ⟨some a, len, cap, rfl, hlen, fun j hj => ?_⟩
    obtain ⟨b, off, spot⟩ := a
    have hspot : spot = none := by
      obtain ⟨z, hz⟩ : ∃ z : Nat, z = 0 := ⟨0, rfl⟩
      obtain ⟨cs', h1, _⟩ := hx z (by omega)
      rw [cellsOp] at h1
      subst hz
      obtain ⟨_, hlen, hcell⟩ := World.cells?_some h1
      have g0 := hcell 0 (by decide)
      obtain ⟨c0, hc0⟩ : ∃ c0, cs'[0]? = some c0 := ⟨_, List.getElem?_eq_getElem (by omega)⟩
      rw [hc0] at g0
      simpa [Addr.add] using World.cell?_spot g0
    subst hspot
    obtain ⟨cs', h1, h2⟩ := hx j (by omega)
    rw [cellsOp] at h1
    clear hx hw hx1
    obtain ⟨_, hlen, hcell⟩ := World.cells?_some h1
    obtain ⟨xs, k, _, _, _, hxl, hf⟩ := DataW.trod_struct Tryd.underlying43 h2
    have hxl' : xs.length = 7 := hxl
    have ad : ∀ i, ((⟨b, off, none⟩ : Addr).add (j * 7)).add i = ⟨b, off + j * 7 + i, none⟩ := fun i => by rw [addr_add, addr_add]
    obtain ⟨L, hL⟩ : ∃ L, cs'[5]? = some L := ⟨_, List.getElem?_eq_getElem (by omega)⟩
    have q5 := (hcell 5 (by decide)).trans hL
    rw [ad] at q5
    obtain ⟨y0, hy0⟩ : ∃ y, xs[0]? = some y := ⟨_, List.getElem?_eq_getElem (by omega)⟩
    have g0 := hf 0 _ rfl
    rw [hy0] at g0
    obtain ⟨z0, e0, _, wf0⟩ := DataW.trod_int Tryd.underlying3 g0
    have q0 : W.cell? ⟨b, off + j * 7 + 0, none⟩ = some (.int .i64 z0) := by
      have h := hcell 0 (by decide)
      rw [ad] at h
      refine h.trans ?_
      have := congrArg (·[0]?) e0
      simpa [List.getElem?_take, List.getElem?_drop, cellsI] using this
    obtain ⟨y1, hy1⟩ : ∃ y, xs[1]? = some y := ⟨_, List.getElem?_eq_getElem (by omega)⟩
    have g1 := hf 1 _ rfl
    rw [hy1] at g1
    obtain ⟨z1, e1, _, wf1⟩ := DataW.trod_int Tryd.underlying3 g1
    have q1 : W.cell? ⟨b, off + j * 7 + 1, none⟩ = some (.int .i64 z1) := by
      have h := hcell 1 (by decide)
      rw [ad] at h
      refine h.trans ?_
      have := congrArg (·[0]?) e1
      simpa [List.getElem?_take, List.getElem?_drop, cellsI] using this
    obtain ⟨y2, hy2⟩ : ∃ y, xs[2]? = some y := ⟨_, List.getElem?_eq_getElem (by omega)⟩
    have g2 := hf 2 _ rfl
    rw [hy2] at g2
    obtain ⟨z2, e2, _, wf2⟩ := DataW.trod_int Tryd.underlying3 g2
    have q2 : W.cell? ⟨b, off + j * 7 + 2, none⟩ = some (.int .i64 z2) := by
      have h := hcell 2 (by decide)
      rw [ad] at h
      refine h.trans ?_
      have := congrArg (·[0]?) e2
      simpa [List.getElem?_take, List.getElem?_drop, cellsI] using this
    obtain ⟨y3, hy3⟩ : ∃ y, xs[3]? = some y := ⟨_, List.getElem?_eq_getElem (by omega)⟩
    have g3 := hf 3 _ rfl
    rw [hy3] at g3
    obtain ⟨z3, e3, _, wf3⟩ := DataW.trod_int Tryd.underlying3 g3
    have q3 : W.cell? ⟨b, off + j * 7 + 3, none⟩ = some (.int .i64 z3) := by
      have h := hcell 3 (by decide)
      rw [ad] at h
      refine h.trans ?_
      have := congrArg (·[0]?) e3
      simpa [List.getElem?_take, List.getElem?_drop, cellsI] using this
    obtain ⟨y4, hy4⟩ : ∃ y, xs[4]? = some y := ⟨_, List.getElem?_eq_getElem (by omega)⟩
    have g4 := hf 4 _ rfl
    rw [hy4] at g4
    obtain ⟨z4, e4, _, _⟩ := DataW.trod_string Tryd.underlying9 g4
    have q4 : W.cell? ⟨b, off + j * 7 + 4, none⟩ = some (.string z4) := by
      have h := hcell 4 (by decide)
      rw [ad] at h
      refine h.trans ?_
      have := congrArg (·[0]?) e4
      simpa [List.getElem?_take, List.getElem?_drop, cellsS] using this
    obtain ⟨y6, hy6⟩ : ∃ y, xs[6]? = some y := ⟨_, List.getElem?_eq_getElem (by omega)⟩
    have g6 := hf 6 _ rfl
    rw [hy6] at g6
    have g6' : ∃ (o : Option Addr) (l c : Nat), l ≤ 9223372036854775807 ∧ (cs'.drop 6).take 1 = [.slice o l c] := by
      rcases DataW.trod_slice Tryd.underlying34 g6 with ⟨e, _⟩ | ⟨a, len, cap, _, _, _, _, e, _, _, hl, hm, _⟩
      · exact ⟨none, 0, 0, by decide, by simpa [cellsU] using e⟩
      · exact ⟨some a, len, cap, by unfold maxLen at hm; omega, by simpa [cellsU] using e⟩
    obtain ⟨o6, l6, c6, hl6, e6⟩ := g6'
    have q6 : W.cell? ⟨b, off + j * 7 + 6, none⟩ = some (.slice o6 l6 c6) := by
      have h := hcell 6 (by decide)
      rw [ad] at h
      refine h.trans ?_
      have := congrArg (·[0]?) e6
      simpa [List.getElem?_take, List.getElem?_drop, cellsU] using this
    have wf := wf1
    simp [Lit.wf] at wf
    have mi : IntKind.i64.min = -9223372036854775808 := by decide
    have ma : IntKind.i64.max = 9223372036854775807 := by decide
    have hwf : -9223372036854775808 ≤ z1 ∧ z1 ≤ 9223372036854775807 := by omega
    exact ⟨b, off, z0, z1, z2, z3, z4, L, o6, l6, c6, rfl, hwf.1, hwf.2, hl6, q0, q1, q2, q3, q4, q5, q6⟩

theorem starE : "*" ++ "errors.errorString" = "*errors.errorString" := by decide
theorem rowE (u : TypeId) (h : Tryd.prog.typeName? 3 u = some "*errors.errorString") : u = 108 :=
  typeName_ptr_named (nm := "errors.errorString") (by rw [starE]; kernel_rfl) (by kernel_rfl) (by decide) u (by rw [starE]; exact h)
theorem cellsES : Tryd.prog.cellsOf 134 = 1 := by kernel_rfl
abbrev nums : List Nat := [0, 1, 2, 3]
def sents : List (String × DataW Unit) := [("ratemill/reg.ErrKind", Rows.laid_ratemill_reg_ErrKind), ("ratemill/reg.ErrWidth", Rows.laid_ratemill_reg_ErrWidth), ("ratemill/reg.ErrBusy", Rows.laid_ratemill_reg_ErrBusy), ("ratemill/reg.ErrIdle", Rows.laid_ratemill_reg_ErrIdle)]
def isErr (x : String × DataW Unit) : Bool := x.1 == "ratemill/reg.ErrKind" || x.1 == "ratemill/reg.ErrWidth" || x.1 == "ratemill/reg.ErrBusy" || x.1 == "ratemill/reg.ErrIdle"
def isOne (n : String) (x : String × DataW Unit) : Bool := x.1 == n
theorem fit : FitErrs Tryd.prog 48 "*errors.errorString" sents nums :=
  ⟨⟨_, rfl⟩, by kernel_rfl, by kernel_rfl, ⟨_, rfl⟩, by kernel_rfl, by kernel_rfl, ⟨_, rfl⟩, by kernel_rfl, by kernel_rfl, ⟨_, rfl⟩, by kernel_rfl, by kernel_rfl, trivial⟩
theorem lt_of_last {W : World} {n : String} {g : Nat} {l : List (String × DataW Unit)} (hl : l.map (·.1) = [n]) (hg : Tryd.prog.globalNamed n = some g) (h : laidMet Tryd.prog l W) : g < W.heap.size := by
  match l, hl with
  | [x], hl =>
    obtain ⟨ps, ⟨g', t', cs, fuel, p, q, hg', ht', hvar, _⟩, _⟩ := h
    have e : x.1 = n := by simpa using hl
    rw [e] at hg' hvar
    obtain rfl := Option.some.inj (hg.symm.trans hg')
    unfold World.var? at hvar
    rw [hg, Option.bind_some] at hvar
    rcases Nat.lt_or_ge g W.heap.size with h' | h'
    · exact h'
    · rw [Array.getElem?_eq_none h'] at hvar
      cases hvar

theorem rg_of {W : World} {l : List (String × DataW Unit)} (h : laidMetH Tryd.prog l W) (hs : (l.filter fun x => x.2.handleName?.isNone).filter isErr = sents) (hl : ((l.filter fun x => x.2.handleName?.isNone).filter (isOne "ratemill/reg.ErrIdle")).map (·.1) = ["ratemill/reg.ErrIdle"]) : ∃ a : Nat → Addr, Rg a W.heap.size W := by
  obtain ⟨h1, _⟩ := laidMetH_iff.1 h
  have hS : laidMet Tryd.prog sents W := by have := h1.filter isErr; rw [hs] at this; exact this
  have hH : 4 ≤ W.heap.size := by
    have := lt_of_last hl (g := 4 - 1) (by kernel_rfl) (h1.filter (isOne "ratemill/reg.ErrIdle"))
    omega
  obtain ⟨ps, hv, hnd, hrows⟩ := hS
  obtain ⟨xs, hold, _⟩ := errs_of_laid Tryd.underlying48 rowE Tryd.underlying108 Tryd.underlying134 rfl rfl Tryd.underlying9 cellsES cellsS sents nums ps fit hv hnd hrows
  have hlen : xs.length = 4 := hold_len xs nums hold
  have at_ : ∀ i, i < 4 → W.cell? ⟨nums.getD i 0, 0, none⟩ = some (errV (xs.getD i ⟨0, 0, none⟩)) := fun i hi => (hold_at ⟨0, 0, none⟩ xs nums hold i (by omega)).1
  refine ⟨fun i => xs.getD (i - 1) ⟨0, 0, none⟩, hH, Nat.le_refl _, at_ 0 (by decide), at_ 1 (by decide), at_ 2 (by decide), at_ 3 (by decide), fun i k h1 h2 h3 => hold_ne ⟨0, 0, none⟩ xs nums hold (i - 1) (k - 1) (by omega) (by omega), fun i h1 h4 => ?_⟩
  obtain ⟨c, t, e⟩ := (hold_at ⟨0, 0, none⟩ xs nums hold (i - 1) (by omega)).2
  exact ⟨(Array.getElem?_eq_some_iff.1 e).1, c, t, e⟩

end Go.Proofs.YtgaepakdhdfdfaaDoor
