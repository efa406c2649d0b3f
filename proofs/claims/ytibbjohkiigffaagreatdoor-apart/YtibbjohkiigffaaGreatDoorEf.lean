/-
  The row, proved.
-/
import Derived.Test.YtibbjohkiigffaaGreatDoorRows
import Derived.Test.YtibbjohkiigffaaGreatDoorEe
import Derived.Deep.Slices
import Derived.ProofKit
import Derived.ChangeBears2
import Derived.LaidMore
import Derived.OpenShut
import Derived.Stop.Joined
namespace Go.Proofs.YtibbjohkiigffaaGreatDoor
open Go.ChangeShapes Go.WideShapes Go.ChangeAt Go.RowKit Go.Deep

theorem ownKnobs : ownKnob Tryz.prog.godebug = none := by kernel_rfl
theorem laidOuts : laidOutB Tryz.prog = true := by kernel_rfl
theorem cellsOp : Tryz.prog.cellsOf 33 = 7 := by kernel_rfl

/-- The script, opened: no list, or a row of steps, each with a text. -/
theorem open_script {H : Type} {enc : TypeId × Value → H} {W : World} {fuel : Nat} {cs : List Value} {x : DataW H × List MemPlace} (h : DataW.trod enc Tryz.prog W 0 (fun _ => true) true fuel 22 cs = some x) :
    (∃ o c, cs = [.slice o 0 c]) ∨ ∃ b off n c, cs = [.slice (some ⟨b, off, none⟩) n c] ∧ ∀ j, j < n → ∃ s, W.cell? ⟨b, off + j * 7 + 4, none⟩ = some (.string s) := by
  rcases open_slice Tryz.underlying22 h with ⟨rfl, _⟩ | ⟨a, len, cap, m, n, D, P, rfl, _, hl, _, hm, _, hx⟩
  · exact Or.inl ⟨_, _, rfl⟩
  · have hm' : m = cap := by simpa using hm
    have each : ∀ j, j < len → ∃ s, W.cell? (a.add (j * 7 + 4)) = some (.string s) := by
      intro j hj
      obtain ⟨cs', h1, h2⟩ := hx j (by omega)
      rw [cellsOp] at h1
      obtain ⟨_, hlen, hcell⟩ := World.cells?_some h1
      obtain ⟨xs, k, _, _, _, hxl, hf⟩ := DataW.trod_struct Tryz.underlying33 h2
      have h4 := hcell 4 (by decide)
      rw [add_add] at h4
      have g4 := hf 4 _ rfl
      have hxl' : xs.length = 7 := hxl
      obtain ⟨y, hy⟩ : ∃ y, xs[4]? = some y := ⟨_, List.getElem?_eq_getElem (by omega)⟩
      rw [hy] at g4
      obtain ⟨s, e1, _, _⟩ := DataW.trod_string Tryz.underlying9 g4
      refine ⟨s, h4.trans ?_⟩
      have := congrArg (·[0]?) e1
      have ec : Tryz.prog.cellsOf 9 = 1 := by kernel_rfl
      simpa [List.getElem?_take, List.getElem?_drop, ec] using this
    by_cases h0 : len = 0
    · subst h0
      exact Or.inl ⟨_, _, rfl⟩
    · right
      obtain ⟨b, off, spot⟩ := a
      refine ⟨b, off, len, cap, ?_, fun j hj => ?_⟩
      · obtain ⟨z, hz⟩ : ∃ z : Nat, z = 0 := ⟨0, rfl⟩
        obtain ⟨cs', h1, h2⟩ := hx z (by omega)
        rw [cellsOp] at h1
        clear hx h2 each
        subst hz
        obtain ⟨_, hlen, hcell⟩ := World.cells?_some h1
        have g0 := hcell 0 (by decide)
        obtain ⟨c0, hc0⟩ : ∃ c0, cs'[0]? = some c0 := ⟨_, List.getElem?_eq_getElem (by omega)⟩
        rw [hc0] at g0
        have hspot : spot = none := by simpa [Addr.add] using World.cell?_spot g0
        rw [hspot]
      · obtain ⟨s, hs⟩ := each j hj
        have e : (⟨b, off + j * 7 + 4, none⟩ : Addr) = (⟨b, off, spot⟩ : Addr).add (j * 7 + 4) := by
          have h7 : ¬ j * 7 + 4 = 0 := by omega
          unfold Addr.add
          rw [if_neg h7, Nat.add_assoc]
        exact ⟨s, (congrArg W.cell? e).trans hs⟩

/-- What the walk of the law gives. -/
def Law : Prop := ∀ (al : Nat → Addr) (w : World), Laid (fun k => al (k - 1)) w → Errs al w → (∀ i k, k < i → i < 13 → al k ≠ al i) →
  (∀ (o : Option Addr) (c : Nat), Calls Tryz.prog 3 #[.slice o 0 c] w fun e w' => e = .returned (.bool true) ∧ Below w.heap.size w w') ∧
  ∀ (b off n c : Nat), (∀ j, j < n → ∃ s, w.cell? ⟨b, off + j * 7 + 4, none⟩ = some (.string s)) → Calls Tryz.prog 3 #[.slice (some ⟨b, off, none⟩) n c] w fun e w' => e = .returned (.bool true) ∧ Below w.heap.size w w'
theorem law_any (LW : Law) (al : Nat → Addr) (w : World) (h1 : Laid (fun k => al (k - 1)) w) (h2 : Errs al w) (h3 : ∀ i k, k < i → i < 13 → al k ≠ al i) {H : Type} {enc : TypeId × Value → H} {v : Value} {d : DataW H} {p : List MemPlace} (h0 : DataW.Trod enc Tryz.prog w 0 (fun _ => true) true 22 v d p) (hv : ∃ o n c, v = .slice o n c) :
    Calls Tryz.prog 3 #[v] w fun e w' => e = .returned (.bool true) ∧ Below w.heap.size w w' := by
  obtain ⟨o, n, c, rfl⟩ := hv
  obtain ⟨fuel, hf⟩ := h0
  rcases open_script hf with ⟨o', c', e⟩ | ⟨b, off, n', c', e, hc⟩
  · have e' : (Value.slice o n c) = .slice o' 0 c' := by simpa [Value.cells] using e
    rw [e']
    exact (LW al w h1 h2 h3).1 o' c'
  · have e' : (Value.slice o n c) = .slice (some ⟨b, off, none⟩) n' c' := by simpa [Value.cells] using e
    rw [e']
    exact (LW al w h1 h2 h3).2 b off n' c' hc

/-- The door's own heap meets the condition. -/
theorem door_met (os : Os) (args : Array Value) : laidMetH Tryz.prog Rows.apartRow.laid ((World.doorLaid Tryz.prog 4000 os).forCall (fun _ _ => 0) ⟨#[], args, []⟩).memory :=
  laidMetH_of_parts3 (fuel := 8) (laidMet_of_run' 8 (by kernel_rfl) (by kernel_rfl)) (by kernel_rfl) (by kernel_rfl)

set_option maxRecDepth 100000 in
theorem lifted (LW : Law) (os : Os) (started : os.Started) (H : Type) (enc : TypeId × Value → H) :
    ReturnsInHanded {} Tryz.checked os 3 .any (fun w args => (Rows.apartSpec.pre enc Tryz.prog Tryz.f3 [] false w args ∧ laidMetH Tryz.prog Rows.apartRow.laid w) ∧ sizedMet enc Tryz.prog Tryz.f3 (OpenSpec.ofChange Rows.apartSpec) false w args)
      (Rows.apartSpec.post enc Tryz.prog Tryz.f3 false true false false) := by
  refine returnsInHanded_of_change_and (C := Tryz.checked) (X := fun w _ => laidMetH Tryz.prog Rows.apartRow.laid w) (fun _ _ _ hh h => h.of_heap hh) ownKnobs started (by kernel_rfl) Tryz.func3
    (ChangeSpec.witness_shaped (enc := enc) (C := Tryz.checked) (os := os) (X := fun w _ => laidMetH Tryz.prog Rows.apartRow.laid w) false (World.doorLaid Tryz.prog 4000 os) #[.slice none 0 0] 8 rfl (World.shaped_of_RefB (by kernel_rfl) (by kernel_rfl)) (by kernel_rfl) (by kernel_rfl) (by kernel_rfl) (door_met os _)) ?_
  intro W base args ds gs before hval0 hW _ _ hL _
  have hval : ∀ (j : Nat) t v, Tryz.f3.params[j]? = some t → args[j]? = some v → Value.okWide Tryz.prog W .any base t v := hval0
  have hW' := hW
  obtain ⟨p, q, hA0, hV, rfl, hfz, hnd⟩ := hW
  have hA : DataW.TrodAll enc Tryz.prog W 0 (fun _ => true) true Tryz.f3.params.toList args.toList ds p := hA0
  rw [Tryz.params3] at hA hval
  obtain ⟨v0, d0, hargs, rfl, h0⟩ := trodAll_one hA
  obtain ⟨rfl, rfl⟩ := trodVars_none hV
  obtain ⟨al, hE, hP, hD⟩ := of_laid hL
  have hargs' : args = #[v0] := by
    cases args with | mk l => simp at hargs; rw [hargs]
  subst hargs'
  have hsl := okWide_slice Tryz.underlying22 (hval 0 22 v0 rfl rfl)
  have hlt : ∀ x ∈ p, x.block < W.heap.size := fun x hx => by simpa using hW'.lt x (List.mem_append_left _ hx)
  refine (law_any LW al W hP hE hD h0 hsl).mono fun e W' ⟨he, hb⟩ => ?_
  subst he
  refine ⟨_, rfl, _, _, _, [], p, [], hW', ?_, ?_, ?_, hb.frame _, fun h => by cases h⟩
  · exact trodAll_mk1 (shut_bool Tryz.underlying4 true)
  · exact trodAll_mk1 (Below.trod laidOuts (by kernel_rfl) (of_decide_eq_true (by kernel_rfl)) h0 hb hlt)
  · rfl

theorem apart_of (LW : Law) : Rows.ApartSaid :=
  OpenClaim.holds_of_wide 3 Tryz.f3 rfl rfl rfl rfl rfl rfl rfl ⟨rfl, rfl, rfl, rfl, rfl⟩ rfl rfl rfl rfl rfl (by kernel_rfl) Tryz.func3 (by kernel_rfl)
    (of_decide_eq_true (by kernel_rfl)) (by unfold Func.isWrapper; first | (rw [if_pos (by decide +kernel)]; kernel_rfl) | (rw [if_neg (by decide +kernel)]; exact ⟨rfl, rfl⟩))
    (fun os started H enc _ => lifted LW os started H enc)
end Go.Proofs.YtibbjohkiigffaaGreatDoor
