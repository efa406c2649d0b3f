/-
  The rows, by what package reg must do.
-/
import Derived.Test.YtgaepakdhdfdfaaDoorUj
namespace Go.Proofs.YtgaepakdhdfdfaaDoor
open Go.ChangeShapes Go.WideShapes Go.ChangeAt Go.RowKit Go.Deep

theorem ownKnobs : ownKnob Tryd.prog.godebug = none := by kernel_rfl
theorem laidOuts : laidOutB Tryd.prog = true := by kernel_rfl

theorem untorn_sents : (Rows.untornRow.laid.filter fun x => x.2.handleName?.isNone).filter isErr = sents := by kernel_rfl
theorem untorn_last : ((Rows.untornRow.laid.filter fun x => x.2.handleName?.isNone).filter (isOne "ratemill/reg.ErrIdle")).map (·.1) = ["ratemill/reg.ErrIdle"] := by kernel_rfl
theorem untorn_met (os : Os) (args : Array Value) : laidMetH Tryd.prog Rows.untornRow.laid ((World.doorLaid Tryd.prog 4000 os).forCall (fun _ _ => 0) ⟨#[], args, []⟩).memory :=
  laidMetH_of_parts3 (fuel := 8) (laidMet_of_run' 8 (by kernel_rfl) (by kernel_rfl)) (by kernel_rfl) (by kernel_rfl)

set_option maxRecDepth 100000 in
theorem untorn_lifted (SA : ∀ a : Nat → Addr, ∃ J : RJ, ∀ B, Spec J a B) (os : Os) (started : os.Started) (H : Type) (enc : TypeId × Value → H) :
    ReturnsInHanded {} Tryd.checked os 3 .any (fun w args => (Rows.untornSpec.pre enc Tryd.prog Tryd.f3 [] false w args ∧ laidMetH Tryd.prog Rows.untornRow.laid w) ∧ sizedMet enc Tryd.prog Tryd.f3 (OpenSpec.ofChange Rows.untornSpec) false w args)
      (Rows.untornSpec.post enc Tryd.prog Tryd.f3 false true false false) := by
  refine returnsInHanded_of_change_and (C := Tryd.checked) (X := fun w _ => laidMetH Tryd.prog Rows.untornRow.laid w) (fun _ _ _ hh h => h.of_heap hh) ownKnobs started (by kernel_rfl) Tryd.func3
    (ChangeSpec.witness_shaped (enc := enc) (C := Tryd.checked) (os := os) (X := fun w _ => laidMetH Tryd.prog Rows.untornRow.laid w) false (World.doorLaid Tryd.prog 4000 os) #[.slice none 0 0] 8 rfl (World.shaped_of_RefB (by kernel_rfl) (by kernel_rfl)) (by kernel_rfl) (by kernel_rfl) (by kernel_rfl) (untorn_met os _)) ?_
  intro W base args ds gs before hval0 hW _ hZ0 hL _
  have hZ : (DataW.weightsEach Tryd.prog (Tryd.f3.params.toList ++ Rows.untornSpec.plain.varTypes Tryd.prog) (ds ++ gs)).all (· ≤ reachBytes) = true := hZ0
  have hval : ∀ (j : Nat) t v, Tryd.f3.params[j]? = some t → args[j]? = some v → Value.okWide Tryd.prog W .any base t v := hval0
  have hW' := hW
  obtain ⟨p, q, hA0, hV, rfl, hfz, hnd⟩ := hW
  have hA : DataW.TrodAll enc Tryd.prog W 0 (fun _ => true) true Tryd.f3.params.toList args.toList ds p := hA0
  rw [Tryd.params3] at hA hval hZ
  obtain ⟨v0, d0, hargs, rfl, h0⟩ := trodAll_one hA
  obtain ⟨rfl, rfl⟩ := trodVars_none hV
  obtain ⟨a, hR⟩ := rg_of hL untorn_sents untorn_last
  obtain ⟨J, hS⟩ := SA a
  have hargs' : args = #[v0] := by
    cases args with | mk l => simp at hargs; rw [hargs]
  subst hargs'
  obtain ⟨o, n, c, rfl⟩ := okWide_slice Tryd.underlying22 (hval 0 22 v0 rfl rfl)
  have hlt : ∀ x ∈ p, x.block < W.heap.size := fun x hx => by simpa using hW'.lt x (List.mem_append_left _ hx)
  obtain ⟨fuel, hf⟩ := h0
  obtain ⟨o', n', c', e, hn, hc⟩ := open_script hf (fun elems spare e => sized_slice hZ (j := 0) (t := 22) rfl (by simpa using e) Tryd.underlying22)
  have e' : (Value.slice o n c) = .slice o' n' c' := by simpa [Value.cells] using e
  rw [e']
  rw [e'] at hW' hf
  refine (untorn_any hS W hR o' n' c' hn hc).mono fun e W' ⟨he, hb⟩ => ?_
  subst he
  refine ⟨_, rfl, _, _, _, [], p, [], hW', ?_, ?_, ?_, hb.frame _, fun h => by cases h⟩
  · exact trodAll_mk1 (shut_bool Tryd.underlying4 true)
  · exact trodAll_mk1 (Below.trod laidOuts (by kernel_rfl) (of_decide_eq_true (by kernel_rfl)) ⟨fuel, hf⟩ hb hlt)
  · rfl

theorem untorn_holds (SA : ∀ a : Nat → Addr, ∃ J : RJ, ∀ B, Spec J a B) : Rows.UntornSaid :=
  OpenClaim.holds_of_wide 3 Tryd.f3 rfl rfl rfl rfl rfl rfl rfl ⟨rfl, rfl, rfl, rfl, rfl⟩ rfl rfl rfl rfl rfl (by kernel_rfl) Tryd.func3 (by kernel_rfl)
    (of_decide_eq_true (by kernel_rfl)) (by unfold Func.isWrapper; first | (rw [if_pos (by decide +kernel)]; kernel_rfl) | (rw [if_neg (by decide +kernel)]; exact ⟨rfl, rfl⟩))
    (fun os started H enc _ => untorn_lifted SA os started H enc)

theorem fresh_sents : (Rows.freshRow.laid.filter fun x => x.2.handleName?.isNone).filter isErr = sents := by kernel_rfl
theorem fresh_last : ((Rows.freshRow.laid.filter fun x => x.2.handleName?.isNone).filter (isOne "ratemill/reg.ErrIdle")).map (·.1) = ["ratemill/reg.ErrIdle"] := by kernel_rfl
theorem fresh_met (os : Os) (args : Array Value) : laidMetH Tryd.prog Rows.freshRow.laid ((World.doorLaid Tryd.prog 4000 os).forCall (fun _ _ => 0) ⟨#[], args, []⟩).memory :=
  laidMetH_of_parts3 (fuel := 8) (laidMet_of_run' 8 (by kernel_rfl) (by kernel_rfl)) (by kernel_rfl) (by kernel_rfl)

set_option maxRecDepth 100000 in
theorem fresh_lifted (SA : ∀ a : Nat → Addr, ∃ J : RJ, ∀ B, Spec J a B) (os : Os) (started : os.Started) (H : Type) (enc : TypeId × Value → H) :
    ReturnsInHanded {} Tryd.checked os 4 .any (fun w args => (Rows.freshSpec.pre enc Tryd.prog Tryd.f4 [] false w args ∧ laidMetH Tryd.prog Rows.freshRow.laid w) ∧ sizedMet enc Tryd.prog Tryd.f4 (OpenSpec.ofChange Rows.freshSpec) false w args)
      (Rows.freshSpec.post enc Tryd.prog Tryd.f4 false true false false) := by
  refine returnsInHanded_of_change_and (C := Tryd.checked) (X := fun w _ => laidMetH Tryd.prog Rows.freshRow.laid w) (fun _ _ _ hh h => h.of_heap hh) ownKnobs started (by kernel_rfl) Tryd.func4
    (ChangeSpec.witness_shaped (enc := enc) (C := Tryd.checked) (os := os) (X := fun w _ => laidMetH Tryd.prog Rows.freshRow.laid w) false (World.doorLaid Tryd.prog 4000 os) #[.slice none 0 0] 8 rfl (World.shaped_of_RefB (by kernel_rfl) (by kernel_rfl)) (by kernel_rfl) (by kernel_rfl) (by kernel_rfl) (fresh_met os _)) ?_
  intro W base args ds gs before hval0 hW _ hZ0 hL _
  have hZ : (DataW.weightsEach Tryd.prog (Tryd.f4.params.toList ++ Rows.freshSpec.plain.varTypes Tryd.prog) (ds ++ gs)).all (· ≤ reachBytes) = true := hZ0
  have hval : ∀ (j : Nat) t v, Tryd.f4.params[j]? = some t → args[j]? = some v → Value.okWide Tryd.prog W .any base t v := hval0
  have hW' := hW
  obtain ⟨p, q, hA0, hV, rfl, hfz, hnd⟩ := hW
  have hA : DataW.TrodAll enc Tryd.prog W 0 (fun _ => true) true Tryd.f4.params.toList args.toList ds p := hA0
  rw [Tryd.params4] at hA hval hZ
  obtain ⟨v0, d0, hargs, rfl, h0⟩ := trodAll_one hA
  obtain ⟨rfl, rfl⟩ := trodVars_none hV
  obtain ⟨a, hR⟩ := rg_of hL fresh_sents fresh_last
  obtain ⟨J, hS⟩ := SA a
  have hargs' : args = #[v0] := by
    cases args with | mk l => simp at hargs; rw [hargs]
  subst hargs'
  obtain ⟨o, n, c, rfl⟩ := okWide_slice Tryd.underlying22 (hval 0 22 v0 rfl rfl)
  have hlt : ∀ x ∈ p, x.block < W.heap.size := fun x hx => by simpa using hW'.lt x (List.mem_append_left _ hx)
  obtain ⟨fuel, hf⟩ := h0
  obtain ⟨o', n', c', e, hn, hc⟩ := open_script hf (fun elems spare e => sized_slice hZ (j := 0) (t := 22) rfl (by simpa using e) Tryd.underlying22)
  have e' : (Value.slice o n c) = .slice o' n' c' := by simpa [Value.cells] using e
  rw [e']
  rw [e'] at hW' hf
  refine (fresh_any hS W hR o' n' c' hn hc).mono fun e W' ⟨he, hb⟩ => ?_
  subst he
  refine ⟨_, rfl, _, _, _, [], p, [], hW', ?_, ?_, ?_, hb.frame _, fun h => by cases h⟩
  · exact trodAll_mk1 (shut_bool Tryd.underlying4 true)
  · exact trodAll_mk1 (Below.trod laidOuts (by kernel_rfl) (of_decide_eq_true (by kernel_rfl)) ⟨fuel, hf⟩ hb hlt)
  · rfl

theorem fresh_holds (SA : ∀ a : Nat → Addr, ∃ J : RJ, ∀ B, Spec J a B) : Rows.FreshSaid :=
  OpenClaim.holds_of_wide 4 Tryd.f4 rfl rfl rfl rfl rfl rfl rfl ⟨rfl, rfl, rfl, rfl, rfl⟩ rfl rfl rfl rfl rfl (by kernel_rfl) Tryd.func4 (by kernel_rfl)
    (of_decide_eq_true (by kernel_rfl)) (by unfold Func.isWrapper; first | (rw [if_pos (by decide +kernel)]; kernel_rfl) | (rw [if_neg (by decide +kernel)]; exact ⟨rfl, rfl⟩))
    (fun os started H enc _ => fresh_lifted SA os started H enc)

end Go.Proofs.YtgaepakdhdfdfaaDoor
