/-
  The row, proved.
-/
import Derived.Test.YtogomoocnnbjoaaDoorRows
import Derived.Test.YtogomoocnnbjoaaDoorWalks
import Derived.ProofKit
import Derived.LaidMore
import Derived.OpenShut
import Derived.Stop.Joined
namespace Go.Proofs.YtogomoocnnbjoaaDoor
open Go.ChangeShapes Go.WideShapes Go.ChangeAt Go.RowKit

theorem own : ownKnob Tryd.prog.godebug = none := by kernel_rfl
theorem name28 : Tryd.prog.typeName? 3 28 = some "*errors.errorString" := by kernel_rfl
theorem cells46 : Tryd.prog.cellsOf 46 = 1 := by kernel_rfl
theorem cells9 : Tryd.prog.cellsOf 9 = 1 := by kernel_rfl
theorem star : "*" ++ "errors.errorString" = "*errors.errorString" := by decide
theorem row28 (u : TypeId) (h : Tryd.prog.typeName? 3 u = some "*errors.errorString") : u = 28 :=
  typeName_ptr_named (nm := "errors.errorString") (by rw [star]; kernel_rfl) (by kernel_rfl) (by decide) u (by rw [star]; exact h)
theorem comp28 : (Tryd.prog.info? 28).map (·.comparable) = some true := by kernel_rfl
theorem size46 : (Tryd.prog.info? 46).map (·.size) = some 1 := by kernel_rfl

/-- The variables' numbers. -/
abbrev nums : List Nat := [0, 1, 2, 3, 4, 5, 6, 7, 8, 9, 10, 11, 12, 13, 14, 15, 16]

theorem fit : FitErrs Tryd.prog 26 "*errors.errorString" Rows.namesRow.laid nums :=
  ⟨⟨_, rfl⟩, by kernel_rfl, by kernel_rfl, ⟨_, rfl⟩, by kernel_rfl, by kernel_rfl, ⟨_, rfl⟩, by kernel_rfl, by kernel_rfl, ⟨_, rfl⟩, by kernel_rfl, by kernel_rfl, ⟨_, rfl⟩, by kernel_rfl, by kernel_rfl, ⟨_, rfl⟩, by kernel_rfl, by kernel_rfl,
   ⟨_, rfl⟩, by kernel_rfl, by kernel_rfl, ⟨_, rfl⟩, by kernel_rfl, by kernel_rfl, ⟨_, rfl⟩, by kernel_rfl, by kernel_rfl, ⟨_, rfl⟩, by kernel_rfl, by kernel_rfl, ⟨_, rfl⟩, by kernel_rfl, by kernel_rfl, ⟨_, rfl⟩, by kernel_rfl, by kernel_rfl,
   ⟨_, rfl⟩, by kernel_rfl, by kernel_rfl, ⟨_, rfl⟩, by kernel_rfl, by kernel_rfl, ⟨_, rfl⟩, by kernel_rfl, by kernel_rfl, ⟨_, rfl⟩, by kernel_rfl, by kernel_rfl, ⟨_, rfl⟩, by kernel_rfl, by kernel_rfl, trivial⟩

theorem hold_at {W : World} {tp : TypeId} (z : Addr) : ∀ (xs : List Addr) (gs : List Nat), HoldErrs W tp xs gs → ∀ i, i < xs.length →
    W.cell? ⟨gs.getD i 0, 0, none⟩ = some (.iface tp (.pointer (some (xs.getD i z)))) ∧ ∃ c t, W.heap[(xs.getD i z).block]? = some (.cells c t (0, 0))
  | [], [], _, i, hi => by simp at hi
  | [], _ :: _, h, _, _ => h.elim
  | _ :: _, [], h, _, _ => h.elim
  | a :: xs, g :: gs, h, 0, _ => ⟨h.1, h.2.1⟩
  | a :: xs, g :: gs, h, i + 1, hi => hold_at z xs gs h.2.2.2 i (by simpa using hi)

theorem hold_ne {W : World} {tp : TypeId} (z : Addr) : ∀ (xs : List Addr) (gs : List Nat), HoldErrs W tp xs gs → ∀ i k, k < i → i < xs.length → xs.getD k z ≠ xs.getD i z
  | [], [], _, i, _, _, hi => by simp at hi
  | [], _ :: _, h, _, _, _, _ => h.elim
  | _ :: _, [], h, _, _, _, _ => h.elim
  | _ :: _, _ :: _, _, 0, _, hk, _ => by omega
  | a :: xs, g :: gs, h, i + 1, 0, _, hi => by
    have hi' : i < xs.length := by simpa using hi
    intro e
    apply h.2.2.1
    have e' : a = xs.getD i z := by simpa using e
    rw [e']
    simp [hi']
  | a :: xs, g :: gs, h, i + 1, k + 1, hk, hi => by
    have := hold_ne z xs gs h.2.2.2 i k (by omega) (by simpa using hi)
    simpa using this

theorem nums_at (i : Nat) (h : i < 17) : nums.getD i 0 = i := by
  have hh : i = 0 ∨ i = 1 ∨ i = 2 ∨ i = 3 ∨ i = 4 ∨ i = 5 ∨ i = 6 ∨ i = 7 ∨ i = 8 ∨ i = 9 ∨ i = 10 ∨ i = 11 ∨ i = 12 ∨ i = 13 ∨ i = 14 ∨ i = 15 ∨ i = 16 := by omega
  rcases hh with rfl | rfl | rfl | rfl | rfl | rfl | rfl | rfl | rfl | rfl | rfl | rfl | rfl | rfl | rfl | rfl | rfl <;> rfl

/-- What the condition gives the walks. -/
theorem of_laid {W : World} (h : laidMetH Tryd.prog Rows.namesRow.laid W) :
    ∃ a : Nat → Addr, (∀ i, i < 17 → W.cell? ⟨i, 0, none⟩ = some (er a i)) ∧ ∀ w1, Below W.heap.size W w1 → Parted a w1 := by
  rw [MakeChecks.laidMetH_plain _ _ _ (by kernel_rfl)] at h
  obtain ⟨ps, hv, hnd, hrows⟩ := h
  obtain ⟨xs, hold, _⟩ := errs_of_laid Tryd.underlying26 row28 Tryd.underlying28 Tryd.underlying46 rfl rfl Tryd.underlying9 cells46 cells9 Rows.namesRow.laid nums ps fit hv hnd hrows
  have hlen : xs.length = 17 := hold_len xs nums hold
  refine ⟨fun i => xs.getD i ⟨0, 0, none⟩, fun i hi => ?_, fun w1 hb i k hk hi => ?_⟩
  · have := (hold_at ⟨0, 0, none⟩ xs nums hold i (by omega)).1
    rw [nums_at i hi] at this
    exact this
  · obtain ⟨inf, hinf, hcmp⟩ := Option.map_eq_some_iff.1 comp28
    obtain ⟨j, hj, hjs⟩ := Option.map_eq_some_iff.1 size46
    obtain ⟨c0, t0, e0⟩ := (hold_at ⟨0, 0, none⟩ xs nums hold k (by omega)).2
    obtain ⟨c1, t1, e1⟩ := (hold_at ⟨0, 0, none⟩ xs nums hold i (by omega)).2
    have lt : ∀ {b : Nat} {o : Obj}, W.heap[b]? = some o → b < W.heap.size := fun {b o} e => by
      rcases Nat.lt_or_ge b W.heap.size with h' | h'
      · exact h'
      · simp [Array.getElem?_eq_none h'] at e
    have f0 := (hb.block _ (lt e0)).trans e0
    have f1 := (hb.block _ (lt e1)).trans e1
    exact run_eql_iface_ptr_other w1 Tryd.underlying26 Tryd.underlying28 hinf hcmp hj (by rw [hjs]; decide) (hold_ne ⟨0, 0, none⟩ xs nums hold i k hk (by omega)) f0 f1

/-- The door's own heap meets the condition. -/
theorem door_met (os : Os) (args : Array Value) : laidMetH Tryd.prog Rows.namesRow.laid ((World.doorLaid Tryd.prog 400 os).forCall (fun _ _ => 0) ⟨#[], args, []⟩).memory :=
  laidMetH_of_parts3 (fuel := 8) (laidMet_of_run' 8 (by kernel_rfl) (by kernel_rfl)) (by kernel_rfl) (by kernel_rfl)

set_option maxRecDepth 100000 in
theorem lifted (os : Os) (started : os.Started) (H : Type) (enc : TypeId × Value → H) :
    ReturnsInHanded {} Tryd.checked os 3 .any (fun w args => (Rows.namesSpec.pre enc Tryd.prog Tryd.f3 [] false w args ∧ laidMetH Tryd.prog Rows.namesRow.laid w) ∧ sizedMet enc Tryd.prog Tryd.f3 (OpenSpec.ofChange Rows.namesSpec) false w args)
      (Rows.namesSpec.post enc Tryd.prog Tryd.f3 false true false false) := by
  refine returnsInHanded_of_change_and (C := Tryd.checked) (X := fun w _ => laidMetH Tryd.prog Rows.namesRow.laid w) (fun _ _ _ hh h => h.of_heap hh) own started (by kernel_rfl) Tryd.func3
    (ChangeSpec.witness_shaped (enc := enc) (C := Tryd.checked) (os := os) (X := fun w _ => laidMetH Tryd.prog Rows.namesRow.laid w) false (World.doorLaid Tryd.prog 400 os) #[] 8 rfl (World.shaped_of_RefB (by kernel_rfl) (by kernel_rfl)) (by kernel_rfl) (by kernel_rfl) (by kernel_rfl) (door_met os _)) ?_
  intro W base args ds gs before hval0 hW _ _ hL _
  have hW' := hW
  obtain ⟨p, q, hA0, hV, rfl, hfz, hnd⟩ := hW
  have hA : DataW.TrodAll enc Tryd.prog W 0 (fun _ => true) true Tryd.f3.params.toList args.toList ds p := hA0
  rw [Tryd.params3] at hA
  obtain ⟨hargs, rfl, rfl⟩ := trodAll_none hA
  obtain ⟨rfl, rfl⟩ := trodVars_none hV
  have hargs' : args = #[] := by
    cases args with | mk l => simp at hargs; rw [hargs]
  subst hargs'
  obtain ⟨a, hc, hp⟩ := of_laid hL
  clear hA0 hval0
  refine (names_any a W hc hp).mono fun e W' ⟨he, hb⟩ => ?_
  subst he
  refine ⟨_, rfl, _, _, _, [], [], [], hW', ?_, ?_, ?_, hb.frame _, fun h => by cases h⟩
  · exact trodAll_mk1 (shut_bool Tryd.underlying4 true)
  · rfl
  · rfl

theorem names_holds : Rows.NamesSaid :=
  OpenClaim.holds_of_wide 3 Tryd.f3 rfl rfl rfl rfl rfl rfl rfl ⟨rfl, rfl, rfl, rfl, rfl⟩ rfl rfl rfl rfl rfl (by kernel_rfl) Tryd.func3 (by kernel_rfl)
    (of_decide_eq_true (by kernel_rfl)) (by unfold Func.isWrapper; first | (rw [if_pos (by decide +kernel)]; kernel_rfl) | (rw [if_neg (by decide +kernel)]; exact ⟨rfl, rfl⟩))
    (fun os started H enc _ => lifted os started H enc)
#print axioms names_holds
end Go.Proofs.YtogomoocnnbjoaaDoor
