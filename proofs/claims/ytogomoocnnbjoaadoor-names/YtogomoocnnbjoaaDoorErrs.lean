/-
  Of a list of laid sentinels: the pointers that the variables hold, pairwise different, their blocks with no frozen range. Over any program.
-/
import Derived.LaidLaws
import Derived.Stop.LaidErr
namespace Go.Proofs.YtogomoocnnbjoaaDoor
open Go

/-- A list of laid variables, each of them a sentinel of one type, and the variables' numbers. -/
def FitErrs (P : Program) (ti : TypeId) (nm : String) : List (String × DataW Unit) → List Nat → Prop
  | [], [] => True
  | (n, d) :: r, g :: gs => (∃ text, d = .iface nm (.ptr (.agg [.lit (.string text)]))) ∧ P.globalNamed n = some g ∧ (P.globals[g]?).map (·.type) = some ti ∧ FitErrs P ti nm r gs
  | _, _ => False

/-- What the variables hold. -/
def HoldErrs (W : World) (tp : TypeId) : List Addr → List Nat → Prop
  | [], [] => True
  | a :: as, g :: gs => W.cell? ⟨g, 0, none⟩ = some (.iface tp (.pointer (some a))) ∧ (∃ c t, W.heap[a.block]? = some (.cells c t (0, 0))) ∧ a ∉ as ∧ HoldErrs W tp as gs
  | _, _ => False

theorem errs_of_laid {P : Program} {nm : String} {W : World} {ti tp te ts : TypeId} {ms : Array (String × TypeId)} {f : Field}
    (hi : P.underlying ti = some (.interface ms)) (hrow : ∀ u, P.typeName? 3 u = some nm → u = tp)
    (hp : P.underlying tp = some (.pointer te)) (he : P.underlying te = some (.struct #[f])) (hft : f.type = ts) (hfo : f.offset = 0) (hs : P.underlying ts = some .string) (hc : P.cellsOf te = 1) (hcs : P.cellsOf ts = 1) :
    ∀ (laid : List (String × DataW Unit)) (gs : List Nat) (ps : List MemPlace), FitErrs P ti nm laid gs → DataW.LaidVars P W laid ps → ps.Nodup →
      (∀ b off, MemPlace.cell b off ∈ ps → (∃ c t, W.heap[b]? = some (.cells c t (0, 0))) ∧ ∀ u v, W.cell? ⟨b, off, none⟩ = some (.iface u v) → Value.okWide P W .any 0 u v) →
      ∃ as : List Addr, HoldErrs W tp as gs ∧ ∀ a, a ∈ as → MemPlace.cell a.block a.off ∈ ps := by
  intro laid
  induction laid with
  | nil =>
    intro gs ps hfit _ _ _
    cases gs with
    | nil => exact ⟨[], trivial, fun a h => by cases h⟩
    | cons g r => exact hfit.elim
  | cons x r ih =>
    intro gs ps hfit hv hnd hrows
    obtain ⟨n, d⟩ := x
    cases gs with
    | nil => exact hfit.elim
    | cons g gs =>
      obtain ⟨⟨text, rfl⟩, hg, ht, hfit'⟩ := hfit
      obtain ⟨g0, t0, cs0, f0, p0, q0, hg0, ht0, hv0, hd0, hq0, e0⟩ := hv
      obtain rfl := Option.some.inj (hg.symm.trans hg0)
      obtain rfl := Option.some.inj (ht.symm.trans ht0)
      subst e0
      have hq : q0.Nodup := List.Nodup.sublist (List.sublist_append_right _ _) hnd
      obtain ⟨as, hold, hmem⟩ := ih gs q0 hfit' hq0 hq (fun b off hm => hrows b off (List.mem_append_right _ hm))
      obtain ⟨l0⟩ := cs0
      have ok0 : ∀ u v, l0 = [.iface u v] → Value.okWide P W .any 0 u v := fun u v e => by
        subst e
        exact (hrows g 0 (by simp [MemPlace.row])).2 u v (by simpa using World.var?_cell hg0 hv0 0)
      obtain ⟨a, s, rfl, hca, _, _, rfl⟩ := errorString_of_trod hi hrow hp he hft hfo hs hc hcs hd0 ok0
      have hin : MemPlace.cell a.block a.off ∈ MemPlace.row a 1 := by simp [MemPlace.row]
      refine ⟨a :: as, ⟨by simpa using World.var?_cell hg0 hv0 0, (hrows a.block a.off ?_).1, ?_, hold⟩, ?_⟩
      · exact List.mem_append_left _ (List.mem_append_right _ hin)
      · intro h
        have h2 := hmem a h
        have h3 := (List.nodup_append.1 hnd).2.2 _ (List.mem_append_right _ hin) _ h2
        exact h3 rfl
      · intro b hb
        rcases List.mem_cons.1 hb with rfl | hb
        · exact List.mem_append_left _ (List.mem_append_right _ hin)
        · exact List.mem_append_right _ (hmem b hb)

theorem hold_len {W : World} {tp : TypeId} : ∀ (as : List Addr) (gs : List Nat), HoldErrs W tp as gs → as.length = gs.length
  | [], [], _ => rfl
  | _ :: as, _ :: gs, h => by simp [hold_len as gs h.2.2.2]
  | [], _ :: _, h => h.elim
  | _ :: _, [], h => h.elim

end Go.Proofs.YtogomoocnnbjoaaDoor
