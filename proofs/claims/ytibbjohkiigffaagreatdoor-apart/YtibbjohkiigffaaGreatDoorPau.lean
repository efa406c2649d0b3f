/-
  Laz, Rgy, Qa, in one.
-/
import Derived.LaidLaws
import Derived.LaidSub
import Derived.LaidHandle
import Derived.Lib.LaidTab
import Derived.OpenShut
import Derived.Stop.LaidErr
import Derived.Deep.RegionHeld3
namespace Go.Proofs.YtibbjohkiigffaaGreatDoor
open Go

/-- A list of laid variables, each of them a sentinel of one type, and the variables' numbers. -/
def FitErrs (P : Program) (ti : TypeId) (nm : String) : List (String × DataW Unit) → List Nat → Prop
  | [], [] => True
  | (n, d) :: r, g :: gs => (∃ text, d = .iface nm (.ptr (.agg [.lit (.string text)]))) ∧ P.globalNamed n = some g ∧ (P.globals[g]?).map (·.type) = some ti ∧ FitErrs P ti nm r gs
  | _, _ => False

/-- What the variables hold. -/
def HoldErrs (W : World) (tp : TypeId) : List Addr → List Nat → Prop
  | [], [] => True
  | a :: as, g :: gs => W.cell? ⟨g, 0, none⟩ = some (.iface tp (.pointer (some a))) ∧ (∃ c t, W.heap[a.block]? = some (.cells c t (0, 0))) ∧ a ∉ as ∧ HoldErrs W tp as gs
  | _, _ => False

theorem errs_of_laid {P : Program} {nm : String} {W : World} {ti tp te ts : TypeId} {ms : Array (String × TypeId)} {f : Field}
    (hi : P.underlying ti = some (.interface ms)) (hrow : ∀ u, P.typeName? 3 u = some nm → u = tp)
    (hp : P.underlying tp = some (.pointer te)) (he : P.underlying te = some (.struct #[f])) (hft : f.type = ts) (hfo : f.offset = 0) (hs : P.underlying ts = some .string) (hc : P.cellsOf te = 1) (hcs : P.cellsOf ts = 1) :
    ∀ (laid : List (String × DataW Unit)) (gs : List Nat) (ps : List MemPlace), FitErrs P ti nm laid gs → DataW.LaidVars P W laid ps → ps.Nodup →
      (∀ b off, MemPlace.cell b off ∈ ps → (∃ c t, W.heap[b]? = some (.cells c t (0, 0))) ∧ ∀ u v, W.cell? ⟨b, off, none⟩ = some (.iface u v) → Value.okWide P W .any 0 u v) →
      ∃ as : List Addr, HoldErrs W tp as gs ∧ ∀ a, a ∈ as → MemPlace.cell a.block a.off ∈ ps := by
  intro laid
  induction laid with
  | nil =>
    intro gs ps hfit _ _ _
    cases gs with
    | nil => exact ⟨[], trivial, fun a h => by cases h⟩
    | cons g r => exact hfit.elim
  | cons x r ih =>
    intro gs ps hfit hv hnd hrows
    obtain ⟨n, d⟩ := x
    cases gs with
    | nil => exact hfit.elim
    | cons g gs =>
      obtain ⟨⟨text, rfl⟩, hg, ht, hfit'⟩ := hfit
      obtain ⟨g0, t0, cs0, f0, p0, q0, hg0, ht0, hv0, hd0, hq0, e0⟩ := hv
      obtain rfl := Option.some.inj (hg.symm.trans hg0)
      obtain rfl := Option.some.inj (ht.symm.trans ht0)
      subst e0
      have hq : q0.Nodup := List.Nodup.sublist (List.sublist_append_right _ _) hnd
      obtain ⟨as, hold, hmem⟩ := ih gs q0 hfit' hq0 hq (fun b off hm => hrows b off (List.mem_append_right _ hm))
      obtain ⟨l0⟩ := cs0
      have ok0 : ∀ u v, l0 = [.iface u v] → Value.okWide P W .any 0 u v := fun u v e => by
        subst e
        exact (hrows g 0 (by simp [MemPlace.row])).2 u v (by simpa using World.var?_cell hg0 hv0 0)
      obtain ⟨a, s, rfl, hca, _, _, rfl⟩ := errorString_of_trod hi hrow hp he hft hfo hs hc hcs hd0 ok0
      have hin : MemPlace.cell a.block a.off ∈ MemPlace.row a 1 := by simp [MemPlace.row]
      refine ⟨a :: as, ⟨by simpa using World.var?_cell hg0 hv0 0, (hrows a.block a.off ?_).1, ?_, hold⟩, ?_⟩
      · exact List.mem_append_left _ (List.mem_append_right _ hin)
      · intro h
        have h2 := hmem a h
        have h3 := (List.nodup_append.1 hnd).2.2 _ (List.mem_append_right _ hin) _ h2
        exact h3 rfl
      · intro b hb
        rcases List.mem_cons.1 hb with rfl | hb
        · exact List.mem_append_left _ (List.mem_append_right _ hin)
        · exact List.mem_append_right _ (hmem b hb)

theorem hold_len {W : World} {tp : TypeId} : ∀ (as : List Addr) (gs : List Nat), HoldErrs W tp as gs → as.length = gs.length
  | [], [], _ => rfl
  | _ :: as, _ :: gs, h => by simp [hold_len as gs h.2.2.2]
  | [], _ :: _, h => h.elim
  | _ :: _, [], h => h.elim

theorem hold_at {W : World} {tp : TypeId} (z : Addr) : ∀ (xs : List Addr) (gs : List Nat), HoldErrs W tp xs gs → ∀ i, i < xs.length →
    W.cell? ⟨gs.getD i 0, 0, none⟩ = some (.iface tp (.pointer (some (xs.getD i z)))) ∧ ∃ c t, W.heap[(xs.getD i z).block]? = some (.cells c t (0, 0))
  | [], [], _, i, hi => by simp at hi
  | [], _ :: _, h, _, _ => h.elim
  | _ :: _, [], h, _, _ => h.elim
  | a :: xs, g :: gs, h, 0, _ => ⟨h.1, h.2.1⟩
  | a :: xs, g :: gs, h, i + 1, hi => hold_at z xs gs h.2.2.2 i (by simpa using hi)

theorem hold_ne {W : World} {tp : TypeId} (z : Addr) : ∀ (xs : List Addr) (gs : List Nat), HoldErrs W tp xs gs → ∀ i k, k < i → i < xs.length → xs.getD k z ≠ xs.getD i z
  | [], [], _, i, _, _, hi => by simp at hi
  | [], _ :: _, h, _, _, _, _ => h.elim
  | _ :: _, [], h, _, _, _, _ => h.elim
  | _ :: _, _ :: _, _, 0, _, hk, _ => by omega
  | a :: xs, g :: gs, h, i + 1, 0, _, hi => by
    have hi' : i < xs.length := by simpa using hi
    intro e
    apply h.2.2.1
    have e' : a = xs.getD i z := by simpa using e
    rw [e']
    simp [hi']
  | a :: xs, g :: gs, h, i + 1, k + 1, hk, hi => by
    have := hold_ne z xs gs h.2.2.2 i k (by omega) (by simpa using hi)
    simpa using this


/-- A row of chunks of one length, joined. -/
theorem chunks {c : Nat} : ∀ (ys : List (List Value)) (cs : List Value), cs.length = ys.length * c → (∀ (i : Nat) (y : List Value), ys[i]? = some y → (cs.drop (i * c)).take c = y) → cs = ys.flatten
  | [], cs, hl, _ => by
    have : cs.length = 0 := by simpa using hl
    simp [List.length_eq_zero_iff.1 this]
  | y :: ys, cs, hl, h => by
    have h0 := h 0 y rfl
    rw [Nat.zero_mul, List.drop_zero] at h0
    have hd := chunks (c := c) ys (cs.drop c) (by rw [List.length_drop, hl, List.length_cons, Nat.succ_mul]; omega) (fun i z hz => by
      have := h (i + 1) z hz
      rw [List.drop_drop, show c + i * c = (i + 1) * c by rw [Nat.succ_mul]; omega]
      exact this)
    rw [List.flatten_cons, ← h0, ← hd, List.take_append_drop]

section
variable {H : Type} {enc : TypeId × Value → H} {P : Program} {w : World} {base : Nat} {sp : Nat → Bool} {held : Bool}
/-- An array's cells, by its elements'. -/
theorem cells_of_array {fuel : Nat} {t e : TypeId} {n c : Nat} {cs : List Value} {ds : List (DataW H)} {p : List MemPlace} (ht : P.underlying t = some (.array n e)) (hce : P.cellsOf e = c) (hct : P.cellsOf t = n * c)
    (ys : List (List Value)) (hn : ys.length = n) (hel : ∀ (i : Nat) (d : DataW H) (y : List Value) (m : Nat) (x : List Value) (q : List MemPlace), ds[i]? = some d → ys[i]? = some y → DataW.trod enc P w base sp held m e x = some (d, q) → x = y)
    (h : DataW.trod enc P w base sp held fuel t cs = some (.agg ds, p)) : cs = ys.flatten := by
  obtain ⟨xs, m, rfl, hx, hl, hxl, hi⟩ := DataW.trod_array ht h
  rw [hct] at hl
  rw [hce] at hi
  refine chunks (c := c) ys cs (by rw [hl, hn]) fun i y hy => ?_
  have hin : i < n := by rw [← hn]; exact (List.getElem?_eq_some_iff.1 hy).1
  have hds : ds = xs.map (·.1) := by
    have := congrArg Prod.fst hx
    simpa using this
  obtain ⟨x, hxi⟩ : ∃ x, xs[i]? = some x := ⟨xs[i]'(by omega), List.getElem?_eq_getElem _⟩
  have h1 := hi i hin
  rw [hxi] at h1
  exact hel i x.1 y m _ x.2 (by rw [hds, List.getElem?_map, hxi]; rfl) hy h1
end

/-- A variable's block. -/
theorem block_of_var {P : Program} {W : World} {n : String} {g : Nat} {cs : Array Value} (hg : P.globalNamed n = some g) (hv : W.var? P n = some cs) (hr : ∃ c t, W.heap[g]? = some (.cells c t (0, 0))) : ∃ t, W.heap[g]? = some (.cells cs t (0, 0)) := by
  obtain ⟨c, t, h⟩ := hr
  unfold World.var? at hv
  rw [hg, Option.bind_some, h] at hv
  obtain rfl := Option.some.inj hv
  exact ⟨t, h⟩

theorem ones : ∀ l : List (List UInt8), (l.map fun x => [Value.string ⟨x.toArray⟩]).flatten = l.map fun x => Value.string ⟨x.toArray⟩
  | [] => rfl
  | x :: r => by rw [List.map_cons, List.flatten_cons, List.map_cons, ones r]; rfl

/-- A table of strings. -/
theorem strs_of_laid {P : Program} {W : World} {name : String} {g : Nat} {t e : TypeId} {n : Nat} (l : List (List UInt8))
    (hg : P.globalNamed name = some g) (hty : (P.globals[g]?).map (·.type) = some t) (ht : P.underlying t = some (.array n e)) (he : P.underlying e = some .string) (hce : P.cellsOf e = 1) (hct : P.cellsOf t = n) (hn : l.length = n) (h0 : 0 < n)
    (h : laidMet P [(name, .agg (l.map fun x => .lit (.string x)))] W) : ∃ t, W.heap[g]? = some (.cells (l.map fun x => Value.string ⟨x.toArray⟩).toArray t (0, 0)) := by
  obtain ⟨ps, ⟨g', t', cs, fuel, p, q, hg', ht', hvar, hd, _, hps⟩, _, hrows⟩ := h
  obtain rfl := Option.some.inj (hg.symm.trans hg')
  obtain rfl := Option.some.inj (hty.symm.trans ht')
  have hc := cells_of_array (c := 1) ht hce (by rw [hct, Nat.mul_one]) (l.map fun x => [Value.string ⟨x.toArray⟩]) (by rw [List.length_map, hn]) (by
    intro i d y m x q hd hy hx
    rw [List.getElem?_map] at hd hy
    obtain ⟨z, hz, rfl⟩ := Option.map_eq_some_iff.1 hd
    rw [hz] at hy
    obtain rfl := Option.some.inj hy
    obtain ⟨s, rfl, e1, _⟩ := DataW.trod_string he hx
    have e2 : z = s.data.toList := by
      have := congrArg Prod.fst e1
      simpa using this
    subst e2
    rfl) hd
  have hc' : cs = (l.map fun x => Value.string ⟨x.toArray⟩).toArray := by
    rw [← Array.toList_inj, hc]
    show (l.map fun x => [Value.string ⟨x.toArray⟩]).flatten = l.map fun x => Value.string ⟨x.toArray⟩
    exact ones l
  subst hc'
  refine block_of_var hg hvar (hrows g 0 ?_).1
  rw [hps]
  simp [MemPlace.row]
  omega

/-- A table of pairs of a string and an integer. -/
theorem pairs_of_laid {P : Program} {W : World} {name : String} {g : Nat} {t e : TypeId} {n : Nat} {f0 f1 : Field} {k : IntKind} (l : List (List UInt8 × Int))
    (hg : P.globalNamed name = some g) (hty : (P.globals[g]?).map (·.type) = some t) (ht : P.underlying t = some (.array n e)) (he : P.underlying e = some (.struct #[f0, f1])) (o0 : f0.offset = 0) (o1 : f1.offset = 1) (h0s : P.underlying f0.type = some .string) (h1s : P.underlying f1.type = some (.int k)) (c0 : P.cellsOf f0.type = 1) (c1 : P.cellsOf f1.type = 1)
    (hce : P.cellsOf e = 2) (hct : P.cellsOf t = n * 2) (hn : l.length = n) (h0 : 0 < n)
    (h : laidMet P [(name, .agg (l.map fun x => .agg [.lit (.string x.1), .lit (.int k x.2)]))] W) : ∃ t, W.heap[g]? = some (.cells (l.flatMap fun x => [Value.string ⟨x.1.toArray⟩, .int k x.2]).toArray t (0, 0)) := by
  obtain ⟨ps, ⟨g', t', cs, fuel, p, q, hg', ht', hvar, hd, _, hps⟩, _, hrows⟩ := h
  obtain rfl := Option.some.inj (hg.symm.trans hg')
  obtain rfl := Option.some.inj (hty.symm.trans ht')
  have hc := cells_of_array (c := 2) ht hce hct (l.map fun x => [Value.string ⟨x.1.toArray⟩, .int k x.2]) (by rw [List.length_map, hn]) (by
    intro i d y m x q hd hy hx
    rw [List.getElem?_map] at hd hy
    obtain ⟨z, hz, rfl⟩ := Option.map_eq_some_iff.1 hd
    rw [hz] at hy
    obtain rfl := Option.some.inj hy
    obtain ⟨xs, m', rfl, e0, hl, hxl, hf⟩ := DataW.trod_struct he hx
    have g0 := hf 0 f0 rfl
    have g1 := hf 1 f1 rfl
    rw [hce] at hl
    rw [o0, c0] at g0
    rw [o1, c1] at g1
    match xs, hxl with
    | [a, b], _ =>
      obtain ⟨s, q0, e1, _⟩ := DataW.trod_string h0s g0
      obtain ⟨j, q1, e2, _⟩ := DataW.trod_int h1s g1
      subst e1 e2
      have e3 : z.1 = s.data.toList ∧ z.2 = j := by
        have := congrArg Prod.fst e0
        simpa using this
      match x, hl with
      | [u, v], _ =>
        simp at q0 q1
        show [u, v] = [Value.string ⟨z.1.toArray⟩, .int k z.2]
        rw [q0, q1, e3.1, e3.2]) hd
  have hc' : cs = (l.flatMap fun x => [Value.string ⟨x.1.toArray⟩, .int k x.2]).toArray := by
    rw [← Array.toList_inj, hc]
    simp [List.flatMap]
  subst hc'
  refine block_of_var hg hvar (hrows g 0 ?_).1
  rw [hps]
  cases l with
  | nil => simp at hn; omega
  | cons x r => simp [MemPlace.row]

/-- A table of a string and three integers. -/
theorem quads_of_laid {P : Program} {W : World} {name : String} {g : Nat} {t e : TypeId} {n : Nat} {f0 f1 f2 f3 : Field} {k : IntKind} (l : List (List UInt8 × Int × Int × Int))
    (hg : P.globalNamed name = some g) (hty : (P.globals[g]?).map (·.type) = some t) (ht : P.underlying t = some (.array n e)) (he : P.underlying e = some (.struct #[f0, f1, f2, f3])) (o0 : f0.offset = 0) (o1 : f1.offset = 1) (o2 : f2.offset = 2) (o3 : f3.offset = 3) (h0s : P.underlying f0.type = some .string) (h1s : P.underlying f1.type = some (.int k)) (h2s : P.underlying f2.type = some (.int k)) (h3s : P.underlying f3.type = some (.int k)) (c0 : P.cellsOf f0.type = 1) (c1 : P.cellsOf f1.type = 1) (c2 : P.cellsOf f2.type = 1) (c3 : P.cellsOf f3.type = 1)
    (hce : P.cellsOf e = 4) (hct : P.cellsOf t = n * 4) (hn : l.length = n) (h0 : 0 < n)
    (h : laidMet P [(name, .agg (l.map fun x => .agg [.lit (.string x.1), .lit (.int k x.2.1), .lit (.int k x.2.2.1), .lit (.int k x.2.2.2)]))] W) : ∃ t, W.heap[g]? = some (.cells (l.flatMap fun x => [Value.string ⟨x.1.toArray⟩, .int k x.2.1, .int k x.2.2.1, .int k x.2.2.2]).toArray t (0, 0)) := by
  obtain ⟨ps, ⟨g', t', cs, fuel, p, q, hg', ht', hvar, hd, _, hps⟩, _, hrows⟩ := h
  obtain rfl := Option.some.inj (hg.symm.trans hg')
  obtain rfl := Option.some.inj (hty.symm.trans ht')
  have hc := cells_of_array (c := 4) ht hce hct (l.map fun x => [Value.string ⟨x.1.toArray⟩, .int k x.2.1, .int k x.2.2.1, .int k x.2.2.2]) (by rw [List.length_map, hn]) (by
    intro i d y m x q hd hy hx
    rw [List.getElem?_map] at hd hy
    obtain ⟨z, hz, rfl⟩ := Option.map_eq_some_iff.1 hd
    rw [hz] at hy
    obtain rfl := Option.some.inj hy
    obtain ⟨xs, m', rfl, e0, hl, hxl, hf⟩ := DataW.trod_struct he hx
    have g0 := hf 0 f0 rfl
    have g1 := hf 1 f1 rfl
    have g2 := hf 2 f2 rfl
    have g3 := hf 3 f3 rfl
    rw [hce] at hl
    rw [o0, c0] at g0
    rw [o1, c1] at g1
    rw [o2, c2] at g2
    rw [o3, c3] at g3
    match xs, hxl with
    | [a, b, c, d], _ =>
      obtain ⟨s, q0, e1, _⟩ := DataW.trod_string h0s g0
      obtain ⟨j1, q1, e2, _⟩ := DataW.trod_int h1s g1
      obtain ⟨j2, q2, e3, _⟩ := DataW.trod_int h2s g2
      obtain ⟨j3, q3, e4, _⟩ := DataW.trod_int h3s g3
      subst e1 e2 e3 e4
      have e5 : z.1 = s.data.toList ∧ z.2.1 = j1 ∧ z.2.2.1 = j2 ∧ z.2.2.2 = j3 := by
        have := congrArg Prod.fst e0
        simpa using this
      match x, hl with
      | [u0, u1, u2, u3], _ =>
        simp at q0 q1 q2 q3
        show [u0, u1, u2, u3] = [Value.string ⟨z.1.toArray⟩, .int k z.2.1, .int k z.2.2.1, .int k z.2.2.2]
        rw [q0, q1, q2, q3, e5.1, e5.2.1, e5.2.2.1, e5.2.2.2]) hd
  have hc' : cs = (l.flatMap fun x => [Value.string ⟨x.1.toArray⟩, .int k x.2.1, .int k x.2.2.1, .int k x.2.2.2]).toArray := by
    rw [← Array.toList_inj, hc]
    simp [List.flatMap]
  subst hc'
  refine block_of_var hg hvar (hrows g 0 ?_).1
  rw [hps]
  cases l with
  | nil => simp at hn; omega
  | cons x r => simp [MemPlace.row]

end Go.Proofs.YtibbjohkiigffaaGreatDoor
namespace Go.Proofs.YtibbjohkiigffaaGreatDoor
open Go

section
variable {P : Program} {ops : Array Oper} {Q : Exit → Act → World → Prop} {md : Region.Mode} {S : World → Prop}

theorem at_list {i : Nat} {o : Oper} (h : ops.toList[i]? = some o) : ops[i]? = some o := by rw [← Array.getElem?_toList]; exact h
theorem held_take (i : Nat) {oi : Oper} {v : Value} {fuel : Nat} {listed : Array Bool} {a : Act} {w : World} (hi : ops.toList[i]? = some oi)
    (hs : Region.noSelect ops = true) (hf : Region.free md ops listed i = true) (hr : (Region.ready md ops listed).contains i = true)
    (hQ : ∀ c a w, Q (.panic c) (a.put oi.dst v) w → Q (.panic c) a w) (hy : YieldsIf P ops S oi v a) (hS : S w)
    (h : wpAnyH P md ops Q S fuel (listed.setIfInBounds i true) (a.put oi.dst v) w) : wpAnyH P md ops Q S (fuel + 1) listed a w :=
  wpAnyH_take (at_list hi) hs hf hr hQ hy hS h
/-- One alone may come up. -/
theorem held_one (i : Nat) {o : Oper} {fuel : Nat} {listed : Array Bool} {a : Act} {w : World} (hr : Region.ready md ops listed = [i]) (ho : ops.toList[i]? = some o)
    (h : ∀ K' : Act → World → Prop, Shut (∀ a w, S w → (S w → wpAnyH P md ops Q S fuel (listed.setIfInBounds i true) a w) → K' a w) → if Region.wanted o (yielded ops a.tmps) = true then Oper.wp P o a w K' Q else K' (a.put o.dst undef) w) :
    wpAnyH P md ops Q S (fuel + 1) listed a w :=
  wpAnyH_all hr (by simp) (AllReadyH.cons (at_list ho) h AllReadyH.nil)
/-- One of two may come up. -/
theorem held_two (i j : Nat) {o o' : Oper} {fuel : Nat} {listed : Array Bool} {a : Act} {w : World} (hr : Region.ready md ops listed = [i, j]) (ho : ops.toList[i]? = some o) (ho' : ops.toList[j]? = some o')
    (h : ∀ K' : Act → World → Prop, Shut (∀ a w, S w → (S w → wpAnyH P md ops Q S fuel (listed.setIfInBounds i true) a w) → K' a w) → if Region.wanted o (yielded ops a.tmps) = true then Oper.wp P o a w K' Q else K' (a.put o.dst undef) w)
    (h' : ∀ K' : Act → World → Prop, Shut (∀ a w, S w → (S w → wpAnyH P md ops Q S fuel (listed.setIfInBounds j true) a w) → K' a w) → if Region.wanted o' (yielded ops a.tmps) = true then Oper.wp P o' a w K' Q else K' (a.put o'.dst undef) w) :
    wpAnyH P md ops Q S (fuel + 1) listed a w :=
  wpAnyH_all hr (by simp) (AllReadyH.cons (at_list ho) h (AllReadyH.cons (at_list ho') h' AllReadyH.nil))
theorem region_held {id : Nat} {a : Act} {w : World} (S : World → Prop) (hm : P.follows .mixedOrders = true) (hS : S w.drew)
    (h : S w.drew → wpAnyH P .any ops Q S ops.size (Array.replicate ops.size false) a w.drew) : (Code.region id ops true).wp P Q a w :=
  wp_region_held hm (h hS)

end
end Go.Proofs.YtibbjohkiigffaaGreatDoor
/-
  On paper: what needs itself, and an order in which nothing comes ahead of what it needs. Nothing here hangs on a program.
-/
namespace Go.Proofs.YtibbjohkiigffaaGreatDoor
namespace Mip

/-- One needs the other, by however many steps. -/
abbrev Way (nd : Nat → List Nat) (a b : Nat) : Prop := Relation.TransGen (fun x y => y ∈ nd x) a b

/-- What is met and what comes next, as one looks for what needs itself. -/
structure Met (nd : Nat → List Nat) (f : Nat) (M : Nat → Bool) (next : List Nat) : Prop where
  no : M f = false
  from0 : ∀ x ∈ nd f, M x = true ∨ x ∈ next
  step : ∀ m, M m = true → ∀ x ∈ nd m, M x = true ∨ x ∈ next
  way : ∀ x ∈ next, Way nd f x
  wayM : ∀ m, M m = true → Way nd f m
theorem Met.start (nd : Nat → List Nat) (f : Nat) : Met nd f (fun _ => false) (nd f) :=
  ⟨rfl, fun x hx => Or.inr hx, (fun m h => by cases h), fun x hx => .single hx, (fun m h => by cases h)⟩
theorem Met.found {nd : Nat → List Nat} {f : Nat} {M : Nat → Bool} {next : List Nat} (h : Met nd f M next) (hf : f ∈ next) : Way nd f f := h.way f hf
theorem Met.over {nd : Nat → List Nat} {f : Nat} {M : Nat → Bool} (h : Met nd f M []) : ¬ Way nd f f := by
  have key : ∀ x, Way nd f x → M x = true := fun x hx => by
    induction hx with
    | single hb => rcases h.from0 _ hb with h1 | h1
                   · exact h1
                   · cases h1
    | tail _ hb ih => rcases h.step _ ih _ hb with h1 | h1
                      · exact h1
                      · cases h1
  intro hw
  have := key f hw
  rw [h.no] at this
  cases this
theorem Met.go {nd : Nat → List Nat} {f : Nat} {M : Nat → Bool} {next : List Nat} {m : Nat} (h : Met nd f M (next ++ [m])) (hm : m ≠ f) : Met nd f (fun x => M x || x == m) (next ++ (if M m then [] else nd m)) := by
  have hw : Way nd f m := h.way m (by simp)
  have mv : ∀ x, (M x = true ∨ x ∈ next ++ [m]) → (M x || x == m) = true ∨ x ∈ next ++ (if M m then [] else nd m) := fun x hx => by
    rcases hx with hx | hx
    · left; simp [hx]
    · rcases List.mem_append.1 hx with hx | hx
      · right; exact List.mem_append_left _ hx
      · left; simp at hx; simp [hx]
  refine ⟨by simp [h.no, Ne.symm hm], fun x hx => mv x (h.from0 x hx), fun m' hm' x hx => ?_, fun x hx => ?_, fun m' hm' => ?_⟩
  · by_cases e : M m' = true
    · exact mv x (h.step m' e x hx)
    · have e1 : M m' = false := by simpa using e
      have e2 : m' = m := by simpa [e1] using hm'
      subst e2
      right
      rw [if_neg e]
      exact List.mem_append_right _ hx
  · rcases List.mem_append.1 hx with hx | hx
    · exact h.way x (List.mem_append_left _ hx)
    · split at hx
      · cases hx
      · exact .tail hw hx
  · by_cases e : M m' = true
    · exact h.wayM m' e
    · have e1 : M m' = false := by simpa using e
      have e2 : m' = m := by simpa [e1] using hm'
      rw [e2]; exact hw
/-- How much is still ahead. -/
def work (nd : Nat → List Nat) (M : Nat → Bool) : Nat → Nat
  | 0 => 0
  | k + 1 => work nd M k + if M k then 0 else (nd k).length
theorem work_same (nd : Nat → List Nat) (M : Nat → Bool) (m : Nat) : ∀ K, K ≤ m → work nd (fun x => M x || x == m) K = work nd M K
  | 0, _ => rfl
  | k + 1, h => by
    rw [work, work, work_same nd M m k (by omega)]
    have : (k == m) = false := by simp; omega
    simp [this]
theorem work_go (nd : Nat → List Nat) (M : Nat → Bool) (m : Nat) : ∀ K, m < K → work nd (fun x => M x || x == m) K + (if M m then [] else nd m).length = work nd M K
  | 0, h => by omega
  | k + 1, h => by
    rw [work, work]
    by_cases e : m = k
    · subst e
      rw [work_same nd M m m (Nat.le_refl _)]
      by_cases hM : M m = true
      · simp [hM]
      · simp [hM]
    · have ih := work_go nd M m k (by omega)
      have e2 : (k == m) = false := by simp; omega
      simp only [e2, Bool.or_false]
      omega
theorem no_way_of_rank {nd : Nat → List Nat} (r : Nat → Nat) (h : ∀ a b, b ∈ nd a → r b < r a) (f : Nat) : ¬ Way nd f f := by
  have key : ∀ x, Way nd f x → r x < r f := fun x hx => by
    induction hx with
    | single hb => exact h _ _ hb
    | tail _ hb ih => exact Nat.lt_trans (h _ _ hb) ih
  intro hw
  exact Nat.lt_irrefl _ (key f hw)

/-- It waits for none of the others. -/
def rdy (nd : Nat → List Nat) (l acc : List Nat) (f : Nat) : Bool := !acc.contains f && (nd f).all fun x => !(l.contains x && !acc.contains x)
/-- The first one that is ready, again and again. -/
def ord (nd : Nat → List Nat) (l : List Nat) : Nat → List Nat → List Nat
  | 0, acc => acc
  | n + 1, acc => match l.find? (rdy nd l acc) with
    | none => ord nd l n acc
    | some f => ord nd l n (acc ++ [f])
theorem some_rdy {nd : Nat → List Nat} {l acc : List Nat} (hc : ∀ f ∈ l, ¬ Way nd f f) (q : Nat) (hq : q ∈ l) (hqa : q ∉ acc) : ∃ f ∈ l, rdy nd l acc f = true := by
  classical
  have key : ∀ n q, q ∈ l → q ∉ acc → (l.filter fun x => decide (Way nd q x)).length ≤ n → ∃ f ∈ l, rdy nd l acc f = true := by
    intro n
    induction n with
    | zero =>
      intro q hq hqa hn
      refine ⟨q, hq, ?_⟩
      have h0 : l.filter (fun x => decide (Way nd q x)) = [] := List.length_eq_zero_iff.1 (by omega)
      unfold rdy
      simp only [Bool.and_eq_true, List.all_eq_true]
      refine ⟨by simpa using hqa, fun x hx => ?_⟩
      by_cases hl : x ∈ l
      · exfalso
        have : x ∈ l.filter (fun x => decide (Way nd q x)) := List.mem_filter.2 ⟨hl, by simpa using .single hx⟩
        rw [h0] at this; cases this
      · simp [hl]
    | succ n ih =>
      intro q hq hqa hn
      by_cases hr : rdy nd l acc q = true
      · exact ⟨q, hq, hr⟩
      · have : ∃ x ∈ nd q, x ∈ l ∧ x ∉ acc := by
          apply Classical.byContradiction
          intro hno
          apply hr
          unfold rdy
          simp only [Bool.and_eq_true, List.all_eq_true]
          refine ⟨by simpa using hqa, fun x hx => ?_⟩
          by_cases h1 : x ∈ l
          · by_cases h2 : x ∈ acc
            · simp [h2]
            · exact absurd ⟨x, hx, h1, h2⟩ hno
          · simp [h1]
        obtain ⟨x, hx, hxl, hxa⟩ := this
        refine ih x hxl hxa ?_
        have sub : ∀ y, Way nd x y → Way nd q y := fun y hy => by
          induction hy with
          | single hb => exact .tail (.single hx) hb
          | tail _ hb ih => exact .tail ih hb
        have hsub : (l.filter fun y => decide (Way nd x y)).length < (l.filter fun y => decide (Way nd q y)).length := by
          have h1 : l.filter (fun y => decide (Way nd x y)) = (l.filter fun y => decide (Way nd q y)).filter (fun y => decide (Way nd x y)) := by
            rw [List.filter_filter]
            apply List.filter_congr
            intro y _
            by_cases hy : Way nd x y
            · simp [hy, sub y hy]
            · simp [hy]
          rw [h1]
          refine Nat.lt_of_le_of_ne (List.length_filter_le _ _) (fun e => ?_)
          have h2 := (List.length_filter_eq_length_iff.1 e) x (List.mem_filter.2 ⟨hxl, by simpa using .single hx⟩)
          exact hc x hxl (by simpa using h2)
        omega
  exact key _ q hq hqa (Nat.le_refl _)
theorem len_le : ∀ (l l' : List Nat), l.Nodup → (∀ x ∈ l, x ∈ l') → l.length ≤ l'.length
  | [], _, _, _ => Nat.zero_le _
  | a :: r, l', hn, hs => by
    have h1 := List.nodup_cons.1 hn
    have ha := hs a (by simp)
    have ih := len_le r (l'.erase a) h1.2 (fun x hx => (List.mem_erase_of_ne (fun (e : x = a) => h1.1 (by rw [← e]; exact hx))).2 (hs x (by simp [hx])))
    rw [List.length_erase_of_mem ha] at ih
    have := List.length_pos_of_mem ha
    rw [List.length_cons]
    omega
theorem ord_all {nd : Nat → List Nat} {l : List Nat} (hc : ∀ f ∈ l, ¬ Way nd f f) (hl : l.Nodup) : ∀ (n : Nat) (acc : List Nat), acc.Nodup → (∀ x ∈ acc, x ∈ l) → acc.length + n = l.length → (ord nd l n acc).Nodup ∧ ∀ x, x ∈ ord nd l n acc ↔ x ∈ l
  | 0, acc, hn, hs, he => by
    refine ⟨hn, fun x => ⟨hs x, fun hx => ?_⟩⟩
    rw [ord]
    refine Classical.byContradiction fun h => ?_
    have := len_le (x :: acc) l (List.nodup_cons.2 ⟨h, hn⟩) (fun y hy => by
      rcases List.mem_cons.1 hy with rfl | hy
      · exact hx
      · exact hs y hy)
    rw [List.length_cons] at this
    omega
  | n + 1, acc, hn, hs, he => by
    rw [ord]
    have : ∃ q ∈ l, q ∉ acc := by
      apply Classical.byContradiction
      intro hno
      have hs' : ∀ x ∈ l, x ∈ acc := fun x hx => Classical.byContradiction fun h => hno ⟨x, hx, h⟩
      have := len_le l acc hl hs'
      omega
    obtain ⟨q, hq, hqa⟩ := this
    obtain ⟨f, hf, hr⟩ := some_rdy (acc := acc) hc q hq hqa
    cases h : l.find? (rdy nd l acc) with
    | none =>
      have := List.find?_eq_none.1 h f hf
      exact absurd hr this
    | some g =>
      have hg := List.find?_some h
      have hgl := List.mem_of_find?_eq_some h
      have hga : g ∉ acc := by
        unfold rdy at hg
        simp only [Bool.and_eq_true] at hg
        simpa using hg.1
      refine ord_all hc hl n (acc ++ [g]) ?_ (fun x hx => ?_) (by simp; omega)
      · rw [List.nodup_append]
        exact ⟨hn, by simp, fun a ha b hb => by simp at hb; subst hb; intro e; exact hga (e ▸ ha)⟩
      · rcases List.mem_append.1 hx with h1 | h1
        · exact hs x h1
        · simp at h1; rw [h1]; exact hgl
end Mip
end Go.Proofs.YtibbjohkiigffaaGreatDoor
