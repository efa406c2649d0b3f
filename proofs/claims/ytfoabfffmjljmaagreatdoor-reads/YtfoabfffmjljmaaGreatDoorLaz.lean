/-
  What laid variables hold: sentinels, tables of strings, tables of pairs. Over any program.
-/
import Derived.LaidLaws
import Derived.LaidSub
import Derived.LaidHandle
import Derived.Lib.LaidTab
import Derived.OpenShut
import Derived.Stop.LaidErr
namespace Go.Proofs.YtfoabfffmjljmaaGreatDoor
open Go

/-- A list of laid variables, each of them a sentinel of one type, and the variables' numbers. -/
def FitErrs (P : Program) (ti : TypeId) (nm : String) : List (String × DataW Unit) → List Nat → Prop
  | [], [] => True
  | (n, d) :: r, g :: gs => (∃ text, d = .iface nm (.ptr (.agg [.lit (.string text)]))) ∧ P.globalNamed n = some g ∧ (P.globals[g]?).map (·.type) = some ti ∧ FitErrs P ti nm r gs
  | _, _ => False

/-- What the variables hold. -/
def HoldErrs (W : World) (tp : TypeId) : List Addr → List Nat → Prop
  | [], [] => True
  | a :: as, g :: gs => W.cell? ⟨g, 0, none⟩ = some (.iface tp (.pointer (some a))) ∧ (∃ c t, W.heap[a.block]? = some (.cells c t (0, 0))) ∧ a ∉ as ∧ HoldErrs W tp as gs
  | _, _ => False

theorem errs_of_laid {P : Program} {nm : String} {W : World} {ti tp te ts : TypeId} {ms : Array (String × TypeId)} {f : Field}
    (hi : P.underlying ti = some (.interface ms)) (hrow : ∀ u, P.typeName? 3 u = some nm → u = tp)
    (hp : P.underlying tp = some (.pointer te)) (he : P.underlying te = some (.struct #[f])) (hft : f.type = ts) (hfo : f.offset = 0) (hs : P.underlying ts = some .string) (hc : P.cellsOf te = 1) (hcs : P.cellsOf ts = 1) :
    ∀ (laid : List (String × DataW Unit)) (gs : List Nat) (ps : List MemPlace), FitErrs P ti nm laid gs → DataW.LaidVars P W laid ps → ps.Nodup →
      (∀ b off, MemPlace.cell b off ∈ ps → (∃ c t, W.heap[b]? = some (.cells c t (0, 0))) ∧ ∀ u v, W.cell? ⟨b, off, none⟩ = some (.iface u v) → Value.okWide P W .any 0 u v) →
      ∃ as : List Addr, HoldErrs W tp as gs ∧ ∀ a, a ∈ as → MemPlace.cell a.block a.off ∈ ps := by
  intro laid
  induction laid with
  | nil =>
    intro gs ps hfit _ _ _
    cases gs with
    | nil => exact ⟨[], trivial, fun a h => by cases h⟩
    | cons g r => exact hfit.elim
  | cons x r ih =>
    intro gs ps hfit hv hnd hrows
    obtain ⟨n, d⟩ := x
    cases gs with
    | nil => exact hfit.elim
    | cons g gs =>
      obtain ⟨⟨text, rfl⟩, hg, ht, hfit'⟩ := hfit
      obtain ⟨g0, t0, cs0, f0, p0, q0, hg0, ht0, hv0, hd0, hq0, e0⟩ := hv
      obtain rfl := Option.some.inj (hg.symm.trans hg0)
      obtain rfl := Option.some.inj (ht.symm.trans ht0)
      subst e0
      have hq : q0.Nodup := List.Nodup.sublist (List.sublist_append_right _ _) hnd
      obtain ⟨as, hold, hmem⟩ := ih gs q0 hfit' hq0 hq (fun b off hm => hrows b off (List.mem_append_right _ hm))
      obtain ⟨l0⟩ := cs0
      have ok0 : ∀ u v, l0 = [.iface u v] → Value.okWide P W .any 0 u v := fun u v e => by
        subst e
        exact (hrows g 0 (by simp [MemPlace.row])).2 u v (by simpa using World.var?_cell hg0 hv0 0)
      obtain ⟨a, s, rfl, hca, _, _, rfl⟩ := errorString_of_trod hi hrow hp he hft hfo hs hc hcs hd0 ok0
      have hin : MemPlace.cell a.block a.off ∈ MemPlace.row a 1 := by simp [MemPlace.row]
      refine ⟨a :: as, ⟨by simpa using World.var?_cell hg0 hv0 0, (hrows a.block a.off ?_).1, ?_, hold⟩, ?_⟩
      · exact List.mem_append_left _ (List.mem_append_right _ hin)
      · intro h
        have h2 := hmem a h
        have h3 := (List.nodup_append.1 hnd).2.2 _ (List.mem_append_right _ hin) _ h2
        exact h3 rfl
      · intro b hb
        rcases List.mem_cons.1 hb with rfl | hb
        · exact List.mem_append_left _ (List.mem_append_right _ hin)
        · exact List.mem_append_right _ (hmem b hb)

theorem hold_len {W : World} {tp : TypeId} : ∀ (as : List Addr) (gs : List Nat), HoldErrs W tp as gs → as.length = gs.length
  | [], [], _ => rfl
  | _ :: as, _ :: gs, h => by simp [hold_len as gs h.2.2.2]
  | [], _ :: _, h => h.elim
  | _ :: _, [], h => h.elim

theorem hold_at {W : World} {tp : TypeId} (z : Addr) : ∀ (xs : List Addr) (gs : List Nat), HoldErrs W tp xs gs → ∀ i, i < xs.length →
    W.cell? ⟨gs.getD i 0, 0, none⟩ = some (.iface tp (.pointer (some (xs.getD i z)))) ∧ ∃ c t, W.heap[(xs.getD i z).block]? = some (.cells c t (0, 0))
  | [], [], _, i, hi => by simp at hi
  | [], _ :: _, h, _, _ => h.elim
  | _ :: _, [], h, _, _ => h.elim
  | a :: xs, g :: gs, h, 0, _ => ⟨h.1, h.2.1⟩
  | a :: xs, g :: gs, h, i + 1, hi => hold_at z xs gs h.2.2.2 i (by simpa using hi)

theorem hold_ne {W : World} {tp : TypeId} (z : Addr) : ∀ (xs : List Addr) (gs : List Nat), HoldErrs W tp xs gs → ∀ i k, k < i → i < xs.length → xs.getD k z ≠ xs.getD i z
  | [], [], _, i, _, _, hi => by simp at hi
  | [], _ :: _, h, _, _, _, _ => h.elim
  | _ :: _, [], h, _, _, _, _ => h.elim
  | _ :: _, _ :: _, _, 0, _, hk, _ => by omega
  | a :: xs, g :: gs, h, i + 1, 0, _, hi => by
    have hi' : i < xs.length := by simpa using hi
    intro e
    apply h.2.2.1
    have e' : a = xs.getD i z := by simpa using e
    rw [e']
    simp [hi']
  | a :: xs, g :: gs, h, i + 1, k + 1, hk, hi => by
    have := hold_ne z xs gs h.2.2.2 i k (by omega) (by simpa using hi)
    simpa using this


/-- A row of chunks of one length, joined. -/
theorem chunks {c : Nat} : ∀ (ys : List (List Value)) (cs : List Value), cs.length = ys.length * c → (∀ (i : Nat) (y : List Value), ys[i]? = some y → (cs.drop (i * c)).take c = y) → cs = ys.flatten
  | [], cs, hl, _ => by
    have : cs.length = 0 := by simpa using hl
    simp [List.length_eq_zero_iff.1 this]
  | y :: ys, cs, hl, h => by
    have h0 := h 0 y rfl
    rw [Nat.zero_mul, List.drop_zero] at h0
    have hd := chunks (c := c) ys (cs.drop c) (by rw [List.length_drop, hl, List.length_cons, Nat.succ_mul]; omega) (fun i z hz => by
      have := h (i + 1) z hz
      rw [List.drop_drop, show c + i * c = (i + 1) * c by rw [Nat.succ_mul]; omega]
      exact this)
    rw [List.flatten_cons, ← h0, ← hd, List.take_append_drop]

section
variable {H : Type} {enc : TypeId × Value → H} {P : Program} {w : World} {base : Nat} {sp : Nat → Bool} {held : Bool}
/-- An array's cells, by its elements'. -/
theorem cells_of_array {fuel : Nat} {t e : TypeId} {n c : Nat} {cs : List Value} {ds : List (DataW H)} {p : List MemPlace} (ht : P.underlying t = some (.array n e)) (hce : P.cellsOf e = c) (hct : P.cellsOf t = n * c)
    (ys : List (List Value)) (hn : ys.length = n) (hel : ∀ (i : Nat) (d : DataW H) (y : List Value) (m : Nat) (x : List Value) (q : List MemPlace), ds[i]? = some d → ys[i]? = some y → DataW.trod enc P w base sp held m e x = some (d, q) → x = y)
    (h : DataW.trod enc P w base sp held fuel t cs = some (.agg ds, p)) : cs = ys.flatten := by
  obtain ⟨xs, m, rfl, hx, hl, hxl, hi⟩ := DataW.trod_array ht h
  rw [hct] at hl
  rw [hce] at hi
  refine chunks (c := c) ys cs (by rw [hl, hn]) fun i y hy => ?_
  have hin : i < n := by rw [← hn]; exact (List.getElem?_eq_some_iff.1 hy).1
  have hds : ds = xs.map (·.1) := by
    have := congrArg Prod.fst hx
    simpa using this
  obtain ⟨x, hxi⟩ : ∃ x, xs[i]? = some x := ⟨xs[i]'(by omega), List.getElem?_eq_getElem _⟩
  have h1 := hi i hin
  rw [hxi] at h1
  exact hel i x.1 y m _ x.2 (by rw [hds, List.getElem?_map, hxi]; rfl) hy h1
end

/-- A variable's block. -/
theorem block_of_var {P : Program} {W : World} {n : String} {g : Nat} {cs : Array Value} (hg : P.globalNamed n = some g) (hv : W.var? P n = some cs) (hr : ∃ c t, W.heap[g]? = some (.cells c t (0, 0))) : ∃ t, W.heap[g]? = some (.cells cs t (0, 0)) := by
  obtain ⟨c, t, h⟩ := hr
  unfold World.var? at hv
  rw [hg, Option.bind_some, h] at hv
  obtain rfl := Option.some.inj hv
  exact ⟨t, h⟩

theorem ones : ∀ l : List (List UInt8), (l.map fun x => [Value.string ⟨x.toArray⟩]).flatten = l.map fun x => Value.string ⟨x.toArray⟩
  | [] => rfl
  | x :: r => by rw [List.map_cons, List.flatten_cons, List.map_cons, ones r]; rfl

/-- A table of strings. -/
theorem strs_of_laid {P : Program} {W : World} {name : String} {g : Nat} {t e : TypeId} {n : Nat} (l : List (List UInt8))
    (hg : P.globalNamed name = some g) (hty : (P.globals[g]?).map (·.type) = some t) (ht : P.underlying t = some (.array n e)) (he : P.underlying e = some .string) (hce : P.cellsOf e = 1) (hct : P.cellsOf t = n) (hn : l.length = n) (h0 : 0 < n)
    (h : laidMet P [(name, .agg (l.map fun x => .lit (.string x)))] W) : ∃ t, W.heap[g]? = some (.cells (l.map fun x => Value.string ⟨x.toArray⟩).toArray t (0, 0)) := by
  obtain ⟨ps, ⟨g', t', cs, fuel, p, q, hg', ht', hvar, hd, _, hps⟩, _, hrows⟩ := h
  obtain rfl := Option.some.inj (hg.symm.trans hg')
  obtain rfl := Option.some.inj (hty.symm.trans ht')
  have hc := cells_of_array (c := 1) ht hce (by rw [hct, Nat.mul_one]) (l.map fun x => [Value.string ⟨x.toArray⟩]) (by rw [List.length_map, hn]) (by
    intro i d y m x q hd hy hx
    rw [List.getElem?_map] at hd hy
    obtain ⟨z, hz, rfl⟩ := Option.map_eq_some_iff.1 hd
    rw [hz] at hy
    obtain rfl := Option.some.inj hy
    obtain ⟨s, rfl, e1, _⟩ := DataW.trod_string he hx
    have e2 : z = s.data.toList := by
      have := congrArg Prod.fst e1
      simpa using this
    subst e2
    rfl) hd
  have hc' : cs = (l.map fun x => Value.string ⟨x.toArray⟩).toArray := by
    rw [← Array.toList_inj, hc]
    show (l.map fun x => [Value.string ⟨x.toArray⟩]).flatten = l.map fun x => Value.string ⟨x.toArray⟩
    exact ones l
  subst hc'
  refine block_of_var hg hvar (hrows g 0 ?_).1
  rw [hps]
  simp [MemPlace.row]
  omega

/-- A table of pairs of a string and an integer. -/
theorem pairs_of_laid {P : Program} {W : World} {name : String} {g : Nat} {t e : TypeId} {n : Nat} {f0 f1 : Field} {k : IntKind} (l : List (List UInt8 × Int))
    (hg : P.globalNamed name = some g) (hty : (P.globals[g]?).map (·.type) = some t) (ht : P.underlying t = some (.array n e)) (he : P.underlying e = some (.struct #[f0, f1])) (o0 : f0.offset = 0) (o1 : f1.offset = 1) (h0s : P.underlying f0.type = some .string) (h1s : P.underlying f1.type = some (.int k)) (c0 : P.cellsOf f0.type = 1) (c1 : P.cellsOf f1.type = 1)
    (hce : P.cellsOf e = 2) (hct : P.cellsOf t = n * 2) (hn : l.length = n) (h0 : 0 < n)
    (h : laidMet P [(name, .agg (l.map fun x => .agg [.lit (.string x.1), .lit (.int k x.2)]))] W) : ∃ t, W.heap[g]? = some (.cells (l.flatMap fun x => [Value.string ⟨x.1.toArray⟩, .int k x.2]).toArray t (0, 0)) := by
  obtain ⟨ps, ⟨g', t', cs, fuel, p, q, hg', ht', hvar, hd, _, hps⟩, _, hrows⟩ := h
  obtain rfl := Option.some.inj (hg.symm.trans hg')
  obtain rfl := Option.some.inj (hty.symm.trans ht')
  have hc := cells_of_array (c := 2) ht hce hct (l.map fun x => [Value.string ⟨x.1.toArray⟩, .int k x.2]) (by rw [List.length_map, hn]) (by
    intro i d y m x q hd hy hx
    rw [List.getElem?_map] at hd hy
    obtain ⟨z, hz, rfl⟩ := Option.map_eq_some_iff.1 hd
    rw [hz] at hy
    obtain rfl := Option.some.inj hy
    obtain ⟨xs, m', rfl, e0, hl, hxl, hf⟩ := DataW.trod_struct he hx
    have g0 := hf 0 f0 rfl
    have g1 := hf 1 f1 rfl
    rw [hce] at hl
    rw [o0, c0] at g0
    rw [o1, c1] at g1
    match xs, hxl with
    | [a, b], _ =>
      obtain ⟨s, q0, e1, _⟩ := DataW.trod_string h0s g0
      obtain ⟨j, q1, e2, _⟩ := DataW.trod_int h1s g1
      subst e1 e2
      have e3 : z.1 = s.data.toList ∧ z.2 = j := by
        have := congrArg Prod.fst e0
        simpa using this
      match x, hl with
      | [u, v], _ =>
        simp at q0 q1
        show [u, v] = [Value.string ⟨z.1.toArray⟩, .int k z.2]
        rw [q0, q1, e3.1, e3.2]) hd
  have hc' : cs = (l.flatMap fun x => [Value.string ⟨x.1.toArray⟩, .int k x.2]).toArray := by
    rw [← Array.toList_inj, hc]
    simp [List.flatMap]
  subst hc'
  refine block_of_var hg hvar (hrows g 0 ?_).1
  rw [hps]
  cases l with
  | nil => simp at hn; omega
  | cons x r => simp [MemPlace.row]

/-- A table of a string and three integers. -/
theorem quads_of_laid {P : Program} {W : World} {name : String} {g : Nat} {t e : TypeId} {n : Nat} {f0 f1 f2 f3 : Field} {k : IntKind} (l : List (List UInt8 × Int × Int × Int))
    (hg : P.globalNamed name = some g) (hty : (P.globals[g]?).map (·.type) = some t) (ht : P.underlying t = some (.array n e)) (he : P.underlying e = some (.struct #[f0, f1, f2, f3])) (o0 : f0.offset = 0) (o1 : f1.offset = 1) (o2 : f2.offset = 2) (o3 : f3.offset = 3) (h0s : P.underlying f0.type = some .string) (h1s : P.underlying f1.type = some (.int k)) (h2s : P.underlying f2.type = some (.int k)) (h3s : P.underlying f3.type = some (.int k)) (c0 : P.cellsOf f0.type = 1) (c1 : P.cellsOf f1.type = 1) (c2 : P.cellsOf f2.type = 1) (c3 : P.cellsOf f3.type = 1)
    (hce : P.cellsOf e = 4) (hct : P.cellsOf t = n * 4) (hn : l.length = n) (h0 : 0 < n)
    (h : laidMet P [(name, .agg (l.map fun x => .agg [.lit (.string x.1), .lit (.int k x.2.1), .lit (.int k x.2.2.1), .lit (.int k x.2.2.2)]))] W) : ∃ t, W.heap[g]? = some (.cells (l.flatMap fun x => [Value.string ⟨x.1.toArray⟩, .int k x.2.1, .int k x.2.2.1, .int k x.2.2.2]).toArray t (0, 0)) := by
  obtain ⟨ps, ⟨g', t', cs, fuel, p, q, hg', ht', hvar, hd, _, hps⟩, _, hrows⟩ := h
  obtain rfl := Option.some.inj (hg.symm.trans hg')
  obtain rfl := Option.some.inj (hty.symm.trans ht')
  have hc := cells_of_array (c := 4) ht hce hct (l.map fun x => [Value.string ⟨x.1.toArray⟩, .int k x.2.1, .int k x.2.2.1, .int k x.2.2.2]) (by rw [List.length_map, hn]) (by
    intro i d y m x q hd hy hx
    rw [List.getElem?_map] at hd hy
    obtain ⟨z, hz, rfl⟩ := Option.map_eq_some_iff.1 hd
    rw [hz] at hy
    obtain rfl := Option.some.inj hy
    obtain ⟨xs, m', rfl, e0, hl, hxl, hf⟩ := DataW.trod_struct he hx
    have g0 := hf 0 f0 rfl
    have g1 := hf 1 f1 rfl
    have g2 := hf 2 f2 rfl
    have g3 := hf 3 f3 rfl
    rw [hce] at hl
    rw [o0, c0] at g0
    rw [o1, c1] at g1
    rw [o2, c2] at g2
    rw [o3, c3] at g3
    match xs, hxl with
    | [a, b, c, d], _ =>
      obtain ⟨s, q0, e1, _⟩ := DataW.trod_string h0s g0
      obtain ⟨j1, q1, e2, _⟩ := DataW.trod_int h1s g1
      obtain ⟨j2, q2, e3, _⟩ := DataW.trod_int h2s g2
      obtain ⟨j3, q3, e4, _⟩ := DataW.trod_int h3s g3
      subst e1 e2 e3 e4
      have e5 : z.1 = s.data.toList ∧ z.2.1 = j1 ∧ z.2.2.1 = j2 ∧ z.2.2.2 = j3 := by
        have := congrArg Prod.fst e0
        simpa using this
      match x, hl with
      | [u0, u1, u2, u3], _ =>
        simp at q0 q1 q2 q3
        show [u0, u1, u2, u3] = [Value.string ⟨z.1.toArray⟩, .int k z.2.1, .int k z.2.2.1, .int k z.2.2.2]
        rw [q0, q1, q2, q3, e5.1, e5.2.1, e5.2.2.1, e5.2.2.2]) hd
  have hc' : cs = (l.flatMap fun x => [Value.string ⟨x.1.toArray⟩, .int k x.2.1, .int k x.2.2.1, .int k x.2.2.2]).toArray := by
    rw [← Array.toList_inj, hc]
    simp [List.flatMap]
  subst hc'
  refine block_of_var hg hvar (hrows g 0 ?_).1
  rw [hps]
  cases l with
  | nil => simp at hn; omega
  | cons x r => simp [MemPlace.row]

end Go.Proofs.YtfoabfffmjljmaaGreatDoor
