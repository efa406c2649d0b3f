/-
  A cell of a flow is turned; markOutputs over the compiler; resolve: walked.
-/
import Derived.Test.YtibbjohkiigffaaGreatDoorCp
namespace Go.Proofs.YtibbjohkiigffaaGreatDoor
open Go.RowKit

theorem own_set {w : World} {base : Nat} {e : TypeId} {size : Nat} {g n cap : Nat} {xs : List Value} (ho : w.ownsRow base e size (.slice (some ⟨g, 0, none⟩) n cap) n xs) (j : Nat) (v : Value) : (w.setCell ⟨g, j, none⟩ v).ownsRow base e size (.slice (some ⟨g, 0, none⟩) n cap) n (xs.set j v) := by
  obtain ⟨h1, ⟨h2, h3⟩ | ⟨k, cap', cur, hs, hbk, hk, hcap, hmx, hsz, htk⟩⟩ := ho
  · cases h2
  · injection hs with e1 e2 e3
    have e4 : g = k := by simpa using e1
    subst e4
    subst e3
    refine ⟨by rw [List.length_set]; exact h1, .inr ⟨g, cap, cur.setIfInBounds j v, rfl, hbk, ?_, hcap, hmx, by simpa using hsz, ?_⟩⟩
    · show (w.heap.modify g _)[g]? = _
      rw [Array.getElem?_modify, if_pos rfl, hk]; rfl
    · rw [Array.toList_setIfInBounds, ← htk, List.take_set]
theorem fls_modify (fn : Flo → Flo) (o : Nat) (v : Value) (ho : o < 5) (hfn : ∀ f, flC (fn f) = (flC f).set o v) : ∀ (F : List Flo) (k : Nat), k < F.length → fls (F.modify k fn) = (fls F).set (k * 5 + o) v
  | [], k, h => by simp at h
  | f :: r, 0, _ => by
    show fls (fn f :: r) = _
    unfold fls
    rw [List.flatMap_cons, List.flatMap_cons, hfn, List.set_append_left _ _ (by show 0 * 5 + o < 5; omega)]
    simp
  | f :: r, k + 1, h => by
    have ih := fls_modify fn o v ho hfn r k (by simpa using h)
    show fls (f :: r.modify k fn) = _
    unfold fls at ih ⊢
    rw [List.flatMap_cons, List.flatMap_cons, ih, List.set_append_right _ _ (by show 5 ≤ _; omega)]
    have e : (k + 1) * 5 + o - (flC f).length = k * 5 + o := by show (k + 1) * 5 + o - 5 = _; omega
    rw [e]
section
variable {N : Nat} {w0 : World} {iv : Value} {c b n : Nat} {m : Mil.Bytes → Option Int} {F : List Flo} {X : List (Nq × Value)} {fv qv : Value} {w w' : World}
theorem Cs.row (h : Cs N w0 iv c b n m F X fv qv w) (hF : F ≠ []) : ∃ g cap, fv = .slice (some ⟨g, 0, none⟩) F.length cap ∧ w0.heap.size ≤ g ∧ g < w.heap.size ∧ (∃ cur, w.heap[g]? = some (.cells cur 42 (0, 0))) := by
  rcases h.fl.2 with ⟨_, h'⟩ | ⟨g, cap, cur, e, hb, hg, _⟩
  · exact absurd (List.length_eq_zero_iff.1 h') hF
  · exact ⟨g, cap, e, hb, lt_of_heap hg, cur, hg⟩
theorem Cs.fls (h : Cs N w0 iv c b n m F X fv qv w) {g cap : Nat} (hv : fv = .slice (some ⟨g, 0, none⟩) F.length cap) : Fls w g F := fun j f hj => by
  have ho := h.fl
  rw [hv] at ho
  have at_ : ∀ i v, i < 5 → (flC f)[i]? = some v → w.cell? ⟨g, j * 5 + i, none⟩ = some v := fun i v hi hv => own_cell ho ((flat_at flC 5 (fun _ => rfl) F j i f hj hi).trans hv)
  exact ⟨at_ 0 _ (by decide) rfl, at_ 1 _ (by decide) rfl, at_ 2 _ (by decide) rfl, at_ 3 _ (by decide) rfl, at_ 4 _ (by decide) rfl⟩
theorem Cs.nm {a : Nat → Addr} (h : Cs N w0 iv c b n m F X fv qv w) (hE : Ce a w0) : Nm a c b n m w := ⟨hE.below h.blw, h.cells.2.2.1, h.mp⟩
theorem Cs.cw {a : Nat → Addr} (h : Cs N w0 iv c b n m F X fv qv w) (hE : Ce a w0) {g cap : Nat} (hv : fv = .slice (some ⟨g, 0, none⟩) F.length cap) : Cw a c b n m g F w := ⟨h.nm hE, ⟨cap, by rw [← hv]; exact h.cells.2.1⟩, h.fls hv⟩
/-- One cell of a flow is another. -/
theorem Cs.setF (h : Cs N w0 iv c b n m F X fv qv w) {g cap : Nat} (hv : fv = .slice (some ⟨g, 0, none⟩) F.length cap) (fn : Flo → Flo) (o : Nat) (v : Value) (ho : o < 5) (hfn : ∀ f, flC (fn f) = (flC f).set o v) {k : Nat} (hk : k < F.length) :
    Cs N w0 iv c b n m (F.modify k fn) X fv qv (w.setCell ⟨g, k * 5 + o, none⟩ v) := by
  have hfl := h.fl
  rw [hv] at hfl
  have gb : ∃ cur, w.heap[g]? = some (.cells cur 42 (0, 0)) := (own_lt hfl g rfl).2
  obtain ⟨cur, hg⟩ := gb
  have hg0 := (own_lt hfl g rfl).1
  have fr := fr_set w g (k * 5 + o) v
  obtain ⟨es, cl, hbm⟩ := h.mp.heap
  refine ⟨h.blw.setCell hg0 _, h.hc, h.hb, (fr.block c (lt_of_heap h.cm) (heap_nt h.cm hg (by decide))).trans h.cm, h.mp.fr fr (heap_ne hbm hg (by intro e; cases e)), ?_, own_kept h.eq (fun q hq => fr.block q (lt_of_heap (own_lt h.eq q hq).2.choose_spec) (heap_nt (own_lt h.eq q hq).2.choose_spec hg (by decide)))⟩
  rw [fls_modify fn o v ho hfn F k hk, List.length_modify, hv]
  exact own_set hfl _ v
theorem Cs.thawF (h : Cs N w0 iv c b n m F X fv qv w) {g cap : Nat} (hv : fv = .slice (some ⟨g, 0, none⟩) F.length cap) (o : Nat) : w.frozen? ⟨g, o, none⟩ = false := by
  have hfl := h.fl
  rw [hv] at hfl
  obtain ⟨cur, hg⟩ := (own_lt hfl g rfl).2
  unfold World.frozen?; rw [hg]; simp
end
theorem markAll_len (m : Mil.Bytes → Option Int) : ∀ (l : List (Mil.Bytes × Nat)) (F : List Flo), (markAll m F l).2.length = F.length
  | [], _ => rfl
  | x :: r, F => by
    rw [markAll]
    cases m x.1 with
    | none => rfl
    | some k => exact (markAll_len m r (mark F k.toNat)).trans (mark_len _ _)
/-- What a step of the compiler leaves. -/
def ScPost (N : Nat) (a : Nat → Addr) (w0 : World) (k : Nat) (r : Option Nat) (G : World → Prop) (E : Ending) (w' : World) : Prop :=
  Below w0.heap.size w0 w' ∧ ((r = none ∧ E = .returned (.pointer none) ∧ G w') ∨ ∃ p d, r = some p ∧ E = .returned (.pointer (some ⟨d, 0, none⟩)) ∧ Dg a w' d ((N : Int) - (p : Nat)) k)

set_option maxRecDepth 100000 in
set_option maxHeartbeats 8000000 in
theorem markOutputs_cs (N : Nat) {a : Nat → Addr} {w0 : World} {iv : Value} {c b n : Nat} {m : Mil.Bytes → Option Int} {F : List Flo} {X : List (Nq × Value)} {fv qv : Value} {w : World} (h : Cs N w0 iv c b n m F X fv qv w) (hE : Ce a w0) (hfit : Fit' m F) (l : List (Mil.Bytes × Nat)) (hs : Short l) (hl : l.length ≤ 4000) (k o cc : Nat) (hk : k < w0.heap.size) (hG : Nml N w0 k o l) :
    Calls Tryz.prog 44 #[.pointer (some ⟨c, 0, none⟩), .slice (some ⟨k, o, none⟩) l.length cc] w (ScPost N a w0 6 (markAll m F l).1 (fun w' => Cs N w0 iv c b n m (markAll m F l).2 X fv qv w' ∧ Kt w w')) := by
  have HC : Hid (Cs N w0 iv c b n m F X fv qv w) := h
  have HE : Hid (Ce a w0) := hE
  have HS : Hid (Short l) := hs
  have HN : Hid (Nml N w0 k o l) := hG
  have HKW : Hid (k < w0.heap.size) := hk
  have HFIT : Hid (Fit' m F) := hfit
  clear h hs hG hfit hE hk
  go_enter Tryz.func44, Tryz.ntmps44
  go_wp2_with fail
  go_loopg [11] l.length (fun gk s11 wr => ∃ (j : Nat) (Fj : List Flo), j ≤ l.length ∧ s11 = .int .i64 (j : Nat) ∧ gk = l.length - j ∧ Hid (markAll m F l = markAll m Fj (l.drop j)) ∧ Hid (Cs N w0 iv c b n m Fj X fv qv wr ∧ Fj.length = F.length) ∧ Hid (Kt w wr))
  case atStart => exact ⟨0, F, Nat.zero_le _, rfl, rfl, rfl, ⟨HC.out, rfl⟩, Kt.refl _⟩
  case round =>
    obtain ⟨j, Fj, hj, rfl, hg, HR, HCj, KT⟩ := hrel
    have HK : Hid (gk = l.length - j) := hg
    clear hg
    by_cases hlt : j < l.length
    · have HLT : Hid (j < l.length) := hlt
      obtain ⟨⟨x, p⟩, hq⟩ : ∃ q, l[j]? = some q := ⟨_, List.getElem?_eq_getElem hlt⟩
      have hcc := HN.out.fr (Fr.of_below (own := fun _ => False) HCj.out.1.blw) (fun e => e) j x p hq
      have hc0 := hcc.1
      have hc1 := hcc.2
      have HX : Hid (x.length ≤ 4000 ∧ p ≤ 10000) := HS.out (x, p) (List.mem_of_getElem? hq)
      have HQ : Hid (markAll m F l = match m x with | none => (some p, Fj) | some k => markAll m (mark Fj k.toNat) (l.drop (j + 1))) := HR.out.trans (markAll_drop m hq)
      clear hq hcc
      go_wp2_with fail
      have HB : Hid (Below wr.heap.size wr (wr.alloc (.cells #[.int .i64 ((N : Int) - (p : Nat)), .string (bs x)] 85))) := (Below.refl _ _).alloc (Nat.le_refl _) _
      have HC1 : Hid (Cs N w0 iv c b n m Fj X fv qv (wr.alloc (.cells #[.int .i64 ((N : Int) - (p : Nat)), .string (bs x)] 85))) := HCj.out.1.below HB.out
      have N1 := HC1.out.nm HE.out
      cases hm : m x with
      | none =>
        have HM : Hid (m x = none) := hm
        refine (numberOf_none a _ N1.ce c b n N1.c2 m N1.mp x HX.out.1 _ hm).mono ?_
        rintro E w2 ⟨hb2, d, rfl, hd⟩
        have HDG : Hid (Dg a w2 d ((N : Int) - (p : Nat)) 6) := hd
        have HB2 : Hid (Below w0.heap.size w0 w2) := below_step HC1.out.blw hb2
        have HP : Hid ((markAll m F l).1 = some p) := by rw [HQ.out, HM.out]; rfl
        clear hb2 hd N1 hm hc0 hc1
        go_wp2
        go_ret
        exact ⟨HB2.out, Or.inr ⟨p, d, HP.out, rfl, HDG.out⟩⟩
      | some kk =>
        obtain ⟨i, rfl, hi⟩ := HFIT.out x kk hm
        have HM : Hid (m x = some (i : Int)) := hm
        refine (numberOf_some _ c b n N1.c2 m N1.mp x HX.out.1 _ (i : Int) hm).mono ?_
        rintro E w2 ⟨hb2, rfl⟩
        have HC2 : Hid (Cs N w0 iv c b n m Fj X fv qv w2) := HC1.out.below hb2
        have HI : Hid (i < Fj.length) := by have := HCj.out.2; show _ < _; omega
        obtain ⟨g, cap, hfv, hg0, hgl, hgc⟩ := HC2.out.row (fun e => by have := HI.out; rw [e] at this; simp at this)
        have HFV : Hid (fv = .slice (some ⟨g, 0, none⟩) Fj.length cap) := hfv
        have c1 := HC2.out.cells.2.1
        rw [hfv] at c1
        obtain ⟨fi, hfi⟩ : ∃ fi, Fj[i]? = some fi := ⟨_, List.getElem?_eq_getElem HI.out⟩
        have c4 := (HC2.out.fls hfv i fi hfi).2.2.2.2
        have z4 := HC2.out.thawF hfv (i * 5 + 4)
        have i1 : (i : Int) < (Fj.length : Int) := by have := HI.out; omega
        have i0 : (0 : Int) ≤ (i : Int) := by omega
        have HR2 : Hid (markAll m F l = markAll m (mark Fj i) (l.drop (j + 1))) := by have h := HQ.out; rw [HM.out] at h; exact h
        have HC3 : Hid (Cs N w0 iv c b n m (mark Fj i) X fv qv (w2.setCell ⟨g, i * 5 + 4, none⟩ (.bool true))) := HC2.out.setF HFV.out (fun f => { f with out := true }) 4 (.bool true) (by decide) (fun _ => rfl) HI.out
        have HT3 : Hid (Kt w (w2.setCell ⟨g, i * 5 + 4, none⟩ (.bool true))) := by
          obtain ⟨cur, hcur⟩ := hgc
          exact ((KT.out.step HB.out).step hb2).one (fr_set w2 g (i * 5 + 4) _) hcur (by decide)
        clear hb2 N1 hm hc0 hc1 hfi hfv
        go_wp2
        go_roundg (l.length - (j + 1))
        case measure => have := HK.out; have := HLT.out; omega
        case rel => exact ⟨j + 1, mark Fj i, HLT.out, by go_num, rfl, HR2, ⟨HC3.out, (mark_len _ _).trans HCj.out.2⟩, HT3⟩
    · have hle : (l.length : Int) ≤ (j : Int) := by omega
      have HJ : Hid (j = l.length) := by show _ = _; omega
      go_wp2
      go_ret
      have e1 : markAll m F l = (none, Fj) := by rw [HR.out, HJ.out, List.drop_length]; rfl
      exact ⟨HCj.out.1.blw, Or.inl ⟨by rw [e1], rfl, by rw [e1]; exact ⟨HCj.out.1, KT.out⟩⟩⟩

set_option maxRecDepth 100000 in
set_option maxHeartbeats 8000000 in
theorem resolve_any (N : Nat) {a : Nat → Addr} {w0 : World} {c b n : Nat} {m : Mil.Bytes → Option Int} {F : List Flo} {X : List (Nq × Value)} {fv qv : Value} {w : World} (b0 : Nat) (l : List Mip.It) (hl : Items l) (o : Option Addr) (ci : Nat) (hR : Row N w0 b0 l (.slice o l.length ci)) (h : Cs N w0 (.slice o l.length ci) c b n m F X fv qv w) (hE : Ce a w0) (hfit : Fit' m F) :
    Calls Tryz.prog 23 #[.pointer (some ⟨c, 0, none⟩)] w (ScPost N a w0 6 (reso m F l).1 (fun w' => Cs N w0 (.slice o l.length ci) c b n m (reso m F l).2 X fv qv w' ∧ Kt w w')) := by
  have HC : Hid (Cs N w0 (.slice o l.length ci) c b n m F X fv qv w) := h
  have HE : Hid (Ce a w0) := hE
  have HI : Hid (Items l) := hl
  have HR : Hid (Row N w0 b0 l (.slice o l.length ci)) := hR
  have HFIT : Hid (Fit' m F) := hfit
  have hll := hl.len
  have c0 := h.cells.1
  clear h hE hl hR hfit
  go_enter Tryz.func23, Tryz.ntmps23
  go_wp2_with fail
  go_loopg [13] l.length (fun gk s13 wr => ∃ (j : Nat) (Fj : List Flo), j ≤ l.length ∧ s13 = .int .i64 (j : Nat) ∧ gk = l.length - j ∧ Hid (reso m F l = reso m Fj (l.drop j)) ∧ Hid (Cs N w0 (.slice o l.length ci) c b n m Fj X fv qv wr ∧ Fj.length = F.length) ∧ Hid (Kt w wr))
  case atStart => exact ⟨0, F, Nat.zero_le _, rfl, rfl, rfl, ⟨HC.out, rfl⟩, Kt.refl _⟩
  case round =>
    obtain ⟨j, Fj, hj, rfl, hg, KD, KC, KT⟩ := hrel
    have HG : Hid (gk = l.length - j) := hg
    clear hg c0
    by_cases hlt : j < l.length
    · obtain ⟨i, hi⟩ : ∃ i, l[j]? = some i := ⟨_, List.getElem?_eq_getElem hlt⟩
      obtain ⟨gi, v, rfl, hv, hIv⟩ := item_at HR.out KC.out.1.blw hi
      have HOK : Hid (IOk i) := HI.out.ok i (List.mem_of_getElem? hi)
      have HSH : Hid (Short i.names ∧ i.names.length ≤ 600) := HI.out.short i (List.mem_of_getElem? hi)
      have HNE : Hid (i.kind = 2 → i.names ≠ []) := HI.out.some_ i (List.mem_of_getElem? hi)
      have HD : Hid (reso m F l = reso m Fj (i :: l.drop (j + 1))) := KD.out.trans (reso_drop m hi)
      have HL60 : Hid (l.length ≤ 60) := hll
      have HLT : Hid (j < l.length) := hlt
      have h0j : (0 : Int) ≤ (j : Int) := by omega
      have h1j : (j : Int) < (l.length : Int) := by omega
      clear hi KD
      rcases hIv with ⟨hk, rfl⟩ | ⟨hk, r, rfl, hr⟩ | ⟨hk, rfl⟩
      · have HK : Hid (i.kind = 1) := hk
        have t1 := ti_in_eq (.agg #[.int .i64 ((N : Int) - (i.at_ : Nat)), .string (bs i.nm), .int .i64 (i.ty : Nat), .int .i64 (i.every : Nat)])
        have t2 := ti_in_out (.agg #[.int .i64 ((N : Int) - (i.at_ : Nat)), .string (bs i.nm), .int .i64 (i.ty : Nat), .int .i64 (i.every : Nat)])
        have HR2 : Hid (reso m F l = reso m Fj (l.drop (j + 1))) := by show _ = _; rw [HD.out, reso, if_neg (by have := HK.out; omega), if_neg (by have := HK.out; omega)]
        clear hk
        go_wp2
        go_roundg (l.length - (j + 1))
        case measure => have := HG.out; have := HLT.out; omega
        case rel => exact ⟨j + 1, Fj, HLT.out, by go_num, rfl, HR2, KC, KT⟩
      · have HK : Hid (i.kind = 2) := hk
        have t1 := ti_out_eq (.agg #[r])
        have t2 := ti_out_out (.agg #[r])
        obtain ⟨or, cr, hrs⟩ := own_shape hr
        subst hrs
        have HRW : Hid (w0.ownsRow (b0 + 1) 85 2 (.slice or i.names.length cr) i.names.length (nms N i.names)) := hr
        have XB : Hid (Below wr.heap.size wr (wr.alloc (.cells #[.slice or i.names.length cr] 125))) := (Below.refl _ _).alloc (Nat.le_refl _) _
        have XC : Hid (Cs N w0 (.slice (some ⟨gi, 0, none⟩) l.length ci) c b n m Fj X fv qv (wr.alloc (.cells #[.slice or i.names.length cr] 125))) := KC.out.1.below XB.out
        clear hk hr
        go_wp2_with fail
        have KTV : Hid (Kt w (wr.alloc (.cells #[.slice or i.names.length cr] 125))) := KT.out.step XB.out
        clear t1 t2 hv XB
        generalize wr.alloc (.cells #[.slice or i.names.length cr] 125) = V at XC KTV ⊢
        obtain ⟨gn, hgn, hgl⟩ : ∃ gn, or = some ⟨gn, 0, none⟩ ∧ gn < w0.heap.size := by
          have hne : i.names ≠ [] := HNE.out HK.out
          rcases HRW.out.2 with ⟨e, e'⟩ | ⟨g, cap, cur, e, _, hgg, _⟩
          · exact absurd (List.length_eq_zero_iff.1 e') hne
          · injection e with e1 e2 e3
            exact ⟨g, e1, lt_of_heap hgg⟩
        subst hgn
        have HFJ : Hid (Fit' m Fj) := fun x k hx => by
          obtain ⟨q, e1, e2⟩ := HFIT.out x k hx
          exact ⟨q, e1, by rw [KC.out.2]; exact e2⟩
        refine (markOutputs_cs N XC.out HE.out HFJ.out i.names HSH.out.1 (by have := HSH.out.2; omega) gn 0 cr hgl (names_at HRW.out (Below.refl _ _))).mono ?_
        rintro E w1 ⟨hb1, (⟨hn, rfl, hC1, hT1⟩ | ⟨p, d, hn, rfl, hd⟩)⟩
        · have HR2 : Hid (reso m F l = reso m (markAll m Fj i.names).2 (l.drop (j + 1))) := by
            show _ = _
            rw [HD.out, reso, if_neg (by have := HK.out; omega), if_pos HK.out, if_neg (by rw [hn]; decide)]
          have HC1 : Hid (Cs N w0 (.slice (some ⟨gi, 0, none⟩) l.length ci) c b n m (markAll m Fj i.names).2 X fv qv w1 ∧ (markAll m Fj i.names).2.length = F.length) := ⟨hC1, (markAll_len m i.names Fj).trans KC.out.2⟩
          have HT1 : Hid (Kt w w1) := KTV.out.trans hT1
          clear hC1 hn hb1 hT1
          go_wp2
          go_roundg (l.length - (j + 1))
          case measure => have := HG.out; have := HLT.out; omega
          case rel => exact ⟨j + 1, (markAll m Fj i.names).2, HLT.out, by go_num, rfl, HR2, HC1, HT1⟩
        · have HP : Hid ((reso m F l).1 = some p) := by
            show _ = _
            rw [HD.out, reso, if_neg (by have := HK.out; omega), if_pos HK.out, if_pos (by rw [hn]; rfl), hn]
          have HB1 : Hid (Below w0.heap.size w0 w1) := hb1
          have HDG : Hid (Dg a w1 d ((N : Int) - (p : Nat)) 6) := hd
          clear hb1 hd hn
          go_wp2
          go_ret
          exact ⟨HB1.out, Or.inr ⟨p, d, HP.out, rfl, HDG.out⟩⟩
      · have HK : Hid (i.kind = 3) := hk
        have HW : Hid (Mil.wf (Mip.er i.body) false) := by
          rcases HOK.out with ⟨e, _⟩ | ⟨e, _⟩ | ⟨_, e, _, e'⟩
          · have := HK.out; omega
          · have := HK.out; omega
          · exact e'
        obtain ⟨T, y, hev⟩ := ev_iface N i.body HW.out
        have HEV : Hid (ev N i.body = .iface T y) := hev
        rw [hev] at hv
        have t1 := ti_eq_eq (.agg #[.int .i64 ((N : Int) - (i.at_ : Nat)), .string (bs i.nm), .int .i64 (i.ty : Nat), .iface T y])
        have XB : Hid (Below wr.heap.size wr (wr.alloc (.cells #[.int .i64 ((N : Int) - (i.at_ : Nat)), .string (bs i.nm), .int .i64 (i.ty : Nat), .iface T y] 89))) := (Below.refl _ _).alloc (Nat.le_refl _) _
        have XC : Hid (Cs N w0 (.slice (some ⟨gi, 0, none⟩) l.length ci) c b n m Fj X fv qv (wr.alloc (.cells #[.int .i64 ((N : Int) - (i.at_ : Nat)), .string (bs i.nm), .int .i64 (i.ty : Nat), .iface T y] 89))) := KC.out.1.below XB.out
        clear hk hev
        go_wp2_with fail
        have KTV : Hid (Kt w (wr.alloc (.cells #[.int .i64 ((N : Int) - (i.at_ : Nat)), .string (bs i.nm), .int .i64 (i.ty : Nat), .iface T y] 89))) := KT.out.step XB.out
        clear t1 hv XB
        generalize wr.alloc (.cells #[.int .i64 ((N : Int) - (i.at_ : Nat)), .string (bs i.nm), .int .i64 (i.ty : Nat), .iface T y] 89) = V at XC KTV ⊢
        have RC1 := resolveIn_any N a c b n m i.body HW.out V (XC.out.nm HE.out)
        rw [HEV.out] at RC1
        refine RC1.mono ?_
        rintro E w1 ⟨hb1, (⟨hn, rfl⟩ | ⟨p, d, hn, rfl, hd⟩)⟩
        · have HR2 : Hid (reso m F l = reso m Fj (l.drop (j + 1))) := by
            show _ = _
            rw [HD.out, reso, if_pos HK.out, if_neg (by rw [hn]; decide)]
          have HC1 : Hid (Cs N w0 (.slice (some ⟨gi, 0, none⟩) l.length ci) c b n m Fj X fv qv w1 ∧ Fj.length = F.length) := ⟨XC.out.below hb1, KC.out.2⟩
          have HT1 : Hid (Kt w w1) := KTV.out.step hb1
          clear hn hb1 RC1
          go_wp2
          go_roundg (l.length - (j + 1))
          case measure => have := HG.out; have := HLT.out; omega
          case rel => exact ⟨j + 1, Fj, HLT.out, by go_num, rfl, HR2, HC1, HT1⟩
        · have HP : Hid ((reso m F l).1 = some p) := by
            show _ = _
            rw [HD.out, reso, if_pos HK.out, if_pos (by rw [hn]; rfl), hn]
          have HB1 : Hid (Below w0.heap.size w0 w1) := below_step XC.out.blw hb1
          have HDG : Hid (Dg a w1 d ((N : Int) - (p : Nat)) 6) := hd
          clear hb1 hd hn RC1
          go_wp2
          go_ret
          exact ⟨HB1.out, Or.inr ⟨p, d, HP.out, rfl, HDG.out⟩⟩
    · have hle : (l.length : Int) ≤ (j : Int) := by omega
      have HJ : Hid (j = l.length) := by show _ = _; omega
      go_wp2
      go_ret
      have e1 : reso m F l = (none, Fj) := by rw [KD.out, HJ.out, List.drop_length]; rfl
      exact ⟨KC.out.1.blw, Or.inl ⟨by rw [e1], rfl, by rw [e1]; exact ⟨KC.out.1, KT.out⟩⟩⟩

end Go.Proofs.YtibbjohkiigffaaGreatDoor
