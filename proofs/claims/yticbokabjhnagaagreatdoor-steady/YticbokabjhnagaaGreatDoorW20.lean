import Derived.Test.YticbokabjhnagaaGreatDoorW19
namespace Go.Proofs.YticbokabjhnagaaGreatDoor
set_option maxHeartbeats 32000000
section
open Go.RowKit
namespace Mil
theorem names_mu : ∀ (n : Nat) (acc : List Bytes) (s : St) (x : List Bytes × St), pnames n acc s = some x → mu x.2 ≤ mu s
  | 0, _, _, _, h => by cases h
  | n + 1, acc, s, x, h => by
    rw [pnames] at h
    split at h
    · obtain ⟨s1, h1, h⟩ := Option.bind_eq_some_iff.1 h
      obtain ⟨y, h2, h⟩ := Option.bind_eq_some_iff.1 h
      have := names_mu n _ _ _ h
      have := adv_le h1
      have := name_mu h2
      omega
    · obtain rfl := Option.some.inj h
      exact Nat.le_refl _
theorem rit_mu {s : St} {i : It} {t : St} (h : Rit s i t) : mu t < mu s := by
  by_cases n0 : sees s wInput = true
  · obtain ⟨s1, h1, x, s3, y, s5, k, h2, h3, h4, h5, h6, h7, _⟩ := (it_in n0 i t).1 h
    have a1 := adv_mu h1 (by rw [(sees_kind3 n0).1]; decide)
    have a2 := name_mu h2
    have a3 := want_mu h3
    have a5 := want_mu h5
    have a6 := number_mu h6
    have a7 := want_mu h7
    have a4 : mu y.2 ≤ mu s3 := by
      unfold ftype at h4
      split at h4
      · obtain ⟨q, hq, rfl⟩ := Option.map_eq_some_iff.1 h4; exact adv_le hq
      · split at h4
        · obtain ⟨q, hq, rfl⟩ := Option.map_eq_some_iff.1 h4; exact adv_le hq
        · cases h4
    omega
  · by_cases n1 : sees s wOutput = true
    · obtain ⟨s1, h1, x, l, h2, h3, h7, _⟩ := (it_out n1 i t).1 h
      have a1 := adv_mu h1 (by rw [(sees_kind3 n1).1]; decide)
      have a2 := name_mu h2
      have a7 := want_mu h7
      have a3 : mu l.2 ≤ mu x.2 := by
        obtain ⟨n, hn⟩ := h3
        exact names_mu n _ _ _ hn
      omega
    · obtain ⟨x, s3, y, s5, k, h2, h3, h4, h5, h6, h7, _⟩ := (it_eq (Bool.eq_false_iff.2 n0) (Bool.eq_false_iff.2 n1) i t).1 h
      have a2 := name_mu h2
      have a3 := want_mu h3
      have a5 := want_mu h5
      have a6 := ok_mu h6
      have a7 := want_mu h7
      have a4 : mu y.2 ≤ mu s3 := by
        unfold ftype at h4
        split at h4
        · obtain ⟨q, hq, rfl⟩ := Option.map_eq_some_iff.1 h4; exact adv_le hq
        · split at h4
          · obtain ⟨q, hq, rfl⟩ := Option.map_eq_some_iff.1 h4; exact adv_le hq
          · cases h4
      omega
def Rprog' (b : Bytes) (l : List It) : Prop := ∃ s, adv' b 0 = some s ∧ ∃ n, pprog n [] s = some l
def Rprog (acc : List It) (s : St) (l : List It) : Prop := ∃ n, pprog n acc s = some l
theorem Rprog.unique {acc : List It} {s : St} {x y : List It} (h : Rprog acc s x) (k : Rprog acc s y) : x = y := by
  obtain ⟨n, hn⟩ := h
  obtain ⟨m, hm⟩ := k
  have h1 := pprog_le n (n + m) acc s x (by omega) hn
  have h2 := pprog_le m (n + m) acc s y (by omega) hm
  exact Option.some.inj (h1.symm.trans h2)
theorem prog_stop {acc : List It} {s : St} (h : s.tok.kind = 0) : Rprog acc s acc := ⟨1, by rw [pprog, if_pos h]⟩
theorem prog_go {acc : List It} {s t : St} {i : It} (h : s.tok.kind ≠ 0) (h6 : acc.length ≠ 60) (hi : Rit s i t) (l : List It) : Rprog acc s l ↔ Rprog (acc ++ [i]) t l := by
  constructor
  · rintro ⟨n, hn⟩
    cases n with
    | zero => cases hn
    | succ n =>
      rw [pprog, if_neg h, if_neg h6] at hn
      obtain ⟨x, h1, h2⟩ := Option.bind_eq_some_iff.1 hn
      have := Rit.unique ⟨n, h1⟩ hi
      obtain ⟨e1, e2⟩ := Prod.mk.inj this
      subst e1 e2
      exact ⟨n, h2⟩
  · rintro ⟨n, hn⟩
    obtain ⟨m, hm⟩ := hi
    refine ⟨n + m + 1, ?_⟩
    rw [pprog, if_neg h, if_neg h6, pitem_le (show m ≤ n + m by omega) hm, Option.bind_some]
    exact pprog_le n (n + m) _ _ _ (by omega) hn
theorem fault_size {s : ByteArray} {k : Nat} {p : Int} (h : advZ' s.size s.data.toList 0 = .bad k p ∨ ∃ st, adv' s.data.toList 0 = some st ∧ BadP s.size [] st k p) : Fault s.data.toList k p := by
  unfold Fault
  rw [show s.data.toList.length = s.size from by simp]
  exact h
theorem fault_no {b : Bytes} {k : Nat} {p : Int} (h : Fault b k p) (l : List It) : ¬ Rprog' b l := by
  rintro ⟨s, h1, n, h2⟩
  rcases h with h | ⟨s', h3, m, h4⟩
  · have := imz_adv' b.length _ _ _ h1
    rw [this] at h; cases h
  · obtain rfl := Option.some.inj (h1.symm.trans h3)
    have h5 := imz_pprog b.length (n + m) [] s l (pprog_le n (n + m) _ _ _ (by omega) h2)
    have h6 := h4 (n + m) (by omega)
    have h7 : pprogZ b.length (n + m) [] s = .bad k p := h6
    rw [h5] at h7; cases h7
end Mil
namespace Mip
open Mil
def Rprog' (b : Bytes) (l : List It) : Prop := ∃ s, adv' b 0 = some s ∧ ∃ n, pprog n [] s = some l
def Rprog (acc : List It) (s : St) (l : List It) : Prop := ∃ n, pprog n acc s = some l
theorem Rprog.unique {acc : List It} {s : St} {x y : List It} (h : Rprog acc s x) (k : Rprog acc s y) : x = y := by
  obtain ⟨n, hn⟩ := h
  obtain ⟨m, hm⟩ := k
  have h1 := pprog_le n (n + m) acc s x (by omega) hn
  have h2 := pprog_le m (n + m) acc s y (by omega) hm
  exact Option.some.inj (h1.symm.trans h2)
theorem prog_stop {acc : List It} {s : St} (h : s.tok.kind = 0) : Rprog acc s acc := ⟨1, by rw [pprog, if_pos h]⟩
theorem prog_go {acc : List It} {s t : St} {i : It} (h : s.tok.kind ≠ 0) (h6 : acc.length ≠ 60) (hi : Rit s i t) (l : List It) : Rprog acc s l ↔ Rprog (acc ++ [i]) t l := by
  constructor
  · rintro ⟨n, hn⟩
    cases n with
    | zero => cases hn
    | succ n =>
      rw [pprog, if_neg h, if_neg h6] at hn
      obtain ⟨x, h1, h2⟩ := Option.bind_eq_some_iff.1 hn
      have := Rit.unique ⟨n, h1⟩ hi
      obtain ⟨e1, e2⟩ := Prod.mk.inj this
      subst e1 e2
      exact ⟨n, h2⟩
  · rintro ⟨n, hn⟩
    obtain ⟨m, hm⟩ := hi
    refine ⟨n + m + 1, ?_⟩
    rw [pprog, if_neg h, if_neg h6, pitem_le (show m ≤ n + m by omega) hm, Option.bind_some]
    exact pprog_le n (n + m) _ _ _ (by omega) hn
end Mip
theorem Tryz.infoItemM : (Tryz.prog.info? 141).map (fun i => (i.zero, i.size, i.bytes)) = some (some .nilIface, 1, 16) := by kernel_rfl
def Ivs (N : Nat) (w : World) (b : Nat) (l : List Mip.It) (vs : List Value) : Prop := l.length = vs.length ∧ ∀ (k : Nat) (i : Mip.It) (v : Value), l[k]? = some i → vs[k]? = some v → Iv N w b i v
def Row (N : Nat) (w : World) (b : Nat) (l : List Mip.It) (v : Value) : Prop := ∃ vs, w.ownsRow (b + 1) 141 1 v l.length vs ∧ Ivs N w b l vs
def RiPost (N : Nat) (r : Mil.Bytes) (a : Nat → Addr) (w : World) (e : Ending) (w' : World) : Prop :=
  Below w.heap.size w w' ∧
  ((∃ l b o n c, w.heap.size ≤ b ∧ e = .returned (.tuple #[.slice o n c, .pointer none]) ∧ Mip.Rprog' r l ∧ Row N w' b l (.slice o n c)) ∨
   (∃ k at_ d, (k = 1 ∨ k = 2 ∨ k = 3 ∨ k = 4) ∧ e = .returned (.tuple #[.slice none 0 0, .pointer (some ⟨d, 0, none⟩)]) ∧ w'.heap[d]? = some (.cells #[.int .i64 at_, errV (a k)] 81 (0, 0)) ∧ Mil.Fault r k at_))
abbrev D0 (B : Nat) : List Deferred := [{ target := .fn (.func 51) #[.pointer (some ⟨B, 0, none⟩), .pointer (some ⟨B + 1, 0, none⟩)], args := #[] }]
structure Vars (w : World) (B : Nat) (v0 v1 : Value) : Prop where
  b0 : w.heap[B]? = some (.cells #[v0] 71 (0, 0))
  b1 : w.heap[B + 1]? = some (.cells #[v1] 69 (0, 0))
theorem Vars.c0 {w : World} {B : Nat} {v0 v1 : Value} (h : Vars w B v0 v1) : w.cell? ⟨B, 0, none⟩ = some v0 := by
  rw [cell_of_row w B 0 _ _ _ h.b0]; rfl
theorem Vars.c1 {w : World} {B : Nat} {v0 v1 : Value} (h : Vars w B v0 v1) : w.cell? ⟨B + 1, 0, none⟩ = some v1 := by
  rw [cell_of_row w (B + 1) 0 _ _ _ h.b1]; rfl
theorem Vars.f0 {w : World} {B : Nat} {v0 v1 : Value} (h : Vars w B v0 v1) : w.frozen? ⟨B, 0, none⟩ = false := by
  simp [World.frozen?, h.b0]
theorem Vars.f1 {w : World} {B : Nat} {v0 v1 : Value} (h : Vars w B v0 v1) : w.frozen? ⟨B + 1, 0, none⟩ = false := by
  simp [World.frozen?, h.b1]
theorem Vars.kept {w w' : World} {B b : Nat} {v0 v1 : Value} (h : Vars w B v0 v1) (k : Kp b w w') (hb : B + 2 ≤ b) : Vars w' B v0 v1 :=
  ⟨(k.block B (Array.getElem?_eq_some_iff.1 h.b0).1 (by omega)).trans h.b0, (k.block (B + 1) (Array.getElem?_eq_some_iff.1 h.b1).1 (by omega)).trans h.b1⟩
theorem leaves_thrown (N : Nat) (r : Mil.Bytes) (a : Nat → Addr) (w w1 : World) (tm : Array Value) (h2 : tm[2]? = some (.pointer (some ⟨w.heap.size, 0, none⟩))) (h3 : tm[3]? = some (.pointer (some ⟨w.heap.size + 1, 0, none⟩))) (v0 v1 : Value)
    (V : Vars w1 w.heap.size v0 v1) (hb : Below w.heap.size w w1) (k : Nat) (at_ : Int) (d : Nat) (hkk : k = 1 ∨ k = 2 ∨ k = 3 ∨ k = 4) (hd : w1.heap[d]? = some (.cells #[.int .i64 at_, errV (a k)] 81 (0, 0))) (hno : Mil.Fault r k at_) :
    bodyPostD Tryz.prog Tryz.f31 (RiPost N r a w) (Exit.panic [{ v := .iface 69 (.pointer (some ⟨d, 0, none⟩)), recovered := false }]) { tmps := tm, defers := D0 w.heap.size } w1 := by
  refine leaves_cons (f := 51) (args := #[.pointer (some ⟨w.heap.size, 0, none⟩), .pointer (some ⟨w.heap.size + 1, 0, none⟩)]) (by simp) (by simp [go_sem]) ?_
  refine (catch_hit ⟨w.heap.size, 0, none⟩ ⟨w.heap.size + 1, 0, none⟩ v0 v1 d w1 V.c0 V.c1 V.f0 V.f1 (by simp)).mono ?_
  rintro e u' w'' ⟨rfl, rfl, rfl⟩
  have hd0 : d ≠ w.heap.size := by
    rintro rfl
    rw [V.b0] at hd
    cases hd
  have hd1 : d ≠ w.heap.size + 1 := by
    rintro rfl
    rw [V.b1] at hd
    cases hd
  have e0 : (w1.setCell ⟨w.heap.size, 0, none⟩ (.slice none 0 0)).cell? ⟨w.heap.size, 0, none⟩ = some (.slice none 0 0) := World.cell?_setCell_same _ _ _ V.c0
  have e1 : ((w1.setCell ⟨w.heap.size, 0, none⟩ (.slice none 0 0)).setCell ⟨w.heap.size + 1, 0, none⟩ (.pointer (some ⟨d, 0, none⟩))).cell? ⟨w.heap.size + 1, 0, none⟩ = some (.pointer (some ⟨d, 0, none⟩)) :=
    World.cell?_setCell_same (w1.setCell ⟨w.heap.size, 0, none⟩ (.slice none 0 0)) _ _ ((World.cell?_setCell_other _ _ ⟨w.heap.size + 1, 0, none⟩ _ (by simp)).trans V.c1)
  simp [Leaves, settle, results, Tryz.results31, go_sem, h2, h3, e0, e1]
  refine ⟨(hb.setCell (Nat.le_refl _) _).setCell (p := ⟨w.heap.size + 1, 0, none⟩) (Nat.le_succ _) _, Or.inr ⟨k, at_, d, hkk, rfl, ?_, hno⟩⟩
  rw [Below.heap_setCell _ _ _ d hd1, Below.heap_setCell _ _ _ d hd0]
  exact hd
theorem leaves_done (N : Nat) (r : Mil.Bytes) (a : Nat → Addr) (w w1 : World) (tm : Array Value) (h2 : tm[2]? = some (.pointer (some ⟨w.heap.size, 0, none⟩))) (h3 : tm[3]? = some (.pointer (some ⟨w.heap.size + 1, 0, none⟩))) (o : Option Addr) (n c : Nat)
    (V : Vars w1 w.heap.size (.slice o n c) (.pointer none)) (hb : Below w.heap.size w w1) (l : List Mip.It) (b : Nat) (hwb : w.heap.size ≤ b) (hl : Mip.Rprog' r l) (hR : Row N w1 b l (.slice o n c)) :
    Leaves Tryz.prog Tryz.f31 tm (RiPost N r a w) (D0 w.heap.size) .returning w1 := by
  refine leaves_cons (f := 51) (args := #[.pointer (some ⟨w.heap.size, 0, none⟩), .pointer (some ⟨w.heap.size + 1, 0, none⟩)]) (by simp) (by simp [go_sem]) ?_
  refine (catch_idle ⟨w.heap.size, 0, none⟩ ⟨w.heap.size + 1, 0, none⟩ w1).mono ?_
  rintro e u' w'' ⟨rfl, rfl, rfl⟩
  have e0 := V.c0
  have e1 := V.c1
  simp [Leaves, settle, results, Tryz.results31, go_sem, h2, h3, e0, e1]
  exact ⟨hb, Or.inl ⟨l, b, o, n, c, hwb, rfl, hl, hR⟩⟩
theorem leaves_tm {fn : Func} {tm tm' : Array Value} {R : Ending → World → Prop} (h : results fn tm = results fn tm') : ∀ (ds : List Deferred) (u : FrameMode) (w : World), Leaves Tryz.prog fn tm R ds u w → Leaves Tryz.prog fn tm' R ds u w := by
  intro ds
  induction ds with
  | nil =>
    intro u w hl
    cases u with
    | returning => obtain ⟨v, h1, h2⟩ := hl; exact ⟨v, by rw [← h]; exact h1, h2⟩
    | panicking c => exact hl
    | run => exact hl
  | cons d ds ih =>
    rintro u w ⟨hu, fv, cap, f, args, h1, h2, h3⟩
    refine ⟨hu, fv, cap, f, args, h1, h2, h3.mono ?_⟩
    intro e u' w' hr
    cases e with
    | returned v => exact ih _ _ hr
    | panicked c => exact ih _ _ hr
    | outgrown => exact hr
theorem bp_put {R : Ending → World → Prop} {c : List PanicEntry} {a : Act} {i : Nat} {v : Value} {w : World} (h2 : i ≠ 2) (h3 : i ≠ 3) (h : bodyPostD Tryz.prog Tryz.f31 R (.panic c) (a.put (some i) v) w) :
    bodyPostD Tryz.prog Tryz.f31 R (.panic c) a w := by
  refine leaves_tm ?_ _ _ _ h
  show results _ (a.tmps.setIfInBounds i v) = _
  simp [results, Tryz.results31, Array.getElem?_setIfInBounds, h2, h3]
theorem Vars.set0 {w : World} {B : Nat} {v0 v1 : Value} (h : Vars w B v0 v1) (v : Value) : Vars (w.setCell ⟨B, 0, none⟩ v) B v v1 := by
  refine ⟨?_, (Below.heap_setCell _ _ _ (B + 1) (by simp)).trans h.b1⟩
  show (w.heap.modify B _)[B]? = _
  rw [Array.getElem?_modify, if_pos rfl, h.b0]; rfl
theorem Vars.set1 {w : World} {B : Nat} {v0 v1 : Value} (h : Vars w B v0 v1) (v : Value) : Vars (w.setCell ⟨B + 1, 0, none⟩ v) B v0 v := by
  refine ⟨(Below.heap_setCell _ _ _ B (by simp)).trans h.b0, ?_⟩
  show (w.heap.modify (B + 1) _)[B + 1]? = _
  rw [Array.getElem?_modify, if_pos rfl, h.b1]; rfl
theorem Row.kept {N : Nat} {w w' : World} {b c : Nat} {l : List Mip.It} {v : Value} (h : Row N w b l v) (hk : Kp c w w') (hc : c ≤ b) : Row N w' b l v := by
  obtain ⟨vs, h1, h2, h3⟩ := h
  refine ⟨vs, hk.owns h1 (by omega), h2, fun k i u e1 e2 => ?_⟩
  rcases h3 k i u e1 e2 with h | ⟨g1, r, g2, g3⟩ | h
  · exact Or.inl h
  · exact Or.inr (Or.inl ⟨g1, r, g2, hk.owns g3 (by omega)⟩)
  · exact Or.inr (Or.inr h)
theorem Row.shape {N : Nat} {w : World} {b : Nat} {l : List Mip.It} {v : Value} (h : Row N w b l v) : ∃ o c, v = .slice o l.length c := by
  obtain ⟨vs, h1, _⟩ := h
  rcases h1.2 with ⟨h, h'⟩ | ⟨g, cap, cur, h, _⟩
  · exact ⟨none, 0, by rw [h, h']⟩
  · exact ⟨_, _, h⟩
theorem Row.nil (N : Nat) (w : World) (b : Nat) : Row N w b [] (.slice none 0 0) := ⟨[], World.ownsRow_nil _ _ _ _, rfl, fun k i v h => by simp at h⟩
theorem iv_grown {N : Nat} {w6 w7 : World} {b : Nat} {i : Mip.It} {v : Value} (h : Iv N w6 b i v) {row : Option Nat} (hg : w6.grownBy w7 row) (hrow : ∀ k, row = some k → ∃ cur, w6.heap[k]? = some (.cells cur 141 (0, 0))) : Iv N w7 b i v := by
  rcases h with h | ⟨h1, r, h2, h3⟩ | h
  · exact Or.inl h
  · refine Or.inr (Or.inl ⟨h1, r, h2, h3.1, ?_⟩)
    rcases h3.2 with hn | ⟨g, cap, cur, rfl, hbg, hgg, rest⟩
    · exact .inl hn
    · refine .inr ⟨g, cap, cur, rfl, hbg, (hg.block g (Array.getElem?_eq_some_iff.1 hgg).1 (fun e => ?_)).trans hgg, rest⟩
      obtain ⟨cur', hc⟩ := hrow g e.symm
      rw [hgg] at hc
      cases hc
  · exact Or.inr (Or.inr h)
theorem Row.more {N : Nat} {w5 w7 : World} {b : Nat} {acc : List Mip.It} {v7 x : Value} {vs : List Value} {i : Mip.It} (hv : Ivs N w5 b acc vs) (iv : Iv N w5 b i x) (k : ∀ i v, Iv N w5 b i v → Iv N w7 b i v)
    (O : w7.ownsRow (b + 1) 141 1 v7 (acc.length + 1) (vs ++ [x])) : Row N w7 b (acc ++ [i]) v7 := by
  refine ⟨vs ++ [x], by rw [List.length_append]; exact O, by rw [List.length_append, List.length_append, hv.1]; rfl, fun j i' u e1 e2 => ?_⟩
  refine k _ _ ?_
  rcases Nat.lt_or_ge j acc.length with h | h
  · rw [List.getElem?_append_left h] at e1
    rw [List.getElem?_append_left (by rw [← hv.1]; exact h)] at e2
    exact hv.2 j i' u e1 e2
  · rw [List.getElem?_append_right h] at e1
    rw [List.getElem?_append_right (by rw [← hv.1]; exact h)] at e2
    have h0 : j - acc.length = 0 := by
      rcases Nat.eq_zero_or_pos (j - acc.length) with h' | h'
      · exact h'
      · rw [List.getElem?_eq_none (by simp; omega)] at e1; cases e1
    rw [h0] at e1
    rw [← hv.1, h0] at e2
    obtain rfl := Option.some.inj e1
    obtain rfl := Option.some.inj e2
    exact iv
theorem grown_kp {w6 w7 : World} {row : Option Nat} {m : Nat} (hg : w6.grownBy w7 row) (hr : ∀ k, row = some k → m ≤ k) : ∃ c, m ≤ c ∧ Kp c w6 w7 := by
  cases row with
  | none => exact ⟨m, Nat.le_refl _, hg.os, hg.tape, hg.output, hg.size, fun k h1 _ => hg.block k h1 (fun e => by cases e)⟩
  | some k => exact ⟨k, hr k rfl, hg.os, hg.tape, hg.output, hg.size, fun j h1 h2 => hg.block j h1 (fun e => h2 (Option.some.inj e))⟩
structure Round (a : Nat → Addr) (s : ByteArray) (w : World) (acc : List Mip.It) (t : Mil.St) (u : Value) (w8 : World) : Prop where
  v : Vars w8 w.heap.size u (.pointer none)
  r : Row s.size w8 (w.heap.size + 1 + 1) acc u
  d : RdS w8 (w.heap.size + 1 + 1) s t
  b : Below w.heap.size w w8
  l : Laid a w8
theorem round_end (a : Nat → Addr) (s : ByteArray) (w w5 w7 : World) (acc : List Mip.It) (i : Mip.It) (t : Mil.St) (v0 v7 x : Value) (vs : List Value) (hG : 23 ≤ w.heap.size) (V5 : Vars w5 w.heap.size v0 (.pointer none)) (B5 : Below w.heap.size w w5) (L5 : Laid a w5)
    (R5 : RdS w5 (w.heap.size + 1 + 1) s t) (HVS : Ivs s.size w5 (w.heap.size + 1 + 1) acc vs) (IV : Iv s.size w5 (w.heap.size + 1 + 1) i x)
    (O6 : (w5.alloc (.cells #[x] 141)).ownsRow (w.heap.size + 1 + 1 + 1) 141 1 v0 acc.length vs) (hg7 : (w5.alloc (.cells #[x] 141)).grownBy w7 v0.ownBlock)
    (O7 : w7.ownsRow (w.heap.size + 1 + 1 + 1) 141 1 v7 (acc.length + 1) (vs ++ [x])) :
    Vars w7 w.heap.size v0 (.pointer none) ∧ Round a s w (acc ++ [i]) t v7 (w7.setCell ⟨w.heap.size, 0, none⟩ v7) := by
  have hlt : ∀ k, v0.ownBlock = some k → w.heap.size + 1 + 1 + 1 ≤ k := fun k hk => (O6.lt k hk).1
  obtain ⟨c, hc, kc⟩ := grown_kp hg7 hlt
  have ka : Kp c w5 (w5.alloc (.cells #[x] 141)) := (Kp.refl c w5).alloc _
  have k7 := ka.trans kc
  have hV := V5.kept k7 (by omega)
  have hrow : ∀ k, v0.ownBlock = some k → ∃ cur, (w5.alloc (.cells #[x] 141)).heap[k]? = some (.cells cur 141 (0, 0)) := by
    intro k hk
    rcases O6.2 with ⟨rfl, _⟩ | ⟨g, cap, cur, rfl, _, hgg, _⟩
    · cases hk
    · obtain rfl : g = k := Option.some.inj hk
      exact ⟨cur, hgg⟩
  have hR : Row s.size w7 (w.heap.size + 1 + 1) (acc ++ [i]) v7 := Row.more HVS IV (fun i v h => iv_grown (iv_kept h ((Kp.refl _ w5).alloc _)) hg7 hrow) O7
  have kB : Kp w.heap.size w7 (w7.setCell ⟨w.heap.size, 0, none⟩ v7) := (Kp.refl _ w7).setCell 0 v7
  refine ⟨hV, hV.set0 v7, hR.kept kB (by omega), (R5.kept k7 (by omega)).kept kB (by omega), ?_, (L5.kept k7 (by omega)).kept kB hG⟩
  exact (B5.trans ⟨k7.os, k7.tape, k7.output, k7.size, fun k hk => k7.block k (Nat.lt_of_lt_of_le hk B5.size) (by omega)⟩).setCell (Nat.le_refl _) _
structure Start (a : Nat → Addr) (s : ByteArray) (w W : World) : Prop where
  v : Vars W w.heap.size (.slice none 0 0) (.pointer none)
  r : Rd W (w.heap.size + 1 + 1) s 0 0 0 0 ⟨#[]⟩ 0
  b : Below w.heap.size w W
  l : Laid a W
theorem start_at (a : Nat → Addr) (s : ByteArray) (w : World) (L : Laid a w) : Start a s w (((w.alloc (.cells #[.slice none 0 0] 71)).alloc (.cells #[.pointer none] 69)).alloc (.cells #[.string s, .int .i64 0, .int .i64 0, .int .i64 0, .int .i64 0, .string ⟨#[]⟩, .int .i64 0] 139)) := by
  have hb : Below w.heap.size w (((w.alloc (.cells #[.slice none 0 0] 71)).alloc (.cells #[.pointer none] 69)).alloc (.cells #[.string s, .int .i64 0, .int .i64 0, .int .i64 0, .int .i64 0, .string ⟨#[]⟩, .int .i64 0] 139)) :=
    (((Below.refl _ _).alloc (Nat.le_refl _) _).alloc (by simp) _).alloc (by simp; omega) _
  have hblk : (((w.alloc (.cells #[.slice none 0 0] 71)).alloc (.cells #[.pointer none] 69)).alloc (.cells #[.string s, .int .i64 0, .int .i64 0, .int .i64 0, .int .i64 0, .string ⟨#[]⟩, .int .i64 0] 139)).heap[w.heap.size + 1 + 1]? = some (.cells #[.string s, .int .i64 0, .int .i64 0, .int .i64 0, .int .i64 0, .string ⟨#[]⟩, .int .i64 0] 139 (0, 0)) := by
    have := heap_alloc_new ((w.alloc (.cells #[.slice none 0 0] 71)).alloc (.cells #[.pointer none] 69)) (.cells #[.string s, .int .i64 0, .int .i64 0, .int .i64 0, .int .i64 0, .string ⟨#[]⟩, .int .i64 0] 139)
    simpa using this
  refine ⟨⟨?_, ?_⟩, ⟨?_, ?_, ?_, ?_, ?_, ?_, ?_, fun o => by unfold World.frozen?; rw [hblk]; simp⟩, hb, L.kept (Kp.of_below (b := w.heap.size) hb) L.size⟩
  · rw [Below.heap_alloc _ _ _ (by simp; omega), Below.heap_alloc _ _ _ (by simp)]; exact heap_alloc_new w _
  · rw [Below.heap_alloc _ _ _ (by simp)]
    have := heap_alloc_new (w.alloc (.cells #[.slice none 0 0] 71)) (.cells #[.pointer none] 69)
    simpa using this
  all_goals (rw [cell_of_row _ _ _ _ _ _ hblk]; rfl)
end
end Go.Proofs.YticbokabjhnagaaGreatDoor
