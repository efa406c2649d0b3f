/-
  A register in memory behind a call: what is there again.
-/
import Derived.Test.YtgaepakdhdfdfaaDoorVb
import Derived.Deep.OwnRows
namespace Go.Proofs.YtgaepakdhdfdfaaDoor
open Go.RowKit

theorem Fr.put {own : Nat → Prop} {w u : World} (h : Fr own w u) {r : Nat} (hr : own r) (i : Nat) (v : Value) : Fr own w (u.setCell ⟨r, i, none⟩ v) :=
  h.trans (fr_one r i v) (fun k _ e => by have e' : k = r := e; subst e'; exact hr)
theorem Fr.draw {own : Nat → Prop} {w u : World} (h : Fr own w u) : Fr own w u.drew := ⟨h.os, h.tape, h.output, h.size, h.block⟩
theorem Fr.more {own own' : Nat → Prop} {w u v : World} (h : Fr own w u) (k : Fr own' u v) (ho : ∀ i, own' i → own i) : Fr own w v := h.trans k (fun i _ e => ho i e)
theorem Fr.imp {own own' : Nat → Prop} {w u : World} (h : Fr own w u) (ho : ∀ i, own i → own' i) : Fr own' w u := ⟨h.os, h.tape, h.output, h.size, fun k h1 h2 => h.block k h1 (fun e => h2 (ho k e))⟩
theorem frozen_below {w u : World} {k i : Nat} {v : Value} (h : Below w.heap.size w u) (hc : w.cell? ⟨k, i, none⟩ = some v) (hz : w.frozen? ⟨k, i, none⟩ = false) : u.frozen? ⟨k, i, none⟩ = false := by
  have e := h.block k (lt_of_cell hc)
  unfold World.frozen? at hz ⊢
  dsimp only at hz ⊢
  rw [e]; exact hz
theorem Bk.drewN {w : World} {k : Nat} {xs : Array Value} {t : TypeId} (h : Bk w k xs t) (q : Nat) : Bk (w.drewN q) k xs t := h
theorem Bk.drew {w : World} {k : Nat} {xs : Array Value} {t : TypeId} (h : Bk w k xs t) : Bk w.drew k xs t := h
theorem Bk.fr {own : Nat → Prop} {w w' : World} {k : Nat} {xs : Array Value} {t : TypeId} (h : Bk w k xs t) (f : Fr own w w') (hn : ¬ own k) : Bk w' k xs t := h.heap (f.block k h.lt hn)
theorem Rw.fr {own : Nat → Prop} {w w' : World} {k n : Nat} {g : Nat → Nat} (h : Rw w k n g) (f : Fr own w w') (hn : ¬ own k) : Rw w' k n g := h.heap (f.block k h.lt hn)

theorem made_rw (w : World) (n : Nat) : Rw (w.alloc (.cells (madeCells #[.int .u64 0] n) 33)) w.heap.size n (fun _ => 0) := by
  refine ⟨_, heap_alloc_new w _, fun i hi => ?_⟩
  simp [madeCells, hi, Nat.mod_one]
theorem next2_any {w : World} {r n d f : Nat} {tc : TypeId} {wv rv rx : Value} (h : Bk w r (blkR n tc f wv (.int .i64 (d : Nat)) rv rx) 65) (hd : d ≤ 100) :
    Calls Tryd.prog 26 #[.pointer (some ⟨r, 2, none⟩)] w fun E w1 => E = .returned (.tuple #[.int .i64 (d : Nat), wv]) ∧ w1.cell? ⟨r, 1, none⟩ = some (.iface tc (.pointer (some ⟨f, 0, none⟩))) ∧ Fr (fun k => k = r) w w1 ∧ Bk w1 r (blkR n tc f wv (.int .i64 (d + 1 : Nat)) rv rx) 65 := by
  refine (next_any r 2 wv d hd (h.cell 2) (h.cell 3) (h.fz 3)).mono ?_
  rintro E w1 ⟨rfl, q, rfl⟩
  have hb : Bk ((w.setCell ⟨r, 3, none⟩ (.int .i64 (d + 1 : Nat))).drewN q) r (blkR n tc f wv (.int .i64 (d + 1 : Nat)) rv rx) 65 := (h.set 3 _).drewN q
  exact ⟨rfl, hb.cell 1, fr_drewN (fr_one r 3 _) q, hb⟩
theorem next4_any {w : World} {r n d f : Nat} {tc : TypeId} {wv wx rv : Value} (h : Bk w r (blkR n tc f wv wx rv (.int .i64 (d : Nat))) 65) (hd : d ≤ 100) :
    Calls Tryd.prog 26 #[.pointer (some ⟨r, 4, none⟩)] w fun E w1 => E = .returned (.tuple #[.int .i64 (d : Nat), rv]) ∧ w1.cell? ⟨r, 1, none⟩ = some (.iface tc (.pointer (some ⟨f, 0, none⟩))) ∧ Fr (fun k => k = r) w w1 ∧ Bk w1 r (blkR n tc f wv wx rv (.int .i64 (d + 1 : Nat))) 65 := by
  refine (next_any r 4 rv d hd (h.cell 4) (h.cell 5) (h.fz 5)).mono ?_
  rintro E w1 ⟨rfl, q, rfl⟩
  have hb : Bk ((w.setCell ⟨r, 5, none⟩ (.int .i64 (d + 1 : Nat))).drewN q) r (blkR n tc f wv wx rv (.int .i64 (d + 1 : Nat))) 65 := (h.set 5 _).drewN q
  exact ⟨rfl, hb.cell 1, fr_drewN (fr_one r 5 _) q, hb⟩
theorem fr_of_drew {own : Nat → Prop} {w w' : World} (h : Fr own w.drew w') : Fr own w w' := ⟨h.os, h.tape, h.output, h.size, h.block⟩

section
variable {Q : Type} {D : Kd Q} {tc : TypeId} {fw fr : FuncId}

theorem ri_of (C : Cc D fw fr) {own : Nat → Prop} {w w' : World} {r : Nat} {s s' : Q} {f : Nat} {CB : List Nat} {W Z W' Z' : Option Nat} {wv wx rv rx wv' wx' rv' rx' : Value} (h : Ri D tc own w r s f CB W Z wv wx rv rx) (F : Fr own w w')
    (bk : Bk w' r (blkR (D.m.width s') tc f wv' wx' rv' rx') 65) (ce : D.K CB w' f s') (wk : Wkw w' (D.m.width s') (D.m.wl s') (D.WT (D.m.width s')) (D.pay s') W' wv' wx') (rk : Wkr w' (D.m.width s') (D.m.rl s') (D.RT (D.m.width s')) (D.acc s') Z' rv' rx')
    (hW : W' = W ∨ W' = none ∨ ∃ k, W' = some k ∧ w.heap.size ≤ k) (hZ : Z' = Z ∨ Z' = none ∨ ∃ k, Z' = some k ∧ w.heap.size ≤ k) (hn : W' = W ∨ Z' = Z) :
    ∃ own', (∀ k, own' k → own k ∨ w.heap.size ≤ k) ∧ Fr own w w' ∧ Rall D tc own' w' r s' ∧ ∀ k, own' k → (k = r ∨ k ∈ CB ∨ W' = some k ∨ Z' = some k) := by
  have hlt := h.lt C
  have oW : ∀ k, W' = some k → (W = some k) ∨ w.heap.size ≤ k := by
    intro k e
    rcases hW with c | c | ⟨k', c, c'⟩
    · exact Or.inl (c ▸ e)
    · rw [c] at e; cases e
    · rw [c] at e; cases e; exact Or.inr c'
  have oZ : ∀ k, Z' = some k → (Z = some k) ∨ w.heap.size ≤ k := by
    intro k e
    rcases hZ with c | c | ⟨k', c, c'⟩
    · exact Or.inl (c ▸ e)
    · rw [c] at e; cases e
    · rw [c] at e; cases e; exact Or.inr c'
  have lr := h.bk.lt
  have lc := C.lt h.ce
  have lW := h.wk.lt
  have lZ := h.rk.lt
  refine ⟨fun k => k = r ∨ k ∈ CB ∨ W' = some k ∨ Z' = some k, fun k hk => ?_, F, ⟨f, CB, W', Z', wv', wx', rv', rx', h.nd, h.r1, fun e => ?_, fun e => ?_, fun k e hc => ?_, fun k e hc => ?_, fun k e e' => ?_, fun k => Iff.rfl, bk, ce, wk, rk⟩, fun k hk => hk⟩
  · rcases hk with e | e | e | e
    · exact Or.inl ((h.ow k).2 (Or.inl e))
    · exact Or.inl ((h.ow k).2 (Or.inr (Or.inl e)))
    · exact (oW k e).imp (fun c => (h.ow k).2 (Or.inr (Or.inr (Or.inl c)))) id
    · exact (oZ k e).imp (fun c => (h.ow k).2 (Or.inr (Or.inr (Or.inr c)))) id
  · rcases oW r e with c | c
    · exact h.r2 c
    · omega
  · rcases oZ r e with c | c
    · exact h.r3 c
    · omega
  · rcases oW k e with c | c
    · exact h.q1 k c hc
    · have := lc k hc; omega
  · rcases oZ k e with c | c
    · exact h.q2 k c hc
    · have := lc k hc; omega
  · rcases oW k e with c | c
    · rcases oZ k e' with d | d
      · exact h.q3 k c d
      · have := lW k c; omega
    · rcases oZ k e' with d | d
      · have := lZ k d; omega
      · rcases hn with x | x
        · have := lW k (x ▸ e); omega
        · have := lZ k (x ▸ e'); omega
theorem wr_of (C : Cc D fw fr) {own : Nat → Prop} {w w' : World} {r : Nat} {s s' : Q} {f : Nat} {CB : List Nat} {W Z W' Z' : Option Nat} {wv wx rv rx wv' wx' rv' rx' : Value} (h : Ri D tc own w r s f CB W Z wv wx rv rx) (F : Fr own w w')
    (bk : Bk w' r (blkR (D.m.width s') tc f wv' wx' rv' rx') 65) (ce : D.K CB w' f s') (wk : Wkw w' (D.m.width s') (D.m.wl s') (D.WT (D.m.width s')) (D.pay s') W' wv' wx') (rk : Wkr w' (D.m.width s') (D.m.rl s') (D.RT (D.m.width s')) (D.acc s') Z' rv' rx')
    (hW : W' = W ∨ W' = none ∨ ∃ k, W' = some k ∧ w.heap.size ≤ k) (hZ : Z' = Z ∨ Z' = none ∨ ∃ k, Z' = some k ∧ w.heap.size ≤ k) (hn : W' = W ∨ Z' = Z) : Reg.Wr (Rall D tc) own r s' w w' := by
  obtain ⟨own', h1, h2, h3, _⟩ := ri_of C h F bk ce wk rk hW hZ hn
  exact ⟨own', h1, h2, h3⟩
/-- Nothing has happened. -/
theorem wr_same {own : Nat → Prop} {w : World} {r : Nat} {s : Q} (h : Rall D tc own w r s) : Reg.Wr (Rall D tc) own r s w w := ⟨own, fun _ e => Or.inl e, Fr.refl _ _, h⟩
theorem Ri.or {own : Nat → Prop} {w : World} {r : Nat} {s : Q} {f : Nat} {CB : List Nat} {W Z : Option Nat} {wv wx rv rx : Value} (h : Ri D tc own w r s f CB W Z wv wx rv rx) : own r := (h.ow r).2 (Or.inl rfl)
theorem Ri.oc {own : Nat → Prop} {w : World} {r : Nat} {s : Q} {f : Nat} {CB : List Nat} {W Z : Option Nat} {wv wx rv rx : Value} (h : Ri D tc own w r s f CB W Z wv wx rv rx) (k : Nat) (hk : k ∈ CB) : own k := (h.ow k).2 (Or.inr (Or.inl hk))

theorem wr_write (C : Cc D fw fr) {own : Nat → Prop} {w w1 : World} {r : Nat} {s : Q} {f : Nat} {CB : List Nat} {W Z : Option Nat} {wv wx rv rx : Value} (h : Ri D tc own w r s f CB W Z wv wx rv rx) (hl : D.m.wl s = 0) {P : Nat → Nat} {k1 cc : Nat} (hk : w.heap.size ≤ k1) (hR : Rw w1 k1 (D.m.width s) P) (hB : Below w.heap.size w w1) (b1 : Bk w1 r (blkR (D.m.width s) tc f wv wx rv rx) 65) :
    Reg.Wr (Rall D tc) own r (D.m.write s P) w ((w1.setCell ⟨r, 2, none⟩ (slV k1 (D.m.width s) cc)).setCell ⟨r, 3, none⟩ (.int .i64 0)) := by
  obtain ⟨e1, e2, e3, e4, e5, e6⟩ := C.begW P h.ce hl
  have lr := h.bk.lt
  have F : Fr own w ((w1.setCell ⟨r, 2, none⟩ (slV k1 (D.m.width s) cc)).setCell ⟨r, 3, none⟩ (.int .i64 0)) := ((Fr.of_below hB).put h.or 2 _).put h.or 3 _
  have heap : ∀ k, k ≠ r → k < w.heap.size → ((w1.setCell ⟨r, 2, none⟩ (slV k1 (D.m.width s) cc)).setCell ⟨r, 3, none⟩ (.int .i64 0)).heap[k]? = w.heap[k]? := fun k hk hlt => by
    rw [Below.heap_setCell _ ⟨r, 3, none⟩ _ k hk, Below.heap_setCell _ ⟨r, 2, none⟩ _ k hk]
    exact hB.block k hlt
  refine wr_of (W' := some k1) (Z' := Z) (wv' := slV k1 (D.m.width s) cc) (wx' := .int .i64 0) (rv' := rv) (rx' := rx) C h F ?_ ?_ ?_ ?_ (Or.inr (Or.inr ⟨k1, rfl, hk⟩)) (Or.inl rfl) (Or.inr rfl)
  · rw [e5]
    exact (b1.set 2 _).set 3 _
  · exact C.kept e1 (fun k hc => heap k (fun e => h.r1 (e ▸ hc)) (C.lt h.ce k hc))
  · rw [e5, e3]
    refine Or.inr ⟨?_, k1, cc, rfl, rfl, by rw [Nat.sub_self]; rfl, ?_⟩
    · exact Nat.pos_of_ne_zero (C.wt0 _)
    · have hne : k1 ≠ r := by omega
      exact ((hR.other hne 2 _).other hne 3 _).congr (fun i hi => (e2 i hi).symm)
  · rw [e5, e6, e4]
    exact h.rk.heap (fun k e => heap k (fun x => h.r3 (x ▸ e)) (h.rk.lt k e))
theorem wr_read (C : Cc D fw fr) {own : Nat → Prop} {w w1 : World} {r : Nat} {s : Q} {f : Nat} {CB : List Nat} {W Z : Option Nat} {wv wx rv rx : Value} (h : Ri D tc own w r s f CB W Z wv wx rv rx) (hl : D.m.rl s = 0) {P : Nat → Nat} {k1 cc : Nat} (hk : w.heap.size ≤ k1) (hR : Rw w1 k1 (D.m.width s) P) (hB : Below w.heap.size w w1) (b1 : Bk w1 r (blkR (D.m.width s) tc f wv wx rv rx) 65) :
    Reg.Wr (Rall D tc) own r (D.m.read s) w ((w1.setCell ⟨r, 4, none⟩ (slV k1 (D.m.width s) cc)).setCell ⟨r, 5, none⟩ (.int .i64 0)) := by
  obtain ⟨e1, e3, e4, e2, e5, e6⟩ := C.begR h.ce hl
  have lr := h.bk.lt
  have F : Fr own w ((w1.setCell ⟨r, 4, none⟩ (slV k1 (D.m.width s) cc)).setCell ⟨r, 5, none⟩ (.int .i64 0)) := ((Fr.of_below hB).put h.or 4 _).put h.or 5 _
  have heap : ∀ k, k ≠ r → k < w.heap.size → ((w1.setCell ⟨r, 4, none⟩ (slV k1 (D.m.width s) cc)).setCell ⟨r, 5, none⟩ (.int .i64 0)).heap[k]? = w.heap[k]? := fun k hk hlt => by
    rw [Below.heap_setCell _ ⟨r, 5, none⟩ _ k hk, Below.heap_setCell _ ⟨r, 4, none⟩ _ k hk]
    exact hB.block k hlt
  refine wr_of (W' := W) (Z' := some k1) (wv' := wv) (wx' := wx) (rv' := slV k1 (D.m.width s) cc) (rx' := .int .i64 0) C h F ?_ ?_ ?_ ?_ (Or.inl rfl) (Or.inr (Or.inr ⟨k1, rfl, hk⟩)) (Or.inl rfl)
  · rw [e5]
    exact (b1.set 4 _).set 5 _
  · exact C.kept e1 (fun k hc => heap k (fun e => h.r1 (e ▸ hc)) (C.lt h.ce k hc))
  · rw [e5, e6, e4]
    exact h.wk.heap (fun k e => heap k (fun x => h.r2 (x ▸ e)) (h.wk.lt k e))
  · rw [e5, e3, e2]
    have hne : k1 ≠ r := by omega
    exact Or.inr ⟨Nat.pos_of_ne_zero (C.rt0 _), k1, cc, P, rfl, rfl, by rw [Nat.sub_self]; rfl, (hR.other hne 4 _).other hne 5 _, fun i y e => by simp at e⟩
/-- A step of the writer that is not the last. -/
theorem wr_stepW (C : Cc D fw fr) (L : Reg.Laws D.m) {own : Nat → Prop} {w w1 w2 : World} {r : Nat} {s : Q} {f : Nat} {CB : List Nat} {W Z : Option Nat} {kw c : Nat} {wx wx' rv rx : Value} (h : Ri D tc own w r s f CB W Z (slV kw (D.m.width s) c) wx rv rx) (g : Good D.m s) (hl : 1 < D.m.wl s) (hW : W = some kw) (hR : Rw w kw (D.m.width s) (D.pay s)) (hx : wx' = .int .i64 ((D.WT (D.m.width s) - D.m.wl s + 1 : Nat) : Int))
    (F1 : Fr (fun k => k = r) w w1) (b1 : Bk w1 r (blkR (D.m.width s) tc f (slV kw (D.m.width s) c) wx' rv rx) 65) (F2 : Fr (fun k => k ∈ CB) w1 w2) (ce : D.K CB w2 f (D.m.stepW s)) :
    Reg.Wr (Rall D tc) own r (D.m.stepW s) w w2 := by
  obtain ⟨Y, b, e, fl, l, gi⟩ := g
  obtain ⟨_, e1, e2, e3⟩ := L.stepW gi (by omega)
  have tp := C.top s ⟨Y, b, e, fl, l, gi⟩
  have lr := h.bk.lt
  have F : Fr own w w2 := (((Fr.refl own w).more F1 (fun i e => by have e' : i = r := e; exact e' ▸ h.or))).more F2 h.oc
  have heap : ∀ k, k ≠ r → k ∉ CB → k < w.heap.size → w2.heap[k]? = w.heap[k]? := fun k h1 h2 h3 => (F2.block k (Nat.lt_of_lt_of_le h3 F1.size) h2).trans (F1.block k h3 h1)
  refine wr_of (W' := W) (Z' := Z) (wv' := slV kw (D.m.width s) c) (wx' := wx') (rv' := rv) (rx' := rx) C h F ?_ ce ?_ ?_ (Or.inl rfl) (Or.inl rfl) (Or.inl rfl)
  · rw [e3]
    exact b1.fr F2 h.r1
  · rw [e3, e1, C.payW]
    refine Or.inr ⟨by omega, kw, c, hW, rfl, ?_, hR.heap (heap kw (fun x => h.r2 (x ▸ hW)) (h.q1 kw hW) hR.lt)⟩
    rw [hx, show D.WT (D.m.width s) - (D.m.wl s - 1) = D.WT (D.m.width s) - D.m.wl s + 1 by omega]
  · rw [e3, e2, C.accW]
    exact h.rk.heap (fun k e => heap k (fun x => h.r3 (x ▸ e)) (h.q2 k e) (h.rk.lt k e))
/-- The last step of the writer. -/
theorem wr_stepW1 (C : Cc D fw fr) (L : Reg.Laws D.m) {own : Nat → Prop} {w w1 w2 : World} {r : Nat} {s : Q} {f : Nat} {CB : List Nat} {W Z : Option Nat} {wv wx wv' wx' rv rx : Value} (h : Ri D tc own w r s f CB W Z wv wx rv rx) (g : Good D.m s) (hl : D.m.wl s = 1)
    (F1 : Fr (fun k => k = r) w w1) (b1 : Bk w1 r (blkR (D.m.width s) tc f wv' wx' rv rx) 65) (F2 : Fr (fun k => k ∈ CB) w1 w2) (ce : D.K CB w2 f (D.m.stepW s)) :
    Reg.Wr (Rall D tc) own r (D.m.stepW s) w ((w2.setCell ⟨r, 2, none⟩ nilS).setCell ⟨r, 3, none⟩ (.int .i64 0)) := by
  obtain ⟨Y, b, e, fl, l, gi⟩ := g
  obtain ⟨_, e1, e2, e3⟩ := L.stepW gi (by omega)
  have lr := h.bk.lt
  have F : Fr own w w2 := (((Fr.refl own w).more F1 (fun i e => by have e' : i = r := e; exact e' ▸ h.or))).more F2 h.oc
  have heap0 : ∀ k, k ≠ r → ((w2.setCell ⟨r, 2, none⟩ nilS).setCell ⟨r, 3, none⟩ (.int .i64 0)).heap[k]? = w2.heap[k]? := fun k hk => by
    rw [Below.heap_setCell _ ⟨r, 3, none⟩ _ k hk, Below.heap_setCell _ ⟨r, 2, none⟩ _ k hk]
  have heap : ∀ k, k ≠ r → k ∉ CB → k < w.heap.size → ((w2.setCell ⟨r, 2, none⟩ nilS).setCell ⟨r, 3, none⟩ (.int .i64 0)).heap[k]? = w.heap[k]? := fun k h1 h2 h3 => (heap0 k h1).trans ((F2.block k (Nat.lt_of_lt_of_le h3 F1.size) h2).trans (F1.block k h3 h1))
  refine wr_of (W' := none) (Z' := Z) (wv' := nilS) (wx' := .int .i64 0) (rv' := rv) (rx' := rx) C h ((F.put h.or 2 _).put h.or 3 _) ?_ ?_ ?_ ?_ (Or.inr (Or.inl rfl)) (Or.inl rfl) (Or.inr rfl)
  · rw [e3]
    exact ((b1.fr F2 h.r1).set 2 _).set 3 _
  · exact C.kept ce (fun k hc => heap0 k (fun x => h.r1 (x ▸ hc)))
  · rw [e3, e1, hl]
    exact Or.inl ⟨rfl, rfl, rfl, rfl⟩
  · rw [e3, e2, C.accW]
    exact h.rk.heap (fun k e => heap k (fun x => h.r3 (x ▸ e)) (h.q2 k e) (h.rk.lt k e))
/-- A step of the reader that is not the last. -/
theorem wr_stepR (C : Cc D fw fr) (L : Reg.Laws D.m) {own : Nat → Prop} {w w1 w2 : World} {r : Nat} {s : Q} {f : Nat} {CB : List Nat} {W Z : Option Nat} {kr c : Nat} {wv wx rx rx' : Value} (h : Ri D tc own w r s f CB W Z wv wx (slV kr (D.m.width s) c) rx) (g : Good D.m s) (hl : 1 < D.m.rl s) (hZ : Z = some kr) (hx : rx' = .int .i64 ((D.RT (D.m.width s) - D.m.rl s + 1 : Nat) : Int))
    (F1 : Fr (fun k => k = r) w w1) (b1 : Bk w1 r (blkR (D.m.width s) tc f wv wx (slV kr (D.m.width s) c) rx') 65) (F2 : Fr (fun k => k ∈ CB ∨ k = kr) w1 w2) (ce : D.K CB w2 f (D.m.stepR s)) {g' : Nat → Nat} (hR : Rw w2 kr (D.m.width s) g') (hg : ∀ i y, (D.acc (D.m.stepR s))[i]? = some y → g' i = y) :
    Reg.Wr (Rall D tc) own r (D.m.stepR s) w w2 := by
  obtain ⟨Y, b, e, fl, l, gi⟩ := g
  obtain ⟨_, e1, e2, e3⟩ := L.stepR gi hl
  have tp := C.top s ⟨Y, b, e, fl, l, gi⟩
  have lr := h.bk.lt
  have F : Fr own w w2 := (((Fr.refl own w).more F1 (fun i e => by have e' : i = r := e; exact e' ▸ h.or))).more F2 (fun i e => e.elim (h.oc i) (fun x => (h.ow i).2 (Or.inr (Or.inr (Or.inr (x ▸ hZ))))))
  have heap : ∀ k, k ≠ r → k ∉ CB → k ≠ kr → k < w.heap.size → w2.heap[k]? = w.heap[k]? := fun k h1 h2 h4 h3 => (F2.block k (Nat.lt_of_lt_of_le h3 F1.size) (fun x => x.elim h2 h4)).trans (F1.block k h3 h1)
  refine wr_of (W' := W) (Z' := Z) (wv' := wv) (wx' := wx) (rv' := slV kr (D.m.width s) c) (rx' := rx') C h F ?_ ce ?_ ?_ (Or.inl rfl) (Or.inl rfl) (Or.inl rfl)
  · rw [e3]
    exact b1.fr F2 (fun x => x.elim h.r1 (fun y => h.r3 (y ▸ hZ)))
  · rw [e3, e2, C.payR]
    exact h.wk.heap (fun k e => heap k (fun x => h.r2 (x ▸ e)) (h.q1 k e) (fun x => h.q3 k e (x ▸ hZ)) (h.wk.lt k e))
  · rw [e3, e1]
    refine Or.inr ⟨by omega, kr, c, g', hZ, rfl, ?_, hR, hg⟩
    rw [hx, show D.RT (D.m.width s) - (D.m.rl s - 1) = D.RT (D.m.width s) - D.m.rl s + 1 by omega]
/-- The last step of the reader. -/
theorem wr_stepR1 (C : Cc D fw fr) (L : Reg.Laws D.m) {own : Nat → Prop} {w w1 w2 : World} {r : Nat} {s : Q} {f : Nat} {CB : List Nat} {W Z : Option Nat} {kr : Nat} {wv wx rv rx rv' rx' : Value} (h : Ri D tc own w r s f CB W Z wv wx rv rx) (g : Good D.m s) (hl : D.m.rl s = 1) (hZ : Z = some kr)
    (F1 : Fr (fun k => k = r) w w1) (b1 : Bk w1 r (blkR (D.m.width s) tc f wv wx rv' rx') 65) (F2 : Fr (fun k => k ∈ CB ∨ k = kr) w1 w2) (ce : D.K CB w2 f (D.m.stepR s)) {g' : Nat → Nat} (hR : Rw w2 kr (D.m.width s) g') (hg : ∀ i y, (D.m.out s)[i]? = some y → g' i = y) (ho : (D.m.out s).length ≤ D.m.width s) (c : Nat) {E : Ending} (hE : E = .returned (.tuple #[.bool true, slV kr (D.m.width s) c, .nilIface])) :
    ∃ g o c own', E = .returned (.tuple #[.bool true, .slice (some ⟨g, o, none⟩) (D.m.width s) c, .nilIface]) ∧
        (∀ i x, (D.m.out s)[i]? = some x → ((w2.setCell ⟨r, 4, none⟩ nilS).setCell ⟨r, 5, none⟩ (.int .i64 0)).cell? ⟨g, o + i, none⟩ = some (.int .u64 (x : Nat)) ∧ ((w2.setCell ⟨r, 4, none⟩ nilS).setCell ⟨r, 5, none⟩ (.int .i64 0)).frozen? ⟨g, o + i, none⟩ = false) ∧ (own g ∨ w.heap.size ≤ g) ∧ ¬ own' g ∧
        (∀ k, own' k → own k ∨ w.heap.size ≤ k) ∧ Fr own w ((w2.setCell ⟨r, 4, none⟩ nilS).setCell ⟨r, 5, none⟩ (.int .i64 0)) ∧ Rall D tc own' ((w2.setCell ⟨r, 4, none⟩ nilS).setCell ⟨r, 5, none⟩ (.int .i64 0)) r (D.m.stepR s) := by
  obtain ⟨Y, b, e, fl, l, gi⟩ := g
  obtain ⟨_, _, _, _, _, _, e1, e2, e3⟩ := L.last gi hl
  have lr := h.bk.lt
  have hne : kr ≠ r := fun x => h.r3 (x ▸ hZ)
  have F : Fr own w w2 := (((Fr.refl own w).more F1 (fun i e => by have e' : i = r := e; exact e' ▸ h.or))).more F2 (fun i e => e.elim (h.oc i) (fun x => (h.ow i).2 (Or.inr (Or.inr (Or.inr (x ▸ hZ))))))
  have heap0 : ∀ k, k ≠ r → ((w2.setCell ⟨r, 4, none⟩ nilS).setCell ⟨r, 5, none⟩ (.int .i64 0)).heap[k]? = w2.heap[k]? := fun k hk => by
    rw [Below.heap_setCell _ ⟨r, 5, none⟩ _ k hk, Below.heap_setCell _ ⟨r, 4, none⟩ _ k hk]
  have heap : ∀ k, k ≠ r → k ∉ CB → k ≠ kr → k < w.heap.size → ((w2.setCell ⟨r, 4, none⟩ nilS).setCell ⟨r, 5, none⟩ (.int .i64 0)).heap[k]? = w.heap[k]? := fun k h1 h2 h4 h3 => (heap0 k h1).trans ((F2.block k (Nat.lt_of_lt_of_le h3 F1.size) (fun x => x.elim h2 h4)).trans (F1.block k h3 h1))
  obtain ⟨own', o1, o2, o3, o4⟩ := ri_of (W' := W) (Z' := none) (wv' := wv) (wx' := wx) (rv' := nilS) (rx' := .int .i64 0) (s' := D.m.stepR s) C h ((F.put h.or 4 _).put h.or 5 _)
    (by rw [e3]; exact ((b1.fr F2 (fun x => x.elim h.r1 (fun y => h.r3 (y ▸ hZ)))).set 4 _).set 5 _)
    (C.kept ce (fun k hc => heap0 k (fun x => h.r1 (x ▸ hc))))
    (by rw [e3, e2, C.payR]; exact h.wk.heap (fun k e => heap k (fun x => h.r2 (x ▸ e)) (h.q1 k e) (fun x => h.q3 k e (x ▸ hZ)) (h.wk.lt k e)))
    (by rw [e3, e1]; exact Or.inl ⟨rfl, rfl, rfl, rfl⟩) (Or.inl rfl) (Or.inr (Or.inl rfl)) (Or.inl rfl)
  have hR3 : Rw ((w2.setCell ⟨r, 4, none⟩ nilS).setCell ⟨r, 5, none⟩ (.int .i64 0)) kr (D.m.width s) g' := hR.heap (heap0 kr hne)
  refine ⟨kr, 0, c, own', hE, fun i x hi => ?_, Or.inl ((h.ow kr).2 (Or.inr (Or.inr (Or.inr hZ)))), fun x => ?_, o1, o2, o3⟩
  · have hlt : i < D.m.width s := Nat.lt_of_lt_of_le (List.getElem?_eq_some_iff.1 hi).1 ho
    rw [Nat.zero_add]
    have hc := hR3.cell i hlt
    rw [hg i x hi] at hc
    exact ⟨hc, hR3.fz i⟩
  · rcases o4 kr x with c | c | c | c
    · exact hne c
    · exact h.q2 kr hZ c
    · exact h.q3 kr c hZ
    · cases c
end

end Go.Proofs.YtgaepakdhdfdfaaDoor
