/-
  readItems at a text that is refused at its first item; Parse.
-/
import Derived.Test.YteheagaiphhhlaaGreatDoorNo
import Derived.Test.YteheagaiphhhlaaGreatDoorReadw
namespace Go.Proofs.YteheagaiphhhlaaGreatDoor
open Go.RowKit

/-- A Diag comes back. -/
def RnPost (a : Nat → Addr) (k : Nat) (at_ : Int) (w : World) (e : Ending) (w' : World) : Prop :=
  ∃ d, e = .returned (.tuple #[.slice none 0 0, .pointer (some ⟨d, 0, none⟩)]) ∧ w'.heap[d]? = some (.cells #[.int .i64 at_, errV (a k)] 59 (0, 0)) ∧ Below w.heap.size w w'

theorem leaves_exact (a : Nat → Addr) (w w1 : World) (tm : Array Value) (h2 : tm[2]? = some (.pointer (some ⟨w.heap.size, 0, none⟩))) (h3 : tm[3]? = some (.pointer (some ⟨w.heap.size + 1, 0, none⟩))) (v0 v1 : Value)
    (V : Vars w1 w.heap.size v0 v1) (hb : Below w.heap.size w w1) (k : Nat) (at_ : Int) (d : Nat) (hd : w1.heap[d]? = some (.cells #[.int .i64 at_, errV (a k)] 59 (0, 0))) :
    bodyPostD Tryz.prog Tryz.f11 (RnPost a k at_ w) (Exit.panic [{ v := .iface 52 (.pointer (some ⟨d, 0, none⟩)), recovered := false }]) { tmps := tm, defers := D0 w.heap.size } w1 := by
  refine leaves_cons (f := 17) (args := #[.pointer (some ⟨w.heap.size, 0, none⟩), .pointer (some ⟨w.heap.size + 1, 0, none⟩)]) (by simp) (by simp [go_sem]) ?_
  refine (catch_hit ⟨w.heap.size, 0, none⟩ ⟨w.heap.size + 1, 0, none⟩ v0 v1 d w1 V.c0 V.c1 V.f0 V.f1 (by simp)).mono ?_
  rintro e u' w'' ⟨rfl, rfl, rfl⟩
  have hd0 : d ≠ w.heap.size := by
    rintro rfl
    rw [V.b0] at hd
    cases hd
  have hd1 : d ≠ w.heap.size + 1 := by
    rintro rfl
    rw [V.b1] at hd
    cases hd
  have e0 : (w1.setCell ⟨w.heap.size, 0, none⟩ (.slice none 0 0)).cell? ⟨w.heap.size, 0, none⟩ = some (.slice none 0 0) := World.cell?_setCell_same _ _ _ V.c0
  have e1 : ((w1.setCell ⟨w.heap.size, 0, none⟩ (.slice none 0 0)).setCell ⟨w.heap.size + 1, 0, none⟩ (.pointer (some ⟨d, 0, none⟩))).cell? ⟨w.heap.size + 1, 0, none⟩ = some (.pointer (some ⟨d, 0, none⟩)) :=
    World.cell?_setCell_same (w1.setCell ⟨w.heap.size, 0, none⟩ (.slice none 0 0)) _ _ ((World.cell?_setCell_other _ _ ⟨w.heap.size + 1, 0, none⟩ _ (by simp)).trans V.c1)
  simp [Leaves, settle, results, Tryz.results11, go_sem, h2, h3, e0, e1]
  refine ⟨d, rfl, ?_, (hb.setCell (Nat.le_refl _) _).setCell (p := ⟨w.heap.size + 1, 0, none⟩) (Nat.le_succ _) _⟩
  rw [Below.heap_setCell _ _ _ d hd1, Below.heap_setCell _ _ _ d hd0]
  exact hd

set_option maxRecDepth 100000 in
set_option maxHeartbeats 4000000 in
theorem readItems_no (a : Nat → Addr) (s : ByteArray) (hs : s.size ≤ 4000) (st t1 t2 t3 t4 : Mil.St) (x : Mil.Bytes) (y : Nat) (k0 : Mil.adv' s.data.toList 0 = some st) (n0 : Mil.sees st Mil.wInput = false) (n1 : Mil.sees st Mil.wOutput = false) (k1 : Mil.name st = some (x, t1)) (k2 : Mil.want t1 Mil.sColon = some t2) (k3 : Mil.ftype t2 = some (y, t3)) (k4 : Mil.want t3 Mil.sIs = some t4) (hy : Mil.sees t4 Mil.sSemi = true)
    (w : World) (L : Laid a w) :
    Calls Tryz.prog 11 #[.string s] w (RnPost a 3 (place s.size t4) w) := by
  have ST := start_at a s w L
  have HG : Hid (23 ≤ w.heap.size + 1 + 1) := by have := L.size; show _ ≤ _; omega
  have HNO : Hid (∀ w', Laid a w' → RdS w' (w.heap.size + 1 + 1) s st → Calls Tryz.prog 19 #[.pointer (some ⟨w.heap.size + 1 + 1, 0, none⟩)] w' (NoPost a (w.heap.size + 1 + 1) s t4 w')) :=
    fun w' hL' hR' => item_no a _ s HG.out hs st t1 t2 t3 t4 x y n0 n1 k1 k2 k3 k4 hy w' hL' hR'
  have C0 : Hid (Mil.adv' s.data.toList 0 = some st) := k0
  have hkd : st.tok.kind = 1 := by
    unfold Mil.name at k1
    by_cases h : st.tok.kind = 1
    · exact h
    · rw [if_neg h] at k1; cases k1
  have hb0 : (((st.tok.kind : Nat) : Int) != 0) = true := by simp; omega
  clear L k0 n0 n1 k1 k2 k3 k4 hy hkd
  have hmf : ∀ (fn : Fn) (first cap : Array Value) (w : World), (Instr.makeFunc fn first cap).run Tryz.prog w = .ok (.func fn first cap) w := fun _ _ _ _ => rfl
  go_enter_defers Tryz.func11, Tryz.ntmps11
  go_wp2_with fail
  generalize (((w.alloc (.cells #[.slice none 0 0] 44)).alloc (.cells #[.pointer none] 52)).alloc (.cells #[.string s, .int .i64 0, .int .i64 0, .int .i64 0, .int .i64 0, .string ⟨#[]⟩, .int .i64 0] 68)) = W2 at ST ⊢
  refine (advance_raw a (w.heap.size + 1 + 1) s 0 0 0 0 ⟨#[]⟩ 0 W2 ST.l HG.out ST.r (Nat.zero_le _) (Nat.zero_le _) hs).mono ?_
  rintro e w3 ⟨kk3, (⟨st', rfl, g3, r3⟩ | ⟨thr, hno⟩)⟩
  rotate_left
  · have hh := hno.symm.trans C0.out
    cases hh
  obtain rfl := Option.some.inj (C0.out.symm.trans g3)
  have B3 : Hid (Below w.heap.size w w3) := ST.b.trans ⟨kk3.os, kk3.tape, kk3.output, kk3.size, fun k hk => kk3.block k (Nat.lt_of_lt_of_le hk ST.b.size) (by omega)⟩
  have V3 : Hid (Vars w3 w.heap.size (.slice none 0 0) (.pointer none)) := ST.v.kept kk3 (by omega)
  have HL : Hid (Laid a w3) := ST.l.kept kk3 HG.out
  have R3 : Hid (RdS w3 (w.heap.size + 1 + 1) s st) := r3
  clear g3 kk3 ST r3 W2
  go_wp2_with fail
  go_loopg [] 0 (fun g wr => wr = w3)
  case atStart => exact rfl
  case round =>
    have hwr : wr = w3 := hrel
    subst hwr
    clear hrel
    obtain ⟨p, tp, x, hp, hRd, hr, hx, hn⟩ := R3.out
    have c3 := hRd.c3
    have q0 := V3.out.c0
    clear hRd hr hx hn hp
    go_wp2_with fail
    refine wp_region_any (by kernel_rfl) ?_
    change wpAny _ _ _ _ _ _ _ (World.drew _)
    have L4 : Hid (Laid a wr.drew) := HL.out.kept ((Kp.refl (w.heap.size + 1 + 1) wr).drew) HG.out
    have D4 : Hid (RdS wr.drew (w.heap.size + 1 + 1) s st) := R3.out.kept ((Kp.refl (w.heap.size + 1 + 1 + 1) wr).drew) (by omega)
    have V4 : Hid (Vars wr.drew w.heap.size (.slice none 0 0) (.pointer none)) := V3.out.kept ((Kp.refl (w.heap.size + 1 + 1) wr).drew) (by omega)
    have B4 : Hid (Below w.heap.size w wr.drew) := B3.out.drew
    refine wpAny_take (i := 1) (v := .pointer (some ⟨w.heap.size + 1 + 1, 0, none⟩)) rfl (by kernel_rfl) (by kernel_rfl) (by kernel_rfl) (fun _ _ _ h => bp_put (i := 30) (by decide) (by decide) h) (Or.inl ⟨by rfl, fun w => by go_simp⟩) ?_
    refine wpAny_ready (rs := [0, 2]) (by kernel_rfl) (by simp) ?_
    refine AllReady.cons rfl (fun K hK => ?_) (AllReady.cons rfl (fun K hK => ?_) AllReady.nil)
    · go_simp
      refine hK _ _ ?_
      clear hK K
      refine wpAny_ready (rs := [2]) (by kernel_rfl) (by simp) ?_
      refine AllReady.cons rfl (fun K hK => ?_) AllReady.nil
      go_simp
      refine (HNO.out _ L4.out D4.out).mono ?_
      rintro e w5 ⟨kk5, ⟨d, rfl, hd⟩⟩
      have V5 : Hid (Vars w5 w.heap.size (.slice none 0 0) (.pointer none)) := V4.out.kept kk5 (by omega)
      have B5 : Hid (Below w.heap.size w w5) := B4.out.trans ⟨kk5.os, kk5.tape, kk5.output, kk5.size, fun k hk => kk5.block k (Nat.lt_of_lt_of_le hk B4.out.size) (by omega)⟩
      exact leaves_exact a w w5 _ rfl rfl _ _ V5.out B5.out 3 _ d hd
    · go_simp
      refine (HNO.out _ L4.out D4.out).mono ?_
      rintro e w5 ⟨kk5, ⟨d, rfl, hd⟩⟩
      have V5 : Hid (Vars w5 w.heap.size (.slice none 0 0) (.pointer none)) := V4.out.kept kk5 (by omega)
      have B5 : Hid (Below w.heap.size w w5) := B4.out.trans ⟨kk5.os, kk5.tape, kk5.output, kk5.size, fun k hk => kk5.block k (Nat.lt_of_lt_of_le hk B4.out.size) (by omega)⟩
      exact leaves_exact a w w5 _ rfl rfl _ _ V5.out B5.out 3 _ d hd

/-- What Parse answers: a tree, a Diag, or ErrLong. -/
def PaPost (r : Mil.Bytes) (a : Nat → Addr) (w : World) (e : Ending) (w' : World) : Prop :=
  Below w.heap.size w w' ∧
  ((∃ l b o n c t, w.heap.size ≤ b ∧ e = .returned (.tuple #[.pointer (some ⟨t, 0, none⟩), .nilIface]) ∧ Mil.Parsed r l ∧ w'.heap[t]? = some (.cells #[.slice o n c] 46 (0, 0)) ∧ Row w' b l (.slice o n c)) ∨
   (∃ k at_ d, (k = 1 ∨ k = 2 ∨ k = 3 ∨ k = 4) ∧ e = .returned (.tuple #[.pointer none, .iface 52 (.pointer (some ⟨d, 0, none⟩))]) ∧ w'.heap[d]? = some (.cells #[.int .i64 at_, errV (a k)] 59 (0, 0)) ∧ ∀ l, ¬ Mil.Parsed r l) ∨
   (e = .returned (.tuple #[.pointer none, errV (a 1)]) ∧ ∀ l, ¬ Mil.Parsed r l))

set_option maxHeartbeats 1000000 in
theorem parse_any (a : Nat → Addr) (s : ByteArray) (w : World) (L : Laid a w) :
    Calls Tryz.prog 7 #[.string s] w (PaPost s.data.toList a w) := by
  have HL : Hid (Laid a w) := L
  have hlen : s.data.toList.length = s.size := by simp
  have HLN : Hid (s.data.toList.length = s.size) := hlen
  clear hlen
  by_cases hs : s.size ≤ 4000
  · have hgt : ¬ (4000 : Int) < (s.size : Int) := by omega
    have HP : Hid (∀ l, Mil.Parsed s.data.toList l ↔ Mil.Rprog' s.data.toList l) := by
      intro l
      have e4 : ¬ 4000 < s.data.toList.length := by rw [HLN.out]; omega
      constructor
      · rintro ⟨n, hn⟩
        unfold Mil.parse at hn
        rw [if_neg e4] at hn
        obtain ⟨q, h1, h2⟩ := Option.bind_eq_some_iff.1 hn
        exact ⟨q, h1, n, h2⟩
      · rintro ⟨q, h1, n, h2⟩
        refine ⟨n, ?_⟩
        unfold Mil.parse
        rw [if_neg e4, h1, Option.bind_some, h2]
    clear L
    go_enter Tryz.func7, Tryz.ntmps7
    go_wp2_with fail
    refine (readItems_any a s hs _ HL.out).mono ?_
    rintro e w1 ⟨hb1, (⟨l, b, o, n, c, hwb, rfl, hl, hR⟩ | ⟨k, at_, d, hk, rfl, hd, hno⟩)⟩
    · have HR : Hid (Row w1 b l (.slice o n c)) := hR
      have HLL : Hid (Mil.Rprog' s.data.toList l) := hl
      clear hR hl
      go_wp2
      refine bodyPost_ret (v := .tuple #[.pointer (some ⟨w1.heap.size, 0, none⟩), .nilIface]) (by simp [results, Tryz.results7, go_sem]) rfl ⟨hb1.alloc hb1.size _, Or.inl ⟨l, b, o, n, c, w1.heap.size, hwb, rfl, (HP.out l).2 HLL.out, heap_alloc_new w1 _, HR.out.kept ((Kp.refl b w1).alloc _) (Nat.le_refl _)⟩⟩
    · have HN : Hid _ := hno
      clear hno
      go_wp2
      refine bodyPost_ret (v := .tuple #[.pointer none, .iface 52 (.pointer (some ⟨d, 0, none⟩))]) (by simp [results, Tryz.results7, go_sem]) rfl ⟨hb1, Or.inr (Or.inl ⟨k, at_, d, hk, rfl, hd, fun l h => HN.out l ((HP.out l).1 h)⟩)⟩
  · have hgt : (4000 : Int) < (s.size : Int) := by omega
    have cl := L.long
    have HN : Hid (∀ l, ¬ Mil.Parsed s.data.toList l) := by
      rintro l ⟨n, hn⟩
      unfold Mil.parse at hn
      rw [if_pos (by rw [HLN.out]; omega)] at hn
      cases hn
    clear L
    go_enter Tryz.func7, Tryz.ntmps7
    go_wp2
    go_quiet (fail)
    go_wp2
    refine bodyPost_ret (v := .tuple #[.pointer none, errV (a 1)]) (by simp [results, Tryz.results7, go_sem]) rfl ⟨?_, Or.inr (Or.inr ⟨rfl, HN.out⟩)⟩
    first | exact below_drewN (Below.refl _ _) _ | exact (Below.refl _ _).drew | exact Below.refl _ _

/-- A text that is refused at its first item. -/
def PnPost (a : Nat → Addr) (k : Nat) (at_ : Int) (w : World) (e : Ending) (w' : World) : Prop :=
  ∃ d, e = .returned (.tuple #[.pointer none, .iface 52 (.pointer (some ⟨d, 0, none⟩))]) ∧ w'.heap[d]? = some (.cells #[.int .i64 at_, errV (a k)] 59 (0, 0)) ∧ Below w.heap.size w w'
set_option maxHeartbeats 1000000 in
theorem parse_no (a : Nat → Addr) (s : ByteArray) (hs : s.size ≤ 4000) (at_ : Int) (w : World) (h : Calls Tryz.prog 11 #[.string s] w (RnPost a 3 at_ w)) :
    Calls Tryz.prog 7 #[.string s] w (PnPost a 3 at_ w) := by
  have H : Hid (Calls Tryz.prog 11 #[.string s] w (RnPost a 3 at_ w)) := h
  have hgt : ¬ (4000 : Int) < (s.size : Int) := by omega
  clear h
  go_enter Tryz.func7, Tryz.ntmps7
  go_wp2_with fail
  refine H.out.mono ?_
  rintro e w1 ⟨d, rfl, hd, hb1⟩
  go_wp2
  exact bodyPost_ret (v := .tuple #[.pointer none, .iface 52 (.pointer (some ⟨d, 0, none⟩))]) (by simp [results, Tryz.results7, go_sem]) rfl ⟨d, rfl, hd, hb1⟩

end Go.Proofs.YteheagaiphhhlaaGreatDoor
