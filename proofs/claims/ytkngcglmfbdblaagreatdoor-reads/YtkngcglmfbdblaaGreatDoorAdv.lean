/-
  advance, walked: the reader in memory goes as the reader on paper.
-/
import Derived.Test.YtkngcglmfbdblaaGreatDoorCut
import Derived.Test.YtkngcglmfbdblaaGreatDoorZa
namespace Go.Proofs.YtkngcglmfbdblaaGreatDoor
open Go.RowKit

theorem Rd.set2 {w : World} {b : Nat} {s : ByteArray} {p n : Nat} {k tp : Int} {x : ByteArray} {v : Int} (h : Rd w b s p n k tp x v) : Rd (w.setCell ⟨b, 2, none⟩ (.int .i64 ((n : Int) + 1))) b s p (n + 1) k tp x v := by
  have fr : ∀ o, (w.setCell ⟨b, 2, none⟩ (.int .i64 ((n : Int) + 1))).frozen? ⟨b, o, none⟩ = false := fun o => by simp [h.fz]
  have oth : ∀ o, o ≠ 2 → (w.setCell ⟨b, 2, none⟩ (.int .i64 ((n : Int) + 1))).cell? ⟨b, o, none⟩ = w.cell? ⟨b, o, none⟩ := fun o ho => World.cell?_setCell_other _ ⟨b, 2, none⟩ ⟨b, o, none⟩ _ (fun e => ho (by cases e; rfl))
  have c2 : (w.setCell ⟨b, 2, none⟩ (.int .i64 ((n : Int) + 1))).cell? ⟨b, 2, none⟩ = some (.int .i64 ((n + 1 : Nat) : Int)) := by
    rw [show ((n + 1 : Nat) : Int) = (n : Int) + 1 from by omega]; exact World.cell?_setCell_same _ _ _ h.c2
  exact ⟨(oth 0 (by decide)).trans h.c0, (oth 1 (by decide)).trans h.c1, c2, (oth 3 (by decide)).trans h.c3, (oth 4 (by decide)).trans h.c4, (oth 5 (by decide)).trans h.c5, (oth 6 (by decide)).trans h.c6, fr⟩
theorem Rd.tok4 {w : World} {b : Nat} {s : ByteArray} {p n : Nat} {k tp : Int} {x : ByteArray} {v : Int} (h : Rd w b s p n k tp x v) (k' tp' : Int) (x' : ByteArray) (v' : Int) :
    Rd ((((w.setCell ⟨b, 3, none⟩ (.int .i64 k')).setCell ⟨b, 4, none⟩ (.int .i64 tp')).setCell ⟨b, 5, none⟩ (.string x')).setCell ⟨b, 6, none⟩ (.int .i64 v')) b s p n k' tp' x' v' := by
  have ne : ∀ {i j : Nat}, i ≠ j → (⟨b, i, none⟩ : Addr) ≠ ⟨b, j, none⟩ := fun h e => h (by cases e; rfl)
  have oth : ∀ {W : World} {u : Value} (i o : Nat), i ≠ o → (W.setCell ⟨b, i, none⟩ u).cell? ⟨b, o, none⟩ = W.cell? ⟨b, o, none⟩ := fun i o hio => World.cell?_setCell_other _ ⟨b, i, none⟩ ⟨b, o, none⟩ _ (ne hio)
  have all : ∀ o, o ≠ 3 → o ≠ 4 → o ≠ 5 → o ≠ 6 → ((((w.setCell ⟨b, 3, none⟩ (.int .i64 k')).setCell ⟨b, 4, none⟩ (.int .i64 tp')).setCell ⟨b, 5, none⟩ (.string x')).setCell ⟨b, 6, none⟩ (.int .i64 v')).cell? ⟨b, o, none⟩ = w.cell? ⟨b, o, none⟩ := fun o h3 h4 h5 h6 => by
    rw [oth 6 o (Ne.symm h6), oth 5 o (Ne.symm h5), oth 4 o (Ne.symm h4), oth 3 o (Ne.symm h3)]
  refine ⟨(all 0 (by decide) (by decide) (by decide) (by decide)).trans h.c0, (all 1 (by decide) (by decide) (by decide) (by decide)).trans h.c1, (all 2 (by decide) (by decide) (by decide) (by decide)).trans h.c2, ?_, ?_, ?_, ?_, fun o => by simp [h.fz]⟩
  · rw [oth 6 3 (by decide), oth 5 3 (by decide), oth 4 3 (by decide)]; exact World.cell?_setCell_same _ _ _ h.c3
  · rw [oth 6 4 (by decide), oth 5 4 (by decide)]; exact World.cell?_setCell_same (w.setCell ⟨b, 3, none⟩ (.int .i64 k')) _ _ ((oth 3 4 (by decide)).trans h.c4)
  · rw [oth 6 5 (by decide)]; exact World.cell?_setCell_same ((w.setCell ⟨b, 3, none⟩ (.int .i64 k')).setCell ⟨b, 4, none⟩ (.int .i64 tp')) _ _ (((oth 4 5 (by decide)).trans (oth 3 5 (by decide))).trans h.c5)
  · exact World.cell?_setCell_same (((w.setCell ⟨b, 3, none⟩ (.int .i64 k')).setCell ⟨b, 4, none⟩ (.int .i64 tp')).setCell ⟨b, 5, none⟩ (.string x')) _ _ ((((oth 5 6 (by decide)).trans (oth 4 6 (by decide))).trans (oth 3 6 (by decide))).trans h.c6)

theorem while_len (f : UInt8 → Bool) : ∀ l : Mil.Bytes, (l.takeWhile f).length ≤ l.length
  | [] => Nat.le_refl _
  | c :: r => by
    rw [List.takeWhile_cons]
    have := while_len f r
    split <;> simp <;> omega
theorem skip_len : ∀ (f : Bool) (l : Mil.Bytes), (Mil.skip f l).length ≤ l.length
  | true, [] => Nat.le_refl _
  | false, [] => Nat.le_refl _
  | true, c :: r => by
    rw [Mil.skip]
    have := skip_len true r
    have := skip_len false r
    split <;> simp <;> omega
  | false, c :: r => by
    rw [Mil.skip]
    have := skip_len true r
    have := skip_len false r
    split
    · simp; omega
    · split
      · simp; omega
      · exact Nat.le_refl _
theorem cut_len {l : Mil.Bytes} {t : Mil.Tok} {r : Mil.Bytes} (h : Mil.cut l = some (t, r)) : t.txt.length ≤ l.length := by
  cases l with
  | nil =>
    obtain ⟨rfl, rfl⟩ := Prod.mk.inj (Option.some.inj h)
    exact Nat.zero_le _
  | cons c q =>
    rw [cut_cons] at h
    by_cases hl : Mil.isL c = true
    · rw [if_pos hl] at h
      unfold Mil.cutName at h
      split at h
      · cases h
      · obtain ⟨rfl, rfl⟩ := Prod.mk.inj (Option.some.inj h)
        have := while_len Mil.isN (c :: q)
        split
        · exact this
        · exact this
    · rw [if_neg hl] at h
      by_cases hd : Mil.isD c = true
      · rw [if_pos hd] at h
        unfold Mil.cutNum at h
        split at h
        · split at h
          · cases h
          · obtain ⟨rfl, rfl⟩ := Prod.mk.inj (Option.some.inj h)
            exact while_len Mil.isD (c :: q)
        · cases h
      · rw [if_neg hd] at h
        unfold Mil.cutSign at h
        split at h
        · rename_i x hf
          obtain ⟨rfl, rfl⟩ := Prod.mk.inj (Option.some.inj h)
          have hfx : List.isPrefixOf x (c :: q) = true := List.find?_some (p := fun x => List.isPrefixOf x (c :: q)) hf
          exact (List.isPrefixOf_iff_prefix.1 hfx).length_le
        · cases h

theorem while_whole (f : UInt8 → Bool) : ∀ l : Mil.Bytes, (l.takeWhile f).length + (l.dropWhile f).length = l.length
  | [] => rfl
  | c :: r => by
    rw [List.takeWhile_cons, List.dropWhile_cons]
    have := while_whole f r
    split
    · simp; omega
    · simp
theorem cut_whole {l : Mil.Bytes} {t : Mil.Tok} {r : Mil.Bytes} (h : Mil.cut l = some (t, r)) : t.txt.length + r.length = l.length := by
  cases l with
  | nil =>
    obtain ⟨rfl, rfl⟩ := Prod.mk.inj (Option.some.inj h)
    rfl
  | cons c q =>
    rw [cut_cons] at h
    by_cases hl : Mil.isL c = true
    · rw [if_pos hl] at h
      unfold Mil.cutName at h
      split at h
      · cases h
      · obtain ⟨rfl, rfl⟩ := Prod.mk.inj (Option.some.inj h)
        have := while_whole Mil.isN (c :: q)
        split
        · exact this
        · exact this
    · rw [if_neg hl] at h
      by_cases hd : Mil.isD c = true
      · rw [if_pos hd] at h
        unfold Mil.cutNum at h
        split at h
        · split at h
          · cases h
          · obtain ⟨rfl, rfl⟩ := Prod.mk.inj (Option.some.inj h)
            exact while_whole Mil.isD (c :: q)
        · cases h
      · rw [if_neg hd] at h
        unfold Mil.cutSign at h
        split at h
        · rename_i x hf
          obtain ⟨rfl, rfl⟩ := Prod.mk.inj (Option.some.inj h)
          have hfx : List.isPrefixOf x (c :: q) = true := List.find?_some (p := fun x => List.isPrefixOf x (c :: q)) hf
          have := (List.isPrefixOf_iff_prefix.1 hfx).length_le
          show x.length + (List.drop x.length (c :: q)).length = _
          rw [List.length_drop]
          omega
        · cases h

/-- Where the token at hand begins, in a text of n bytes. -/
def place (n : Nat) (st : Mil.St) : Int := (n : Int) - st.rest.length - st.tok.txt.length
/-- The reader in memory stands as the one on paper. -/
def RdS (w : World) (b : Nat) (s : ByteArray) (st : Mil.St) : Prop :=
  ∃ p tp x, p ≤ s.size ∧ Rd w b s p st.cnt (st.tok.kind : Nat) tp x st.tok.val ∧ st.rest = s.data.toList.drop p ∧ x.data.toList = st.tok.txt ∧ st.cnt ≤ 600 ∧ st.tok.txt.length ≤ 4000 ∧ tp = place s.size st
/-- A Diag is thrown, of that error and place. -/
def Threw (F : Nat → Int → Prop) (a : Nat → Addr) (e : Ending) (w' : World) : Prop := ∃ k at_, (k = 1 ∨ k = 2 ∨ k = 3 ∨ k = 4) ∧
  ∃ d, e = .panicked [{ v := .iface 52 (.pointer (some ⟨d, 0, none⟩)), recovered := false }] ∧ w'.heap[d]? = some (.cells #[.int .i64 at_, errV (a k)] 59 (0, 0)) ∧ F k at_
/-- A call that answers nothing and goes on to r. -/
def StPost (r : Option Mil.St) (z : Mil.Rz Mil.St) (a : Nat → Addr) (b : Nat) (s : ByteArray) (w : World) (e : Ending) (w' : World) : Prop :=
  Kp b w w' ∧ ((∃ st, e = .returned (.tuple #[]) ∧ r = some st ∧ RdS w' b s st) ∨ Threw (fun k p => z = .bad k p) a e w')

set_option maxRecDepth 100000 in
set_option maxHeartbeats 1000000 in
theorem advance_raw (a : Nat → Addr) (b : Nat) (s : ByteArray) (p n : Nat) (k tp : Int) (x : ByteArray) (v : Int) (w : World) (L : Laid a w) (hb : 23 ≤ b) (h : Rd w b s p n k tp x v) (hp : p ≤ s.size) (hn : n ≤ 600) (hs : s.size ≤ 4000) :
    Calls Tryz.prog 18 #[.pointer (some ⟨b, 0, none⟩)] w (StPost (Mil.adv' (s.data.toList.drop p) n) (Mil.advZ' s.size (s.data.toList.drop p) n) a b s w) := by
  have H : Hid (Rd w b s p n k tp x v) := h
  have HL : Hid (Laid a w) := L
  clear h L
  go_enter Tryz.func18, Tryz.ntmps18
  go_wp2_with fail
  refine (skipBlanks_any b s p n k tp x v w H.out hp hs).mono ?_
  rintro e w1 ⟨rfl, q, hpq, hq, hsk, hR1, hK1⟩
  have HSK : Hid (s.data.toList.drop q = Mil.skip false (s.data.toList.drop p)) := hsk
  have HR1 : Hid (Rd w1 b s q n k tp x v) := hR1
  have HK1 : Hid (Kp b w w1) := hK1
  have HPQ : Hid ((s.size : Int) - (Mil.skip false (s.data.toList.drop p)).length = q) := by
    have l2 : (s.data.toList.drop q).length = s.size - q := by simp
    show _ = _
    rw [← hsk, l2]
    omega
  clear hsk hR1 hK1
  go_wp2_with fail
  refine (cut_any a b s q n k tp x v w1 (HL.out.kept HK1.out hb) hb HR1.out hq hs).mono ?_
  rintro e w2 ⟨hk2, (⟨t, r, xt, rfl, h1, h2, hR2, hc2, hx2⟩ | ⟨⟨d, rfl, hd⟩, hno⟩)⟩
  · have HR2 : Hid (Rd w2 b s r n k tp x v) := hR2
    have HK2 : Hid (Kp b w w2) := HK1.out.trans hk2
    have HC2 : Hid (Mil.cut (Mil.skip false (s.data.toList.drop p)) = some (t, s.data.toList.drop r)) := by rw [← HSK.out]; exact hc2
    have HTL : Hid (t.txt.length ≤ 4000) := by
      have l1 := cut_len HC2.out
      have l2 := skip_len false (s.data.toList.drop p)
      have l3 : (s.data.toList.drop p).length ≤ 4000 := by simp; omega
      show _ ≤ _; omega
    have HPL : Hid (∀ n', (q : Int) = place s.size ⟨t, s.data.toList.drop r, n'⟩) := by
      intro n'
      have l1 := cut_whole hc2
      have l2 : (s.data.toList.drop q).length = s.size - q := by simp
      rw [l2] at l1
      show (q : Int) = (s.size : Int) - (s.data.toList.drop r).length - t.txt.length
      omega
    have c3 := hR2.c3
    have c4 := hR2.c4
    have c5 := hR2.c5
    have c6 := hR2.c6
    have f3 := hR2.fz 3
    have f4 := hR2.fz 4
    have f5 := hR2.fz 5
    have f6 := hR2.fz 6
    clear hk2 hR2 hc2
    have HR4 : Hid (Rd ((((w2.setCell ⟨b, 3, none⟩ (.int .i64 (t.kind : Nat))).setCell ⟨b, 4, none⟩ (.int .i64 q)).setCell ⟨b, 5, none⟩ (.string xt)).setCell ⟨b, 6, none⟩ (.int .i64 t.val)) b s r n (t.kind : Nat) q xt t.val) := HR2.out.tok4 _ _ _ _
    have HK4 : Hid (Kp b w ((((w2.setCell ⟨b, 3, none⟩ (.int .i64 (t.kind : Nat))).setCell ⟨b, 4, none⟩ (.int .i64 q)).setCell ⟨b, 5, none⟩ (.string xt)).setCell ⟨b, 6, none⟩ (.int .i64 t.val))) := (((HK2.out.setCell _ _).setCell _ _).setCell _ _).setCell _ _
    by_cases h0 : t.kind = 0
    · obtain ⟨kd, tx, vl⟩ := t
      have h0' : kd = 0 := h0
      subst h0'
      go_wp2
      go_end0
      refine ⟨HK4.out, Or.inl ⟨⟨⟨0, tx, vl⟩, s.data.toList.drop r, n⟩, rfl, ?_, r, q, xt, h2, HR4.out, rfl, hx2, hn, HTL.out, HPL.out n⟩⟩
      unfold Mil.adv'
      rw [HC2.out]; rfl
    · have hb0 : (((t.kind : Nat) : Int) == 0) = false := by simp; omega
      have HR5 : Hid (Rd (((((w2.setCell ⟨b, 3, none⟩ (.int .i64 (t.kind : Nat))).setCell ⟨b, 4, none⟩ (.int .i64 q)).setCell ⟨b, 5, none⟩ (.string xt)).setCell ⟨b, 6, none⟩ (.int .i64 t.val)).setCell ⟨b, 2, none⟩ (.int .i64 ((n : Int) + 1))) b s r (n + 1) (t.kind : Nat) q xt t.val) := HR4.out.set2
      have HK5 : Hid (Kp b w (((((w2.setCell ⟨b, 3, none⟩ (.int .i64 (t.kind : Nat))).setCell ⟨b, 4, none⟩ (.int .i64 q)).setCell ⟨b, 5, none⟩ (.string xt)).setCell ⟨b, 6, none⟩ (.int .i64 t.val)).setCell ⟨b, 2, none⟩ (.int .i64 ((n : Int) + 1)))) := HK4.out.setCell _ _
      have c2 := HR2.out.c2
      have f2 := HR2.out.fz 2
      have HN0 : Hid (t.kind ≠ 0) := h0
      clear h0
      by_cases h6 : n = 600
      · have hgt : (600 : Int) < (n : Int) + 1 := by omega
        have HE : Hid (n = 600) := h6
        have hcl := (HL.out.kept HK5.out hb).long
        have hc4 := HR5.out.c4
        clear h6
        go_wp2
        generalize ((((w2.setCell ⟨b, 3, none⟩ (.int .i64 (t.kind : Nat))).setCell ⟨b, 4, none⟩ (.int .i64 q)).setCell ⟨b, 5, none⟩ (.string xt)).setCell ⟨b, 6, none⟩ (.int .i64 t.val)).setCell ⟨b, 2, none⟩ (.int .i64 ((n : Int) + 1)) = w3 at *
        clear c2 c3 c4 c5 c6 f2 f3 f4 f5 f6
        have hpp : ∀ tm : Array Value, bodyPost Tryz.prog Tryz.f18 (StPost (Mil.adv' (s.data.toList.drop p) n) (Mil.advZ' s.size (s.data.toList.drop p) n) a b s w) (Exit.panic [{ v := .iface 52 (.pointer (some ⟨w3.heap.size, 0, none⟩)), recovered := false }]) { tmps := tm, defers := [] } (w3.alloc (.cells #[.int .i64 q, errV (a 1)] 59)).drew := by
          intro tm
          refine ⟨rfl, (HK5.out.alloc _).drew, Or.inr ⟨1, q, Or.inl rfl, w3.heap.size, rfl, heap_alloc_new w3 _, ?_⟩⟩
          unfold Mil.advZ'
          rw [HC2.out]
          simp only []
          rw [if_neg HN0.out, if_pos (by have := HE.out; omega), HPQ.out]
        refine wp_region_any (by kernel_rfl) ?_
        change wpAny _ _ _ _ _ _ _ (World.drew _)
        refine wpAny_take (i := 0) (v := .pointer (some ⟨b, 0, none⟩)) rfl (by kernel_rfl) (by kernel_rfl) (by kernel_rfl) (fun _ _ _ h => h) (Or.inl ⟨by rfl, fun w => by go_simp⟩) ?_
        refine wpAny_take (i := 1) (v := .pointer (some ⟨b, 0, none⟩)) rfl (by kernel_rfl) (by kernel_rfl) (by kernel_rfl) (fun _ _ _ h => h) (Or.inl ⟨by rfl, fun w => by go_simp⟩) ?_
        refine wpAny_take (i := 2) (v := .pointer (some ⟨b, 3, none⟩)) rfl (by kernel_rfl) (by kernel_rfl) (by kernel_rfl) (fun _ _ _ h => h) (Or.inl ⟨by rfl, fun w => by go_simp⟩) ?_
        refine wpAny_take (i := 3) (v := .pointer (some ⟨b, 4, none⟩)) rfl (by kernel_rfl) (by kernel_rfl) (by kernel_rfl) (fun _ _ _ h => h) (Or.inl ⟨by rfl, fun w => by go_simp⟩) ?_
        refine wpAny_ready (rs := [4, 5]) (by kernel_rfl) (by simp) ?_
        refine AllReady.cons rfl (fun K hK => ?_) (AllReady.cons rfl (fun K hK => ?_) AllReady.nil)
        · go_simp
          refine hK _ _ ?_
          clear hK K
          refine wpAny_ready (rs := [5]) (by kernel_rfl) (by simp) ?_
          refine AllReady.cons rfl (fun K hK => ?_) AllReady.nil
          go_simp
          refine hK _ _ ?_
          clear hK K
          refine wpAny_take (i := 6) (v := .agg #[.int .i64 q, errV (a 1)]) rfl (by kernel_rfl) (by kernel_rfl) (by kernel_rfl) (fun _ _ _ h => h) (Or.inl ⟨by rfl, fun w => by go_simp⟩) ?_
          refine wpAny_ready (rs := [7]) (by kernel_rfl) (by simp) ?_
          refine AllReady.cons rfl (fun K hK => ?_) AllReady.nil
          go_simp
          refine hK _ _ ?_
          clear hK K
          refine wpAny_take (i := 8) (v := .iface 52 (.pointer (some ⟨w3.heap.size, 0, none⟩))) rfl (by kernel_rfl) (by kernel_rfl) (by kernel_rfl) (fun _ _ _ h => h) (Or.inl ⟨by rfl, fun w => by go_simp⟩) ?_
          refine wpAny_ready (rs := [9]) (by kernel_rfl) (by simp) ?_
          refine AllReady.cons rfl (fun K hK => ?_) AllReady.nil
          go_simp
        · go_simp
          refine hK _ _ ?_
          clear hK K
          refine wpAny_ready (rs := [4]) (by kernel_rfl) (by simp) ?_
          refine AllReady.cons rfl (fun K hK => ?_) AllReady.nil
          go_simp
          refine hK _ _ ?_
          clear hK K
          refine wpAny_take (i := 6) (v := .agg #[.int .i64 q, errV (a 1)]) rfl (by kernel_rfl) (by kernel_rfl) (by kernel_rfl) (fun _ _ _ h => h) (Or.inl ⟨by rfl, fun w => by go_simp⟩) ?_
          refine wpAny_ready (rs := [7]) (by kernel_rfl) (by simp) ?_
          refine AllReady.cons rfl (fun K hK => ?_) AllReady.nil
          go_simp
          refine hK _ _ ?_
          clear hK K
          refine wpAny_take (i := 8) (v := .iface 52 (.pointer (some ⟨w3.heap.size, 0, none⟩))) rfl (by kernel_rfl) (by kernel_rfl) (by kernel_rfl) (fun _ _ _ h => h) (Or.inl ⟨by rfl, fun w => by go_simp⟩) ?_
          refine wpAny_ready (rs := [9]) (by kernel_rfl) (by simp) ?_
          refine AllReady.cons rfl (fun K hK => ?_) AllReady.nil
          go_simp
      · have hle : ¬ (600 : Int) < (n : Int) + 1 := by omega
        have HE : Hid (n ≠ 600) := h6
        clear h6
        go_wp2
        go_end0
        refine ⟨HK5.out, Or.inl ⟨⟨t, s.data.toList.drop r, n + 1⟩, rfl, ?_, r, q, xt, h2, HR5.out, rfl, hx2, by have := HE.out; show n + 1 ≤ 600; omega, HTL.out, HPL.out (n + 1)⟩⟩
        unfold Mil.adv'
        rw [HC2.out]
        simp only []
        rw [if_neg HN0.out, if_neg (by have := HE.out; omega)]
  · go_wp2
    refine ⟨rfl, HK1.out.trans hk2, Or.inr ⟨2, _, Or.inr (Or.inl rfl), d, rfl, hd, ?_⟩⟩
    unfold Mil.advZ'
    have hc : Mil.cut (Mil.skip false (s.data.toList.drop p)) = none := by rw [← HSK.out]; exact hno
    rw [hc]
    simp only []
    rw [HPQ.out]

/-- advance, over the reader on paper. -/
theorem advance_any (a : Nat → Addr) (b : Nat) (s : ByteArray) (st : Mil.St) (w : World) (L : Laid a w) (hb : 23 ≤ b) (h : RdS w b s st) (hs : s.size ≤ 4000) :
    Calls Tryz.prog 18 #[.pointer (some ⟨b, 0, none⟩)] w (StPost (Mil.adv st) (Mil.advZ s.size st) a b s w) := by
  obtain ⟨p, tp, x, hp, hR, hr, _, hn, _⟩ := h
  unfold Mil.adv Mil.advZ
  rw [hr]
  exact advance_raw a b s p st.cnt _ tp x _ w L hb hR hp hn hs

end Go.Proofs.YtkngcglmfbdblaaGreatDoor
