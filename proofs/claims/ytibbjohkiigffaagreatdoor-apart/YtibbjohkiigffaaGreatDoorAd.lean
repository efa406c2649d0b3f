/-
  Adv, Prim, Hya, Hyb, Prin, Tigh, in one.
-/
import Derived.Test.YtibbjohkiigffaaGreatDoorLx
import Derived.Test.YtibbjohkiigffaaGreatDoorPap
import Derived.Deep.RegionHeld3
import Derived.Test.YtibbjohkiigffaaGreatDoorPau
import Derived.Test.YtibbjohkiigffaaGreatDoorShelf
namespace Go.Proofs.YtibbjohkiigffaaGreatDoor
open Go.RowKit

theorem Rd.set2 {w : World} {b : Nat} {s : ByteArray} {p n : Nat} {k tp : Int} {x : ByteArray} {v : Int} (h : Rd w b s p n k tp x v) : Rd (w.setCell ⟨b, 2, none⟩ (.int .i64 ((n : Int) + 1))) b s p (n + 1) k tp x v := by
  have fr : ∀ o, (w.setCell ⟨b, 2, none⟩ (.int .i64 ((n : Int) + 1))).frozen? ⟨b, o, none⟩ = false := fun o => by simp [h.fz]
  have oth : ∀ o, o ≠ 2 → (w.setCell ⟨b, 2, none⟩ (.int .i64 ((n : Int) + 1))).cell? ⟨b, o, none⟩ = w.cell? ⟨b, o, none⟩ := fun o ho => World.cell?_setCell_other _ ⟨b, 2, none⟩ ⟨b, o, none⟩ _ (fun e => ho (by cases e; rfl))
  have c2 : (w.setCell ⟨b, 2, none⟩ (.int .i64 ((n : Int) + 1))).cell? ⟨b, 2, none⟩ = some (.int .i64 ((n + 1 : Nat) : Int)) := by
    rw [show ((n + 1 : Nat) : Int) = (n : Int) + 1 from by omega]; exact World.cell?_setCell_same _ _ _ h.c2
  exact ⟨(oth 0 (by decide)).trans h.c0, (oth 1 (by decide)).trans h.c1, c2, (oth 3 (by decide)).trans h.c3, (oth 4 (by decide)).trans h.c4, (oth 5 (by decide)).trans h.c5, (oth 6 (by decide)).trans h.c6, fr⟩
theorem Rd.tok4 {w : World} {b : Nat} {s : ByteArray} {p n : Nat} {k tp : Int} {x : ByteArray} {v : Int} (h : Rd w b s p n k tp x v) (k' tp' : Int) (x' : ByteArray) (v' : Int) :
    Rd ((((w.setCell ⟨b, 3, none⟩ (.int .i64 k')).setCell ⟨b, 4, none⟩ (.int .i64 tp')).setCell ⟨b, 5, none⟩ (.string x')).setCell ⟨b, 6, none⟩ (.int .i64 v')) b s p n k' tp' x' v' := by
  have ne : ∀ {i j : Nat}, i ≠ j → (⟨b, i, none⟩ : Addr) ≠ ⟨b, j, none⟩ := fun h e => h (by cases e; rfl)
  have oth : ∀ {W : World} {u : Value} (i o : Nat), i ≠ o → (W.setCell ⟨b, i, none⟩ u).cell? ⟨b, o, none⟩ = W.cell? ⟨b, o, none⟩ := fun i o hio => World.cell?_setCell_other _ ⟨b, i, none⟩ ⟨b, o, none⟩ _ (ne hio)
  have all : ∀ o, o ≠ 3 → o ≠ 4 → o ≠ 5 → o ≠ 6 → ((((w.setCell ⟨b, 3, none⟩ (.int .i64 k')).setCell ⟨b, 4, none⟩ (.int .i64 tp')).setCell ⟨b, 5, none⟩ (.string x')).setCell ⟨b, 6, none⟩ (.int .i64 v')).cell? ⟨b, o, none⟩ = w.cell? ⟨b, o, none⟩ := fun o h3 h4 h5 h6 => by
    rw [oth 6 o (Ne.symm h6), oth 5 o (Ne.symm h5), oth 4 o (Ne.symm h4), oth 3 o (Ne.symm h3)]
  refine ⟨(all 0 (by decide) (by decide) (by decide) (by decide)).trans h.c0, (all 1 (by decide) (by decide) (by decide) (by decide)).trans h.c1, (all 2 (by decide) (by decide) (by decide) (by decide)).trans h.c2, ?_, ?_, ?_, ?_, fun o => by simp [h.fz]⟩
  · rw [oth 6 3 (by decide), oth 5 3 (by decide), oth 4 3 (by decide)]; exact World.cell?_setCell_same _ _ _ h.c3
  · rw [oth 6 4 (by decide), oth 5 4 (by decide)]; exact World.cell?_setCell_same (w.setCell ⟨b, 3, none⟩ (.int .i64 k')) _ _ ((oth 3 4 (by decide)).trans h.c4)
  · rw [oth 6 5 (by decide)]; exact World.cell?_setCell_same ((w.setCell ⟨b, 3, none⟩ (.int .i64 k')).setCell ⟨b, 4, none⟩ (.int .i64 tp')) _ _ (((oth 4 5 (by decide)).trans (oth 3 5 (by decide))).trans h.c5)
  · exact World.cell?_setCell_same (((w.setCell ⟨b, 3, none⟩ (.int .i64 k')).setCell ⟨b, 4, none⟩ (.int .i64 tp')).setCell ⟨b, 5, none⟩ (.string x')) _ _ ((((oth 5 6 (by decide)).trans (oth 4 6 (by decide))).trans (oth 3 6 (by decide))).trans h.c6)

theorem while_len (f : UInt8 → Bool) : ∀ l : Mil.Bytes, (l.takeWhile f).length ≤ l.length
  | [] => Nat.le_refl _
  | c :: r => by
    rw [List.takeWhile_cons]
    have := while_len f r
    split <;> simp <;> omega
theorem skip_len : ∀ (f : Bool) (l : Mil.Bytes), (Mil.skip f l).length ≤ l.length
  | true, [] => Nat.le_refl _
  | false, [] => Nat.le_refl _
  | true, c :: r => by
    rw [Mil.skip]
    have := skip_len true r
    have := skip_len false r
    split <;> simp <;> omega
  | false, c :: r => by
    rw [Mil.skip]
    have := skip_len true r
    have := skip_len false r
    split
    · simp; omega
    · split
      · simp; omega
      · exact Nat.le_refl _
theorem cut_len {l : Mil.Bytes} {t : Mil.Tok} {r : Mil.Bytes} (h : Mil.cut l = some (t, r)) : t.txt.length ≤ l.length := by
  cases l with
  | nil =>
    obtain ⟨rfl, rfl⟩ := Prod.mk.inj (Option.some.inj h)
    exact Nat.zero_le _
  | cons c q =>
    rw [cut_cons] at h
    by_cases hl : Mil.isL c = true
    · rw [if_pos hl] at h
      unfold Mil.cutName at h
      split at h
      · cases h
      · obtain ⟨rfl, rfl⟩ := Prod.mk.inj (Option.some.inj h)
        have := while_len Mil.isN (c :: q)
        split
        · exact this
        · exact this
    · rw [if_neg hl] at h
      by_cases hd : Mil.isD c = true
      · rw [if_pos hd] at h
        unfold Mil.cutNum at h
        split at h
        · split at h
          · cases h
          · obtain ⟨rfl, rfl⟩ := Prod.mk.inj (Option.some.inj h)
            exact while_len Mil.isD (c :: q)
        · cases h
      · rw [if_neg hd] at h
        unfold Mil.cutSign at h
        split at h
        · rename_i x hf
          obtain ⟨rfl, rfl⟩ := Prod.mk.inj (Option.some.inj h)
          have hfx : List.isPrefixOf x (c :: q) = true := List.find?_some (p := fun x => List.isPrefixOf x (c :: q)) hf
          exact (List.isPrefixOf_iff_prefix.1 hfx).length_le
        · cases h

theorem while_whole (f : UInt8 → Bool) : ∀ l : Mil.Bytes, (l.takeWhile f).length + (l.dropWhile f).length = l.length
  | [] => rfl
  | c :: r => by
    rw [List.takeWhile_cons, List.dropWhile_cons]
    have := while_whole f r
    split
    · simp; omega
    · simp
theorem cut_whole {l : Mil.Bytes} {t : Mil.Tok} {r : Mil.Bytes} (h : Mil.cut l = some (t, r)) : t.txt.length + r.length = l.length := by
  cases l with
  | nil =>
    obtain ⟨rfl, rfl⟩ := Prod.mk.inj (Option.some.inj h)
    rfl
  | cons c q =>
    rw [cut_cons] at h
    by_cases hl : Mil.isL c = true
    · rw [if_pos hl] at h
      unfold Mil.cutName at h
      split at h
      · cases h
      · obtain ⟨rfl, rfl⟩ := Prod.mk.inj (Option.some.inj h)
        have := while_whole Mil.isN (c :: q)
        split
        · exact this
        · exact this
    · rw [if_neg hl] at h
      by_cases hd : Mil.isD c = true
      · rw [if_pos hd] at h
        unfold Mil.cutNum at h
        split at h
        · split at h
          · cases h
          · obtain ⟨rfl, rfl⟩ := Prod.mk.inj (Option.some.inj h)
            exact while_whole Mil.isD (c :: q)
        · cases h
      · rw [if_neg hd] at h
        unfold Mil.cutSign at h
        split at h
        · rename_i x hf
          obtain ⟨rfl, rfl⟩ := Prod.mk.inj (Option.some.inj h)
          have hfx : List.isPrefixOf x (c :: q) = true := List.find?_some (p := fun x => List.isPrefixOf x (c :: q)) hf
          have := (List.isPrefixOf_iff_prefix.1 hfx).length_le
          show x.length + (List.drop x.length (c :: q)).length = _
          rw [List.length_drop]
          omega
        · cases h

/-- Where the token at hand begins, in a text of n bytes. -/
def place (n : Nat) (st : Mil.St) : Int := (n : Int) - st.rest.length - st.tok.txt.length
/-- The reader in memory stands as the one on paper. -/
def RdS (w : World) (b : Nat) (s : ByteArray) (st : Mil.St) : Prop :=
  ∃ p tp x, p ≤ s.size ∧ Rd w b s p st.cnt (st.tok.kind : Nat) tp x st.tok.val ∧ st.rest = s.data.toList.drop p ∧ x.data.toList = st.tok.txt ∧ st.cnt ≤ 600 ∧ st.tok.txt.length ≤ 4000 ∧ tp = place s.size st
/-- A Diag is thrown, of that error and place. -/
def Threw (F : Nat → Int → Prop) (a : Nat → Addr) (e : Ending) (w' : World) : Prop := ∃ k at_, (k = 1 ∨ k = 2 ∨ k = 3 ∨ k = 4) ∧
  ∃ d, e = .panicked [{ v := .iface 59 (.pointer (some ⟨d, 0, none⟩)), recovered := false }] ∧ w'.heap[d]? = some (.cells #[.int .i64 at_, errV (a k)] 70 (0, 0)) ∧ F k at_
/-- A call that answers nothing and goes on to r. -/
def StPost (r : Option Mil.St) (z : Mil.Rz Mil.St) (a : Nat → Addr) (b : Nat) (s : ByteArray) (w : World) (e : Ending) (w' : World) : Prop :=
  Kp b w w' ∧ ((∃ st, e = .returned (.tuple #[]) ∧ r = some st ∧ RdS w' b s st) ∨ Threw (fun k p => z = .bad k p) a e w')

set_option maxRecDepth 100000 in
set_option maxHeartbeats 1000000 in
theorem advance_raw (a : Nat → Addr) (b : Nat) (s : ByteArray) (p n : Nat) (k tp : Int) (x : ByteArray) (v : Int) (w : World) (L : Laid a w) (hb : 23 ≤ b) (h : Rd w b s p n k tp x v) (hp : p ≤ s.size) (hn : n ≤ 600) (hs : s.size ≤ 4000) :
    Calls Tryz.prog 39 #[.pointer (some ⟨b, 0, none⟩)] w (StPost (Mil.adv' (s.data.toList.drop p) n) (Mil.advZ' s.size (s.data.toList.drop p) n) a b s w) := by
  have H : Hid (Rd w b s p n k tp x v) := h
  have HL : Hid (Laid a w) := L
  clear h L
  go_enter Tryz.func39, Tryz.ntmps39
  go_wp2_with fail
  refine (skipBlanks_any b s p n k tp x v w H.out hp hs).mono ?_
  rintro e w1 ⟨rfl, q, hpq, hq, hsk, hR1, hK1⟩
  have HSK : Hid (s.data.toList.drop q = Mil.skip false (s.data.toList.drop p)) := hsk
  have HR1 : Hid (Rd w1 b s q n k tp x v) := hR1
  have HK1 : Hid (Kp b w w1) := hK1
  have HPQ : Hid ((s.size : Int) - (Mil.skip false (s.data.toList.drop p)).length = q) := by
    have l2 : (s.data.toList.drop q).length = s.size - q := by simp
    show _ = _
    rw [← hsk, l2]
    omega
  clear hsk hR1 hK1
  go_wp2_with fail
  refine (cut_any a b s q n k tp x v w1 (HL.out.kept HK1.out hb) hb HR1.out hq hs).mono ?_
  rintro e w2 ⟨hk2, (⟨t, r, xt, rfl, h1, h2, hR2, hc2, hx2⟩ | ⟨⟨d, rfl, hd⟩, hno⟩)⟩
  · have HR2 : Hid (Rd w2 b s r n k tp x v) := hR2
    have HK2 : Hid (Kp b w w2) := HK1.out.trans hk2
    have HC2 : Hid (Mil.cut (Mil.skip false (s.data.toList.drop p)) = some (t, s.data.toList.drop r)) := by rw [← HSK.out]; exact hc2
    have HTL : Hid (t.txt.length ≤ 4000) := by
      have l1 := cut_len HC2.out
      have l2 := skip_len false (s.data.toList.drop p)
      have l3 : (s.data.toList.drop p).length ≤ 4000 := by simp; omega
      show _ ≤ _; omega
    have HPL : Hid (∀ n', (q : Int) = place s.size ⟨t, s.data.toList.drop r, n'⟩) := by
      intro n'
      have l1 := cut_whole hc2
      have l2 : (s.data.toList.drop q).length = s.size - q := by simp
      rw [l2] at l1
      show (q : Int) = (s.size : Int) - (s.data.toList.drop r).length - t.txt.length
      omega
    have c3 := hR2.c3
    have c4 := hR2.c4
    have c5 := hR2.c5
    have c6 := hR2.c6
    have f3 := hR2.fz 3
    have f4 := hR2.fz 4
    have f5 := hR2.fz 5
    have f6 := hR2.fz 6
    clear hk2 hR2 hc2
    have HR4 : Hid (Rd ((((w2.setCell ⟨b, 3, none⟩ (.int .i64 (t.kind : Nat))).setCell ⟨b, 4, none⟩ (.int .i64 q)).setCell ⟨b, 5, none⟩ (.string xt)).setCell ⟨b, 6, none⟩ (.int .i64 t.val)) b s r n (t.kind : Nat) q xt t.val) := HR2.out.tok4 _ _ _ _
    have HK4 : Hid (Kp b w ((((w2.setCell ⟨b, 3, none⟩ (.int .i64 (t.kind : Nat))).setCell ⟨b, 4, none⟩ (.int .i64 q)).setCell ⟨b, 5, none⟩ (.string xt)).setCell ⟨b, 6, none⟩ (.int .i64 t.val))) := (((HK2.out.setCell _ _).setCell _ _).setCell _ _).setCell _ _
    by_cases h0 : t.kind = 0
    · obtain ⟨kd, tx, vl⟩ := t
      have h0' : kd = 0 := h0
      subst h0'
      go_wp2
      go_end0
      refine ⟨HK4.out, Or.inl ⟨⟨⟨0, tx, vl⟩, s.data.toList.drop r, n⟩, rfl, ?_, r, q, xt, h2, HR4.out, rfl, hx2, hn, HTL.out, HPL.out n⟩⟩
      unfold Mil.adv'
      rw [HC2.out]; rfl
    · have hb0 : (((t.kind : Nat) : Int) == 0) = false := by simp; omega
      have HR5 : Hid (Rd (((((w2.setCell ⟨b, 3, none⟩ (.int .i64 (t.kind : Nat))).setCell ⟨b, 4, none⟩ (.int .i64 q)).setCell ⟨b, 5, none⟩ (.string xt)).setCell ⟨b, 6, none⟩ (.int .i64 t.val)).setCell ⟨b, 2, none⟩ (.int .i64 ((n : Int) + 1))) b s r (n + 1) (t.kind : Nat) q xt t.val) := HR4.out.set2
      have HK5 : Hid (Kp b w (((((w2.setCell ⟨b, 3, none⟩ (.int .i64 (t.kind : Nat))).setCell ⟨b, 4, none⟩ (.int .i64 q)).setCell ⟨b, 5, none⟩ (.string xt)).setCell ⟨b, 6, none⟩ (.int .i64 t.val)).setCell ⟨b, 2, none⟩ (.int .i64 ((n : Int) + 1)))) := HK4.out.setCell _ _
      have c2 := HR2.out.c2
      have f2 := HR2.out.fz 2
      have HN0 : Hid (t.kind ≠ 0) := h0
      clear h0
      by_cases h6 : n = 600
      · have hgt : (600 : Int) < (n : Int) + 1 := by omega
        have HE : Hid (n = 600) := h6
        have hcl := (HL.out.kept HK5.out hb).long
        have hc4 := HR5.out.c4
        clear h6
        go_wp2
        generalize ((((w2.setCell ⟨b, 3, none⟩ (.int .i64 (t.kind : Nat))).setCell ⟨b, 4, none⟩ (.int .i64 q)).setCell ⟨b, 5, none⟩ (.string xt)).setCell ⟨b, 6, none⟩ (.int .i64 t.val)).setCell ⟨b, 2, none⟩ (.int .i64 ((n : Int) + 1)) = w3 at *
        clear c2 c3 c4 c5 c6 f2 f3 f4 f5 f6
        have hpp : ∀ tm : Array Value, bodyPost Tryz.prog Tryz.f39 (StPost (Mil.adv' (s.data.toList.drop p) n) (Mil.advZ' s.size (s.data.toList.drop p) n) a b s w) (Exit.panic [{ v := .iface 59 (.pointer (some ⟨w3.heap.size, 0, none⟩)), recovered := false }]) { tmps := tm, defers := [] } (w3.alloc (.cells #[.int .i64 q, errV (a 1)] 70)).drew := by
          intro tm
          refine ⟨rfl, (HK5.out.alloc _).drew, Or.inr ⟨1, q, Or.inl rfl, w3.heap.size, rfl, heap_alloc_new w3 _, ?_⟩⟩
          unfold Mil.advZ'
          rw [HC2.out]
          simp only []
          rw [if_neg HN0.out, if_pos (by have := HE.out; omega), HPQ.out]
        refine wp_region_any (by kernel_rfl) ?_
        change wpAny _ _ _ _ _ _ _ (World.drew _)
        refine wpAny_take (i := 0) (v := .pointer (some ⟨b, 0, none⟩)) rfl (by kernel_rfl) (by kernel_rfl) (by kernel_rfl) (fun _ _ _ h => h) (Or.inl ⟨by rfl, fun w => by go_simp⟩) ?_
        refine wpAny_take (i := 1) (v := .pointer (some ⟨b, 0, none⟩)) rfl (by kernel_rfl) (by kernel_rfl) (by kernel_rfl) (fun _ _ _ h => h) (Or.inl ⟨by rfl, fun w => by go_simp⟩) ?_
        refine wpAny_take (i := 2) (v := .pointer (some ⟨b, 3, none⟩)) rfl (by kernel_rfl) (by kernel_rfl) (by kernel_rfl) (fun _ _ _ h => h) (Or.inl ⟨by rfl, fun w => by go_simp⟩) ?_
        refine wpAny_take (i := 3) (v := .pointer (some ⟨b, 4, none⟩)) rfl (by kernel_rfl) (by kernel_rfl) (by kernel_rfl) (fun _ _ _ h => h) (Or.inl ⟨by rfl, fun w => by go_simp⟩) ?_
        refine wpAny_ready (rs := [4, 5]) (by kernel_rfl) (by simp) ?_
        refine AllReady.cons rfl (fun K hK => ?_) (AllReady.cons rfl (fun K hK => ?_) AllReady.nil)
        · go_simp
          refine hK _ _ ?_
          clear hK K
          refine wpAny_ready (rs := [5]) (by kernel_rfl) (by simp) ?_
          refine AllReady.cons rfl (fun K hK => ?_) AllReady.nil
          go_simp
          refine hK _ _ ?_
          clear hK K
          refine wpAny_take (i := 6) (v := .agg #[.int .i64 q, errV (a 1)]) rfl (by kernel_rfl) (by kernel_rfl) (by kernel_rfl) (fun _ _ _ h => h) (Or.inl ⟨by rfl, fun w => by go_simp⟩) ?_
          refine wpAny_ready (rs := [7]) (by kernel_rfl) (by simp) ?_
          refine AllReady.cons rfl (fun K hK => ?_) AllReady.nil
          go_simp
          refine hK _ _ ?_
          clear hK K
          refine wpAny_take (i := 8) (v := .iface 59 (.pointer (some ⟨w3.heap.size, 0, none⟩))) rfl (by kernel_rfl) (by kernel_rfl) (by kernel_rfl) (fun _ _ _ h => h) (Or.inl ⟨by rfl, fun w => by go_simp⟩) ?_
          refine wpAny_ready (rs := [9]) (by kernel_rfl) (by simp) ?_
          refine AllReady.cons rfl (fun K hK => ?_) AllReady.nil
          go_simp
        · go_simp
          refine hK _ _ ?_
          clear hK K
          refine wpAny_ready (rs := [4]) (by kernel_rfl) (by simp) ?_
          refine AllReady.cons rfl (fun K hK => ?_) AllReady.nil
          go_simp
          refine hK _ _ ?_
          clear hK K
          refine wpAny_take (i := 6) (v := .agg #[.int .i64 q, errV (a 1)]) rfl (by kernel_rfl) (by kernel_rfl) (by kernel_rfl) (fun _ _ _ h => h) (Or.inl ⟨by rfl, fun w => by go_simp⟩) ?_
          refine wpAny_ready (rs := [7]) (by kernel_rfl) (by simp) ?_
          refine AllReady.cons rfl (fun K hK => ?_) AllReady.nil
          go_simp
          refine hK _ _ ?_
          clear hK K
          refine wpAny_take (i := 8) (v := .iface 59 (.pointer (some ⟨w3.heap.size, 0, none⟩))) rfl (by kernel_rfl) (by kernel_rfl) (by kernel_rfl) (fun _ _ _ h => h) (Or.inl ⟨by rfl, fun w => by go_simp⟩) ?_
          refine wpAny_ready (rs := [9]) (by kernel_rfl) (by simp) ?_
          refine AllReady.cons rfl (fun K hK => ?_) AllReady.nil
          go_simp
      · have hle : ¬ (600 : Int) < (n : Int) + 1 := by omega
        have HE : Hid (n ≠ 600) := h6
        clear h6
        go_wp2
        go_end0
        refine ⟨HK5.out, Or.inl ⟨⟨t, s.data.toList.drop r, n + 1⟩, rfl, ?_, r, q, xt, h2, HR5.out, rfl, hx2, by have := HE.out; show n + 1 ≤ 600; omega, HTL.out, HPL.out (n + 1)⟩⟩
        unfold Mil.adv'
        rw [HC2.out]
        simp only []
        rw [if_neg HN0.out, if_neg (by have := HE.out; omega)]
  · go_wp2
    refine ⟨rfl, HK1.out.trans hk2, Or.inr ⟨2, _, Or.inr (Or.inl rfl), d, rfl, hd, ?_⟩⟩
    unfold Mil.advZ'
    have hc : Mil.cut (Mil.skip false (s.data.toList.drop p)) = none := by rw [← HSK.out]; exact hno
    rw [hc]
    simp only []
    rw [HPQ.out]

/-- advance, over the reader on paper. -/
theorem advance_any (a : Nat → Addr) (b : Nat) (s : ByteArray) (st : Mil.St) (w : World) (L : Laid a w) (hb : 23 ≤ b) (h : RdS w b s st) (hs : s.size ≤ 4000) :
    Calls Tryz.prog 39 #[.pointer (some ⟨b, 0, none⟩)] w (StPost (Mil.adv st) (Mil.advZ s.size st) a b s w) := by
  obtain ⟨p, tp, x, hp, hR, hr, _, hn, _⟩ := h
  unfold Mil.adv Mil.advZ
  rw [hr]
  exact advance_raw a b s p st.cnt _ tp x _ w L hb hR hp hn hs

end Go.Proofs.YtibbjohkiigffaaGreatDoor
namespace Go.Proofs.YtibbjohkiigffaaGreatDoor
open Go.RowKit

theorem RdS.kept {w w' : World} {b c : Nat} {s : ByteArray} {st : Mil.St} (h : RdS w b s st) (k : Kp c w w') (hc : b ≠ c) : RdS w' b s st := by
  obtain ⟨p, tp, x, hp, hR, hr, hx, hn⟩ := h
  exact ⟨p, tp, x, hp, hR.kept k hc, hr, hx, hn⟩

set_option maxHeartbeats 400000 in
theorem refused_at (a : Nat → Addr) (b : Nat) (s : ByteArray) (st : Mil.St) (w : World) (L : Laid a w) (h : RdS w b s st) :
    Calls Tryz.prog 103 #[.pointer (some ⟨b, 0, none⟩)] w fun e w' => ∃ d, e = .returned (.pointer (some ⟨d, 0, none⟩)) ∧ w'.heap[d]? = some (.cells #[.int .i64 (place s.size st), errV (a 3)] 70 (0, 0)) ∧ Below w.heap.size w w' := by
  obtain ⟨p, tp, x, hp, hR, hr, hx, hn⟩ := h
  have c4 := hR.c4
  have cs := L.synt
  have HT : Hid (tp = place s.size st) := hn.2.2
  clear hR L hn hx hr
  go_enter Tryz.func103, Tryz.ntmps103
  go_wp2
  go_region_held3 (fun w' => w'.cell? ⟨b, 4, none⟩ = some (.int .i64 tp) ∧ w'.cell? ⟨3, 0, none⟩ = some (errV (a 3))) (exact ⟨cell_later (by repeat (first | exact Below.refl _ _ | refine Below.drew ?_ | refine Below.alloc ?_ (by first | (simp; done) | (simp; omega)) _)) c4, cell_later (by repeat (first | exact Below.refl _ _ | refine Below.drew ?_ | refine Below.alloc ?_ (by first | (simp; done) | (simp; omega)) _)) cs⟩) (fail)
  go_wp2
  go_ret
  rw [← HT.out]
  exact ⟨w.heap.size, rfl, heap_alloc_new w _, ((Below.refl _ _).alloc (Nat.le_refl _) _).drew⟩

set_option maxHeartbeats 400000 in
theorem sees_any (b : Nat) (s : ByteArray) (st : Mil.St) (y : ByteArray) (w : World) (h : RdS w b s st) :
    Calls Tryz.prog 80 #[.pointer (some ⟨b, 0, none⟩), .string y] w fun e w' => e = .returned (.bool (Mil.sees st y.data.toList)) ∧ w' = w := by
  obtain ⟨p, tp, x, hp, hR, hr, hx, hn⟩ := h
  have c3 := hR.c3
  have c5 := hR.c5
  have HX : Hid (x.data.toList = st.tok.txt) := hx
  have hsee : Mil.sees st y.data.toList = (decide (st.tok.kind = 3) && (x.toList == y.toList)) := by
    unfold Mil.sees
    rw [Lib.toList_data, Lib.toList_data, HX.out]; rfl
  have HS : Hid _ := hsee
  clear hR hx hr hsee
  by_cases h3 : st.tok.kind = 3
  · have hb : (((st.tok.kind : Nat) : Int) == 3) = true := by simp; omega
    have H3 : Hid (st.tok.kind = 3) := h3
    clear h3
    go_enter Tryz.func80, Tryz.ntmps80
    go_wp2
    go_ret
    refine ⟨ret_bool ?_, rfl⟩
    rw [HS.out, decide_eq_true H3.out]; simp
  · have hb : (((st.tok.kind : Nat) : Int) == 3) = false := by simp; omega
    have H3 : Hid (st.tok.kind ≠ 3) := h3
    clear h3
    go_enter Tryz.func80, Tryz.ntmps80
    go_wp2
    go_ret
    refine ⟨ret_bool ?_, rfl⟩
    rw [HS.out, decide_eq_false H3.out]; simp

set_option maxHeartbeats 400000 in
theorem takes_no (b : Nat) (s : ByteArray) (st : Mil.St) (y : ByteArray) (w : World) (h : RdS w b s st) (hn : Mil.sees st y.data.toList = false) :
    Calls Tryz.prog 60 #[.pointer (some ⟨b, 0, none⟩), .string y] w fun e w' => e = .returned (.bool false) ∧ w' = w := by
  have H : Hid (RdS w b s st) := h
  have HN : Hid (Mil.sees st y.data.toList = false) := hn
  clear h hn
  go_enter Tryz.func60, Tryz.ntmps60
  go_wp2_with fail
  refine (sees_any b s st y w H.out).mono ?_
  rintro e w' ⟨rfl, rfl⟩
  rw [HN.out]
  go_wp2
  go_ret
  exact ⟨rfl, rfl⟩

def TkPost (st : Mil.St) (a : Nat → Addr) (b : Nat) (s : ByteArray) (w : World) (e : Ending) (w' : World) : Prop :=
  Kp b w w' ∧ ((∃ st', e = .returned (.bool true) ∧ Mil.adv st = some st' ∧ RdS w' b s st') ∨ Threw (fun k p => Mil.advZ s.size st = .bad k p) a e w')
set_option maxHeartbeats 400000 in
theorem takes_yes (a : Nat → Addr) (b : Nat) (s : ByteArray) (st : Mil.St) (y : ByteArray) (w : World) (L : Laid a w) (hb : 23 ≤ b) (h : RdS w b s st) (hs : s.size ≤ 4000) (hy : Mil.sees st y.data.toList = true) :
    Calls Tryz.prog 60 #[.pointer (some ⟨b, 0, none⟩), .string y] w (TkPost st a b s w) := by
  have H : Hid (RdS w b s st) := h
  have HL : Hid (Laid a w) := L
  have HN : Hid (Mil.sees st y.data.toList = true) := hy
  clear h hy L
  go_enter Tryz.func60, Tryz.ntmps60
  go_wp2_with fail
  refine (sees_any b s st y w H.out).mono ?_
  rintro e w' ⟨rfl, rfl⟩
  rw [HN.out]
  go_wp2_with fail
  refine (advance_any a b s st _ HL.out hb H.out hs).mono ?_
  rintro e w1 ⟨hk, (⟨st', rfl, h1, h2⟩ | ⟨k, at_, hkk, d, rfl, hd, hno⟩)⟩
  · go_wp2
    go_ret
    exact ⟨hk, Or.inl ⟨st', rfl, h1, h2⟩⟩
  · go_wp2
    exact ⟨rfl, hk, Or.inr ⟨k, at_, hkk, d, rfl, hd, hno⟩⟩

set_option maxHeartbeats 400000 in
theorem want_any (a : Nat → Addr) (b : Nat) (s : ByteArray) (st : Mil.St) (y : ByteArray) (w : World) (L : Laid a w) (hb : 23 ≤ b) (h : RdS w b s st) (hs : s.size ≤ 4000) :
    Calls Tryz.prog 82 #[.pointer (some ⟨b, 0, none⟩), .string y] w (StPost (Mil.want st y.data.toList) (Mil.wantZ s.size st y.data.toList) a b s w) := by
  have H : Hid (RdS w b s st) := h
  have HL : Hid (Laid a w) := L
  clear h L
  by_cases hy : Mil.sees st y.data.toList = true
  · have HW : Hid (Mil.want st y.data.toList = Mil.adv st) := by unfold Mil.want; rw [if_pos hy]; rfl
    have HZ : Hid (Mil.wantZ s.size st y.data.toList = Mil.advZ s.size st) := by unfold Mil.wantZ; rw [if_pos hy]; rfl
    have HY : Hid _ := hy
    clear hy
    go_enter Tryz.func82, Tryz.ntmps82
    go_wp2_with fail
    refine (takes_yes a b s st y w HL.out hb H.out hs HY.out).mono ?_
    rintro e w1 ⟨hk, (⟨st', rfl, h1, h2⟩ | ⟨k, at_, hkk, d, rfl, hd, hno⟩)⟩
    · go_wp2
      go_end0
      exact ⟨hk, Or.inl ⟨st', rfl, HW.out.trans h1, h2⟩⟩
    · go_wp2
      exact ⟨rfl, hk, Or.inr ⟨k, at_, hkk, d, rfl, hd, HZ.out.trans hno⟩⟩
  · have HZ : Hid (Mil.wantZ s.size st y.data.toList = .bad 3 (place s.size st)) := by unfold Mil.wantZ; rw [if_neg hy]; rfl
    have HY : Hid (Mil.sees st y.data.toList = false) := Bool.eq_false_iff.2 hy
    clear hy
    go_enter Tryz.func82, Tryz.ntmps82
    go_wp2_with fail
    refine (takes_no b s st y w H.out HY.out).mono ?_
    rintro e w1 ⟨rfl, rfl⟩
    go_wp2_with fail
    refine (refused_at a b s st _ HL.out H.out).mono ?_
    rintro e w2 ⟨d, rfl, hd, hb2⟩
    go_wp2
    exact ⟨rfl, Kp.of_below hb2, Or.inr ⟨3, _, Or.inr (Or.inr (Or.inl rfl)), d, rfl, hd, HZ.out⟩⟩

end Go.Proofs.YtibbjohkiigffaaGreatDoor
namespace Go.Proofs.YtibbjohkiigffaaGreatDoor
open Go.RowKit

set_option maxHeartbeats 400000 in
theorem here_any (b : Nat) (s : ByteArray) (st : Mil.St) (w : World) (h : RdS w b s st) :
    Calls Tryz.prog 106 #[.pointer (some ⟨b, 0, none⟩)] w fun e w' => e = .returned (.agg #[.int .i64 (place s.size st)]) ∧ Below w.heap.size w w' := by
  obtain ⟨p, tp, x, hp, hR, hr, hx, hn⟩ := h
  have HB : Hid (Below w.heap.size w (w.alloc (.cells #[.int .i64 tp] 81))) := (Below.refl _ _).alloc (Nat.le_refl _) _
  have c4 := hR.c4
  have hlt : b < w.heap.size := lt_of_cell hR.c4
  have c4' : (w.alloc (.cells #[.int .i64 0] 81)).cell? ⟨b, 4, none⟩ = some (.int .i64 tp) := (((Below.refl w.heap.size w).alloc (Nat.le_refl _) _).cell hlt).trans c4
  have HT : Hid (tp = place s.size st) := hn.2.2
  clear hR hn hx hr
  go_enter Tryz.func106, Tryz.ntmps106
  go_wp2
  exact bodyPost_ret (v := .agg #[.int .i64 tp]) (by simp [results, Tryz.results106, go_sem]) rfl ⟨by rw [HT.out], HB.out⟩
set_option maxHeartbeats 400000 in
theorem atomHere_any (b : Nat) (s : ByteArray) (st : Mil.St) (w : World) (h : RdS w b s st) :
    Calls Tryz.prog 104 #[.pointer (some ⟨b, 0, none⟩)] w fun e w' => e = .returned (.agg #[.int .i64 (place s.size st)]) ∧ Below w.heap.size w w' := by
  have hlt : b < w.heap.size := by
    obtain ⟨p, tp, x, hp, hR, _⟩ := h
    exact lt_of_cell hR.c4
  have HB : Hid (Below w.heap.size w (w.alloc (.cells #[.int .i64 0] 83))) := (Below.refl _ _).alloc (Nat.le_refl _) _
  have H : Hid (RdS (w.alloc (.cells #[.int .i64 0] 83)) b s st) := h.kept (Kp.of_below (b := b + 1) HB.out) (by omega)
  have HN : Hid ((w.alloc (.cells #[.int .i64 0] 83)).heap[w.heap.size]? = some (.cells #[.int .i64 0] 83 (0, 0))) := heap_alloc_new w _
  clear h
  go_enter Tryz.func104, Tryz.ntmps104
  go_wp2_with fail
  refine (here_any b s st _ H.out).mono ?_
  rintro e w1 ⟨rfl, hb1⟩
  have B1 : Hid (Below w.heap.size w w1) := HB.out.trans (hb1.mono HB.out.size)
  have hn : w1.heap[w.heap.size]? = some (.cells #[.int .i64 0] 83 (0, 0)) := (hb1.block _ (Array.getElem?_eq_some_iff.1 HN.out).1).trans HN.out
  have r0 : w1.cell? ⟨w.heap.size, 0, none⟩ = some (.int .i64 0) := (cell_of_row _ _ 0 _ _ _ hn).trans rfl
  have z0 : w1.frozen? ⟨w.heap.size, 0, none⟩ = false := by unfold World.frozen?; rw [hn]; simp
  clear hb1 hn
  go_wp2
  have r1 : (w1.setCell ⟨w.heap.size, 0, none⟩ (.int .i64 (place s.size st))).cell? ⟨w.heap.size, 0, none⟩ = some (.int .i64 (place s.size st)) := World.cell?_setCell_same _ _ _ r0
  exact bodyPost_ret (v := .agg #[.int .i64 (place s.size st)]) (by simp [results, Tryz.results104, go_sem, r1]) rfl ⟨rfl, B1.out.setCell (p := ⟨w.heap.size, 0, none⟩) (Nat.le_refl _) _⟩
/-- What a call is worth behind its first step, where a place is laid aside in a new block. -/
structure Hd (a : Nat → Addr) (b : Nat) (s : ByteArray) (st : Mil.St) (w v : World) (q : Int) (k : Nat) : Prop where
  kp : Kp b w v
  rd : RdS v b s st
  laid : Laid a v
  cell : v.cell? ⟨k, 0, none⟩ = some (.int .i64 q)
  ne : k ≠ b
theorem head_facts {a : Nat → Addr} {b : Nat} {s : ByteArray} {st : Mil.St} {w w0 : World} {ty : TypeId} {q : Int} (L : Laid a w) (hb : 23 ≤ b) (h : RdS w b s st) (hw : Below w.heap.size w w0) :
    Hd a b s st w (w0.alloc (.cells #[.int .i64 q] ty)) q w0.heap.size := by
  have hlt : b < w.heap.size := by
    obtain ⟨p, tp, x, hp, hR, _⟩ := h
    exact lt_of_cell hR.c4
  have B1 : Below w.heap.size w (w0.alloc (.cells #[.int .i64 q] ty)) := hw.alloc hw.size _
  have := hw.size
  exact ⟨Kp.of_below B1, h.kept (Kp.of_below (b := b + 1) B1) (by omega), L.kept (Kp.of_below (b := b) B1) hb, by simp, by omega⟩
theorem place_off (n : Nat) (st : Mil.St) : place n st = (n : Int) - (Mip.off st : Nat) := by
  unfold place Mip.off; omega
end Go.Proofs.YtibbjohkiigffaaGreatDoor
namespace Go.Proofs.YtibbjohkiigffaaGreatDoor
open Go.RowKit

set_option maxHeartbeats 400000 in
theorem clone_any (x : ByteArray) (hx : x.size ≤ 4000) (w : World) : Calls Tryz.prog 105 #[.string x] w fun e w' => e = .returned (.string x) ∧ Below w.heap.size w w' := by
  go_enter Tryz.func105, Tryz.ntmps105
  go_wp2_with fail
  refine (Tryz.stringslite_Clone x w (by omega)).mono ?_
  rintro e w1 ⟨rfl, hb⟩
  go_wp2
  go_ret
  exact ⟨rfl, hb⟩

theorem below_more {W u v : World} (h : Below W.heap.size W u) (k : Below u.heap.size u v) : Below W.heap.size W v := h.trans (k.mono h.size)
/-- A new block of two cells, as it was. -/
def NewTwo (w : World) (k : Nat) : Prop := w.cell? ⟨k, 0, none⟩ = some (.int .i64 0) ∧ w.cell? ⟨k, 1, none⟩ = some (.string ⟨#[]⟩) ∧ w.frozen? ⟨k, 0, none⟩ = false ∧ w.frozen? ⟨k, 1, none⟩ = false
theorem new_at (u : World) : NewTwo (u.alloc (.cells #[.int .i64 0, .string ⟨#[]⟩] 85)) u.heap.size := by
  have hn := heap_alloc_new u (.cells #[.int .i64 0, .string ⟨#[]⟩] 85)
  refine ⟨(cell_of_row _ _ 0 _ _ _ hn).trans rfl, (cell_of_row _ _ 1 _ _ _ hn).trans rfl, ?_, ?_⟩
  · unfold World.frozen?; rw [hn]; simp
  · unfold World.frozen?; rw [hn]; simp
theorem new_row {w : World} {k : Nat} (hn : w.heap[k]? = some (.cells #[.int .i64 0, .string ⟨#[]⟩] 85 (0, 0))) : NewTwo w k := by
  refine ⟨(cell_of_row _ _ 0 _ _ _ hn).trans rfl, (cell_of_row _ _ 1 _ _ _ hn).trans rfl, ?_, ?_⟩
  · unfold World.frozen?; rw [hn]; simp
  · unfold World.frozen?; rw [hn]; simp
theorem same_cell {w : World} {k o : Nat} {u v : Value} (h : w.cell? ⟨k, o, none⟩ = some u) : (w.setCell ⟨k, o, none⟩ v).cell? ⟨k, o, none⟩ = some v := World.cell?_setCell_same _ _ _ h
theorem other_cell {w : World} {k o q : Nat} {u v : Value} (h : w.cell? ⟨k, o, none⟩ = some u) (hn : q ≠ o) : (w.setCell ⟨k, q, none⟩ v).cell? ⟨k, o, none⟩ = some u := (World.cell?_setCell_other _ ⟨k, q, none⟩ ⟨k, o, none⟩ _ (fun e => hn (by cases e; rfl))).trans h
theorem old_kept {u v : World} {k : Nat} (h : Below u.heap.size u v) (q : NewTwo u k) : NewTwo v k := by
  have hk := lt_of_cell q.1
  exact ⟨(h.cell (p := ⟨k, 0, none⟩) hk).trans q.1, (h.cell (p := ⟨k, 1, none⟩) hk).trans q.2.1, (h.frozen (p := ⟨k, 0, none⟩) hk).trans q.2.2.1, (h.frozen (p := ⟨k, 1, none⟩) hk).trans q.2.2.2⟩
theorem alloc_done {W u : World} {q : Int} {x : ByteArray} {ty : TypeId} (h : Below W.heap.size W u) : Below W.heap.size W (u.alloc (.cells #[.int .i64 q, .string x] ty)) ∧ (u.alloc (.cells #[.int .i64 q, .string x] ty)).cell? ⟨u.heap.size, 0, none⟩ = some (.int .i64 q) ∧ (u.alloc (.cells #[.int .i64 q, .string x] ty)).cell? ⟨u.heap.size, 1, none⟩ = some (.string x) ∧ W.heap.size ≤ u.heap.size :=
  ⟨h.alloc h.size _, by simp, by simp, h.size⟩
theorem two_done {W u : World} {k : Nat} {q : Int} {x : ByteArray} (h : Below W.heap.size W u) (hk : W.heap.size ≤ k) (n : NewTwo u k) :
    Below W.heap.size W ((u.setCell ⟨k, 0, none⟩ (.int .i64 q)).setCell ⟨k, 1, none⟩ (.string x)) ∧ ((u.setCell ⟨k, 0, none⟩ (.int .i64 q)).setCell ⟨k, 1, none⟩ (.string x)).cell? ⟨k, 0, none⟩ = some (.int .i64 q) ∧ ((u.setCell ⟨k, 0, none⟩ (.int .i64 q)).setCell ⟨k, 1, none⟩ (.string x)).cell? ⟨k, 1, none⟩ = some (.string x) ∧ W.heap.size ≤ k := by
  have e0 := World.cell?_setCell_same u ⟨k, 0, none⟩ (.int .i64 q) n.1
  have e1 := (World.cell?_setCell_other u ⟨k, 0, none⟩ ⟨k, 1, none⟩ (.int .i64 q) (fun e => by cases e)).trans n.2.1
  refine ⟨(h.setCell (p := ⟨k, 0, none⟩) hk _).setCell (p := ⟨k, 1, none⟩) hk _, (World.cell?_setCell_other _ ⟨k, 1, none⟩ ⟨k, 0, none⟩ _ (fun e => by cases e)).trans e0, World.cell?_setCell_same _ _ _ e1, hk⟩

def NmPost (r : Option (Mil.Bytes × Mil.St)) (z : Mil.Rz (Mil.Bytes × Mil.St)) (q : Int) (a : Nat → Addr) (b : Nat) (s : ByteArray) (w : World) (e : Ending) (w' : World) : Prop :=
  Kp b w w' ∧ ((∃ x st, e = .returned (.agg #[.int .i64 q, .string (bs x)]) ∧ r = some (x, st) ∧ RdS w' b s st) ∨ Threw (fun k p => z = .bad k p) a e w')
set_option maxHeartbeats 2000000 in
theorem name_any (a : Nat → Addr) (b : Nat) (s : ByteArray) (st : Mil.St) (w : World) (L : Laid a w) (hb : 23 ≤ b) (h : RdS w b s st) (hs : s.size ≤ 4000) :
    Calls Tryz.prog 81 #[.pointer (some ⟨b, 0, none⟩)] w (NmPost (Mil.name st) (Mil.nameZ s.size st) (place s.size st) a b s w) := by
  have HBW : Hid (Below w.heap.size w (w.alloc (.cells #[.int .i64 0, .string ⟨#[]⟩] 85))) := (Below.refl _ _).alloc (Nat.le_refl _) _
  have HNW : Hid ((w.alloc (.cells #[.int .i64 0, .string ⟨#[]⟩] 85)).heap[w.heap.size]? = some (.cells #[.int .i64 0, .string ⟨#[]⟩] 85 (0, 0))) := heap_alloc_new w _
  have hbw : b < w.heap.size := by
    obtain ⟨p, tp, x, hp, hR, _⟩ := h
    exact lt_of_cell hR.c0
  have H : Hid (RdS (w.alloc (.cells #[.int .i64 0, .string ⟨#[]⟩] 85)) b s st) := h.kept (Kp.of_below (b := b + 1) HBW.out) (by omega)
  have HL : Hid (Laid a (w.alloc (.cells #[.int .i64 0, .string ⟨#[]⟩] 85))) := L.kept (Kp.of_below (b := b) HBW.out) hb
  obtain ⟨p, tp, x, hp, hR, hr, hx, hn⟩ := H.out
  have c3 := hR.c3
  have hxs : x.size ≤ 4000 := by
    have e : x.size = x.data.toList.length := by simp
    rw [e, hx]; exact hn.2.1
  have HX : Hid (x = bs st.tok.txt) := by rw [← hx]; exact (bs_of x).symm
  have C5 : Hid ((w.alloc (.cells #[.int .i64 0, .string ⟨#[]⟩] 85)).cell? ⟨b, 5, none⟩ = some (.string x)) := hR.c5
  clear hR hr hx L h hn hp
  by_cases h1 : st.tok.kind = 1
  · have hk1 : (((st.tok.kind : Nat) : Int) != 1) = false := by simp; omega
    have HZ : Hid (Mil.nameZ s.size st = (Mil.advZ s.size st).map fun s1 => (st.tok.txt, s1)) := by unfold Mil.nameZ; rw [if_pos h1]; rfl
    have HM : Hid (Mil.name st = (Mil.adv st).map fun s1 => (st.tok.txt, s1)) := by unfold Mil.name; rw [if_pos h1]; rfl
    clear h1
    go_enter Tryz.func81, Tryz.ntmps81
    go_wp2_with fail
    have HBL : Hid (b < w.heap.size) := hbw
    have HW : Hid (w.heap.size < (w.alloc (.cells #[.int .i64 0, .string ⟨#[]⟩] 85)).heap.size) := by show _ < _; simp
    generalize w.alloc (.cells #[.int .i64 0, .string ⟨#[]⟩] 85) = W at HBW HNW H HL c3 C5 HW ⊢
    have KR : Hid (∀ w', Below W.heap.size W w' → RdS w' b s st) := fun w' hb' => H.out.kept (Kp.of_below (b := b + 1) hb') (by omega)
    have k5 : ∀ w', Below W.heap.size W w' → w'.cell? ⟨b, 5, none⟩ = some (.string x) := fun w' hb' => (hb'.cell (lt_of_cell C5.out)).trans C5.out
    have B0 : Hid (Below W.heap.size W W.drew) := (Below.refl _ _).drew
    clear c3
    refine region_held (fun w' => w'.cell? ⟨b, 5, none⟩ = some (.string x) ∧ Below W.heap.size W w') (by kernel_rfl) ⟨k5 _ B0.out, B0.out⟩ (fun hS => ?_)
    refine held_take 0 (v := ?_) rfl (by kernel_rfl) (by kernel_rfl) (by kernel_rfl) (fun _ _ _ h => h) (Or.inl ⟨by rfl, ?_⟩) (by assumption) ?_
    rotate_left 1
    · (intro w' hSw; (try dsimp only at hSw); go_simp <;> with_reducible rfl)
    try simp only [Act.put, List.setIfInBounds_toArray, List.set_cons_zero, List.set_cons_succ]
    refine held_take 2 (v := ?_) rfl (by kernel_rfl) (by kernel_rfl) (by kernel_rfl) (fun _ _ _ h => h) (Or.inl ⟨by rfl, ?_⟩) (by assumption) ?_
    rotate_left 1
    · (intro w' hSw; (try dsimp only at hSw); go_simp <;> with_reducible rfl)
    try simp only [Act.put, List.setIfInBounds_toArray, List.set_cons_zero, List.set_cons_succ]
    refine held_take 3 (v := ?_) rfl (by kernel_rfl) (by kernel_rfl) (by kernel_rfl) (fun _ _ _ h => h) (Or.inl ⟨by rfl, ?_⟩) (by assumption) ?_
    rotate_left 1
    · (intro w' hSw; (try dsimp only at hSw); go_simp <;> with_reducible rfl)
    try simp only [Act.put, List.setIfInBounds_toArray, List.set_cons_zero, List.set_cons_succ]
    refine held_take 4 (v := ?_) rfl (by kernel_rfl) (by kernel_rfl) (by kernel_rfl) (fun _ _ _ h => h) (Or.inl ⟨by rfl, ?_⟩) (by assumption) ?_
    rotate_left 1
    · (intro w' hSw; (try dsimp only at hSw); go_simp <;> with_reducible rfl)
    try simp only [Act.put, List.setIfInBounds_toArray, List.set_cons_zero, List.set_cons_succ]
    refine held_take 5 (v := ?_) rfl (by kernel_rfl) (by kernel_rfl) (by kernel_rfl) (fun _ _ _ h => h) (Or.inl ⟨by rfl, ?_⟩) (by assumption) ?_
    rotate_left 1
    · (intro w' hSw; (try dsimp only at hSw); go_simp <;> with_reducible rfl)
    try simp only [Act.put, List.setIfInBounds_toArray, List.set_cons_zero, List.set_cons_succ]
    refine held_take 6 (v := ?_) rfl (by kernel_rfl) (by kernel_rfl) (by kernel_rfl) (fun _ _ _ h => h) (Or.inl ⟨by rfl, ?_⟩) (by assumption) ?_
    rotate_left 1
    · (intro w' hSw; (try dsimp only at hSw); go_simp <;> with_reducible rfl)
    try simp only [Act.put, List.setIfInBounds_toArray, List.set_cons_zero, List.set_cons_succ]
    refine held_two 1 9 (by kernel_rfl) rfl rfl (fun K hK => ?_) (fun K hK => ?_)
    · go_simp
      refine (atomHere_any b s st _ (KR.out _ B0.out)).mono ?_
      rintro e w1 ⟨rfl, qw1⟩
      have Bw1 : Hid (Below W.heap.size W w1) := below_more B0.out qw1
      refine hK.out _ _ ⟨k5 _ Bw1.out, Bw1.out⟩ (fun hS => ?_)
      clear hK K
      try simp only [Act.put, List.setIfInBounds_toArray, List.set_cons_zero, List.set_cons_succ]
      refine held_two 7 9 (by kernel_rfl) rfl rfl (fun K hK => ?_) (fun K hK => ?_)
      · go_simp
        refine (clone_any x hxs _).mono ?_
        rintro e w2 ⟨rfl, qw2⟩
        have Bw2 : Hid (Below W.heap.size W w2) := below_more Bw1.out qw2
        refine hK.out _ _ ⟨k5 _ Bw2.out, Bw2.out⟩ (fun hS => ?_)
        clear hK K
        try simp only [Act.put, List.setIfInBounds_toArray, List.set_cons_zero, List.set_cons_succ]
        refine held_take 8 (v := ?_) rfl (by kernel_rfl) (by kernel_rfl) (by kernel_rfl) (fun _ _ _ h => h) (Or.inl ⟨by rfl, ?_⟩) (by assumption) ?_
        rotate_left 1
        · (intro w' hSw; (try dsimp only at hSw); go_simp <;> with_reducible rfl)
        try simp only [Act.put, List.setIfInBounds_toArray, List.set_cons_zero, List.set_cons_succ]
        refine held_one 9 (by kernel_rfl) rfl (fun K hK => ?_)
        go_simp
        have Bn : Hid (Below W.heap.size W (w2.alloc (.cells #[.int .i64 0, .string ⟨#[]⟩] 85))) := Bw2.out.alloc Bw2.out.size _
        refine hK.out _ _ ⟨k5 _ Bn.out, Bn.out⟩ (fun hS => ?_)
        clear hK K
        try simp only [Act.put, List.setIfInBounds_toArray, List.set_cons_zero, List.set_cons_succ]
        have HT := alloc_done (x := x) (q := place s.size st) (ty := 85) Bw2.out
        refine held_one 10 (by kernel_rfl) rfl (fun K hK => ?_)
        go_simp
        refine hK.out _ _ ⟨k5 _ HT.1, HT.1⟩ (fun hS => ?_)
        clear hK K
        try simp only [Act.put, List.setIfInBounds_toArray, List.set_cons_zero, List.set_cons_succ]
        refine wpAnyH_done (by kernel_rfl) ?_ _
        have HF : Hid _ := HT
        clear HT hS Bn Bw2 qw2 Bw1 qw1
        generalize w2.heap.size = n at HF ⊢
        generalize w2.alloc (.cells #[.int .i64 (place s.size st), .string x] 85) = w5 at HF ⊢
        clear k5
        have HLn : Hid (W.heap.size ≤ n) := HF.out.2.2.2
        clear hbw hxs
        go_wp2_with fail
        refine (advance_any a b s st w5 (HL.out.kept (Kp.of_below (b := b) HF.out.1) hb) hb (KR.out _ HF.out.1) hs).mono ?_
        rintro e w6 ⟨hk, (⟨st', rfl, g1, g2⟩ | ⟨k, at_, hkk, d, rfl, hd, hno⟩)⟩
        · have HNB : Hid (n ≠ b) := by have := HW.out; have := HLn.out; have := HBL.out; show _ ≠ _; omega
          have c0 : w6.cell? ⟨n, 0, none⟩ = some (.int .i64 (place s.size st)) := hk.held HF.out.2.1 HNB.out
          have c1 : w6.cell? ⟨n, 1, none⟩ = some (.string x) := hk.held HF.out.2.2.1 HNB.out
          have HRB : Hid (w.heap.size ≠ b) := by have := HBL.out; show _ ≠ _; omega
          have HN5 : w5.heap[w.heap.size]? = some (.cells #[.int .i64 0, .string ⟨#[]⟩] 85 (0, 0)) := (HF.out.1.block _ (Array.getElem?_eq_some_iff.1 HNW.out).1).trans HNW.out
          have HN6 : w6.heap[w.heap.size]? = some (.cells #[.int .i64 0, .string ⟨#[]⟩] 85 (0, 0)) := (hk.block _ (Array.getElem?_eq_some_iff.1 HN5).1 HRB.out).trans HN5
          obtain ⟨u0, u1, u2, u3⟩ := new_row HN6
          have HK : Hid (Kp b w w6) := (Kp.of_below HBW.out).trans ((Kp.of_below HF.out.1).trans hk)
          have G1 : Hid (Mil.adv st = some st') := g1
          have G2 : Hid (RdS w6 b s st') := g2
          clear HN5 HN6 hk g1 g2
          go_wp2
          have e0 := other_cell (v := .string x) (same_cell (v := .int .i64 (place s.size st)) u0) (by decide : 1 ≠ 0)
          have e1 := same_cell (v := .string x) (other_cell (v := .int .i64 (place s.size st)) u1 (by decide : 0 ≠ 1))
          refine bodyPost_ret (v := .agg #[.int .i64 (place s.size st), .string x]) (by simp [results, Tryz.results81, go_sem, e0, e1]) rfl ⟨(HK.out.setNew (Nat.le_refl _) 0 _).setNew (Nat.le_refl _) 1 _, Or.inl ⟨st.tok.txt, st', by rw [HX.out], by rw [HM.out, G1.out]; rfl, ?_⟩⟩
          exact G2.out.kept (((Kp.refl w.heap.size w6).setCell 0 _).setCell 1 _) (fun e => HRB.out e.symm)
        · go_wp2
          exact ⟨rfl, (Kp.of_below HBW.out).trans ((Kp.of_below HF.out.1).trans hk), Or.inr ⟨k, at_, hkk, d, rfl, hd, by rw [HZ.out, hno]; rfl⟩⟩
      · go_simp
        have Bn : Hid (Below W.heap.size W (w1.alloc (.cells #[.int .i64 0, .string ⟨#[]⟩] 85))) := Bw1.out.alloc Bw1.out.size _
        refine hK.out _ _ ⟨k5 _ Bn.out, Bn.out⟩ (fun hS => ?_)
        clear hK K
        try simp only [Act.put, List.setIfInBounds_toArray, List.set_cons_zero, List.set_cons_succ]
        refine held_one 7 (by kernel_rfl) rfl (fun K hK => ?_)
        go_simp
        refine (clone_any x hxs _).mono ?_
        rintro e w2 ⟨rfl, qw2⟩
        have Bw2 : Hid (Below W.heap.size W w2) := below_more Bn.out qw2
        refine hK.out _ _ ⟨k5 _ Bw2.out, Bw2.out⟩ (fun hS => ?_)
        clear hK K
        try simp only [Act.put, List.setIfInBounds_toArray, List.set_cons_zero, List.set_cons_succ]
        refine held_take 8 (v := ?_) rfl (by kernel_rfl) (by kernel_rfl) (by kernel_rfl) (fun _ _ _ h => h) (Or.inl ⟨by rfl, ?_⟩) (by assumption) ?_
        rotate_left 1
        · (intro w' hSw; (try dsimp only at hSw); go_simp <;> with_reducible rfl)
        try simp only [Act.put, List.setIfInBounds_toArray, List.set_cons_zero, List.set_cons_succ]
        have HT := two_done (x := x) (q := place s.size st) Bw2.out Bw1.out.size (old_kept qw2 (new_at w1))
        obtain ⟨u0, u1, u2, u3⟩ := old_kept qw2 (new_at w1)
        refine held_one 10 (by kernel_rfl) rfl (fun K hK => ?_)
        go_simp
        refine hK.out _ _ ⟨k5 _ HT.1, HT.1⟩ (fun hS => ?_)
        clear hK K
        try simp only [Act.put, List.setIfInBounds_toArray, List.set_cons_zero, List.set_cons_succ]
        refine wpAnyH_done (by kernel_rfl) ?_ _
        have HF : Hid _ := HT
        clear HT hS u0 u1 u2 u3 Bn Bw2 qw2 Bw1 qw1
        generalize w1.heap.size = n at HF ⊢
        generalize (w2.setCell ⟨n, 0, none⟩ (.int .i64 (place s.size st))).setCell ⟨n, 1, none⟩ (.string x) = w5 at HF ⊢
        clear k5
        have HLn : Hid (W.heap.size ≤ n) := HF.out.2.2.2
        clear hbw hxs
        go_wp2_with fail
        refine (advance_any a b s st w5 (HL.out.kept (Kp.of_below (b := b) HF.out.1) hb) hb (KR.out _ HF.out.1) hs).mono ?_
        rintro e w6 ⟨hk, (⟨st', rfl, g1, g2⟩ | ⟨k, at_, hkk, d, rfl, hd, hno⟩)⟩
        · have HNB : Hid (n ≠ b) := by have := HW.out; have := HLn.out; have := HBL.out; show _ ≠ _; omega
          have c0 : w6.cell? ⟨n, 0, none⟩ = some (.int .i64 (place s.size st)) := hk.held HF.out.2.1 HNB.out
          have c1 : w6.cell? ⟨n, 1, none⟩ = some (.string x) := hk.held HF.out.2.2.1 HNB.out
          have HRB : Hid (w.heap.size ≠ b) := by have := HBL.out; show _ ≠ _; omega
          have HN5 : w5.heap[w.heap.size]? = some (.cells #[.int .i64 0, .string ⟨#[]⟩] 85 (0, 0)) := (HF.out.1.block _ (Array.getElem?_eq_some_iff.1 HNW.out).1).trans HNW.out
          have HN6 : w6.heap[w.heap.size]? = some (.cells #[.int .i64 0, .string ⟨#[]⟩] 85 (0, 0)) := (hk.block _ (Array.getElem?_eq_some_iff.1 HN5).1 HRB.out).trans HN5
          obtain ⟨u0, u1, u2, u3⟩ := new_row HN6
          have HK : Hid (Kp b w w6) := (Kp.of_below HBW.out).trans ((Kp.of_below HF.out.1).trans hk)
          have G1 : Hid (Mil.adv st = some st') := g1
          have G2 : Hid (RdS w6 b s st') := g2
          clear HN5 HN6 hk g1 g2
          go_wp2
          have e0 := other_cell (v := .string x) (same_cell (v := .int .i64 (place s.size st)) u0) (by decide : 1 ≠ 0)
          have e1 := same_cell (v := .string x) (other_cell (v := .int .i64 (place s.size st)) u1 (by decide : 0 ≠ 1))
          refine bodyPost_ret (v := .agg #[.int .i64 (place s.size st), .string x]) (by simp [results, Tryz.results81, go_sem, e0, e1]) rfl ⟨(HK.out.setNew (Nat.le_refl _) 0 _).setNew (Nat.le_refl _) 1 _, Or.inl ⟨st.tok.txt, st', by rw [HX.out], by rw [HM.out, G1.out]; rfl, ?_⟩⟩
          exact G2.out.kept (((Kp.refl w.heap.size w6).setCell 0 _).setCell 1 _) (fun e => HRB.out e.symm)
        · go_wp2
          exact ⟨rfl, (Kp.of_below HBW.out).trans ((Kp.of_below HF.out.1).trans hk), Or.inr ⟨k, at_, hkk, d, rfl, hd, by rw [HZ.out, hno]; rfl⟩⟩
    · go_simp
      have Bn : Hid (Below W.heap.size W (W.drew.alloc (.cells #[.int .i64 0, .string ⟨#[]⟩] 85))) := B0.out.alloc B0.out.size _
      refine hK.out _ _ ⟨k5 _ Bn.out, Bn.out⟩ (fun hS => ?_)
      clear hK K
      try simp only [Act.put, List.setIfInBounds_toArray, List.set_cons_zero, List.set_cons_succ]
      refine held_one 1 (by kernel_rfl) rfl (fun K hK => ?_)
      go_simp
      refine (atomHere_any b s st _ (KR.out _ Bn.out)).mono ?_
      rintro e w1 ⟨rfl, qw1⟩
      have Bw1 : Hid (Below W.heap.size W w1) := below_more Bn.out qw1
      refine hK.out _ _ ⟨k5 _ Bw1.out, Bw1.out⟩ (fun hS => ?_)
      clear hK K
      try simp only [Act.put, List.setIfInBounds_toArray, List.set_cons_zero, List.set_cons_succ]
      refine held_one 7 (by kernel_rfl) rfl (fun K hK => ?_)
      go_simp
      refine (clone_any x hxs _).mono ?_
      rintro e w2 ⟨rfl, qw2⟩
      have Bw2 : Hid (Below W.heap.size W w2) := below_more Bw1.out qw2
      refine hK.out _ _ ⟨k5 _ Bw2.out, Bw2.out⟩ (fun hS => ?_)
      clear hK K
      try simp only [Act.put, List.setIfInBounds_toArray, List.set_cons_zero, List.set_cons_succ]
      refine held_take 8 (v := ?_) rfl (by kernel_rfl) (by kernel_rfl) (by kernel_rfl) (fun _ _ _ h => h) (Or.inl ⟨by rfl, ?_⟩) (by assumption) ?_
      rotate_left 1
      · (intro w' hSw; (try dsimp only at hSw); go_simp <;> with_reducible rfl)
      try simp only [Act.put, List.setIfInBounds_toArray, List.set_cons_zero, List.set_cons_succ]
      have NK : NewTwo w2 W.heap.size := old_kept qw2 (old_kept qw1 (new_at W.drew))
      have HT := two_done (x := x) (q := place s.size st) Bw2.out (Nat.le_refl W.heap.size) (NK)
      obtain ⟨u0, u1, u2, u3⟩ := NK
      refine held_one 10 (by kernel_rfl) rfl (fun K hK => ?_)
      go_simp
      refine hK.out _ _ ⟨k5 _ HT.1, HT.1⟩ (fun hS => ?_)
      clear hK K
      try simp only [Act.put, List.setIfInBounds_toArray, List.set_cons_zero, List.set_cons_succ]
      refine wpAnyH_done (by kernel_rfl) ?_ _
      have HF : Hid _ := HT
      clear HT hS u0 u1 u2 u3 Bn Bw2 qw2 Bw1 qw1
      generalize (w2.setCell ⟨W.heap.size, 0, none⟩ (.int .i64 (place s.size st))).setCell ⟨W.heap.size, 1, none⟩ (.string x) = w5 at HF ⊢
      clear k5
      have HLn : Hid (W.heap.size ≤ W.heap.size) := HF.out.2.2.2
      clear hbw hxs
      go_wp2_with fail
      refine (advance_any a b s st w5 (HL.out.kept (Kp.of_below (b := b) HF.out.1) hb) hb (KR.out _ HF.out.1) hs).mono ?_
      rintro e w6 ⟨hk, (⟨st', rfl, g1, g2⟩ | ⟨k, at_, hkk, d, rfl, hd, hno⟩)⟩
      · have HNB : Hid (W.heap.size ≠ b) := by have := HW.out; have := HLn.out; have := HBL.out; show _ ≠ _; omega
        have c0 : w6.cell? ⟨W.heap.size, 0, none⟩ = some (.int .i64 (place s.size st)) := hk.held HF.out.2.1 HNB.out
        have c1 : w6.cell? ⟨W.heap.size, 1, none⟩ = some (.string x) := hk.held HF.out.2.2.1 HNB.out
        have HRB : Hid (w.heap.size ≠ b) := by have := HBL.out; show _ ≠ _; omega
        have HN5 : w5.heap[w.heap.size]? = some (.cells #[.int .i64 0, .string ⟨#[]⟩] 85 (0, 0)) := (HF.out.1.block _ (Array.getElem?_eq_some_iff.1 HNW.out).1).trans HNW.out
        have HN6 : w6.heap[w.heap.size]? = some (.cells #[.int .i64 0, .string ⟨#[]⟩] 85 (0, 0)) := (hk.block _ (Array.getElem?_eq_some_iff.1 HN5).1 HRB.out).trans HN5
        obtain ⟨u0, u1, u2, u3⟩ := new_row HN6
        have HK : Hid (Kp b w w6) := (Kp.of_below HBW.out).trans ((Kp.of_below HF.out.1).trans hk)
        have G1 : Hid (Mil.adv st = some st') := g1
        have G2 : Hid (RdS w6 b s st') := g2
        clear HN5 HN6 hk g1 g2
        go_wp2
        have e0 := other_cell (v := .string x) (same_cell (v := .int .i64 (place s.size st)) u0) (by decide : 1 ≠ 0)
        have e1 := same_cell (v := .string x) (other_cell (v := .int .i64 (place s.size st)) u1 (by decide : 0 ≠ 1))
        refine bodyPost_ret (v := .agg #[.int .i64 (place s.size st), .string x]) (by simp [results, Tryz.results81, go_sem, e0, e1]) rfl ⟨(HK.out.setNew (Nat.le_refl _) 0 _).setNew (Nat.le_refl _) 1 _, Or.inl ⟨st.tok.txt, st', by rw [HX.out], by rw [HM.out, G1.out]; rfl, ?_⟩⟩
        exact G2.out.kept (((Kp.refl w.heap.size w6).setCell 0 _).setCell 1 _) (fun e => HRB.out e.symm)
      · go_wp2
        exact ⟨rfl, (Kp.of_below HBW.out).trans ((Kp.of_below HF.out.1).trans hk), Or.inr ⟨k, at_, hkk, d, rfl, hd, by rw [HZ.out, hno]; rfl⟩⟩
  · have hk1 : (((st.tok.kind : Nat) : Int) != 1) = true := by simp; omega
    have HZ : Hid (Mil.nameZ s.size st = .bad 3 (place s.size st)) := by unfold Mil.nameZ; rw [if_neg h1]; rfl
    clear h1
    go_enter Tryz.func81, Tryz.ntmps81
    go_wp2_with fail
    refine (refused_at a b s st _ HL.out H.out).mono ?_
    rintro e w2 ⟨d, rfl, hd, hb2⟩
    go_wp2
    exact ⟨rfl, Kp.of_below (HBW.out.trans (hb2.mono HBW.out.size)), Or.inr ⟨3, _, Or.inr (Or.inr (Or.inl rfl)), d, rfl, hd, HZ.out⟩⟩

end Go.Proofs.YtibbjohkiigffaaGreatDoor
namespace Go.Proofs.YtibbjohkiigffaaGreatDoor
open Go.RowKit

def NuPost (r : Option (Nat × Mil.St)) (z : Mil.Rz (Nat × Mil.St)) (a : Nat → Addr) (b : Nat) (s : ByteArray) (w : World) (e : Ending) (w' : World) : Prop :=
  Kp b w w' ∧ ((∃ k st, e = .returned (.int .i64 (k : Nat)) ∧ r = some (k, st) ∧ RdS w' b s st) ∨ Threw (fun k p => z = .bad k p) a e w')
set_option maxHeartbeats 1000000 in
theorem number_any (a : Nat → Addr) (b : Nat) (s : ByteArray) (st : Mil.St) (lo hi : Int) (h0 : 0 ≤ lo) (w : World) (L : Laid a w) (hb : 23 ≤ b) (h : RdS w b s st) (hs : s.size ≤ 4000) :
    Calls Tryz.prog 84 #[.pointer (some ⟨b, 0, none⟩), .int .i64 lo, .int .i64 hi] w (NuPost (Mil.number lo hi st) (Mil.numberZ s.size lo hi st) a b s w) := by
  have H : Hid (RdS w b s st) := h
  have HL : Hid (Laid a w) := L
  obtain ⟨p, tp, x, hp, hR, hr, hx, hn⟩ := h
  have c3 := hR.c3
  have c6 := hR.c6
  clear hR hr hx L
  by_cases hc : st.tok.kind = 2 ∧ lo ≤ st.tok.val ∧ st.tok.val ≤ hi
  · have HM : Hid (Mil.number lo hi st = (Mil.adv st).map fun s1 => (st.tok.val.toNat, s1)) := by unfold Mil.number; rw [if_pos hc]; rfl
    have HZ : Hid (Mil.numberZ s.size lo hi st = (Mil.advZ s.size st).map fun s1 => (st.tok.val.toNat, s1)) := by unfold Mil.numberZ; rw [if_pos hc]; rfl
    obtain ⟨h2, hl, hh⟩ := hc
    have hk2 : (((st.tok.kind : Nat) : Int) != 2) = false := by simp; omega
    have hl' : ¬ st.tok.val < lo := by omega
    have hh' : ¬ hi < st.tok.val := by omega
    have HV : Hid (((st.tok.val.toNat : Nat) : Int) = st.tok.val) := by show _ = _; omega
    clear h2 hl hh
    go_enter Tryz.func84, Tryz.ntmps84
    go_wp2_with fail
    refine (advance_any a b s st _ HL.out hb H.out hs).mono ?_
    rintro e w2 ⟨hk, (⟨st', rfl, g1, g2⟩ | ⟨k, at_, hkk, d, rfl, hd, hno⟩)⟩
    · go_wp2
      go_ret
      refine ⟨hk, Or.inl ⟨st.tok.val.toNat, st', ?_, ?_, g2⟩⟩
      · rw [HV.out]; rfl
      · rw [HM.out, g1]; rfl
    · go_wp2
      exact ⟨rfl, hk, Or.inr ⟨k, at_, hkk, d, rfl, hd, by rw [HZ.out, hno]; rfl⟩⟩
  · have HZ : Hid (Mil.numberZ s.size lo hi st = .bad 3 (place s.size st)) := by unfold Mil.numberZ; rw [if_neg hc]; rfl
    have HC : Hid _ := hc
    clear hc
    have bad : ∀ (w2 : World) (d : Nat), w2.heap[d]? = some (.cells #[.int .i64 (place s.size st), errV (a 3)] 70 (0, 0)) → Below w.heap.size w w2 →
        NuPost (Mil.number lo hi st) (Mil.numberZ s.size lo hi st) a b s w (.panicked [{ v := .iface 59 (.pointer (some ⟨d, 0, none⟩)), recovered := false }]) w2 := fun w2 d hd hb2 =>
      ⟨Kp.of_below hb2, Or.inr ⟨3, _, Or.inr (Or.inr (Or.inl rfl)), d, rfl, hd, HZ.out⟩⟩
    have BAD : Hid _ := bad
    clear bad
    by_cases h2 : st.tok.kind = 2
    · have hk2 : (((st.tok.kind : Nat) : Int) != 2) = false := by simp; omega
      by_cases hl : st.tok.val < lo
      · clear h2
        go_enter Tryz.func84, Tryz.ntmps84
        go_wp2_with fail
        refine (refused_at a b s st _ HL.out H.out).mono ?_
        rintro e w2 ⟨d, rfl, hd, hb2⟩
        go_wp2
        exact ⟨rfl, BAD.out w2 d hd hb2⟩
      · have hh : hi < st.tok.val := by
          rcases Int.lt_or_le hi st.tok.val with h' | h'
          · exact h'
          · exact absurd ⟨h2, by omega, h'⟩ HC.out
        clear h2
        go_enter Tryz.func84, Tryz.ntmps84
        go_wp2_with fail
        refine (refused_at a b s st _ HL.out H.out).mono ?_
        rintro e w2 ⟨d, rfl, hd, hb2⟩
        go_wp2
        exact ⟨rfl, BAD.out w2 d hd hb2⟩
    · have hk2 : (((st.tok.kind : Nat) : Int) != 2) = true := by simp; omega
      clear h2
      go_enter Tryz.func84, Tryz.ntmps84
      go_wp2_with fail
      refine (refused_at a b s st _ HL.out H.out).mono ?_
      rintro e w2 ⟨d, rfl, hd, hb2⟩
      go_wp2
      exact ⟨rfl, BAD.out w2 d hd hb2⟩

end Go.Proofs.YtibbjohkiigffaaGreatDoor
namespace Go.Proofs.YtibbjohkiigffaaGreatDoor
open Go.RowKit

def opName (j : Nat) : Mil.Bytes := (opsTab.getD j ([], 0, 0, 0)).1
def opBind (j : Nat) : Int := (opsTab.getD j ([], 0, 0, 0)).2.1
def opWant (j : Nat) : Int := (opsTab.getD j ([], 0, 0, 0)).2.2.1
def opGive (j : Nat) : Int := (opsTab.getD j ([], 0, 0, 0)).2.2.2
theorem lt14 {i : Nat} (h : i < 14) : i = 0 ∨ i = 1 ∨ i = 2 ∨ i = 3 ∨ i = 4 ∨ i = 5 ∨ i = 6 ∨ i = 7 ∨ i = 8 ∨ i = 9 ∨ i = 10 ∨ i = 11 ∨ i = 12 ∨ i = 13 := by omega
theorem index_ops (j : Nat) (h : j < 14) (w : World) : (Instr.index 224 (.agg opCells) (.int .i64 j)).run Tryz.prog w = .ok (.agg #[.string (bs (opName j)), .int .i64 (opBind j), .int .i64 (opWant j), .int .i64 (opGive j)]) w := by
  rcases lt14 h with rfl | rfl | rfl | rfl | rfl | rfl | rfl | rfl | rfl | rfl | rfl | rfl | rfl | rfl <;> kernel_rfl
theorem op_tight (j : Nat) (h : j < 14) : Mil.tightOf (opName j) ≠ 9 ∧ ((Mil.tightOf (opName j) : Nat) : Int) = opBind j := by
  rcases lt14 h with rfl | rfl | rfl | rfl | rfl | rfl | rfl | rfl | rfl | rfl | rfl | rfl | rfl | rfl <;> decide
theorem op_none {x : Mil.Bytes} (h : ∀ m, m < 14 → opName m ≠ x) : Mil.tightOf x = 9 := by
  have g : ∀ (m : Nat) (y : Mil.Bytes), m < 14 → opName m = y → x ≠ y := fun m y hm e he => h m hm (e.trans he.symm)
  unfold Mil.tightOf
  rw [if_neg, if_neg, if_neg, if_neg, if_neg]
  · rintro (e | e | e)
    · exact g 11 _ (by decide) rfl e
    · exact g 12 _ (by decide) rfl e
    · exact g 13 _ (by decide) rfl e
  · rintro (e | e)
    · exact g 9 _ (by decide) rfl e
    · exact g 10 _ (by decide) rfl e
  · rintro (e | e | e | e | e | e)
    · exact g 3 _ (by decide) rfl e
    · exact g 4 _ (by decide) rfl e
    · exact g 5 _ (by decide) rfl e
    · exact g 6 _ (by decide) rfl e
    · exact g 7 _ (by decide) rfl e
    · exact g 8 _ (by decide) rfl e
  · exact fun e => g 2 _ (by decide) rfl e
  · rintro (e | e)
    · exact g 0 _ (by decide) rfl e
    · exact g 1 _ (by decide) rfl e
/-- How tightly, as the program has it: -1 of what is no operator. -/
def tightGo (x : Mil.Bytes) : Int := if Mil.tightOf x = 9 then -1 else (Mil.tightOf x : Nat)

/-- A new block of four cells, as it was. -/
def NewFour (w : World) (k : Nat) : Prop := w.heap[k]? = some (.cells #[.string ⟨#[]⟩, .int .i64 0, .int .i64 0, .int .i64 0] 199 (0, 0))
theorem NewFour.facts {w : World} {k : Nat} (h : NewFour w k) : w.cell? ⟨k, 0, none⟩ = some (.string ⟨#[]⟩) ∧ w.cell? ⟨k, 1, none⟩ = some (.int .i64 0) ∧ w.cell? ⟨k, 2, none⟩ = some (.int .i64 0) ∧ w.cell? ⟨k, 3, none⟩ = some (.int .i64 0) ∧
    w.frozen? ⟨k, 0, none⟩ = false ∧ w.frozen? ⟨k, 1, none⟩ = false ∧ w.frozen? ⟨k, 2, none⟩ = false ∧ w.frozen? ⟨k, 3, none⟩ = false := by
  unfold NewFour at h
  refine ⟨(cell_of_row _ _ 0 _ _ _ h).trans rfl, (cell_of_row _ _ 1 _ _ _ h).trans rfl, (cell_of_row _ _ 2 _ _ _ h).trans rfl, (cell_of_row _ _ 3 _ _ _ h).trans rfl, ?_, ?_, ?_, ?_⟩
  all_goals (unfold World.frozen?; rw [h]; simp)
theorem NewFour.later {w w' : World} {k : Nat} (h : NewFour w k) (b : Below w.heap.size w w') : NewFour w' k := (b.block _ (Array.getElem?_eq_some_iff.1 h).1).trans h
theorem below_four {u w : World} (h : Below u.heap.size u w) (v0 v1 v2 v3 : Value) : Below u.heap.size u ((((w.setCell ⟨u.heap.size, 0, none⟩ v0).setCell ⟨u.heap.size, 1, none⟩ v1).setCell ⟨u.heap.size, 2, none⟩ v2).setCell ⟨u.heap.size, 3, none⟩ v3) :=
  (((h.setCell (p := ⟨u.heap.size, 0, none⟩) (Nat.le_refl _) _).setCell (p := ⟨u.heap.size, 1, none⟩) (Nat.le_refl _) _).setCell (p := ⟨u.heap.size, 2, none⟩) (Nat.le_refl _) _).setCell (p := ⟨u.heap.size, 3, none⟩) (Nat.le_refl _) _
set_option maxHeartbeats 1000000 in
theorem operatorOf_any (a : Nat → Addr) (x : ByteArray) (w : World) (L : Laid a w) :
    Calls Tryz.prog 87 #[.string x] w fun e w' => (∃ (u : ByteArray) (v n : Int), e = .returned (.agg #[.string u, .int .i64 (tightGo x.data.toList), .int .i64 v, .int .i64 n])) ∧ Below w.heap.size w w' := by
  obtain ⟨tq, ho⟩ := L.ops
  have hix := fun (j : Nat) (h : j < 14) (w : World) => index_ops j h w
  have HB0 : Hid (Below w.heap.size w (w.alloc (.cells #[.string ⟨#[]⟩, .int .i64 0, .int .i64 0, .int .i64 0] 199))) := (Below.refl _ _).alloc (Nat.le_refl _) _
  have HN0 : Hid (NewFour (w.alloc (.cells #[.string ⟨#[]⟩, .int .i64 0, .int .i64 0, .int .i64 0] 199)) w.heap.size) := heap_alloc_new w _
  have ho' : (w.alloc (.cells #[.string ⟨#[]⟩, .int .i64 0, .int .i64 0, .int .i64 0] 199)).heap[17]? = some (.cells opCells tq (0, 0)) := (HB0.out.block _ (Array.getElem?_eq_some_iff.1 ho).1).trans ho
  clear L ho
  go_enter Tryz.func87, Tryz.ntmps87
  go_wp2_with (refine wpList_load_row rfl 224 _ rfl 17 rfl tq _ (0, 0) _ ho' Tryz.underlying224 rfl (by kernel_rfl) ?_)
  clear ho'
  go_loopg [6] 14 (fun g s6 wr => ∃ j : Nat, j ≤ 14 ∧ s6 = .int .i64 j ∧ g = 14 - j ∧ Hid (Below w.heap.size w wr) ∧ Hid (NewFour wr w.heap.size) ∧ Hid (∀ m, m < j → opName m ≠ x.data.toList))
  case atStart => exact ⟨0, by decide, rfl, rfl, HB0, HN0, fun m hm => by omega⟩
  case round =>
    obtain ⟨j, hj, rfl, hg, HB, HN, HW⟩ := hrel
    have HG : Hid (gk = 14 - j) := hg
    clear hg
    by_cases hlt : j < 14
    · have hi := hix j hlt
      by_cases heq : opName j = x.data.toList
      · have hbq : ((bs (opName j)).toList == x.toList) = true := by rw [Lib.toList_data, Lib.toList_data, bs_list, heq]; simp
        have HE : Hid (opName j = x.data.toList) := heq
        clear heq
        have HN' : Hid (NewFour (wr.alloc (.cells #[.string (bs (opName j)), .int .i64 (opBind j), .int .i64 (opWant j), .int .i64 (opGive j)] 199)) w.heap.size) := HN.out.later ((Below.refl _ _).alloc (Nat.le_refl _) _)
        obtain ⟨r0, r1, r2, r3, z0, z1, z2, z3⟩ := HN'.out.facts
        go_wp2
        have q0 := other_cell (v := .int .i64 (opGive j)) (other_cell (v := .int .i64 (opWant j)) (other_cell (v := .int .i64 (opBind j)) (same_cell (v := .string (bs (opName j))) r0) (by decide : 1 ≠ 0)) (by decide : 2 ≠ 0)) (by decide : 3 ≠ 0)
        have q1 := other_cell (v := .int .i64 (opGive j)) (other_cell (v := .int .i64 (opWant j)) (same_cell (v := .int .i64 (opBind j)) (other_cell (v := .string (bs (opName j))) r1 (by decide : 0 ≠ 1))) (by decide : 2 ≠ 1)) (by decide : 3 ≠ 1)
        have q2 := other_cell (v := .int .i64 (opGive j)) (same_cell (v := .int .i64 (opWant j)) (other_cell (v := .int .i64 (opBind j)) (other_cell (v := .string (bs (opName j))) r2 (by decide : 0 ≠ 2)) (by decide : 1 ≠ 2))) (by decide : 3 ≠ 2)
        have q3 := same_cell (v := .int .i64 (opGive j)) (other_cell (v := .int .i64 (opWant j)) (other_cell (v := .int .i64 (opBind j)) (other_cell (v := .string (bs (opName j))) r3 (by decide : 0 ≠ 3)) (by decide : 1 ≠ 3)) (by decide : 2 ≠ 3))
        refine bodyPost_ret (v := .agg #[.string (bs (opName j)), .int .i64 (opBind j), .int .i64 (opWant j), .int .i64 (opGive j)]) (by simp [results, Tryz.results87, go_sem, q0, q1, q2, q3]) rfl ⟨⟨bs (opName j), opWant j, opGive j, ?_⟩, below_four (HB.out.alloc HB.out.size _) _ _ _ _⟩
        have := op_tight j hlt
        rw [← HE.out, tightGo, if_neg this.1, this.2]
      · have hbq : ((bs (opName j)).toList == x.toList) = false := by rw [Lib.toList_data, Lib.toList_data, bs_list]; simpa using heq
        have HE : Hid (opName j ≠ x.data.toList) := heq
        clear heq
        go_wp2
        go_roundg (14 - (j + 1))
        case measure => have := HG.out; omega
        case rel =>
          refine ⟨j + 1, by omega, by go_num, rfl, HB.out.alloc HB.out.size _, ?_, ?_⟩
          · exact HN.out.later ((Below.refl _ _).alloc (Nat.le_refl _) _)
          intro m hm
          rcases Nat.lt_or_ge m j with h | h
          · exact HW.out m h
          · have : m = j := by omega
            rw [this]; exact HE.out
    · obtain ⟨r0, r1, r2, r3, z0, z1, z2, z3⟩ := HN.out.facts
      go_wp2
      have q0 := other_cell (v := .int .i64 0) (other_cell (v := .int .i64 0) (other_cell (v := .int .i64 (-1)) (same_cell (v := .string ⟨#[]⟩) r0) (by decide : 1 ≠ 0)) (by decide : 2 ≠ 0)) (by decide : 3 ≠ 0)
      have q1 := other_cell (v := .int .i64 0) (other_cell (v := .int .i64 0) (same_cell (v := .int .i64 (-1)) (other_cell (v := .string ⟨#[]⟩) r1 (by decide : 0 ≠ 1))) (by decide : 2 ≠ 1)) (by decide : 3 ≠ 1)
      have q2 := other_cell (v := .int .i64 0) (same_cell (v := .int .i64 0) (other_cell (v := .int .i64 (-1)) (other_cell (v := .string ⟨#[]⟩) r2 (by decide : 0 ≠ 2)) (by decide : 1 ≠ 2))) (by decide : 3 ≠ 2)
      have q3 := same_cell (v := .int .i64 0) (other_cell (v := .int .i64 0) (other_cell (v := .int .i64 (-1)) (other_cell (v := .string ⟨#[]⟩) r3 (by decide : 0 ≠ 3)) (by decide : 1 ≠ 3)) (by decide : 2 ≠ 3))
      refine bodyPost_ret (v := .agg #[.string ⟨#[]⟩, .int .i64 (-1), .int .i64 0, .int .i64 0]) (by simp [results, Tryz.results87, go_sem, q0, q1, q2, q3]) rfl ⟨⟨⟨#[]⟩, 0, 0, ?_⟩, below_four HB.out _ _ _ _⟩
      have := op_none (x := x.data.toList) (fun m hm => HW.out m (by omega))
      rw [tightGo, if_pos this]

set_option maxHeartbeats 1000000 in
theorem seesOperator_any (a : Nat → Addr) (b : Nat) (s : ByteArray) (st : Mil.St) (l : Nat) (h1 : 1 ≤ l) (h8 : l ≤ 8) (w : World) (L : Laid a w) (h : RdS w b s st) :
    Calls Tryz.prog 119 #[.pointer (some ⟨b, 0, none⟩), .int .i64 l] w fun e w' => e = .returned (.bool (decide (Mil.opAt st = l))) ∧ Below w.heap.size w w' := by
  have HL : Hid (Laid a w) := L
  obtain ⟨p, tp, x, hp, hR, hr, hx, hn⟩ := h
  have c3 := hR.c3
  have c5 := hR.c5
  have HX : Hid (x.data.toList = st.tok.txt) := hx
  clear hR hr hx L
  by_cases h3 : st.tok.kind = 3
  · have hb : (((st.tok.kind : Nat) : Int) == 3) = true := by simp; omega
    have HO : Hid (Mil.opAt st = Mil.tightOf st.tok.txt) := by unfold Mil.opAt; rw [if_pos h3]; rfl
    clear h3
    go_enter Tryz.func119, Tryz.ntmps119
    go_wp2_with fail
    refine (operatorOf_any a x w HL.out).mono ?_
    rintro e w1 ⟨⟨u, v, n, rfl⟩, hb1⟩
    have HB1 : Hid (Below w.heap.size w w1) := hb1
    clear hb1 c3 c5
    generalize hq : tightGo x.data.toList = q
    have HQ : Hid (tightGo x.data.toList = q) := hq
    clear hq
    have hfd : ∀ w : World, (Instr.field 199 (.agg #[.string u, .int .i64 q, .int .i64 v, .int .i64 n]) 1).run Tryz.prog w = .ok (.int .i64 q) w := fun w => by kernel_rfl
    go_wp2
    go_ret
    refine ⟨ret_bool ?_, HB1.out⟩
    rw [← HQ.out, HO.out, HX.out, tightGo, Bool.eq_iff_iff]
    by_cases h9 : Mil.tightOf st.tok.txt = 9
    · rw [if_pos h9]; simp; omega
    · rw [if_neg h9]; simp; omega
  · have hb : (((st.tok.kind : Nat) : Int) == 3) = false := by simp; omega
    have HO : Hid (Mil.opAt st = 9) := by unfold Mil.opAt; rw [if_neg h3]; rfl
    clear h3
    go_enter Tryz.func119, Tryz.ntmps119
    go_wp2
    go_ret
    refine ⟨ret_bool ?_, Below.refl _ _⟩
    rw [HO.out]; symm; rw [decide_eq_false_iff_not]; omega

/-- The words of the types. -/
def tyAt (j : Nat) : Mil.Bytes := [Mil.wInt, Mil.wBool].getD j []
theorem lt2 {j : Nat} (h : j < 2) : j = 0 ∨ j = 1 := by omega
theorem index_types (j : Nat) (h : j < 2) (w : World) : (Instr.index 221 (.agg (strCells [Mil.wInt, Mil.wBool])) (.int .i64 j)).run Tryz.prog w = .ok (.string (bs (tyAt j))) w := by
  rcases lt2 h with rfl | rfl <;> kernel_rfl
theorem ftype_at {st : Mil.St} (j : Nat) (hj : j < 2) (hy : Mil.sees st (tyAt j) = true) (hn : ∀ m, m < j → Mil.sees st (tyAt m) = false) : Mil.ftype st = (Mil.adv st).map fun s1 => (j, s1) := by
  rcases lt2 hj with rfl | rfl
  · unfold Mil.ftype
    rw [if_pos (show Mil.sees st Mil.wInt = true from hy)]
  · unfold Mil.ftype
    have h0 : Mil.sees st Mil.wInt = false := hn 0 (by decide)
    rw [h0, if_neg (by decide), if_pos (show Mil.sees st Mil.wBool = true from hy)]
theorem ftypeZ_at (N : Nat) {st : Mil.St} (j : Nat) (hj : j < 2) (hy : Mil.sees st (tyAt j) = true) (hn : ∀ m, m < j → Mil.sees st (tyAt m) = false) : Mil.ftypeZ N st = (Mil.advZ N st).map fun s1 => (j, s1) := by
  rcases lt2 hj with rfl | rfl
  · unfold Mil.ftypeZ
    rw [if_pos (show Mil.sees st Mil.wInt = true from hy)]
  · unfold Mil.ftypeZ
    have h0 : Mil.sees st Mil.wInt = false := hn 0 (by decide)
    rw [h0, if_neg (by decide), if_pos (show Mil.sees st Mil.wBool = true from hy)]
theorem ftype_none {N : Nat} {st : Mil.St} (hn : ∀ m, m < 2 → Mil.sees st (tyAt m) = false) : Mil.ftypeZ N st = .bad 3 (place N st) := by
  unfold Mil.ftypeZ
  have h0 : Mil.sees st Mil.wInt = false := hn 0 (by decide)
  have h1 : Mil.sees st Mil.wBool = false := hn 1 (by decide)
  rw [h0, h1, if_neg (by decide), if_neg (by decide)]
  rfl

set_option maxHeartbeats 1000000 in
theorem flowType_any (a : Nat → Addr) (b : Nat) (s : ByteArray) (st : Mil.St) (w : World) (L : Laid a w) (hb : 23 ≤ b) (h : RdS w b s st) (hs : s.size ≤ 4000) :
    Calls Tryz.prog 83 #[.pointer (some ⟨b, 0, none⟩)] w (NuPost (Mil.ftype st) (Mil.ftypeZ s.size st) a b s w) := by
  have H : Hid (RdS w b s st) := h
  have HL : Hid (Laid a w) := L
  obtain ⟨tq, ho⟩ := L.types
  have hix := fun (j : Nat) (h : j < 2) (w : World) => index_types j h w
  clear h L
  go_enter Tryz.func83, Tryz.ntmps83
  go_wp2_with (refine wpList_load_row rfl 221 _ rfl 16 rfl tq _ (0, 0) _ ho Tryz.underlying221 rfl (by kernel_rfl) ?_)
  clear ho
  go_loopg [6] 2 (fun g s6 wr => ∃ j : Nat, j ≤ 2 ∧ s6 = .int .i64 j ∧ g = 2 - j ∧ wr = w ∧ Hid (∀ m, m < j → Mil.sees st (tyAt m) = false))
  case atStart => exact ⟨0, by decide, rfl, rfl, rfl, fun m hm => by omega⟩
  case round =>
    obtain ⟨j, hj, rfl, hg, rfl, HW⟩ := hrel
    have HG : Hid (gk = 2 - j) := hg
    clear hg
    by_cases hlt : j < 2
    · have hi := hix j hlt
      by_cases heq : Mil.sees st (tyAt j) = true
      · have HM : Hid (Mil.ftype st = (Mil.adv st).map fun s1 => (j, s1)) := ftype_at j hlt heq HW.out
        have HZ : Hid (Mil.ftypeZ s.size st = (Mil.advZ s.size st).map fun s1 => (j, s1)) := ftypeZ_at s.size j hlt heq HW.out
        have HE : Hid (Mil.sees st (bs (tyAt j)).data.toList = true) := heq
        clear heq
        go_wp2_with fail
        refine (takes_yes a b s st (bs (tyAt j)) _ HL.out hb H.out hs HE.out).mono ?_
        rintro e w1 ⟨hk, (⟨st', rfl, h1, h2⟩ | ⟨k, at_, hkk, d, rfl, hd, hno⟩)⟩
        · go_wp2
          go_ret
          exact ⟨hk, Or.inl ⟨j, st', rfl, by rw [HM.out, h1]; rfl, h2⟩⟩
        · go_wp2
          exact ⟨rfl, hk, Or.inr ⟨k, at_, hkk, d, rfl, hd, by rw [HZ.out, hno]; rfl⟩⟩
      · have HE : Hid (Mil.sees st (bs (tyAt j)).data.toList = false) := Bool.eq_false_iff.2 heq
        clear heq
        go_wp2_with fail
        refine (takes_no b s st (bs (tyAt j)) _ H.out HE.out).mono ?_
        rintro e w1 ⟨rfl, rfl⟩
        go_wp2
        go_roundg (2 - (j + 1))
        case measure => have := HG.out; omega
        case rel =>
          refine ⟨j + 1, by omega, by go_num, rfl, rfl, ?_⟩
          intro m hm
          rcases Nat.lt_or_ge m j with h | h
          · exact HW.out m h
          · have : m = j := by omega
            rw [this]; exact HE.out
    · go_wp2_with fail
      refine (refused_at a b s st _ HL.out H.out).mono ?_
      rintro e w2 ⟨d, rfl, hd, hb2⟩
      go_wp2
      exact ⟨rfl, Kp.of_below hb2, Or.inr ⟨3, _, Or.inr (Or.inr (Or.inl rfl)), d, rfl, hd, ftype_none (fun m hm => HW.out m (by omega))⟩⟩

end Go.Proofs.YtibbjohkiigffaaGreatDoor
