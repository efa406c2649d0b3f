/-
  cut, advance: walked.
-/
import Derived.Test.YtkngcglmfbdblaaGreatDoorCutd
namespace Go.Proofs.YtkngcglmfbdblaaGreatDoor
open Go.RowKit

theorem cut_cons {c : UInt8} {r : Mil.Bytes} : Mil.cut (c :: r) = if Mil.isL c then Mil.cutName (c :: r) else if Mil.isD c then Mil.cutNum (c :: r) else Mil.cutSign (c :: r) := rfl

theorem tok_through {c : Option (Mil.Tok × Mil.Bytes)} {a : Nat → Addr} {b : Nat} {s : ByteArray} {p n q : Nat} {k tp : Int} {x xt : ByteArray} {v : Int} {w w1 w2 : World} {t : Mil.Tok}
    (h1 : Kp b w w1) (h2 : Kp b w1 w2) (hr : b ≠ w.heap.size) (hpq : p ≤ q) (hq : q ≤ s.size) (hR : Rd w2 b s q n k tp x v) (hc : c = some (t, s.data.toList.drop q)) (hx : xt.data.toList = t.txt) :
    TokPost c a b s p n k tp x v w (.returned (.agg #[.int .i64 (t.kind : Nat), .int .i64 p, .string xt, .int .i64 t.val]))
      ((((w2.setCell ⟨w.heap.size, 0, none⟩ (.int .i64 (t.kind : Nat))).setCell ⟨w.heap.size, 1, none⟩ (.int .i64 p)).setCell ⟨w.heap.size, 2, none⟩ (.string xt)).setCell ⟨w.heap.size, 3, none⟩ (.int .i64 t.val)) :=
  ⟨(h1.trans h2).four (Nat.le_refl _) _ _ _ _, Or.inl ⟨t, q, xt, rfl, hpq, hq, hR.four hr _ _ _ _, hc, hx⟩⟩

set_option maxHeartbeats 1000000 in
theorem cut_any (a : Nat → Addr) (b : Nat) (s : ByteArray) (p n : Nat) (k tp : Int) (x : ByteArray) (v : Int) (w : World) (L : Laid a w) (hb : 23 ≤ b) (h : Rd w b s p n k tp x v) (hp : p ≤ s.size) (hs : s.size ≤ 4000) :
    Calls Tryz.prog 28 #[.pointer (some ⟨b, 0, none⟩)] w (TokPost (Mil.cut (s.data.toList.drop p)) a b s p n k tp x v w) := by
  have HL : Hid (Laid a w) := L
  have hbw : b < w.heap.size := lt_of_cell h.c0
  have hgw := L.size
  let o : Obj := .cells #[.int .i64 0, .int .i64 0, .string ⟨#[]⟩, .int .i64 0] 66
  have ho : o = .cells #[.int .i64 0, .int .i64 0, .string ⟨#[]⟩, .int .i64 0] 66 := rfl
  have hR : Rd (w.alloc o) b s p n k tp x v := h.kept ((Kp.refl (b + 1) _).alloc _) (by omega)
  have HR : Hid (Rd (w.alloc o) b s p n k tp x v) := hR
  have HK : Hid (Kp b w (w.alloc o)) := (Kp.refl b _).alloc _
  have HL1 : Hid (Laid a (w.alloc o)) := L.kept HK.out hb
  have hT : Slot (w.alloc o) w.heap.size := heap_alloc_new _ _
  have HT : Hid (Slot (w.alloc o) w.heap.size) := hT
  have hsz : w.heap.size < (w.alloc o).heap.size := by simp
  clear h L
  go_enter Tryz.func28, Tryz.ntmps28
  go_wp2
  rw [← ho]
  generalize w.alloc o = w1 at *
  have c0 := hR.c0
  have c1 := hR.c1
  obtain ⟨r0, r1, r2, r3, z0, z1, z2, z3⟩ := hT.cell
  clear hR hT
  by_cases hlt : p < s.size
  · have hq : ((p : Int) == (s.size : Int)) = false := by simp; omega
    have hc : Mil.cut (s.data.toList.drop p) = if Mil.isL s[p] then Mil.cutName (s.data.toList.drop p) else if Mil.isD s[p] then Mil.cutNum (s.data.toList.drop p) else Mil.cutSign (s.data.toList.drop p) := by
      rw [drop_at hlt]; rfl
    have HC : Hid _ := hc
    clear hc
    go_quiet (fail)
    go_wp2
    go_quiet (fail)
    go_wp2_with fail
    refine (isLetter_any _ _).mono ?_
    rintro e w' ⟨rfl, rfl⟩
    by_cases hl : Mil.isL s[p] = true
    · have HC1 : Hid (Mil.cut (s.data.toList.drop p) = Mil.cutName (s.data.toList.drop p)) := HC.out.trans (by rw [if_pos hl])
      go_wp2_with fail
      refine (cutName_any a b s p n k tp x v _ (HL1.out.kept ((Kp.refl b _).drewN _) hb) hb (HR.out.drewN _) hlt hs).mono ?_
      rintro e w2 ⟨hk2, (⟨t, q, xt, rfl, h1, h2, hR2, hc2, hx2⟩ | ⟨⟨d, rfl, hd⟩, hn⟩)⟩
      · have HF : Hid (TokPost (Mil.cut (s.data.toList.drop p)) a b s p n k tp x v w (.returned (.agg #[.int .i64 (t.kind : Nat), .int .i64 p, .string xt, .int .i64 t.val])) ((((w2.setCell ⟨w.heap.size, 0, none⟩ (.int .i64 (t.kind : Nat))).setCell ⟨w.heap.size, 1, none⟩ (.int .i64 p)).setCell ⟨w.heap.size, 2, none⟩ (.string xt)).setCell ⟨w.heap.size, 3, none⟩ (.int .i64 t.val))) :=
          tok_through (HK.out.drewN _) hk2 (by omega) h1 h2 hR2 (HC1.out.trans hc2) hx2
        have hT2 : Slot w2 w.heap.size := (HT.out.kept ((Kp.refl b _).drewN _) (by omega)).kept hk2 (by omega)
        clear r0 r1 r2 r3 z0 z1 z2 z3
        obtain ⟨r0, r1, r2, r3, z0, z1, z2, z3⟩ := hT2.cell
        clear hk2 h1 h2 hR2 hc2 hx2 hT2
        go_wp2
        exact bodyPost_ret (v := .agg #[.int .i64 (t.kind : Nat), .int .i64 p, .string xt, .int .i64 t.val]) (by simp [results, Tryz.results28, go_sem, r0, r1, r2, r3]) rfl HF.out
      · go_wp2
        exact ⟨rfl, (HK.out.drewN _).trans hk2, Or.inr ⟨⟨d, rfl, hd⟩, HC1.out.trans hn⟩⟩
    · have hl' : Mil.isL s[p] = false := by simpa using hl
      have HC1 : Hid (Mil.cut (s.data.toList.drop p) = if Mil.isD s[p] then Mil.cutNum (s.data.toList.drop p) else Mil.cutSign (s.data.toList.drop p)) := HC.out.trans (by rw [if_neg hl])
      clear hl
      go_wp2_with fail
      refine (isDigit_any _ _).mono ?_
      rintro e w' ⟨rfl, rfl⟩
      by_cases hd : Mil.isD s[p] = true
      · have HC2 : Hid (Mil.cut (s.data.toList.drop p) = Mil.cutNum (s.data.toList.drop p)) := HC1.out.trans (by rw [if_pos hd])
        have HD : Hid (Mil.isD s[p] = true) := hd
        go_wp2_with fail
        refine (cutNumber_any a b s p n k tp x v _ (HL1.out.kept ((Kp.refl b _).drewN _) hb) hb (HR.out.drewN _) hlt HD.out hs).mono ?_
        rintro e w2 ⟨hk2, (⟨t, q, xt, rfl, h1, h2, hR2, hc2, hx2⟩ | ⟨⟨d, rfl, hd⟩, hn⟩)⟩
        · have HF : Hid (TokPost (Mil.cut (s.data.toList.drop p)) a b s p n k tp x v w (.returned (.agg #[.int .i64 (t.kind : Nat), .int .i64 p, .string xt, .int .i64 t.val])) ((((w2.setCell ⟨w.heap.size, 0, none⟩ (.int .i64 (t.kind : Nat))).setCell ⟨w.heap.size, 1, none⟩ (.int .i64 p)).setCell ⟨w.heap.size, 2, none⟩ (.string xt)).setCell ⟨w.heap.size, 3, none⟩ (.int .i64 t.val))) :=
            tok_through (HK.out.drewN _) hk2 (by omega) h1 h2 hR2 (HC2.out.trans hc2) hx2
          have hT2 : Slot w2 w.heap.size := (HT.out.kept ((Kp.refl b _).drewN _) (by omega)).kept hk2 (by omega)
          clear r0 r1 r2 r3 z0 z1 z2 z3
          obtain ⟨r0, r1, r2, r3, z0, z1, z2, z3⟩ := hT2.cell
          clear hk2 h1 h2 hR2 hc2 hx2 hT2
          go_wp2
          exact bodyPost_ret (v := .agg #[.int .i64 (t.kind : Nat), .int .i64 p, .string xt, .int .i64 t.val]) (by simp [results, Tryz.results28, go_sem, r0, r1, r2, r3]) rfl HF.out
        · go_wp2
          exact ⟨rfl, (HK.out.drewN _).trans hk2, Or.inr ⟨⟨d, rfl, hd⟩, HC2.out.trans hn⟩⟩
      · have hd' : Mil.isD s[p] = false := by simpa using hd
        have HC2 : Hid (Mil.cut (s.data.toList.drop p) = Mil.cutSign (s.data.toList.drop p)) := HC1.out.trans (by rw [if_neg hd])
        clear hd
        go_wp2_with fail
        refine (cutSign_any a b s p n k tp x v _ (HL1.out.kept ((Kp.refl b _).drewN _) hb) hb (HR.out.drewN _) hlt hs).mono ?_
        rintro e w2 ⟨hk2, (⟨t, q, xt, rfl, h1, h2, hR2, hc2, hx2⟩ | ⟨⟨d, rfl, hd⟩, hn⟩)⟩
        · have HF : Hid (TokPost (Mil.cut (s.data.toList.drop p)) a b s p n k tp x v w (.returned (.agg #[.int .i64 (t.kind : Nat), .int .i64 p, .string xt, .int .i64 t.val])) ((((w2.setCell ⟨w.heap.size, 0, none⟩ (.int .i64 (t.kind : Nat))).setCell ⟨w.heap.size, 1, none⟩ (.int .i64 p)).setCell ⟨w.heap.size, 2, none⟩ (.string xt)).setCell ⟨w.heap.size, 3, none⟩ (.int .i64 t.val))) :=
            tok_through (HK.out.drewN _) hk2 (by omega) h1 h2 hR2 (HC2.out.trans hc2) hx2
          have hT2 : Slot w2 w.heap.size := (HT.out.kept ((Kp.refl b _).drewN _) (by omega)).kept hk2 (by omega)
          clear r0 r1 r2 r3 z0 z1 z2 z3
          obtain ⟨r0, r1, r2, r3, z0, z1, z2, z3⟩ := hT2.cell
          clear hk2 h1 h2 hR2 hc2 hx2 hT2
          go_wp2
          exact bodyPost_ret (v := .agg #[.int .i64 (t.kind : Nat), .int .i64 p, .string xt, .int .i64 t.val]) (by simp [results, Tryz.results28, go_sem, r0, r1, r2, r3]) rfl HF.out
        · go_wp2
          exact ⟨rfl, (HK.out.drewN _).trans hk2, Or.inr ⟨⟨d, rfl, hd⟩, HC2.out.trans hn⟩⟩
  · have hq : ((p : Int) == (s.size : Int)) = true := by simp; omega
    go_quiet (fail)
    go_wp2
    refine bodyPost_ret (v := .agg #[.int .i64 0, .int .i64 p, .string ⟨#[]⟩, .int .i64 0]) (by simp [results, Tryz.results28, go_sem, r0, r1, r2, r3]) rfl ?_
    refine ⟨(HK.out.drewN nq).four (Nat.le_refl _) _ _ _ _, Or.inl ⟨⟨0, [], 0⟩, p, ⟨#[]⟩, rfl, Nat.le_refl _, hp, (HR.out.drewN nq).four (by omega) _ _ _ _, ?_, rfl⟩⟩
    rw [drop_end (by omega)]; rfl

end Go.Proofs.YtkngcglmfbdblaaGreatDoor
