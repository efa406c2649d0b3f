/-
  Where an expression must begin and a ';' stands: refused, at its place. (Printed by gen_reads.py.)
-/
import Derived.Test.YteheagaiphhhlaaGreatDoorIto
namespace Go.Proofs.YteheagaiphhhlaaGreatDoor
open Go.RowKit

def NoPost (a : Nat → Addr) (b : Nat) (s : ByteArray) (st : Mil.St) (w : World) (e : Ending) (w' : World) : Prop := Kp b w w' ∧ Thrown a 3 (place s.size st) e w'

set_option maxHeartbeats 1000000 in
theorem number_no (a : Nat → Addr) (b : Nat) (s : ByteArray) (st : Mil.St) (hy : Mil.sees st Mil.sSemi = true) (w : World) (L : Laid a w) (h : RdS w b s st) (lo hi : Int) :
    Calls Tryz.prog 44 #[.pointer (some ⟨b, 0, none⟩), .int .i64 lo, .int .i64 hi] w (NoPost a b s st w) := by
  have H : Hid (RdS w b s st) := h
  have HL : Hid (Laid a w) := L
  have HY : Hid (Mil.sees st Mil.sSemi = true) := hy
  obtain ⟨p, tp, x, hp, hR, hr, hx, hn⟩ := h
  have c3 := hR.c3
  have c6 := hR.c6
  have k3 := (Mil.sees_kind3 hy).1
  have hk : (((st.tok.kind : Nat) : Int) != 2) = true := by simp; omega
  clear hR hr hx hn k3
  clear L hy
  go_enter Tryz.func44, Tryz.ntmps44
  go_wp2_with fail
  refine (refused_at a b s st _ HL.out H.out).mono ?_
  rintro e w2 ⟨d, rfl, hd, hb2⟩
  go_wp2
  exact ⟨rfl, Kp.of_below hb2, ⟨d, rfl, hd⟩⟩

set_option maxHeartbeats 1000000 in
theorem literal_no (a : Nat → Addr) (b : Nat) (s : ByteArray) (st : Mil.St) (hy : Mil.sees st Mil.sSemi = true) (w : World) (L : Laid a w) (h : RdS w b s st) :
    Calls Tryz.prog 67 #[.pointer (some ⟨b, 0, none⟩)] w (NoPost a b s st w) := by
  have H : Hid (RdS w b s st) := h
  have HL : Hid (Laid a w) := L
  have HY : Hid (Mil.sees st Mil.sSemi = true) := hy
  have N0 : Hid (Mil.sees st (bs Mil.wTrue).data.toList = false) := Mil.sees_other hy (by decide)
  have N1 : Hid (Mil.sees st (bs Mil.wFalse).data.toList = false) := Mil.sees_other hy (by decide)
  clear L hy h
  go_enter Tryz.func67, Tryz.ntmps67
  go_wp2_with fail
  refine (takes_no b s st (bs Mil.wTrue) _ H.out N0.out).mono ?_
  rintro e w1 ⟨rfl, hw⟩
  rw [hw]
  clear hw w1
  go_wp2_with fail
  refine (takes_no b s st (bs Mil.wFalse) _ H.out N1.out).mono ?_
  rintro e w1 ⟨rfl, hw⟩
  rw [hw]
  clear hw w1
  go_wp2_with fail
  refine (number_no a b s st HY.out _ HL.out H.out 0 9223372036854775807).mono ?_
  rintro e w2 ⟨hk2, ⟨d, rfl, hd⟩⟩
  go_wp2
  exact ⟨rfl, hk2, ⟨d, rfl, hd⟩⟩

set_option maxHeartbeats 1000000 in
theorem atom_no (a : Nat → Addr) (b : Nat) (s : ByteArray) (st : Mil.St) (hy : Mil.sees st Mil.sSemi = true) (w : World) (L : Laid a w) (h : RdS w b s st) :
    Calls Tryz.prog 56 #[.pointer (some ⟨b, 0, none⟩)] w (NoPost a b s st w) := by
  have H : Hid (RdS w b s st) := h
  have HL : Hid (Laid a w) := L
  have HY : Hid (Mil.sees st Mil.sSemi = true) := hy
  obtain ⟨p, tp, x, hp, hR, hr, hx, hn⟩ := h
  have c3 := hR.c3
  have k3 := (Mil.sees_kind3 hy).1
  have hk : (((st.tok.kind : Nat) : Int) == 1) = false := by simp; omega
  clear hR hr hx hn k3
  have N0 : Hid (Mil.sees st (bs Mil.sOpen).data.toList = false) := Mil.sees_other hy (by decide)
  have N1 : Hid (Mil.sees st (bs Mil.wFby).data.toList = false) := Mil.sees_other hy (by decide)
  have N2 : Hid (Mil.sees st (bs Mil.wUnder).data.toList = false) := Mil.sees_other hy (by decide)
  have N3 : Hid (Mil.sees st (bs Mil.wHold).data.toList = false) := Mil.sees_other hy (by decide)
  have N4 : Hid (Mil.sees st (bs Mil.wMin).data.toList = false) := Mil.sees_other hy (by decide)
  have N5 : Hid (Mil.sees st (bs Mil.wMax).data.toList = false) := Mil.sees_other hy (by decide)
  clear L hy
  go_enter Tryz.func56, Tryz.ntmps56
  go_wp2_with fail
  refine (takes_no b s st (bs Mil.sOpen) _ H.out N0.out).mono ?_
  rintro e w1 ⟨rfl, hw⟩
  rw [hw]
  clear hw w1
  go_wp2_with fail
  refine (takes_no b s st (bs Mil.wFby) _ H.out N1.out).mono ?_
  rintro e w1 ⟨rfl, hw⟩
  rw [hw]
  clear hw w1
  go_wp2_with fail
  refine (takes_no b s st (bs Mil.wUnder) _ H.out N2.out).mono ?_
  rintro e w1 ⟨rfl, hw⟩
  rw [hw]
  clear hw w1
  go_wp2_with fail
  refine (takes_no b s st (bs Mil.wHold) _ H.out N3.out).mono ?_
  rintro e w1 ⟨rfl, hw⟩
  rw [hw]
  clear hw w1
  go_wp2_with fail
  refine (takes_no b s st (bs Mil.wMin) _ H.out N4.out).mono ?_
  rintro e w1 ⟨rfl, hw⟩
  rw [hw]
  clear hw w1
  go_wp2_with fail
  refine (takes_no b s st (bs Mil.wMax) _ H.out N5.out).mono ?_
  rintro e w1 ⟨rfl, hw⟩
  rw [hw]
  clear hw w1
  go_wp2_with fail
  refine (literal_no a b s st HY.out _ HL.out H.out).mono ?_
  rintro e w2 ⟨hk2, ⟨d, rfl, hd⟩⟩
  go_wp2
  exact ⟨rfl, hk2, ⟨d, rfl, hd⟩⟩

set_option maxHeartbeats 1000000 in
theorem operand_no8 (a : Nat → Addr) (b : Nat) (s : ByteArray) (st : Mil.St) (hy : Mil.sees st Mil.sSemi = true) (w : World) (L : Laid a w) (h : RdS w b s st) :
    Calls Tryz.prog 51 #[.pointer (some ⟨b, 0, none⟩), .int .i64 8] w (NoPost a b s st w) := by
  have H : Hid (RdS w b s st) := h
  have HL : Hid (Laid a w) := L
  have HY : Hid (Mil.sees st Mil.sSemi = true) := hy
  clear L hy h
  go_enter Tryz.func51, Tryz.ntmps51
  go_wp2_with fail
  refine (atom_no a b s st HY.out _ HL.out H.out).mono ?_
  rintro e w2 ⟨hk2, ⟨d, rfl, hd⟩⟩
  go_wp2
  exact ⟨rfl, hk2, ⟨d, rfl, hd⟩⟩

set_option maxHeartbeats 1000000 in
theorem operand_no7 (a : Nat → Addr) (b : Nat) (s : ByteArray) (st : Mil.St) (hy : Mil.sees st Mil.sSemi = true) (w : World) (L : Laid a w) (h : RdS w b s st) :
    Calls Tryz.prog 51 #[.pointer (some ⟨b, 0, none⟩), .int .i64 7] w (NoPost a b s st w) := by
  have H : Hid (RdS w b s st) := h
  have HL : Hid (Laid a w) := L
  have HY : Hid (Mil.sees st Mil.sSemi = true) := hy
  have N0 : Hid (Mil.sees st (bs Mil.sMinus).data.toList = false) := Mil.sees_other hy (by decide)
  clear L hy h
  go_enter Tryz.func51, Tryz.ntmps51
  go_wp2_with fail
  refine (takes_no b s st (bs Mil.sMinus) _ H.out N0.out).mono ?_
  rintro e w1 ⟨rfl, hw⟩
  rw [hw]
  clear hw w1
  go_wp2_with fail
  refine (operand_no8 a b s st HY.out _ HL.out H.out).mono ?_
  rintro e w2 ⟨hk2, ⟨d, rfl, hd⟩⟩
  go_wp2
  exact ⟨rfl, hk2, ⟨d, rfl, hd⟩⟩

set_option maxHeartbeats 1000000 in
theorem operand_no6 (a : Nat → Addr) (b : Nat) (s : ByteArray) (st : Mil.St) (hy : Mil.sees st Mil.sSemi = true) (w : World) (L : Laid a w) (h : RdS w b s st) :
    Calls Tryz.prog 51 #[.pointer (some ⟨b, 0, none⟩), .int .i64 6] w (NoPost a b s st w) := by
  have H : Hid (RdS w b s st) := h
  have HL : Hid (Laid a w) := L
  have HY : Hid (Mil.sees st Mil.sSemi = true) := hy
  clear L hy h
  go_enter Tryz.func51, Tryz.ntmps51
  go_wp2_with fail
  refine (operand_no7 a b s st HY.out _ HL.out H.out).mono ?_
  rintro e w2 ⟨hk2, ⟨d, rfl, hd⟩⟩
  go_wp2
  exact ⟨rfl, hk2, ⟨d, rfl, hd⟩⟩

set_option maxHeartbeats 1000000 in
theorem operand_no5 (a : Nat → Addr) (b : Nat) (s : ByteArray) (st : Mil.St) (hy : Mil.sees st Mil.sSemi = true) (w : World) (L : Laid a w) (h : RdS w b s st) :
    Calls Tryz.prog 51 #[.pointer (some ⟨b, 0, none⟩), .int .i64 5] w (NoPost a b s st w) := by
  have H : Hid (RdS w b s st) := h
  have HL : Hid (Laid a w) := L
  have HY : Hid (Mil.sees st Mil.sSemi = true) := hy
  clear L hy h
  go_enter Tryz.func51, Tryz.ntmps51
  go_wp2_with fail
  refine (operand_no6 a b s st HY.out _ HL.out H.out).mono ?_
  rintro e w2 ⟨hk2, ⟨d, rfl, hd⟩⟩
  go_wp2
  exact ⟨rfl, hk2, ⟨d, rfl, hd⟩⟩

set_option maxHeartbeats 1000000 in
theorem operand_no4 (a : Nat → Addr) (b : Nat) (s : ByteArray) (st : Mil.St) (hy : Mil.sees st Mil.sSemi = true) (w : World) (L : Laid a w) (h : RdS w b s st) :
    Calls Tryz.prog 51 #[.pointer (some ⟨b, 0, none⟩), .int .i64 4] w (NoPost a b s st w) := by
  have H : Hid (RdS w b s st) := h
  have HL : Hid (Laid a w) := L
  have HY : Hid (Mil.sees st Mil.sSemi = true) := hy
  clear L hy h
  go_enter Tryz.func51, Tryz.ntmps51
  go_wp2_with fail
  refine (operand_no5 a b s st HY.out _ HL.out H.out).mono ?_
  rintro e w2 ⟨hk2, ⟨d, rfl, hd⟩⟩
  go_wp2
  exact ⟨rfl, hk2, ⟨d, rfl, hd⟩⟩

set_option maxHeartbeats 1000000 in
theorem operand_no3 (a : Nat → Addr) (b : Nat) (s : ByteArray) (st : Mil.St) (hy : Mil.sees st Mil.sSemi = true) (w : World) (L : Laid a w) (h : RdS w b s st) :
    Calls Tryz.prog 51 #[.pointer (some ⟨b, 0, none⟩), .int .i64 3] w (NoPost a b s st w) := by
  have H : Hid (RdS w b s st) := h
  have HL : Hid (Laid a w) := L
  have HY : Hid (Mil.sees st Mil.sSemi = true) := hy
  have N0 : Hid (Mil.sees st (bs Mil.wNot).data.toList = false) := Mil.sees_other hy (by decide)
  clear L hy h
  go_enter Tryz.func51, Tryz.ntmps51
  go_wp2_with fail
  refine (takes_no b s st (bs Mil.wNot) _ H.out N0.out).mono ?_
  rintro e w1 ⟨rfl, hw⟩
  rw [hw]
  clear hw w1
  go_wp2_with fail
  refine (operand_no4 a b s st HY.out _ HL.out H.out).mono ?_
  rintro e w2 ⟨hk2, ⟨d, rfl, hd⟩⟩
  go_wp2
  exact ⟨rfl, hk2, ⟨d, rfl, hd⟩⟩

set_option maxHeartbeats 1000000 in
theorem operand_no2 (a : Nat → Addr) (b : Nat) (s : ByteArray) (st : Mil.St) (hy : Mil.sees st Mil.sSemi = true) (w : World) (L : Laid a w) (h : RdS w b s st) :
    Calls Tryz.prog 51 #[.pointer (some ⟨b, 0, none⟩), .int .i64 2] w (NoPost a b s st w) := by
  have H : Hid (RdS w b s st) := h
  have HL : Hid (Laid a w) := L
  have HY : Hid (Mil.sees st Mil.sSemi = true) := hy
  clear L hy h
  go_enter Tryz.func51, Tryz.ntmps51
  go_wp2_with fail
  refine (operand_no3 a b s st HY.out _ HL.out H.out).mono ?_
  rintro e w2 ⟨hk2, ⟨d, rfl, hd⟩⟩
  go_wp2
  exact ⟨rfl, hk2, ⟨d, rfl, hd⟩⟩

set_option maxHeartbeats 1000000 in
theorem operand_no1 (a : Nat → Addr) (b : Nat) (s : ByteArray) (st : Mil.St) (hy : Mil.sees st Mil.sSemi = true) (w : World) (L : Laid a w) (h : RdS w b s st) :
    Calls Tryz.prog 51 #[.pointer (some ⟨b, 0, none⟩), .int .i64 1] w (NoPost a b s st w) := by
  have H : Hid (RdS w b s st) := h
  have HL : Hid (Laid a w) := L
  have HY : Hid (Mil.sees st Mil.sSemi = true) := hy
  clear L hy h
  go_enter Tryz.func51, Tryz.ntmps51
  go_wp2_with fail
  refine (operand_no2 a b s st HY.out _ HL.out H.out).mono ?_
  rintro e w2 ⟨hk2, ⟨d, rfl, hd⟩⟩
  go_wp2
  exact ⟨rfl, hk2, ⟨d, rfl, hd⟩⟩

set_option maxHeartbeats 1000000 in
theorem expression_no (a : Nat → Addr) (b : Nat) (s : ByteArray) (st : Mil.St) (hy : Mil.sees st Mil.sSemi = true) (w : World) (L : Laid a w) (h : RdS w b s st) :
    Calls Tryz.prog 45 #[.pointer (some ⟨b, 0, none⟩)] w (NoPost a b s st w) := by
  have H : Hid (RdS w b s st) := h
  have HL : Hid (Laid a w) := L
  have HY : Hid (Mil.sees st Mil.sSemi = true) := hy
  have N0 : Hid (Mil.sees st (bs Mil.wIf).data.toList = false) := Mil.sees_other hy (by decide)
  clear L hy h
  go_enter Tryz.func45, Tryz.ntmps45
  go_wp2_with fail
  refine (takes_no b s st (bs Mil.wIf) _ H.out N0.out).mono ?_
  rintro e w1 ⟨rfl, hw⟩
  rw [hw]
  clear hw w1
  go_wp2_with fail
  refine (operand_no1 a b s st HY.out _ HL.out H.out).mono ?_
  rintro e w2 ⟨hk2, ⟨d, rfl, hd⟩⟩
  go_wp2
  exact ⟨rfl, hk2, ⟨d, rfl, hd⟩⟩

set_option maxHeartbeats 1000000 in
theorem equation_no (a : Nat → Addr) (b : Nat) (s : ByteArray) (hb : 23 ≤ b) (hs : s.size ≤ 4000) (st t1 t2 t3 t4 : Mil.St) (x : Mil.Bytes) (y : Nat) (k1 : Mil.name st = some (x, t1)) (k2 : Mil.want t1 Mil.sColon = some t2) (k3 : Mil.ftype t2 = some (y, t3)) (k4 : Mil.want t3 Mil.sIs = some t4) (hy : Mil.sees t4 Mil.sSemi = true)
    (w : World) (L : Laid a w) (h : RdS w b s st) :
    Calls Tryz.prog 32 #[.pointer (some ⟨b, 0, none⟩)] w (NoPost a b s t4 w) := by
  have H : Hid (RdS w b s st) := h
  have HL : Hid (Laid a w) := L
  have HY : Hid (Mil.sees t4 Mil.sSemi = true) := hy
  have C1 : Hid (Mil.name st = some (x, t1)) := k1
  have C2 : Hid (Mil.want t1 (bs Mil.sColon).data.toList = some t2) := k2
  have C3 : Hid (Mil.ftype t2 = some (y, t3)) := k3
  have C4 : Hid (Mil.want t3 (bs Mil.sIs).data.toList = some t4) := k4
  clear h L hy k1 k2 k3 k4
  go_enter Tryz.func32, Tryz.ntmps32
  go_wp2_with fail
  refine (name_any a b s st _ HL.out hb H.out hs).mono ?_
  rintro e w1 ⟨kk1, (⟨x1, s1, rfl, g1, r1⟩ | ⟨thr, hno⟩)⟩
  rotate_left
  · have hh := hno.symm.trans C1.out
    cases hh
  obtain ⟨rfl, rfl⟩ := Prod.mk.inj (Option.some.inj (C1.out.symm.trans g1))
  have hk1 := kk1
  clear kk1 g1
  go_wp2_with fail
  refine (want_any a b s t1 (bs Mil.sColon) _ (HL.out.kept hk1 hb) hb r1 hs).mono ?_
  rintro e w2 ⟨kk2, (⟨s2, rfl, g2, r2⟩ | ⟨thr, hno⟩)⟩
  rotate_left
  · have hh := hno.symm.trans C2.out
    cases hh
  obtain rfl := Option.some.inj (C2.out.symm.trans g2)
  have hk2 := hk1.trans kk2
  clear kk2 g2
  go_wp2_with fail
  refine (flowType_any a b s t2 _ (HL.out.kept hk2 hb) hb r2 hs).mono ?_
  rintro e w3 ⟨kk3, (⟨x3, s3, rfl, g3, r3⟩ | ⟨thr, hno⟩)⟩
  rotate_left
  · have hh := hno.symm.trans C3.out
    cases hh
  obtain ⟨rfl, rfl⟩ := Prod.mk.inj (Option.some.inj (C3.out.symm.trans g3))
  have hk3 := hk2.trans kk3
  clear kk3 g3
  go_wp2_with fail
  refine (want_any a b s t3 (bs Mil.sIs) _ (HL.out.kept hk3 hb) hb r3 hs).mono ?_
  rintro e w4 ⟨kk4, (⟨s4, rfl, g4, r4⟩ | ⟨thr, hno⟩)⟩
  rotate_left
  · have hh := hno.symm.trans C4.out
    cases hh
  obtain rfl := Option.some.inj (C4.out.symm.trans g4)
  have hk4 := hk3.trans kk4
  clear kk4 g4
  go_wp2_with fail
  refine (expression_no a b s _ HY.out _ (HL.out.kept hk4 hb) r4).mono ?_
  rintro e w5 ⟨kk5, ⟨d, rfl, hd⟩⟩
  go_wp2
  exact ⟨rfl, hk4.trans kk5, ⟨d, rfl, hd⟩⟩

set_option maxHeartbeats 1000000 in
theorem item_no (a : Nat → Addr) (b : Nat) (s : ByteArray) (hb : 23 ≤ b) (hs : s.size ≤ 4000) (st t1 t2 t3 t4 : Mil.St) (x : Mil.Bytes) (y : Nat) (n0 : Mil.sees st Mil.wInput = false) (n1 : Mil.sees st Mil.wOutput = false) (k1 : Mil.name st = some (x, t1)) (k2 : Mil.want t1 Mil.sColon = some t2) (k3 : Mil.ftype t2 = some (y, t3)) (k4 : Mil.want t3 Mil.sIs = some t4) (hy : Mil.sees t4 Mil.sSemi = true)
    (w : World) (L : Laid a w) (h : RdS w b s st) :
    Calls Tryz.prog 19 #[.pointer (some ⟨b, 0, none⟩)] w (NoPost a b s t4 w) := by
  have H : Hid (RdS w b s st) := h
  have HE : Hid (Calls Tryz.prog 32 #[.pointer (some ⟨b, 0, none⟩)] w (NoPost a b s t4 w)) := equation_no a b s hb hs st t1 t2 t3 t4 x y k1 k2 k3 k4 hy w L h
  have N0 : Hid (Mil.sees st (bs Mil.wInput).data.toList = false) := n0
  have N1 : Hid (Mil.sees st (bs Mil.wOutput).data.toList = false) := n1
  clear h L hy k1 k2 k3 k4 n0 n1
  go_enter Tryz.func19, Tryz.ntmps19
  go_wp2_with fail
  refine (takes_no b s st (bs Mil.wInput) _ H.out N0.out).mono ?_
  rintro e w1 ⟨rfl, hw⟩
  rw [hw]
  clear hw w1
  go_wp2_with fail
  refine (takes_no b s st (bs Mil.wOutput) _ H.out N1.out).mono ?_
  rintro e w1 ⟨rfl, hw⟩
  rw [hw]
  clear hw w1
  go_wp2_with fail
  refine HE.out.mono ?_
  rintro e w5 ⟨kk5, ⟨d, rfl, hd⟩⟩
  go_wp2
  exact ⟨rfl, kk5, ⟨d, rfl, hd⟩⟩

end Go.Proofs.YteheagaiphhhlaaGreatDoor
