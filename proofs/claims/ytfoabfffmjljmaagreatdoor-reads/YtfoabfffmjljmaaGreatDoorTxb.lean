/-
  operandText, by the text of its operand. (Printed by gen_print2.py.)
-/
import Derived.Test.YtfoabfffmjljmaaGreatDoorTxa
namespace Go.Proofs.YtfoabfffmjljmaaGreatDoor
open Go.RowKit

set_option maxHeartbeats 1000000 in
theorem ot_int (a : Nat → Addr) (k : Nat) (hlen : (Mil.txt (Mil.eInt k)).length ≤ 24000) (h : TC a (Mil.eInt k)) : OT a (Mil.eInt k) := by
  intro vv hvv w l hP
  have hvv' := hvv
  obtain ⟨u, rfl⟩ := evs_int hvv
  have HP : Hid (Pl a w) := hP
  have HT : Hid (∀ w, Pl a w → Calls Tryz.prog 132 #[.iface 173 (.agg #[.int .i64 u, .int .i64 (k : Nat)])] w (TxPost (Mil.txt (Mil.eInt k)) w)) := h _ hvv'
  have hm := me_int (.int .i64 u) (.int .i64 (k : Nat))
  have hsz : (bs (Mil.txt (Mil.eInt k))).size ≤ 24000 := by rw [bs_size]; exact hlen
  clear hP h hlen hvv hvv'
  show Calls Tryz.prog 138 #[.iface 173 (.agg #[.int .i64 u, .int .i64 (k : Nat)]), .int .i64 (l : Nat)] w _
  go_enter Tryz.func138, Tryz.ntmps138
  go_wp2_with fail
  refine (t_atom (.int .i64 u) _).mono ?_
  rintro e w1 ⟨he, hb1⟩
  obtain rfl : e = .returned (.int .i64 ((Mil.tight (Mil.eInt k) : Nat) : Int)) := he
  clear hm
  generalize htk : Mil.tight (Mil.eInt k) = tk
  have HTK : Hid (Mil.tight (Mil.eInt k) = tk) := htk
  clear htk
  by_cases hl : tk < l
  · have hi : (tk : Int) < (l : Int) := by omega
    have HL : Hid (tk < l) := hl
    clear hl
    go_wp2_with fail
    refine (HT.out _ (HP.out.below hb1)).mono ?_
    rintro e w2 ⟨rfl, hb2⟩
    go_wp2
    go_ret
    refine ⟨?_, below_step hb1 hb2⟩
    rw [Mil.brack, HTK.out, if_pos HL.out]
    show Ending.returned (.string (bs Mil.sOpen ++ bs (Mil.txt (Mil.eInt k)) ++ bs Mil.sShut)) = _
    rw [bs_add, bs_add]
  · have hi : ¬ (tk : Int) < (l : Int) := by omega
    have HL : Hid (¬ tk < l) := hl
    clear hl
    go_wp2_with fail
    refine (HT.out _ (HP.out.below hb1)).mono ?_
    rintro e w2 ⟨rfl, hb2⟩
    go_wp2
    go_ret
    refine ⟨?_, below_step hb1 hb2⟩
    rw [Mil.brack, HTK.out, if_neg HL.out]; rfl

set_option maxHeartbeats 1000000 in
theorem ot_bool (a : Nat → Addr) (k : Nat) (hlen : (Mil.txt (Mil.eBool k)).length ≤ 24000) (h : TC a (Mil.eBool k)) : OT a (Mil.eBool k) := by
  intro vv hvv w l hP
  have hvv' := hvv
  obtain ⟨u, rfl⟩ := evs_bool hvv
  have HP : Hid (Pl a w) := hP
  have HT : Hid (∀ w, Pl a w → Calls Tryz.prog 132 #[.iface 167 (.agg #[.int .i64 u, .bool (k == 1)])] w (TxPost (Mil.txt (Mil.eBool k)) w)) := h _ hvv'
  have hm := me_bool (.int .i64 u) (.bool (k == 1))
  have hsz : (bs (Mil.txt (Mil.eBool k))).size ≤ 24000 := by rw [bs_size]; exact hlen
  clear hP h hlen hvv hvv'
  show Calls Tryz.prog 138 #[.iface 167 (.agg #[.int .i64 u, .bool (k == 1)]), .int .i64 (l : Nat)] w _
  go_enter Tryz.func138, Tryz.ntmps138
  go_wp2_with fail
  refine (t_atom (.int .i64 u) _).mono ?_
  rintro e w1 ⟨he, hb1⟩
  obtain rfl : e = .returned (.int .i64 ((Mil.tight (Mil.eBool k) : Nat) : Int)) := he
  clear hm
  generalize htk : Mil.tight (Mil.eBool k) = tk
  have HTK : Hid (Mil.tight (Mil.eBool k) = tk) := htk
  clear htk
  by_cases hl : tk < l
  · have hi : (tk : Int) < (l : Int) := by omega
    have HL : Hid (tk < l) := hl
    clear hl
    go_wp2_with fail
    refine (HT.out _ (HP.out.below hb1)).mono ?_
    rintro e w2 ⟨rfl, hb2⟩
    go_wp2
    go_ret
    refine ⟨?_, below_step hb1 hb2⟩
    rw [Mil.brack, HTK.out, if_pos HL.out]
    show Ending.returned (.string (bs Mil.sOpen ++ bs (Mil.txt (Mil.eBool k)) ++ bs Mil.sShut)) = _
    rw [bs_add, bs_add]
  · have hi : ¬ (tk : Int) < (l : Int) := by omega
    have HL : Hid (¬ tk < l) := hl
    clear hl
    go_wp2_with fail
    refine (HT.out _ (HP.out.below hb1)).mono ?_
    rintro e w2 ⟨rfl, hb2⟩
    go_wp2
    go_ret
    refine ⟨?_, below_step hb1 hb2⟩
    rw [Mil.brack, HTK.out, if_neg HL.out]; rfl

set_option maxHeartbeats 1000000 in
theorem ot_name (a : Nat → Addr) (x : Mil.Bytes) (hlen : (Mil.txt (Mil.eName x)).length ≤ 24000) (h : TC a (Mil.eName x)) : OT a (Mil.eName x) := by
  intro vv hvv w l hP
  have hvv' := hvv
  obtain ⟨u, rfl⟩ := evs_name hvv
  have HP : Hid (Pl a w) := hP
  have HT : Hid (∀ w, Pl a w → Calls Tryz.prog 132 #[.iface 106 (.agg #[.int .i64 u, .string (bs x)])] w (TxPost (Mil.txt (Mil.eName x)) w)) := h _ hvv'
  have hm := me_name (.int .i64 u) (.string (bs x))
  have hsz : (bs (Mil.txt (Mil.eName x))).size ≤ 24000 := by rw [bs_size]; exact hlen
  clear hP h hlen hvv hvv'
  show Calls Tryz.prog 138 #[.iface 106 (.agg #[.int .i64 u, .string (bs x)]), .int .i64 (l : Nat)] w _
  go_enter Tryz.func138, Tryz.ntmps138
  go_wp2_with fail
  refine (t_atom (.int .i64 u) _).mono ?_
  rintro e w1 ⟨he, hb1⟩
  obtain rfl : e = .returned (.int .i64 ((Mil.tight (Mil.eName x) : Nat) : Int)) := he
  clear hm
  generalize htk : Mil.tight (Mil.eName x) = tk
  have HTK : Hid (Mil.tight (Mil.eName x) = tk) := htk
  clear htk
  by_cases hl : tk < l
  · have hi : (tk : Int) < (l : Int) := by omega
    have HL : Hid (tk < l) := hl
    clear hl
    go_wp2_with fail
    refine (HT.out _ (HP.out.below hb1)).mono ?_
    rintro e w2 ⟨rfl, hb2⟩
    go_wp2
    go_ret
    refine ⟨?_, below_step hb1 hb2⟩
    rw [Mil.brack, HTK.out, if_pos HL.out]
    show Ending.returned (.string (bs Mil.sOpen ++ bs (Mil.txt (Mil.eName x)) ++ bs Mil.sShut)) = _
    rw [bs_add, bs_add]
  · have hi : ¬ (tk : Int) < (l : Int) := by omega
    have HL : Hid (¬ tk < l) := hl
    clear hl
    go_wp2_with fail
    refine (HT.out _ (HP.out.below hb1)).mono ?_
    rintro e w2 ⟨rfl, hb2⟩
    go_wp2
    go_ret
    refine ⟨?_, below_step hb1 hb2⟩
    rw [Mil.brack, HTK.out, if_neg HL.out]; rfl

set_option maxHeartbeats 1000000 in
theorem ot_pre (a : Nat → Addr) (x : Mil.Bytes) (p : Mil.E) (hlen : (Mil.txt (Mil.ePre x p)).length ≤ 24000) (h : TC a (Mil.ePre x p)) : OT a (Mil.ePre x p) := by
  intro vv hvv w l hP
  have hvv' := hvv
  obtain ⟨u, vp, rfl, hep⟩ := evs_pre hvv
  have HP : Hid (Pl a w) := hP
  have HT : Hid (∀ w, Pl a w → Calls Tryz.prog 132 #[.iface 136 (.agg #[.int .i64 u, .string (bs x), vp])] w (TxPost (Mil.txt (Mil.ePre x p)) w)) := h _ hvv'
  have hm := me_pre
  have hsz : (bs (Mil.txt (Mil.ePre x p))).size ≤ 24000 := by rw [bs_size]; exact hlen
  clear hP h hlen hvv hvv' hep
  show Calls Tryz.prog 138 #[.iface 136 (.agg #[.int .i64 u, .string (bs x), vp]), .int .i64 (l : Nat)] w _
  go_enter Tryz.func138, Tryz.ntmps138
  go_wp2_with fail
  refine (t_pre u x vp _).mono ?_
  rintro e w1 ⟨he, hb1⟩
  obtain rfl : e = .returned (.int .i64 ((Mil.tight (Mil.ePre x p) : Nat) : Int)) := he
  clear hm
  generalize htk : Mil.tight (Mil.ePre x p) = tk
  have HTK : Hid (Mil.tight (Mil.ePre x p) = tk) := htk
  clear htk
  by_cases hl : tk < l
  · have hi : (tk : Int) < (l : Int) := by omega
    have HL : Hid (tk < l) := hl
    clear hl
    go_wp2_with fail
    refine (HT.out _ (HP.out.below hb1)).mono ?_
    rintro e w2 ⟨rfl, hb2⟩
    go_wp2
    go_ret
    refine ⟨?_, below_step hb1 hb2⟩
    rw [Mil.brack, HTK.out, if_pos HL.out]
    show Ending.returned (.string (bs Mil.sOpen ++ bs (Mil.txt (Mil.ePre x p)) ++ bs Mil.sShut)) = _
    rw [bs_add, bs_add]
  · have hi : ¬ (tk : Int) < (l : Int) := by omega
    have HL : Hid (¬ tk < l) := hl
    clear hl
    go_wp2_with fail
    refine (HT.out _ (HP.out.below hb1)).mono ?_
    rintro e w2 ⟨rfl, hb2⟩
    go_wp2
    go_ret
    refine ⟨?_, below_step hb1 hb2⟩
    rw [Mil.brack, HTK.out, if_neg HL.out]; rfl

set_option maxHeartbeats 1000000 in
theorem ot_two (a : Nat → Addr) (x : Mil.Bytes) (p q : Mil.E) (hx : Mil.tightOf x ≠ 9) (hlen : (Mil.txt (Mil.eTwo x p q)).length ≤ 24000) (h : TC a (Mil.eTwo x p q)) : OT a (Mil.eTwo x p q) := by
  intro vv hvv w l hP
  have hvv' := hvv
  obtain ⟨u, vp, vq, rfl, hep, heq⟩ := evs_two hvv
  have HP : Hid (Pl a w) := hP
  have HT : Hid (∀ w, Pl a w → Calls Tryz.prog 132 #[.iface 139 (.agg #[.int .i64 u, .string (bs x), vp, vq])] w (TxPost (Mil.txt (Mil.eTwo x p q)) w)) := h _ hvv'
  have hm := me_two
  have hsz : (bs (Mil.txt (Mil.eTwo x p q))).size ≤ 24000 := by rw [bs_size]; exact hlen
  clear hP h hlen hvv hvv' hep heq
  show Calls Tryz.prog 138 #[.iface 139 (.agg #[.int .i64 u, .string (bs x), vp, vq]), .int .i64 (l : Nat)] w _
  go_enter Tryz.func138, Tryz.ntmps138
  go_wp2_with fail
  refine (t_two a u x hx vp vq _ HP.out).mono ?_
  rintro e w1 ⟨he, hb1⟩
  obtain rfl : e = .returned (.int .i64 ((Mil.tight (Mil.eTwo x p q) : Nat) : Int)) := he
  clear hm
  generalize htk : Mil.tight (Mil.eTwo x p q) = tk
  have HTK : Hid (Mil.tight (Mil.eTwo x p q) = tk) := htk
  clear htk
  by_cases hl : tk < l
  · have hi : (tk : Int) < (l : Int) := by omega
    have HL : Hid (tk < l) := hl
    clear hl
    go_wp2_with fail
    refine (HT.out _ (HP.out.below hb1)).mono ?_
    rintro e w2 ⟨rfl, hb2⟩
    go_wp2
    go_ret
    refine ⟨?_, below_step hb1 hb2⟩
    rw [Mil.brack, HTK.out, if_pos HL.out]
    show Ending.returned (.string (bs Mil.sOpen ++ bs (Mil.txt (Mil.eTwo x p q)) ++ bs Mil.sShut)) = _
    rw [bs_add, bs_add]
  · have hi : ¬ (tk : Int) < (l : Int) := by omega
    have HL : Hid (¬ tk < l) := hl
    clear hl
    go_wp2_with fail
    refine (HT.out _ (HP.out.below hb1)).mono ?_
    rintro e w2 ⟨rfl, hb2⟩
    go_wp2
    go_ret
    refine ⟨?_, below_step hb1 hb2⟩
    rw [Mil.brack, HTK.out, if_neg HL.out]; rfl

set_option maxHeartbeats 1000000 in
theorem ot_if (a : Nat → Addr) (p q r : Mil.E) (hlen : (Mil.txt (Mil.eIf p q r)).length ≤ 24000) (h : TC a (Mil.eIf p q r)) : OT a (Mil.eIf p q r) := by
  intro vv hvv w l hP
  have hvv' := hvv
  obtain ⟨u, vp, vq, vr, rfl, hep, heq, her⟩ := evs_if hvv
  have HP : Hid (Pl a w) := hP
  have HT : Hid (∀ w, Pl a w → Calls Tryz.prog 132 #[.iface 133 (.agg #[.int .i64 u, vp, vq, vr])] w (TxPost (Mil.txt (Mil.eIf p q r)) w)) := h _ hvv'
  have hm := me_if
  have hsz : (bs (Mil.txt (Mil.eIf p q r))).size ≤ 24000 := by rw [bs_size]; exact hlen
  clear hP h hlen hvv hvv' hep heq her
  show Calls Tryz.prog 138 #[.iface 133 (.agg #[.int .i64 u, vp, vq, vr]), .int .i64 (l : Nat)] w _
  go_enter Tryz.func138, Tryz.ntmps138
  go_wp2_with fail
  refine (t_if (.int .i64 u) vp vq vr _).mono ?_
  rintro e w1 ⟨he, hb1⟩
  obtain rfl : e = .returned (.int .i64 ((Mil.tight (Mil.eIf p q r) : Nat) : Int)) := he
  clear hm
  generalize htk : Mil.tight (Mil.eIf p q r) = tk
  have HTK : Hid (Mil.tight (Mil.eIf p q r) = tk) := htk
  clear htk
  by_cases hl : tk < l
  · have hi : (tk : Int) < (l : Int) := by omega
    have HL : Hid (tk < l) := hl
    clear hl
    go_wp2_with fail
    refine (HT.out _ (HP.out.below hb1)).mono ?_
    rintro e w2 ⟨rfl, hb2⟩
    go_wp2
    go_ret
    refine ⟨?_, below_step hb1 hb2⟩
    rw [Mil.brack, HTK.out, if_pos HL.out]
    show Ending.returned (.string (bs Mil.sOpen ++ bs (Mil.txt (Mil.eIf p q r)) ++ bs Mil.sShut)) = _
    rw [bs_add, bs_add]
  · have hi : ¬ (tk : Int) < (l : Int) := by omega
    have HL : Hid (¬ tk < l) := hl
    clear hl
    go_wp2_with fail
    refine (HT.out _ (HP.out.below hb1)).mono ?_
    rintro e w2 ⟨rfl, hb2⟩
    go_wp2
    go_ret
    refine ⟨?_, below_step hb1 hb2⟩
    rw [Mil.brack, HTK.out, if_neg HL.out]; rfl

set_option maxHeartbeats 1000000 in
theorem ot_fby (a : Nat → Addr) (p q : Mil.E) (hlen : (Mil.txt (Mil.eFby p q)).length ≤ 24000) (h : TC a (Mil.eFby p q)) : OT a (Mil.eFby p q) := by
  intro vv hvv w l hP
  have hvv' := hvv
  obtain ⟨u, vp, vq, rfl, hep, heq⟩ := evs_fby hvv
  have HP : Hid (Pl a w) := hP
  have HT : Hid (∀ w, Pl a w → Calls Tryz.prog 132 #[.iface 159 (.agg #[.int .i64 u, vp, vq])] w (TxPost (Mil.txt (Mil.eFby p q)) w)) := h _ hvv'
  have hm := me_fby (.int .i64 u) (vp) (vq)
  have hsz : (bs (Mil.txt (Mil.eFby p q))).size ≤ 24000 := by rw [bs_size]; exact hlen
  clear hP h hlen hvv hvv' hep heq
  show Calls Tryz.prog 138 #[.iface 159 (.agg #[.int .i64 u, vp, vq]), .int .i64 (l : Nat)] w _
  go_enter Tryz.func138, Tryz.ntmps138
  go_wp2_with fail
  refine (t_atom (.int .i64 u) _).mono ?_
  rintro e w1 ⟨he, hb1⟩
  obtain rfl : e = .returned (.int .i64 ((Mil.tight (Mil.eFby p q) : Nat) : Int)) := he
  clear hm
  generalize htk : Mil.tight (Mil.eFby p q) = tk
  have HTK : Hid (Mil.tight (Mil.eFby p q) = tk) := htk
  clear htk
  by_cases hl : tk < l
  · have hi : (tk : Int) < (l : Int) := by omega
    have HL : Hid (tk < l) := hl
    clear hl
    go_wp2_with fail
    refine (HT.out _ (HP.out.below hb1)).mono ?_
    rintro e w2 ⟨rfl, hb2⟩
    go_wp2
    go_ret
    refine ⟨?_, below_step hb1 hb2⟩
    rw [Mil.brack, HTK.out, if_pos HL.out]
    show Ending.returned (.string (bs Mil.sOpen ++ bs (Mil.txt (Mil.eFby p q)) ++ bs Mil.sShut)) = _
    rw [bs_add, bs_add]
  · have hi : ¬ (tk : Int) < (l : Int) := by omega
    have HL : Hid (¬ tk < l) := hl
    clear hl
    go_wp2_with fail
    refine (HT.out _ (HP.out.below hb1)).mono ?_
    rintro e w2 ⟨rfl, hb2⟩
    go_wp2
    go_ret
    refine ⟨?_, below_step hb1 hb2⟩
    rw [Mil.brack, HTK.out, if_neg HL.out]; rfl

set_option maxHeartbeats 1000000 in
theorem ot_under (a : Nat → Addr) (p : Mil.E) (k : Nat) (hlen : (Mil.txt (Mil.eUnder p k)).length ≤ 24000) (h : TC a (Mil.eUnder p k)) : OT a (Mil.eUnder p k) := by
  intro vv hvv w l hP
  have hvv' := hvv
  obtain ⟨u, vp, rfl, hep⟩ := evs_under hvv
  have HP : Hid (Pl a w) := hP
  have HT : Hid (∀ w, Pl a w → Calls Tryz.prog 132 #[.iface 161 (.agg #[.int .i64 u, vp, .int .i64 (k : Nat)])] w (TxPost (Mil.txt (Mil.eUnder p k)) w)) := h _ hvv'
  have hm := me_under (.int .i64 u) (vp) (.int .i64 (k : Nat))
  have hsz : (bs (Mil.txt (Mil.eUnder p k))).size ≤ 24000 := by rw [bs_size]; exact hlen
  clear hP h hlen hvv hvv' hep
  show Calls Tryz.prog 138 #[.iface 161 (.agg #[.int .i64 u, vp, .int .i64 (k : Nat)]), .int .i64 (l : Nat)] w _
  go_enter Tryz.func138, Tryz.ntmps138
  go_wp2_with fail
  refine (t_atom (.int .i64 u) _).mono ?_
  rintro e w1 ⟨he, hb1⟩
  obtain rfl : e = .returned (.int .i64 ((Mil.tight (Mil.eUnder p k) : Nat) : Int)) := he
  clear hm
  generalize htk : Mil.tight (Mil.eUnder p k) = tk
  have HTK : Hid (Mil.tight (Mil.eUnder p k) = tk) := htk
  clear htk
  by_cases hl : tk < l
  · have hi : (tk : Int) < (l : Int) := by omega
    have HL : Hid (tk < l) := hl
    clear hl
    go_wp2_with fail
    refine (HT.out _ (HP.out.below hb1)).mono ?_
    rintro e w2 ⟨rfl, hb2⟩
    go_wp2
    go_ret
    refine ⟨?_, below_step hb1 hb2⟩
    rw [Mil.brack, HTK.out, if_pos HL.out]
    show Ending.returned (.string (bs Mil.sOpen ++ bs (Mil.txt (Mil.eUnder p k)) ++ bs Mil.sShut)) = _
    rw [bs_add, bs_add]
  · have hi : ¬ (tk : Int) < (l : Int) := by omega
    have HL : Hid (¬ tk < l) := hl
    clear hl
    go_wp2_with fail
    refine (HT.out _ (HP.out.below hb1)).mono ?_
    rintro e w2 ⟨rfl, hb2⟩
    go_wp2
    go_ret
    refine ⟨?_, below_step hb1 hb2⟩
    rw [Mil.brack, HTK.out, if_neg HL.out]; rfl

set_option maxHeartbeats 1000000 in
theorem ot_hold (a : Nat → Addr) (p q : Mil.E) (k : Nat) (hlen : (Mil.txt (Mil.eHold p q k)).length ≤ 24000) (h : TC a (Mil.eHold p q k)) : OT a (Mil.eHold p q k) := by
  intro vv hvv w l hP
  have hvv' := hvv
  obtain ⟨u, vp, vq, rfl, hep, heq⟩ := evs_hold hvv
  have HP : Hid (Pl a w) := hP
  have HT : Hid (∀ w, Pl a w → Calls Tryz.prog 132 #[.iface 163 (.agg #[.int .i64 u, vp, vq, .int .i64 (k : Nat)])] w (TxPost (Mil.txt (Mil.eHold p q k)) w)) := h _ hvv'
  have hm := me_hold (.int .i64 u) (vp) (vq) (.int .i64 (k : Nat))
  have hsz : (bs (Mil.txt (Mil.eHold p q k))).size ≤ 24000 := by rw [bs_size]; exact hlen
  clear hP h hlen hvv hvv' hep heq
  show Calls Tryz.prog 138 #[.iface 163 (.agg #[.int .i64 u, vp, vq, .int .i64 (k : Nat)]), .int .i64 (l : Nat)] w _
  go_enter Tryz.func138, Tryz.ntmps138
  go_wp2_with fail
  refine (t_atom (.int .i64 u) _).mono ?_
  rintro e w1 ⟨he, hb1⟩
  obtain rfl : e = .returned (.int .i64 ((Mil.tight (Mil.eHold p q k) : Nat) : Int)) := he
  clear hm
  generalize htk : Mil.tight (Mil.eHold p q k) = tk
  have HTK : Hid (Mil.tight (Mil.eHold p q k) = tk) := htk
  clear htk
  by_cases hl : tk < l
  · have hi : (tk : Int) < (l : Int) := by omega
    have HL : Hid (tk < l) := hl
    clear hl
    go_wp2_with fail
    refine (HT.out _ (HP.out.below hb1)).mono ?_
    rintro e w2 ⟨rfl, hb2⟩
    go_wp2
    go_ret
    refine ⟨?_, below_step hb1 hb2⟩
    rw [Mil.brack, HTK.out, if_pos HL.out]
    show Ending.returned (.string (bs Mil.sOpen ++ bs (Mil.txt (Mil.eHold p q k)) ++ bs Mil.sShut)) = _
    rw [bs_add, bs_add]
  · have hi : ¬ (tk : Int) < (l : Int) := by omega
    have HL : Hid (¬ tk < l) := hl
    clear hl
    go_wp2_with fail
    refine (HT.out _ (HP.out.below hb1)).mono ?_
    rintro e w2 ⟨rfl, hb2⟩
    go_wp2
    go_ret
    refine ⟨?_, below_step hb1 hb2⟩
    rw [Mil.brack, HTK.out, if_neg HL.out]; rfl

set_option maxHeartbeats 1000000 in
theorem ot_least (a : Nat → Addr) (x : Mil.Bytes) (p q : Mil.E) (hlen : (Mil.txt (Mil.eLeast x p q)).length ≤ 24000) (h : TC a (Mil.eLeast x p q)) : OT a (Mil.eLeast x p q) := by
  intro vv hvv w l hP
  have hvv' := hvv
  obtain ⟨u, vp, vq, rfl, hep, heq⟩ := evs_least hvv
  have HP : Hid (Pl a w) := hP
  have HT : Hid (∀ w, Pl a w → Calls Tryz.prog 132 #[.iface 165 (.agg #[.int .i64 u, .string (bs x), vp, vq])] w (TxPost (Mil.txt (Mil.eLeast x p q)) w)) := h _ hvv'
  have hm := me_least (.int .i64 u) (.string (bs x)) (vp) (vq)
  have hsz : (bs (Mil.txt (Mil.eLeast x p q))).size ≤ 24000 := by rw [bs_size]; exact hlen
  clear hP h hlen hvv hvv' hep heq
  show Calls Tryz.prog 138 #[.iface 165 (.agg #[.int .i64 u, .string (bs x), vp, vq]), .int .i64 (l : Nat)] w _
  go_enter Tryz.func138, Tryz.ntmps138
  go_wp2_with fail
  refine (t_atom (.int .i64 u) _).mono ?_
  rintro e w1 ⟨he, hb1⟩
  obtain rfl : e = .returned (.int .i64 ((Mil.tight (Mil.eLeast x p q) : Nat) : Int)) := he
  clear hm
  generalize htk : Mil.tight (Mil.eLeast x p q) = tk
  have HTK : Hid (Mil.tight (Mil.eLeast x p q) = tk) := htk
  clear htk
  by_cases hl : tk < l
  · have hi : (tk : Int) < (l : Int) := by omega
    have HL : Hid (tk < l) := hl
    clear hl
    go_wp2_with fail
    refine (HT.out _ (HP.out.below hb1)).mono ?_
    rintro e w2 ⟨rfl, hb2⟩
    go_wp2
    go_ret
    refine ⟨?_, below_step hb1 hb2⟩
    rw [Mil.brack, HTK.out, if_pos HL.out]
    show Ending.returned (.string (bs Mil.sOpen ++ bs (Mil.txt (Mil.eLeast x p q)) ++ bs Mil.sShut)) = _
    rw [bs_add, bs_add]
  · have hi : ¬ (tk : Int) < (l : Int) := by omega
    have HL : Hid (¬ tk < l) := hl
    clear hl
    go_wp2_with fail
    refine (HT.out _ (HP.out.below hb1)).mono ?_
    rintro e w2 ⟨rfl, hb2⟩
    go_wp2
    go_ret
    refine ⟨?_, below_step hb1 hb2⟩
    rw [Mil.brack, HTK.out, if_neg HL.out]; rfl

end Go.Proofs.YtfoabfffmjljmaaGreatDoor
