/-
  operandText, by the text of its operand. (Printed by gen_reads.py.)
-/
import Derived.Test.YteheagaiphhhlaaGreatDoorTxa
namespace Go.Proofs.YteheagaiphhhlaaGreatDoor
open Go.RowKit

set_option maxHeartbeats 1000000 in
theorem ot_int (a : Nat → Addr) (k : Nat) (hlen : (Mil.txt (Mil.eInt k)).length ≤ 24000) (h : TC a (Mil.eInt k)) : OT a (Mil.eInt k) := by
  intro w l hP
  have HP : Hid (Pl a w) := hP
  have HT : Hid (∀ w, Pl a w → Calls Tryz.prog 128 #[.iface 161 (.agg #[.int .i64 (k : Nat)])] w (TxPost (Mil.txt (Mil.eInt k)) w)) := h
  have hm := me_int (.int .i64 (k : Nat))
  have hsz : (bs (Mil.txt (Mil.eInt k))).size ≤ 24000 := by rw [bs_size]; exact hlen
  clear hP h hlen
  show Calls Tryz.prog 134 #[.iface 161 (.agg #[.int .i64 (k : Nat)]), .int .i64 (l : Nat)] w _
  go_enter Tryz.func134, Tryz.ntmps134
  go_wp2_with fail
  refine (t_atom _).mono ?_
  rintro e w1 ⟨he, hb1⟩
  obtain rfl : e = .returned (.int .i64 ((Mil.tight (Mil.eInt k) : Nat) : Int)) := he
  clear hm
  generalize htk : Mil.tight (Mil.eInt k) = tk
  have HTK : Hid (Mil.tight (Mil.eInt k) = tk) := htk
  clear htk
  by_cases hl : tk < l
  · have hi : (tk : Int) < (l : Int) := by omega
    have HL : Hid (tk < l) := hl
    clear hl
    go_wp2_with fail
    refine (HT.out _ (HP.out.below hb1)).mono ?_
    rintro e w2 ⟨rfl, hb2⟩
    go_wp2
    go_ret
    refine ⟨?_, below_step hb1 hb2⟩
    rw [Mil.brack, HTK.out, if_pos HL.out]
    show Ending.returned (.string (bs Mil.sOpen ++ bs (Mil.txt (Mil.eInt k)) ++ bs Mil.sShut)) = _
    rw [bs_add, bs_add]
  · have hi : ¬ (tk : Int) < (l : Int) := by omega
    have HL : Hid (¬ tk < l) := hl
    clear hl
    go_wp2_with fail
    refine (HT.out _ (HP.out.below hb1)).mono ?_
    rintro e w2 ⟨rfl, hb2⟩
    go_wp2
    go_ret
    refine ⟨?_, below_step hb1 hb2⟩
    rw [Mil.brack, HTK.out, if_neg HL.out]; rfl

set_option maxHeartbeats 1000000 in
theorem ot_bool (a : Nat → Addr) (k : Nat) (hlen : (Mil.txt (Mil.eBool k)).length ≤ 24000) (h : TC a (Mil.eBool k)) : OT a (Mil.eBool k) := by
  intro w l hP
  have HP : Hid (Pl a w) := hP
  have HT : Hid (∀ w, Pl a w → Calls Tryz.prog 128 #[.iface 159 (.agg #[.bool (k == 1)])] w (TxPost (Mil.txt (Mil.eBool k)) w)) := h
  have hm := me_bool (.bool (k == 1))
  have hsz : (bs (Mil.txt (Mil.eBool k))).size ≤ 24000 := by rw [bs_size]; exact hlen
  clear hP h hlen
  show Calls Tryz.prog 134 #[.iface 159 (.agg #[.bool (k == 1)]), .int .i64 (l : Nat)] w _
  go_enter Tryz.func134, Tryz.ntmps134
  go_wp2_with fail
  refine (t_atom _).mono ?_
  rintro e w1 ⟨he, hb1⟩
  obtain rfl : e = .returned (.int .i64 ((Mil.tight (Mil.eBool k) : Nat) : Int)) := he
  clear hm
  generalize htk : Mil.tight (Mil.eBool k) = tk
  have HTK : Hid (Mil.tight (Mil.eBool k) = tk) := htk
  clear htk
  by_cases hl : tk < l
  · have hi : (tk : Int) < (l : Int) := by omega
    have HL : Hid (tk < l) := hl
    clear hl
    go_wp2_with fail
    refine (HT.out _ (HP.out.below hb1)).mono ?_
    rintro e w2 ⟨rfl, hb2⟩
    go_wp2
    go_ret
    refine ⟨?_, below_step hb1 hb2⟩
    rw [Mil.brack, HTK.out, if_pos HL.out]
    show Ending.returned (.string (bs Mil.sOpen ++ bs (Mil.txt (Mil.eBool k)) ++ bs Mil.sShut)) = _
    rw [bs_add, bs_add]
  · have hi : ¬ (tk : Int) < (l : Int) := by omega
    have HL : Hid (¬ tk < l) := hl
    clear hl
    go_wp2_with fail
    refine (HT.out _ (HP.out.below hb1)).mono ?_
    rintro e w2 ⟨rfl, hb2⟩
    go_wp2
    go_ret
    refine ⟨?_, below_step hb1 hb2⟩
    rw [Mil.brack, HTK.out, if_neg HL.out]; rfl

set_option maxHeartbeats 1000000 in
theorem ot_name (a : Nat → Addr) (x : Mil.Bytes) (hlen : (Mil.txt (Mil.eName x)).length ≤ 24000) (h : TC a (Mil.eName x)) : OT a (Mil.eName x) := by
  intro w l hP
  have HP : Hid (Pl a w) := hP
  have HT : Hid (∀ w, Pl a w → Calls Tryz.prog 128 #[.iface 142 (.agg #[.string (bs x)])] w (TxPost (Mil.txt (Mil.eName x)) w)) := h
  have hm := me_name (.string (bs x))
  have hsz : (bs (Mil.txt (Mil.eName x))).size ≤ 24000 := by rw [bs_size]; exact hlen
  clear hP h hlen
  show Calls Tryz.prog 134 #[.iface 142 (.agg #[.string (bs x)]), .int .i64 (l : Nat)] w _
  go_enter Tryz.func134, Tryz.ntmps134
  go_wp2_with fail
  refine (t_atom _).mono ?_
  rintro e w1 ⟨he, hb1⟩
  obtain rfl : e = .returned (.int .i64 ((Mil.tight (Mil.eName x) : Nat) : Int)) := he
  clear hm
  generalize htk : Mil.tight (Mil.eName x) = tk
  have HTK : Hid (Mil.tight (Mil.eName x) = tk) := htk
  clear htk
  by_cases hl : tk < l
  · have hi : (tk : Int) < (l : Int) := by omega
    have HL : Hid (tk < l) := hl
    clear hl
    go_wp2_with fail
    refine (HT.out _ (HP.out.below hb1)).mono ?_
    rintro e w2 ⟨rfl, hb2⟩
    go_wp2
    go_ret
    refine ⟨?_, below_step hb1 hb2⟩
    rw [Mil.brack, HTK.out, if_pos HL.out]
    show Ending.returned (.string (bs Mil.sOpen ++ bs (Mil.txt (Mil.eName x)) ++ bs Mil.sShut)) = _
    rw [bs_add, bs_add]
  · have hi : ¬ (tk : Int) < (l : Int) := by omega
    have HL : Hid (¬ tk < l) := hl
    clear hl
    go_wp2_with fail
    refine (HT.out _ (HP.out.below hb1)).mono ?_
    rintro e w2 ⟨rfl, hb2⟩
    go_wp2
    go_ret
    refine ⟨?_, below_step hb1 hb2⟩
    rw [Mil.brack, HTK.out, if_neg HL.out]; rfl

set_option maxHeartbeats 1000000 in
theorem ot_pre (a : Nat → Addr) (x : Mil.Bytes) (p : Mil.E) (hlen : (Mil.txt (Mil.ePre x p)).length ≤ 24000) (h : TC a (Mil.ePre x p)) : OT a (Mil.ePre x p) := by
  intro w l hP
  have HP : Hid (Pl a w) := hP
  have HT : Hid (∀ w, Pl a w → Calls Tryz.prog 128 #[.iface 127 (.agg #[.string (bs x), ev p])] w (TxPost (Mil.txt (Mil.ePre x p)) w)) := h
  have hm := me_pre
  have hsz : (bs (Mil.txt (Mil.ePre x p))).size ≤ 24000 := by rw [bs_size]; exact hlen
  clear hP h hlen
  show Calls Tryz.prog 134 #[.iface 127 (.agg #[.string (bs x), ev p]), .int .i64 (l : Nat)] w _
  go_enter Tryz.func134, Tryz.ntmps134
  go_wp2_with fail
  refine (t_pre x (ev p) _).mono ?_
  rintro e w1 ⟨he, hb1⟩
  obtain rfl : e = .returned (.int .i64 ((Mil.tight (Mil.ePre x p) : Nat) : Int)) := he
  clear hm
  generalize htk : Mil.tight (Mil.ePre x p) = tk
  have HTK : Hid (Mil.tight (Mil.ePre x p) = tk) := htk
  clear htk
  by_cases hl : tk < l
  · have hi : (tk : Int) < (l : Int) := by omega
    have HL : Hid (tk < l) := hl
    clear hl
    go_wp2_with fail
    refine (HT.out _ (HP.out.below hb1)).mono ?_
    rintro e w2 ⟨rfl, hb2⟩
    go_wp2
    go_ret
    refine ⟨?_, below_step hb1 hb2⟩
    rw [Mil.brack, HTK.out, if_pos HL.out]
    show Ending.returned (.string (bs Mil.sOpen ++ bs (Mil.txt (Mil.ePre x p)) ++ bs Mil.sShut)) = _
    rw [bs_add, bs_add]
  · have hi : ¬ (tk : Int) < (l : Int) := by omega
    have HL : Hid (¬ tk < l) := hl
    clear hl
    go_wp2_with fail
    refine (HT.out _ (HP.out.below hb1)).mono ?_
    rintro e w2 ⟨rfl, hb2⟩
    go_wp2
    go_ret
    refine ⟨?_, below_step hb1 hb2⟩
    rw [Mil.brack, HTK.out, if_neg HL.out]; rfl

set_option maxHeartbeats 1000000 in
theorem ot_two (a : Nat → Addr) (x : Mil.Bytes) (p q : Mil.E) (hx : Mil.tightOf x ≠ 9) (hlen : (Mil.txt (Mil.eTwo x p q)).length ≤ 24000) (h : TC a (Mil.eTwo x p q)) : OT a (Mil.eTwo x p q) := by
  intro w l hP
  have HP : Hid (Pl a w) := hP
  have HT : Hid (∀ w, Pl a w → Calls Tryz.prog 128 #[.iface 130 (.agg #[.string (bs x), ev p, ev q])] w (TxPost (Mil.txt (Mil.eTwo x p q)) w)) := h
  have hm := me_two
  have hsz : (bs (Mil.txt (Mil.eTwo x p q))).size ≤ 24000 := by rw [bs_size]; exact hlen
  clear hP h hlen
  show Calls Tryz.prog 134 #[.iface 130 (.agg #[.string (bs x), ev p, ev q]), .int .i64 (l : Nat)] w _
  go_enter Tryz.func134, Tryz.ntmps134
  go_wp2_with fail
  refine (t_two a x hx (ev p) (ev q) _ HP.out).mono ?_
  rintro e w1 ⟨he, hb1⟩
  obtain rfl : e = .returned (.int .i64 ((Mil.tight (Mil.eTwo x p q) : Nat) : Int)) := he
  clear hm
  generalize htk : Mil.tight (Mil.eTwo x p q) = tk
  have HTK : Hid (Mil.tight (Mil.eTwo x p q) = tk) := htk
  clear htk
  by_cases hl : tk < l
  · have hi : (tk : Int) < (l : Int) := by omega
    have HL : Hid (tk < l) := hl
    clear hl
    go_wp2_with fail
    refine (HT.out _ (HP.out.below hb1)).mono ?_
    rintro e w2 ⟨rfl, hb2⟩
    go_wp2
    go_ret
    refine ⟨?_, below_step hb1 hb2⟩
    rw [Mil.brack, HTK.out, if_pos HL.out]
    show Ending.returned (.string (bs Mil.sOpen ++ bs (Mil.txt (Mil.eTwo x p q)) ++ bs Mil.sShut)) = _
    rw [bs_add, bs_add]
  · have hi : ¬ (tk : Int) < (l : Int) := by omega
    have HL : Hid (¬ tk < l) := hl
    clear hl
    go_wp2_with fail
    refine (HT.out _ (HP.out.below hb1)).mono ?_
    rintro e w2 ⟨rfl, hb2⟩
    go_wp2
    go_ret
    refine ⟨?_, below_step hb1 hb2⟩
    rw [Mil.brack, HTK.out, if_neg HL.out]; rfl

set_option maxHeartbeats 1000000 in
theorem ot_if (a : Nat → Addr) (p q r : Mil.E) (hlen : (Mil.txt (Mil.eIf p q r)).length ≤ 24000) (h : TC a (Mil.eIf p q r)) : OT a (Mil.eIf p q r) := by
  intro w l hP
  have HP : Hid (Pl a w) := hP
  have HT : Hid (∀ w, Pl a w → Calls Tryz.prog 128 #[.iface 124 (.agg #[ev p, ev q, ev r])] w (TxPost (Mil.txt (Mil.eIf p q r)) w)) := h
  have hm := me_if
  have hsz : (bs (Mil.txt (Mil.eIf p q r))).size ≤ 24000 := by rw [bs_size]; exact hlen
  clear hP h hlen
  show Calls Tryz.prog 134 #[.iface 124 (.agg #[ev p, ev q, ev r]), .int .i64 (l : Nat)] w _
  go_enter Tryz.func134, Tryz.ntmps134
  go_wp2_with fail
  refine (t_if (ev p) (ev q) (ev r) _).mono ?_
  rintro e w1 ⟨he, hb1⟩
  obtain rfl : e = .returned (.int .i64 ((Mil.tight (Mil.eIf p q r) : Nat) : Int)) := he
  clear hm
  generalize htk : Mil.tight (Mil.eIf p q r) = tk
  have HTK : Hid (Mil.tight (Mil.eIf p q r) = tk) := htk
  clear htk
  by_cases hl : tk < l
  · have hi : (tk : Int) < (l : Int) := by omega
    have HL : Hid (tk < l) := hl
    clear hl
    go_wp2_with fail
    refine (HT.out _ (HP.out.below hb1)).mono ?_
    rintro e w2 ⟨rfl, hb2⟩
    go_wp2
    go_ret
    refine ⟨?_, below_step hb1 hb2⟩
    rw [Mil.brack, HTK.out, if_pos HL.out]
    show Ending.returned (.string (bs Mil.sOpen ++ bs (Mil.txt (Mil.eIf p q r)) ++ bs Mil.sShut)) = _
    rw [bs_add, bs_add]
  · have hi : ¬ (tk : Int) < (l : Int) := by omega
    have HL : Hid (¬ tk < l) := hl
    clear hl
    go_wp2_with fail
    refine (HT.out _ (HP.out.below hb1)).mono ?_
    rintro e w2 ⟨rfl, hb2⟩
    go_wp2
    go_ret
    refine ⟨?_, below_step hb1 hb2⟩
    rw [Mil.brack, HTK.out, if_neg HL.out]; rfl

set_option maxHeartbeats 1000000 in
theorem ot_fby (a : Nat → Addr) (p q : Mil.E) (hlen : (Mil.txt (Mil.eFby p q)).length ≤ 24000) (h : TC a (Mil.eFby p q)) : OT a (Mil.eFby p q) := by
  intro w l hP
  have HP : Hid (Pl a w) := hP
  have HT : Hid (∀ w, Pl a w → Calls Tryz.prog 128 #[.iface 151 (.agg #[ev p, ev q])] w (TxPost (Mil.txt (Mil.eFby p q)) w)) := h
  have hm := me_fby (ev p) (ev q)
  have hsz : (bs (Mil.txt (Mil.eFby p q))).size ≤ 24000 := by rw [bs_size]; exact hlen
  clear hP h hlen
  show Calls Tryz.prog 134 #[.iface 151 (.agg #[ev p, ev q]), .int .i64 (l : Nat)] w _
  go_enter Tryz.func134, Tryz.ntmps134
  go_wp2_with fail
  refine (t_atom _).mono ?_
  rintro e w1 ⟨he, hb1⟩
  obtain rfl : e = .returned (.int .i64 ((Mil.tight (Mil.eFby p q) : Nat) : Int)) := he
  clear hm
  generalize htk : Mil.tight (Mil.eFby p q) = tk
  have HTK : Hid (Mil.tight (Mil.eFby p q) = tk) := htk
  clear htk
  by_cases hl : tk < l
  · have hi : (tk : Int) < (l : Int) := by omega
    have HL : Hid (tk < l) := hl
    clear hl
    go_wp2_with fail
    refine (HT.out _ (HP.out.below hb1)).mono ?_
    rintro e w2 ⟨rfl, hb2⟩
    go_wp2
    go_ret
    refine ⟨?_, below_step hb1 hb2⟩
    rw [Mil.brack, HTK.out, if_pos HL.out]
    show Ending.returned (.string (bs Mil.sOpen ++ bs (Mil.txt (Mil.eFby p q)) ++ bs Mil.sShut)) = _
    rw [bs_add, bs_add]
  · have hi : ¬ (tk : Int) < (l : Int) := by omega
    have HL : Hid (¬ tk < l) := hl
    clear hl
    go_wp2_with fail
    refine (HT.out _ (HP.out.below hb1)).mono ?_
    rintro e w2 ⟨rfl, hb2⟩
    go_wp2
    go_ret
    refine ⟨?_, below_step hb1 hb2⟩
    rw [Mil.brack, HTK.out, if_neg HL.out]; rfl

set_option maxHeartbeats 1000000 in
theorem ot_under (a : Nat → Addr) (p : Mil.E) (k : Nat) (hlen : (Mil.txt (Mil.eUnder p k)).length ≤ 24000) (h : TC a (Mil.eUnder p k)) : OT a (Mil.eUnder p k) := by
  intro w l hP
  have HP : Hid (Pl a w) := hP
  have HT : Hid (∀ w, Pl a w → Calls Tryz.prog 128 #[.iface 153 (.agg #[ev p, .int .i64 (k : Nat)])] w (TxPost (Mil.txt (Mil.eUnder p k)) w)) := h
  have hm := me_under (ev p) (.int .i64 (k : Nat))
  have hsz : (bs (Mil.txt (Mil.eUnder p k))).size ≤ 24000 := by rw [bs_size]; exact hlen
  clear hP h hlen
  show Calls Tryz.prog 134 #[.iface 153 (.agg #[ev p, .int .i64 (k : Nat)]), .int .i64 (l : Nat)] w _
  go_enter Tryz.func134, Tryz.ntmps134
  go_wp2_with fail
  refine (t_atom _).mono ?_
  rintro e w1 ⟨he, hb1⟩
  obtain rfl : e = .returned (.int .i64 ((Mil.tight (Mil.eUnder p k) : Nat) : Int)) := he
  clear hm
  generalize htk : Mil.tight (Mil.eUnder p k) = tk
  have HTK : Hid (Mil.tight (Mil.eUnder p k) = tk) := htk
  clear htk
  by_cases hl : tk < l
  · have hi : (tk : Int) < (l : Int) := by omega
    have HL : Hid (tk < l) := hl
    clear hl
    go_wp2_with fail
    refine (HT.out _ (HP.out.below hb1)).mono ?_
    rintro e w2 ⟨rfl, hb2⟩
    go_wp2
    go_ret
    refine ⟨?_, below_step hb1 hb2⟩
    rw [Mil.brack, HTK.out, if_pos HL.out]
    show Ending.returned (.string (bs Mil.sOpen ++ bs (Mil.txt (Mil.eUnder p k)) ++ bs Mil.sShut)) = _
    rw [bs_add, bs_add]
  · have hi : ¬ (tk : Int) < (l : Int) := by omega
    have HL : Hid (¬ tk < l) := hl
    clear hl
    go_wp2_with fail
    refine (HT.out _ (HP.out.below hb1)).mono ?_
    rintro e w2 ⟨rfl, hb2⟩
    go_wp2
    go_ret
    refine ⟨?_, below_step hb1 hb2⟩
    rw [Mil.brack, HTK.out, if_neg HL.out]; rfl

set_option maxHeartbeats 1000000 in
theorem ot_hold (a : Nat → Addr) (p q : Mil.E) (k : Nat) (hlen : (Mil.txt (Mil.eHold p q k)).length ≤ 24000) (h : TC a (Mil.eHold p q k)) : OT a (Mil.eHold p q k) := by
  intro w l hP
  have HP : Hid (Pl a w) := hP
  have HT : Hid (∀ w, Pl a w → Calls Tryz.prog 128 #[.iface 155 (.agg #[ev p, ev q, .int .i64 (k : Nat)])] w (TxPost (Mil.txt (Mil.eHold p q k)) w)) := h
  have hm := me_hold (ev p) (ev q) (.int .i64 (k : Nat))
  have hsz : (bs (Mil.txt (Mil.eHold p q k))).size ≤ 24000 := by rw [bs_size]; exact hlen
  clear hP h hlen
  show Calls Tryz.prog 134 #[.iface 155 (.agg #[ev p, ev q, .int .i64 (k : Nat)]), .int .i64 (l : Nat)] w _
  go_enter Tryz.func134, Tryz.ntmps134
  go_wp2_with fail
  refine (t_atom _).mono ?_
  rintro e w1 ⟨he, hb1⟩
  obtain rfl : e = .returned (.int .i64 ((Mil.tight (Mil.eHold p q k) : Nat) : Int)) := he
  clear hm
  generalize htk : Mil.tight (Mil.eHold p q k) = tk
  have HTK : Hid (Mil.tight (Mil.eHold p q k) = tk) := htk
  clear htk
  by_cases hl : tk < l
  · have hi : (tk : Int) < (l : Int) := by omega
    have HL : Hid (tk < l) := hl
    clear hl
    go_wp2_with fail
    refine (HT.out _ (HP.out.below hb1)).mono ?_
    rintro e w2 ⟨rfl, hb2⟩
    go_wp2
    go_ret
    refine ⟨?_, below_step hb1 hb2⟩
    rw [Mil.brack, HTK.out, if_pos HL.out]
    show Ending.returned (.string (bs Mil.sOpen ++ bs (Mil.txt (Mil.eHold p q k)) ++ bs Mil.sShut)) = _
    rw [bs_add, bs_add]
  · have hi : ¬ (tk : Int) < (l : Int) := by omega
    have HL : Hid (¬ tk < l) := hl
    clear hl
    go_wp2_with fail
    refine (HT.out _ (HP.out.below hb1)).mono ?_
    rintro e w2 ⟨rfl, hb2⟩
    go_wp2
    go_ret
    refine ⟨?_, below_step hb1 hb2⟩
    rw [Mil.brack, HTK.out, if_neg HL.out]; rfl

set_option maxHeartbeats 1000000 in
theorem ot_least (a : Nat → Addr) (x : Mil.Bytes) (p q : Mil.E) (hlen : (Mil.txt (Mil.eLeast x p q)).length ≤ 24000) (h : TC a (Mil.eLeast x p q)) : OT a (Mil.eLeast x p q) := by
  intro w l hP
  have HP : Hid (Pl a w) := hP
  have HT : Hid (∀ w, Pl a w → Calls Tryz.prog 128 #[.iface 157 (.agg #[.string (bs x), ev p, ev q])] w (TxPost (Mil.txt (Mil.eLeast x p q)) w)) := h
  have hm := me_least (.string (bs x)) (ev p) (ev q)
  have hsz : (bs (Mil.txt (Mil.eLeast x p q))).size ≤ 24000 := by rw [bs_size]; exact hlen
  clear hP h hlen
  show Calls Tryz.prog 134 #[.iface 157 (.agg #[.string (bs x), ev p, ev q]), .int .i64 (l : Nat)] w _
  go_enter Tryz.func134, Tryz.ntmps134
  go_wp2_with fail
  refine (t_atom _).mono ?_
  rintro e w1 ⟨he, hb1⟩
  obtain rfl : e = .returned (.int .i64 ((Mil.tight (Mil.eLeast x p q) : Nat) : Int)) := he
  clear hm
  generalize htk : Mil.tight (Mil.eLeast x p q) = tk
  have HTK : Hid (Mil.tight (Mil.eLeast x p q) = tk) := htk
  clear htk
  by_cases hl : tk < l
  · have hi : (tk : Int) < (l : Int) := by omega
    have HL : Hid (tk < l) := hl
    clear hl
    go_wp2_with fail
    refine (HT.out _ (HP.out.below hb1)).mono ?_
    rintro e w2 ⟨rfl, hb2⟩
    go_wp2
    go_ret
    refine ⟨?_, below_step hb1 hb2⟩
    rw [Mil.brack, HTK.out, if_pos HL.out]
    show Ending.returned (.string (bs Mil.sOpen ++ bs (Mil.txt (Mil.eLeast x p q)) ++ bs Mil.sShut)) = _
    rw [bs_add, bs_add]
  · have hi : ¬ (tk : Int) < (l : Int) := by omega
    have HL : Hid (¬ tk < l) := hl
    clear hl
    go_wp2_with fail
    refine (HT.out _ (HP.out.below hb1)).mono ?_
    rintro e w2 ⟨rfl, hb2⟩
    go_wp2
    go_ret
    refine ⟨?_, below_step hb1 hb2⟩
    rw [Mil.brack, HTK.out, if_neg HL.out]; rfl

end Go.Proofs.YteheagaiphhhlaaGreatDoor
