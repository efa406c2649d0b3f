/-
  exprText, shape by shape. (Printed by gen_print2.py.)
-/
import Derived.Test.YtfoabfffmjljmaaGreatDoorTxd
namespace Go.Proofs.YtfoabfffmjljmaaGreatDoor
open Go.RowKit

theorem join2 (x y : Mil.Bytes) : Lib.join [x, y] Mil.commaB = x ++ Mil.commaB ++ y := by simp [Lib.join, List.intercalate]
theorem join3 (x y z : Mil.Bytes) : Lib.join [x, y, z] Mil.commaB = x ++ Mil.commaB ++ y ++ Mil.commaB ++ z := by simp [Lib.join, List.intercalate]

set_option maxHeartbeats 4000000 in
theorem tx_int (a : Nat → Addr) (k : Nat) (hk : (k : Int) ≤ Mil.maxInt) : TC a (Mil.eInt k) := by
  intro vv hvv w hP
  have HP : Hid (Pl a w) := hP
  obtain ⟨u, rfl⟩ := evs_int hvv
  clear hP hvv
  have s0 := as_int_int
  show Calls Tryz.prog 132 #[.iface 173 (.agg #[.int .i64 u, .int .i64 (k : Nat)])] w _
  go_enter Tryz.func132, Tryz.ntmps132
  go_wp2_with fail
  have HB : Hid (Below w.heap.size w (w.alloc (.cells #[.int .i64 u, .int .i64 (k : Nat)] 173))) := (Below.refl _ _).alloc (Nat.le_refl _) _
  clear s0
  refine (formatInt_any a k hk _ (HP.out.below HB.out)).mono ?_
  rintro e w1 ⟨rfl, hb1⟩
  go_wp2
  go_ret
  exact ⟨rfl, below_step HB.out hb1⟩

set_option maxHeartbeats 4000000 in
theorem tx_bool (a : Nat → Addr) (k : Nat) : TC a (Mil.eBool k) := by
  intro vv hvv w hP
  have HP : Hid (Pl a w) := hP
  obtain ⟨u, rfl⟩ := evs_bool hvv
  clear hP hvv
  have CB : Hid (∀ w, Calls Tryz.prog 133 #[.bool (k == 1)] w (TxPost (Mil.txt (Mil.eBool k)) w)) := formatBool_any k
  generalize hbv : (k == 1) = bv at CB
  have s0 := as_bool_int
  have s1 := as_bool_bool
  show Calls Tryz.prog 132 #[.iface 167 (.agg #[.int .i64 u, .bool bv])] w _
  clear hbv
  go_enter Tryz.func132, Tryz.ntmps132
  go_wp2_with fail
  have HB : Hid (Below w.heap.size w (w.alloc (.cells #[.int .i64 u, .bool bv] 167))) := (Below.refl _ _).alloc (Nat.le_refl _) _
  clear s0 s1
  refine (CB.out _).mono ?_
  rintro e w1 ⟨rfl, hb1⟩
  go_wp2
  go_ret
  exact ⟨rfl, below_step HB.out hb1⟩

set_option maxHeartbeats 4000000 in
theorem tx_name (a : Nat → Addr) (x : Mil.Bytes) : TC a (Mil.eName x) := by
  intro vv hvv w hP
  have HP : Hid (Pl a w) := hP
  obtain ⟨u, rfl⟩ := evs_name hvv
  clear hP hvv
  have s0 := as_name_int
  have s1 := as_name_bool
  have s2 := as_name_name
  show Calls Tryz.prog 132 #[.iface 106 (.agg #[.int .i64 u, .string (bs x)])] w _
  go_enter Tryz.func132, Tryz.ntmps132
  go_wp2
  go_ret
  exact ⟨rfl, (Below.refl _ _).alloc (Nat.le_refl _) _⟩

set_option maxHeartbeats 4000000 in
theorem tx_pre (a : Nat → Addr) (x : Mil.Bytes) (p : Mil.E) (hvp : ∀ v, Evs p v → ∃ ty y, v = .iface ty y) (hx : x = Mil.wNot ∨ x = Mil.sMinus) (hl : (Mil.txt p).length ≤ 24000) (hp : OT a p) : TC a (Mil.ePre x p) := by
  intro vv hvv w hP
  have HP : Hid (Pl a w) := hP
  obtain ⟨u, vp, rfl, hep⟩ := evs_pre hvv
  clear hP hvv
  obtain ⟨tp, yp, rfl⟩ := hvp _ hep
  have HX : Hid (x = Mil.wNot ∨ x = Mil.sMinus) := hx
  have HL : Hid ((Mil.txt p).length ≤ 24000) := hl
  have CP : Hid (∀ w, Pl a w → Calls Tryz.prog 134 #[.agg #[.int .i64 u, .string (bs x), .iface tp yp]] w (TxPost (Mil.txt (Mil.ePre x p)) w)) := by
    intro w h
    exact prefixed_any a x hx p hl hp u _ hep w h
  clear hx hl hp HX HL
  have s0 := as_pre_int
  have s1 := as_pre_bool
  have s2 := as_pre_name
  have s3 := as_pre_pre
  show Calls Tryz.prog 132 #[.iface 136 (.agg #[.int .i64 u, .string (bs x), .iface tp yp])] w _
  clear hep
  go_enter Tryz.func132, Tryz.ntmps132
  go_wp2_with fail
  have HB : Hid (Below w.heap.size w (w.alloc (.cells #[.int .i64 u, .string (bs x), .iface tp yp] 136))) := (Below.refl _ _).alloc (Nat.le_refl _) _
  clear s0 s1 s2 s3
  refine (CP.out _ (HP.out.below HB.out)).mono ?_
  rintro e w1 ⟨rfl, hb1⟩
  go_wp2
  go_ret
  exact ⟨rfl, below_step HB.out hb1⟩

set_option maxHeartbeats 4000000 in
theorem tx_two (a : Nat → Addr) (x : Mil.Bytes) (p q : Mil.E) (hvp : ∀ v, Evs p v → ∃ ty y, v = .iface ty y) (hvq : ∀ v, Evs q v → ∃ ty y, v = .iface ty y) (hx : Mil.tightOf x ≠ 9) (hl : (Mil.txt p).length ≤ 24000) (hl2 : (Mil.txt q).length ≤ 24000) (hp : OT a p) (hq : OT a q) : TC a (Mil.eTwo x p q) := by
  intro vv hvv w hP
  have HP : Hid (Pl a w) := hP
  obtain ⟨u, vp, vq, rfl, hep, heq⟩ := evs_two hvv
  clear hP hvv
  obtain ⟨tp, yp, rfl⟩ := hvp _ hep
  obtain ⟨tq, yq, rfl⟩ := hvq _ heq
  have HX : Hid (Mil.tightOf x ≠ 9) := hx
  have HL : Hid ((Mil.txt p).length ≤ 24000) := hl
  have HL2 : Hid ((Mil.txt q).length ≤ 24000) := hl2
  have CP : Hid (∀ w, Pl a w → Calls Tryz.prog 135 #[.agg #[.int .i64 u, .string (bs x), .iface tp yp, .iface tq yq]] w (TxPost (Mil.txt (Mil.eTwo x p q)) w)) := by
    intro w h
    exact paired_any a x hx p q hl hl2 hp hq u _ _ hep heq w h
  clear hx hl hl2 hp hq HX HL HL2
  have s0 := as_two_int
  have s1 := as_two_bool
  have s2 := as_two_name
  have s3 := as_two_pre
  have s4 := as_two_two
  show Calls Tryz.prog 132 #[.iface 139 (.agg #[.int .i64 u, .string (bs x), .iface tp yp, .iface tq yq])] w _
  clear hep heq
  go_enter Tryz.func132, Tryz.ntmps132
  go_wp2_with fail
  have HB : Hid (Below w.heap.size w (w.alloc (.cells #[.int .i64 u, .string (bs x), .iface tp yp, .iface tq yq] 139))) := (Below.refl _ _).alloc (Nat.le_refl _) _
  clear s0 s1 s2 s3 s4
  refine (CP.out _ (HP.out.below HB.out)).mono ?_
  rintro e w1 ⟨rfl, hb1⟩
  go_wp2
  go_ret
  exact ⟨rfl, below_step HB.out hb1⟩

set_option maxHeartbeats 4000000 in
theorem tx_if (a : Nat → Addr) (p q r : Mil.E) (hvp : ∀ v, Evs p v → ∃ ty y, v = .iface ty y) (hvq : ∀ v, Evs q v → ∃ ty y, v = .iface ty y) (hvr : ∀ v, Evs r v → ∃ ty y, v = .iface ty y) (hl : (Mil.txt p).length ≤ 24000) (hl2 : (Mil.txt q).length ≤ 24000) (hl3 : (Mil.txt r).length ≤ 24000) (hp : TC a p) (hq : TC a q) (hr : TC a r) : TC a (Mil.eIf p q r) := by
  intro vv hvv w hP
  have HP : Hid (Pl a w) := hP
  obtain ⟨u, vp, vq, vr, rfl, hep, heq, her⟩ := evs_if hvv
  clear hP hvv
  obtain ⟨tp, yp, rfl⟩ := hvp _ hep
  obtain ⟨tq, yq, rfl⟩ := hvq _ heq
  obtain ⟨tr, yr, rfl⟩ := hvr _ her
  have C1 : Hid (∀ w', Pl a w' → Calls Tryz.prog 132 #[.iface tp yp] w' (TxPost (Mil.txt p) w')) := by
    intro w' h
    exact hp _ hep w' h
  have C2 : Hid (∀ w', Pl a w' → Calls Tryz.prog 132 #[.iface tq yq] w' (TxPost (Mil.txt q) w')) := by
    intro w' h
    exact hq _ heq w' h
  have C3 : Hid (∀ w', Pl a w' → Calls Tryz.prog 132 #[.iface tr yr] w' (TxPost (Mil.txt r) w')) := by
    intro w' h
    exact hr _ her w' h
  have z1 : (bs (Mil.txt p)).size ≤ 24000 := by rw [bs_size]; exact hl
  have z2 : (bs (Mil.txt q)).size ≤ 24000 := by rw [bs_size]; exact hl2
  have z3 : (bs (Mil.txt r)).size ≤ 24000 := by rw [bs_size]; exact hl3
  have n1 : ¬ 9223372036854775807 < 3 + (bs (Mil.txt p)).size := by omega
  have n2 : ¬ 9223372036854775807 < 3 + (bs (Mil.txt p)).size + 6 := by omega
  have n3 : ¬ 9223372036854775807 < 3 + (bs (Mil.txt p)).size + 6 + (bs (Mil.txt q)).size := by omega
  have n4 : ¬ 9223372036854775807 < 3 + (bs (Mil.txt p)).size + 6 + (bs (Mil.txt q)).size + 6 := by omega
  have n5 : ¬ 9223372036854775807 < 3 + (bs (Mil.txt p)).size + 6 + (bs (Mil.txt q)).size + 6 + (bs (Mil.txt r)).size := by omega
  have HG : Hid (Ending.returned (.string (bs (Mil.wIf ++ Mil.blank) ++ bs (Mil.txt p) ++ bs (Mil.blank ++ Mil.wThen ++ Mil.blank) ++ bs (Mil.txt q) ++ bs (Mil.blank ++ Mil.wElse ++ Mil.blank) ++ bs (Mil.txt r))) = .returned (.string (bs (Mil.txt (Mil.eIf p q r))))) := by
    show _ = _
    rw [bs_add, bs_add, bs_add, bs_add, bs_add]
    refine congrArg (fun z => Ending.returned (Value.string (bs z))) ?_
    show _ = (Mil.wIf ++ Mil.blank ++ Mil.txt p ++ Mil.blank ++ (Mil.wThen ++ Mil.blank ++ Mil.txt q ++ Mil.blank ++ Mil.wElse ++ Mil.blank ++ Mil.txt r))
    simp only [List.append_assoc]
  clear hl hl2 hl3 hp hq hr z1 z2 z3
  have s0 := as_if_int
  have s1 := as_if_bool
  have s2 := as_if_name
  have s3 := as_if_pre
  have s4 := as_if_two
  have s5 := as_if_if
  show Calls Tryz.prog 132 #[.iface 133 (.agg #[.int .i64 u, .iface tp yp, .iface tq yq, .iface tr yr])] w _
  clear hep heq her
  go_enter Tryz.func132, Tryz.ntmps132
  go_wp2_with fail
  have k0 : ∀ w', Below (w.alloc (.cells #[.int .i64 u, .iface tp yp, .iface tq yq, .iface tr yr] 133)).heap.size (w.alloc (.cells #[.int .i64 u, .iface tp yp, .iface tq yq, .iface tr yr] 133)) w' → w'.cell? ⟨w.heap.size, 0, none⟩ = some (.int .i64 u) := fun w' hb => (hb.cell (by simp)).trans (by simp)
  have k1 : ∀ w', Below (w.alloc (.cells #[.int .i64 u, .iface tp yp, .iface tq yq, .iface tr yr] 133)).heap.size (w.alloc (.cells #[.int .i64 u, .iface tp yp, .iface tq yq, .iface tr yr] 133)) w' → w'.cell? ⟨w.heap.size, 1, none⟩ = some (.iface tp yp) := fun w' hb => (hb.cell (by simp)).trans (by simp)
  have k2 : ∀ w', Below (w.alloc (.cells #[.int .i64 u, .iface tp yp, .iface tq yq, .iface tr yr] 133)).heap.size (w.alloc (.cells #[.int .i64 u, .iface tp yp, .iface tq yq, .iface tr yr] 133)) w' → w'.cell? ⟨w.heap.size, 2, none⟩ = some (.iface tq yq) := fun w' hb => (hb.cell (by simp)).trans (by simp)
  have k3 : ∀ w', Below (w.alloc (.cells #[.int .i64 u, .iface tp yp, .iface tq yq, .iface tr yr] 133)).heap.size (w.alloc (.cells #[.int .i64 u, .iface tp yp, .iface tq yq, .iface tr yr] 133)) w' → w'.cell? ⟨w.heap.size, 3, none⟩ = some (.iface tr yr) := fun w' hb => (hb.cell (by simp)).trans (by simp)
  have HB : Hid (Below w.heap.size w (w.alloc (.cells #[.int .i64 u, .iface tp yp, .iface tq yq, .iface tr yr] 133))) := (Below.refl _ _).alloc (Nat.le_refl _) _
  clear s0 s1 s2 s3 s4 s5
  generalize hW : w.alloc (.cells #[.int .i64 u, .iface tp yp, .iface tq yq, .iface tr yr] 133) = W at HB k0 k1 k2 k3 ⊢
  have HPW : Hid (Pl a W) := HP.out.below HB
  have HBW : Hid (Below w.heap.size w W) := HB
  clear hW HB HP
  go_region_held3 (fun w' => Below W.heap.size W w') (first | assumption | exact (Below.refl _ _).drew | exact Below.alloc (by assumption) (Below.size (by assumption)) _) (first
    | (go_at_call 132; (with_reducible refine (C1.out _ ?_).mono ?_); exact HPW.out.below (by assumption); rintro e w3 ⟨rfl, hbw3⟩; have hBw3 : Below W.heap.size W w3 := below_step (by assumption) hbw3)
    | (go_at_call 132; (with_reducible refine (C2.out _ ?_).mono ?_); exact HPW.out.below (by assumption); rintro e w4 ⟨rfl, hbw4⟩; have hBw4 : Below W.heap.size W w4 := below_step (by assumption) hbw4)
    | (go_at_call 132; (with_reducible refine (C3.out _ ?_).mono ?_); exact HPW.out.below (by assumption); rintro e w5 ⟨rfl, hbw5⟩; have hBw5 : Below W.heap.size W w5 := below_step (by assumption) hbw5))
  all_goals go_wp2
  all_goals go_ret
  all_goals exact ⟨HG.out, below_step HBW.out (by assumption)⟩

set_option maxHeartbeats 4000000 in
theorem tx_fby (a : Nat → Addr) (p q : Mil.E) (hvp : ∀ v, Evs p v → ∃ ty y, v = .iface ty y) (hvq : ∀ v, Evs q v → ∃ ty y, v = .iface ty y) (hl : (Mil.txt p).length ≤ 24000) (hl2 : (Mil.txt q).length ≤ 24000) (hp : TC a p) (hq : TC a q) : TC a (Mil.eFby p q) := by
  intro vv hvv w hP
  have HP : Hid (Pl a w) := hP
  obtain ⟨u, vp, vq, rfl, hep, heq⟩ := evs_fby hvv
  clear hP hvv
  obtain ⟨tp, yp, rfl⟩ := hvp _ hep
  obtain ⟨tq, yq, rfl⟩ := hvq _ heq
  have C1 : Hid (∀ w', Pl a w' → Calls Tryz.prog 132 #[.iface tp yp] w' (TxPost (Mil.txt p) w')) := by
    intro w' h
    exact hp _ hep w' h
  have C2 : Hid (∀ w', Pl a w' → Calls Tryz.prog 132 #[.iface tq yq] w' (TxPost (Mil.txt q) w')) := by
    intro w' h
    exact hq _ heq w' h
  have HL : Hid (∀ x, x ∈ [Mil.txt p, Mil.txt q] → x.length ≤ 24000) := by
    intro x hx
    simp only [List.mem_cons, List.not_mem_nil, or_false] at hx
    rcases hx with rfl | rfl
    · exact hl
    · exact hl2
  have HG : Hid (Ending.returned (.string (bs (Mil.wFby ++ Mil.sOpen ++ Lib.join [Mil.txt p, Mil.txt q] Mil.commaB ++ Mil.sShut))) = .returned (.string (bs (Mil.txt (Mil.eFby p q))))) := by
    show _ = _
    rw [join2]
    refine congrArg (fun z => Ending.returned (Value.string (bs z))) ?_
    show _ = (Mil.wFby ++ Mil.sOpen ++ Mil.txt p ++ Mil.commaB ++ Mil.txt q ++ Mil.sShut)
    simp only [List.append_assoc]
  clear hl hl2 hp hq
  have s0 := as_fby_int
  have s1 := as_fby_bool
  have s2 := as_fby_name
  have s3 := as_fby_pre
  have s4 := as_fby_two
  have s5 := as_fby_if
  have s6 := as_fby_fby
  show Calls Tryz.prog 132 #[.iface 159 (.agg #[.int .i64 u, .iface tp yp, .iface tq yq])] w _
  clear hep heq
  go_enter Tryz.func132, Tryz.ntmps132
  go_wp2_with fail
  have k0 : ∀ w', Below (w.alloc (.cells #[.int .i64 u, .iface tp yp, .iface tq yq] 159)).heap.size (w.alloc (.cells #[.int .i64 u, .iface tp yp, .iface tq yq] 159)) w' → w'.cell? ⟨w.heap.size, 0, none⟩ = some (.int .i64 u) := fun w' hb => (hb.cell (by simp)).trans (by simp)
  have k1 : ∀ w', Below (w.alloc (.cells #[.int .i64 u, .iface tp yp, .iface tq yq] 159)).heap.size (w.alloc (.cells #[.int .i64 u, .iface tp yp, .iface tq yq] 159)) w' → w'.cell? ⟨w.heap.size, 1, none⟩ = some (.iface tp yp) := fun w' hb => (hb.cell (by simp)).trans (by simp)
  have k2 : ∀ w', Below (w.alloc (.cells #[.int .i64 u, .iface tp yp, .iface tq yq] 159)).heap.size (w.alloc (.cells #[.int .i64 u, .iface tp yp, .iface tq yq] 159)) w' → w'.cell? ⟨w.heap.size, 2, none⟩ = some (.iface tq yq) := fun w' hb => (hb.cell (by simp)).trans (by simp)
  have HB : Hid (Below w.heap.size w (w.alloc (.cells #[.int .i64 u, .iface tp yp, .iface tq yq] 159))) := (Below.refl _ _).alloc (Nat.le_refl _) _
  clear s0 s1 s2 s3 s4 s5 s6
  generalize hW : w.alloc (.cells #[.int .i64 u, .iface tp yp, .iface tq yq] 159) = W at HB k0 k1 k2 ⊢
  have HPW : Hid (Pl a W) := HP.out.below HB
  have HBW : Hid (Below w.heap.size w W) := HB
  clear hW HB HP
  go_region_held3 (fun w' => Below W.heap.size W w') (first | assumption | exact (Below.refl _ _).drew | exact Below.alloc (by assumption) (Below.size (by assumption)) _) (first
    | (go_at_call 132; (with_reducible refine (C1.out _ ?_).mono ?_); exact HPW.out.below (by assumption); rintro e w3 ⟨rfl, hbw3⟩; have hBw3 : Below W.heap.size W w3 := below_step (by assumption) hbw3)
    | (go_at_call 132; (with_reducible refine (C2.out _ ?_).mono ?_); exact HPW.out.below (by assumption); rintro e w4 ⟨rfl, hbw4⟩; have hBw4 : Below W.heap.size W w4 := below_step (by assumption) hbw4)
    | (go_at_call 136; refine (callText_any Mil.wFby (by decide) [Mil.txt p, Mil.txt q] (by simp) (by simp) HL.out _ _ (heap_alloc_new _ _)).mono ?_; rintro e w9 ⟨rfl, hbw9⟩; have hBw9 : Below W.heap.size W w9 := below_step (by assumption) hbw9))
  all_goals go_wp2
  all_goals go_ret
  all_goals exact ⟨HG.out, below_step HBW.out (by assumption)⟩

set_option maxHeartbeats 4000000 in
theorem tx_under (a : Nat → Addr) (p : Mil.E) (k : Nat) (hvp : ∀ v, Evs p v → ∃ ty y, v = .iface ty y) (hk : k ≤ 1000) (hl : (Mil.txt p).length ≤ 24000) (hp : TC a p) : TC a (Mil.eUnder p k) := by
  intro vv hvv w hP
  have HP : Hid (Pl a w) := hP
  obtain ⟨u, vp, rfl, hep⟩ := evs_under hvv
  clear hP hvv
  obtain ⟨tp, yp, rfl⟩ := hvp _ hep
  have C1 : Hid (∀ w', Pl a w' → Calls Tryz.prog 132 #[.iface tp yp] w' (TxPost (Mil.txt p) w')) := by
    intro w' h
    exact hp _ hep w' h
  have HK : Hid ((k : Int) ≤ Mil.maxInt) := by show _ ≤ _; simp only [Mil.maxInt]; omega
  have HL : Hid (∀ x, x ∈ [Mil.txt p, Lib.decDigits k] → x.length ≤ 24000) := by
    intro x hx
    simp only [List.mem_cons, List.not_mem_nil, or_false] at hx
    rcases hx with rfl | rfl
    · exact hl
    · have := Mil.digits_len HK.out; omega
  have HG : Hid (Ending.returned (.string (bs (Mil.wUnder ++ Mil.sOpen ++ Lib.join [Mil.txt p, Lib.decDigits k] Mil.commaB ++ Mil.sShut))) = .returned (.string (bs (Mil.txt (Mil.eUnder p k))))) := by
    show _ = _
    rw [join2]
    refine congrArg (fun z => Ending.returned (Value.string (bs z))) ?_
    show _ = (Mil.wUnder ++ Mil.sOpen ++ Mil.txt p ++ Mil.commaB ++ Lib.decDigits k ++ Mil.sShut)
    simp only [List.append_assoc]
  clear hl hp hk
  have s0 := as_under_int
  have s1 := as_under_bool
  have s2 := as_under_name
  have s3 := as_under_pre
  have s4 := as_under_two
  have s5 := as_under_if
  have s6 := as_under_fby
  have s7 := as_under_under
  show Calls Tryz.prog 132 #[.iface 161 (.agg #[.int .i64 u, .iface tp yp, .int .i64 (k : Nat)])] w _
  clear hep
  go_enter Tryz.func132, Tryz.ntmps132
  go_wp2_with fail
  have k0 : ∀ w', Below (w.alloc (.cells #[.int .i64 u, .iface tp yp, .int .i64 (k : Nat)] 161)).heap.size (w.alloc (.cells #[.int .i64 u, .iface tp yp, .int .i64 (k : Nat)] 161)) w' → w'.cell? ⟨w.heap.size, 0, none⟩ = some (.int .i64 u) := fun w' hb => (hb.cell (by simp)).trans (by simp)
  have k1 : ∀ w', Below (w.alloc (.cells #[.int .i64 u, .iface tp yp, .int .i64 (k : Nat)] 161)).heap.size (w.alloc (.cells #[.int .i64 u, .iface tp yp, .int .i64 (k : Nat)] 161)) w' → w'.cell? ⟨w.heap.size, 1, none⟩ = some (.iface tp yp) := fun w' hb => (hb.cell (by simp)).trans (by simp)
  have k2 : ∀ w', Below (w.alloc (.cells #[.int .i64 u, .iface tp yp, .int .i64 (k : Nat)] 161)).heap.size (w.alloc (.cells #[.int .i64 u, .iface tp yp, .int .i64 (k : Nat)] 161)) w' → w'.cell? ⟨w.heap.size, 2, none⟩ = some (.int .i64 (k : Nat)) := fun w' hb => (hb.cell (by simp)).trans (by simp)
  have HB : Hid (Below w.heap.size w (w.alloc (.cells #[.int .i64 u, .iface tp yp, .int .i64 (k : Nat)] 161))) := (Below.refl _ _).alloc (Nat.le_refl _) _
  clear s0 s1 s2 s3 s4 s5 s6 s7
  generalize hW : w.alloc (.cells #[.int .i64 u, .iface tp yp, .int .i64 (k : Nat)] 161) = W at HB k0 k1 k2 ⊢
  have HPW : Hid (Pl a W) := HP.out.below HB
  have HBW : Hid (Below w.heap.size w W) := HB
  clear hW HB HP
  go_region_held3 (fun w' => Below W.heap.size W w') (first | assumption | exact (Below.refl _ _).drew | exact Below.alloc (by assumption) (Below.size (by assumption)) _) (first
    | (go_at_call 132; (with_reducible refine (C1.out _ ?_).mono ?_); exact HPW.out.below (by assumption); rintro e w3 ⟨rfl, hbw3⟩; have hBw3 : Below W.heap.size W w3 := below_step (by assumption) hbw3)
    | (go_at_call 125; refine (formatInt_any a k HK.out _ ?_).mono ?_; exact HPW.out.below (by assumption); rintro e w4 ⟨rfl, hbw4⟩; have hBw4 : Below W.heap.size W w4 := below_step (by assumption) hbw4)
    | (go_at_call 136; refine (callText_any Mil.wUnder (by decide) [Mil.txt p, Lib.decDigits k] (by simp) (by simp) HL.out _ _ (heap_alloc_new _ _)).mono ?_; rintro e w9 ⟨rfl, hbw9⟩; have hBw9 : Below W.heap.size W w9 := below_step (by assumption) hbw9))
  all_goals go_wp2
  all_goals go_ret
  all_goals exact ⟨HG.out, below_step HBW.out (by assumption)⟩

set_option maxHeartbeats 4000000 in
theorem tx_hold (a : Nat → Addr) (p q : Mil.E) (k : Nat) (hvp : ∀ v, Evs p v → ∃ ty y, v = .iface ty y) (hvq : ∀ v, Evs q v → ∃ ty y, v = .iface ty y) (hk : k ≤ 1000) (hl : (Mil.txt p).length ≤ 24000) (hl2 : (Mil.txt q).length ≤ 24000) (hp : TC a p) (hq : TC a q) : TC a (Mil.eHold p q k) := by
  intro vv hvv w hP
  have HP : Hid (Pl a w) := hP
  obtain ⟨u, vp, vq, rfl, hep, heq⟩ := evs_hold hvv
  clear hP hvv
  obtain ⟨tp, yp, rfl⟩ := hvp _ hep
  obtain ⟨tq, yq, rfl⟩ := hvq _ heq
  have C1 : Hid (∀ w', Pl a w' → Calls Tryz.prog 132 #[.iface tp yp] w' (TxPost (Mil.txt p) w')) := by
    intro w' h
    exact hp _ hep w' h
  have C2 : Hid (∀ w', Pl a w' → Calls Tryz.prog 132 #[.iface tq yq] w' (TxPost (Mil.txt q) w')) := by
    intro w' h
    exact hq _ heq w' h
  have HK : Hid ((k : Int) ≤ Mil.maxInt) := by show _ ≤ _; simp only [Mil.maxInt]; omega
  have HL : Hid (∀ x, x ∈ [Mil.txt p, Mil.txt q, Lib.decDigits k] → x.length ≤ 24000) := by
    intro x hx
    simp only [List.mem_cons, List.not_mem_nil, or_false] at hx
    rcases hx with rfl | rfl | rfl
    · exact hl
    · exact hl2
    · have := Mil.digits_len HK.out; omega
  have HG : Hid (Ending.returned (.string (bs (Mil.wHold ++ Mil.sOpen ++ Lib.join [Mil.txt p, Mil.txt q, Lib.decDigits k] Mil.commaB ++ Mil.sShut))) = .returned (.string (bs (Mil.txt (Mil.eHold p q k))))) := by
    show _ = _
    rw [join3]
    refine congrArg (fun z => Ending.returned (Value.string (bs z))) ?_
    show _ = (Mil.wHold ++ Mil.sOpen ++ Mil.txt p ++ Mil.commaB ++ Mil.txt q ++ Mil.commaB ++ Lib.decDigits k ++ Mil.sShut)
    simp only [List.append_assoc]
  clear hl hl2 hp hq hk
  have s0 := as_hold_int
  have s1 := as_hold_bool
  have s2 := as_hold_name
  have s3 := as_hold_pre
  have s4 := as_hold_two
  have s5 := as_hold_if
  have s6 := as_hold_fby
  have s7 := as_hold_under
  have s8 := as_hold_hold
  show Calls Tryz.prog 132 #[.iface 163 (.agg #[.int .i64 u, .iface tp yp, .iface tq yq, .int .i64 (k : Nat)])] w _
  clear hep heq
  go_enter Tryz.func132, Tryz.ntmps132
  go_wp2_with fail
  have k0 : ∀ w', Below (w.alloc (.cells #[.int .i64 u, .iface tp yp, .iface tq yq, .int .i64 (k : Nat)] 163)).heap.size (w.alloc (.cells #[.int .i64 u, .iface tp yp, .iface tq yq, .int .i64 (k : Nat)] 163)) w' → w'.cell? ⟨w.heap.size, 0, none⟩ = some (.int .i64 u) := fun w' hb => (hb.cell (by simp)).trans (by simp)
  have k1 : ∀ w', Below (w.alloc (.cells #[.int .i64 u, .iface tp yp, .iface tq yq, .int .i64 (k : Nat)] 163)).heap.size (w.alloc (.cells #[.int .i64 u, .iface tp yp, .iface tq yq, .int .i64 (k : Nat)] 163)) w' → w'.cell? ⟨w.heap.size, 1, none⟩ = some (.iface tp yp) := fun w' hb => (hb.cell (by simp)).trans (by simp)
  have k2 : ∀ w', Below (w.alloc (.cells #[.int .i64 u, .iface tp yp, .iface tq yq, .int .i64 (k : Nat)] 163)).heap.size (w.alloc (.cells #[.int .i64 u, .iface tp yp, .iface tq yq, .int .i64 (k : Nat)] 163)) w' → w'.cell? ⟨w.heap.size, 2, none⟩ = some (.iface tq yq) := fun w' hb => (hb.cell (by simp)).trans (by simp)
  have k3 : ∀ w', Below (w.alloc (.cells #[.int .i64 u, .iface tp yp, .iface tq yq, .int .i64 (k : Nat)] 163)).heap.size (w.alloc (.cells #[.int .i64 u, .iface tp yp, .iface tq yq, .int .i64 (k : Nat)] 163)) w' → w'.cell? ⟨w.heap.size, 3, none⟩ = some (.int .i64 (k : Nat)) := fun w' hb => (hb.cell (by simp)).trans (by simp)
  have HB : Hid (Below w.heap.size w (w.alloc (.cells #[.int .i64 u, .iface tp yp, .iface tq yq, .int .i64 (k : Nat)] 163))) := (Below.refl _ _).alloc (Nat.le_refl _) _
  clear s0 s1 s2 s3 s4 s5 s6 s7 s8
  generalize hW : w.alloc (.cells #[.int .i64 u, .iface tp yp, .iface tq yq, .int .i64 (k : Nat)] 163) = W at HB k0 k1 k2 k3 ⊢
  have HPW : Hid (Pl a W) := HP.out.below HB
  have HBW : Hid (Below w.heap.size w W) := HB
  clear hW HB HP
  go_region_held3 (fun w' => Below W.heap.size W w') (first | assumption | exact (Below.refl _ _).drew | exact Below.alloc (by assumption) (Below.size (by assumption)) _) (first
    | (go_at_call 132; (with_reducible refine (C1.out _ ?_).mono ?_); exact HPW.out.below (by assumption); rintro e w3 ⟨rfl, hbw3⟩; have hBw3 : Below W.heap.size W w3 := below_step (by assumption) hbw3)
    | (go_at_call 132; (with_reducible refine (C2.out _ ?_).mono ?_); exact HPW.out.below (by assumption); rintro e w4 ⟨rfl, hbw4⟩; have hBw4 : Below W.heap.size W w4 := below_step (by assumption) hbw4)
    | (go_at_call 125; refine (formatInt_any a k HK.out _ ?_).mono ?_; exact HPW.out.below (by assumption); rintro e w5 ⟨rfl, hbw5⟩; have hBw5 : Below W.heap.size W w5 := below_step (by assumption) hbw5)
    | (go_at_call 136; refine (callText_any Mil.wHold (by decide) [Mil.txt p, Mil.txt q, Lib.decDigits k] (by simp) (by simp) HL.out _ _ (heap_alloc_new _ _)).mono ?_; rintro e w9 ⟨rfl, hbw9⟩; have hBw9 : Below W.heap.size W w9 := below_step (by assumption) hbw9))
  all_goals go_wp2
  all_goals go_ret
  all_goals exact ⟨HG.out, below_step HBW.out (by assumption)⟩

set_option maxHeartbeats 4000000 in
theorem tx_least (a : Nat → Addr) (x : Mil.Bytes) (p q : Mil.E) (hvp : ∀ v, Evs p v → ∃ ty y, v = .iface ty y) (hvq : ∀ v, Evs q v → ∃ ty y, v = .iface ty y) (hx : x = Mil.wMin ∨ x = Mil.wMax) (hl : (Mil.txt p).length ≤ 24000) (hl2 : (Mil.txt q).length ≤ 24000) (hp : TC a p) (hq : TC a q) : TC a (Mil.eLeast x p q) := by
  intro vv hvv w hP
  have HP : Hid (Pl a w) := hP
  obtain ⟨u, vp, vq, rfl, hep, heq⟩ := evs_least hvv
  clear hP hvv
  obtain ⟨tp, yp, rfl⟩ := hvp _ hep
  obtain ⟨tq, yq, rfl⟩ := hvq _ heq
  have C1 : Hid (∀ w', Pl a w' → Calls Tryz.prog 132 #[.iface tp yp] w' (TxPost (Mil.txt p) w')) := by
    intro w' h
    exact hp _ hep w' h
  have C2 : Hid (∀ w', Pl a w' → Calls Tryz.prog 132 #[.iface tq yq] w' (TxPost (Mil.txt q) w')) := by
    intro w' h
    exact hq _ heq w' h
  have HL3 : Hid (x.length ≤ 5) := by show x.length ≤ 5; rcases hx with rfl | rfl <;> decide
  have HL : Hid (∀ x, x ∈ [Mil.txt p, Mil.txt q] → x.length ≤ 24000) := by
    intro x hx
    simp only [List.mem_cons, List.not_mem_nil, or_false] at hx
    rcases hx with rfl | rfl
    · exact hl
    · exact hl2
  have HG : Hid (Ending.returned (.string (bs (x ++ (Mil.sOpen ++ (Lib.join [Mil.txt p, Mil.txt q] Mil.commaB ++ Mil.sShut))))) = .returned (.string (bs (Mil.txt (Mil.eLeast x p q))))) := by
    show _ = _
    rw [join2]
    refine congrArg (fun z => Ending.returned (Value.string (bs z))) ?_
    show _ = (x ++ Mil.sOpen ++ Mil.txt p ++ Mil.commaB ++ Mil.txt q ++ Mil.sShut)
    simp only [List.append_assoc]
  clear hl hl2 hp hq hx
  have s0 := as_least_int
  have s1 := as_least_bool
  have s2 := as_least_name
  have s3 := as_least_pre
  have s4 := as_least_two
  have s5 := as_least_if
  have s6 := as_least_fby
  have s7 := as_least_under
  have s8 := as_least_hold
  have s9 := as_least_least
  show Calls Tryz.prog 132 #[.iface 165 (.agg #[.int .i64 u, .string (bs x), .iface tp yp, .iface tq yq])] w _
  clear hep heq
  go_enter Tryz.func132, Tryz.ntmps132
  go_wp2_with fail
  have k0 : ∀ w', Below (w.alloc (.cells #[.int .i64 u, .string (bs x), .iface tp yp, .iface tq yq] 165)).heap.size (w.alloc (.cells #[.int .i64 u, .string (bs x), .iface tp yp, .iface tq yq] 165)) w' → w'.cell? ⟨w.heap.size, 0, none⟩ = some (.int .i64 u) := fun w' hb => (hb.cell (by simp)).trans (by simp)
  have k1 : ∀ w', Below (w.alloc (.cells #[.int .i64 u, .string (bs x), .iface tp yp, .iface tq yq] 165)).heap.size (w.alloc (.cells #[.int .i64 u, .string (bs x), .iface tp yp, .iface tq yq] 165)) w' → w'.cell? ⟨w.heap.size, 1, none⟩ = some (.string (bs x)) := fun w' hb => (hb.cell (by simp)).trans (by simp)
  have k2 : ∀ w', Below (w.alloc (.cells #[.int .i64 u, .string (bs x), .iface tp yp, .iface tq yq] 165)).heap.size (w.alloc (.cells #[.int .i64 u, .string (bs x), .iface tp yp, .iface tq yq] 165)) w' → w'.cell? ⟨w.heap.size, 2, none⟩ = some (.iface tp yp) := fun w' hb => (hb.cell (by simp)).trans (by simp)
  have k3 : ∀ w', Below (w.alloc (.cells #[.int .i64 u, .string (bs x), .iface tp yp, .iface tq yq] 165)).heap.size (w.alloc (.cells #[.int .i64 u, .string (bs x), .iface tp yp, .iface tq yq] 165)) w' → w'.cell? ⟨w.heap.size, 3, none⟩ = some (.iface tq yq) := fun w' hb => (hb.cell (by simp)).trans (by simp)
  have HB : Hid (Below w.heap.size w (w.alloc (.cells #[.int .i64 u, .string (bs x), .iface tp yp, .iface tq yq] 165))) := (Below.refl _ _).alloc (Nat.le_refl _) _
  clear s0 s1 s2 s3 s4 s5 s6 s7 s8 s9
  generalize hW : w.alloc (.cells #[.int .i64 u, .string (bs x), .iface tp yp, .iface tq yq] 165) = W at HB k0 k1 k2 k3 ⊢
  have HPW : Hid (Pl a W) := HP.out.below HB
  have HBW : Hid (Below w.heap.size w W) := HB
  clear hW HB HP
  go_region_held3 (fun w' => Below W.heap.size W w') (first | assumption | exact (Below.refl _ _).drew | exact Below.alloc (by assumption) (Below.size (by assumption)) _) (first
    | (go_at_call 132; (with_reducible refine (C1.out _ ?_).mono ?_); exact HPW.out.below (by assumption); rintro e w3 ⟨rfl, hbw3⟩; have hBw3 : Below W.heap.size W w3 := below_step (by assumption) hbw3)
    | (go_at_call 132; (with_reducible refine (C2.out _ ?_).mono ?_); exact HPW.out.below (by assumption); rintro e w4 ⟨rfl, hbw4⟩; have hBw4 : Below W.heap.size W w4 := below_step (by assumption) hbw4)
    | (go_at_call 136; refine (callText_any x HL3.out [Mil.txt p, Mil.txt q] (by simp) (by simp) HL.out _ _ (heap_alloc_new _ _)).mono ?_; rintro e w9 ⟨rfl, hbw9⟩; have hBw9 : Below W.heap.size W w9 := below_step (by assumption) hbw9))
  all_goals go_wp2
  all_goals go_ret
  all_goals exact ⟨HG.out, below_step HBW.out (by assumption)⟩

end Go.Proofs.YtfoabfffmjljmaaGreatDoor
