/-
  The lines of items. (Printed by gen_reads.py.)
-/
import Derived.Test.YteheagaiphhhlaaGreatDoorTxf
namespace Go.Proofs.YteheagaiphhhlaaGreatDoor
open Go.RowKit

namespace Mil
def lineText (i : It) : Bytes :=
  if i.kind = 1 then wInput ++ blank ++ i.nm ++ colonB ++ tyText i.ty ++ blank ++ wEvery ++ blank ++ Lib.decDigits i.every
  else if i.kind = 2 then wOutput ++ blank ++ namesText i.names
  else i.nm ++ colonB ++ tyText i.ty ++ isB ++ txt i.body
theorem item_line (i : It) : itemText i = lineText i ++ endB := by
  unfold itemText lineText
  split
  · rfl
  · split <;> rfl
theorem more_join : ∀ r : List Bytes, moreText r = Lib.joinTail commaB r
  | [] => rfl
  | y :: r => by
    rw [moreText, more_join r]
    simp [Lib.joinTail]
theorem names_join (x : Bytes) (r : List Bytes) : namesText (x :: r) = Lib.join (x :: r) commaB := by
  rw [namesText_cons, Lib.join_cons, more_join]
end Mil

set_option maxHeartbeats 4000000 in
theorem line_input0 (a : Nat → Addr) (nm : Mil.Bytes) (hn : nm.length ≤ 12) (k : Nat) (hk : k ≤ 1000000) (w : World) (hP : Pl a w) :
    Calls Tryz.prog 120 #[.agg #[.string (bs nm), .int .i64 0, .int .i64 (k : Nat)]] w (TxPost (Mil.lineText ⟨1, nm, 0, k, [], Mil.eNil⟩) w) := by
  have HP : Hid (Pl a w) := hP
  obtain ⟨tq, hty⟩ := hP.l.types
  have cty : w.cell? ⟨16, 0, none⟩ = some (.string (bs Mil.wInt)) := by rw [cell_of_row w _ 0 _ _ _ hty]; rfl
  have z9 : (bs Mil.wInt).size = 3 := rfl
  have HK : Hid ((k : Int) ≤ Mil.maxInt) := by show _ ≤ _; simp only [Mil.maxInt]; omega
  have z1 : (bs nm).size ≤ 12 := by rw [bs_size]; exact hn
  have z2 : (bs (Lib.decDigits k)).size ≤ 20 := by rw [bs_size]; exact Mil.digits_len HK.out
  have n1 : ¬ 9223372036854775807 < 6 + (bs nm).size := by omega
  have n2 : ¬ 9223372036854775807 < 6 + (bs nm).size + 3 := by omega
  have n3 : ¬ 9223372036854775807 < 6 + (bs nm).size + 3 + (bs Mil.wInt).size := by omega
  have n4 : ¬ 9223372036854775807 < 6 + (bs nm).size + 3 + (bs Mil.wInt).size + 7 := by omega
  have n5 : ¬ 9223372036854775807 < 6 + (bs nm).size + 3 + (bs Mil.wInt).size + 7 + (bs (Lib.decDigits k)).size := by omega
  have HG : Hid (Ending.returned (.string (bs (Mil.wInput ++ Mil.blank) ++ bs nm ++ bs Mil.colonB ++ bs Mil.wInt ++ bs (Mil.blank ++ Mil.wEvery ++ Mil.blank) ++ bs (Lib.decDigits k))) = .returned (.string (bs (Mil.lineText ⟨1, nm, 0, k, [], Mil.eNil⟩)))) := by
    show _ = _
    rw [bs_add, bs_add, bs_add, bs_add, bs_add]
    refine congrArg (fun z => Ending.returned (Value.string (bs z))) ?_
    simp only [Mil.lineText, if_true, List.append_assoc]
    try rfl
  clear hP hty z9 z1 z2 hn hk
  go_enter Tryz.func120, Tryz.ntmps120
  go_wp2_with fail
  have k0 : ∀ w', Below (w.alloc (.cells #[.string (bs nm), .int .i64 0, .int .i64 (k : Nat)] 105)).heap.size (w.alloc (.cells #[.string (bs nm), .int .i64 0, .int .i64 (k : Nat)] 105)) w' → w'.cell? ⟨w.heap.size, 0, none⟩ = some (.string (bs nm)) := fun w' hb => (hb.cell (by simp)).trans (by simp)
  have k1 : ∀ w', Below (w.alloc (.cells #[.string (bs nm), .int .i64 0, .int .i64 (k : Nat)] 105)).heap.size (w.alloc (.cells #[.string (bs nm), .int .i64 0, .int .i64 (k : Nat)] 105)) w' → w'.cell? ⟨w.heap.size, 1, none⟩ = some (.int .i64 0) := fun w' hb => (hb.cell (by simp)).trans (by simp)
  have k2 : ∀ w', Below (w.alloc (.cells #[.string (bs nm), .int .i64 0, .int .i64 (k : Nat)] 105)).heap.size (w.alloc (.cells #[.string (bs nm), .int .i64 0, .int .i64 (k : Nat)] 105)) w' → w'.cell? ⟨w.heap.size, 2, none⟩ = some (.int .i64 (k : Nat)) := fun w' hb => (hb.cell (by simp)).trans (by simp)
  have HB : Hid (Below w.heap.size w (w.alloc (.cells #[.string (bs nm), .int .i64 0, .int .i64 (k : Nat)] 105))) := (Below.refl _ _).alloc (Nat.le_refl _) _
  have k9 : ∀ w', Below (w.alloc (.cells #[.string (bs nm), .int .i64 0, .int .i64 (k : Nat)] 105)).heap.size (w.alloc (.cells #[.string (bs nm), .int .i64 0, .int .i64 (k : Nat)] 105)) w' → w'.cell? ⟨16, 0, none⟩ = some (.string (bs Mil.wInt)) := fun w' hb => by
    have hb' : Below w.heap.size w w' := below_step HB hb
    exact (hb'.cell (lt_of_cell cty)).trans cty
  generalize hW : w.alloc (.cells #[.string (bs nm), .int .i64 0, .int .i64 (k : Nat)] 105) = W at HB k0 k1 k2 k9 ⊢
  have HPW : Hid (Pl a W) := HP.out.below HB
  have HBW : Hid (Below w.heap.size w W) := HB
  clear hW HB HP cty
  go_region_held3 (fun w' => Below W.heap.size W w') (first | assumption | exact (Below.refl _ _).drew | exact Below.alloc (by assumption) (Below.size (by assumption)) _) (first
    | (go_at_call 121; refine (formatInt_any a k HK.out _ ?_).mono ?_; exact HPW.out.below (by assumption); rintro e w3 ⟨rfl, hbw3⟩; have hBw3 : Below W.heap.size W w3 := below_step (by assumption) hbw3))
  all_goals go_wp2
  all_goals go_ret
  all_goals exact ⟨HG.out, below_step HBW.out (by assumption)⟩

set_option maxHeartbeats 4000000 in
theorem line_eq0 (a : Nat → Addr) (nm : Mil.Bytes) (hn : nm.length ≤ 12) (p : Mil.E) (tp : TypeId) (yp : Value) (hep : ev p = .iface tp yp) (hl : (Mil.txt p).length ≤ 24000) (hp : TC a p) (w : World) (hP : Pl a w) :
    Calls Tryz.prog 127 #[.agg #[.string (bs nm), .int .i64 0, .iface tp yp]] w (TxPost (Mil.lineText ⟨3, nm, 0, 0, [], p⟩) w) := by
  have HP : Hid (Pl a w) := hP
  obtain ⟨tq, hty⟩ := hP.l.types
  have cty : w.cell? ⟨16, 0, none⟩ = some (.string (bs Mil.wInt)) := by rw [cell_of_row w _ 0 _ _ _ hty]; rfl
  have z9 : (bs Mil.wInt).size = 3 := rfl
  have C1 : Hid (∀ w', Pl a w' → Calls Tryz.prog 128 #[.iface tp yp] w' (TxPost (Mil.txt p) w')) := by
    intro w' h
    rw [← hep]
    exact hp w' h
  have z1 : (bs nm).size ≤ 12 := by rw [bs_size]; exact hn
  have z2 : (bs (Mil.txt p)).size ≤ 24000 := by rw [bs_size]; exact hl
  have n1 : ¬ 9223372036854775807 < (bs nm).size + 3 := by omega
  have n2 : ¬ 9223372036854775807 < (bs nm).size + 3 + (bs Mil.wInt).size := by omega
  have n3 : ¬ 9223372036854775807 < (bs nm).size + 3 + (bs Mil.wInt).size + 3 := by omega
  have n4 : ¬ 9223372036854775807 < (bs nm).size + 3 + (bs Mil.wInt).size + 3 + (bs (Mil.txt p)).size := by omega
  have HG : Hid (Ending.returned (.string (bs nm ++ bs Mil.colonB ++ bs Mil.wInt ++ bs Mil.isB ++ bs (Mil.txt p))) = .returned (.string (bs (Mil.lineText ⟨3, nm, 0, 0, [], p⟩)))) := by
    show _ = _
    rw [bs_add, bs_add, bs_add, bs_add]
    refine congrArg (fun z => Ending.returned (Value.string (bs z))) ?_
    simp only [Mil.lineText, List.append_assoc]
    try rfl
  clear hP hty z9 z1 z2 hn hl hp hep
  go_enter Tryz.func127, Tryz.ntmps127
  go_wp2_with fail
  have k0 : ∀ w', Below (w.alloc (.cells #[.string (bs nm), .int .i64 0, .iface tp yp] 113)).heap.size (w.alloc (.cells #[.string (bs nm), .int .i64 0, .iface tp yp] 113)) w' → w'.cell? ⟨w.heap.size, 0, none⟩ = some (.string (bs nm)) := fun w' hb => (hb.cell (by simp)).trans (by simp)
  have k1 : ∀ w', Below (w.alloc (.cells #[.string (bs nm), .int .i64 0, .iface tp yp] 113)).heap.size (w.alloc (.cells #[.string (bs nm), .int .i64 0, .iface tp yp] 113)) w' → w'.cell? ⟨w.heap.size, 1, none⟩ = some (.int .i64 0) := fun w' hb => (hb.cell (by simp)).trans (by simp)
  have k2 : ∀ w', Below (w.alloc (.cells #[.string (bs nm), .int .i64 0, .iface tp yp] 113)).heap.size (w.alloc (.cells #[.string (bs nm), .int .i64 0, .iface tp yp] 113)) w' → w'.cell? ⟨w.heap.size, 2, none⟩ = some (.iface tp yp) := fun w' hb => (hb.cell (by simp)).trans (by simp)
  have HB : Hid (Below w.heap.size w (w.alloc (.cells #[.string (bs nm), .int .i64 0, .iface tp yp] 113))) := (Below.refl _ _).alloc (Nat.le_refl _) _
  have k9 : ∀ w', Below (w.alloc (.cells #[.string (bs nm), .int .i64 0, .iface tp yp] 113)).heap.size (w.alloc (.cells #[.string (bs nm), .int .i64 0, .iface tp yp] 113)) w' → w'.cell? ⟨16, 0, none⟩ = some (.string (bs Mil.wInt)) := fun w' hb => by
    have hb' : Below w.heap.size w w' := below_step HB hb
    exact (hb'.cell (lt_of_cell cty)).trans cty
  generalize hW : w.alloc (.cells #[.string (bs nm), .int .i64 0, .iface tp yp] 113) = W at HB k0 k1 k2 k9 ⊢
  have HPW : Hid (Pl a W) := HP.out.below HB
  have HBW : Hid (Below w.heap.size w W) := HB
  clear hW HB HP cty
  go_region_held3 (fun w' => Below W.heap.size W w') (first | assumption | exact (Below.refl _ _).drew | exact Below.alloc (by assumption) (Below.size (by assumption)) _) (first
    | (go_at_call 128; (with_reducible refine (C1.out _ ?_).mono ?_); exact HPW.out.below (by assumption); rintro e w3 ⟨rfl, hbw3⟩; have hBw3 : Below W.heap.size W w3 := below_step (by assumption) hbw3))
  all_goals go_wp2
  all_goals go_ret
  all_goals exact ⟨HG.out, below_step HBW.out (by assumption)⟩

set_option maxHeartbeats 4000000 in
theorem line_input1 (a : Nat → Addr) (nm : Mil.Bytes) (hn : nm.length ≤ 12) (k : Nat) (hk : k ≤ 1000000) (w : World) (hP : Pl a w) :
    Calls Tryz.prog 120 #[.agg #[.string (bs nm), .int .i64 1, .int .i64 (k : Nat)]] w (TxPost (Mil.lineText ⟨1, nm, 1, k, [], Mil.eNil⟩) w) := by
  have HP : Hid (Pl a w) := hP
  obtain ⟨tq, hty⟩ := hP.l.types
  have cty : w.cell? ⟨16, 1, none⟩ = some (.string (bs Mil.wBool)) := by rw [cell_of_row w _ 1 _ _ _ hty]; rfl
  have z9 : (bs Mil.wBool).size = 4 := rfl
  have HK : Hid ((k : Int) ≤ Mil.maxInt) := by show _ ≤ _; simp only [Mil.maxInt]; omega
  have z1 : (bs nm).size ≤ 12 := by rw [bs_size]; exact hn
  have z2 : (bs (Lib.decDigits k)).size ≤ 20 := by rw [bs_size]; exact Mil.digits_len HK.out
  have n1 : ¬ 9223372036854775807 < 6 + (bs nm).size := by omega
  have n2 : ¬ 9223372036854775807 < 6 + (bs nm).size + 3 := by omega
  have n3 : ¬ 9223372036854775807 < 6 + (bs nm).size + 3 + (bs Mil.wBool).size := by omega
  have n4 : ¬ 9223372036854775807 < 6 + (bs nm).size + 3 + (bs Mil.wBool).size + 7 := by omega
  have n5 : ¬ 9223372036854775807 < 6 + (bs nm).size + 3 + (bs Mil.wBool).size + 7 + (bs (Lib.decDigits k)).size := by omega
  have HG : Hid (Ending.returned (.string (bs (Mil.wInput ++ Mil.blank) ++ bs nm ++ bs Mil.colonB ++ bs Mil.wBool ++ bs (Mil.blank ++ Mil.wEvery ++ Mil.blank) ++ bs (Lib.decDigits k))) = .returned (.string (bs (Mil.lineText ⟨1, nm, 1, k, [], Mil.eNil⟩)))) := by
    show _ = _
    rw [bs_add, bs_add, bs_add, bs_add, bs_add]
    refine congrArg (fun z => Ending.returned (Value.string (bs z))) ?_
    simp only [Mil.lineText, if_true, List.append_assoc]
    try rfl
  clear hP hty z9 z1 z2 hn hk
  go_enter Tryz.func120, Tryz.ntmps120
  go_wp2_with fail
  have k0 : ∀ w', Below (w.alloc (.cells #[.string (bs nm), .int .i64 1, .int .i64 (k : Nat)] 105)).heap.size (w.alloc (.cells #[.string (bs nm), .int .i64 1, .int .i64 (k : Nat)] 105)) w' → w'.cell? ⟨w.heap.size, 0, none⟩ = some (.string (bs nm)) := fun w' hb => (hb.cell (by simp)).trans (by simp)
  have k1 : ∀ w', Below (w.alloc (.cells #[.string (bs nm), .int .i64 1, .int .i64 (k : Nat)] 105)).heap.size (w.alloc (.cells #[.string (bs nm), .int .i64 1, .int .i64 (k : Nat)] 105)) w' → w'.cell? ⟨w.heap.size, 1, none⟩ = some (.int .i64 1) := fun w' hb => (hb.cell (by simp)).trans (by simp)
  have k2 : ∀ w', Below (w.alloc (.cells #[.string (bs nm), .int .i64 1, .int .i64 (k : Nat)] 105)).heap.size (w.alloc (.cells #[.string (bs nm), .int .i64 1, .int .i64 (k : Nat)] 105)) w' → w'.cell? ⟨w.heap.size, 2, none⟩ = some (.int .i64 (k : Nat)) := fun w' hb => (hb.cell (by simp)).trans (by simp)
  have HB : Hid (Below w.heap.size w (w.alloc (.cells #[.string (bs nm), .int .i64 1, .int .i64 (k : Nat)] 105))) := (Below.refl _ _).alloc (Nat.le_refl _) _
  have k9 : ∀ w', Below (w.alloc (.cells #[.string (bs nm), .int .i64 1, .int .i64 (k : Nat)] 105)).heap.size (w.alloc (.cells #[.string (bs nm), .int .i64 1, .int .i64 (k : Nat)] 105)) w' → w'.cell? ⟨16, 1, none⟩ = some (.string (bs Mil.wBool)) := fun w' hb => by
    have hb' : Below w.heap.size w w' := below_step HB hb
    exact (hb'.cell (lt_of_cell cty)).trans cty
  generalize hW : w.alloc (.cells #[.string (bs nm), .int .i64 1, .int .i64 (k : Nat)] 105) = W at HB k0 k1 k2 k9 ⊢
  have HPW : Hid (Pl a W) := HP.out.below HB
  have HBW : Hid (Below w.heap.size w W) := HB
  clear hW HB HP cty
  go_region_held3 (fun w' => Below W.heap.size W w') (first | assumption | exact (Below.refl _ _).drew | exact Below.alloc (by assumption) (Below.size (by assumption)) _) (first
    | (go_at_call 121; refine (formatInt_any a k HK.out _ ?_).mono ?_; exact HPW.out.below (by assumption); rintro e w3 ⟨rfl, hbw3⟩; have hBw3 : Below W.heap.size W w3 := below_step (by assumption) hbw3))
  all_goals go_wp2
  all_goals go_ret
  all_goals exact ⟨HG.out, below_step HBW.out (by assumption)⟩

set_option maxHeartbeats 4000000 in
theorem line_eq1 (a : Nat → Addr) (nm : Mil.Bytes) (hn : nm.length ≤ 12) (p : Mil.E) (tp : TypeId) (yp : Value) (hep : ev p = .iface tp yp) (hl : (Mil.txt p).length ≤ 24000) (hp : TC a p) (w : World) (hP : Pl a w) :
    Calls Tryz.prog 127 #[.agg #[.string (bs nm), .int .i64 1, .iface tp yp]] w (TxPost (Mil.lineText ⟨3, nm, 1, 0, [], p⟩) w) := by
  have HP : Hid (Pl a w) := hP
  obtain ⟨tq, hty⟩ := hP.l.types
  have cty : w.cell? ⟨16, 1, none⟩ = some (.string (bs Mil.wBool)) := by rw [cell_of_row w _ 1 _ _ _ hty]; rfl
  have z9 : (bs Mil.wBool).size = 4 := rfl
  have C1 : Hid (∀ w', Pl a w' → Calls Tryz.prog 128 #[.iface tp yp] w' (TxPost (Mil.txt p) w')) := by
    intro w' h
    rw [← hep]
    exact hp w' h
  have z1 : (bs nm).size ≤ 12 := by rw [bs_size]; exact hn
  have z2 : (bs (Mil.txt p)).size ≤ 24000 := by rw [bs_size]; exact hl
  have n1 : ¬ 9223372036854775807 < (bs nm).size + 3 := by omega
  have n2 : ¬ 9223372036854775807 < (bs nm).size + 3 + (bs Mil.wBool).size := by omega
  have n3 : ¬ 9223372036854775807 < (bs nm).size + 3 + (bs Mil.wBool).size + 3 := by omega
  have n4 : ¬ 9223372036854775807 < (bs nm).size + 3 + (bs Mil.wBool).size + 3 + (bs (Mil.txt p)).size := by omega
  have HG : Hid (Ending.returned (.string (bs nm ++ bs Mil.colonB ++ bs Mil.wBool ++ bs Mil.isB ++ bs (Mil.txt p))) = .returned (.string (bs (Mil.lineText ⟨3, nm, 1, 0, [], p⟩)))) := by
    show _ = _
    rw [bs_add, bs_add, bs_add, bs_add]
    refine congrArg (fun z => Ending.returned (Value.string (bs z))) ?_
    simp only [Mil.lineText, List.append_assoc]
    try rfl
  clear hP hty z9 z1 z2 hn hl hp hep
  go_enter Tryz.func127, Tryz.ntmps127
  go_wp2_with fail
  have k0 : ∀ w', Below (w.alloc (.cells #[.string (bs nm), .int .i64 1, .iface tp yp] 113)).heap.size (w.alloc (.cells #[.string (bs nm), .int .i64 1, .iface tp yp] 113)) w' → w'.cell? ⟨w.heap.size, 0, none⟩ = some (.string (bs nm)) := fun w' hb => (hb.cell (by simp)).trans (by simp)
  have k1 : ∀ w', Below (w.alloc (.cells #[.string (bs nm), .int .i64 1, .iface tp yp] 113)).heap.size (w.alloc (.cells #[.string (bs nm), .int .i64 1, .iface tp yp] 113)) w' → w'.cell? ⟨w.heap.size, 1, none⟩ = some (.int .i64 1) := fun w' hb => (hb.cell (by simp)).trans (by simp)
  have k2 : ∀ w', Below (w.alloc (.cells #[.string (bs nm), .int .i64 1, .iface tp yp] 113)).heap.size (w.alloc (.cells #[.string (bs nm), .int .i64 1, .iface tp yp] 113)) w' → w'.cell? ⟨w.heap.size, 2, none⟩ = some (.iface tp yp) := fun w' hb => (hb.cell (by simp)).trans (by simp)
  have HB : Hid (Below w.heap.size w (w.alloc (.cells #[.string (bs nm), .int .i64 1, .iface tp yp] 113))) := (Below.refl _ _).alloc (Nat.le_refl _) _
  have k9 : ∀ w', Below (w.alloc (.cells #[.string (bs nm), .int .i64 1, .iface tp yp] 113)).heap.size (w.alloc (.cells #[.string (bs nm), .int .i64 1, .iface tp yp] 113)) w' → w'.cell? ⟨16, 1, none⟩ = some (.string (bs Mil.wBool)) := fun w' hb => by
    have hb' : Below w.heap.size w w' := below_step HB hb
    exact (hb'.cell (lt_of_cell cty)).trans cty
  generalize hW : w.alloc (.cells #[.string (bs nm), .int .i64 1, .iface tp yp] 113) = W at HB k0 k1 k2 k9 ⊢
  have HPW : Hid (Pl a W) := HP.out.below HB
  have HBW : Hid (Below w.heap.size w W) := HB
  clear hW HB HP cty
  go_region_held3 (fun w' => Below W.heap.size W w') (first | assumption | exact (Below.refl _ _).drew | exact Below.alloc (by assumption) (Below.size (by assumption)) _) (first
    | (go_at_call 128; (with_reducible refine (C1.out _ ?_).mono ?_); exact HPW.out.below (by assumption); rintro e w3 ⟨rfl, hbw3⟩; have hBw3 : Below W.heap.size W w3 := below_step (by assumption) hbw3))
  all_goals go_wp2
  all_goals go_ret
  all_goals exact ⟨HG.out, below_step HBW.out (by assumption)⟩

set_option maxHeartbeats 2000000 in
theorem line_out (x : Mil.Bytes) (r : List Mil.Bytes) (hx : ∀ y, y ∈ x :: r → y.length ≤ 12) (hr : r.length ≤ 600) (b : Nat) (v : Value) (w : World) (ho : w.ownsRow b 9 1 v (x :: r).length (strs (x :: r))) :
    Calls Tryz.prog 122 #[.agg #[v]] w (TxPost (Mil.lineText ⟨2, [], 0, 0, x :: r, Mil.eNil⟩) w) := by
  obtain ⟨hl, ⟨rfl, h0⟩ | ⟨g, cap, cur, rfl, hb, hg, hn, hm, hsz, htk⟩⟩ := ho
  · simp at h0
  have hjl : (Lib.join (x :: r) Mil.commaB).length ≤ 20000 := by
    rw [Lib.join_length]
    have lens : ∀ l : List Mil.Bytes, (∀ y, y ∈ l → y.length ≤ 12) → Lib.lens l ≤ 12 * l.length := by
      intro l
      induction l with
      | nil => intro _; simp [Lib.lens]
      | cons y l ih =>
        intro h
        have h1 := h y (by simp)
        have h2 := ih (fun z hz => h z (by simp [hz]))
        simp [Lib.lens] at h2 ⊢
        omega
    have := lens (x :: r) hx
    simp [Mil.commaB] at this ⊢
    omega
  have hcell : ∀ w', Below w.heap.size w w' → ∀ (j : Nat) (y : ByteArray), ((x :: r).map bs)[j]? = some y → w'.cell? ⟨g, 0 + j, none⟩ = some (.string y) := by
    intro w' hw j y hj
    have hlt : g < w.heap.size := (Array.getElem?_eq_some_iff.1 hg).1
    rw [hw.cell (p := ⟨g, 0 + j, none⟩) hlt, cell_of_row w g (0 + j) _ _ _ hg, Nat.zero_add]
    have h1 : (strs (x :: r))[j]? = some (.string y) := by
      rw [List.getElem?_map] at hj ⊢
      obtain ⟨z, hz, rfl⟩ := Option.map_eq_some_iff.1 hj
      rw [hz]; rfl
    rw [← htk, List.getElem?_take] at h1
    split at h1
    · simpa using h1
    · cases h1
  have e1 : (((x :: r).map bs).map (fun y : ByteArray => y.data.toList)) = x :: r := by
    rw [List.map_map]
    exact List.map_id _
  have hJ : Hid (∀ w', Below w.heap.size w w' → Calls Tryz.prog 123 #[.slice (some ⟨g, 0, none⟩) (x :: r).length cap, .string (bs Mil.commaB)] w' (TxPost (Mil.namesText (x :: r)) w')) := by
    intro w' hw
    have hlt : g < w'.heap.size := Nat.lt_of_lt_of_le (Array.getElem?_eq_some_iff.1 hg).1 hw.size
    have hj := Tryz.strings_Join g 0 cap ((x :: r).map bs) (bs Mil.commaB) w' (hcell w' hw) hlt (by simp; omega) (by rw [List.length_map]; exact hn) (by rw [e1]; exact Nat.le_trans hjl (by decide))
    rw [e1, List.length_map] at hj
    rw [Mil.names_join]
    exact hj
  have z1 : (bs (Mil.namesText (x :: r))).size ≤ 20000 := by rw [bs_size, Mil.names_join]; exact hjl
  have HG : Hid (Ending.returned (.string (bs (Mil.wOutput ++ Mil.blank) ++ bs (Mil.namesText (x :: r)))) = .returned (.string (bs (Mil.lineText ⟨2, [], 0, 0, x :: r, Mil.eNil⟩)))) := by
    show _ = _
    rw [bs_add]
    rfl
  generalize hN : Mil.namesText (x :: r) = nt at *
  generalize (x :: r).length = ln at *
  clear hjl hcell e1 htk hsz hg hl hx hr hN hb hm hn
  go_enter Tryz.func122, Tryz.ntmps122
  go_wp2_with fail
  have HB : Below w.heap.size w (w.alloc (.cells #[.slice (some ⟨g, 0, none⟩) ln cap] 108)) := (Below.refl _ _).alloc (Nat.le_refl _) _
  refine (hJ.out _ HB).mono ?_
  rintro e w1 ⟨rfl, hb1⟩
  have HB1 : Hid (Below w.heap.size w w1) := below_step HB hb1
  clear HB hb1
  go_wp2
  go_ret
  exact ⟨HG.out, HB1.out⟩

end Go.Proofs.YteheagaiphhhlaaGreatDoor
