/-
  The lines of items. (Printed by gen_print2.py.)
-/
import Derived.Test.YtkngcglmfbdblaaGreatDoorTxf
namespace Go.Proofs.YtkngcglmfbdblaaGreatDoor
open Go.RowKit

namespace Mil
def lineText (i : It) : Bytes :=
  if i.kind = 1 then wInput ++ blank ++ i.nm ++ colonB ++ tyText i.ty ++ blank ++ wEvery ++ blank ++ Lib.decDigits i.every
  else if i.kind = 2 then wOutput ++ blank ++ namesText i.names
  else i.nm ++ colonB ++ tyText i.ty ++ isB ++ txt i.body
theorem item_line (i : It) : itemText i = lineText i ++ endB := by
  unfold itemText lineText
  split
  · rfl
  · split <;> rfl
theorem more_join : ∀ r : List Bytes, moreText r = Lib.joinTail commaB r
  | [] => rfl
  | y :: r => by
    rw [moreText, more_join r]
    simp [Lib.joinTail]
theorem names_join (x : Bytes) (r : List Bytes) : namesText (x :: r) = Lib.join (x :: r) commaB := by
  rw [namesText_cons, Lib.join_cons, more_join]
end Mil

set_option maxHeartbeats 4000000 in
theorem line_input0 (a : Nat → Addr) (u : Int) (nm : Mil.Bytes) (hn : nm.length ≤ 12) (k : Nat) (hk : k ≤ 1000000) (w : World) (hP : Pl a w) :
    Calls Tryz.prog 124 #[.agg #[.int .i64 u, .string (bs nm), .int .i64 0, .int .i64 (k : Nat)]] w (TxPost (Mil.lineText ⟨1, nm, 0, k, [], Mil.eNil⟩) w) := by
  have HP : Hid (Pl a w) := hP
  obtain ⟨tq, hty⟩ := hP.l.types
  have cty : w.cell? ⟨16, 0, none⟩ = some (.string (bs Mil.wInt)) := by rw [cell_of_row w _ 0 _ _ _ hty]; rfl
  have z9 : (bs Mil.wInt).size = 3 := rfl
  have HK : Hid ((k : Int) ≤ Mil.maxInt) := by show _ ≤ _; simp only [Mil.maxInt]; omega
  have z1 : (bs nm).size ≤ 12 := by rw [bs_size]; exact hn
  have z2 : (bs (Lib.decDigits k)).size ≤ 20 := by rw [bs_size]; exact Mil.digits_len HK.out
  have n1 : ¬ 9223372036854775807 < 6 + (bs nm).size := by omega
  have n2 : ¬ 9223372036854775807 < 6 + (bs nm).size + 3 := by omega
  have n3 : ¬ 9223372036854775807 < 6 + (bs nm).size + 3 + (bs Mil.wInt).size := by omega
  have n4 : ¬ 9223372036854775807 < 6 + (bs nm).size + 3 + (bs Mil.wInt).size + 7 := by omega
  have n5 : ¬ 9223372036854775807 < 6 + (bs nm).size + 3 + (bs Mil.wInt).size + 7 + (bs (Lib.decDigits k)).size := by omega
  have HG : Hid (Ending.returned (.string (bs (Mil.wInput ++ Mil.blank) ++ bs nm ++ bs Mil.colonB ++ bs Mil.wInt ++ bs (Mil.blank ++ Mil.wEvery ++ Mil.blank) ++ bs (Lib.decDigits k))) = .returned (.string (bs (Mil.lineText ⟨1, nm, 0, k, [], Mil.eNil⟩)))) := by
    show _ = _
    rw [bs_add, bs_add, bs_add, bs_add, bs_add]
    refine congrArg (fun z => Ending.returned (Value.string (bs z))) ?_
    simp only [Mil.lineText, if_true, List.append_assoc]
    try rfl
  clear hP hty z9 z1 z2 hn hk
  go_enter Tryz.func124, Tryz.ntmps124
  go_wp2_with fail
  have k0 : ∀ w', Below (w.alloc (.cells #[.int .i64 u, .string (bs nm), .int .i64 0, .int .i64 (k : Nat)] 112)).heap.size (w.alloc (.cells #[.int .i64 u, .string (bs nm), .int .i64 0, .int .i64 (k : Nat)] 112)) w' → w'.cell? ⟨w.heap.size, 0, none⟩ = some (.int .i64 u) := fun w' hb => (hb.cell (by simp)).trans (by simp)
  have k1 : ∀ w', Below (w.alloc (.cells #[.int .i64 u, .string (bs nm), .int .i64 0, .int .i64 (k : Nat)] 112)).heap.size (w.alloc (.cells #[.int .i64 u, .string (bs nm), .int .i64 0, .int .i64 (k : Nat)] 112)) w' → w'.cell? ⟨w.heap.size, 1, none⟩ = some (.string (bs nm)) := fun w' hb => (hb.cell (by simp)).trans (by simp)
  have k2 : ∀ w', Below (w.alloc (.cells #[.int .i64 u, .string (bs nm), .int .i64 0, .int .i64 (k : Nat)] 112)).heap.size (w.alloc (.cells #[.int .i64 u, .string (bs nm), .int .i64 0, .int .i64 (k : Nat)] 112)) w' → w'.cell? ⟨w.heap.size, 2, none⟩ = some (.int .i64 0) := fun w' hb => (hb.cell (by simp)).trans (by simp)
  have k3 : ∀ w', Below (w.alloc (.cells #[.int .i64 u, .string (bs nm), .int .i64 0, .int .i64 (k : Nat)] 112)).heap.size (w.alloc (.cells #[.int .i64 u, .string (bs nm), .int .i64 0, .int .i64 (k : Nat)] 112)) w' → w'.cell? ⟨w.heap.size, 3, none⟩ = some (.int .i64 (k : Nat)) := fun w' hb => (hb.cell (by simp)).trans (by simp)
  have HB : Hid (Below w.heap.size w (w.alloc (.cells #[.int .i64 u, .string (bs nm), .int .i64 0, .int .i64 (k : Nat)] 112))) := (Below.refl _ _).alloc (Nat.le_refl _) _
  have k9 : ∀ w', Below (w.alloc (.cells #[.int .i64 u, .string (bs nm), .int .i64 0, .int .i64 (k : Nat)] 112)).heap.size (w.alloc (.cells #[.int .i64 u, .string (bs nm), .int .i64 0, .int .i64 (k : Nat)] 112)) w' → w'.cell? ⟨16, 0, none⟩ = some (.string (bs Mil.wInt)) := fun w' hb => by
    have hb' : Below w.heap.size w w' := below_step HB hb
    exact (hb'.cell (lt_of_cell cty)).trans cty
  generalize hW : w.alloc (.cells #[.int .i64 u, .string (bs nm), .int .i64 0, .int .i64 (k : Nat)] 112) = W at HB k0 k1 k2 k3 k9 ⊢
  have HPW : Hid (Pl a W) := HP.out.below HB
  have HBW : Hid (Below w.heap.size w W) := HB
  clear hW HB HP cty
  go_region_held3 (fun w' => Below W.heap.size W w') (first | assumption | exact (Below.refl _ _).drew | exact Below.alloc (by assumption) (Below.size (by assumption)) _) (first
    | (go_at_call 125; refine (formatInt_any a k HK.out _ ?_).mono ?_; exact HPW.out.below (by assumption); rintro e w3 ⟨rfl, hbw3⟩; have hBw3 : Below W.heap.size W w3 := below_step (by assumption) hbw3))
  all_goals go_wp2
  all_goals go_ret
  all_goals exact ⟨HG.out, below_step HBW.out (by assumption)⟩

set_option maxHeartbeats 4000000 in
theorem line_eq0 (a : Nat → Addr) (u : Int) (nm : Mil.Bytes) (hn : nm.length ≤ 12) (p : Mil.E) (tp : TypeId) (yp : Value) (hep : Evs p (.iface tp yp)) (hl : (Mil.txt p).length ≤ 24000) (hp : TC a p) (w : World) (hP : Pl a w) :
    Calls Tryz.prog 131 #[.agg #[.int .i64 u, .string (bs nm), .int .i64 0, .iface tp yp]] w (TxPost (Mil.lineText ⟨3, nm, 0, 0, [], p⟩) w) := by
  have HP : Hid (Pl a w) := hP
  obtain ⟨tq, hty⟩ := hP.l.types
  have cty : w.cell? ⟨16, 0, none⟩ = some (.string (bs Mil.wInt)) := by rw [cell_of_row w _ 0 _ _ _ hty]; rfl
  have z9 : (bs Mil.wInt).size = 3 := rfl
  have C1 : Hid (∀ w', Pl a w' → Calls Tryz.prog 132 #[.iface tp yp] w' (TxPost (Mil.txt p) w')) := by
    intro w' h
    exact hp _ hep w' h
  have z1 : (bs nm).size ≤ 12 := by rw [bs_size]; exact hn
  have z2 : (bs (Mil.txt p)).size ≤ 24000 := by rw [bs_size]; exact hl
  have n1 : ¬ 9223372036854775807 < (bs nm).size + 3 := by omega
  have n2 : ¬ 9223372036854775807 < (bs nm).size + 3 + (bs Mil.wInt).size := by omega
  have n3 : ¬ 9223372036854775807 < (bs nm).size + 3 + (bs Mil.wInt).size + 3 := by omega
  have n4 : ¬ 9223372036854775807 < (bs nm).size + 3 + (bs Mil.wInt).size + 3 + (bs (Mil.txt p)).size := by omega
  have HG : Hid (Ending.returned (.string (bs nm ++ bs Mil.colonB ++ bs Mil.wInt ++ bs Mil.isB ++ bs (Mil.txt p))) = .returned (.string (bs (Mil.lineText ⟨3, nm, 0, 0, [], p⟩)))) := by
    show _ = _
    rw [bs_add, bs_add, bs_add, bs_add]
    refine congrArg (fun z => Ending.returned (Value.string (bs z))) ?_
    simp only [Mil.lineText, List.append_assoc]
    try rfl
  clear hP hty z9 z1 z2 hn hl hp hep
  go_enter Tryz.func131, Tryz.ntmps131
  go_wp2_with fail
  have k0 : ∀ w', Below (w.alloc (.cells #[.int .i64 u, .string (bs nm), .int .i64 0, .iface tp yp] 120)).heap.size (w.alloc (.cells #[.int .i64 u, .string (bs nm), .int .i64 0, .iface tp yp] 120)) w' → w'.cell? ⟨w.heap.size, 0, none⟩ = some (.int .i64 u) := fun w' hb => (hb.cell (by simp)).trans (by simp)
  have k1 : ∀ w', Below (w.alloc (.cells #[.int .i64 u, .string (bs nm), .int .i64 0, .iface tp yp] 120)).heap.size (w.alloc (.cells #[.int .i64 u, .string (bs nm), .int .i64 0, .iface tp yp] 120)) w' → w'.cell? ⟨w.heap.size, 1, none⟩ = some (.string (bs nm)) := fun w' hb => (hb.cell (by simp)).trans (by simp)
  have k2 : ∀ w', Below (w.alloc (.cells #[.int .i64 u, .string (bs nm), .int .i64 0, .iface tp yp] 120)).heap.size (w.alloc (.cells #[.int .i64 u, .string (bs nm), .int .i64 0, .iface tp yp] 120)) w' → w'.cell? ⟨w.heap.size, 2, none⟩ = some (.int .i64 0) := fun w' hb => (hb.cell (by simp)).trans (by simp)
  have k3 : ∀ w', Below (w.alloc (.cells #[.int .i64 u, .string (bs nm), .int .i64 0, .iface tp yp] 120)).heap.size (w.alloc (.cells #[.int .i64 u, .string (bs nm), .int .i64 0, .iface tp yp] 120)) w' → w'.cell? ⟨w.heap.size, 3, none⟩ = some (.iface tp yp) := fun w' hb => (hb.cell (by simp)).trans (by simp)
  have HB : Hid (Below w.heap.size w (w.alloc (.cells #[.int .i64 u, .string (bs nm), .int .i64 0, .iface tp yp] 120))) := (Below.refl _ _).alloc (Nat.le_refl _) _
  have k9 : ∀ w', Below (w.alloc (.cells #[.int .i64 u, .string (bs nm), .int .i64 0, .iface tp yp] 120)).heap.size (w.alloc (.cells #[.int .i64 u, .string (bs nm), .int .i64 0, .iface tp yp] 120)) w' → w'.cell? ⟨16, 0, none⟩ = some (.string (bs Mil.wInt)) := fun w' hb => by
    have hb' : Below w.heap.size w w' := below_step HB hb
    exact (hb'.cell (lt_of_cell cty)).trans cty
  generalize hW : w.alloc (.cells #[.int .i64 u, .string (bs nm), .int .i64 0, .iface tp yp] 120) = W at HB k0 k1 k2 k3 k9 ⊢
  have HPW : Hid (Pl a W) := HP.out.below HB
  have HBW : Hid (Below w.heap.size w W) := HB
  clear hW HB HP cty
  go_region_held3 (fun w' => Below W.heap.size W w') (first | assumption | exact (Below.refl _ _).drew | exact Below.alloc (by assumption) (Below.size (by assumption)) _) (first
    | (go_at_call 132; (with_reducible refine (C1.out _ ?_).mono ?_); exact HPW.out.below (by assumption); rintro e w3 ⟨rfl, hbw3⟩; have hBw3 : Below W.heap.size W w3 := below_step (by assumption) hbw3))
  all_goals go_wp2
  all_goals go_ret
  all_goals exact ⟨HG.out, below_step HBW.out (by assumption)⟩

set_option maxHeartbeats 4000000 in
theorem line_input1 (a : Nat → Addr) (u : Int) (nm : Mil.Bytes) (hn : nm.length ≤ 12) (k : Nat) (hk : k ≤ 1000000) (w : World) (hP : Pl a w) :
    Calls Tryz.prog 124 #[.agg #[.int .i64 u, .string (bs nm), .int .i64 1, .int .i64 (k : Nat)]] w (TxPost (Mil.lineText ⟨1, nm, 1, k, [], Mil.eNil⟩) w) := by
  have HP : Hid (Pl a w) := hP
  obtain ⟨tq, hty⟩ := hP.l.types
  have cty : w.cell? ⟨16, 1, none⟩ = some (.string (bs Mil.wBool)) := by rw [cell_of_row w _ 1 _ _ _ hty]; rfl
  have z9 : (bs Mil.wBool).size = 4 := rfl
  have HK : Hid ((k : Int) ≤ Mil.maxInt) := by show _ ≤ _; simp only [Mil.maxInt]; omega
  have z1 : (bs nm).size ≤ 12 := by rw [bs_size]; exact hn
  have z2 : (bs (Lib.decDigits k)).size ≤ 20 := by rw [bs_size]; exact Mil.digits_len HK.out
  have n1 : ¬ 9223372036854775807 < 6 + (bs nm).size := by omega
  have n2 : ¬ 9223372036854775807 < 6 + (bs nm).size + 3 := by omega
  have n3 : ¬ 9223372036854775807 < 6 + (bs nm).size + 3 + (bs Mil.wBool).size := by omega
  have n4 : ¬ 9223372036854775807 < 6 + (bs nm).size + 3 + (bs Mil.wBool).size + 7 := by omega
  have n5 : ¬ 9223372036854775807 < 6 + (bs nm).size + 3 + (bs Mil.wBool).size + 7 + (bs (Lib.decDigits k)).size := by omega
  have HG : Hid (Ending.returned (.string (bs (Mil.wInput ++ Mil.blank) ++ bs nm ++ bs Mil.colonB ++ bs Mil.wBool ++ bs (Mil.blank ++ Mil.wEvery ++ Mil.blank) ++ bs (Lib.decDigits k))) = .returned (.string (bs (Mil.lineText ⟨1, nm, 1, k, [], Mil.eNil⟩)))) := by
    show _ = _
    rw [bs_add, bs_add, bs_add, bs_add, bs_add]
    refine congrArg (fun z => Ending.returned (Value.string (bs z))) ?_
    simp only [Mil.lineText, if_true, List.append_assoc]
    try rfl
  clear hP hty z9 z1 z2 hn hk
  go_enter Tryz.func124, Tryz.ntmps124
  go_wp2_with fail
  have k0 : ∀ w', Below (w.alloc (.cells #[.int .i64 u, .string (bs nm), .int .i64 1, .int .i64 (k : Nat)] 112)).heap.size (w.alloc (.cells #[.int .i64 u, .string (bs nm), .int .i64 1, .int .i64 (k : Nat)] 112)) w' → w'.cell? ⟨w.heap.size, 0, none⟩ = some (.int .i64 u) := fun w' hb => (hb.cell (by simp)).trans (by simp)
  have k1 : ∀ w', Below (w.alloc (.cells #[.int .i64 u, .string (bs nm), .int .i64 1, .int .i64 (k : Nat)] 112)).heap.size (w.alloc (.cells #[.int .i64 u, .string (bs nm), .int .i64 1, .int .i64 (k : Nat)] 112)) w' → w'.cell? ⟨w.heap.size, 1, none⟩ = some (.string (bs nm)) := fun w' hb => (hb.cell (by simp)).trans (by simp)
  have k2 : ∀ w', Below (w.alloc (.cells #[.int .i64 u, .string (bs nm), .int .i64 1, .int .i64 (k : Nat)] 112)).heap.size (w.alloc (.cells #[.int .i64 u, .string (bs nm), .int .i64 1, .int .i64 (k : Nat)] 112)) w' → w'.cell? ⟨w.heap.size, 2, none⟩ = some (.int .i64 1) := fun w' hb => (hb.cell (by simp)).trans (by simp)
  have k3 : ∀ w', Below (w.alloc (.cells #[.int .i64 u, .string (bs nm), .int .i64 1, .int .i64 (k : Nat)] 112)).heap.size (w.alloc (.cells #[.int .i64 u, .string (bs nm), .int .i64 1, .int .i64 (k : Nat)] 112)) w' → w'.cell? ⟨w.heap.size, 3, none⟩ = some (.int .i64 (k : Nat)) := fun w' hb => (hb.cell (by simp)).trans (by simp)
  have HB : Hid (Below w.heap.size w (w.alloc (.cells #[.int .i64 u, .string (bs nm), .int .i64 1, .int .i64 (k : Nat)] 112))) := (Below.refl _ _).alloc (Nat.le_refl _) _
  have k9 : ∀ w', Below (w.alloc (.cells #[.int .i64 u, .string (bs nm), .int .i64 1, .int .i64 (k : Nat)] 112)).heap.size (w.alloc (.cells #[.int .i64 u, .string (bs nm), .int .i64 1, .int .i64 (k : Nat)] 112)) w' → w'.cell? ⟨16, 1, none⟩ = some (.string (bs Mil.wBool)) := fun w' hb => by
    have hb' : Below w.heap.size w w' := below_step HB hb
    exact (hb'.cell (lt_of_cell cty)).trans cty
  generalize hW : w.alloc (.cells #[.int .i64 u, .string (bs nm), .int .i64 1, .int .i64 (k : Nat)] 112) = W at HB k0 k1 k2 k3 k9 ⊢
  have HPW : Hid (Pl a W) := HP.out.below HB
  have HBW : Hid (Below w.heap.size w W) := HB
  clear hW HB HP cty
  go_region_held3 (fun w' => Below W.heap.size W w') (first | assumption | exact (Below.refl _ _).drew | exact Below.alloc (by assumption) (Below.size (by assumption)) _) (first
    | (go_at_call 125; refine (formatInt_any a k HK.out _ ?_).mono ?_; exact HPW.out.below (by assumption); rintro e w3 ⟨rfl, hbw3⟩; have hBw3 : Below W.heap.size W w3 := below_step (by assumption) hbw3))
  all_goals go_wp2
  all_goals go_ret
  all_goals exact ⟨HG.out, below_step HBW.out (by assumption)⟩

set_option maxHeartbeats 4000000 in
theorem line_eq1 (a : Nat → Addr) (u : Int) (nm : Mil.Bytes) (hn : nm.length ≤ 12) (p : Mil.E) (tp : TypeId) (yp : Value) (hep : Evs p (.iface tp yp)) (hl : (Mil.txt p).length ≤ 24000) (hp : TC a p) (w : World) (hP : Pl a w) :
    Calls Tryz.prog 131 #[.agg #[.int .i64 u, .string (bs nm), .int .i64 1, .iface tp yp]] w (TxPost (Mil.lineText ⟨3, nm, 1, 0, [], p⟩) w) := by
  have HP : Hid (Pl a w) := hP
  obtain ⟨tq, hty⟩ := hP.l.types
  have cty : w.cell? ⟨16, 1, none⟩ = some (.string (bs Mil.wBool)) := by rw [cell_of_row w _ 1 _ _ _ hty]; rfl
  have z9 : (bs Mil.wBool).size = 4 := rfl
  have C1 : Hid (∀ w', Pl a w' → Calls Tryz.prog 132 #[.iface tp yp] w' (TxPost (Mil.txt p) w')) := by
    intro w' h
    exact hp _ hep w' h
  have z1 : (bs nm).size ≤ 12 := by rw [bs_size]; exact hn
  have z2 : (bs (Mil.txt p)).size ≤ 24000 := by rw [bs_size]; exact hl
  have n1 : ¬ 9223372036854775807 < (bs nm).size + 3 := by omega
  have n2 : ¬ 9223372036854775807 < (bs nm).size + 3 + (bs Mil.wBool).size := by omega
  have n3 : ¬ 9223372036854775807 < (bs nm).size + 3 + (bs Mil.wBool).size + 3 := by omega
  have n4 : ¬ 9223372036854775807 < (bs nm).size + 3 + (bs Mil.wBool).size + 3 + (bs (Mil.txt p)).size := by omega
  have HG : Hid (Ending.returned (.string (bs nm ++ bs Mil.colonB ++ bs Mil.wBool ++ bs Mil.isB ++ bs (Mil.txt p))) = .returned (.string (bs (Mil.lineText ⟨3, nm, 1, 0, [], p⟩)))) := by
    show _ = _
    rw [bs_add, bs_add, bs_add, bs_add]
    refine congrArg (fun z => Ending.returned (Value.string (bs z))) ?_
    simp only [Mil.lineText, List.append_assoc]
    try rfl
  clear hP hty z9 z1 z2 hn hl hp hep
  go_enter Tryz.func131, Tryz.ntmps131
  go_wp2_with fail
  have k0 : ∀ w', Below (w.alloc (.cells #[.int .i64 u, .string (bs nm), .int .i64 1, .iface tp yp] 120)).heap.size (w.alloc (.cells #[.int .i64 u, .string (bs nm), .int .i64 1, .iface tp yp] 120)) w' → w'.cell? ⟨w.heap.size, 0, none⟩ = some (.int .i64 u) := fun w' hb => (hb.cell (by simp)).trans (by simp)
  have k1 : ∀ w', Below (w.alloc (.cells #[.int .i64 u, .string (bs nm), .int .i64 1, .iface tp yp] 120)).heap.size (w.alloc (.cells #[.int .i64 u, .string (bs nm), .int .i64 1, .iface tp yp] 120)) w' → w'.cell? ⟨w.heap.size, 1, none⟩ = some (.string (bs nm)) := fun w' hb => (hb.cell (by simp)).trans (by simp)
  have k2 : ∀ w', Below (w.alloc (.cells #[.int .i64 u, .string (bs nm), .int .i64 1, .iface tp yp] 120)).heap.size (w.alloc (.cells #[.int .i64 u, .string (bs nm), .int .i64 1, .iface tp yp] 120)) w' → w'.cell? ⟨w.heap.size, 2, none⟩ = some (.int .i64 1) := fun w' hb => (hb.cell (by simp)).trans (by simp)
  have k3 : ∀ w', Below (w.alloc (.cells #[.int .i64 u, .string (bs nm), .int .i64 1, .iface tp yp] 120)).heap.size (w.alloc (.cells #[.int .i64 u, .string (bs nm), .int .i64 1, .iface tp yp] 120)) w' → w'.cell? ⟨w.heap.size, 3, none⟩ = some (.iface tp yp) := fun w' hb => (hb.cell (by simp)).trans (by simp)
  have HB : Hid (Below w.heap.size w (w.alloc (.cells #[.int .i64 u, .string (bs nm), .int .i64 1, .iface tp yp] 120))) := (Below.refl _ _).alloc (Nat.le_refl _) _
  have k9 : ∀ w', Below (w.alloc (.cells #[.int .i64 u, .string (bs nm), .int .i64 1, .iface tp yp] 120)).heap.size (w.alloc (.cells #[.int .i64 u, .string (bs nm), .int .i64 1, .iface tp yp] 120)) w' → w'.cell? ⟨16, 1, none⟩ = some (.string (bs Mil.wBool)) := fun w' hb => by
    have hb' : Below w.heap.size w w' := below_step HB hb
    exact (hb'.cell (lt_of_cell cty)).trans cty
  generalize hW : w.alloc (.cells #[.int .i64 u, .string (bs nm), .int .i64 1, .iface tp yp] 120) = W at HB k0 k1 k2 k3 k9 ⊢
  have HPW : Hid (Pl a W) := HP.out.below HB
  have HBW : Hid (Below w.heap.size w W) := HB
  clear hW HB HP cty
  go_region_held3 (fun w' => Below W.heap.size W w') (first | assumption | exact (Below.refl _ _).drew | exact Below.alloc (by assumption) (Below.size (by assumption)) _) (first
    | (go_at_call 132; (with_reducible refine (C1.out _ ?_).mono ?_); exact HPW.out.below (by assumption); rintro e w3 ⟨rfl, hbw3⟩; have hBw3 : Below W.heap.size W w3 := below_step (by assumption) hbw3))
  all_goals go_wp2
  all_goals go_ret
  all_goals exact ⟨HG.out, below_step HBW.out (by assumption)⟩

end Go.Proofs.YtkngcglmfbdblaaGreatDoor
