/-
  pairedText. (Printed by gen_print2.py.)
-/
import Derived.Test.YtfoabfffmjljmaaGreatDoorTxc
namespace Go.Proofs.YtfoabfffmjljmaaGreatDoor
open Go.RowKit

set_option maxHeartbeats 4000000 in
theorem paired_any (a : Nat → Addr) (x : Mil.Bytes) (hx : Mil.tightOf x ≠ 9) (p q : Mil.E) (hl : (Mil.txt p).length ≤ 24000) (hl2 : (Mil.txt q).length ≤ 24000) (hp : OT a p) (hq : OT a q) (u : Int) (vp vq : Value) (hvp : Evs p vp) (hvq : Evs q vq) (w : World) (hP : Pl a w) :
    Calls Tryz.prog 135 #[.agg #[.int .i64 u, .string (bs x), vp, vq]] w (TxPost (Mil.txt (Mil.eTwo x p q)) w) := by
  have HP : Hid (Pl a w) := hP
  have HO : Hid (∀ (w : World) (l : Nat), Pl a w → Calls Tryz.prog 138 #[vp, .int .i64 (l : Nat)] w (TxPost (Mil.brack (Mil.tight p) l (Mil.txt p)) w)) := hp vp hvp
  have HQ : Hid (∀ (w : World) (l : Nat), Pl a w → Calls Tryz.prog 138 #[vq, .int .i64 (l : Nat)] w (TxPost (Mil.brack (Mil.tight q) l (Mil.txt q)) w)) := hq vq hvq
  have HX : Hid (Mil.tightOf x ≠ 9) := hx
  have hs1 : (bs (Mil.brack (Mil.tight p) (Mil.leftOf (Mil.tightOf x)) (Mil.txt p))).size ≤ 24002 := by rw [bs_size]; have := brack_le (Mil.tight p) (Mil.leftOf (Mil.tightOf x)) (Mil.txt p); omega
  have hs2 : (bs (Mil.brack (Mil.tight q) (Mil.tightOf x + 1) (Mil.txt q))).size ≤ 24002 := by rw [bs_size]; have := brack_le (Mil.tight q) (Mil.tightOf x + 1) (Mil.txt q); omega
  have hs3 : (bs x).size ≤ 3 := by rw [bs_size]; exact Mil.op_len hx
  have n1 : ¬ 9223372036854775807 < (bs (Mil.brack (Mil.tight p) (Mil.leftOf (Mil.tightOf x)) (Mil.txt p))).size + 1 := by omega
  have n2 : ¬ 9223372036854775807 < (bs (Mil.brack (Mil.tight p) (Mil.leftOf (Mil.tightOf x)) (Mil.txt p))).size + 1 + (bs x).size := by omega
  have n3 : ¬ 9223372036854775807 < (bs (Mil.brack (Mil.tight p) (Mil.leftOf (Mil.tightOf x)) (Mil.txt p))).size + 1 + (bs x).size + 1 := by omega
  have n4 : ¬ 9223372036854775807 < (bs (Mil.brack (Mil.tight p) (Mil.leftOf (Mil.tightOf x)) (Mil.txt p))).size + 1 + (bs x).size + 1 + (bs (Mil.brack (Mil.tight q) (Mil.tightOf x + 1) (Mil.txt q))).size := by omega
  have HG : Hid (Ending.returned (.string (bs (Mil.brack (Mil.tight p) (Mil.leftOf (Mil.tightOf x)) (Mil.txt p)) ++ bs Mil.blank ++ bs x ++ bs Mil.blank ++ bs (Mil.brack (Mil.tight q) (Mil.tightOf x + 1) (Mil.txt q)))) = .returned (.string (bs (Mil.txt (Mil.eTwo x p q))))) := by
    show _ = _
    rw [bs_add, bs_add, bs_add, bs_add]; rfl
  clear hP hp hq hx hl hl2 hs1 hs2 hs3 hvp hvq
  go_enter Tryz.func135, Tryz.ntmps135
  go_wp2_with fail
  have k0 : ∀ w', Below (w.alloc (.cells #[.int .i64 u, .string (bs x), vp, vq] 139)).heap.size (w.alloc (.cells #[.int .i64 u, .string (bs x), vp, vq] 139)) w' → w'.cell? ⟨w.heap.size, 0, none⟩ = some (.int .i64 u) := fun w' hb => (hb.cell (by simp)).trans (by simp)
  have k1 : ∀ w', Below (w.alloc (.cells #[.int .i64 u, .string (bs x), vp, vq] 139)).heap.size (w.alloc (.cells #[.int .i64 u, .string (bs x), vp, vq] 139)) w' → w'.cell? ⟨w.heap.size, 1, none⟩ = some (.string (bs x)) := fun w' hb => (hb.cell (by simp)).trans (by simp)
  have k2 : ∀ w', Below (w.alloc (.cells #[.int .i64 u, .string (bs x), vp, vq] 139)).heap.size (w.alloc (.cells #[.int .i64 u, .string (bs x), vp, vq] 139)) w' → w'.cell? ⟨w.heap.size, 2, none⟩ = some (vp) := fun w' hb => (hb.cell (by simp)).trans (by simp)
  have k3 : ∀ w', Below (w.alloc (.cells #[.int .i64 u, .string (bs x), vp, vq] 139)).heap.size (w.alloc (.cells #[.int .i64 u, .string (bs x), vp, vq] 139)) w' → w'.cell? ⟨w.heap.size, 3, none⟩ = some (vq) := fun w' hb => (hb.cell (by simp)).trans (by simp)
  have HB : Hid (Below w.heap.size w (w.alloc (.cells #[.int .i64 u, .string (bs x), vp, vq] 139))) := (Below.refl _ _).alloc (Nat.le_refl _) _
  generalize hW : w.alloc (.cells #[.int .i64 u, .string (bs x), vp, vq] 139) = W at HB k0 k1 k2 k3 ⊢
  have HBW : Hid (Below w.heap.size w W) := HB
  clear hW k0
  refine (t_two a u x HX.out vp vq _ (HP.out.below HBW.out)).mono ?_
  rintro e w1 ⟨rfl, hb1⟩
  have hlf : Mil.leftOf (Mil.tightOf x) = if Mil.tightOf x = 4 then 5 else Mil.tightOf x := rfl
  have J0 : Hid (∀ w', Below w1.heap.size w1 w' → w'.cell? ⟨w.heap.size, 1, none⟩ = some (.string (bs x))) := fun w' h => k1 w' (below_step hb1 h)
  have J1 : Hid (∀ w', Below w1.heap.size w1 w' → w'.cell? ⟨w.heap.size, 2, none⟩ = some vp) := fun w' h => k2 w' (below_step hb1 h)
  have J2 : Hid (∀ w', Below w1.heap.size w1 w' → w'.cell? ⟨w.heap.size, 3, none⟩ = some vq) := fun w' h => k3 w' (below_step hb1 h)
  have HP1 : Hid (Pl a w1) := (HP.out.below HBW.out).below hb1
  have HB1 : Hid (Below w.heap.size w w1) := below_step HBW.out hb1
  clear k1 k2 k3 hb1 HB HBW HP
  have h9 := tight_le9 x
  generalize htk : Mil.tightOf x = tk at *
  have hwr : IntKind.i64.wrap ((tk : Int) + 1) = (tk : Int) + 1 := by simp only [IntKind.wrap_i64]; omega
  by_cases h4 : tk = 4
  · have i4 : ((tk : Int) == 4) = true := by simp; omega
    have H5 : Hid (Mil.leftOf tk = tk + 1) := by show _ = _; rw [hlf, if_pos h4, h4]
    have C1 : Hid (∀ w', Pl a w' → Calls Tryz.prog 138 #[vp, .int .i64 ((tk : Int) + 1)] w' (TxPost (Mil.brack (Mil.tight p) (Mil.leftOf tk) (Mil.txt p)) w')) := by
      intro w' h'
      rw [H5.out]
      exact HO.out w' (tk + 1) h'
    have C2 : Hid (∀ w', Pl a w' → Calls Tryz.prog 138 #[vq, .int .i64 ((tk : Int) + 1)] w' (TxPost (Mil.brack (Mil.tight q) (tk + 1) (Mil.txt q)) w')) := fun w' h' => HQ.out w' (tk + 1) h'
    clear h4 hlf HO HQ
    go_wp2_with fail
    have j0 := J0.out
    have j1 := J1.out
    have j2 := J2.out
    go_region_held3 (fun w' => Below w1.heap.size w1 w') (first | assumption | exact (Below.refl _ _).drew | exact Below.alloc (by assumption) (Below.size (by assumption)) _) (first
      | (go_at_call 138; (with_reducible refine (C1.out _ ?_).mono ?_); exact HP1.out.below (by assumption); rintro e w3 ⟨rfl, hbw3⟩; have hBw3 : Below w1.heap.size w1 w3 := below_step (by assumption) hbw3)
      | (go_at_call 138; (with_reducible refine (C2.out _ ?_).mono ?_); exact HP1.out.below (by assumption); rintro e w4 ⟨rfl, hbw4⟩; have hBw4 : Below w1.heap.size w1 w4 := below_step (by assumption) hbw4))
    all_goals go_wp2
    all_goals go_ret
    all_goals exact ⟨HG.out, below_step HB1.out (by assumption)⟩
  · have i4 : ((tk : Int) == 4) = false := by simp; omega
    have H5 : Hid (Mil.leftOf tk = tk) := by show _ = _; rw [hlf, if_neg h4]
    have C1 : Hid (∀ w', Pl a w' → Calls Tryz.prog 138 #[vp, .int .i64 (tk)] w' (TxPost (Mil.brack (Mil.tight p) (Mil.leftOf tk) (Mil.txt p)) w')) := by
      intro w' h'
      rw [H5.out]
      exact HO.out w' (tk) h'
    have C2 : Hid (∀ w', Pl a w' → Calls Tryz.prog 138 #[vq, .int .i64 ((tk : Int) + 1)] w' (TxPost (Mil.brack (Mil.tight q) (tk + 1) (Mil.txt q)) w')) := fun w' h' => HQ.out w' (tk + 1) h'
    clear h4 hlf HO HQ
    go_wp2_with fail
    have j0 := J0.out
    have j1 := J1.out
    have j2 := J2.out
    go_region_held3 (fun w' => Below w1.heap.size w1 w') (first | assumption | exact (Below.refl _ _).drew | exact Below.alloc (by assumption) (Below.size (by assumption)) _) (first
      | (go_at_call 138; (with_reducible refine (C1.out _ ?_).mono ?_); exact HP1.out.below (by assumption); rintro e w3 ⟨rfl, hbw3⟩; have hBw3 : Below w1.heap.size w1 w3 := below_step (by assumption) hbw3)
      | (go_at_call 138; (with_reducible refine (C2.out _ ?_).mono ?_); exact HP1.out.below (by assumption); rintro e w4 ⟨rfl, hbw4⟩; have hBw4 : Below w1.heap.size w1 w4 := below_step (by assumption) hbw4))
    all_goals go_wp2
    all_goals go_ret
    all_goals exact ⟨HG.out, below_step HB1.out (by assumption)⟩

end Go.Proofs.YtfoabfffmjljmaaGreatDoor
