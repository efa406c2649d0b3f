/-
  prefixedText, pairedText.
-/
import Derived.Test.YtfoabfffmjljmaaGreatDoorTxb
namespace Go.Proofs.YtfoabfffmjljmaaGreatDoor
open Go.RowKit

theorem t_preL (u : Int) (x : Mil.Bytes) (u1 : Value) (w : World) : Calls Tryz.prog 139 #[.agg #[.int .i64 u, .string (bs x), u1]] w (NuP (Mil.preLvl x) w) := t_pre u x u1 w
theorem brack_le (t l : Nat) (x : Mil.Bytes) : (Mil.brack t l x).length ≤ x.length + 2 := by
  unfold Mil.brack
  split
  · simp [Mil.sOpen, Mil.sShut]
  · omega

set_option maxHeartbeats 2000000 in
theorem prefixed_any (a : Nat → Addr) (x : Mil.Bytes) (hx : x = Mil.wNot ∨ x = Mil.sMinus) (p : Mil.E) (hl : (Mil.txt p).length ≤ 24000) (hp : OT a p) (u : Int) (vp : Value) (hvp : Evs p vp) (w : World) (hP : Pl a w) :
    Calls Tryz.prog 134 #[.agg #[.int .i64 u, .string (bs x), vp]] w (TxPost (Mil.txt (Mil.ePre x p)) w) := by
  have HP : Hid (Pl a w) := hP
  have HO : Hid (∀ (w : World) (l : Nat), Pl a w → Calls Tryz.prog 138 #[vp, .int .i64 (l : Nat)] w (TxPost (Mil.brack (Mil.tight p) l (Mil.txt p)) w)) := hp vp hvp
  have hsz : (bs (Mil.brack (Mil.tight p) (Mil.preLvl x) (Mil.txt p))).size ≤ 24002 := by rw [bs_size]; have := brack_le (Mil.tight p) (Mil.preLvl x) (Mil.txt p); omega
  clear hP hp hl hvp
  go_enter Tryz.func134, Tryz.ntmps134
  go_wp2_with fail
  have HB : Hid (Below w.heap.size w (w.alloc (.cells #[.int .i64 u, .string (bs x), vp] 136))) := (Below.refl _ _).alloc (Nat.le_refl _) _
  have k0 : ∀ w', Below (w.alloc (.cells #[.int .i64 u, .string (bs x), vp] 136)).heap.size (w.alloc (.cells #[.int .i64 u, .string (bs x), vp] 136)) w' → w'.cell? ⟨w.heap.size, 1, none⟩ = some (.string (bs x)) :=
    fun w' hb => (hb.cell (by simp)).trans (by simp)
  have k1 : ∀ w', Below (w.alloc (.cells #[.int .i64 u, .string (bs x), vp] 136)).heap.size (w.alloc (.cells #[.int .i64 u, .string (bs x), vp] 136)) w' → w'.cell? ⟨w.heap.size, 2, none⟩ = some vp :=
    fun w' hb => (hb.cell (by simp)).trans (by simp)
  have k2 : ∀ w', Below (w.alloc (.cells #[.int .i64 u, .string (bs x), vp] 136)).heap.size (w.alloc (.cells #[.int .i64 u, .string (bs x), vp] 136)) w' → w'.cell? ⟨w.heap.size, 0, none⟩ = some (.int .i64 u) :=
    fun w' hb => (hb.cell (by simp)).trans (by simp)
  generalize hW : w.alloc (.cells #[.int .i64 u, .string (bs x), vp] 136) = W at HB k0 k1 k2 ⊢
  have HBW : Hid (Below w.heap.size w W) := HB
  clear hW
  go_region_held3 (fun w' => Below W.heap.size W w') (first | assumption | exact (Below.refl _ _).drew) (first
    | (go_at_call 139; refine (t_preL u x vp _).mono ?_; rintro e w2 ⟨rfl, hb2⟩; have hB2 : Below W.heap.size W w2 := below_step (by assumption) hb2)
    | (go_at_call 138; refine (HO.out _ _ ?_).mono ?_; exact (HP.out.below HBW.out).below (by assumption); rintro e w3 ⟨rfl, hb3⟩; have hB3 : Below W.heap.size W w3 := below_step (by assumption) hb3))
  have HB3 : Hid (Below w.heap.size w w3) := below_step HBW.out hB3
  have q0 := k0 w3 hB3
  clear k0 k1 k2 hb2 hB2 hb3 hB3 HB HO HP
  rcases hx with hx | hx
  · have hb : ((bs x).toList == [110, 111, 116]) = true := by rw [Lib.toList_data, bs_list, hx]; rfl
    have HX : Hid (x = Mil.wNot) := hx
    clear hx
    go_wp2
    go_ret
    refine ⟨?_, HB3.out⟩
    have hxx := HX.out
    subst hxx
    show Ending.returned (.string (bs (Mil.wNot ++ Mil.blank) ++ bs (Mil.brack (Mil.tight p) 3 (Mil.txt p)))) = _
    rw [bs_add]; rfl
  · have hb : ((bs x).toList == [110, 111, 116]) = false := by rw [Lib.toList_data, bs_list, hx]; rfl
    have HX : Hid (x = Mil.sMinus) := hx
    have hsx : (bs x).size ≤ 1 := by rw [bs_size, hx]; decide
    clear hx
    go_wp2
    go_ret
    refine ⟨?_, HB3.out⟩
    have hxx := HX.out
    subst hxx
    show Ending.returned (.string (bs Mil.sMinus ++ bs (Mil.brack (Mil.tight p) 7 (Mil.txt p)))) = _
    rw [bs_add]; rfl

theorem tight_le9 (x : Mil.Bytes) : Mil.tightOf x ≤ 9 := by
  unfold Mil.tightOf
  repeat' split
  all_goals omega

end Go.Proofs.YtfoabfffmjljmaaGreatDoor
