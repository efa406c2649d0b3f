/-
  The line of an output.
-/
import Derived.Test.YtfoabfffmjljmaaGreatDoorLin
import Derived.Test.YtfoabfffmjljmaaGreatDoorIto
import Derived.Deep.OwnRows
namespace Go.Proofs.YtfoabfffmjljmaaGreatDoor
open Go.RowKit

theorem Tryz.infoStr : (Tryz.prog.info? 9).map (fun i => (i.zero, i.size, i.bytes)) = some (some (.string ⟨#[]⟩), 1, 16) := by kernel_rfl
/-- The texts of the first j names; empty ones behind. -/
def txs (l : List (Mil.Bytes × Nat)) (j : Nat) (i : Nat) : Value := if i < j then .string (bs (l.getD i ([], 0)).1) else .string ⟨#[]⟩
theorem nms_at (N : Nat) : ∀ (l : List (Mil.Bytes × Nat)) (j : Nat), j < l.length → (nms N l)[j * 2]? = some (.int .i64 ((N : Int) - ((l.getD j ([], 0)).2 : Nat))) ∧ (nms N l)[j * 2 + 1]? = some (.string (bs (l.getD j ([], 0)).1))
  | [], j, h => by simp at h
  | x :: r, 0, _ => ⟨rfl, rfl⟩
  | x :: r, j + 1, h => by
    have ih := nms_at N r j (by simpa using h)
    have e : nms N (x :: r) = .int .i64 ((N : Int) - (x.2 : Nat)) :: .string (bs x.1) :: nms N r := rfl
    have e2 : (j + 1) * 2 = j * 2 + 1 + 1 := by omega
    rw [e, e2, List.getElem?_cons_succ, List.getElem?_cons_succ, List.getElem?_cons_succ, List.getElem?_cons_succ]
    exact ih
set_option maxHeartbeats 2000000 in
theorem line_out (N : Nat) (l : List (Mil.Bytes × Nat)) (hne : l ≠ []) (hx : ∀ y, y ∈ l → y.1.length ≤ 12) (hr : l.length ≤ 601) (b : Nat) (v : Value) (w : World) (ho : w.ownsRow b 106 2 v l.length (nms N l)) :
    Calls Tryz.prog 126 #[.agg #[v]] w (TxPost (Mil.lineText ⟨2, [], 0, 0, l.map Prod.fst, Mil.eNil⟩) w) := by
  obtain ⟨hl, ⟨rfl, h0⟩ | ⟨g, cap, cur, rfl, hb, hg, hn, hm, hsz, htk⟩⟩ := ho
  · exact absurd (List.length_eq_zero_iff.1 h0) hne
  have hmk := run_make_row' (P := Tryz.prog) 206 9 (.string ⟨#[]⟩) 16 Tryz.underlying206 Tryz.infoStr rfl .i64 .i64 l.length (by omega) (by omega)
  have HC : Hid (∀ w', Below w.heap.size w w' → ∀ j, j < l.length → w'.cell? ⟨g, j * 2, none⟩ = some (.int .i64 ((N : Int) - ((l.getD j ([], 0)).2 : Nat))) ∧ w'.cell? ⟨g, j * 2 + 1, none⟩ = some (.string (bs (l.getD j ([], 0)).1))) := by
    intro w' hw j hj
    have hlt : g < w.heap.size := (Array.getElem?_eq_some_iff.1 hg).1
    have at_ : ∀ i u, (nms N l)[i]? = some u → w'.cell? ⟨g, i, none⟩ = some u := by
      intro i u hi
      rw [hw.cell (p := ⟨g, i, none⟩) hlt, cell_of_row w g i _ _ _ hg]
      rw [← htk, List.getElem?_take] at hi
      split at hi
      · simpa using hi
      · cases hi
    have := nms_at N l j hj
    exact ⟨at_ _ _ this.1, at_ _ _ this.2⟩
  have e1 : (((l.map fun y => bs y.1).map (fun y : ByteArray => y.data.toList))) = l.map Prod.fst := by
    rw [List.map_map]
    apply List.map_congr_left
    intro y _
    rfl
  have hnn : ∃ x r, l.map Prod.fst = x :: r := by
    cases l with
    | nil => exact absurd rfl hne
    | cons x r => exact ⟨_, _, rfl⟩
  have hjl : (Lib.join (l.map Prod.fst) Mil.commaB).length ≤ 20000 := by
    obtain ⟨x, r, e⟩ := hnn
    have hxx : ∀ y, y ∈ x :: r → y.length ≤ 12 := by
      intro y hy
      rw [← e] at hy
      obtain ⟨z, hz, rfl⟩ := List.mem_map.1 hy
      exact hx z hz
    have hlr : (x :: r).length ≤ 601 := by rw [← e, List.length_map]; exact hr
    rw [e, Lib.join_length]
    have lens : ∀ l : List Mil.Bytes, (∀ y, y ∈ l → y.length ≤ 12) → Lib.lens l ≤ 12 * l.length := by
      intro l
      induction l with
      | nil => intro _; simp [Lib.lens]
      | cons y l ih =>
        intro h
        have h1 := h y (by simp)
        have h2 := ih (fun z hz => h z (by simp [hz]))
        simp [Lib.lens] at h2 ⊢
        omega
    have := lens (x :: r) hxx
    simp [Mil.commaB] at this hlr ⊢
    omega
  have HJ : Hid (∀ w' T, w'.rowIs T 9 l.length (txs l l.length) → Calls Tryz.prog 127 #[.slice (some ⟨T, 0, none⟩) l.length l.length, .string (bs Mil.commaB)] w' (TxPost (Mil.namesText (l.map Prod.fst)) w')) := by
    intro w' T hT
    have hj := Tryz.strings_Join T 0 l.length (l.map fun y => bs y.1) (bs Mil.commaB) w' (by
      intro j y hy
      rw [List.getElem?_map] at hy
      obtain ⟨z, hz, rfl⟩ := Option.map_eq_some_iff.1 hy
      have hjlt : j < l.length := (List.getElem?_eq_some_iff.1 hz).1
      rw [Nat.zero_add, hT.cell hjlt]
      unfold txs
      rw [if_pos hjlt, List.getD_eq_getElem?_getD, hz]; rfl) hT.lt (by simp; omega) (by simp) (by rw [e1]; exact Nat.le_trans hjl (by decide))
    rw [e1, List.length_map] at hj
    obtain ⟨x, r, e⟩ := hnn
    rw [e] at hj ⊢
    rw [Mil.names_join]
    exact hj
  have z1 : (bs (Mil.namesText (l.map Prod.fst))).size ≤ 20000 := by
    obtain ⟨x, r, e⟩ := hnn
    rw [bs_size, e, Mil.names_join, ← e]; exact hjl
  have HG : Hid (Ending.returned (.string (bs (Mil.wOutput ++ Mil.blank) ++ bs (Mil.namesText (l.map Prod.fst)))) = .returned (.string (bs (Mil.lineText ⟨2, [], 0, 0, l.map Prod.fst, Mil.eNil⟩)))) := by
    show _ = _
    rw [bs_add]
    rfl
  have HR : Hid (l.length ≤ 601) := hr
  have HB0 : Hid (Below w.heap.size w ((w.alloc (.cells #[.slice (some ⟨g, 0, none⟩) l.length cap] 115)).alloc (.cells (madeCells #[.string ⟨#[]⟩] l.length) 9))) := ((Below.refl _ _).alloc (Nat.le_refl _) _).alloc (by simp) _
  have HT0 : Hid (((w.alloc (.cells #[.slice (some ⟨g, 0, none⟩) l.length cap] 115)).alloc (.cells (madeCells #[.string ⟨#[]⟩] l.length) 9)).rowIs (w.heap.size + 1) 9 l.length (txs l 0)) := by
    have := World.rowIs_made (w.alloc (.cells #[.slice (some ⟨g, 0, none⟩) l.length cap] 115)) (.string ⟨#[]⟩) l.length 9
    have h2 := this.congr (g := txs l 0) (fun i _ => by unfold txs; rw [if_neg (by omega)])
    show World.rowIs _ _ _ _ _
    simpa using h2
  generalize hNT : Mil.namesText (l.map Prod.fst) = nt at HJ z1 HG
  clear hjl e1 htk hsz hg hl hx hr hb hm hn hnn hne hNT
  go_enter Tryz.func126, Tryz.ntmps126
  go_wp2_with fail
  go_loopg [13] l.length (fun gk s13 wr => ∃ j : Nat, j ≤ l.length ∧ s13 = .int .i64 j ∧ gk = l.length - j ∧ Hid (Below w.heap.size w wr) ∧ Hid (wr.rowIs (w.heap.size + 1) 9 l.length (txs l j)))
  case atStart => exact ⟨0, Nat.zero_le _, rfl, rfl, HB0, HT0⟩
  case round =>
    obtain ⟨j, hj, rfl, hgk, HBj, HTj⟩ := hrel
    have HGK : Hid (gk = l.length - j) := hgk
    have h601 := HR.out
    clear hgk HB0 HT0
    by_cases hlt : j < l.length
    · obtain ⟨q0, q1⟩ := HC.out wr HBj.out j hlt
      generalize hq : (l.getD j ([], 0)) = y at q0 q1
      have HQ : Hid (l.getD j ([], 0) = y) := hq
      clear hq
      have HB2 : Hid (Below w.heap.size w (wr.alloc (.cells #[.int .i64 ((N : Int) - (y.2 : Nat)), .string (bs y.1)] 106))) := HBj.out.alloc HBj.out.size _
      have HT2 : Hid ((wr.alloc (.cells #[.int .i64 ((N : Int) - (y.2 : Nat)), .string (bs y.1)] 106)).rowIs (w.heap.size + 1) 9 l.length (txs l j)) := HTj.out.alloc _
      have r0 : (wr.alloc (.cells #[.int .i64 ((N : Int) - (y.2 : Nat)), .string (bs y.1)] 106)).cell? ⟨w.heap.size + 1, j, none⟩ = some (txs l j j) := HT2.out.cell hlt
      have f0 := HT2.out.frozen j
      go_wp2
      go_roundg (l.length - (j + 1))
      case measure => have := HGK.out; omega
      case rel =>
        refine ⟨j + 1, hlt, by go_num, rfl, HB2.out.setCell (p := ⟨w.heap.size + 1, j, none⟩) (Nat.le_succ _) _, ?_⟩
        refine (HT2.out.set j _).congr (fun i _ => ?_)
        by_cases e : i = j
        · subst e
          rw [if_pos rfl]
          unfold txs
          rw [if_pos (by omega), HQ.out]
        · rw [if_neg e]
          unfold txs
          by_cases h : i < j
          · rw [if_pos h, if_pos (by omega)]
          · rw [if_neg h, if_neg (by omega)]
    · have HE : Hid (j = l.length) := by show _ = _; omega
      have HTl : Hid (wr.rowIs (w.heap.size + 1) 9 l.length (txs l l.length)) := by
        have h := HTj.out
        rw [HE.out] at h
        exact h
      clear HTj
      go_wp2_with fail
      refine (HJ.out wr (w.heap.size + 1) HTl.out).mono ?_
      rintro e w1 ⟨rfl, hb1⟩
      go_wp2
      go_ret
      exact ⟨HG.out, below_step HBj.out hb1⟩

end Go.Proofs.YtfoabfffmjljmaaGreatDoor
