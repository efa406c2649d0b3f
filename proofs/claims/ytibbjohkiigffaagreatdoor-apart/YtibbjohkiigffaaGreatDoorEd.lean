/-
  The law, walked.
-/
import Derived.Test.YtibbjohkiigffaaGreatDoorEy
namespace Go.Proofs.YtibbjohkiigffaaGreatDoor
open Go.RowKit

theorem size_one (w : World) (o : Obj) : (w.alloc o).heap.size = w.heap.size + 1 := Array.size_push _

set_option maxRecDepth 100000 in
set_option maxHeartbeats 16000000 in
theorem law_some (al : Nat → Addr) (w : World) (h : Alp al w) (b off n c : Nat) (hc : ∀ j, j < n → ∃ s, w.cell? ⟨b, off + j * 7 + 4, none⟩ = some (.string s)) :
    Calls Tryz.prog 3 #[.slice (some ⟨b, off, none⟩) n c] w fun e w' => e = .returned (.bool true) ∧ Below w.heap.size w w' := by
  have H : Hid (Alp al w) := h
  have HC : Hid (∀ j, j < n → ∃ s, w.cell? ⟨b, off + j * 7 + 4, none⟩ = some (.string s)) := hc
  clear h hc
  go_enter Tryz.func3, Tryz.ntmps3
  go_wp2_with fail
  refine (tasked_any al _ H.out).mono ?_
  rintro e w1 ⟨hb1, vp, rfl⟩
  have HB1 : Hid (Below w.heap.size w w1) := hb1
  clear hb1
  go_wp2_with fail
  go_loopg [5] n (fun gk s5 wr => ∃ j : Nat, j ≤ n ∧ s5 = .int .i64 j ∧ gk = n - j ∧ Hid (Below w.heap.size w wr))
  case atStart => exact ⟨0, Nat.zero_le _, rfl, rfl, HB1⟩
  case round =>
    obtain ⟨j, hj, rfl, hgk, HBj⟩ := hrel
    have HG : Hid (gk = n - j) := hgk
    have HJ : Hid (Alp al wr) := H.out.below HBj.out
    clear hgk HB1
    by_cases hlt : j < n
    · by_cases h60 : (j : Int) < 1152921504606846976
      · obtain ⟨s, hs⟩ := HC.out j hlt
        have hcj : wr.cell? ⟨b, off + j * 7 + 4, none⟩ = some (.string s) := (HBj.out.cell (lt_of_cell hs)).trans hs
        have HLT : Hid (j < n) := hlt
        have H60 : Hid ((j : Int) < 1152921504606846976) := h60
        clear hs
        go_wp2_with fail
        refine (plainCompile_any al s _ HJ.out.l HJ.out.e).mono ?_
        rintro e w2 ⟨hb2, ⟨l, P, rfl, hp, hP⟩ | ⟨f, at_, hf, rfl, _⟩⟩
        · have HB2 : Hid (Below w.heap.size w w2) := below_step HBj.out hb2
          have HP : Hid (Mip.Parsed s.data.toList l ∧ Prg s.size l w2 P) := ⟨hp, hP⟩
          clear hb2 hp hP hcj HJ hlt h60
          go_wp2_with fail
          have HA2 : Hid (Below w2.heap.size w2 (w2.alloc (.cells #[.int .i64 0, .int .i64 0] 27))) := (Below.refl _ _).alloc (Nat.le_refl _) _
          refine (flows_any (HP.out.2.below HA2.out)).mono ?_
          rintro e w3 ⟨hb3, v3, rfl, hF⟩
          obtain ⟨fo, cf, e3⟩ := own_shape hF
          subst e3
          have HB3 : Hid (Below w.heap.size w w3) := below_step (below_step HB2.out HA2.out) hb3
          have HP3 : Hid (Prg s.size l w3 P) := (HP.out.2.below HA2.out).below hb3
          have hl60 : (prd s.size l).length ≤ 60 := by rw [prd_len]; exact HP3.out.len.1
          have HF3 : Hid (w3.ownsRow (w2.alloc (.cells #[.int .i64 0, .int .i64 0] 27)).heap.size 42 5 (.slice fo (prd s.size l).length cf) (prd s.size l).length (fls (prd s.size l))) := hF
          generalize (w2.alloc (.cells #[.int .i64 0, .int .i64 0] 27)).heap.size = B3 at HF3
          clear hb3 hF HA2 HB2
          have hmk := fun w => run_make_row' (P := Tryz.prog) 36 3 (.int .i64 0) 8 Tryz.underlying36 Tryz.infoI rfl .i64 .i64 (prd s.size l).length (by omega) (by omega) w
          have HR0 : Hid ((w3.alloc (.cells (madeCells #[.int .i64 0] (prd s.size l).length) 3)).rowIs w3.heap.size 3 (prd s.size l).length (cn [])) := (World.rowIs_made w3 (.int .i64 0) (prd s.size l).length 3).congr (fun i _ => rfl)
          have HA3 : Hid (Below w3.heap.size w3 (w3.alloc (.cells (madeCells #[.int .i64 0] (prd s.size l).length) 3))) := (Below.refl _ _).alloc (Nat.le_refl _) _
          have HS3 : Hid ((w3.alloc (.cells (madeCells #[.int .i64 0] (prd s.size l).length) 3)).heap.size = w3.heap.size + 1) := size_one _ _
          go_wp2_with fail
          clear hmk
          refine (tasks_any' (HP3.out.below HA3.out)).mono ?_
          rintro e w4 ⟨hb4, v4, U, rfl, hT, hfs⟩
          obtain ⟨tq, ct, e4⟩ := own_shape hT.row
          subst e4
          have HGD : Hid (Good (prd s.size l) (ordOf (dcl s.size l).2.m (prd s.size l) (dcl s.size l).2.Q) U) := good_of HP.out.1 HP.out.2 hT
          have HR4 : Hid (w4.rowIs w3.heap.size 3 (prd s.size l).length (cn [])) := HR0.out.of_block (hb4.block _ HR0.out.lt)
          have HF4 := own_kept HF3.out (fun g hg => (below_step HA3.out hb4).block g (lt_of_heap (own_lt HF3.out g hg).2.choose_spec))
          have HAX : Hid (Ax (prd s.size l) U (ordOf (dcl s.size l).2.m (prd s.size l) (dcl s.size l).2.Q) w3.heap.size fo tq w4) :=
            ax_of HGD.out HF4 ⟨_, HR4.out.choose_spec.1⟩ hT (fun u hu g hg => by have := hfs u hu g hg; rw [HS3.out] at this; exact this)
          have HB4 : Hid (Below w.heap.size w w4) := below_step (below_step HB3.out HA3.out) hb4
          have hgs : w.heap.size ≤ w3.heap.size := HB3.out.size
          have HGS : Hid (w.heap.size ≤ w3.heap.size) := hgs
          generalize w3.heap.size = gs at *
          generalize ordOf (dcl s.size l).2.m (prd s.size l) (dcl s.size l).2.Q = o at HGD HAX
          generalize prd s.size l = F at *
          have HL60 : Hid (U.length ≤ 60 ∧ F.length ≤ 60) := HGD.out.len
          have hu60 : U.length ≤ 60 := HL60.out.1
          clear hb4 hT hfs HF4 HP3 HR0 HA3 HS3 HF3 HB3 hgs HP
          go_wp2_with fail
          go_loopg [11, 12] U.length (fun gk s11 s12 wz => ∃ (t last : Nat), t ≤ U.length ∧ s11 = .int .i64 (last : Nat) ∧ s12 = .int .i64 (t : Nat) ∧ gk = U.length - t ∧ Hid (last ≤ 1000000 ∧ ∀ u, U[t]? = some u → last < u.1) ∧ Hid (Below w.heap.size w wz) ∧ Hid (Ax F U o gs fo tq wz) ∧ Hid (wz.rowIs gs 3 F.length (cn (dn o U t))))
          case atStart => exact ⟨0, 0, Nat.zero_le _, rfl, rfl, rfl, ⟨by omega, fun u hu => (HGD.out.pos u (List.mem_of_getElem? hu)).1⟩, HB4, HAX, HR4⟩
          case round =>
            obtain ⟨t, last, ht, rfl, rfl, hgt, KL, KB, KA, KR⟩ := hrel
            have HGT : Hid (gk = U.length - t) := hgt
            clear hgt HAX HR4 HB4
            by_cases htl : t < U.length
            · have HTL : Hid (t < U.length) := htl
              obtain ⟨⟨p, v⟩, hu⟩ : ∃ x, U[t]? = some x := ⟨_, List.getElem?_eq_getElem htl⟩
              have HU : Hid (U[t]? = some (p, v)) := hu
              obtain ⟨gt, rfl, hgt2, c0, c1⟩ := KA.out.tk t (p, v) hu
              obtain ⟨g2, cap2, e2, hn2, hcells⟩ := KA.out.ls (p, v) (List.mem_of_getElem? hu)
              obtain ⟨hp1, hp2, hp3, hp4⟩ := HGD.out.pos (p, v) (List.mem_of_getElem? hu)
              have hlast := KL.out.2 (p, v) hu
              simp only at e2 c0 c1 hp1 hp2 hp3 hp4 hlast
              subst e2
              have hne : (o p).length ≠ 0 := fun e => hp3 (List.length_eq_zero_iff.1 e)
              have i1 : ¬ ((p : Int) ≤ (last : Int)) := by omega
              have i2 : (((o p).length : Int) == 0) = false := by rw [beq_eq_false_iff_ne]; omega
              have i3 : (0 : Int) ≤ (t : Int) := by omega
              have i4 : (t : Int) < (U.length : Int) := by omega
              have HPO : Hid (p ≤ 1000000 ∧ (o p).length ≤ 60 ∧ o p ≠ []) := ⟨hp2, hp4, hp3⟩
              clear hu hgt2 hcells hn2 hp1 hp3 hlast
              go_wp2_with fail
              go_loopg [13] (o p).length (fun gk s13 wz => ∃ (k : Nat), k ≤ (o p).length ∧ s13 = .int .i64 (k : Nat) ∧ gk = (o p).length - k ∧ Hid (Below w.heap.size w wz) ∧ Hid (Ax F U o gs fo (some ⟨gt, 0, none⟩) wz) ∧ Hid (wz.rowIs gs 3 F.length (cn (dn o U t ++ (o p).take k))))
              case atStart => exact ⟨0, Nat.zero_le _, rfl, rfl, KB, KA, by rw [List.take_zero, List.append_nil]; exact KR⟩
              case round =>
                obtain ⟨k, hk, rfl, hgk3, MB, MA, MR⟩ := hrel
                have HGK : Hid (gk = (o p).length - k) := hgk3
                clear hgk3 c0 c1
                obtain ⟨gt', et, _, c0, c1⟩ := MA.out.tk t (p, .slice (some ⟨g2, 0, none⟩) (o p).length cap2) HU.out
                obtain rfl : gt = gt' := by injection et with et; injection et
                obtain ⟨g2', cap2', e2, _, hcells⟩ := MA.out.ls (p, .slice (some ⟨g2, 0, none⟩) (o p).length cap2) (List.mem_of_getElem? HU.out)
                obtain rfl : g2 = g2' := by injection e2 with e2; injection e2 with e2; injection e2
                simp only at c0 c1
                have j3 : (0 : Int) ≤ (k : Int) := by omega
                by_cases hkl : k < (o p).length
                · have HKL : Hid (k < (o p).length) := hkl
                  obtain ⟨x, hx⟩ : ∃ x, (o p)[k]? = some x := ⟨_, List.getElem?_eq_getElem hkl⟩
                  have hcx := hcells k x hx
                  obtain ⟨f, hf, hfi, hfp⟩ := HGD.out.mem (p, .slice (some ⟨g2, 0, none⟩) (o p).length cap2) (List.mem_of_getElem? HU.out) x (List.mem_of_getElem? hx)
                  have h00 := HGD.out.fresh HU.out hx
                  obtain ⟨gf, rfl, _, f0, f1⟩ := MA.out.fl x f hf
                  simp only at hfp h00
                  rw [hfp] at f0
                  rw [hfi] at f1
                  have hxl : x < F.length := (List.getElem?_eq_some_iff.1 hf).1
                  have x0 := MR.out.cell hxl
                  have x1 := MR.out.frozen x
                  have x2 : wr.cell? ⟨gs, x, none⟩ = some (.int .i64 0) := by rw [x0]; show some (Value.int .i64 ((List.count x (dn o U t ++ List.take k (o p)) : Nat) : Int)) = _; rw [h00]; rfl
                  have MR2 : Hid ((wr.setCell ⟨gs, x, none⟩ (.int .i64 1)).rowIs gs 3 F.length (cn (dn o U t ++ (o p).take (k + 1)))) := (MR.out.set x (.int .i64 1)).congr (fun i _ => by
                    rw [cn_snoc h00 i, List.take_add_one, hx, List.append_assoc]; rfl)
                  have MA2 : Hid (Ax F U o gs (some ⟨gf, 0, none⟩) (some ⟨gt, 0, none⟩) (wr.setCell ⟨gs, x, none⟩ (.int .i64 1))) := MA.out.set x _
                  have MB2 : Hid (Below w.heap.size w (wr.setCell ⟨gs, x, none⟩ (.int .i64 1))) := MB.out.setCell HGS.out _
                  have j4 : (k : Int) < ((o p).length : Int) := by omega
                  have j5 : ¬ ((x : Int) < 0) := by omega
                  have j6 : ¬ ((F.length : Int) ≤ (x : Int)) := by omega
                  have j7 : (0 : Int) ≤ (x : Int) := by omega
                  have j8 : (x : Int) < (F.length : Int) := by omega
                  clear hcells hx hf hfi hfp h00 x0 KR KA KB KL
                  go_wp2
                  go_roundg ((o p).length - (k + 1))
                  case measure => have := HGK.out; have := HKL.out; omega
                  case rel => exact ⟨k + 1, HKL.out, by go_num, rfl, MB2, MA2, MR2⟩
                · have hk' : k = (o p).length := by omega
                  have j4 : ¬ (k : Int) < ((o p).length : Int) := by omega
                  have MR2 : Hid (wr.rowIs gs 3 F.length (cn (dn o U (t + 1)))) := by
                    have := MR.out
                    rw [hk', List.take_length] at this
                    rw [dn_succ HU.out]
                    exact this
                  have KL2 : Hid (p ≤ 1000000 ∧ ∀ u, U[t + 1]? = some u → p < u.1) := ⟨HPO.out.1, fun u hu => HGD.out.next HU.out hu⟩
                  clear hcells hk'
                  go_wp2
                  go_roundg (U.length - (t + 1))
                  case measure => have := HGT.out; have := HTL.out; omega
                  case rel => exact ⟨t + 1, p, HTL.out, rfl, by go_num, rfl, KL2, MB, MA, MR2⟩
            · have ht' : t = U.length := by omega
              have i4 : ¬ (t : Int) < (U.length : Int) := by omega
              have KR2 : Hid (wr.rowIs gs 3 F.length (cn (dn o U U.length))) := by have := KR.out; rw [ht'] at this; exact this
              clear KR ht'
              go_wp2_with fail
              go_loopg [15] F.length (fun gk s15 wy => ∃ (e : Nat), e ≤ F.length ∧ s15 = .int .i64 (e : Nat) ∧ gk = F.length - e ∧ wy = wr)
              case atStart => exact ⟨0, Nat.zero_le _, rfl, rfl, rfl⟩
              case round =>
                obtain ⟨e, he, rfl, hge, rfl⟩ := hrel
                have HGE : Hid (gk = F.length - e) := hge
                clear hge
                by_cases hel : e < F.length
                · have HEL : Hid (e < F.length) := hel
                  obtain ⟨f, hf⟩ : ∃ f, F[e]? = some f := ⟨_, List.getElem?_eq_getElem hel⟩
                  obtain ⟨gf, rfl, _, f0, f1⟩ := KA.out.fl e f hf
                  have x0 := KR2.out.cell hel
                  unfold cn at x0
                  rw [HGD.out.cnt e f hf] at x0
                  have j3 : (0 : Int) ≤ (e : Int) := by omega
                  have j4 : (e : Int) < (F.length : Int) := by omega
                  clear hf f0
                  cases hi : f.inp
                  · rw [hi] at f1 x0
                    go_wp2
                    go_roundg (F.length - (e + 1))
                    case measure => have := HGE.out; have := HEL.out; omega
                    case rel => exact ⟨e + 1, HEL.out, by go_num, rfl, rfl⟩
                  · rw [hi] at f1 x0
                    go_wp2
                    go_roundg (F.length - (e + 1))
                    case measure => have := HGE.out; have := HEL.out; omega
                    case rel => exact ⟨e + 1, HEL.out, by go_num, rfl, rfl⟩
                · have j4 : ¬ (e : Int) < (F.length : Int) := by omega
                  have h60 := H60.out
                  go_wp2
                  go_roundg (n - (j + 1))
                  case measure => have := HG.out; have := HLT.out; omega
                  case rel => exact ⟨j + 1, HLT.out, by go_num, rfl, KB⟩
        · have HB3 : Hid (Below w.heap.size w (w2.alloc (.cells #[.int .i64 f, .int .i64 at_] 27))) := below_step (below_step HBj.out hb2) ((Below.refl _ _).alloc (Nat.le_refl _) _)
          clear hb2 hcj HJ
          go_wp2
          go_roundg (n - (j + 1))
          case measure => have := HG.out; have := HLT.out; omega
          case rel => exact ⟨j + 1, HLT.out, by go_num, rfl, HB3⟩
      · go_wp2
        go_ret
        exact ⟨rfl, HBj.out⟩
    · go_wp2
      go_ret
      exact ⟨rfl, HBj.out⟩

set_option maxRecDepth 100000 in
set_option maxHeartbeats 1000000 in
theorem law_zero (al : Nat → Addr) (w : World) (h : Alp al w) (o : Option Addr) (c : Nat) :
    Calls Tryz.prog 3 #[.slice o 0 c] w fun e w' => e = .returned (.bool true) ∧ Below w.heap.size w w' := by
  have H : Hid (Alp al w) := h
  clear h
  go_enter Tryz.func3, Tryz.ntmps3
  go_wp2_with fail
  refine (tasked_any al _ H.out).mono ?_
  rintro e w1 ⟨hb1, vp, rfl⟩
  have HB1 : Hid (Below w.heap.size w w1) := hb1
  clear hb1 H
  go_wp2_with fail
  refine wp_loop_rounds 1 ?_
  rw [rounds_succ]
  go_wp2
  go_ret
  exact ⟨rfl, HB1.out⟩

end Go.Proofs.YtibbjohkiigffaaGreatDoor
