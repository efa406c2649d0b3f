/-
  readItems, walked.
-/
import Derived.Test.YtkngcglmfbdblaaGreatDoorReadi
namespace Go.Proofs.YtkngcglmfbdblaaGreatDoor
open Go.RowKit

set_option maxRecDepth 100000 in
set_option maxHeartbeats 4000000 in
theorem readItems_any (a : Nat → Addr) (s : ByteArray) (hs : s.size ≤ 4000) (w : World) (L : Laid a w) :
    Calls Tryz.prog 11 #[.string s] w (RiPost s.size s.data.toList a w) := by
  have ST := start_at a s w L
  have HG : Hid (23 ≤ w.heap.size + 1 + 1) := by have := L.size; show _ ≤ _; omega
  have HG0 : Hid (23 ≤ w.heap.size) := L.size
  clear L
  have hmf : ∀ (fn : Fn) (first cap : Array Value) (w : World), (Instr.makeFunc fn first cap).run Tryz.prog w = .ok (.func fn first cap) w := fun _ _ _ _ => rfl
  go_enter_defers Tryz.func11, Tryz.ntmps11
  go_wp2_with fail
  generalize (((w.alloc (.cells #[.slice none 0 0] 44)).alloc (.cells #[.pointer none] 52)).alloc (.cells #[.string s, .int .i64 0, .int .i64 0, .int .i64 0, .int .i64 0, .string ⟨#[]⟩, .int .i64 0] 68)) = W2 at ST ⊢
  refine (advance_raw a (w.heap.size + 1 + 1) s 0 0 0 0 ⟨#[]⟩ 0 W2 ST.l HG.out ST.r (Nat.zero_le _) (Nat.zero_le _) hs).mono ?_
  rintro e w3 ⟨kk3, (⟨st, rfl, g3, r3⟩ | thr)⟩
  · have G3 : Hid (Mil.adv' s.data.toList 0 = some st) := g3
    have B3 : Hid (Below w.heap.size w w3) := ST.b.trans ⟨kk3.os, kk3.tape, kk3.output, kk3.size, fun k hk => kk3.block k (Nat.lt_of_lt_of_le hk ST.b.size) (by omega)⟩
    have V3 : Hid (Vars w3 w.heap.size (.slice none 0 0) (.pointer none)) := ST.v.kept kk3 (by omega)
    have HL : Hid (Laid a w3) := ST.l.kept kk3 HG.out
    have R3 : Hid (RdS w3 (w.heap.size + 1 + 1) s st) := r3
    clear g3 kk3 ST r3 W2
    go_wp2_with fail
    go_loopg [] (Mil.mu st) (fun g wr => ∃ acc t v0, g = Mil.mu t ∧ Hid (Vars wr w.heap.size v0 (.pointer none)) ∧ Hid (Row s.size wr (w.heap.size + 1 + 1) acc v0) ∧ Hid (RdS wr (w.heap.size + 1 + 1) s t) ∧ Hid (Below w.heap.size w wr) ∧ Hid (Laid a wr) ∧ Hid ((∀ z, Mip.Rprog acc t z ↔ Mip.Rprog [] st z) ∧ ∀ k p, Mil.BadP s.size (acc.map Mip.eri) t k p → Mil.BadP s.size [] st k p) ∧ Hid (acc.length ≤ 60))
    case atStart => exact ⟨[], st, .slice none 0 0, rfl, V3, Row.nil _ _ _, R3, B3, HL, ⟨fun z => Iff.rfl, fun _ _ h => h⟩, Nat.zero_le _⟩
    case round =>
      clear V3 R3 B3 HL
      obtain ⟨acc, t, v0, hg, HV, HR, HD, HB, HL, HI, HM⟩ := hrel
      have HG2 : Hid (gk = Mil.mu t) := hg
      clear hg
      obtain ⟨o0, c0, rfl⟩ := HR.out.shape
      obtain ⟨p, tp, x, hp, hRd, hr, hx, hn⟩ := HD.out
      have c3 := hRd.c3
      have c4 := hRd.c4
      have q0 := HV.out.c0
      have q1 := HV.out.c1
      have f0 := HV.out.f0
      have f1 := HV.out.f1
      have HTP : Hid (tp = place s.size t) := hn.2.2
      clear hRd hr hx hn hp
      by_cases hk0 : t.tok.kind = 0
      · have hb0 : (((t.tok.kind : Nat) : Int) != 0) = false := by simp; omega
        have HK0 : Hid (t.tok.kind = 0) := hk0
        clear hk0
        go_wp2
        refine leaves_done s.size s.data.toList a w _ _ rfl rfl o0 acc.length c0 ((HV.out.set0 _).set1 _) ((HB.out.setCell (Nat.le_refl _) _).setCell (p := ⟨w.heap.size + 1, 0, none⟩) (Nat.le_succ _) _) acc (w.heap.size + 1 + 1) (by omega) ⟨st, G3.out, (HI.out.1 _).1 (Mip.prog_stop HK0.out)⟩ ?_
        exact (HR.out.kept ((Kp.refl w.heap.size wr).setCell 0 _) (by omega)).kept ((Kp.refl (w.heap.size + 1) _).setCell 0 _) (by omega)
      · have hb0 : (((t.tok.kind : Nat) : Int) != 0) = true := by simp; omega
        have HK0 : Hid (t.tok.kind ≠ 0) := hk0
        clear hk0
        by_cases h6 : acc.length = 60
        · have hb6 : (((acc.length : Nat) : Int) == 60) = true := by simp; omega
          have H6 : Hid (acc.length = 60) := h6
          clear h6
          have hcm := HL.out.many
          have hno : Mil.Fault s.data.toList 4 tp := Mil.fault_size (Or.inr ⟨_, G3.out, HI.out.2 _ _ (by rw [HTP.out]; exact Mil.badP_many HK0.out (by rw [List.length_map]; exact H6.out))⟩)
          have hpp : ∀ tm : Array Value, tm[2]? = some (.pointer (some ⟨w.heap.size, 0, none⟩)) → tm[3]? = some (.pointer (some ⟨w.heap.size + 1, 0, none⟩)) → bodyPostD Tryz.prog Tryz.f11 (RiPost s.size s.data.toList a w) (Exit.panic [{ v := .iface 52 (.pointer (some ⟨wr.heap.size, 0, none⟩)), recovered := false }]) { tmps := tm, defers := D0 w.heap.size } (wr.alloc (.cells #[.int .i64 tp, errV (a 4)] 59)).drew := by
            intro tm h2 h3
            exact leaves_thrown s.size s.data.toList a w _ tm h2 h3 _ _ (HV.out.kept (((Kp.refl (w.heap.size + 1 + 1) wr).alloc _).drew) (by omega)) (HB.out.alloc HB.out.size _).drew 4 tp wr.heap.size (Or.inr (Or.inr (Or.inr rfl))) (heap_alloc_new wr _) hno
          have HPP : Hid _ := hpp
          clear hpp hno
          go_wp2
          refine wp_region_any (by kernel_rfl) ?_
          change wpAny _ _ _ _ _ _ _ (World.drew _)
          refine wpAny_take (i := 0) (v := .pointer (some ⟨w.heap.size + 1 + 1, 0, none⟩)) rfl (by kernel_rfl) (by kernel_rfl) (by kernel_rfl) (fun _ _ _ h => bp_put (i := 20) (by decide) (by decide) h) (Or.inl ⟨by rfl, fun w => by go_simp⟩) ?_
          refine wpAny_take (i := 1) (v := .pointer (some ⟨w.heap.size + 1 + 1, 0, none⟩)) rfl (by kernel_rfl) (by kernel_rfl) (by kernel_rfl) (fun _ _ _ h => bp_put (i := 21) (by decide) (by decide) h) (Or.inl ⟨by rfl, fun w => by go_simp⟩) ?_
          refine wpAny_take (i := 2) (v := .pointer (some ⟨w.heap.size + 1 + 1, 3, none⟩)) rfl (by kernel_rfl) (by kernel_rfl) (by kernel_rfl) (fun _ _ _ h => bp_put (i := 22) (by decide) (by decide) h) (Or.inl ⟨by rfl, fun w => by go_simp⟩) ?_
          refine wpAny_take (i := 3) (v := .pointer (some ⟨w.heap.size + 1 + 1, 4, none⟩)) rfl (by kernel_rfl) (by kernel_rfl) (by kernel_rfl) (fun _ _ _ h => bp_put (i := 23) (by decide) (by decide) h) (Or.inl ⟨by rfl, fun w => by go_simp⟩) ?_
          refine wpAny_ready (rs := [4, 5]) (by kernel_rfl) (by simp) ?_
          refine AllReady.cons rfl (fun K hK => ?_) (AllReady.cons rfl (fun K hK => ?_) AllReady.nil)
          · go_simp
            refine hK _ _ ?_
            clear hK K
            refine wpAny_ready (rs := [5]) (by kernel_rfl) (by simp) ?_
            refine AllReady.cons rfl (fun K hK => ?_) AllReady.nil
            go_simp
            refine hK _ _ ?_
            clear hK K
            refine wpAny_take (i := 6) (v := .agg #[.int .i64 tp, errV (a 4)]) rfl (by kernel_rfl) (by kernel_rfl) (by kernel_rfl) (fun _ _ _ h => bp_put (i := 26) (by decide) (by decide) h) (Or.inl ⟨by rfl, fun w => by go_simp⟩) ?_
            refine wpAny_ready (rs := [7]) (by kernel_rfl) (by simp) ?_
            refine AllReady.cons rfl (fun K hK => ?_) AllReady.nil
            go_simp
            refine hK _ _ ?_
            clear hK K
            refine wpAny_take (i := 8) (v := .iface 52 (.pointer (some ⟨wr.heap.size, 0, none⟩))) rfl (by kernel_rfl) (by kernel_rfl) (by kernel_rfl) (fun _ _ _ h => bp_put (i := 28) (by decide) (by decide) h) (Or.inl ⟨by rfl, fun w => by go_simp⟩) ?_
            refine wpAny_ready (rs := [9]) (by kernel_rfl) (by simp) ?_
            refine AllReady.cons rfl (fun K hK => ?_) AllReady.nil
            go_simp
            exact HPP.out _ rfl rfl
          · go_simp
            refine hK _ _ ?_
            clear hK K
            refine wpAny_ready (rs := [4]) (by kernel_rfl) (by simp) ?_
            refine AllReady.cons rfl (fun K hK => ?_) AllReady.nil
            go_simp
            refine hK _ _ ?_
            clear hK K
            refine wpAny_take (i := 6) (v := .agg #[.int .i64 tp, errV (a 4)]) rfl (by kernel_rfl) (by kernel_rfl) (by kernel_rfl) (fun _ _ _ h => bp_put (i := 26) (by decide) (by decide) h) (Or.inl ⟨by rfl, fun w => by go_simp⟩) ?_
            refine wpAny_ready (rs := [7]) (by kernel_rfl) (by simp) ?_
            refine AllReady.cons rfl (fun K hK => ?_) AllReady.nil
            go_simp
            refine hK _ _ ?_
            clear hK K
            refine wpAny_take (i := 8) (v := .iface 52 (.pointer (some ⟨wr.heap.size, 0, none⟩))) rfl (by kernel_rfl) (by kernel_rfl) (by kernel_rfl) (fun _ _ _ h => bp_put (i := 28) (by decide) (by decide) h) (Or.inl ⟨by rfl, fun w => by go_simp⟩) ?_
            refine wpAny_ready (rs := [9]) (by kernel_rfl) (by simp) ?_
            refine AllReady.cons rfl (fun K hK => ?_) AllReady.nil
            go_simp
            exact HPP.out _ rfl rfl
        · have hb6 : (((acc.length : Nat) : Int) == 60) = false := by simp; omega
          have H6 : Hid (acc.length ≠ 60) := h6
          clear h6
          have L4 : Hid (Laid a wr.drew) := HL.out.kept ((Kp.refl (w.heap.size + 1 + 1) wr).drew) HG.out
          have D4 : Hid (RdS wr.drew (w.heap.size + 1 + 1) s t) := HD.out.kept ((Kp.refl (w.heap.size + 1 + 1 + 1) wr).drew) (by omega)
          have V4 : Hid (Vars wr.drew w.heap.size (.slice o0 acc.length c0) (.pointer none)) := HV.out.kept ((Kp.refl (w.heap.size + 1 + 1) wr).drew) (by omega)
          have R4 : Hid (Row s.size wr.drew (w.heap.size + 1 + 1) acc (.slice o0 acc.length c0)) := HR.out.kept ((Kp.refl (w.heap.size + 1 + 1) wr).drew) (by omega)
          have B4 : Hid (Below w.heap.size w wr.drew) := HB.out.drew
          have NO4 : Hid (∀ k p, Mil.BadI s.size t k p → Mil.Fault s.data.toList k p) := fun k p h => Mil.fault_size (Or.inr ⟨_, G3.out, HI.out.2 _ _ (Mil.badP_item HK0.out (by rw [List.length_map]; exact H6.out) h)⟩)
          obtain ⟨i0, hi, hz0, hz1, hz2⟩ := info_parts Tryz.infoItemM
          have hlen : acc.length ≤ 60 := HM.out
          clear HV HR HD HB HL
          go_wp2_with fail
          refine wp_region_any (by kernel_rfl) ?_
          change wpAny _ _ _ _ _ _ _ (World.drew _)
          refine wpAny_take (i := 1) (v := .pointer (some ⟨w.heap.size + 1 + 1, 0, none⟩)) rfl (by kernel_rfl) (by kernel_rfl) (by kernel_rfl) (fun _ _ _ h => bp_put (i := 30) (by decide) (by decide) h) (Or.inl ⟨by rfl, fun w => by go_simp⟩) ?_
          refine wpAny_ready (rs := [0, 2]) (by kernel_rfl) (by simp) ?_
          refine AllReady.cons rfl (fun K hK => ?_) (AllReady.cons rfl (fun K hK => ?_) AllReady.nil)
          · go_simp
            refine hK _ _ ?_
            clear hK K
            refine wpAny_ready (rs := [2]) (by kernel_rfl) (by simp) ?_
            refine AllReady.cons rfl (fun K hK => ?_) AllReady.nil
            go_simp
            refine (mitem_any a (w.heap.size + 1 + 1) s HG.out hs t _ L4.out D4.out).mono ?_
            rintro e w5 ⟨kk5, (⟨i, t', ty, y, rfl, iv, g5, r5⟩ | ⟨k, at_, hkk, d, rfl, hd, hno⟩)⟩
            · have V5 : Hid (Vars w5 w.heap.size (.slice o0 acc.length c0) (.pointer none)) := V4.out.kept kk5 (by omega)
              have B5 : Hid (Below w.heap.size w w5) := B4.out.trans ⟨kk5.os, kk5.tape, kk5.output, kk5.size, fun k hk => kk5.block k (Nat.lt_of_lt_of_le hk B4.out.size) (by omega)⟩
              have L5 : Hid (Laid a w5) := L4.out.kept kk5 HG.out
              have hbw : Hid (w.heap.size + 1 + 1 < w5.heap.size) := by
                obtain ⟨_, _, _, _, hRd, _⟩ := r5
                exact lt_of_cell hRd.c0
              obtain ⟨vs, O5, hvs⟩ := R4.out.kept kk5 (Nat.le_refl _)
              have O6 : Hid ((w5.alloc (.cells #[.iface ty y] 48)).ownsRow (w.heap.size + 1 + 1 + 1) 48 1 (.slice o0 acc.length c0) acc.length vs) := O5.alloc _
              have HVS : Hid (Ivs s.size w5 (w.heap.size + 1 + 1) acc vs) := hvs
              have IV : Hid (Iv s.size w5 (w.heap.size + 1 + 1) i (.iface ty y)) := iv
              have G5 : Hid (Mip.Rit t i t') := g5
              have R5 : Hid (RdS w5 (w.heap.size + 1 + 1) s t') := r5
              have V6 : Hid (Vars (w5.alloc (.cells #[.iface ty y] 48)) w.heap.size (.slice o0 acc.length c0) (.pointer none)) := V5.out.kept ((Kp.refl (w.heap.size + 1 + 1) w5).alloc _) (by omega)
              have p5 := V5.out.c0
              have p6 := V6.out.c0
              clear kk5 O5 hvs iv g5 r5
              refine hK _ _ ?_
              clear hK K
              refine wpAny_ready (rs := [3]) (by kernel_rfl) (by simp) ?_
              refine AllReady.cons rfl (fun K hK => ?_) AllReady.nil
              go_simp
              refine hK _ _ ?_
              clear hK K
              refine wpAny_ready (rs := [4]) (by kernel_rfl) (by simp) ?_
              refine AllReady.cons rfl (fun K hK => ?_) AllReady.nil
              refine (if_pos (by rfl)).mpr ?_
              refine wp_append_own _ (.tmp 29) (.tmp 32) 44 rfl (w.heap.size + 1 + 1 + 1) 48 i0 .nilIface 1 16 Tryz.underlying44 hi hz0 hz1 hz2 rfl (by decide) (.slice o0 acc.length c0) acc.length vs rfl O6.out ⟨w5.heap.size, 0, none⟩ 1 1 [.iface ty y] rfl rfl (news_one w5 _ _) (by intro u hu; simp at hu; subst hu; rfl) (by unfold maxLen; omega) (by omega) (by have := hbw.out; simp; omega) ?_
              intro v7 w7 O7 hg7 hn7
              refine hK _ _ ?_
              clear hK K
              obtain ⟨V7, RE⟩ := round_end a s w w5 w7 acc i t' _ v7 _ vs HG0.out V5.out B5.out L5.out R5.out HVS.out IV.out O6.out hg7 O7
              have p7 := V7.c0
              have f7 := V7.f0
              have HRE : Hid _ := RE
              obtain ⟨o7, n7, c7, rfl⟩ := owns_shape O7
              clear RE V7 O7 hg7 hn7
              refine wpAny_ready (rs := [5]) (by kernel_rfl) (by simp) ?_
              refine AllReady.cons rfl (fun K hK => ?_) AllReady.nil
              go_simp
              refine hK _ _ ?_
              clear hK K
              refine wpAny_done (by kernel_rfl) ?_ _
              go_wp2
              go_roundg (Mil.mu t')
              case measure => have := HG2.out; have := Mil.rit_mu (Mip.Rit.er G5.out); omega
              case rel =>
                refine ⟨acc ++ [i], t', _, rfl, HRE.out.v, HRE.out.r, HRE.out.d, HRE.out.b, HRE.out.l, ⟨fun z => Iff.trans (Mip.prog_go HK0.out H6.out G5.out z).symm (HI.out.1 z), fun k p h => HI.out.2 k p (Mil.badP_go HK0.out (by rw [List.length_map]; exact H6.out) (Mip.Rit.er G5.out) (by rw [List.map_append] at h; exact h))⟩, ?_⟩
                show (acc ++ [i]).length ≤ 60
                rw [List.length_append]
                have := H6.out
                simp only [List.length_singleton]
                omega
            · have V5 : Hid (Vars w5 w.heap.size (.slice o0 acc.length c0) (.pointer none)) := V4.out.kept kk5 (by omega)
              have B5 : Hid (Below w.heap.size w w5) := B4.out.trans ⟨kk5.os, kk5.tape, kk5.output, kk5.size, fun k hk => kk5.block k (Nat.lt_of_lt_of_le hk B4.out.size) (by omega)⟩
              exact leaves_thrown s.size s.data.toList a w w5 _ rfl rfl _ _ V5.out B5.out k at_ d hkk hd (NO4.out _ _ hno)
          · go_simp
            refine (mitem_any a (w.heap.size + 1 + 1) s HG.out hs t _ L4.out D4.out).mono ?_
            rintro e w5 ⟨kk5, (⟨i, t', ty, y, rfl, iv, g5, r5⟩ | ⟨k, at_, hkk, d, rfl, hd, hno⟩)⟩
            · have V5 : Hid (Vars w5 w.heap.size (.slice o0 acc.length c0) (.pointer none)) := V4.out.kept kk5 (by omega)
              have B5 : Hid (Below w.heap.size w w5) := B4.out.trans ⟨kk5.os, kk5.tape, kk5.output, kk5.size, fun k hk => kk5.block k (Nat.lt_of_lt_of_le hk B4.out.size) (by omega)⟩
              have L5 : Hid (Laid a w5) := L4.out.kept kk5 HG.out
              have hbw : Hid (w.heap.size + 1 + 1 < w5.heap.size) := by
                obtain ⟨_, _, _, _, hRd, _⟩ := r5
                exact lt_of_cell hRd.c0
              obtain ⟨vs, O5, hvs⟩ := R4.out.kept kk5 (Nat.le_refl _)
              have O6 : Hid ((w5.alloc (.cells #[.iface ty y] 48)).ownsRow (w.heap.size + 1 + 1 + 1) 48 1 (.slice o0 acc.length c0) acc.length vs) := O5.alloc _
              have HVS : Hid (Ivs s.size w5 (w.heap.size + 1 + 1) acc vs) := hvs
              have IV : Hid (Iv s.size w5 (w.heap.size + 1 + 1) i (.iface ty y)) := iv
              have G5 : Hid (Mip.Rit t i t') := g5
              have R5 : Hid (RdS w5 (w.heap.size + 1 + 1) s t') := r5
              have V6 : Hid (Vars (w5.alloc (.cells #[.iface ty y] 48)) w.heap.size (.slice o0 acc.length c0) (.pointer none)) := V5.out.kept ((Kp.refl (w.heap.size + 1 + 1) w5).alloc _) (by omega)
              have p5 := V5.out.c0
              have p6 := V6.out.c0
              clear kk5 O5 hvs iv g5 r5
              refine hK _ _ ?_
              clear hK K
              refine wpAny_ready (rs := [0, 3]) (by kernel_rfl) (by simp) ?_
              refine AllReady.cons rfl (fun K hK => ?_) (AllReady.cons rfl (fun K hK => ?_) AllReady.nil)
              · go_simp
                refine hK _ _ ?_
                clear hK K
                refine wpAny_ready (rs := [3]) (by kernel_rfl) (by simp) ?_
                refine AllReady.cons rfl (fun K hK => ?_) AllReady.nil
                go_simp
                refine hK _ _ ?_
                clear hK K
                refine wpAny_ready (rs := [4]) (by kernel_rfl) (by simp) ?_
                refine AllReady.cons rfl (fun K hK => ?_) AllReady.nil
                refine (if_pos (by rfl)).mpr ?_
                refine wp_append_own _ (.tmp 29) (.tmp 32) 44 rfl (w.heap.size + 1 + 1 + 1) 48 i0 .nilIface 1 16 Tryz.underlying44 hi hz0 hz1 hz2 rfl (by decide) (.slice o0 acc.length c0) acc.length vs rfl O6.out ⟨w5.heap.size, 0, none⟩ 1 1 [.iface ty y] rfl rfl (news_one w5 _ _) (by intro u hu; simp at hu; subst hu; rfl) (by unfold maxLen; omega) (by omega) (by have := hbw.out; simp; omega) ?_
                intro v7 w7 O7 hg7 hn7
                refine hK _ _ ?_
                clear hK K
                obtain ⟨V7, RE⟩ := round_end a s w w5 w7 acc i t' _ v7 _ vs HG0.out V5.out B5.out L5.out R5.out HVS.out IV.out O6.out hg7 O7
                have p7 := V7.c0
                have f7 := V7.f0
                have HRE : Hid _ := RE
                obtain ⟨o7, n7, c7, rfl⟩ := owns_shape O7
                clear RE V7 O7 hg7 hn7
                refine wpAny_ready (rs := [5]) (by kernel_rfl) (by simp) ?_
                refine AllReady.cons rfl (fun K hK => ?_) AllReady.nil
                go_simp
                refine hK _ _ ?_
                clear hK K
                refine wpAny_done (by kernel_rfl) ?_ _
                go_wp2
                go_roundg (Mil.mu t')
                case measure => have := HG2.out; have := Mil.rit_mu (Mip.Rit.er G5.out); omega
                case rel =>
                  refine ⟨acc ++ [i], t', _, rfl, HRE.out.v, HRE.out.r, HRE.out.d, HRE.out.b, HRE.out.l, ⟨fun z => Iff.trans (Mip.prog_go HK0.out H6.out G5.out z).symm (HI.out.1 z), fun k p h => HI.out.2 k p (Mil.badP_go HK0.out (by rw [List.length_map]; exact H6.out) (Mip.Rit.er G5.out) (by rw [List.map_append] at h; exact h))⟩, ?_⟩
                  show (acc ++ [i]).length ≤ 60
                  rw [List.length_append]
                  have := H6.out
                  simp only [List.length_singleton]
                  omega
              · go_simp
                refine hK _ _ ?_
                clear hK K
                refine wpAny_ready (rs := [0]) (by kernel_rfl) (by simp) ?_
                refine AllReady.cons rfl (fun K hK => ?_) AllReady.nil
                go_simp
                refine hK _ _ ?_
                clear hK K
                refine wpAny_ready (rs := [4]) (by kernel_rfl) (by simp) ?_
                refine AllReady.cons rfl (fun K hK => ?_) AllReady.nil
                refine (if_pos (by rfl)).mpr ?_
                refine wp_append_own _ (.tmp 29) (.tmp 32) 44 rfl (w.heap.size + 1 + 1 + 1) 48 i0 .nilIface 1 16 Tryz.underlying44 hi hz0 hz1 hz2 rfl (by decide) (.slice o0 acc.length c0) acc.length vs rfl O6.out ⟨w5.heap.size, 0, none⟩ 1 1 [.iface ty y] rfl rfl (news_one w5 _ _) (by intro u hu; simp at hu; subst hu; rfl) (by unfold maxLen; omega) (by omega) (by have := hbw.out; simp; omega) ?_
                intro v7 w7 O7 hg7 hn7
                refine hK _ _ ?_
                clear hK K
                obtain ⟨V7, RE⟩ := round_end a s w w5 w7 acc i t' _ v7 _ vs HG0.out V5.out B5.out L5.out R5.out HVS.out IV.out O6.out hg7 O7
                have p7 := V7.c0
                have f7 := V7.f0
                have HRE : Hid _ := RE
                obtain ⟨o7, n7, c7, rfl⟩ := owns_shape O7
                clear RE V7 O7 hg7 hn7
                refine wpAny_ready (rs := [5]) (by kernel_rfl) (by simp) ?_
                refine AllReady.cons rfl (fun K hK => ?_) AllReady.nil
                go_simp
                refine hK _ _ ?_
                clear hK K
                refine wpAny_done (by kernel_rfl) ?_ _
                go_wp2
                go_roundg (Mil.mu t')
                case measure => have := HG2.out; have := Mil.rit_mu (Mip.Rit.er G5.out); omega
                case rel =>
                  refine ⟨acc ++ [i], t', _, rfl, HRE.out.v, HRE.out.r, HRE.out.d, HRE.out.b, HRE.out.l, ⟨fun z => Iff.trans (Mip.prog_go HK0.out H6.out G5.out z).symm (HI.out.1 z), fun k p h => HI.out.2 k p (Mil.badP_go HK0.out (by rw [List.length_map]; exact H6.out) (Mip.Rit.er G5.out) (by rw [List.map_append] at h; exact h))⟩, ?_⟩
                  show (acc ++ [i]).length ≤ 60
                  rw [List.length_append]
                  have := H6.out
                  simp only [List.length_singleton]
                  omega
            · have V5 : Hid (Vars w5 w.heap.size (.slice o0 acc.length c0) (.pointer none)) := V4.out.kept kk5 (by omega)
              have B5 : Hid (Below w.heap.size w w5) := B4.out.trans ⟨kk5.os, kk5.tape, kk5.output, kk5.size, fun k hk => kk5.block k (Nat.lt_of_lt_of_le hk B4.out.size) (by omega)⟩
              exact leaves_thrown s.size s.data.toList a w w5 _ rfl rfl _ _ V5.out B5.out k at_ d hkk hd (NO4.out _ _ hno)
  · have B3 : Hid (Below w.heap.size w w3) := ST.b.trans ⟨kk3.os, kk3.tape, kk3.output, kk3.size, fun k hk => kk3.block k (Nat.lt_of_lt_of_le hk ST.b.size) (by omega)⟩
    have V3 : Hid (Vars w3 w.heap.size (.slice none 0 0) (.pointer none)) := ST.v.kept kk3 (by omega)
    have TH : Hid (Threw (fun k p => Mil.advZ' s.size s.data.toList 0 = .bad k p) a e w3) := thr
    clear kk3 ST thr
    obtain ⟨k, at_, hkk, d, he, hd, hno⟩ := TH.out
    have NO : Hid (Mil.Fault s.data.toList k at_) := Mil.fault_size (Or.inl hno)
    clear hno
    subst he
    clear TH
    go_wp2
    exact leaves_thrown s.size s.data.toList a w w3 _ rfl rfl _ _ V3.out B3.out k at_ d hkk hd NO.out

end Go.Proofs.YtkngcglmfbdblaaGreatDoor
