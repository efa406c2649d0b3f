/-
  Readw, Pars, Qd, in one.
-/
import Derived.Test.YtibbjohkiigffaaGreatDoorReadi
import Derived.Test.YtibbjohkiigffaaGreatDoorCo2
namespace Go.Proofs.YtibbjohkiigffaaGreatDoor
open Go.RowKit

set_option maxRecDepth 100000 in
set_option maxHeartbeats 4000000 in
theorem readItems_any (a : Nat → Addr) (s : ByteArray) (hs : s.size ≤ 4000) (w : World) (L : Laid a w) :
    Calls Tryz.prog 21 #[.string s] w (RiPost s.size s.data.toList a w) := by
  have ST := start_at a s w L
  have HG : Hid (23 ≤ w.heap.size + 1 + 1) := by have := L.size; show _ ≤ _; omega
  have HG0 : Hid (23 ≤ w.heap.size) := L.size
  clear L
  have hmf : ∀ (fn : Fn) (first cap : Array Value) (w : World), (Instr.makeFunc fn first cap).run Tryz.prog w = .ok (.func fn first cap) w := fun _ _ _ _ => rfl
  go_enter_defers Tryz.func21, Tryz.ntmps21
  go_wp2_with fail
  generalize (((w.alloc (.cells #[.slice none 0 0] 61)).alloc (.cells #[.pointer none] 59)).alloc (.cells #[.string s, .int .i64 0, .int .i64 0, .int .i64 0, .int .i64 0, .string ⟨#[]⟩, .int .i64 0] 116)) = W2 at ST ⊢
  refine (advance_raw a (w.heap.size + 1 + 1) s 0 0 0 0 ⟨#[]⟩ 0 W2 ST.l HG.out ST.r (Nat.zero_le _) (Nat.zero_le _) hs).mono ?_
  rintro e w3 ⟨kk3, (⟨st, rfl, g3, r3⟩ | thr)⟩
  · have G3 : Hid (Mil.adv' s.data.toList 0 = some st) := g3
    have B3 : Hid (Below w.heap.size w w3) := ST.b.trans ⟨kk3.os, kk3.tape, kk3.output, kk3.size, fun k hk => kk3.block k (Nat.lt_of_lt_of_le hk ST.b.size) (by omega)⟩
    have V3 : Hid (Vars w3 w.heap.size (.slice none 0 0) (.pointer none)) := ST.v.kept kk3 (by omega)
    have HL : Hid (Laid a w3) := ST.l.kept kk3 HG.out
    have R3 : Hid (RdS w3 (w.heap.size + 1 + 1) s st) := r3
    clear g3 kk3 ST r3 W2
    go_wp2_with fail
    go_loopg [] (Mil.mu st) (fun g wr => ∃ acc t v0, g = Mil.mu t ∧ Hid (Vars wr w.heap.size v0 (.pointer none)) ∧ Hid (Row s.size wr (w.heap.size + 1 + 1) acc v0) ∧ Hid (RdS wr (w.heap.size + 1 + 1) s t) ∧ Hid (Below w.heap.size w wr) ∧ Hid (Laid a wr) ∧ Hid ((∀ z, Mip.Rprog acc t z ↔ Mip.Rprog [] st z) ∧ ∀ k p, Mil.BadP s.size (acc.map Mip.eri) t k p → Mil.BadP s.size [] st k p) ∧ Hid (acc.length ≤ 60))
    case atStart => exact ⟨[], st, .slice none 0 0, rfl, V3, Row.nil _ _ _, R3, B3, HL, ⟨fun z => Iff.rfl, fun _ _ h => h⟩, Nat.zero_le _⟩
    case round =>
      clear V3 R3 B3 HL
      obtain ⟨acc, t, v0, hg, HV, HR, HD, HB, HL, HI, HM⟩ := hrel
      have HG2 : Hid (gk = Mil.mu t) := hg
      clear hg
      obtain ⟨o0, c0, rfl⟩ := HR.out.shape
      obtain ⟨p, tp, x, hp, hRd, hr, hx, hn⟩ := HD.out
      have c3 := hRd.c3
      have c4 := hRd.c4
      have q0 := HV.out.c0
      have q1 := HV.out.c1
      have f0 := HV.out.f0
      have f1 := HV.out.f1
      have HTP : Hid (tp = place s.size t) := hn.2.2
      clear hRd hr hx hn hp
      by_cases hk0 : t.tok.kind = 0
      · have hb0 : (((t.tok.kind : Nat) : Int) != 0) = false := by simp; omega
        have HK0 : Hid (t.tok.kind = 0) := hk0
        clear hk0
        go_wp2
        refine leaves_done s.size s.data.toList a w _ _ rfl rfl o0 acc.length c0 ((HV.out.set0 _).set1 _) ((HB.out.setCell (Nat.le_refl _) _).setCell (p := ⟨w.heap.size + 1, 0, none⟩) (Nat.le_succ _) _) acc (w.heap.size + 1 + 1) (by omega) ⟨st, G3.out, (HI.out.1 _).1 (Mip.prog_stop HK0.out)⟩ ?_
        exact (HR.out.kept ((Kp.refl w.heap.size wr).setCell 0 _) (by omega)).kept ((Kp.refl (w.heap.size + 1) _).setCell 0 _) (by omega)
      · have hb0 : (((t.tok.kind : Nat) : Int) != 0) = true := by simp; omega
        have HK0 : Hid (t.tok.kind ≠ 0) := hk0
        clear hk0
        by_cases h6 : acc.length = 60
        · have hb6 : (((acc.length : Nat) : Int) == 60) = true := by simp; omega
          have H6 : Hid (acc.length = 60) := h6
          clear h6
          have hcm := HL.out.many
          have hno : Mil.Fault s.data.toList 4 tp := Mil.fault_size (Or.inr ⟨_, G3.out, HI.out.2 _ _ (by rw [HTP.out]; exact Mil.badP_many HK0.out (by rw [List.length_map]; exact H6.out))⟩)
          have hpp : ∀ tm : Array Value, tm[2]? = some (.pointer (some ⟨w.heap.size, 0, none⟩)) → tm[3]? = some (.pointer (some ⟨w.heap.size + 1, 0, none⟩)) → bodyPostD Tryz.prog Tryz.f21 (RiPost s.size s.data.toList a w) (Exit.panic [{ v := .iface 59 (.pointer (some ⟨wr.heap.size, 0, none⟩)), recovered := false }]) { tmps := tm, defers := D0 w.heap.size } (wr.alloc (.cells #[.int .i64 tp, errV (a 4)] 70)).drew := by
            intro tm h2 h3
            exact leaves_thrown s.size s.data.toList a w _ tm h2 h3 _ _ (HV.out.kept (((Kp.refl (w.heap.size + 1 + 1) wr).alloc _).drew) (by omega)) (HB.out.alloc HB.out.size _).drew 4 tp wr.heap.size (Or.inr (Or.inr (Or.inr rfl))) (heap_alloc_new wr _) hno
          have HPP : Hid _ := hpp
          clear hpp hno
          go_wp2
          refine wp_region_any (by kernel_rfl) ?_
          change wpAny _ _ _ _ _ _ _ (World.drew _)
          refine wpAny_take (i := 0) (v := .pointer (some ⟨w.heap.size + 1 + 1, 0, none⟩)) rfl (by kernel_rfl) (by kernel_rfl) (by kernel_rfl) (fun _ _ _ h => bp_put (i := 20) (by decide) (by decide) h) (Or.inl ⟨by rfl, fun w => by go_simp⟩) ?_
          refine wpAny_take (i := 1) (v := .pointer (some ⟨w.heap.size + 1 + 1, 0, none⟩)) rfl (by kernel_rfl) (by kernel_rfl) (by kernel_rfl) (fun _ _ _ h => bp_put (i := 21) (by decide) (by decide) h) (Or.inl ⟨by rfl, fun w => by go_simp⟩) ?_
          refine wpAny_take (i := 2) (v := .pointer (some ⟨w.heap.size + 1 + 1, 3, none⟩)) rfl (by kernel_rfl) (by kernel_rfl) (by kernel_rfl) (fun _ _ _ h => bp_put (i := 22) (by decide) (by decide) h) (Or.inl ⟨by rfl, fun w => by go_simp⟩) ?_
          refine wpAny_take (i := 3) (v := .pointer (some ⟨w.heap.size + 1 + 1, 4, none⟩)) rfl (by kernel_rfl) (by kernel_rfl) (by kernel_rfl) (fun _ _ _ h => bp_put (i := 23) (by decide) (by decide) h) (Or.inl ⟨by rfl, fun w => by go_simp⟩) ?_
          refine wpAny_ready (rs := [4, 5]) (by kernel_rfl) (by simp) ?_
          refine AllReady.cons rfl (fun K hK => ?_) (AllReady.cons rfl (fun K hK => ?_) AllReady.nil)
          · go_simp
            refine hK _ _ ?_
            clear hK K
            refine wpAny_ready (rs := [5]) (by kernel_rfl) (by simp) ?_
            refine AllReady.cons rfl (fun K hK => ?_) AllReady.nil
            go_simp
            refine hK _ _ ?_
            clear hK K
            refine wpAny_take (i := 6) (v := .agg #[.int .i64 tp, errV (a 4)]) rfl (by kernel_rfl) (by kernel_rfl) (by kernel_rfl) (fun _ _ _ h => bp_put (i := 26) (by decide) (by decide) h) (Or.inl ⟨by rfl, fun w => by go_simp⟩) ?_
            refine wpAny_ready (rs := [7]) (by kernel_rfl) (by simp) ?_
            refine AllReady.cons rfl (fun K hK => ?_) AllReady.nil
            go_simp
            refine hK _ _ ?_
            clear hK K
            refine wpAny_take (i := 8) (v := .iface 59 (.pointer (some ⟨wr.heap.size, 0, none⟩))) rfl (by kernel_rfl) (by kernel_rfl) (by kernel_rfl) (fun _ _ _ h => bp_put (i := 28) (by decide) (by decide) h) (Or.inl ⟨by rfl, fun w => by go_simp⟩) ?_
            refine wpAny_ready (rs := [9]) (by kernel_rfl) (by simp) ?_
            refine AllReady.cons rfl (fun K hK => ?_) AllReady.nil
            go_simp
            exact HPP.out _ rfl rfl
          · go_simp
            refine hK _ _ ?_
            clear hK K
            refine wpAny_ready (rs := [4]) (by kernel_rfl) (by simp) ?_
            refine AllReady.cons rfl (fun K hK => ?_) AllReady.nil
            go_simp
            refine hK _ _ ?_
            clear hK K
            refine wpAny_take (i := 6) (v := .agg #[.int .i64 tp, errV (a 4)]) rfl (by kernel_rfl) (by kernel_rfl) (by kernel_rfl) (fun _ _ _ h => bp_put (i := 26) (by decide) (by decide) h) (Or.inl ⟨by rfl, fun w => by go_simp⟩) ?_
            refine wpAny_ready (rs := [7]) (by kernel_rfl) (by simp) ?_
            refine AllReady.cons rfl (fun K hK => ?_) AllReady.nil
            go_simp
            refine hK _ _ ?_
            clear hK K
            refine wpAny_take (i := 8) (v := .iface 59 (.pointer (some ⟨wr.heap.size, 0, none⟩))) rfl (by kernel_rfl) (by kernel_rfl) (by kernel_rfl) (fun _ _ _ h => bp_put (i := 28) (by decide) (by decide) h) (Or.inl ⟨by rfl, fun w => by go_simp⟩) ?_
            refine wpAny_ready (rs := [9]) (by kernel_rfl) (by simp) ?_
            refine AllReady.cons rfl (fun K hK => ?_) AllReady.nil
            go_simp
            exact HPP.out _ rfl rfl
        · have hb6 : (((acc.length : Nat) : Int) == 60) = false := by simp; omega
          have H6 : Hid (acc.length ≠ 60) := h6
          clear h6
          have L4 : Hid (Laid a wr.drew) := HL.out.kept ((Kp.refl (w.heap.size + 1 + 1) wr).drew) HG.out
          have D4 : Hid (RdS wr.drew (w.heap.size + 1 + 1) s t) := HD.out.kept ((Kp.refl (w.heap.size + 1 + 1 + 1) wr).drew) (by omega)
          have V4 : Hid (Vars wr.drew w.heap.size (.slice o0 acc.length c0) (.pointer none)) := HV.out.kept ((Kp.refl (w.heap.size + 1 + 1) wr).drew) (by omega)
          have R4 : Hid (Row s.size wr.drew (w.heap.size + 1 + 1) acc (.slice o0 acc.length c0)) := HR.out.kept ((Kp.refl (w.heap.size + 1 + 1) wr).drew) (by omega)
          have B4 : Hid (Below w.heap.size w wr.drew) := HB.out.drew
          have NO4 : Hid (∀ k p, Mil.BadI s.size t k p → Mil.Fault s.data.toList k p) := fun k p h => Mil.fault_size (Or.inr ⟨_, G3.out, HI.out.2 _ _ (Mil.badP_item HK0.out (by rw [List.length_map]; exact H6.out) h)⟩)
          obtain ⟨i0, hi, hz0, hz1, hz2⟩ := info_parts Tryz.infoItemM
          have hlen : acc.length ≤ 60 := HM.out
          clear HV HR HD HB HL
          go_wp2_with fail
          refine wp_region_any (by kernel_rfl) ?_
          change wpAny _ _ _ _ _ _ _ (World.drew _)
          refine wpAny_take (i := 1) (v := .pointer (some ⟨w.heap.size + 1 + 1, 0, none⟩)) rfl (by kernel_rfl) (by kernel_rfl) (by kernel_rfl) (fun _ _ _ h => bp_put (i := 30) (by decide) (by decide) h) (Or.inl ⟨by rfl, fun w => by go_simp⟩) ?_
          refine wpAny_ready (rs := [0, 2]) (by kernel_rfl) (by simp) ?_
          refine AllReady.cons rfl (fun K hK => ?_) (AllReady.cons rfl (fun K hK => ?_) AllReady.nil)
          · go_simp
            refine hK _ _ ?_
            clear hK K
            refine wpAny_ready (rs := [2]) (by kernel_rfl) (by simp) ?_
            refine AllReady.cons rfl (fun K hK => ?_) AllReady.nil
            go_simp
            refine (mitem_any a (w.heap.size + 1 + 1) s HG.out hs t _ L4.out D4.out).mono ?_
            rintro e w5 ⟨kk5, (⟨i, t', ty, y, rfl, iv, g5, r5⟩ | ⟨k, at_, hkk, d, rfl, hd, hno⟩)⟩
            · have V5 : Hid (Vars w5 w.heap.size (.slice o0 acc.length c0) (.pointer none)) := V4.out.kept kk5 (by omega)
              have B5 : Hid (Below w.heap.size w w5) := B4.out.trans ⟨kk5.os, kk5.tape, kk5.output, kk5.size, fun k hk => kk5.block k (Nat.lt_of_lt_of_le hk B4.out.size) (by omega)⟩
              have L5 : Hid (Laid a w5) := L4.out.kept kk5 HG.out
              have hbw : Hid (w.heap.size + 1 + 1 < w5.heap.size) := by
                obtain ⟨_, _, _, _, hRd, _⟩ := r5
                exact lt_of_cell hRd.c0
              obtain ⟨vs, O5, hvs⟩ := R4.out.kept kk5 (Nat.le_refl _)
              have O6 : Hid ((w5.alloc (.cells #[.iface ty y] 118)).ownsRow (w.heap.size + 1 + 1 + 1) 118 1 (.slice o0 acc.length c0) acc.length vs) := O5.alloc _
              have HVS : Hid (Ivs s.size w5 (w.heap.size + 1 + 1) acc vs) := hvs
              have IV : Hid (Iv s.size w5 (w.heap.size + 1 + 1) i (.iface ty y)) := iv
              have G5 : Hid (Mip.Rit t i t') := g5
              have R5 : Hid (RdS w5 (w.heap.size + 1 + 1) s t') := r5
              have V6 : Hid (Vars (w5.alloc (.cells #[.iface ty y] 118)) w.heap.size (.slice o0 acc.length c0) (.pointer none)) := V5.out.kept ((Kp.refl (w.heap.size + 1 + 1) w5).alloc _) (by omega)
              have p5 := V5.out.c0
              have p6 := V6.out.c0
              clear kk5 O5 hvs iv g5 r5
              refine hK _ _ ?_
              clear hK K
              refine wpAny_ready (rs := [3]) (by kernel_rfl) (by simp) ?_
              refine AllReady.cons rfl (fun K hK => ?_) AllReady.nil
              go_simp
              refine hK _ _ ?_
              clear hK K
              refine wpAny_ready (rs := [4]) (by kernel_rfl) (by simp) ?_
              refine AllReady.cons rfl (fun K hK => ?_) AllReady.nil
              refine (if_pos (by rfl)).mpr ?_
              refine wp_append_own _ (.tmp 29) (.tmp 32) 61 rfl (w.heap.size + 1 + 1 + 1) 118 i0 .nilIface 1 16 Tryz.underlying61 hi hz0 hz1 hz2 rfl (by decide) (.slice o0 acc.length c0) acc.length vs rfl O6.out ⟨w5.heap.size, 0, none⟩ 1 1 [.iface ty y] rfl rfl (news_one w5 _ _) (by intro u hu; simp at hu; subst hu; rfl) (by unfold maxLen; omega) (by omega) (by have := hbw.out; simp; omega) ?_
              intro v7 w7 O7 hg7 hn7
              refine hK _ _ ?_
              clear hK K
              obtain ⟨V7, RE⟩ := round_end a s w w5 w7 acc i t' _ v7 _ vs HG0.out V5.out B5.out L5.out R5.out HVS.out IV.out O6.out hg7 O7
              have p7 := V7.c0
              have f7 := V7.f0
              have HRE : Hid _ := RE
              obtain ⟨o7, n7, c7, rfl⟩ := owns_shape O7
              clear RE V7 O7 hg7 hn7
              refine wpAny_ready (rs := [5]) (by kernel_rfl) (by simp) ?_
              refine AllReady.cons rfl (fun K hK => ?_) AllReady.nil
              go_simp
              refine hK _ _ ?_
              clear hK K
              refine wpAny_done (by kernel_rfl) ?_ _
              go_wp2
              go_roundg (Mil.mu t')
              case measure => have := HG2.out; have := Mil.rit_mu (Mip.Rit.er G5.out); omega
              case rel =>
                refine ⟨acc ++ [i], t', _, rfl, HRE.out.v, HRE.out.r, HRE.out.d, HRE.out.b, HRE.out.l, ⟨fun z => Iff.trans (Mip.prog_go HK0.out H6.out G5.out z).symm (HI.out.1 z), fun k p h => HI.out.2 k p (Mil.badP_go HK0.out (by rw [List.length_map]; exact H6.out) (Mip.Rit.er G5.out) (by rw [List.map_append] at h; exact h))⟩, ?_⟩
                show (acc ++ [i]).length ≤ 60
                rw [List.length_append]
                have := H6.out
                simp only [List.length_singleton]
                omega
            · have V5 : Hid (Vars w5 w.heap.size (.slice o0 acc.length c0) (.pointer none)) := V4.out.kept kk5 (by omega)
              have B5 : Hid (Below w.heap.size w w5) := B4.out.trans ⟨kk5.os, kk5.tape, kk5.output, kk5.size, fun k hk => kk5.block k (Nat.lt_of_lt_of_le hk B4.out.size) (by omega)⟩
              exact leaves_thrown s.size s.data.toList a w w5 _ rfl rfl _ _ V5.out B5.out k at_ d hkk hd (NO4.out _ _ hno)
          · go_simp
            refine (mitem_any a (w.heap.size + 1 + 1) s HG.out hs t _ L4.out D4.out).mono ?_
            rintro e w5 ⟨kk5, (⟨i, t', ty, y, rfl, iv, g5, r5⟩ | ⟨k, at_, hkk, d, rfl, hd, hno⟩)⟩
            · have V5 : Hid (Vars w5 w.heap.size (.slice o0 acc.length c0) (.pointer none)) := V4.out.kept kk5 (by omega)
              have B5 : Hid (Below w.heap.size w w5) := B4.out.trans ⟨kk5.os, kk5.tape, kk5.output, kk5.size, fun k hk => kk5.block k (Nat.lt_of_lt_of_le hk B4.out.size) (by omega)⟩
              have L5 : Hid (Laid a w5) := L4.out.kept kk5 HG.out
              have hbw : Hid (w.heap.size + 1 + 1 < w5.heap.size) := by
                obtain ⟨_, _, _, _, hRd, _⟩ := r5
                exact lt_of_cell hRd.c0
              obtain ⟨vs, O5, hvs⟩ := R4.out.kept kk5 (Nat.le_refl _)
              have O6 : Hid ((w5.alloc (.cells #[.iface ty y] 118)).ownsRow (w.heap.size + 1 + 1 + 1) 118 1 (.slice o0 acc.length c0) acc.length vs) := O5.alloc _
              have HVS : Hid (Ivs s.size w5 (w.heap.size + 1 + 1) acc vs) := hvs
              have IV : Hid (Iv s.size w5 (w.heap.size + 1 + 1) i (.iface ty y)) := iv
              have G5 : Hid (Mip.Rit t i t') := g5
              have R5 : Hid (RdS w5 (w.heap.size + 1 + 1) s t') := r5
              have V6 : Hid (Vars (w5.alloc (.cells #[.iface ty y] 118)) w.heap.size (.slice o0 acc.length c0) (.pointer none)) := V5.out.kept ((Kp.refl (w.heap.size + 1 + 1) w5).alloc _) (by omega)
              have p5 := V5.out.c0
              have p6 := V6.out.c0
              clear kk5 O5 hvs iv g5 r5
              refine hK _ _ ?_
              clear hK K
              refine wpAny_ready (rs := [0, 3]) (by kernel_rfl) (by simp) ?_
              refine AllReady.cons rfl (fun K hK => ?_) (AllReady.cons rfl (fun K hK => ?_) AllReady.nil)
              · go_simp
                refine hK _ _ ?_
                clear hK K
                refine wpAny_ready (rs := [3]) (by kernel_rfl) (by simp) ?_
                refine AllReady.cons rfl (fun K hK => ?_) AllReady.nil
                go_simp
                refine hK _ _ ?_
                clear hK K
                refine wpAny_ready (rs := [4]) (by kernel_rfl) (by simp) ?_
                refine AllReady.cons rfl (fun K hK => ?_) AllReady.nil
                refine (if_pos (by rfl)).mpr ?_
                refine wp_append_own _ (.tmp 29) (.tmp 32) 61 rfl (w.heap.size + 1 + 1 + 1) 118 i0 .nilIface 1 16 Tryz.underlying61 hi hz0 hz1 hz2 rfl (by decide) (.slice o0 acc.length c0) acc.length vs rfl O6.out ⟨w5.heap.size, 0, none⟩ 1 1 [.iface ty y] rfl rfl (news_one w5 _ _) (by intro u hu; simp at hu; subst hu; rfl) (by unfold maxLen; omega) (by omega) (by have := hbw.out; simp; omega) ?_
                intro v7 w7 O7 hg7 hn7
                refine hK _ _ ?_
                clear hK K
                obtain ⟨V7, RE⟩ := round_end a s w w5 w7 acc i t' _ v7 _ vs HG0.out V5.out B5.out L5.out R5.out HVS.out IV.out O6.out hg7 O7
                have p7 := V7.c0
                have f7 := V7.f0
                have HRE : Hid _ := RE
                obtain ⟨o7, n7, c7, rfl⟩ := owns_shape O7
                clear RE V7 O7 hg7 hn7
                refine wpAny_ready (rs := [5]) (by kernel_rfl) (by simp) ?_
                refine AllReady.cons rfl (fun K hK => ?_) AllReady.nil
                go_simp
                refine hK _ _ ?_
                clear hK K
                refine wpAny_done (by kernel_rfl) ?_ _
                go_wp2
                go_roundg (Mil.mu t')
                case measure => have := HG2.out; have := Mil.rit_mu (Mip.Rit.er G5.out); omega
                case rel =>
                  refine ⟨acc ++ [i], t', _, rfl, HRE.out.v, HRE.out.r, HRE.out.d, HRE.out.b, HRE.out.l, ⟨fun z => Iff.trans (Mip.prog_go HK0.out H6.out G5.out z).symm (HI.out.1 z), fun k p h => HI.out.2 k p (Mil.badP_go HK0.out (by rw [List.length_map]; exact H6.out) (Mip.Rit.er G5.out) (by rw [List.map_append] at h; exact h))⟩, ?_⟩
                  show (acc ++ [i]).length ≤ 60
                  rw [List.length_append]
                  have := H6.out
                  simp only [List.length_singleton]
                  omega
              · go_simp
                refine hK _ _ ?_
                clear hK K
                refine wpAny_ready (rs := [0]) (by kernel_rfl) (by simp) ?_
                refine AllReady.cons rfl (fun K hK => ?_) AllReady.nil
                go_simp
                refine hK _ _ ?_
                clear hK K
                refine wpAny_ready (rs := [4]) (by kernel_rfl) (by simp) ?_
                refine AllReady.cons rfl (fun K hK => ?_) AllReady.nil
                refine (if_pos (by rfl)).mpr ?_
                refine wp_append_own _ (.tmp 29) (.tmp 32) 61 rfl (w.heap.size + 1 + 1 + 1) 118 i0 .nilIface 1 16 Tryz.underlying61 hi hz0 hz1 hz2 rfl (by decide) (.slice o0 acc.length c0) acc.length vs rfl O6.out ⟨w5.heap.size, 0, none⟩ 1 1 [.iface ty y] rfl rfl (news_one w5 _ _) (by intro u hu; simp at hu; subst hu; rfl) (by unfold maxLen; omega) (by omega) (by have := hbw.out; simp; omega) ?_
                intro v7 w7 O7 hg7 hn7
                refine hK _ _ ?_
                clear hK K
                obtain ⟨V7, RE⟩ := round_end a s w w5 w7 acc i t' _ v7 _ vs HG0.out V5.out B5.out L5.out R5.out HVS.out IV.out O6.out hg7 O7
                have p7 := V7.c0
                have f7 := V7.f0
                have HRE : Hid _ := RE
                obtain ⟨o7, n7, c7, rfl⟩ := owns_shape O7
                clear RE V7 O7 hg7 hn7
                refine wpAny_ready (rs := [5]) (by kernel_rfl) (by simp) ?_
                refine AllReady.cons rfl (fun K hK => ?_) AllReady.nil
                go_simp
                refine hK _ _ ?_
                clear hK K
                refine wpAny_done (by kernel_rfl) ?_ _
                go_wp2
                go_roundg (Mil.mu t')
                case measure => have := HG2.out; have := Mil.rit_mu (Mip.Rit.er G5.out); omega
                case rel =>
                  refine ⟨acc ++ [i], t', _, rfl, HRE.out.v, HRE.out.r, HRE.out.d, HRE.out.b, HRE.out.l, ⟨fun z => Iff.trans (Mip.prog_go HK0.out H6.out G5.out z).symm (HI.out.1 z), fun k p h => HI.out.2 k p (Mil.badP_go HK0.out (by rw [List.length_map]; exact H6.out) (Mip.Rit.er G5.out) (by rw [List.map_append] at h; exact h))⟩, ?_⟩
                  show (acc ++ [i]).length ≤ 60
                  rw [List.length_append]
                  have := H6.out
                  simp only [List.length_singleton]
                  omega
            · have V5 : Hid (Vars w5 w.heap.size (.slice o0 acc.length c0) (.pointer none)) := V4.out.kept kk5 (by omega)
              have B5 : Hid (Below w.heap.size w w5) := B4.out.trans ⟨kk5.os, kk5.tape, kk5.output, kk5.size, fun k hk => kk5.block k (Nat.lt_of_lt_of_le hk B4.out.size) (by omega)⟩
              exact leaves_thrown s.size s.data.toList a w w5 _ rfl rfl _ _ V5.out B5.out k at_ d hkk hd (NO4.out _ _ hno)
  · have B3 : Hid (Below w.heap.size w w3) := ST.b.trans ⟨kk3.os, kk3.tape, kk3.output, kk3.size, fun k hk => kk3.block k (Nat.lt_of_lt_of_le hk ST.b.size) (by omega)⟩
    have V3 : Hid (Vars w3 w.heap.size (.slice none 0 0) (.pointer none)) := ST.v.kept kk3 (by omega)
    have TH : Hid (Threw (fun k p => Mil.advZ' s.size s.data.toList 0 = .bad k p) a e w3) := thr
    clear kk3 ST thr
    obtain ⟨k, at_, hkk, d, he, hd, hno⟩ := TH.out
    have NO : Hid (Mil.Fault s.data.toList k at_) := Mil.fault_size (Or.inl hno)
    clear hno
    subst he
    clear TH
    go_wp2
    exact leaves_thrown s.size s.data.toList a w w3 _ rfl rfl _ _ V3.out B3.out k at_ d hkk hd NO.out

end Go.Proofs.YtibbjohkiigffaaGreatDoor
namespace Go.Proofs.YtibbjohkiigffaaGreatDoor
open Go.RowKit

/-- What Parse answers: a tree, a Diag, or ErrLong. -/
def PaPost (N : Nat) (r : Mil.Bytes) (a : Nat → Addr) (w : World) (e : Ending) (w' : World) : Prop :=
  Below w.heap.size w w' ∧
  ((∃ l b o n c t, w.heap.size ≤ b ∧ e = .returned (.tuple #[.pointer (some ⟨t, 0, none⟩), .nilIface]) ∧ Mip.Parsed r l ∧ w'.heap[t]? = some (.cells #[.slice o n c] 77 (0, 0)) ∧ Row N w' b l (.slice o n c)) ∨
   (∃ k at_ d, (k = 1 ∨ k = 2 ∨ k = 3 ∨ k = 4) ∧ e = .returned (.tuple #[.pointer none, .iface 59 (.pointer (some ⟨d, 0, none⟩))]) ∧ w'.heap[d]? = some (.cells #[.int .i64 at_, errV (a k)] 70 (0, 0)) ∧ (∀ l, ¬ Mil.Parsed r l) ∧ r.length ≤ 4000 ∧ Mil.Fault r k at_) ∨
   (e = .returned (.tuple #[.pointer none, errV (a 1)]) ∧ (∀ l, ¬ Mil.Parsed r l) ∧ 4000 < r.length))

set_option maxHeartbeats 1000000 in
theorem parse_any (a : Nat → Addr) (s : ByteArray) (w : World) (L : Laid a w) :
    Calls Tryz.prog 13 #[.string s] w (PaPost s.size s.data.toList a w) := by
  have HL : Hid (Laid a w) := L
  have hlen : s.data.toList.length = s.size := by simp
  have HLN : Hid (s.data.toList.length = s.size) := hlen
  clear hlen
  by_cases hs : s.size ≤ 4000
  · have hgt : ¬ (4000 : Int) < (s.size : Int) := by omega
    have HP : Hid (∀ l, Mil.Parsed s.data.toList l ↔ Mil.Rprog' s.data.toList l) := by
      intro l
      have e4 : ¬ 4000 < s.data.toList.length := by rw [HLN.out]; omega
      constructor
      · rintro ⟨n, hn⟩
        unfold Mil.parse at hn
        rw [if_neg e4] at hn
        obtain ⟨q, h1, h2⟩ := Option.bind_eq_some_iff.1 hn
        exact ⟨q, h1, n, h2⟩
      · rintro ⟨q, h1, n, h2⟩
        refine ⟨n, ?_⟩
        unfold Mil.parse
        rw [if_neg e4, h1, Option.bind_some, h2]
    have HPP : Hid (∀ l, Mip.Rprog' s.data.toList l → Mip.Parsed s.data.toList l) := by
      rintro l ⟨q, h1, n, h2⟩
      refine ⟨n, ?_⟩
      unfold Mip.parse
      rw [if_neg (by rw [HLN.out]; omega), h1, Option.bind_some, h2]
    clear L
    go_enter Tryz.func13, Tryz.ntmps13
    go_wp2_with fail
    refine (readItems_any a s hs _ HL.out).mono ?_
    rintro e w1 ⟨hb1, (⟨l, b, o, n, c, hwb, rfl, hl, hR⟩ | ⟨k, at_, d, hk, rfl, hd, hno⟩)⟩
    · have HR : Hid (Row s.size w1 b l (.slice o n c)) := hR
      have HLL : Hid (Mip.Rprog' s.data.toList l) := hl
      clear hR hl
      go_wp2
      refine bodyPost_ret (v := .tuple #[.pointer (some ⟨w1.heap.size, 0, none⟩), .nilIface]) (by simp [results, Tryz.results13, go_sem]) rfl ⟨hb1.alloc hb1.size _, Or.inl ⟨l, b, o, n, c, w1.heap.size, hwb, rfl, HPP.out l HLL.out, heap_alloc_new w1 _, HR.out.kept ((Kp.refl b w1).alloc _) (Nat.le_refl _)⟩⟩
    · have HN : Hid _ := hno
      clear hno
      go_wp2
      refine bodyPost_ret (v := .tuple #[.pointer none, .iface 59 (.pointer (some ⟨d, 0, none⟩))]) (by simp [results, Tryz.results13, go_sem]) rfl ⟨hb1, Or.inr (Or.inl ⟨k, at_, d, hk, rfl, hd, fun l h => Mil.fault_no HN.out l ((HP.out l).1 h), by have := HLN.out; omega, HN.out⟩)⟩
  · have hgt : (4000 : Int) < (s.size : Int) := by omega
    have cl := L.long
    have HN : Hid (∀ l, ¬ Mil.Parsed s.data.toList l) := by
      rintro l ⟨n, hn⟩
      unfold Mil.parse at hn
      rw [if_pos (by rw [HLN.out]; omega)] at hn
      cases hn
    clear L
    go_enter Tryz.func13, Tryz.ntmps13
    go_wp2
    go_quiet (fail)
    go_wp2
    refine bodyPost_ret (v := .tuple #[.pointer none, errV (a 1)]) (by simp [results, Tryz.results13, go_sem]) rfl ⟨?_, Or.inr (Or.inr ⟨rfl, HN.out, by have := HLN.out; omega⟩)⟩
    first | exact below_drewN (Below.refl _ _) _ | exact (Below.refl _ _).drew | exact Below.refl _ _

end Go.Proofs.YtibbjohkiigffaaGreatDoor
namespace Go.Proofs.YtibbjohkiigffaaGreatDoor

namespace Mip
open Mil
theorem adv_off {s s1 : St} (h : adv s = some s1) : off s1 ≤ 2 * mu s := by
  have h1 := adv_le h
  have h2 : s1.rest.length ≤ mu s1 := by unfold mu; split <;> omega
  have h3 : s.rest.length ≤ mu s := by unfold mu; split <;> omega
  have h4 : s1.tok.txt.length ≤ s.rest.length := by
    unfold adv adv' at h
    split at h
    · cases h
    · rename_i t r hc
      have k1 := cut_len hc
      have k2 := skip_short false s.rest
      split at h
      · obtain rfl := (Option.some.inj h).symm
        exact Nat.le_trans k1 k2
      · split at h
        · cases h
        · obtain rfl := (Option.some.inj h).symm
          exact Nat.le_trans k1 k2
  unfold off
  omega
theorem names_places : ∀ (n : Nat) (acc : List (Bytes × Nat)) (s : St) (x : List (Bytes × Nat) × St), pnames n acc s = some x → mu s ≤ 4001 → (∀ y ∈ acc, y.2 ≤ 10000) → ∀ y ∈ x.1, y.2 ≤ 10000
  | 0, _, _, _, h, _, _ => by cases h
  | n + 1, acc, s, x, h, hs, ha => by
    rw [pnames] at h
    split at h
    · obtain ⟨s1, h1, h⟩ := Option.bind_eq_some_iff.1 h
      obtain ⟨y, h2, h⟩ := Option.bind_eq_some_iff.1 h
      have k1 := adv_le h1
      have k2 := name_mu h2
      have k3 := adv_off h1
      refine names_places n _ _ _ h (by omega) (fun z hz => ?_)
      rcases List.mem_append.1 hz with hz | hz
      · exact ha z hz
      · simp at hz
        rw [hz]
        show off s1 ≤ 10000
        omega
    · obtain rfl := Option.some.inj h
      exact ha
theorem item_places {n : Nat} {s : St} {x : It × St} (h : pitem n s = some x) (hs : mu s ≤ 4001) : ∀ y ∈ x.1.names, y.2 ≤ 10000 := by
  unfold pitem at h
  split at h
  · obtain ⟨s1, _, h⟩ := Option.bind_eq_some_iff.1 h
    obtain ⟨_, _, h⟩ := Option.bind_eq_some_iff.1 h
    obtain ⟨_, _, h⟩ := Option.bind_eq_some_iff.1 h
    obtain ⟨_, _, h⟩ := Option.bind_eq_some_iff.1 h
    obtain ⟨_, _, h⟩ := Option.bind_eq_some_iff.1 h
    obtain ⟨_, _, h⟩ := Option.bind_eq_some_iff.1 h
    obtain ⟨_, _, rfl⟩ := Option.map_eq_some_iff.1 h
    intro y hy; cases hy
  · split at h
    · obtain ⟨s1, h1, h⟩ := Option.bind_eq_some_iff.1 h
      obtain ⟨z, h2, h⟩ := Option.bind_eq_some_iff.1 h
      obtain ⟨l, h3, h⟩ := Option.bind_eq_some_iff.1 h
      obtain ⟨_, _, rfl⟩ := Option.map_eq_some_iff.1 h
      have k1 := adv_le h1
      have k2 := name_mu h2
      have k3 := adv_off h1
      exact names_places n _ _ _ h3 (by omega) (fun y hy => by
        simp at hy
        rw [hy]
        show off s1 ≤ 10000
        omega)
    · obtain ⟨_, _, h⟩ := Option.bind_eq_some_iff.1 h
      obtain ⟨_, _, h⟩ := Option.bind_eq_some_iff.1 h
      obtain ⟨_, _, h⟩ := Option.bind_eq_some_iff.1 h
      obtain ⟨_, _, h⟩ := Option.bind_eq_some_iff.1 h
      obtain ⟨_, _, h⟩ := Option.bind_eq_some_iff.1 h
      obtain ⟨_, _, rfl⟩ := Option.map_eq_some_iff.1 h
      intro y hy; cases hy
theorem prog_places : ∀ (n : Nat) (acc : List It) (s : St) (l : List It), pprog n acc s = some l → mu s ≤ 4001 → (∀ i ∈ acc, ∀ y ∈ i.names, y.2 ≤ 10000) → ∀ i ∈ l, ∀ y ∈ i.names, y.2 ≤ 10000
  | 0, _, _, _, h, _, _ => by cases h
  | n + 1, acc, s, l, h, hs, ha => by
    rw [pprog] at h
    split at h
    · obtain rfl := Option.some.inj h
      exact ha
    · split at h
      · cases h
      · obtain ⟨x, h1, h⟩ := Option.bind_eq_some_iff.1 h
        have k1 : mu x.2 < mu s := Mil.rit_mu (i := eri x.1) ⟨n, by rw [sim_item, h1]; rfl⟩
        refine prog_places n _ _ _ h (by omega) (fun i hi => ?_)
        rcases List.mem_append.1 hi with hi | hi
        · exact ha i hi
        · simp at hi
          rw [hi]
          exact item_places h1 hs
end Mip
namespace Mil
theorem toks_mem {l : List It} {i : It} (h : i ∈ l) : (itemToks i).length ≤ (allToks l).length := by
  induction l with
  | nil => cases h
  | cons x r ih =>
    have e : allToks (x :: r) = itemToks x ++ allToks r := by simp [allToks]
    rw [e, List.length_append]
    rcases List.mem_cons.1 h with rfl | h
    · omega
    · have := ih h; omega
end Mil
/-- What is known of the items of a text. -/
structure Items (l : List Mip.It) : Prop where
  ok : ∀ i ∈ l, IOk i
  len : l.length ≤ 60
  short : ∀ i ∈ l, Short i.names ∧ i.names.length ≤ 600
  some_ : ∀ i ∈ l, i.kind = 2 → i.names ≠ []
theorem items_of {b : Mil.Bytes} {l : List Mip.It} (h : Mip.Parsed b l) : Items l := by
  obtain ⟨h1, h2, h3⟩ := Mil.parsed_ok h.er
  have hk : ∀ i ∈ l, IOk i := fun i hi => by
    rcases h1 (Mip.eri i) (List.mem_map.2 ⟨i, hi, rfl⟩) with ⟨x, t, k, e, a1, a2, a3, a4⟩ | ⟨x, r, e, a1, a2⟩ | ⟨x, t, e', e, a1, a2, a3⟩
    · injection e with e1 e2 e3 e4 e5 e6
      exact Or.inl ⟨e1, by rw [e2]; exact a1, by rw [e3]; exact a2, by rw [e4]; exact a3, by rw [e4]; exact a4⟩
    · injection e with e1 e2 e3 e4 e5 e6
      refine Or.inr (Or.inl ⟨e1, fun y hy => ?_⟩)
      have hm : y.1 ∈ x :: r := by rw [← e5]; exact List.mem_map.2 ⟨y, hy, rfl⟩
      rcases List.mem_cons.1 hm with e | e
      · rw [e]; exact a1
      · exact a2 _ e
    · injection e with e1 e2 e3 e4 e5 e6
      exact Or.inr (Or.inr ⟨e1, by rw [e2]; exact a1, by rw [e3]; exact a2, by rw [e6]; exact a3⟩)
  have hp : ∀ i ∈ l, ∀ y ∈ i.names, y.2 ≤ 10000 := by
    obtain ⟨n, hn⟩ := h
    unfold Mip.parse at hn
    split at hn
    · cases hn
    · rename_i h4
      obtain ⟨s, k1, k2⟩ := Option.bind_eq_some_iff.1 hn
      refine Mip.prog_places n [] s l k2 ?_ (fun i hi => by cases hi)
      have k3 : Mil.mu s ≤ Mil.mu ⟨⟨0, [], 0⟩, b, 0⟩ := Mil.adv_le (s := ⟨⟨0, [], 0⟩, b, 0⟩) k1
      have k4 : Mil.mu ⟨⟨0, [], 0⟩, b, 0⟩ = b.length := by unfold Mil.mu; rfl
      omega
  have hn : ∀ i ∈ l, (i.kind = 2 → i.names ≠ []) ∧ ∀ y ∈ i.names, y.1.length ≤ 4000 := fun i hi => by
    rcases h1 (Mip.eri i) (List.mem_map.2 ⟨i, hi, rfl⟩) with ⟨x, t, k, e, _⟩ | ⟨x, r, e, a1, a2⟩ | ⟨x, t, e', e, _⟩
    · injection e with e1 e2 e3 e4 e5 e6
      have e7 : i.names = [] := List.map_eq_nil_iff.1 e5
      exact ⟨(fun h => by rw [e1] at h; cases h), (fun y hy => by rw [e7] at hy; cases hy)⟩
    · injection e with e1 e2 e3 e4 e5 e6
      refine ⟨(fun _ h => by rw [h] at e5; cases e5), fun y hy => ?_⟩
      have hm : y.1 ∈ x :: r := by rw [← e5]; exact List.mem_map.2 ⟨y, hy, rfl⟩
      rcases List.mem_cons.1 hm with e | e
      · rw [e]; have := a1.2.2.1; omega
      · have := (a2 _ e).2.2.1; omega
    · injection e with e1 e2 e3 e4 e5 e6
      have e7 : i.names = [] := List.map_eq_nil_iff.1 e5
      exact ⟨(fun h => by rw [e1] at h; cases h), (fun y hy => by rw [e7] at hy; cases hy)⟩
  have hc : ∀ i ∈ l, i.names.length ≤ 600 := fun i hi => by
    have hm := Mil.toks_mem (i := Mip.eri i) (List.mem_map.2 ⟨i, hi, rfl⟩)
    have ht : i.names.length ≤ (Mil.itemToks (Mip.eri i)).length := by
      rcases h1 (Mip.eri i) (List.mem_map.2 ⟨i, hi, rfl⟩) with ⟨x, t, k, e, _⟩ | ⟨x, r, e, a1, a2⟩ | ⟨x, t, e', e, _⟩
      · injection e with e1 e2 e3 e4 e5 e6
        rw [List.map_eq_nil_iff.1 e5]; exact Nat.zero_le _
      · rw [e]
        injection e with e1 e2 e3 e4 e5 e6
        have hl : i.names.length = r.length + 1 := by have := congrArg List.length e5; simpa using this
        unfold Mil.itemToks
        rw [if_neg (show ¬ (2 = 1) by decide), if_pos (show 2 = 2 from rfl)]
        simp [Mil.moreToks_len]
        omega
      · injection e with e1 e2 e3 e4 e5 e6
        rw [List.map_eq_nil_iff.1 e5]; exact Nat.zero_le _
    omega
  exact ⟨hk, by simpa using h2, fun i hi => ⟨fun y hy => ⟨(hn i hi).2 y hy, hp i hi y hy⟩, hc i hi⟩, fun i hi => (hn i hi).1⟩
end Go.Proofs.YtibbjohkiigffaaGreatDoor
