/-
  Expr, Call, in one.
-/
import Derived.Test.YtibbjohkiigffaaGreatDoorLit
import Derived.Test.YtibbjohkiigffaaGreatDoorPap
namespace Go.Proofs.YtibbjohkiigffaaGreatDoor
open Go.RowKit

def MEC (a : Nat → Addr) (b : Nat) (s : ByteArray) (st : Mil.St) : Prop := ∀ w, Laid a w → RdS w b s st →
  Calls Tryz.prog 85 #[.pointer (some ⟨b, 0, none⟩)] w (ExPost (fun x t => Mip.Ok 0 Mip.eNil st (x, t)) (Mil.Bad s.size 0 Mil.eNil st) a b s w)
def MOC (a : Nat → Addr) (b : Nat) (s : ByteArray) (l : Nat) (st : Mil.St) : Prop := ∀ w, Laid a w → RdS w b s st →
  Calls Tryz.prog 107 #[.pointer (some ⟨b, 0, none⟩), .int .i64 l] w (ExPost (fun x t => Mip.Ok l Mip.eNil st (x, t)) (Mil.Bad s.size l Mil.eNil st) a b s w)
def MAC (a : Nat → Addr) (b : Nat) (s : ByteArray) (st : Mil.St) : Prop := ∀ w, Laid a w → RdS w b s st →
  Calls Tryz.prog 118 #[.pointer (some ⟨b, 0, none⟩)] w (ExPost (fun x t => Mip.Ok 8 Mip.eNil st (x, t)) (Mil.Bad s.size 8 Mil.eNil st) a b s w)

set_option maxHeartbeats 2000000 in
theorem expression_any (a : Nat → Addr) (b : Nat) (s : ByteArray) (hb : 23 ≤ b) (hs : s.size ≤ 4000) (st : Mil.St) (ih : ∀ t, Mil.mu t < Mil.mu st → MEC a b s t) (io : MOC a b s 1 st) : MEC a b s st := by
  intro w L h
  have H : Hid (RdS w b s st) := h
  have HL : Hid (Laid a w) := L
  have IH : Hid (∀ t, Mil.mu t < Mil.mu st → MEC a b s t) := ih
  have HIO : Hid (MOC a b s 1 st) := io
  clear h L ih io
  by_cases hI : Mil.sees st Mil.wIf = true
  · have HI : Hid (Mil.sees st (bs Mil.wIf).data.toList = true) := hI
    have HK3 : Hid (st.tok.kind ≠ 0) := by show _ ≠ _; rw [(Mil.sees_kind3 hI).1]; decide
    clear hI
    go_enter Tryz.func85, Tryz.ntmps85
    go_wp2_with fail
    refine (here_any b s st _ H.out).mono ?_
    rintro e w0 ⟨rfl, hw0⟩
    have HV : Hid (Hd a b s st w (w0.alloc (.cells #[.int .i64 (place s.size st)] 81)) (place s.size st) w0.heap.size) := head_facts HL.out hb H.out hw0
    clear hw0
    go_wp2_with fail
    generalize w0.heap.size = kv at HV ⊢
    generalize w0.alloc (.cells #[.int .i64 (place s.size st)] 81) = v at HV ⊢
    clear H HL w0
    have H : Hid (RdS v b s st) := HV.out.rd
    have HL : Hid (Laid a v) := HV.out.laid
    refine (takes_yes a b s st (bs Mil.wIf) _ HL.out hb H.out hs HI.out).mono ?_
    rintro e w1 ⟨kk1, (⟨s1, rfl, g1, r1⟩ | ⟨k, at_, hkk, d, rfl, hd, hno⟩)⟩
    · have hk1 := kk1
      have G1 : Hid _ := g1
      have M1 : Hid (Mil.mu s1 < Mil.mu st) := Mil.adv_mu g1 HK3.out
      clear g1 kk1
      go_wp2_with fail
      refine (IH.out s1 M1.out _ (HL.out.kept hk1 hb) r1).mono ?_
      rintro e w2 ⟨kk2, (⟨x2, s2, ty2, y2, rfl, e2, g2, r2⟩ | ⟨k, at_, hkk, d, rfl, hd, hno⟩)⟩
      · have hk2 := hk1.trans kk2
        have G2 : Hid _ := g2
        have E2 : Hid _ := e2
        have M2 : Hid (Mil.mu s2 < Mil.mu st) := Nat.lt_of_le_of_lt (Mip.ok_mu g2) M1.out
        clear g2 kk2 e2
        go_wp2_with fail
        refine (want_any a b s s2 (bs Mil.wThen) _ (HL.out.kept hk2 hb) hb r2 hs).mono ?_
        rintro e w3 ⟨kk3, (⟨s3, rfl, g3, r3⟩ | ⟨k, at_, hkk, d, rfl, hd, hno⟩)⟩
        · have hk3 := hk2.trans kk3
          have G3 : Hid _ := g3
          have M3 : Hid (Mil.mu s3 < Mil.mu st) := Nat.lt_trans (Mil.want_mu g3) M2.out
          clear g3 kk3
          go_wp2_with fail
          refine (IH.out s3 M3.out _ (HL.out.kept hk3 hb) r3).mono ?_
          rintro e w4 ⟨kk4, (⟨x4, s4, ty4, y4, rfl, e4, g4, r4⟩ | ⟨k, at_, hkk, d, rfl, hd, hno⟩)⟩
          · have hk4 := hk3.trans kk4
            have G4 : Hid _ := g4
            have E4 : Hid _ := e4
            have M4 : Hid (Mil.mu s4 < Mil.mu st) := Nat.lt_of_le_of_lt (Mip.ok_mu g4) M3.out
            clear g4 kk4 e4
            go_wp2_with fail
            refine (want_any a b s s4 (bs Mil.wElse) _ (HL.out.kept hk4 hb) hb r4 hs).mono ?_
            rintro e w5 ⟨kk5, (⟨s5, rfl, g5, r5⟩ | ⟨k, at_, hkk, d, rfl, hd, hno⟩)⟩
            · have hk5 := hk4.trans kk5
              have G5 : Hid _ := g5
              have M5 : Hid (Mil.mu s5 < Mil.mu st) := Nat.lt_trans (Mil.want_mu g5) M4.out
              clear g5 kk5
              go_wp2_with fail
              have HK5 : Hid (Kp b v w5) := hk5
              have R5 : Hid (RdS w5 b s s5) := r5
              clear hk5 r5
              refine region_held (fun w' => w'.cell? ⟨kv, 0, none⟩ = some (.int .i64 (place s.size st))) (by kernel_rfl) (HK5.out.held HV.out.cell HV.out.ne) (fun hS => ?_)
              refine held_take 0 (v := ?_) rfl (by kernel_rfl) (by kernel_rfl) (by kernel_rfl) (fun _ _ _ h => h) (Or.inl ⟨by rfl, ?_⟩) (by assumption) ?_
              rotate_left 1
              · (intro w' hSw; (try dsimp only at hSw); go_simp <;> with_reducible rfl)
              try simp only [Act.put, List.setIfInBounds_toArray, List.set_cons_zero, List.set_cons_succ]
              refine held_take 1 (v := ?_) rfl (by kernel_rfl) (by kernel_rfl) (by kernel_rfl) (fun _ _ _ h => h) (Or.inl ⟨by rfl, ?_⟩) (by assumption) ?_
              rotate_left 1
              · (intro w' hSw; (try dsimp only at hSw); go_simp <;> with_reducible rfl)
              try simp only [Act.put, List.setIfInBounds_toArray, List.set_cons_zero, List.set_cons_succ]
              refine held_take 2 (v := ?_) rfl (by kernel_rfl) (by kernel_rfl) (by kernel_rfl) (fun _ _ _ h => h) (Or.inl ⟨by rfl, ?_⟩) (by assumption) ?_
              rotate_left 1
              · (intro w' hSw; (try dsimp only at hSw); go_simp <;> with_reducible rfl)
              try simp only [Act.put, List.setIfInBounds_toArray, List.set_cons_zero, List.set_cons_succ]
              refine held_take 3 (v := ?_) rfl (by kernel_rfl) (by kernel_rfl) (by kernel_rfl) (fun _ _ _ h => h) (Or.inl ⟨by rfl, ?_⟩) (by assumption) ?_
              rotate_left 1
              · (intro w' hSw; (try dsimp only at hSw); go_simp <;> with_reducible rfl)
              try simp only [Act.put, List.setIfInBounds_toArray, List.set_cons_zero, List.set_cons_succ]
              refine held_one 4 (by kernel_rfl) rfl (fun K hK => ?_)
              go_simp
              refine (IH.out s5 M5.out _ ((HL.out.kept HK5.out hb).kept (Kp.refl b w5).drew hb) (R5.out.kept (Kp.refl (b + 1) w5).drew (by omega))).mono ?_
              rintro e w6 ⟨kk6, (⟨x6, s6, ty6, y6, rfl, e6, g6, r6⟩ | ⟨k, at_, hkk, d, rfl, hd, hno⟩)⟩
              · have hk6 := HK5.out.drew.trans kk6
                have G6 : Hid _ := g6
                have E6 : Hid _ := e6
                have M6 : Hid (Mil.mu s6 < Mil.mu st) := Nat.lt_of_le_of_lt (Mip.ok_mu g6) M5.out
                have HK6 : Hid (Kp b v w6) := hk6
                have R6 : Hid (RdS w6 b s s6) := r6
                clear g6 kk6 e6 hk6 r6 hS
                refine hK.out _ _ (HK6.out.held HV.out.cell HV.out.ne) (fun hS => ?_)
                clear hK K
                try simp only [Act.put, List.setIfInBounds_toArray, List.set_cons_zero, List.set_cons_succ]
                refine held_take 5 (v := ?_) rfl (by kernel_rfl) (by kernel_rfl) (by kernel_rfl) (fun _ _ _ h => h) (Or.inl ⟨by rfl, ?_⟩) (by assumption) ?_
                rotate_left 1
                · (intro w' hSw; (try dsimp only at hSw); go_simp <;> with_reducible rfl)
                try simp only [Act.put, List.setIfInBounds_toArray, List.set_cons_zero, List.set_cons_succ]
                refine held_take 6 (v := ?_) rfl (by kernel_rfl) (by kernel_rfl) (by kernel_rfl) (fun _ _ _ h => h) (Or.inl ⟨by rfl, ?_⟩) (by assumption) ?_
                rotate_left 1
                · (intro w' hSw; (try dsimp only at hSw); go_simp <;> with_reducible rfl)
                try simp only [Act.put, List.setIfInBounds_toArray, List.set_cons_zero, List.set_cons_succ]
                refine held_take 7 (v := ?_) rfl (by kernel_rfl) (by kernel_rfl) (by kernel_rfl) (fun _ _ _ h => h) (Or.inl ⟨by rfl, ?_⟩) (by assumption) ?_
                rotate_left 1
                · (intro w' hSw; (try dsimp only at hSw); go_simp <;> with_reducible rfl)
                try simp only [Act.put, List.setIfInBounds_toArray, List.set_cons_zero, List.set_cons_succ]
                refine wpAnyH_done (by kernel_rfl) ?_ _
                clear hS
                go_wp2
                go_ret
                refine ⟨HV.out.kp.trans HK6.out, Or.inl ⟨Mip.eIf (Mip.off st) x2 x4 x6, s6, _, _, rfl, ?_, ?_, R6.out⟩⟩
                · show Value.iface _ (.agg #[.int .i64 ((s.size : Int) - (Mip.off st : Nat)), ev s.size x2, ev s.size x4, ev s.size x6]) = _
                  rw [E2.out, E4.out, E6.out, place_off]
                · exact Mip.ok_if HI.out G1.out G2.out G3.out G4.out G5.out G6.out
              · refine ⟨rfl, HV.out.kp.trans (HK5.out.drew.trans kk6), Or.inr ⟨k, at_, hkk, d, rfl, hd, ?_⟩⟩
                exact Mil.bad_if HI.out (Or.inr ⟨_, G1.out, Or.inr ⟨_, Mip.Ok.er G2.out, Or.inr ⟨_, G3.out, Or.inr ⟨_, Mip.Ok.er G4.out, Or.inr ⟨_, G5.out, hno⟩⟩⟩⟩⟩)
            · go_wp2
              refine ⟨rfl, HV.out.kp.trans (hk4.trans kk5), Or.inr ⟨k, at_, hkk, d, rfl, hd, ?_⟩⟩
              exact Mil.bad_if HI.out (Or.inr ⟨_, G1.out, Or.inr ⟨_, Mip.Ok.er G2.out, Or.inr ⟨_, G3.out, Or.inr ⟨_, Mip.Ok.er G4.out, Or.inl hno⟩⟩⟩⟩)
          · go_wp2
            refine ⟨rfl, HV.out.kp.trans (hk3.trans kk4), Or.inr ⟨k, at_, hkk, d, rfl, hd, ?_⟩⟩
            exact Mil.bad_if HI.out (Or.inr ⟨_, G1.out, Or.inr ⟨_, Mip.Ok.er G2.out, Or.inr ⟨_, G3.out, Or.inl hno⟩⟩⟩)
        · go_wp2
          refine ⟨rfl, HV.out.kp.trans (hk2.trans kk3), Or.inr ⟨k, at_, hkk, d, rfl, hd, ?_⟩⟩
          exact Mil.bad_if HI.out (Or.inr ⟨_, G1.out, Or.inr ⟨_, Mip.Ok.er G2.out, Or.inl hno⟩⟩)
      · go_wp2
        refine ⟨rfl, HV.out.kp.trans (hk1.trans kk2), Or.inr ⟨k, at_, hkk, d, rfl, hd, ?_⟩⟩
        exact Mil.bad_if HI.out (Or.inr ⟨_, G1.out, Or.inl hno⟩)
    · go_wp2
      refine ⟨rfl, HV.out.kp.trans (kk1), Or.inr ⟨k, at_, hkk, d, rfl, hd, ?_⟩⟩
      exact Mil.bad_if HI.out (Or.inl hno)
  · have HI : Hid (Mil.sees st (bs Mil.wIf).data.toList = false) := Bool.eq_false_iff.2 hI
    clear hI
    go_enter Tryz.func85, Tryz.ntmps85
    go_wp2_with fail
    refine (here_any b s st _ H.out).mono ?_
    rintro e w0 ⟨rfl, hw0⟩
    have HV : Hid (Hd a b s st w (w0.alloc (.cells #[.int .i64 (place s.size st)] 81)) (place s.size st) w0.heap.size) := head_facts HL.out hb H.out hw0
    clear hw0
    go_wp2_with fail
    generalize w0.heap.size = kv at HV ⊢
    generalize w0.alloc (.cells #[.int .i64 (place s.size st)] 81) = v at HV ⊢
    clear H HL w0
    have H : Hid (RdS v b s st) := HV.out.rd
    have HL : Hid (Laid a v) := HV.out.laid
    refine (takes_no b s st (bs Mil.wIf) _ H.out HI.out).mono ?_
    rintro e w1 ⟨rfl, rfl⟩
    go_wp2_with fail
    refine (HIO.out _ HL.out H.out).mono ?_
    rintro e w2 ⟨hk2, (⟨x, s2, ty, y, rfl, ea, g2, r2⟩ | ⟨k, at_, hkk, d, rfl, hd, hno⟩)⟩
    · go_wp2
      go_ret
      exact ⟨HV.out.kp.trans hk2, Or.inl ⟨x, s2, ty, y, rfl, ea, Mip.ok_noif HI.out g2, r2⟩⟩
    · go_wp2
      exact ⟨rfl, HV.out.kp.trans hk2, Or.inr ⟨k, at_, hkk, d, rfl, hd, Mil.bad_noif HI.out hno⟩⟩

end Go.Proofs.YtibbjohkiigffaaGreatDoor
namespace Go.Proofs.YtibbjohkiigffaaGreatDoor
open Go.RowKit

set_option maxHeartbeats 2000000 in
theorem delayed_any (a : Nat → Addr) (b : Nat) (s : ByteArray) (hb : 23 ≤ b) (hs : s.size ≤ 4000) (q : Nat) (st : Mil.St) (ih : ∀ t, Mil.mu t < Mil.mu st → MEC a b s t) (w : World) (L : Laid a w) (h : RdS w b s st) :
    Calls Tryz.prog 126 #[.pointer (some ⟨b, 0, none⟩), .agg #[.int .i64 ((s.size : Int) - (q : Nat))]] w (ExPost (Mip.Rfby q st) (Mil.Bfby s.size st) a b s w) := by
  have H : Hid (RdS w b s st) := h
  have HL : Hid (Laid a w) := L
  have IH : Hid (∀ t, Mil.mu t < Mil.mu st → MEC a b s t) := ih
  clear h L ih
  go_enter Tryz.func126, Tryz.ntmps126
  go_wp2_with fail
  have HV : Hid (Hd a b s st w (w.alloc (.cells #[.int .i64 ((s.size : Int) - (q : Nat))] 83)) ((s.size : Int) - (q : Nat)) w.heap.size) := head_facts HL.out hb H.out (Below.refl _ _)
  generalize w.heap.size = kv at HV ⊢
  generalize w.alloc (.cells #[.int .i64 ((s.size : Int) - (q : Nat))] 83) = v at HV ⊢
  clear H HL
  have H : Hid (RdS v b s st) := HV.out.rd
  have HL : Hid (Laid a v) := HV.out.laid
  refine (want_any a b s st (bs Mil.sOpen) _ HL.out hb H.out hs).mono ?_
  rintro e w1 ⟨kk1, (⟨s1, rfl, g1, r1⟩ | ⟨k, at_, hkk, d, rfl, hd, hno⟩)⟩
  · have hk1 := kk1
    have G1 : Hid _ := g1
    have M1 : Hid (Mil.mu s1 < Mil.mu st) := Mil.want_mu g1
    clear g1 kk1
    go_wp2_with fail
    refine (constant_any a b s s1 _ (HL.out.kept hk1 hb) hb r1 hs).mono ?_
    rintro e w2 ⟨kk2, (⟨x2, s2, ty2, y2, rfl, e2, g2, r2⟩ | ⟨k, at_, hkk, d, rfl, hd, hno⟩)⟩
    · have hk2 := hk1.trans kk2
      have G2 : Hid _ := g2
      have E2 : Hid _ := e2
      have M2 : Hid (Mil.mu s2 < Mil.mu st) := Nat.lt_trans (Mip.constant_mu g2) M1.out
      clear g2 kk2 e2
      go_wp2_with fail
      refine (want_any a b s s2 (bs Mil.sComma) _ (HL.out.kept hk2 hb) hb r2 hs).mono ?_
      rintro e w3 ⟨kk3, (⟨s3, rfl, g3, r3⟩ | ⟨k, at_, hkk, d, rfl, hd, hno⟩)⟩
      · have hk3 := hk2.trans kk3
        have G3 : Hid _ := g3
        have M3 : Hid (Mil.mu s3 < Mil.mu st) := Nat.lt_trans (Mil.want_mu g3) M2.out
        clear g3 kk3
        go_wp2_with fail
        refine (IH.out s3 M3.out _ (HL.out.kept hk3 hb) r3).mono ?_
        rintro e w4 ⟨kk4, (⟨x4, s4, ty4, y4, rfl, e4, g4, r4⟩ | ⟨k, at_, hkk, d, rfl, hd, hno⟩)⟩
        · have hk4 := hk3.trans kk4
          have G4 : Hid _ := g4
          have E4 : Hid _ := e4
          have M4 : Hid (Mil.mu s4 < Mil.mu st) := Nat.lt_of_le_of_lt (Mip.ok_mu g4) M3.out
          clear g4 kk4 e4
          go_wp2_with fail
          refine (want_any a b s s4 (bs Mil.sShut) _ (HL.out.kept hk4 hb) hb r4 hs).mono ?_
          rintro e w5 ⟨kk5, (⟨s5, rfl, g5, r5⟩ | ⟨k, at_, hkk, d, rfl, hd, hno⟩)⟩
          · have hk5 := hk4.trans kk5
            have G5 : Hid _ := g5
            have M5 : Hid (Mil.mu s5 < Mil.mu st) := Nat.lt_trans (Mil.want_mu g5) M4.out
            clear g5 kk5
            have cv : w5.cell? ⟨kv, 0, none⟩ = some (.int .i64 ((s.size : Int) - (q : Nat))) := hk5.held HV.out.cell HV.out.ne
            go_wp2
            go_ret
            refine ⟨HV.out.kp.trans hk5, Or.inl ⟨Mip.eFby q x2 x4, s5, _, _, rfl, ?_, ?_, r5⟩⟩
            · show Value.iface _ (.agg #[.int .i64 ((s.size : Int) - (q : Nat)), ev s.size x2, ev s.size x4]) = _
              rw [E2.out, E4.out]
            · exact ⟨_, _, _, _, G1.out, G2.out, G3.out, G4.out, G5.out, rfl⟩
          · go_wp2
            refine ⟨rfl, HV.out.kp.trans (hk4.trans kk5), Or.inr ⟨k, at_, hkk, d, rfl, hd, ?_⟩⟩
            exact Or.inr ⟨_, G1.out, Or.inr ⟨_, Mip.const_er G2.out, Or.inr ⟨_, G3.out, Or.inr ⟨_, Mip.Ok.er G4.out, hno⟩⟩⟩⟩
        · go_wp2
          refine ⟨rfl, HV.out.kp.trans (hk3.trans kk4), Or.inr ⟨k, at_, hkk, d, rfl, hd, ?_⟩⟩
          exact Or.inr ⟨_, G1.out, Or.inr ⟨_, Mip.const_er G2.out, Or.inr ⟨_, G3.out, Or.inl hno⟩⟩⟩
      · go_wp2
        refine ⟨rfl, HV.out.kp.trans (hk2.trans kk3), Or.inr ⟨k, at_, hkk, d, rfl, hd, ?_⟩⟩
        exact Or.inr ⟨_, G1.out, Or.inr ⟨_, Mip.const_er G2.out, Or.inl hno⟩⟩
    · go_wp2
      refine ⟨rfl, HV.out.kp.trans (hk1.trans kk2), Or.inr ⟨k, at_, hkk, d, rfl, hd, ?_⟩⟩
      exact Or.inr ⟨_, G1.out, Or.inl hno⟩
  · go_wp2
    refine ⟨rfl, HV.out.kp.trans (kk1), Or.inr ⟨k, at_, hkk, d, rfl, hd, ?_⟩⟩
    exact Or.inl hno

set_option maxHeartbeats 2000000 in
theorem thinned_any (a : Nat → Addr) (b : Nat) (s : ByteArray) (hb : 23 ≤ b) (hs : s.size ≤ 4000) (q : Nat) (st : Mil.St) (ih : ∀ t, Mil.mu t < Mil.mu st → MEC a b s t) (w : World) (L : Laid a w) (h : RdS w b s st) :
    Calls Tryz.prog 127 #[.pointer (some ⟨b, 0, none⟩), .agg #[.int .i64 ((s.size : Int) - (q : Nat))]] w (ExPost (Mip.Runder q st) (Mil.Bunder s.size st) a b s w) := by
  have H : Hid (RdS w b s st) := h
  have HL : Hid (Laid a w) := L
  have IH : Hid (∀ t, Mil.mu t < Mil.mu st → MEC a b s t) := ih
  clear h L ih
  go_enter Tryz.func127, Tryz.ntmps127
  go_wp2_with fail
  have HV : Hid (Hd a b s st w (w.alloc (.cells #[.int .i64 ((s.size : Int) - (q : Nat))] 83)) ((s.size : Int) - (q : Nat)) w.heap.size) := head_facts HL.out hb H.out (Below.refl _ _)
  generalize w.heap.size = kv at HV ⊢
  generalize w.alloc (.cells #[.int .i64 ((s.size : Int) - (q : Nat))] 83) = v at HV ⊢
  clear H HL
  have H : Hid (RdS v b s st) := HV.out.rd
  have HL : Hid (Laid a v) := HV.out.laid
  refine (want_any a b s st (bs Mil.sOpen) _ HL.out hb H.out hs).mono ?_
  rintro e w1 ⟨kk1, (⟨s1, rfl, g1, r1⟩ | ⟨k, at_, hkk, d, rfl, hd, hno⟩)⟩
  · have hk1 := kk1
    have G1 : Hid _ := g1
    have M1 : Hid (Mil.mu s1 < Mil.mu st) := Mil.want_mu g1
    clear g1 kk1
    go_wp2_with fail
    refine (IH.out s1 M1.out _ (HL.out.kept hk1 hb) r1).mono ?_
    rintro e w2 ⟨kk2, (⟨x2, s2, ty2, y2, rfl, e2, g2, r2⟩ | ⟨k, at_, hkk, d, rfl, hd, hno⟩)⟩
    · have hk2 := hk1.trans kk2
      have G2 : Hid _ := g2
      have E2 : Hid _ := e2
      have M2 : Hid (Mil.mu s2 < Mil.mu st) := Nat.lt_of_le_of_lt (Mip.ok_mu g2) M1.out
      clear g2 kk2 e2
      go_wp2_with fail
      refine (want_any a b s s2 (bs Mil.sComma) _ (HL.out.kept hk2 hb) hb r2 hs).mono ?_
      rintro e w3 ⟨kk3, (⟨s3, rfl, g3, r3⟩ | ⟨k, at_, hkk, d, rfl, hd, hno⟩)⟩
      · have hk3 := hk2.trans kk3
        have G3 : Hid _ := g3
        have M3 : Hid (Mil.mu s3 < Mil.mu st) := Nat.lt_trans (Mil.want_mu g3) M2.out
        clear g3 kk3
        go_wp2_with fail
        refine (number_any a b s s3 2 1000 (by decide) _ (HL.out.kept hk3 hb) hb r3 hs).mono ?_
        rintro e w4 ⟨kk4, (⟨x4, s4, rfl, g4, r4⟩ | ⟨k, at_, hkk, d, rfl, hd, hno⟩)⟩
        · have hk4 := hk3.trans kk4
          have G4 : Hid _ := g4
          have M4 : Hid (Mil.mu s4 < Mil.mu st) := Nat.lt_trans (Mil.number_mu g4) M3.out
          clear g4 kk4
          go_wp2_with fail
          refine (want_any a b s s4 (bs Mil.sShut) _ (HL.out.kept hk4 hb) hb r4 hs).mono ?_
          rintro e w5 ⟨kk5, (⟨s5, rfl, g5, r5⟩ | ⟨k, at_, hkk, d, rfl, hd, hno⟩)⟩
          · have hk5 := hk4.trans kk5
            have G5 : Hid _ := g5
            have M5 : Hid (Mil.mu s5 < Mil.mu st) := Nat.lt_trans (Mil.want_mu g5) M4.out
            clear g5 kk5
            have cv : w5.cell? ⟨kv, 0, none⟩ = some (.int .i64 ((s.size : Int) - (q : Nat))) := hk5.held HV.out.cell HV.out.ne
            go_wp2
            go_ret
            refine ⟨HV.out.kp.trans hk5, Or.inl ⟨Mip.eUnder q x2 x4, s5, _, _, rfl, ?_, ?_, r5⟩⟩
            · show Value.iface _ (.agg #[.int .i64 ((s.size : Int) - (q : Nat)), ev s.size x2, .int .i64 (x4 : Nat)]) = _
              rw [E2.out]
            · exact ⟨_, _, _, _, G1.out, G2.out, G3.out, G4.out, G5.out, rfl⟩
          · go_wp2
            refine ⟨rfl, HV.out.kp.trans (hk4.trans kk5), Or.inr ⟨k, at_, hkk, d, rfl, hd, ?_⟩⟩
            exact Or.inr ⟨_, G1.out, Or.inr ⟨_, Mip.Ok.er G2.out, Or.inr ⟨_, G3.out, Or.inr ⟨_, G4.out, hno⟩⟩⟩⟩
        · go_wp2
          refine ⟨rfl, HV.out.kp.trans (hk3.trans kk4), Or.inr ⟨k, at_, hkk, d, rfl, hd, ?_⟩⟩
          exact Or.inr ⟨_, G1.out, Or.inr ⟨_, Mip.Ok.er G2.out, Or.inr ⟨_, G3.out, Or.inl hno⟩⟩⟩
      · go_wp2
        refine ⟨rfl, HV.out.kp.trans (hk2.trans kk3), Or.inr ⟨k, at_, hkk, d, rfl, hd, ?_⟩⟩
        exact Or.inr ⟨_, G1.out, Or.inr ⟨_, Mip.Ok.er G2.out, Or.inl hno⟩⟩
    · go_wp2
      refine ⟨rfl, HV.out.kp.trans (hk1.trans kk2), Or.inr ⟨k, at_, hkk, d, rfl, hd, ?_⟩⟩
      exact Or.inr ⟨_, G1.out, Or.inl hno⟩
  · go_wp2
    refine ⟨rfl, HV.out.kp.trans (kk1), Or.inr ⟨k, at_, hkk, d, rfl, hd, ?_⟩⟩
    exact Or.inl hno

set_option maxHeartbeats 2000000 in
theorem held_any (a : Nat → Addr) (b : Nat) (s : ByteArray) (hb : 23 ≤ b) (hs : s.size ≤ 4000) (q : Nat) (st : Mil.St) (ih : ∀ t, Mil.mu t < Mil.mu st → MEC a b s t) (w : World) (L : Laid a w) (h : RdS w b s st) :
    Calls Tryz.prog 128 #[.pointer (some ⟨b, 0, none⟩), .agg #[.int .i64 ((s.size : Int) - (q : Nat))]] w (ExPost (Mip.Rhold q st) (Mil.Bhold s.size st) a b s w) := by
  have H : Hid (RdS w b s st) := h
  have HL : Hid (Laid a w) := L
  have IH : Hid (∀ t, Mil.mu t < Mil.mu st → MEC a b s t) := ih
  clear h L ih
  go_enter Tryz.func128, Tryz.ntmps128
  go_wp2_with fail
  have HV : Hid (Hd a b s st w (w.alloc (.cells #[.int .i64 ((s.size : Int) - (q : Nat))] 83)) ((s.size : Int) - (q : Nat)) w.heap.size) := head_facts HL.out hb H.out (Below.refl _ _)
  generalize w.heap.size = kv at HV ⊢
  generalize w.alloc (.cells #[.int .i64 ((s.size : Int) - (q : Nat))] 83) = v at HV ⊢
  clear H HL
  have H : Hid (RdS v b s st) := HV.out.rd
  have HL : Hid (Laid a v) := HV.out.laid
  refine (want_any a b s st (bs Mil.sOpen) _ HL.out hb H.out hs).mono ?_
  rintro e w1 ⟨kk1, (⟨s1, rfl, g1, r1⟩ | ⟨k, at_, hkk, d, rfl, hd, hno⟩)⟩
  · have hk1 := kk1
    have G1 : Hid _ := g1
    have M1 : Hid (Mil.mu s1 < Mil.mu st) := Mil.want_mu g1
    clear g1 kk1
    go_wp2_with fail
    refine (constant_any a b s s1 _ (HL.out.kept hk1 hb) hb r1 hs).mono ?_
    rintro e w2 ⟨kk2, (⟨x2, s2, ty2, y2, rfl, e2, g2, r2⟩ | ⟨k, at_, hkk, d, rfl, hd, hno⟩)⟩
    · have hk2 := hk1.trans kk2
      have G2 : Hid _ := g2
      have E2 : Hid _ := e2
      have M2 : Hid (Mil.mu s2 < Mil.mu st) := Nat.lt_trans (Mip.constant_mu g2) M1.out
      clear g2 kk2 e2
      go_wp2_with fail
      refine (want_any a b s s2 (bs Mil.sComma) _ (HL.out.kept hk2 hb) hb r2 hs).mono ?_
      rintro e w3 ⟨kk3, (⟨s3, rfl, g3, r3⟩ | ⟨k, at_, hkk, d, rfl, hd, hno⟩)⟩
      · have hk3 := hk2.trans kk3
        have G3 : Hid _ := g3
        have M3 : Hid (Mil.mu s3 < Mil.mu st) := Nat.lt_trans (Mil.want_mu g3) M2.out
        clear g3 kk3
        go_wp2_with fail
        refine (IH.out s3 M3.out _ (HL.out.kept hk3 hb) r3).mono ?_
        rintro e w4 ⟨kk4, (⟨x4, s4, ty4, y4, rfl, e4, g4, r4⟩ | ⟨k, at_, hkk, d, rfl, hd, hno⟩)⟩
        · have hk4 := hk3.trans kk4
          have G4 : Hid _ := g4
          have E4 : Hid _ := e4
          have M4 : Hid (Mil.mu s4 < Mil.mu st) := Nat.lt_of_le_of_lt (Mip.ok_mu g4) M3.out
          clear g4 kk4 e4
          go_wp2_with fail
          refine (want_any a b s s4 (bs Mil.sComma) _ (HL.out.kept hk4 hb) hb r4 hs).mono ?_
          rintro e w5 ⟨kk5, (⟨s5, rfl, g5, r5⟩ | ⟨k, at_, hkk, d, rfl, hd, hno⟩)⟩
          · have hk5 := hk4.trans kk5
            have G5 : Hid _ := g5
            have M5 : Hid (Mil.mu s5 < Mil.mu st) := Nat.lt_trans (Mil.want_mu g5) M4.out
            clear g5 kk5
            go_wp2_with fail
            refine (number_any a b s s5 2 1000 (by decide) _ (HL.out.kept hk5 hb) hb r5 hs).mono ?_
            rintro e w6 ⟨kk6, (⟨x6, s6, rfl, g6, r6⟩ | ⟨k, at_, hkk, d, rfl, hd, hno⟩)⟩
            · have hk6 := hk5.trans kk6
              have G6 : Hid _ := g6
              have M6 : Hid (Mil.mu s6 < Mil.mu st) := Nat.lt_trans (Mil.number_mu g6) M5.out
              clear g6 kk6
              go_wp2_with fail
              refine (want_any a b s s6 (bs Mil.sShut) _ (HL.out.kept hk6 hb) hb r6 hs).mono ?_
              rintro e w7 ⟨kk7, (⟨s7, rfl, g7, r7⟩ | ⟨k, at_, hkk, d, rfl, hd, hno⟩)⟩
              · have hk7 := hk6.trans kk7
                have G7 : Hid _ := g7
                have M7 : Hid (Mil.mu s7 < Mil.mu st) := Nat.lt_trans (Mil.want_mu g7) M6.out
                clear g7 kk7
                have cv : w7.cell? ⟨kv, 0, none⟩ = some (.int .i64 ((s.size : Int) - (q : Nat))) := hk7.held HV.out.cell HV.out.ne
                go_wp2
                go_ret
                refine ⟨HV.out.kp.trans hk7, Or.inl ⟨Mip.eHold q x2 x4 x6, s7, _, _, rfl, ?_, ?_, r7⟩⟩
                · show Value.iface _ (.agg #[.int .i64 ((s.size : Int) - (q : Nat)), ev s.size x2, ev s.size x4, .int .i64 (x6 : Nat)]) = _
                  rw [E2.out, E4.out]
                · exact ⟨_, _, _, _, _, _, G1.out, G2.out, G3.out, G4.out, G5.out, G6.out, G7.out, rfl⟩
              · go_wp2
                refine ⟨rfl, HV.out.kp.trans (hk6.trans kk7), Or.inr ⟨k, at_, hkk, d, rfl, hd, ?_⟩⟩
                exact Or.inr ⟨_, G1.out, Or.inr ⟨_, Mip.const_er G2.out, Or.inr ⟨_, G3.out, Or.inr ⟨_, Mip.Ok.er G4.out, Or.inr ⟨_, G5.out, Or.inr ⟨_, G6.out, hno⟩⟩⟩⟩⟩⟩
            · go_wp2
              refine ⟨rfl, HV.out.kp.trans (hk5.trans kk6), Or.inr ⟨k, at_, hkk, d, rfl, hd, ?_⟩⟩
              exact Or.inr ⟨_, G1.out, Or.inr ⟨_, Mip.const_er G2.out, Or.inr ⟨_, G3.out, Or.inr ⟨_, Mip.Ok.er G4.out, Or.inr ⟨_, G5.out, Or.inl hno⟩⟩⟩⟩⟩
          · go_wp2
            refine ⟨rfl, HV.out.kp.trans (hk4.trans kk5), Or.inr ⟨k, at_, hkk, d, rfl, hd, ?_⟩⟩
            exact Or.inr ⟨_, G1.out, Or.inr ⟨_, Mip.const_er G2.out, Or.inr ⟨_, G3.out, Or.inr ⟨_, Mip.Ok.er G4.out, Or.inl hno⟩⟩⟩⟩
        · go_wp2
          refine ⟨rfl, HV.out.kp.trans (hk3.trans kk4), Or.inr ⟨k, at_, hkk, d, rfl, hd, ?_⟩⟩
          exact Or.inr ⟨_, G1.out, Or.inr ⟨_, Mip.const_er G2.out, Or.inr ⟨_, G3.out, Or.inl hno⟩⟩⟩
      · go_wp2
        refine ⟨rfl, HV.out.kp.trans (hk2.trans kk3), Or.inr ⟨k, at_, hkk, d, rfl, hd, ?_⟩⟩
        exact Or.inr ⟨_, G1.out, Or.inr ⟨_, Mip.const_er G2.out, Or.inl hno⟩⟩
    · go_wp2
      refine ⟨rfl, HV.out.kp.trans (hk1.trans kk2), Or.inr ⟨k, at_, hkk, d, rfl, hd, ?_⟩⟩
      exact Or.inr ⟨_, G1.out, Or.inl hno⟩
  · go_wp2
    refine ⟨rfl, HV.out.kp.trans (kk1), Or.inr ⟨k, at_, hkk, d, rfl, hd, ?_⟩⟩
    exact Or.inl hno

set_option maxHeartbeats 2000000 in
theorem extreme_any (a : Nat → Addr) (b : Nat) (s : ByteArray) (hb : 23 ≤ b) (hs : s.size ≤ 4000) (m : Mil.Bytes) (q : Nat) (st : Mil.St) (ih : ∀ t, Mil.mu t < Mil.mu st → MEC a b s t) (w : World) (L : Laid a w) (h : RdS w b s st) :
    Calls Tryz.prog 129 #[.pointer (some ⟨b, 0, none⟩), .agg #[.int .i64 ((s.size : Int) - (q : Nat))], .string (bs m)] w (ExPost (Mip.Rleast q m st) (Mil.Bleast s.size st) a b s w) := by
  have H : Hid (RdS w b s st) := h
  have HL : Hid (Laid a w) := L
  have IH : Hid (∀ t, Mil.mu t < Mil.mu st → MEC a b s t) := ih
  clear h L ih
  go_enter Tryz.func129, Tryz.ntmps129
  go_wp2_with fail
  have HV : Hid (Hd a b s st w (w.alloc (.cells #[.int .i64 ((s.size : Int) - (q : Nat))] 83)) ((s.size : Int) - (q : Nat)) w.heap.size) := head_facts HL.out hb H.out (Below.refl _ _)
  generalize w.heap.size = kv at HV ⊢
  generalize w.alloc (.cells #[.int .i64 ((s.size : Int) - (q : Nat))] 83) = v at HV ⊢
  clear H HL
  have H : Hid (RdS v b s st) := HV.out.rd
  have HL : Hid (Laid a v) := HV.out.laid
  refine (want_any a b s st (bs Mil.sOpen) _ HL.out hb H.out hs).mono ?_
  rintro e w1 ⟨kk1, (⟨s1, rfl, g1, r1⟩ | ⟨k, at_, hkk, d, rfl, hd, hno⟩)⟩
  · have hk1 := kk1
    have G1 : Hid _ := g1
    have M1 : Hid (Mil.mu s1 < Mil.mu st) := Mil.want_mu g1
    clear g1 kk1
    go_wp2_with fail
    refine (IH.out s1 M1.out _ (HL.out.kept hk1 hb) r1).mono ?_
    rintro e w2 ⟨kk2, (⟨x2, s2, ty2, y2, rfl, e2, g2, r2⟩ | ⟨k, at_, hkk, d, rfl, hd, hno⟩)⟩
    · have hk2 := hk1.trans kk2
      have G2 : Hid _ := g2
      have E2 : Hid _ := e2
      have M2 : Hid (Mil.mu s2 < Mil.mu st) := Nat.lt_of_le_of_lt (Mip.ok_mu g2) M1.out
      clear g2 kk2 e2
      go_wp2_with fail
      refine (want_any a b s s2 (bs Mil.sComma) _ (HL.out.kept hk2 hb) hb r2 hs).mono ?_
      rintro e w3 ⟨kk3, (⟨s3, rfl, g3, r3⟩ | ⟨k, at_, hkk, d, rfl, hd, hno⟩)⟩
      · have hk3 := hk2.trans kk3
        have G3 : Hid _ := g3
        have M3 : Hid (Mil.mu s3 < Mil.mu st) := Nat.lt_trans (Mil.want_mu g3) M2.out
        clear g3 kk3
        go_wp2_with fail
        refine (IH.out s3 M3.out _ (HL.out.kept hk3 hb) r3).mono ?_
        rintro e w4 ⟨kk4, (⟨x4, s4, ty4, y4, rfl, e4, g4, r4⟩ | ⟨k, at_, hkk, d, rfl, hd, hno⟩)⟩
        · have hk4 := hk3.trans kk4
          have G4 : Hid _ := g4
          have E4 : Hid _ := e4
          have M4 : Hid (Mil.mu s4 < Mil.mu st) := Nat.lt_of_le_of_lt (Mip.ok_mu g4) M3.out
          clear g4 kk4 e4
          go_wp2_with fail
          refine (want_any a b s s4 (bs Mil.sShut) _ (HL.out.kept hk4 hb) hb r4 hs).mono ?_
          rintro e w5 ⟨kk5, (⟨s5, rfl, g5, r5⟩ | ⟨k, at_, hkk, d, rfl, hd, hno⟩)⟩
          · have hk5 := hk4.trans kk5
            have G5 : Hid _ := g5
            have M5 : Hid (Mil.mu s5 < Mil.mu st) := Nat.lt_trans (Mil.want_mu g5) M4.out
            clear g5 kk5
            have cv : w5.cell? ⟨kv, 0, none⟩ = some (.int .i64 ((s.size : Int) - (q : Nat))) := hk5.held HV.out.cell HV.out.ne
            go_wp2
            go_ret
            refine ⟨HV.out.kp.trans hk5, Or.inl ⟨Mip.eLeast q m x2 x4, s5, _, _, rfl, ?_, ?_, r5⟩⟩
            · show Value.iface _ (.agg #[.int .i64 ((s.size : Int) - (q : Nat)), .string (bs m), ev s.size x2, ev s.size x4]) = _
              rw [E2.out, E4.out]
            · exact ⟨_, _, _, _, G1.out, G2.out, G3.out, G4.out, G5.out, rfl⟩
          · go_wp2
            refine ⟨rfl, HV.out.kp.trans (hk4.trans kk5), Or.inr ⟨k, at_, hkk, d, rfl, hd, ?_⟩⟩
            exact Or.inr ⟨_, G1.out, Or.inr ⟨_, Mip.Ok.er G2.out, Or.inr ⟨_, G3.out, Or.inr ⟨_, Mip.Ok.er G4.out, hno⟩⟩⟩⟩
        · go_wp2
          refine ⟨rfl, HV.out.kp.trans (hk3.trans kk4), Or.inr ⟨k, at_, hkk, d, rfl, hd, ?_⟩⟩
          exact Or.inr ⟨_, G1.out, Or.inr ⟨_, Mip.Ok.er G2.out, Or.inr ⟨_, G3.out, Or.inl hno⟩⟩⟩
      · go_wp2
        refine ⟨rfl, HV.out.kp.trans (hk2.trans kk3), Or.inr ⟨k, at_, hkk, d, rfl, hd, ?_⟩⟩
        exact Or.inr ⟨_, G1.out, Or.inr ⟨_, Mip.Ok.er G2.out, Or.inl hno⟩⟩
    · go_wp2
      refine ⟨rfl, HV.out.kp.trans (hk1.trans kk2), Or.inr ⟨k, at_, hkk, d, rfl, hd, ?_⟩⟩
      exact Or.inr ⟨_, G1.out, Or.inl hno⟩
  · go_wp2
    refine ⟨rfl, HV.out.kp.trans (kk1), Or.inr ⟨k, at_, hkk, d, rfl, hd, ?_⟩⟩
    exact Or.inl hno

end Go.Proofs.YtibbjohkiigffaaGreatDoor
