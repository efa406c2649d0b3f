/-
  Expressions as the program has them, with places; literals and constants, walked.
-/
import Derived.Test.YtibbjohkiigffaaGreatDoorAd
import Derived.Test.YtibbjohkiigffaaGreatDoorPau
namespace Go.Proofs.YtibbjohkiigffaaGreatDoor
open Go.RowKit

/-- An expression as the program has it, in a text of N bytes. -/
def ev (N : Nat) : Mip.E → Value
  | .nil => .nilIface
  | .node 1 k x _ _ => .iface 194 (.agg #[.int .i64 ((N : Int) - (x.2 : Nat)), .int .i64 (k : Nat)])
  | .node 2 k x _ _ => .iface 196 (.agg #[.int .i64 ((N : Int) - (x.2 : Nat)), .bool (k == 1)])
  | .node 3 _ x _ _ => .iface 85 (.agg #[.int .i64 ((N : Int) - (x.2 : Nat)), .string (bs x.1)])
  | .node 4 _ x a _ => .iface 186 (.agg #[.int .i64 ((N : Int) - (x.2 : Nat)), .string (bs x.1), ev N a])
  | .node 5 _ x a b => .iface 188 (.agg #[.int .i64 ((N : Int) - (x.2 : Nat)), .string (bs x.1), ev N a, ev N b])
  | .node 6 _ x a (.node _ _ _ b c) => .iface 190 (.agg #[.int .i64 ((N : Int) - (x.2 : Nat)), ev N a, ev N b, ev N c])
  | .node 7 _ x a b => .iface 173 (.agg #[.int .i64 ((N : Int) - (x.2 : Nat)), ev N a, ev N b])
  | .node 8 k x a _ => .iface 168 (.agg #[.int .i64 ((N : Int) - (x.2 : Nat)), ev N a, .int .i64 (k : Nat)])
  | .node 9 k x a b => .iface 171 (.agg #[.int .i64 ((N : Int) - (x.2 : Nat)), ev N a, ev N b, .int .i64 (k : Nat)])
  | .node _ _ x a b => .iface 192 (.agg #[.int .i64 ((N : Int) - (x.2 : Nat)), .string (bs x.1), ev N a, ev N b])

/-- A call that answers an expression. -/
def ExPost (R : Mip.E → Mil.St → Prop) (F : Nat → Int → Prop) (a : Nat → Addr) (b : Nat) (s : ByteArray) (w : World) (e : Ending) (w' : World) : Prop :=
  Kp b w w' ∧ ((∃ x st ty y, e = .returned (.iface ty y) ∧ ev s.size x = .iface ty y ∧ R x st ∧ RdS w' b s st) ∨ Threw F a e w')

set_option maxHeartbeats 1000000 in
theorem digits_any (a : Nat → Addr) (b : Nat) (s : ByteArray) (st : Mil.St) (w : World) (L : Laid a w) (hb : 23 ≤ b) (h : RdS w b s st) (hs : s.size ≤ 4000) :
    Calls Tryz.prog 136 #[.pointer (some ⟨b, 0, none⟩)] w (ExPost (fun x st' => (Mil.number 0 9223372036854775807 st).map (fun x => (Mip.eInt (Mip.off st) x.1, x.2)) = some (x, st')) (fun k p => Mil.numberZ s.size 0 9223372036854775807 st = .bad k p) a b s w) := by
  have H : Hid (RdS w b s st) := h
  have HL : Hid (Laid a w) := L
  clear h L
  go_enter Tryz.func136, Tryz.ntmps136
  go_wp2_with fail
  refine (atomHere_any b s st _ H.out).mono ?_
  rintro e w0 ⟨rfl, hw0⟩
  have HV : Hid (Hd a b s st w (w0.alloc (.cells #[.int .i64 (place s.size st)] 83)) (place s.size st) w0.heap.size) := head_facts HL.out hb H.out hw0
  clear hw0
  go_wp2_with fail
  generalize w0.heap.size = kv at HV ⊢
  generalize w0.alloc (.cells #[.int .i64 (place s.size st)] 83) = v at HV ⊢
  clear H HL w0
  have H : Hid (RdS v b s st) := HV.out.rd
  have HL : Hid (Laid a v) := HV.out.laid
  refine region_held (fun w' => w'.cell? ⟨kv, 0, none⟩ = some (.int .i64 (place s.size st))) (by kernel_rfl) HV.out.cell (fun hS => ?_)
  refine held_take 0 (v := ?_) rfl (by kernel_rfl) (by kernel_rfl) (by kernel_rfl) (fun _ _ _ h => h) (Or.inl ⟨by rfl, ?_⟩) (by assumption) ?_
  rotate_left 1
  · (intro w' hSw; (try dsimp only at hSw); go_simp <;> with_reducible rfl)
  try simp only [Act.put, List.setIfInBounds_toArray, List.set_cons_zero, List.set_cons_succ]
  refine held_take 1 (v := ?_) rfl (by kernel_rfl) (by kernel_rfl) (by kernel_rfl) (fun _ _ _ h => h) (Or.inl ⟨by rfl, ?_⟩) (by assumption) ?_
  rotate_left 1
  · (intro w' hSw; (try dsimp only at hSw); go_simp <;> with_reducible rfl)
  try simp only [Act.put, List.setIfInBounds_toArray, List.set_cons_zero, List.set_cons_succ]
  refine held_one 2 (by kernel_rfl) rfl (fun K hK => ?_)
  go_simp
  refine (number_any a b s st 0 9223372036854775807 (by omega) _ (HL.out.kept (Kp.refl b v).drew hb) hb (H.out.kept (Kp.refl (b + 1) v).drew (by omega)) hs).mono ?_
  rintro e w1 ⟨hk, (⟨k, st', rfl, h1, h2⟩ | ⟨k, at_, hkk, d, rfl, hd, hno⟩)⟩
  · have H1 : Hid _ := h1
    have HK : Hid (Kp b v w1) := (Kp.refl b v).drew.trans hk
    have H2 : Hid (RdS w1 b s st') := h2
    clear h1 hk h2 hS
    refine hK.out _ _ (HK.out.held HV.out.cell HV.out.ne) (fun hS => ?_)
    clear hK K
    try simp only [Act.put, List.setIfInBounds_toArray, List.set_cons_zero, List.set_cons_succ]
    refine held_take 3 (v := ?_) rfl (by kernel_rfl) (by kernel_rfl) (by kernel_rfl) (fun _ _ _ h => h) (Or.inl ⟨by rfl, ?_⟩) (by assumption) ?_
    rotate_left 1
    · (intro w' hSw; (try dsimp only at hSw); go_simp <;> with_reducible rfl)
    try simp only [Act.put, List.setIfInBounds_toArray, List.set_cons_zero, List.set_cons_succ]
    refine held_take 4 (v := ?_) rfl (by kernel_rfl) (by kernel_rfl) (by kernel_rfl) (fun _ _ _ h => h) (Or.inl ⟨by rfl, ?_⟩) (by assumption) ?_
    rotate_left 1
    · (intro w' hSw; (try dsimp only at hSw); go_simp <;> with_reducible rfl)
    try simp only [Act.put, List.setIfInBounds_toArray, List.set_cons_zero, List.set_cons_succ]
    refine held_take 5 (v := ?_) rfl (by kernel_rfl) (by kernel_rfl) (by kernel_rfl) (fun _ _ _ h => h) (Or.inl ⟨by rfl, ?_⟩) (by assumption) ?_
    rotate_left 1
    · (intro w' hSw; (try dsimp only at hSw); go_simp <;> with_reducible rfl)
    try simp only [Act.put, List.setIfInBounds_toArray, List.set_cons_zero, List.set_cons_succ]
    refine wpAnyH_done (by kernel_rfl) ?_ _
    clear hS
    go_wp2
    go_ret
    exact ⟨HV.out.kp.trans HK.out, Or.inl ⟨Mip.eInt (Mip.off st) k, st', _, _, rfl, by rw [place_off]; rfl, by rw [H1.out]; rfl, H2.out⟩⟩
  · exact ⟨rfl, HV.out.kp.trans ((Kp.refl b v).drew.trans hk), Or.inr ⟨k, at_, hkk, d, rfl, hd, hno⟩⟩

set_option maxHeartbeats 1000000 in
theorem literal_any (a : Nat → Addr) (b : Nat) (s : ByteArray) (st : Mil.St) (w : World) (L : Laid a w) (hb : 23 ≤ b) (h : RdS w b s st) (hs : s.size ≤ 4000) :
    Calls Tryz.prog 130 #[.pointer (some ⟨b, 0, none⟩)] w (ExPost (fun x st' => Mip.literal st = some (x, st')) (fun k p => Mil.literalZ s.size st = .bad k p) a b s w) := by
  have H : Hid (RdS w b s st) := h
  have HL : Hid (Laid a w) := L
  clear h L
  by_cases hT : Mil.sees st Mil.wTrue = true
  · have HZ : Hid (Mil.literalZ s.size st = (Mil.advZ s.size st).map fun s1 => (Mil.eBool 1, s1)) := by unfold Mil.literalZ; rw [if_pos hT]; rfl
    have HM : Hid (Mip.literal st = (Mil.adv st).map fun s1 => (Mip.eBool (Mip.off st) 1, s1)) := by unfold Mip.literal; rw [if_pos hT]; rfl
    have HT : Hid (Mil.sees st (bs Mil.wTrue).data.toList = true) := hT
    clear hT
    go_enter Tryz.func130, Tryz.ntmps130
    go_wp2_with fail
    refine (atomHere_any b s st _ H.out).mono ?_
    rintro e w0 ⟨rfl, hw0⟩
    have HV : Hid (Hd a b s st w (w0.alloc (.cells #[.int .i64 (place s.size st)] 83)) (place s.size st) w0.heap.size) := head_facts HL.out hb H.out hw0
    clear hw0
    go_wp2_with fail
    generalize w0.heap.size = kv at HV ⊢
    generalize w0.alloc (.cells #[.int .i64 (place s.size st)] 83) = v at HV ⊢
    clear H HL w0
    have H : Hid (RdS v b s st) := HV.out.rd
    have HL : Hid (Laid a v) := HV.out.laid
    refine (takes_yes a b s st (bs Mil.wTrue) _ HL.out hb H.out hs HT.out).mono ?_
    rintro e w1 ⟨hk, (⟨st', rfl, h1, h2⟩ | ⟨k, at_, hkk, d, rfl, hd, hno⟩)⟩
    · have cv : w1.cell? ⟨kv, 0, none⟩ = some (.int .i64 (place s.size st)) := hk.held HV.out.cell HV.out.ne
      go_wp2
      go_ret
      exact ⟨HV.out.kp.trans hk, Or.inl ⟨Mip.eBool (Mip.off st) 1, st', _, _, rfl, by rw [place_off]; rfl, by rw [HM.out, h1]; rfl, h2⟩⟩
    · go_wp2
      exact ⟨rfl, HV.out.kp.trans hk, Or.inr ⟨k, at_, hkk, d, rfl, hd, by rw [HZ.out, hno]; rfl⟩⟩
  · have HT : Hid (Mil.sees st (bs Mil.wTrue).data.toList = false) := Bool.eq_false_iff.2 hT
    by_cases hF : Mil.sees st Mil.wFalse = true
    · have HZ : Hid (Mil.literalZ s.size st = (Mil.advZ s.size st).map fun s1 => (Mil.eBool 0, s1)) := by unfold Mil.literalZ; rw [if_neg hT, if_pos hF]; rfl
      have HM : Hid (Mip.literal st = (Mil.adv st).map fun s1 => (Mip.eBool (Mip.off st) 0, s1)) := by unfold Mip.literal; rw [if_neg hT, if_pos hF]; rfl
      have HF : Hid (Mil.sees st (bs Mil.wFalse).data.toList = true) := hF
      clear hT hF
      go_enter Tryz.func130, Tryz.ntmps130
      go_wp2_with fail
      refine (atomHere_any b s st _ H.out).mono ?_
      rintro e w0 ⟨rfl, hw0⟩
      have HV : Hid (Hd a b s st w (w0.alloc (.cells #[.int .i64 (place s.size st)] 83)) (place s.size st) w0.heap.size) := head_facts HL.out hb H.out hw0
      clear hw0
      go_wp2_with fail
      generalize w0.heap.size = kv at HV ⊢
      generalize w0.alloc (.cells #[.int .i64 (place s.size st)] 83) = v at HV ⊢
      clear H HL w0
      have H : Hid (RdS v b s st) := HV.out.rd
      have HL : Hid (Laid a v) := HV.out.laid
      refine (takes_no b s st (bs Mil.wTrue) _ H.out HT.out).mono ?_
      rintro e w1 ⟨rfl, rfl⟩
      go_wp2_with fail
      refine (takes_yes a b s st (bs Mil.wFalse) _ HL.out hb H.out hs HF.out).mono ?_
      rintro e w1 ⟨hk, (⟨st', rfl, h1, h2⟩ | ⟨k, at_, hkk, d, rfl, hd, hno⟩)⟩
      · have cv : w1.cell? ⟨kv, 0, none⟩ = some (.int .i64 (place s.size st)) := hk.held HV.out.cell HV.out.ne
        go_wp2
        go_ret
        exact ⟨HV.out.kp.trans hk, Or.inl ⟨Mip.eBool (Mip.off st) 0, st', _, _, rfl, by rw [place_off]; rfl, by rw [HM.out, h1]; rfl, h2⟩⟩
      · go_wp2
        exact ⟨rfl, HV.out.kp.trans hk, Or.inr ⟨k, at_, hkk, d, rfl, hd, by rw [HZ.out, hno]; rfl⟩⟩
    · have HF : Hid (Mil.sees st (bs Mil.wFalse).data.toList = false) := Bool.eq_false_iff.2 hF
      have HZ : Hid (Mil.literalZ s.size st = (Mil.numberZ s.size 0 9223372036854775807 st).map fun x => (Mil.eInt x.1, x.2)) := by unfold Mil.literalZ; rw [if_neg hT, if_neg hF]; rfl
      have HM : Hid (Mip.literal st = (Mil.number 0 9223372036854775807 st).map fun x => (Mip.eInt (Mip.off st) x.1, x.2)) := by unfold Mip.literal; rw [if_neg hT, if_neg hF]; rfl
      clear hT hF
      go_enter Tryz.func130, Tryz.ntmps130
      go_wp2_with fail
      refine (atomHere_any b s st _ H.out).mono ?_
      rintro e w0 ⟨rfl, hw0⟩
      have HV : Hid (Hd a b s st w (w0.alloc (.cells #[.int .i64 (place s.size st)] 83)) (place s.size st) w0.heap.size) := head_facts HL.out hb H.out hw0
      clear hw0
      go_wp2_with fail
      generalize w0.heap.size = kv at HV ⊢
      generalize w0.alloc (.cells #[.int .i64 (place s.size st)] 83) = v at HV ⊢
      clear H HL w0
      have H : Hid (RdS v b s st) := HV.out.rd
      have HL : Hid (Laid a v) := HV.out.laid
      refine (takes_no b s st (bs Mil.wTrue) _ H.out HT.out).mono ?_
      rintro e w1 ⟨rfl, rfl⟩
      go_wp2_with fail
      refine (takes_no b s st (bs Mil.wFalse) _ H.out HF.out).mono ?_
      rintro e w1 ⟨rfl, rfl⟩
      go_wp2_with fail
      refine (digits_any a b s st _ HL.out hb H.out hs).mono ?_
      rintro e w1 ⟨hk, (⟨x, st', ty, y, rfl, h0, h1, h2⟩ | ⟨k, at_, hkk, d, rfl, hd, hno⟩)⟩
      · have H0 : Hid _ := h0
        have H1 : Hid _ := h1
        clear h0 h1
        go_wp2
        go_ret
        exact ⟨HV.out.kp.trans hk, Or.inl ⟨x, st', ty, y, rfl, H0.out, HM.out.trans H1.out, h2⟩⟩
      · have HNO : Hid _ := hno
        clear hno
        go_wp2
        exact ⟨rfl, HV.out.kp.trans hk, Or.inr ⟨k, at_, hkk, d, rfl, hd, by rw [HZ.out, HNO.out]; rfl⟩⟩

set_option maxHeartbeats 1000000 in
theorem constant_any (a : Nat → Addr) (b : Nat) (s : ByteArray) (st : Mil.St) (w : World) (L : Laid a w) (hb : 23 ≤ b) (h : RdS w b s st) (hs : s.size ≤ 4000) :
    Calls Tryz.prog 135 #[.pointer (some ⟨b, 0, none⟩)] w (ExPost (fun x st' => Mip.constant st = some (x, st')) (fun k p => Mil.constantZ s.size st = .bad k p) a b s w) := by
  have H : Hid (RdS w b s st) := h
  have HL : Hid (Laid a w) := L
  clear h L
  by_cases hT : Mil.sees st Mil.sMinus = true
  · have HZ : Hid (Mil.constantZ s.size st = (Mil.advZ s.size st).bind fun s1 => (Mil.numberZ s.size 0 9223372036854775807 s1).map fun x => (Mil.ePre Mil.sMinus (Mil.eInt x.1), x.2)) := by unfold Mil.constantZ; rw [if_pos hT]; rfl
    have HM : Hid (Mip.constant st = (Mil.adv st).bind fun s1 => (Mil.number 0 9223372036854775807 s1).map fun x => (Mip.ePre (Mip.off st) Mil.sMinus (Mip.eInt (Mip.off s1) x.1), x.2)) := by unfold Mip.constant; rw [if_pos hT]; rfl
    have HT : Hid (Mil.sees st (bs Mil.sMinus).data.toList = true) := hT
    clear hT
    go_enter Tryz.func135, Tryz.ntmps135
    go_wp2_with fail
    refine (here_any b s st _ H.out).mono ?_
    rintro e w0 ⟨rfl, hw0⟩
    have HV : Hid (Hd a b s st w (w0.alloc (.cells #[.int .i64 (place s.size st)] 81)) (place s.size st) w0.heap.size) := head_facts HL.out hb H.out hw0
    clear hw0
    go_wp2_with fail
    generalize w0.heap.size = kv at HV ⊢
    generalize w0.alloc (.cells #[.int .i64 (place s.size st)] 81) = v at HV ⊢
    clear H HL w0
    have H : Hid (RdS v b s st) := HV.out.rd
    have HL : Hid (Laid a v) := HV.out.laid
    refine (takes_yes a b s st (bs Mil.sMinus) _ HL.out hb H.out hs HT.out).mono ?_
    rintro e w1 ⟨hk, (⟨st', rfl, h1, h2⟩ | ⟨k, at_, hkk, d, rfl, hd, hno⟩)⟩
    · go_wp2_with fail
      have HK0 : Hid (Kp b v w1) := hk
      have H1 : Hid (Mil.adv st = some st') := h1
      have H2 : Hid (RdS w1 b s st') := h2
      clear hk h1 h2
      refine region_held (fun w' => w'.cell? ⟨kv, 0, none⟩ = some (.int .i64 (place s.size st))) (by kernel_rfl) (HK0.out.held HV.out.cell HV.out.ne) (fun hS => ?_)
      refine held_take 0 (v := ?_) rfl (by kernel_rfl) (by kernel_rfl) (by kernel_rfl) (fun _ _ _ h => h) (Or.inl ⟨by rfl, ?_⟩) (by assumption) ?_
      rotate_left 1
      · (intro w' hSw; (try dsimp only at hSw); go_simp <;> with_reducible rfl)
      try simp only [Act.put, List.setIfInBounds_toArray, List.set_cons_zero, List.set_cons_succ]
      refine held_take 1 (v := ?_) rfl (by kernel_rfl) (by kernel_rfl) (by kernel_rfl) (fun _ _ _ h => h) (Or.inl ⟨by rfl, ?_⟩) (by assumption) ?_
      rotate_left 1
      · (intro w' hSw; (try dsimp only at hSw); go_simp <;> with_reducible rfl)
      try simp only [Act.put, List.setIfInBounds_toArray, List.set_cons_zero, List.set_cons_succ]
      refine held_one 2 (by kernel_rfl) rfl (fun K hK => ?_)
      go_simp
      refine (digits_any a b s st' _ ((HL.out.kept HK0.out hb).kept (Kp.refl b w1).drew hb) hb (H2.out.kept (Kp.refl (b + 1) w1).drew (by omega)) hs).mono ?_
      rintro e w2 ⟨hk2, (⟨x, st2, ty, y, rfl, g0, g1, g2⟩ | ⟨k, at_, hkk, d, rfl, hd, hno⟩)⟩
      · have G0 : Hid (ev s.size x = .iface ty y) := g0
        have G1 : Hid _ := g1
        have HK : Hid (Kp b v w2) := HK0.out.drew.trans hk2
        have G2 : Hid (RdS w2 b s st2) := g2
        clear g0 g1 g2 hk2 hS
        refine hK.out _ _ (HK.out.held HV.out.cell HV.out.ne) (fun hS => ?_)
        clear hK K
        try simp only [Act.put, List.setIfInBounds_toArray, List.set_cons_zero, List.set_cons_succ]
        refine held_take 3 (v := ?_) rfl (by kernel_rfl) (by kernel_rfl) (by kernel_rfl) (fun _ _ _ h => h) (Or.inl ⟨by rfl, ?_⟩) (by assumption) ?_
        rotate_left 1
        · (intro w' hSw; (try dsimp only at hSw); go_simp <;> with_reducible rfl)
        try simp only [Act.put, List.setIfInBounds_toArray, List.set_cons_zero, List.set_cons_succ]
        refine held_take 4 (v := ?_) rfl (by kernel_rfl) (by kernel_rfl) (by kernel_rfl) (fun _ _ _ h => h) (Or.inl ⟨by rfl, ?_⟩) (by assumption) ?_
        rotate_left 1
        · (intro w' hSw; (try dsimp only at hSw); go_simp <;> with_reducible rfl)
        try simp only [Act.put, List.setIfInBounds_toArray, List.set_cons_zero, List.set_cons_succ]
        refine held_take 5 (v := ?_) rfl (by kernel_rfl) (by kernel_rfl) (by kernel_rfl) (fun _ _ _ h => h) (Or.inl ⟨by rfl, ?_⟩) (by assumption) ?_
        rotate_left 1
        · (intro w' hSw; (try dsimp only at hSw); go_simp <;> with_reducible rfl)
        try simp only [Act.put, List.setIfInBounds_toArray, List.set_cons_zero, List.set_cons_succ]
        refine wpAnyH_done (by kernel_rfl) ?_ _
        clear hS
        go_wp2
        go_ret
        obtain ⟨n, hn, hx⟩ := Option.map_eq_some_iff.1 G1.out
        obtain ⟨rfl, rfl⟩ := Prod.mk.inj hx
        refine ⟨HV.out.kp.trans HK.out, Or.inl ⟨Mip.ePre (Mip.off st) Mil.sMinus (Mip.eInt (Mip.off st') n.1), n.2, _, _, rfl, ?_, by rw [HM.out, H1.out, Option.bind_some, hn]; rfl, G2.out⟩⟩
        rw [place_off, ← G0.out]; rfl
      · exact ⟨rfl, HV.out.kp.trans (HK0.out.drew.trans hk2), Or.inr ⟨k, at_, hkk, d, rfl, hd, by rw [HZ.out, Mil.imz_adv s.size _ _ H1.out]; show Mil.Rz.map _ _ = _; rw [hno]; rfl⟩⟩
    · go_wp2
      exact ⟨rfl, HV.out.kp.trans hk, Or.inr ⟨k, at_, hkk, d, rfl, hd, by rw [HZ.out, hno]; rfl⟩⟩
  · have HT : Hid (Mil.sees st (bs Mil.sMinus).data.toList = false) := Bool.eq_false_iff.2 hT
    have HM : Hid (Mip.constant st = Mip.literal st) := by unfold Mip.constant; rw [if_neg hT]; rfl
    have HZ : Hid (Mil.constantZ s.size st = Mil.literalZ s.size st) := by unfold Mil.constantZ; rw [if_neg hT]; rfl
    clear hT
    go_enter Tryz.func135, Tryz.ntmps135
    go_wp2_with fail
    refine (here_any b s st _ H.out).mono ?_
    rintro e w0 ⟨rfl, hw0⟩
    have HV : Hid (Hd a b s st w (w0.alloc (.cells #[.int .i64 (place s.size st)] 81)) (place s.size st) w0.heap.size) := head_facts HL.out hb H.out hw0
    clear hw0
    go_wp2_with fail
    generalize w0.heap.size = kv at HV ⊢
    generalize w0.alloc (.cells #[.int .i64 (place s.size st)] 81) = v at HV ⊢
    clear H HL w0
    have H : Hid (RdS v b s st) := HV.out.rd
    have HL : Hid (Laid a v) := HV.out.laid
    refine (takes_no b s st (bs Mil.sMinus) _ H.out HT.out).mono ?_
    rintro e w1 ⟨rfl, rfl⟩
    go_wp2_with fail
    refine (literal_any a b s st _ HL.out hb H.out hs).mono ?_
    rintro e w1 ⟨hk, (⟨x, st', ty, y, rfl, h0, h1, h2⟩ | ⟨k, at_, hkk, d, rfl, hd, hno⟩)⟩
    · go_wp2
      go_ret
      exact ⟨HV.out.kp.trans hk, Or.inl ⟨x, st', ty, y, rfl, h0, HM.out.trans h1, h2⟩⟩
    · go_wp2
      exact ⟨rfl, HV.out.kp.trans hk, Or.inr ⟨k, at_, hkk, d, rfl, hd, HZ.out.trans hno⟩⟩

end Go.Proofs.YtibbjohkiigffaaGreatDoor
