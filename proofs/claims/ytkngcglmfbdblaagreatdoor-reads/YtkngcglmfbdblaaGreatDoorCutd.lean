/-
  cutNumber, walked.
-/
import Derived.Test.YtkngcglmfbdblaaGreatDoorCuts
import Derived.Test.YtkngcglmfbdblaaGreatDoorPap
import Derived.Test.YtkngcglmfbdblaaGreatDoorShelf
import Derived.Lib.SmallJoins
namespace Go.Proofs.YtkngcglmfbdblaaGreatDoor
open Go.RowKit

/-- Digits are a number, or too great a one. -/
theorem pum_cases (M : Nat) : ∀ (l : Mil.Bytes) (acc : Nat), (∀ c, c ∈ l → Mil.isD c = true) → (∃ u, Lib.parseUintM M acc l = .ok u) ∨ Lib.parseUintM M acc l = .range
  | [], acc, _ => Or.inl ⟨acc, rfl⟩
  | c :: l, acc, h => by
    have hc := h c List.mem_cons_self
    have hd : 48 ≤ c.toNat ∧ c.toNat ≤ 57 := by unfold Mil.isD at hc; simpa using hc
    rw [Lib.parseUintM, if_pos hd]
    by_cases h2 : 1844674407370955162 ≤ acc
    · rw [if_pos h2]; exact Or.inr rfl
    · rw [if_neg h2]
      by_cases h3 : M < acc * 10 + (c.toNat - 48)
      · rw [if_pos h3]; exact Or.inr rfl
      · rw [if_neg h3]
        exact pum_cases M l _ fun d hd => h d (List.mem_cons_of_mem _ hd)
theorem parse_cases (l : Mil.Bytes) (hne : l ≠ []) (h : ∀ c, c ∈ l → Mil.isD c = true) : (∃ v, Lib.parseIntB 64 l = .ok v) ∨ Lib.parseIntB 64 l = .range := by
  cases l with
  | nil => exact absurd rfl hne
  | cons c r =>
    have hc := h c List.mem_cons_self
    have hd : 48 ≤ c.toNat ∧ c.toNat ≤ 57 := by unfold Mil.isD at hc; simpa using hc
    have hu := pum_cases (2 ^ 64 - 1) (c :: r) 0 h
    have hpb : Lib.parseUintB 64 (c :: r) = Lib.parseUintM (2 ^ 64 - 1) 0 (c :: r) := by unfold Lib.parseUintB; rw [if_neg (by simp)]
    unfold Lib.parseIntB
    simp only []
    rw [if_neg (by omega), hpb]
    rcases hu with ⟨u, hu⟩ | hu
    · rw [hu]
      simp only []
      by_cases h1 : ¬ c.toNat = 45 ∧ 2 ^ (64 - 1) ≤ u
      · rw [if_pos h1]; exact Or.inr rfl
      · rw [if_neg h1, if_neg (by omega)]; exact Or.inl ⟨_, rfl⟩
    · rw [hu]; exact Or.inr rfl

theorem pInt_ok (x : ByteArray) (hx : x.size ≤ 4000) (u : Int) (h : Lib.parseIntB 64 x.data.toList = .ok u) (w : World) :
    Calls Tryz.prog 47 #[.string x, .int .i64 10, .int .i64 64] w fun e w' => e = .returned (.tuple #[.int .i64 u, .nilIface]) ∧ Below w.heap.size w w' := by
  refine (Tryz.strconv_ParseInt_10_at64_ok x (by omega) u h w).mono ?_
  rintro e w' ⟨he, hw⟩
  rcases hw with rfl | ⟨t, rfl⟩
  · exact ⟨he, Below.refl _ _⟩
  · exact ⟨he, Joins.below_bytesWorld _ _ _ _ (Nat.le_refl _)⟩
theorem pInt_range (a : Nat → Addr) (x : ByteArray) (hx : x.size ≤ 4000) (h : Lib.parseIntB 64 x.data.toList = .range) (w : World) (L : w.cell? ⟨18, 0, none⟩ = some (errV (a 20))) :
    Calls Tryz.prog 47 #[.string x, .int .i64 10, .int .i64 64] w fun e w' => ∃ N, e = .returned (.tuple #[.int .i64 (Lib.intSat 64 x.data.toList), .iface 145 (.pointer (some ⟨N, 0, none⟩))]) ∧ Below w.heap.size w w' := by
  refine (Tryz.strconv_ParseInt_10_at64_range x (by omega) h (errV (a 20)) w L (Or.inr ⟨_, _, rfl⟩)).mono ?_
  rintro e w' ⟨N, he, _, _, hb⟩
  exact ⟨N, he, hb⟩

theorem run_len {f : UInt8 → Bool} {s : ByteArray} {p q : Nat} (h : Run f s p q) (hf : ∀ h : q < s.size, f s[q] = false) (hp : p < s.size) (h0 : f s[p] = true) : p < q := by
  rcases Nat.lt_or_ge p q with hl | hl
  · exact hl
  · have e := h.done hf
    rw [(while_drop hp f h0).1] at e
    have : q - p = 0 := by omega
    rw [this] at e
    simp at e

set_option maxHeartbeats 1000000 in
theorem cutNumber_any (a : Nat → Addr) (b : Nat) (s : ByteArray) (p n : Nat) (k tp : Int) (x : ByteArray) (v : Int) (w : World) (L : Laid a w) (hb : 23 ≤ b) (h : Rd w b s p n k tp x v) (hp : p < s.size) (h0 : Mil.isD s[p] = true) (hs : s.size ≤ 4000) :
    Calls Tryz.prog 38 #[.pointer (some ⟨b, 0, none⟩)] w (TokPost (Mil.cutNum (s.data.toList.drop p)) a b s p n k tp x v w) := by
  have H : Hid (Rd w b s p n k tp x v) := h
  have HL : Hid (Laid a w) := L
  have H0 : Hid (Mil.isD s[p] = true) := h0
  have c1 := h.c1
  have hbw : b < w.heap.size := lt_of_cell h.c0
  clear h L h0
  go_enter Tryz.func38, Tryz.ntmps38
  go_upto_block 0 with fail
  go_cut [] from 11 to 39 (fun wl => ∃ q, p ≤ q ∧ q ≤ s.size ∧ Hid (Run Mil.isD s p q) ∧ Hid (∀ h : q < s.size, Mil.isD s[q] = false) ∧ Hid (Rd wl b s q n k tp x v) ∧ Hid (Kp b w wl) ∧ Hid (Slot wl w.heap.size))
  case first =>
    go_wp2
    go_loopg [] (s.size - p) (fun g wr => ∃ q, p ≤ q ∧ q ≤ s.size ∧ g = s.size - q ∧ Hid (Run Mil.isD s p q) ∧ Hid (Rd wr b s q n k tp x v) ∧ Hid (Kp b w wr) ∧ Hid (Slot wr w.heap.size))
    case atStart => exact ⟨p, Nat.le_refl _, by omega, rfl, Run.start _ _ _, H.out.kept ((Kp.refl (b + 1) _).alloc _) (by omega), (Kp.refl b _).alloc _, heap_alloc_new _ _⟩
    case round =>
      obtain ⟨q, hpq, hq, hg, HU, HR, HK, HT⟩ := hrel
      have HG : Hid (gk = s.size - q) := hg
      clear hg c1
      have c0 := HR.out.c0
      have c1 := HR.out.c1
      have f1 := HR.out.fz 1
      by_cases hlt : q < s.size
      · by_cases hn : Mil.isD s[q] = true
        · go_wp2_with fail
          go_quiet ((go_at_call 37; exact Calls.quiet_of_same (isDigit_any _ _)))
          go_wp2
          go_roundg (s.size - (q + 1))
          case measure => have := HG.out; omega
          case rel => exact ⟨q + 1, by omega, by omega, rfl, HU.out.next hpq hlt hn, (HR.out.drewN _).step1, (HK.out.drewN _).setCell _ _, HT.out.kept (((Kp.refl b _).drewN _).setCell _ _) (by omega)⟩
        · have hn' : Mil.isD s[q] = false := by simpa using hn
          clear hn
          go_wp2_with fail
          go_quiet ((go_at_call 37; exact Calls.quiet_of_same (isDigit_any _ _)))
          go_wp2
          go_meet
          case rel => exact ⟨q, hpq, hq, HU, fun _ => hn', HR.out.drewN _, HK.out.drewN _, HT.out.kept ((Kp.refl b _).drewN _) (by omega)⟩
      · have hd : decide ((q : Int) < (s.size : Int)) = false := by simp; omega
        go_wp2_with fail
        go_quiet (fail)
        go_wp2
        go_meet
        case rel => exact ⟨q, hpq, hq, HU, fun h => absurd h hlt, HR.out.drewN _, HK.out.drewN _, HT.out.kept ((Kp.refl b _).drewN _) (by omega)⟩
  case rest =>
    obtain ⟨q, hpq, hq, HU, HF, HR, HK, HT⟩ := hcut
    clear c1
    have hlt : p < q := run_len HU.out HF.out hp H0.out
    have HC : Hid ((∃ v, Lib.parseIntB 64 ((s.data.toList.drop p).take (q - p)) = .ok v) ∨ Lib.parseIntB 64 ((s.data.toList.drop p).take (q - p)) = .range) := by
      refine parse_cases _ ?_ ?_
      · intro e
        have := congrArg List.length e
        simp at this
        omega
      · rw [← (HU.out.done HF.out).1]
        exact fun c hc => Mil.mem_while _ c hc
    have c0 := HR.out.c0
    have c1 := HR.out.c1
    have ct := (HL.out.kept HK.out hb).token
    have cr := (HL.out.kept HK.out hb).rng
    have hxl : (s.extract p q).data.toList = (s.data.toList.drop p).take (q - p) := Lib.extract_data _ _ _
    have HX : Hid ((s.extract p q).data.toList = (s.data.toList.drop p).take (q - p)) := hxl
    clear hxl
    rcases HC.out with ⟨u, hu⟩ | hu
    · have HU2 : Hid (Lib.parseIntB 64 ((s.data.toList.drop p).take (q - p)) = .ok u) := hu
      clear hu HC
      go_wp2
      go_quiet (fail)
      go_wp2_with fail
      refine (pInt_ok _ (by simp; omega) u (by rw [HX.out]; exact HU2.out) _).mono ?_
      rintro e w1 ⟨rfl, hb1⟩
      have HK1 : Hid (Kp b w w1) := (HK.out.drewN nq).trans (Kp.of_below hb1)
      have HR1 : Hid (Rd w1 b s q n k tp x v) := (HR.out.drewN nq).kept (Kp.of_below (b := b + 1) hb1) (by omega)
      have HT1 : Hid (Slot w1 w.heap.size) := (HT.out.kept ((Kp.refl b _).drewN nq) (by omega)).kept (Kp.of_below (b := b) hb1) (by omega)
      have ct1 := (HL.out.kept HK1.out hb).token
      obtain ⟨r0, r1, r2, r3, z0, z1, z2, z3⟩ := HT1.out.cell
      clear hb1 c0 c1 ct cr
      have hx0 : 0 < (s.extract p q).size := by simp; omega
      have e0 : (s.extract p q)[0]'hx0 = s[p] := by rw [ByteArray.getElem_extract]; rfl
      have hh : (s.data.toList.drop p).head?.map (·.toNat) = some s[p].toNat := by rw [drop_at hp]; rfl
      have HH : Hid ((s.data.toList.drop p).head?.map (·.toNat) = some s[p].toNat) := hh
      have E0 : Hid ((s.extract p q)[0]'hx0 = s[p]) := e0
      clear hh e0
      by_cases hz : (s.extract p q)[0].toNat = 48 ∧ 1 < q - p
      · obtain ⟨hz1, hz2⟩ := hz
        have hzi : ((s.extract p q)[0].toNat : Int) = 48 := by omega
        have HZ : Hid (s[p].toNat = 48) := by rw [← E0.out]; exact hz1
        clear hz1
        go_wp2
        refine ⟨rfl, HK1.out.alloc _, Or.inr ⟨⟨w1.heap.size, rfl, heap_alloc_new w1 _⟩, ?_⟩⟩
        obtain ⟨e1, e2⟩ := HU.out.done HF.out
        unfold Mil.cutNum
        rw [e1, HU2.out, HH.out]
        simp only []
        rw [if_pos ⟨by rw [HZ.out], by simp; omega⟩]
      · have hnz : ¬ (s[p].toNat = 48 ∧ 1 < q - p) := by rw [← E0.out]; exact hz
        have HN : Hid (¬ (s[p].toNat = 48 ∧ 1 < q - p)) := hnz
        clear hnz
        have fin : TokPost (Mil.cutNum (s.data.toList.drop p)) a b s p n k tp x v w (.returned (.agg #[.int .i64 2, .int .i64 p, .string (s.extract p q), .int .i64 u]))
            ((((w1.setCell ⟨w.heap.size, 0, none⟩ (.int .i64 2)).setCell ⟨w.heap.size, 1, none⟩ (.int .i64 p)).setCell ⟨w.heap.size, 2, none⟩ (.string (s.extract p q))).setCell ⟨w.heap.size, 3, none⟩ (.int .i64 u)) := by
          refine ⟨HK1.out.four (Nat.le_refl _) _ _ _ _, Or.inl ⟨⟨2, (s.data.toList.drop p).take (q - p), u⟩, q, s.extract p q, rfl, hpq, hq, HR1.out.four (by omega) _ _ _ _, ?_, HX.out⟩⟩
          obtain ⟨e1, e2⟩ := HU.out.done HF.out
          unfold Mil.cutNum
          rw [e1, e2, HU2.out, HH.out]
          have hlen : ((s.data.toList.drop p).take (q - p)).length = q - p := by simp; omega
          simp only []
          rw [if_neg (by rw [hlen]; intro hc; exact HN.out ⟨Option.some.inj hc.1, hc.2⟩)]
        have FIN : Hid _ := fin
        clear fin
        by_cases hz1 : (s.extract p q)[0].toNat = 48
        · have hz2 : ¬ 1 < q - p := fun h => hz ⟨hz1, h⟩
          have hzi : ((s.extract p q)[0].toNat : Int) = 48 := by omega
          clear hz1 hz
          go_wp2
          exact bodyPost_ret (v := .agg #[.int .i64 2, .int .i64 p, .string (s.extract p q), .int .i64 u]) (by simp [results, Tryz.results38, go_sem, r0, r1, r2, r3]) rfl FIN.out
        · have hzi : ¬ ((s.extract p q)[0].toNat : Int) = 48 := by omega
          clear hz1 hz
          go_wp2
          exact bodyPost_ret (v := .agg #[.int .i64 2, .int .i64 p, .string (s.extract p q), .int .i64 u]) (by simp [results, Tryz.results38, go_sem, r0, r1, r2, r3]) rfl FIN.out
    · have HU2 : Hid (Lib.parseIntB 64 ((s.data.toList.drop p).take (q - p)) = .range) := hu
      clear hu HC
      go_wp2
      go_quiet (fail)
      go_wp2_with fail
      refine (pInt_range a _ (by simp; omega) (by rw [HX.out]; exact HU2.out) _ (by exact ((Kp.refl b _).drewN _).held cr (by show 18 ≠ b; omega))).mono ?_
      rintro e w1 ⟨N, rfl, hb1⟩
      have HK1 : Hid (Kp b w w1) := (HK.out.drewN nq).trans (Kp.of_below hb1)
      have HR1 : Hid (Rd w1 b s q n k tp x v) := (HR.out.drewN nq).kept (Kp.of_below (b := b + 1) hb1) (by omega)
      have HT1 : Hid (Slot w1 w.heap.size) := (HT.out.kept ((Kp.refl b _).drewN nq) (by omega)).kept (Kp.of_below (b := b) hb1) (by omega)
      have ct1 := (HL.out.kept HK1.out hb).token
      obtain ⟨r0, r1, r2, r3, z0, z1, z2, z3⟩ := HT1.out.cell
      clear hb1 c0 c1 ct cr
      go_wp2
      refine ⟨rfl, HK1.out.alloc _, Or.inr ⟨⟨w1.heap.size, rfl, heap_alloc_new w1 _⟩, ?_⟩⟩
      obtain ⟨e1, e2⟩ := HU.out.done HF.out
      unfold Mil.cutNum
      rw [e1, HU2.out]

end Go.Proofs.YtkngcglmfbdblaaGreatDoor
