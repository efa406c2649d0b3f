/-
  The cutter's small functions, walked.
-/
import Derived.Test.YtkngcglmfbdblaaGreatDoorBase
namespace Go.Proofs.YtkngcglmfbdblaaGreatDoor
open Go.RowKit

theorem ret_bool {a b : Bool} (h : a = b) : Ending.returned (.bool a) = .returned (.bool b) := by rw [h]
theorem drop_at {s : ByteArray} {q : Nat} (h : q < s.size) : s.data.toList.drop q = s[q] :: s.data.toList.drop (q + 1) := by
  rw [List.drop_eq_getElem_cons (by simpa using h)]; rfl
theorem drop_end {s : ByteArray} {q : Nat} (h : s.size ≤ q) : s.data.toList.drop q = [] := List.drop_eq_nil_of_le (by simpa using h)

set_option maxHeartbeats 400000 in
theorem isLetter_any (c : UInt8) (w : World) : Calls Tryz.prog 35 #[.int .u8 c.toNat] w fun e w' => e = .returned (.bool (Mil.isL c)) ∧ w' = w := by
  go_enter Tryz.func35, Tryz.ntmps35
  go_wp2
  all_goals
    go_ret
    refine ⟨ret_bool ?_, rfl⟩
    unfold Mil.isL
    rw [Bool.eq_iff_iff]; simp; omega
set_option maxHeartbeats 400000 in
theorem isDigit_any (c : UInt8) (w : World) : Calls Tryz.prog 37 #[.int .u8 c.toNat] w fun e w' => e = .returned (.bool (Mil.isD c)) ∧ w' = w := by
  go_enter Tryz.func37, Tryz.ntmps37
  go_wp2
  all_goals
    go_ret
    refine ⟨ret_bool ?_, rfl⟩
    unfold Mil.isD
    rw [Bool.eq_iff_iff]; simp; omega
set_option maxHeartbeats 400000 in
theorem isNameByte_any (c : UInt8) (w : World) : Calls Tryz.prog 46 #[.int .u8 c.toNat] w fun e w' => e = .returned (.bool (Mil.isN c)) ∧ w' = w := by
  go_enter Tryz.func46, Tryz.ntmps46
  go_wp2_with (first | (go_at_call 35; refine (isLetter_any c _).mono ?_; rintro e w' ⟨rfl, rfl⟩) | (go_at_call 37; refine (isDigit_any c _).mono ?_; rintro e w' ⟨rfl, rfl⟩))
  all_goals
    go_ret
    refine ⟨ret_bool ?_, rfl⟩
    unfold Mil.isN
    rw [Bool.eq_iff_iff]; simp [*]; try omega

theorem skip_here {s : ByteArray} {q : Nat} (h : q < s.size) (hc : s[q].toNat = 32 ∨ s[q].toNat = 9 ∨ s[q].toNat = 10) : Mil.skip false (s.data.toList.drop q) = Mil.skip false (s.data.toList.drop (q + 1)) := by
  rw [drop_at h, Mil.skip, if_pos hc]

theorem skip_hash {c : UInt8} {r : Mil.Bytes} (h : c.toNat = 35) : Mil.skip true (c :: r) = Mil.skip false (c :: r) := by
  rw [Mil.skip, Mil.skip, if_neg (by omega), if_neg (by omega), if_pos h]

theorem skip_nl {c : UInt8} {r : Mil.Bytes} (h : c.toNat = 10) : Mil.skip true (c :: r) = Mil.skip false (c :: r) := by
  rw [Mil.skip, Mil.skip, if_pos h, if_pos (Or.inr (Or.inr h))]
theorem skip_more {c : UInt8} {r : Mil.Bytes} (h : c.toNat ≠ 10) : Mil.skip true (c :: r) = Mil.skip true r := by
  rw [Mil.skip, if_neg h]

set_option maxHeartbeats 1000000 in
theorem skipBlanks_any (b : Nat) (s : ByteArray) (p n : Nat) (k tp : Int) (x : ByteArray) (v : Int) (w : World) (h : Rd w b s p n k tp x v) (hp : p ≤ s.size) (hs : s.size ≤ 4000) :
    Calls Tryz.prog 27 #[.pointer (some ⟨b, 0, none⟩)] w fun e w' => e = .returned (.tuple #[]) ∧ ∃ q, p ≤ q ∧ q ≤ s.size ∧ s.data.toList.drop q = Mil.skip false (s.data.toList.drop p) ∧ Rd w' b s q n k tp x v ∧ Kp b w w' := by
  have H : Hid (Rd w b s p n k tp x v) := h
  clear h
  go_enter Tryz.func27, Tryz.ntmps27
  go_wp2
  go_step3
  go_wp2
  go_step3
  go_wp2
  go_loopg [] (s.size - p) (fun g wr => ∃ q, p ≤ q ∧ q ≤ s.size ∧ g = s.size - q ∧ Hid (Mil.skip false (s.data.toList.drop q) = Mil.skip false (s.data.toList.drop p)) ∧ Hid (Rd wr b s q n k tp x v) ∧ Hid (Kp b w wr))
  case atStart => exact ⟨p, Nat.le_refl _, hp, rfl, rfl, H, Kp.refl _ _⟩
  case round =>
    obtain ⟨q, hpq, hq, hg, HS, HR, HK⟩ := hrel
    have HG : Hid (gk = s.size - q) := hg
    clear hg
    have c0 := HR.out.c0
    have c1 := HR.out.c1
    have f1 := HR.out.fz 1
    by_cases hlt : q < s.size
    · go_wp2
      go_quiet (fail)
      go_wp2
      go_quiet (fail)
      go_wp2
      · go_roundg (s.size - (q + 1))
        case measure => have := HG.out; omega
        case rel => exact ⟨q + 1, by omega, by omega, rfl, by rw [← HS.out, skip_here hlt (by rename_i h1 h2; simp at h1 h2; omega)]; rfl, (HR.out.drewN _).step1, (HK.out.drewN _).setCell _ _⟩
      · go_roundg (s.size - (q + 1))
        case measure => have := HG.out; omega
        case rel => exact ⟨q + 1, by omega, by omega, rfl, by rw [← HS.out, skip_here hlt (by rename_i h1 h2; simp at h1 h2; omega)]; rfl, (HR.out.drewN _).step1, (HK.out.drewN _).setCell _ _⟩
      · go_roundg (s.size - (q + 1))
        case measure => have := HG.out; omega
        case rel => exact ⟨q + 1, by omega, by omega, rfl, by rw [← HS.out, skip_here hlt (by rename_i h1 h2; simp at h1 h2; omega)]; rfl, (HR.out.drewN _).step1, (HK.out.drewN _).setCell _ _⟩
      · rename_i h1 h2 h3 h4
        have H35 : Hid (s[q].toNat = 35) := by simp at h4; show _ = _; omega
        clear h1 h2 h3 h4
        go_loopg [] (s.size - q) (fun g wi => ∃ j, q ≤ j ∧ j ≤ s.size ∧ g = s.size - j ∧ Hid (Mil.skip true (s.data.toList.drop j) = Mil.skip false (s.data.toList.drop p)) ∧ Hid (Rd wi b s j n k tp x v) ∧ Hid (Kp b w wi))
        case atStart => exact ⟨q, Nat.le_refl _, hq, rfl, by rw [← HS.out, drop_at hlt]; exact skip_hash H35.out, HR.out.drewN _, HK.out.drewN _⟩
        case round =>
          obtain ⟨j, hqj, hj, hg2, HS2, HR2, HK2⟩ := hrel
          have HG2 : Hid (gk = s.size - j) := hg2
          clear hg2 c0 c1 f1
          have c0 := HR2.out.c0
          have c1 := HR2.out.c1
          have f1 := HR2.out.fz 1
          by_cases hjl : j < s.size
          · by_cases hnl : s[j].toNat = 10
            · have hb : ((s[j].toNat : Int) != 10) = false := by simp; omega
              have HN : Hid (s[j].toNat = 10) := hnl
              clear hnl
              go_wp2
              go_quiet (fail)
              go_wp2
              have hne : j ≠ q := fun e => by subst e; have := HN.out; have := H35.out; omega
              go_roundg (s.size - j)
              case measure => have := HG.out; omega
              case rel => exact ⟨j, by omega, hj, rfl, by rw [← HS2.out, drop_at hjl]; exact (skip_nl HN.out).symm, HR2.out.drewN _, HK2.out.drewN _⟩
            · have hb : ((s[j].toNat : Int) != 10) = true := by simp; omega
              have HN : Hid (s[j].toNat ≠ 10) := hnl
              clear hnl
              go_wp2
              go_quiet (fail)
              go_wp2
              go_roundg (s.size - (j + 1))
              case measure => have := HG2.out; omega
              case rel => exact ⟨j + 1, by omega, by omega, rfl, by rw [← HS2.out, drop_at hjl]; exact (skip_more HN.out).symm, (HR2.out.drewN _).step1, (HK2.out.drewN _).setCell _ _⟩
          · have hd : decide ((j : Int) < (s.size : Int)) = false := by simp; omega
            go_wp2
            go_quiet (fail)
            go_wp2
            go_roundg (s.size - j)
            case measure => have := HG.out; omega
            case rel => exact ⟨j, by omega, hj, rfl, by rw [← HS2.out, drop_end (by omega)]; rfl, HR2.out.drewN _, HK2.out.drewN _⟩
      · rw [Exit.noGoto_normal]
        go_end0
        rename_i h1 h2 h3 h4
        refine ⟨rfl, q, hpq, hq, ?_, HR.out.drewN _, HK.out.drewN _⟩
        simp at h1 h2 h3 h4
        rw [← HS.out, drop_at hlt, Mil.skip, if_neg (by omega), if_neg (by omega)]
    · go_wp2
      go_quiet (fail)
      go_wp2
      rw [Exit.noGoto_normal]
      go_end0
      refine ⟨rfl, q, hpq, hq, ?_, HR.out.drewN nq, HK.out.drewN nq⟩
      rw [← HS.out, drop_end (by omega)]; rfl

end Go.Proofs.YtkngcglmfbdblaaGreatDoor
