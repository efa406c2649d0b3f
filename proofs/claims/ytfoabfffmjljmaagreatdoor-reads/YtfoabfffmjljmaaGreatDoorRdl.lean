/-
  The law, walked.
-/
import Derived.Test.YtfoabfffmjljmaaGreatDoorRds
import Derived.Test.YtfoabfffmjljmaaGreatDoorPap
namespace Go.Proofs.YtfoabfffmjljmaaGreatDoor
open Go.RowKit

set_option maxRecDepth 100000 in
set_option maxHeartbeats 1000000 in
theorem law_some (al a : Nat → Addr) (w : World) (h : All al a w) (b off n c : Nat) (hc : ∀ j, j < n → ∃ s, w.cell? ⟨b, off + j * 7 + 4, none⟩ = some (.string s)) :
    Calls Tryz.prog 3 #[.slice (some ⟨b, off, none⟩) n c] w fun e w' => e = .returned (.bool true) ∧ Below w.heap.size w w' := by
  have H : Hid (All al a w) := h
  have HC : Hid (∀ j, j < n → ∃ s, w.cell? ⟨b, off + j * 7 + 4, none⟩ = some (.string s)) := hc
  clear h hc
  go_enter Tryz.func3, Tryz.ntmps3
  go_wp2_with fail
  refine (reads_small al a _ H.out).mono ?_
  rintro e w1 ⟨rfl, hb1⟩
  have H1 : Hid (All al a w1) := H.out.below hb1
  have HB1 : Hid (Below w.heap.size w w1) := hb1
  clear hb1
  go_wp2_with fail
  go_loopg [4] n (fun gk s4 wr => ∃ j : Nat, j ≤ n ∧ s4 = .int .i64 j ∧ gk = n - j ∧ Hid (Below w.heap.size w wr))
  case atStart => exact ⟨0, Nat.zero_le _, rfl, rfl, HB1⟩
  case round =>
    obtain ⟨j, hj, rfl, hgk, HBj⟩ := hrel
    have HG : Hid (gk = n - j) := hgk
    have HJ : Hid (All al a wr) := H.out.below HBj.out
    clear hgk H1 HB1
    by_cases hlt : j < n
    · by_cases h60 : (j : Int) < 1152921504606846976
      · obtain ⟨s, hs⟩ := HC.out j hlt
        have hcj : wr.cell? ⟨b, off + j * 7 + 4, none⟩ = some (.string s) := (HBj.out.cell (lt_of_cell hs)).trans hs
        have HLT : Hid (j < n) := hlt
        clear hs
        go_wp2_with fail
        refine (plainParse_any al a HJ.out.s s _ HJ.out.p.l HJ.out.e).mono ?_
        rintro e w2 ⟨hb2, ⟨l, t, rfl, hp, hT⟩ | ⟨f, at_, hf, rfl, hno, _⟩⟩
        · have H2 : Hid (All al a w2) := HJ.out.below hb2
          have HB2 : Hid (Below w.heap.size w w2) := below_step HBj.out hb2
          have HT : Hid (TreeAt w2 l t) := hT
          have HP : Hid (Mil.Parsed s.data.toList l) := hp
          clear hb2 hp hT hcj HJ
          go_wp2_with fail
          have HA2 : Hid (Below w2.heap.size w2 (w2.alloc (.cells #[.int .i64 0, .int .i64 0] 26))) := (Below.refl _ _).alloc (Nat.le_refl _) _
          refine (print_tree al a l _ HP.out t _ (H2.out.below HA2.out) (HT.out.below HA2.out)).mono ?_
          rintro e w3 ⟨rfl, hb3⟩
          have H3 : Hid (All al a w3) := (H2.out.below HA2.out).below hb3
          have HB3 : Hid (Below w.heap.size w w3) := below_step (below_step HB2.out HA2.out) hb3
          clear hb3 HA2 H2 HT HB2
          by_cases h4 : (Mil.print l).length ≤ 4000
          · have HR : Hid (Mil.Parsed (bs (Mil.print l)).data.toList l) := Mil.reads_again HP.out h4
            have z1 : ¬ (4000 : Int) < ((bs (Mil.print l)).size : Int) := by rw [bs_size]; omega
            generalize hS : bs (Mil.print l) = S at HR z1 ⊢
            have HSE : Hid (bs (Mil.print l) = S) := hS
            have z2 : ((4000 : Int) < (S.size : Int)) = False := eq_false z1
            have z3 : (S.size : Int) ≤ 4000 := by omega
            have z4 : S.size ≤ 4000 := by omega
            have H60 : Hid ((j : Int) < 1152921504606846976) := h60
            clear h4 hS h60 hlt
            go_wp2_with fail
            refine (plainParse_any al a H3.out.s S _ H3.out.p.l H3.out.e).mono ?_
            rintro e w4 ⟨hb4, ⟨l', t', rfl, hp', hT'⟩ | ⟨f, at_, hf, rfl, hno, _⟩⟩
            · obtain rfl := Mil.Parsed.unique hp' HR.out
              have H4 : Hid (All al a w4) := H3.out.below hb4
              have HB4 : Hid (Below w.heap.size w w4) := below_step HB3.out hb4
              have HT4 : Hid (TreeAt w4 l' t') := hT'
              clear hb4 hp' hT' HB3 H3
              go_wp2_with fail
              have HA4 : Hid (Below w4.heap.size w4 (w4.alloc (.cells #[.int .i64 0, .int .i64 0] 26))) := (Below.refl _ _).alloc (Nat.le_refl _) _
              refine (print_tree al a l' _ HR.out t' _ (H4.out.below HA4.out) (HT4.out.below HA4.out)).mono ?_
              rintro e w5 ⟨rfl, hb5⟩
              rw [HSE.out]
              have HB5 : Hid (Below w.heap.size w w5) := below_step (below_step HB4.out HA4.out) hb5
              have h60 := H60.out
              clear hb5 HA4 HT4 HB4 H4
              go_wp2
              go_roundg (n - (j + 1))
              case measure => have := HG.out; have := HLT.out; omega
              case rel => exact ⟨j + 1, HLT.out, by go_num, rfl, HB5⟩
            · exact absurd HR.out (hno _)
          · have z1 : (4000 : Int) < ((bs (Mil.print l)).size : Int) := by rw [bs_size]; omega
            clear h4
            go_wp2
            go_roundg (n - (j + 1))
            case measure => have := HG.out; have := HLT.out; omega
            case rel => exact ⟨j + 1, HLT.out, by go_num, rfl, HB3⟩
        · have HB2 : Hid (Below w.heap.size w w2) := below_step HBj.out hb2
          have HB3 : Hid (Below w.heap.size w (w2.alloc (.cells #[.int .i64 f, .int .i64 at_] 26))) := below_step HB2.out ((Below.refl _ _).alloc (Nat.le_refl _) _)
          clear hb2 hno hcj HJ
          go_wp2
          go_roundg (n - (j + 1))
          case measure => have := HG.out; have := HLT.out; omega
          case rel => exact ⟨j + 1, HLT.out, by go_num, rfl, HB3⟩
      · go_wp2
        go_ret
        exact ⟨rfl, HBj.out⟩
    · go_wp2
      go_ret
      exact ⟨rfl, HBj.out⟩

set_option maxRecDepth 100000 in
set_option maxHeartbeats 1000000 in
theorem law_zero (al a : Nat → Addr) (w : World) (h : All al a w) (o : Option Addr) (c : Nat) :
    Calls Tryz.prog 3 #[.slice o 0 c] w fun e w' => e = .returned (.bool true) ∧ Below w.heap.size w w' := by
  have H : Hid (All al a w) := h
  clear h
  go_enter Tryz.func3, Tryz.ntmps3
  go_wp2_with fail
  refine (reads_small al a _ H.out).mono ?_
  rintro e w1 ⟨rfl, hb1⟩
  have HB1 : Hid (Below w.heap.size w w1) := hb1
  clear hb1 H
  go_wp2_with fail
  refine wp_loop_rounds 1 ?_
  rw [rounds_succ]
  go_wp2
  go_ret
  exact ⟨rfl, HB1.out⟩

end Go.Proofs.YtfoabfffmjljmaaGreatDoor
