/-
  handing, walked: a script's steps on one register.
-/
import Derived.Test.YtgaepakdhdfdfaaDoorUf
namespace Go.Proofs.YtgaepakdhdfdfaaDoor
open Go.RowKit

/-- The steps of a script, as they lie. -/
def Sc (w : World) (p : Option Addr) (n : Nat) : Prop := ∀ j, j < n → ∃ (sb so : Nat) (k A B C : Int) (s : ByteArray) (L : Value) (o : Option Addr) (m c : Nat), p = some ⟨sb, so, none⟩ ∧ -9223372036854775808 ≤ A ∧ A ≤ 9223372036854775807 ∧ m ≤ 9223372036854775807 ∧
  w.cell? ⟨sb, so + j * 7, none⟩ = some (.int .i64 k) ∧ w.cell? ⟨sb, so + j * 7 + 1, none⟩ = some (.int .i64 A) ∧ w.cell? ⟨sb, so + j * 7 + 2, none⟩ = some (.int .i64 B) ∧ w.cell? ⟨sb, so + j * 7 + 3, none⟩ = some (.int .i64 C) ∧
  w.cell? ⟨sb, so + j * 7 + 4, none⟩ = some (.string s) ∧ w.cell? ⟨sb, so + j * 7 + 5, none⟩ = some L ∧ w.cell? ⟨sb, so + j * 7 + 6, none⟩ = some (.slice o m c)
theorem Sc.fr {own : Nat → Prop} {w w' : World} {p : Option Addr} {n : Nat} (h : Sc w p n) (k : Fr own w w') (hs : ∀ i, ¬ own i) : Sc w' p n := fun j hj => by
  obtain ⟨sb, so, k', A, B, C, s, L, o, m, c, h0, h1, h2, h3, q0, q1, q2, q3, q4, q5, q6⟩ := h j hj
  exact ⟨sb, so, k', A, B, C, s, L, o, m, c, h0, h1, h2, h3, k.held q0 (hs _), k.held q1 (hs _), k.held q2 (hs _), k.held q3 (hs _), k.held q4 (hs _), k.held q5 (hs _), k.held q6 (hs _)⟩

theorem payload_zero (hb n : Nat) (hn : n ≤ 40) (w : World) (c0 : w.cell? ⟨hb, 0, none⟩ = some (.int .i64 n)) :
    Calls Tryd.prog 13 #[.pointer (some ⟨hb, 0, none⟩), .int .i64 0] w fun e w' => ∃ v, e = .returned v ∧ w'.ownsRow w.heap.size 33 1 v n (vals payN 0 n) ∧ Below w.heap.size w w' := payload_any hb n 0 hn (by decide) w c0
theorem hand_below {own : Nat → Prop} {hb : Nat} {w w1 w2 : World} (h : Below w.heap.size w w1) (k : Fr (fun i => own i ∨ i = hb) w1 w2) (ho : ∀ i, own i → w.heap.size ≤ i) (hh : w.heap.size ≤ hb) : Below w.heap.size w w2 := by
  have F := (Fr.of_below (own := fun i => own i ∨ i = hb) h).trans k (fun _ _ e => e)
  refine F.to_below (fun i hi e => ?_)
  rcases e with e | e
  · have := ho i e
    omega
  · omega
theorem Hh.put0 {w : World} {hb n b e f l : Nat} (h : Hh w hb n b e f l) (x : Nat) : Hh (w.setCell ⟨hb, 0, none⟩ (.int .i64 x)) hb x b e f l :=
  ⟨same_cell h.c0, other_cell h.c1 (by decide), other_cell h.c2 (by decide), other_cell h.c3 (by decide), other_cell h.c4 (by decide), other_cell h.c5 (by decide), other_cell h.c6 (by decide), fun o => by simp [h.fz]⟩
set_option maxHeartbeats 4000000 in
theorem handing_any {J : RJ} {a : Nat → Addr} (w : World) (S : Spec J a w.heap.size) (R : Rg a w.heap.size w) (p : Option Addr) (n c : Nat) (hn : n ≤ 4398046511103) (hs : Sc w p n) :
    Calls Tryd.prog 6 #[.slice p n c] w fun E w' => Below w.heap.size w w' ∧ ∃ hb q b e f l, E = .returned (.tuple #[.pointer (some ⟨hb, 0, none⟩), .bool true]) ∧ Hh w' hb q b e f l := by
  have HS : Hid (Spec J a w.heap.size) := S
  have HR : Hid (Rg a w.heap.size w) := R
  have HC : Hid (Sc w p n) := hs
  clear S R hs
  have HB0 : Hid (Below w.heap.size w (w.alloc (.cells #[.int .i64 3, .int .i64 0, .int .i64 0, .int .i64 0, .int .i64 0, .bool true, .bool true] 28))) := (Below.refl _ _).alloc (Nat.le_refl _) _
  have HH0 : Hid (Hh (w.alloc (.cells #[.int .i64 3, .int .i64 0, .int .i64 0, .int .i64 0, .int .i64 0, .bool true, .bool true] 28)) w.heap.size 3 0 0 0 0) := by
    have hr := heap_alloc_new w (.cells #[.int .i64 3, .int .i64 0, .int .i64 0, .int .i64 0, .int .i64 0, .bool true, .bool true] 28)
    exact ⟨(cell_of_row _ _ 0 _ _ _ hr).trans rfl, (cell_of_row _ _ 1 _ _ _ hr).trans rfl, (cell_of_row _ _ 2 _ _ _ hr).trans rfl, (cell_of_row _ _ 3 _ _ _ hr).trans rfl, (cell_of_row _ _ 4 _ _ _ hr).trans rfl, (cell_of_row _ _ 5 _ _ _ hr).trans rfl, (cell_of_row _ _ 6 _ _ _ hr).trans rfl, fun o => by unfold World.frozen?; rw [hr]; simp⟩
  go_enter Tryd.func6, Tryd.ntmps6
  go_wp2_with fail
  generalize w.alloc (.cells #[.int .i64 3, .int .i64 0, .int .i64 0, .int .i64 0, .int .i64 0, .bool true, .bool true] 28) = W at HB0 HH0 ⊢
  go_loopg [4, 6] n (fun gk s4 s6 wr => ∃ j : Nat, j ≤ n ∧ s4 = .int .i64 1 ∧ s6 = .int .i64 j ∧ gk = n - j ∧ wr = W)
  case atStart => exact ⟨0, Nat.zero_le _, rfl, rfl, rfl, rfl⟩
  case round =>
    obtain ⟨j, hj, rfl, rfl, hg, rfl⟩ := hrel
    have HG : Hid (gk = n - j) := hg
    clear hg
    by_cases hlt : j < n
    · have SC := HC.out.fr (Fr.of_below (own := fun _ => False) HB0.out) (fun _ e => e) j hlt
      obtain ⟨sb, so, k, A, B, C, tx, L, u, um, uc, rfl, hA1, hA2, hum, s0, s1, s2, s3, s4, s5, s6⟩ := SC
      clear s2 s3 s4 s5
      by_cases hk : k = 13
      · subst hk
        have c0 := HH0.out.c0
        have f0 := HH0.out.fz 0
        go_wp2_with fail
        refine (pick_any _ 3 (by decide) (by decide) (by unfold wrap64; omega) (by unfold wrap64; omega) _).mono ?_
        rintro E w1 ⟨⟨k1, hk1, rfl⟩, hw1⟩
        rw [hw1]
        clear hw1 w1
        go_wp2_with fail
        refine (pick_any _ 40 (by decide) (by decide) (by omega) (by omega) _).mono ?_
        rintro E w1 ⟨⟨k2, hk2, rfl⟩, hw1⟩
        rw [hw1]
        clear hw1 w1 s0 s1 s6
        have HK12 : Hid (k1 < 3 ∧ k2 < 40) := ⟨hk1, hk2⟩
        have e1 : Hid ((1 : Int) + (k1 : Int) = ((1 + k1 : Nat) : Int)) := by show _ = _; omega
        have e2 : Hid ((1 : Int) + (k2 : Int) = ((1 + k2 : Nat) : Int)) := by show _ = _; omega
        have HH1 : Hid (Hh (wr.setCell ⟨w.heap.size, 0, none⟩ (.int .i64 ((1 : Int) + (k2 : Int)))) w.heap.size (1 + k2) 0 0 0 0) := by rw [e2.out]; exact HH0.out.put0 (1 + k2)
        have HB1 : Hid (Below w.heap.size w (wr.setCell ⟨w.heap.size, 0, none⟩ (.int .i64 ((1 : Int) + (k2 : Int))))) := HB0.out.setCell (p := ⟨w.heap.size, 0, none⟩) (Nat.le_refl _) _
        by_cases h3 : k1 = 2
        · have i3 : ((1 : Int) + (k1 : Int) == 3) = true := by simp; omega
          have c0b := HH1.out.c0
          have f0b := HH1.out.fz 0
          go_wp2_with fail
          have HK : Hid (1 ≤ 3 ∧ 3 ≤ 3 ∧ 1 ≤ 1 ∧ 1 ≤ 40 ∧ (3 = 3 → 1 = 1)) := ⟨by decide, by decide, by decide, by decide, fun _ => rfl⟩
          have H3 : Hid (Hh ((wr.setCell ⟨w.heap.size, 0, none⟩ (.int .i64 ((1 : Int) + (k2 : Int)))).setCell ⟨w.heap.size, 0, none⟩ (.int .i64 1)) w.heap.size 1 0 0 0 0) := HH1.out.put0 1
          have B3 : Hid (Below w.heap.size w ((wr.setCell ⟨w.heap.size, 0, none⟩ (.int .i64 ((1 : Int) + (k2 : Int)))).setCell ⟨w.heap.size, 0, none⟩ (.int .i64 1))) := HB1.out.setCell (p := ⟨w.heap.size, 0, none⟩) (Nat.le_refl _) _
          clear c0b f0b HH1 HB1 HG HK12
          generalize ((wr.setCell ⟨w.heap.size, 0, none⟩ (.int .i64 ((1 : Int) + (k2 : Int)))).setCell ⟨w.heap.size, 0, none⟩ (.int .i64 1)) = W3 at H3 B3 ⊢
          have c0 := H3.out.c0
          refine (payload_zero w.heap.size (1) HK.out.2.2.2.1 W3 c0).mono ?_
          rintro E w4 ⟨v4, rfl, O4, hb4⟩
          have H4 : Hid (Hh w4 w.heap.size (1) 0 0 0 0) := H3.out.below hb4
          have B4 : Hid (Below w.heap.size w w4) := below_step B3.out hb4
          have V4 : Hid (Ls w4 v4 (1) (vals payN 0 (1))) := Ls.of_own O4 HK.out.2.2.1
          clear O4 hb4 c0 H3 B3
          go_wp2_with fail
          refine (register_any HS.out (3) (1) payN v4 w4 HK.out.1 HK.out.2.1 HK.out.2.2.1 HK.out.2.2.2.1 (fun _ => rfl) (HR.out.below B4.out) V4.out).mono ?_
          rintro E w5 ⟨r, own, rfl, ho, hb5, hJ⟩
          have T5 : Hid (St J a w.heap.size own w5 r w.heap.size (1) 0 0 0 0 0 0) := ⟨hJ, H4.out.below hb5, (HR.out.below B4.out).below hb5, fun e => by have := ho _ e; have := lt_of_cell H4.out.c0; dsimp only at this; omega, fun i hi => Nat.le_trans B4.out.size (ho i hi), Nat.le_refl _⟩
          have B5 : Hid (Below w.heap.size w w5) := below_step B4.out hb5
          clear ho hb5 hJ H4 V4 B4
          go_wp2_with fail
          go_loopg [9] n (fun gk s9 wr => ∃ (j : Nat) (own : Nat → Prop) (b e f l wl rl : Nat), j ≤ n ∧ s9 = .int .i64 j ∧ gk = n - j ∧ b ≤ j ∧ Hid (St J a w.heap.size own wr r w.heap.size (1) b e f l wl rl) ∧ Hid (Below w.heap.size w wr))
          case atStart => exact ⟨0, own, 0, 0, 0, 0, 0, 0, Nat.zero_le _, rfl, rfl, Nat.le_refl _, T5, B5⟩
          case round =>
            obtain ⟨j, own, b, e, f, l, wl, rl, hj, rfl, hg, hbj, HT, HB⟩ := hrel
            have HG : Hid (gk = n - j ∧ b ≤ j) := ⟨hg, hbj⟩
            clear hg T5 B5
            by_cases hlt : j < n
            · have SC := HC.out.fr (Fr.of_below (own := fun _ => False) HB.out) (fun _ e => e) j hlt
              obtain ⟨sb, so, k, A, B, C, tx, L, u, um, uc, hp, _, _, _, s0, s1, s2, s3, s4, s5, s6⟩ := SC
              cases hp
              have h60 : (j : Int) < 1152921504606846976 := by omega
              go_wp2_with fail
              refine (hand_any HS.out HT.out HK.out.2.2.1 HK.out.2.2.2.1 (by omega) k _ _ _ tx L _).mono ?_
              rintro E w6 ⟨rfl, own6, b6, e6, f6, l6, wl6, rl6, hb6, T6, ho6, F6⟩
              have HT6 : Hid (St J a w.heap.size own6 w6 r w.heap.size (1) b6 e6 f6 l6 wl6 rl6) := T6
              have HB6 : Hid (Below w.heap.size w w6) := hand_below HB.out F6 HT.out.ob (Nat.le_refl _)
              have HLE : Hid (b6 ≤ j + 1) := by have := HG.out.2; show _ ≤ _; omega
              clear T6 ho6 F6 hb6 s0 s1 s2 s3 s4 s5 s6
              go_wp2
              go_roundg (n - (j + 1))
              case measure => have := HG.out.1; omega
              case rel => exact ⟨j + 1, own6, b6, e6, f6, l6, wl6, rl6, hlt, by go_num, rfl, HLE.out, HT6, HB6⟩
            · go_wp2
              refine bodyPost_ret (v := .tuple #[.pointer (some ⟨w.heap.size, 0, none⟩), .bool true]) (by simp [results, Tryd.results6, go_sem]) rfl ⟨HB.out, w.heap.size, _, b, e, f, l, rfl, HT.out.h⟩
        · have i3 : ((1 : Int) + (k1 : Int) == 3) = false := by simp; omega
          go_wp2_with fail
          have HK : Hid (1 ≤ 1 + k1 ∧ 1 + k1 ≤ 3 ∧ 1 ≤ 1 + k2 ∧ 1 + k2 ≤ 40 ∧ (1 + k1 = 3 → 1 + k2 = 1)) := ⟨by omega, by omega, by omega, by omega, fun e => by omega⟩
          have H3 := HH1
          have B3 := HB1
          clear HH1 HB1 HG HK12 HH0 HB0
          generalize wr.setCell ⟨w.heap.size, 0, none⟩ (.int .i64 ((1 : Int) + (k2 : Int))) = W3 at H3 B3 ⊢
          have c0 := H3.out.c0
          refine (payload_zero w.heap.size (1 + k2) HK.out.2.2.2.1 W3 c0).mono ?_
          rintro E w4 ⟨v4, rfl, O4, hb4⟩
          have H4 : Hid (Hh w4 w.heap.size (1 + k2) 0 0 0 0) := H3.out.below hb4
          have B4 : Hid (Below w.heap.size w w4) := below_step B3.out hb4
          have V4 : Hid (Ls w4 v4 (1 + k2) (vals payN 0 (1 + k2))) := Ls.of_own O4 HK.out.2.2.1
          clear O4 hb4 c0 H3 B3
          go_wp2_with fail
          rw [e1.out]
          refine (register_any HS.out (1 + k1) (1 + k2) payN v4 w4 HK.out.1 HK.out.2.1 HK.out.2.2.1 HK.out.2.2.2.1 HK.out.2.2.2.2 (HR.out.below B4.out) V4.out).mono ?_
          rintro E w5 ⟨r, own, rfl, ho, hb5, hJ⟩
          have T5 : Hid (St J a w.heap.size own w5 r w.heap.size (1 + k2) 0 0 0 0 0 0) := ⟨hJ, H4.out.below hb5, (HR.out.below B4.out).below hb5, fun e => by have := ho _ e; have := lt_of_cell H4.out.c0; dsimp only at this; omega, fun i hi => Nat.le_trans B4.out.size (ho i hi), Nat.le_refl _⟩
          have B5 : Hid (Below w.heap.size w w5) := below_step B4.out hb5
          clear ho hb5 hJ H4 V4 B4
          go_wp2_with fail
          go_loopg [9] n (fun gk s9 wr => ∃ (j : Nat) (own : Nat → Prop) (b e f l wl rl : Nat), j ≤ n ∧ s9 = .int .i64 j ∧ gk = n - j ∧ b ≤ j ∧ Hid (St J a w.heap.size own wr r w.heap.size (1 + k2) b e f l wl rl) ∧ Hid (Below w.heap.size w wr))
          case atStart => exact ⟨0, own, 0, 0, 0, 0, 0, 0, Nat.zero_le _, rfl, rfl, Nat.le_refl _, T5, B5⟩
          case round =>
            obtain ⟨j, own, b, e, f, l, wl, rl, hj, rfl, hg, hbj, HT, HB⟩ := hrel
            have HG : Hid (gk = n - j ∧ b ≤ j) := ⟨hg, hbj⟩
            clear hg T5 B5
            by_cases hlt : j < n
            · have SC := HC.out.fr (Fr.of_below (own := fun _ => False) HB.out) (fun _ e => e) j hlt
              obtain ⟨sb, so, k, A, B, C, tx, L, u, um, uc, hp, _, _, _, s0, s1, s2, s3, s4, s5, s6⟩ := SC
              cases hp
              have h60 : (j : Int) < 1152921504606846976 := by omega
              go_wp2_with fail
              refine (hand_any HS.out HT.out HK.out.2.2.1 HK.out.2.2.2.1 (by omega) k _ _ _ tx L _).mono ?_
              rintro E w6 ⟨rfl, own6, b6, e6, f6, l6, wl6, rl6, hb6, T6, ho6, F6⟩
              have HT6 : Hid (St J a w.heap.size own6 w6 r w.heap.size (1 + k2) b6 e6 f6 l6 wl6 rl6) := T6
              have HB6 : Hid (Below w.heap.size w w6) := hand_below HB.out F6 HT.out.ob (Nat.le_refl _)
              have HLE : Hid (b6 ≤ j + 1) := by have := HG.out.2; show _ ≤ _; omega
              clear T6 ho6 F6 hb6 s0 s1 s2 s3 s4 s5 s6
              go_wp2
              go_roundg (n - (j + 1))
              case measure => have := HG.out.1; omega
              case rel => exact ⟨j + 1, own6, b6, e6, f6, l6, wl6, rl6, hlt, by go_num, rfl, HLE.out, HT6, HB6⟩
            · go_wp2
              refine bodyPost_ret (v := .tuple #[.pointer (some ⟨w.heap.size, 0, none⟩), .bool true]) (by simp [results, Tryd.results6, go_sem]) rfl ⟨HB.out, w.heap.size, _, b, e, f, l, rfl, HT.out.h⟩
      · have ik : (k == 13) = false := by simpa using hk
        clear hk
        go_wp2
        go_roundg (n - (j + 1))
        case measure => have := HG.out; omega
        case rel => exact ⟨j + 1, hlt, rfl, by go_num, rfl, rfl⟩
    · go_wp2_with fail
      have HK : Hid (1 ≤ 1 ∧ 1 ≤ 3 ∧ 1 ≤ 3 ∧ 3 ≤ 40 ∧ (1 = 3 → 3 = 1)) := ⟨by decide, by decide, by decide, by decide, by decide⟩
      have H3 : Hid (Hh wr w.heap.size 3 0 0 0 0) := HH0
      have B3 : Hid (Below w.heap.size w wr) := HB0
      clear HH0 HB0 HG
      generalize wr = W3 at H3 B3 ⊢
      have c0 := H3.out.c0
      refine (payload_zero w.heap.size (3) HK.out.2.2.2.1 W3 c0).mono ?_
      rintro E w4 ⟨v4, rfl, O4, hb4⟩
      have H4 : Hid (Hh w4 w.heap.size (3) 0 0 0 0) := H3.out.below hb4
      have B4 : Hid (Below w.heap.size w w4) := below_step B3.out hb4
      have V4 : Hid (Ls w4 v4 (3) (vals payN 0 (3))) := Ls.of_own O4 HK.out.2.2.1
      clear O4 hb4 c0 H3 B3
      go_wp2_with fail
      refine (register_any HS.out (1) (3) payN v4 w4 HK.out.1 HK.out.2.1 HK.out.2.2.1 HK.out.2.2.2.1 HK.out.2.2.2.2 (HR.out.below B4.out) V4.out).mono ?_
      rintro E w5 ⟨r, own, rfl, ho, hb5, hJ⟩
      have T5 : Hid (St J a w.heap.size own w5 r w.heap.size (3) 0 0 0 0 0 0) := ⟨hJ, H4.out.below hb5, (HR.out.below B4.out).below hb5, fun e => by have := ho _ e; have := lt_of_cell H4.out.c0; dsimp only at this; omega, fun i hi => Nat.le_trans B4.out.size (ho i hi), Nat.le_refl _⟩
      have B5 : Hid (Below w.heap.size w w5) := below_step B4.out hb5
      clear ho hb5 hJ H4 V4 B4
      go_wp2_with fail
      go_loopg [9] n (fun gk s9 wr => ∃ (j : Nat) (own : Nat → Prop) (b e f l wl rl : Nat), j ≤ n ∧ s9 = .int .i64 j ∧ gk = n - j ∧ b ≤ j ∧ Hid (St J a w.heap.size own wr r w.heap.size (3) b e f l wl rl) ∧ Hid (Below w.heap.size w wr))
      case atStart => exact ⟨0, own, 0, 0, 0, 0, 0, 0, Nat.zero_le _, rfl, rfl, Nat.le_refl _, T5, B5⟩
      case round =>
        obtain ⟨j, own, b, e, f, l, wl, rl, hj, rfl, hg, hbj, HT, HB⟩ := hrel
        have HG : Hid (gk = n - j ∧ b ≤ j) := ⟨hg, hbj⟩
        clear hg T5 B5
        by_cases hlt : j < n
        · have SC := HC.out.fr (Fr.of_below (own := fun _ => False) HB.out) (fun _ e => e) j hlt
          obtain ⟨sb, so, k, A, B, C, tx, L, u, um, uc, hp, _, _, _, s0, s1, s2, s3, s4, s5, s6⟩ := SC
          cases hp
          have h60 : (j : Int) < 1152921504606846976 := by omega
          go_wp2_with fail
          refine (hand_any HS.out HT.out HK.out.2.2.1 HK.out.2.2.2.1 (by omega) k _ _ _ tx L _).mono ?_
          rintro E w6 ⟨rfl, own6, b6, e6, f6, l6, wl6, rl6, hb6, T6, ho6, F6⟩
          have HT6 : Hid (St J a w.heap.size own6 w6 r w.heap.size (3) b6 e6 f6 l6 wl6 rl6) := T6
          have HB6 : Hid (Below w.heap.size w w6) := hand_below HB.out F6 HT.out.ob (Nat.le_refl _)
          have HLE : Hid (b6 ≤ j + 1) := by have := HG.out.2; show _ ≤ _; omega
          clear T6 ho6 F6 hb6 s0 s1 s2 s3 s4 s5 s6
          go_wp2
          go_roundg (n - (j + 1))
          case measure => have := HG.out.1; omega
          case rel => exact ⟨j + 1, own6, b6, e6, f6, l6, wl6, rl6, hlt, by go_num, rfl, HLE.out, HT6, HB6⟩
        · go_wp2
          refine bodyPost_ret (v := .tuple #[.pointer (some ⟨w.heap.size, 0, none⟩), .bool true]) (by simp [results, Tryd.results6, go_sem]) rfl ⟨HB.out, w.heap.size, _, b, e, f, l, rfl, HT.out.h⟩

end Go.Proofs.YtgaepakdhdfdfaaDoor
