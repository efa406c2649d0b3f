/-
  handed, walked: of each kind a payload that was written is read.
-/
import Derived.Test.YtgaepakdhdfdfaaDoorUg
namespace Go.Proofs.YtgaepakdhdfdfaaDoor
open Go.RowKit

/-- The payloads that handed hands over. -/
def payH (k _ : Nat) : Nat := 5 + k
/-- A register under way, behind a world. -/
structure Hx (J : RJ) (u : World) (own : Nat → Prop) (w : World) (r b e f l wl rl : Nat) : Prop where
  j : J own w r payH 1 b e f l wl rl
  ob : ∀ i, own i → u.heap.size ≤ i
  bl : Below u.heap.size u w
theorem Hx.below {J : RJ} {a : Nat → Addr} {u : World} (S : Spec J a u.heap.size) {own : Nat → Prop} {w w' : World} {r b e f l wl rl : Nat} (h : Hx J u own w r b e f l wl rl) (k : Below w.heap.size w w') : Hx J u own w' r b e f l wl rl :=
  ⟨S.kept h.j k.size (fun i hi => k.block i (S.own h.j i hi)), h.ob, below_step h.bl k⟩
theorem Hx.wp {J : RJ} {u : World} {own : Nat → Prop} {w w' : World} {r b e f l wl rl b' e' f' l' wl' rl' : Nat} (h : Hx J u own w r b e f l wl rl) (k : Wp J own r payH 1 b' e' f' l' wl' rl' w w') : ∃ own', Hx J u own' w' r b' e' f' l' wl' rl' := by
  obtain ⟨own', h1, h2, h3⟩ := k
  refine ⟨own', h3, fun i hi => ?_, ?_⟩
  · rcases h1 i hi with c | c
    · exact h.ob i c
    · exact Nat.le_trans h.bl.size c
  · have F := (Fr.of_below (own := own) h.bl).trans h2 (fun _ _ e => e)
    exact F.to_below (fun i hi e => by have := h.ob i e; omega)
theorem one_list (w : World) (k : Nat) : Ls (w.alloc (.cells #[.int .u64 ((payH k 0 : Nat) : Int)] 33)) (.slice (some ⟨w.heap.size, 0, none⟩) 1 1) 1 (vals payH k 1) :=
  ⟨w.heap.size, 0, 1, rfl, rfl, fun j u hu => by
    match j, hu with
    | 0, hu =>
      have e : u = .int .u64 ((payH k 0 : Nat) : Int) := by
        have := hu
        simp [vals] at this
        exact this.symm
      subst e
      simp, vals_one _ _ _⟩
set_option maxRecDepth 100000 in
set_option maxHeartbeats 4000000 in
theorem handed_any {J : RJ} {a : Nat → Addr} (w : World) (S : Spec J a w.heap.size) (R : Rg a w.heap.size w) :
    Calls Tryd.prog 5 #[] w fun E w' => E = .returned (.bool true) ∧ Below w.heap.size w w' := by
  have HS : Hid (Spec J a w.heap.size) := S
  have HR : Hid (Rg a w.heap.size w) := R
  clear S R
  go_enter Tryd.func5, Tryd.ntmps5
  go_wp2_with fail
  go_loopg [1] 4 (fun g s1 wr => ∃ kd : Nat, 1 ≤ kd ∧ kd ≤ 4 ∧ s1 = .int .i64 kd ∧ g = 5 - kd ∧ Hid (Below w.heap.size w wr))
  case atStart => exact ⟨1, by decide, by decide, rfl, rfl, Below.refl _ _⟩
  case round =>
    obtain ⟨kd, hk1, hk4, rfl, hg, HB⟩ := hrel
    have HG : Hid (gk = 5 - kd) := hg
    clear hg
    by_cases hlt : kd ≤ 3
    · have i3 : (kd : Int) ≤ 3 := by omega
      have i3' : ((3 : Int) < (kd : Int)) = False := by rw [eq_iff_iff, iff_false]; omega
      go_wp2_with fail
      have HB1 : Hid (Below w.heap.size w (wr.alloc (.cells #[.int .u64 5] 33))) := below_step HB.out ((Below.refl _ _).alloc (Nat.le_refl _) _)
      refine (register_any HS.out kd 1 payH _ _ hk1 hlt (by decide) (by decide) (fun _ => rfl) (HR.out.below HB1.out) (one_list wr 0)).mono ?_
      rintro E w1 ⟨r, own, rfl, ho, hb1, hJ⟩
      have X1 : Hid (Hx J w own w1 r 0 0 0 0 0 0) := ⟨hJ, fun i hi => Nat.le_trans HB1.out.size (ho i hi), below_step HB1.out hb1⟩
      clear ho hb1 hJ HB1
      go_wp2_with fail
      go_loopg [4] 3 (fun g s4 wv => ∃ (t : Nat) (own : Nat → Prop) (f l : Nat), t ≤ 3 ∧ s4 = .int .u64 ((5 : Int) + t) ∧ g = 3 - t ∧ l ≤ t ∧ Hid (Hx J w own wv r t t f l 0 0))
      case atStart => exact ⟨0, own, 0, 0, by decide, rfl, rfl, Nat.le_refl _, X1⟩
      case round =>
        obtain ⟨t, own, f, l, ht, rfl, hg2, hlt2, XT⟩ := hrel
        have HG2 : Hid (gk = 3 - t ∧ l ≤ t) := ⟨hg2, hlt2⟩
        clear hg2 X1
        by_cases h3 : t < 3
        · have i8 : (5 : Int) + (t : Int) < 8 := by omega
          go_wp2_with fail
          refine (pread_any HS.out XT.out.j (HR.out.below XT.out.bl) XT.out.ob).mono ?_
          rintro E w2 ⟨_, hfree⟩
          obtain ⟨rfl, x, hx0, hx1, hW⟩ := hfree rfl
          obtain ⟨own2, X2'⟩ := XT.out.wp hW
          have X2 : Hid (Hx J w own2 w2 r t t t l 0 x) := X2'
          have HX : Hid (0 < x ∧ x ≤ 4) := ⟨hx0, hx1⟩
          clear hfree hW X2' XT hx0 hx1
          go_wp2_with fail
          go_loopg [6, 7] x (fun g s6 s7 wq => ∃ (k rl : Nat) (own : Nat → Prop) (l : Nat), k + rl = x ∧ s7 = .int .i64 k ∧ g = rl ∧ ((0 < rl ∧ s6 = .slice none 0 0 ∧ l ≤ t ∧ Hid (Hx J w own wq r t t t l 0 rl)) ∨ (rl = 0 ∧ Hid (Ls wq s6 1 (vals payH t 1)) ∧ Hid (Hx J w own wq r t t t t 0 0))))
          case atStart => exact ⟨0, x, own2, l, by omega, rfl, rfl, Or.inl ⟨HX.out.1, rfl, HG2.out.2, X2⟩⟩
          case round =>
            obtain ⟨k, rl, own3, l3, hkr, rfl, hg3, hc⟩ := hrel
            have HG3 : Hid (gk = rl ∧ k + rl = x) := ⟨hg3, hkr⟩
            have i9 : (k : Int) < 9 := by have := HX.out; omega
            clear hg3 hkr X2
            rcases hc with ⟨hrl, rfl, hl3, X3⟩ | ⟨hrl, V3, X3⟩
            · go_wp2_with fail
              refine (pstepR_any HS.out X3.out.j (HR.out.below X3.out.bl) X3.out.ob (by decide) (by decide)).mono ?_
              rintro E w4 ⟨_, hgo, hend⟩
              by_cases h1 : rl = 1
              · obtain ⟨k', v, hf, hl, hkb, rfl, hV, hW⟩ := hend h1
                obtain rfl : k' = t := by omega
                obtain ⟨own4, X4'⟩ := X3.out.wp hW
                have X4 : Hid (Hx J w own4 w4 r k' k' k' k' 0 0) := X4'
                have V4 : Hid (Ls w4 v 1 (vals payH k' 1)) := hV
                have H1 : Hid (rl = 1) := h1
                obtain ⟨g4, o4, c4, rfl, _, _, _⟩ := hV
                clear hgo hend hW X4' hf hl hkb h1 X3
                go_wp2
                go_roundg 0
                case measure => have := HG3.out.1; have := H1.out; omega
                case rel => exact ⟨k + 1, 0, own4, 0, by have := HG3.out.2; have := H1.out; omega, by go_num, rfl, Or.inr ⟨rfl, V4, X4⟩⟩
              · obtain ⟨rfl, hW⟩ := hgo (by omega)
                obtain ⟨own4, X4'⟩ := X3.out.wp hW
                have X4 : Hid (Hx J w own4 w4 r t t t l3 0 (rl - 1)) := X4'
                have H1 : Hid (rl ≠ 1 ∧ 0 < rl ∧ l3 ≤ t) := ⟨h1, hrl, hl3⟩
                clear hgo hend hW X4' h1 X3 hrl hl3
                go_wp2
                go_roundg (rl - 1)
                case measure => have := HG3.out.1; have := H1.out; omega
                case rel => exact ⟨k + 1, rl - 1, own4, l3, by have := HG3.out.2; have := H1.out; omega, by go_num, rfl, Or.inl ⟨by have := H1.out; omega, rfl, H1.out.2.2, X4⟩⟩
            · obtain ⟨g4, o4, c4, rfl, _, hcell, _⟩ := V3.out
              have q0 : wr.cell? ⟨g4, o4, none⟩ = some (.int .u64 ((5 : Int) + t)) := by
                have h := hcell 0 _ (vals_at payH t 1 0 (by decide))
                have e : ((payH t 0 : Nat) : Int) = (5 : Int) + t := by unfold payH; omega
                rw [Nat.add_zero, e] at h
                exact h
              clear hcell V3 hrl HG3
              go_wp2_with fail
              have HP : Hid (((payH (t + 1) 0 : Nat) : Int) = (5 : Int) + t + 1) := by show _ = _; unfold payH; omega
              have X5 : Hid (Hx J w own3 (wr.alloc (.cells #[.int .u64 ((5 : Int) + t + 1)] 33)) r t t t t 0 0) := X3.out.below HS.out ((Below.refl _ _).alloc (Nat.le_refl _) _)
              have L5 : Hid (Ls (wr.alloc (.cells #[.int .u64 ((5 : Int) + t + 1)] 33)) (.slice (some ⟨wr.heap.size, 0, none⟩) 1 1) 1 (vals payH (t + 1) 1)) := by
                have h := one_list wr (t + 1)
                rw [HP.out] at h
                exact h
              refine (pwrite_any HS.out X5.out.j (HR.out.below X5.out.bl) X5.out.ob (by decide) (by decide) _ L5.out).mono ?_
              rintro E w6 ⟨_, hfree⟩
              obtain ⟨rfl, y, hy0, hy1, hW⟩ := hfree rfl
              obtain ⟨own6, X6'⟩ := X5.out.wp hW
              have X6 : Hid (Hx J w own6 w6 r (t + 1) t t t y 0) := X6'
              have HY : Hid (0 < y ∧ y ≤ 5) := ⟨hy0, hy1⟩
              clear hfree hW X6' X5 L5 X3 q0 hy0 hy1 HP
              go_wp2_with fail
              go_loopg [12, 13] y (fun g s12 s13 wq => ∃ (k wl : Nat) (own : Nat → Prop), k + wl = y ∧ s13 = .int .i64 k ∧ g = wl ∧ ((0 < wl ∧ s12 = .bool false ∧ Hid (Hx J w own wq r (t + 1) t t t wl 0)) ∨ (wl = 0 ∧ s12 = .bool true ∧ Hid (Hx J w own wq r (t + 1) (t + 1) t t 0 0))))
              case atStart => exact ⟨0, y, own6, by omega, rfl, rfl, Or.inl ⟨HY.out.1, rfl, X6⟩⟩
              case round =>
                obtain ⟨k, wl, own7, hkw, rfl, hg4, hc⟩ := hrel
                have HG4 : Hid (gk = wl ∧ k + wl = y) := ⟨hg4, hkw⟩
                have i9 : (k : Int) < 9 := by have := HY.out; omega
                clear hg4 hkw X6
                rcases hc with ⟨hwl, rfl, X7⟩ | ⟨hwl, rfl, X7⟩
                · go_wp2_with fail
                  refine (pstepW_any HS.out X7.out.j (HR.out.below X7.out.bl) X7.out.ob).mono ?_
                  rintro E w8 ⟨_, hgo⟩
                  obtain ⟨rfl, hW⟩ := hgo hwl
                  obtain ⟨own8, X8'⟩ := X7.out.wp hW
                  by_cases h1 : wl = 1
                  · have hq : (wl == 1) = true := by simpa using h1
                    rw [hq]
                    rw [if_pos h1] at X8'
                    have X8 : Hid (Hx J w own8 w8 r (t + 1) (t + 1) t t 0 0) := by rw [h1] at X8'; exact X8'
                    have H1 : Hid (wl = 1) := h1
                    clear hgo hW X8' hq h1 X7 hwl
                    go_wp2
                    go_roundg 0
                    case measure => have := HG4.out.1; have := H1.out; omega
                    case rel => exact ⟨k + 1, 0, own8, by have := HG4.out.2; have := H1.out; omega, by go_num, rfl, Or.inr ⟨rfl, rfl, X8⟩⟩
                  · have hq : (wl == 1) = false := by simpa using h1
                    rw [hq]
                    rw [if_neg h1] at X8'
                    have X8 : Hid (Hx J w own8 w8 r (t + 1) t t t (wl - 1) 0) := X8'
                    have H1 : Hid (wl ≠ 1 ∧ 0 < wl) := ⟨h1, hwl⟩
                    clear hgo hW X8' hq h1 X7 hwl
                    go_wp2
                    go_roundg (wl - 1)
                    case measure => have := HG4.out.1; have := H1.out; omega
                    case rel => exact ⟨k + 1, wl - 1, own8, by have := HG4.out.2; have := H1.out; omega, by go_num, rfl, Or.inl ⟨by have := H1.out; omega, rfl, X8⟩⟩
                · clear hwl
                  go_wp2
                  go_roundg (3 - (t + 1))
                  case measure => have := HG2.out.1; omega
                  case rel => exact ⟨t + 1, own7, t, t, by omega, by go_num, rfl, Nat.le_succ _, X7⟩
        · have i8 : (8 : Int) ≤ (5 : Int) + (t : Int) := by omega
          have i8' : ((5 : Int) + (t : Int) < 8) = False := by rw [eq_iff_iff, iff_false]; omega
          go_wp2
          go_roundg (5 - (kd + 1))
          case measure => have := HG.out; omega
          case rel => exact ⟨kd + 1, by omega, by omega, by go_num, rfl, XT.out.bl⟩
    · have i3 : (3 : Int) < (kd : Int) := by omega
      have i3' : ((kd : Int) ≤ 3) = False := by rw [eq_iff_iff, iff_false]; omega
      go_wp2
      go_ret
      exact ⟨rfl, HB.out⟩

end Go.Proofs.YtgaepakdhdfdfaaDoor
