/-
  Write, StepWrite, Read, StepRead of a register of kind 1, by what its cells do.
-/
import Derived.Test.YtgaepakdhdfdfaaDoorVc
namespace Go.Proofs.YtgaepakdhdfdfaaDoor
open Go.RowKit

theorem me_w1 (x : Option Addr) (w : World) : (Go.method 237 73 (.pointer x) "ratemill/reg.write").run Tryd.prog w = .ok (53, .pointer x) w := by kernel_rfl
theorem me_r1 (x : Option Addr) (w : World) : (Go.method 237 73 (.pointer x) "ratemill/reg.read").run Tryd.prog w = .ok (52, .pointer x) w := by kernel_rfl

section
variable {Q : Type} {D : Kd Q} {a : Nat → Addr} {B : Nat}

set_option maxRecDepth 100000 in
set_option maxHeartbeats 4000000 in
theorem write1_any (C : Cc D 53 52) {own : Nat → Prop} {w : World} {r : Nat} {s : Q} (P : Nat → Nat → Nat) (k : Nat) (v : Value) (A : Reg.At D.m (Rall D 73) a B own w r s) (hv : Ls w v (D.m.width s) (vals P k (D.m.width s))) :
    Calls Tryd.prog 19 #[.pointer (some ⟨r, 0, none⟩), v] w fun E w' =>
      (0 < D.m.wl s → E = .returned (errV (a 3)) ∧ Reg.Wr (Rall D 73) own r s w w') ∧ (D.m.wl s = 0 → E = .returned .nilIface ∧ Reg.Wr (Rall D 73) own r (D.m.write s (P k)) w w') := by
  have HA : Hid (Reg.At D.m (Rall D 73) a B own w r s) := A
  have HC : Hid (Cc D 53 52) := C
  have HV : Hid (Ls w v (D.m.width s) (vals P k (D.m.width s))) := hv
  obtain ⟨f, CB, W, Z, wv, wx, rv, rx, h⟩ := A.rep
  have HH : Hid (Ri D 73 own w r s f CB W Z wv wx rv rx) := h
  have e3 := A.rg.e3
  have c0 : w.cell? ⟨r, 0, none⟩ = some (.int .i64 (D.m.width s : Nat)) := h.bk.cell 0
  have c1 : w.cell? ⟨r, 1, none⟩ = some (.iface 73 (.pointer (some ⟨f, 0, none⟩))) := h.bk.cell 1
  rcases h.wk with ⟨hl, _, rfl, rfl⟩ | ⟨hl, kw, c, _, rfl, rfl, _⟩
  · have c2 : w.cell? ⟨r, 2, none⟩ = some nilS := h.bk.cell 2
    have HE : Hid (D.m.wl s = 0) := hl
    obtain ⟨vg, vo, vc, hvs, _⟩ := hv
    clear A C h hl
    subst hvs
    go_enter Tryd.func19, Tryd.ntmps19
    go_wp2_with fail
    refine (made_any r _ _ c1).mono ?_
    rintro E u ⟨rfl, rfl⟩
    go_wp2_with fail
    refine (under_no r 2 c2).mono ?_
    rintro E u ⟨rfl, rfl⟩
    go_wp2_with fail
    go_region_with (first
      | (go_at_call 28; refine (clone_any (w := w.drew) _ _ P k HA.out.w1 HA.out.w40 HV.out).mono ?_; rintro E w1 ⟨k1, cc, rfl, hk1, hR1, hB0⟩; have HX : Hid (w.heap.size ≤ k1 ∧ Rw w1 k1 (D.m.width s) (P k) ∧ Below w.heap.size w w1 ∧ Bk w1 r (blkR (D.m.width s) 73 f nilS (.int .i64 0) rv rx) 65) := ⟨hk1, hR1, below_step (Below.refl _ _).drew hB0, HH.out.bk.heap (hB0.block r HH.out.bk.lt)⟩; clear hk1 hR1 hB0)
      | (go_at_call 25; refine (begin_any r 2 _ (HX.out.2.2.2.cell 2) (HX.out.2.2.2.cell 3) (HX.out.2.2.2.fz 2) (HX.out.2.2.2.fz 3) _ _ _ rfl).mono ?_; rintro E w2 ⟨rfl, hw2⟩; have HW2 : Hid (w2 = (w1.setCell ⟨r, 2, none⟩ (slV k1 (D.m.width s) cc)).setCell ⟨r, 3, none⟩ (.int .i64 0)) := hw2; clear hw2))
    all_goals go_wp2_with fail
    all_goals go_ret
    all_goals exact ⟨fun x => by have := HE.out; omega, fun _ => ⟨rfl, by rw [HW2.out]; exact wr_write HC.out HH.out HE.out HX.out.1 HX.out.2.1 HX.out.2.2.1 HX.out.2.2.2⟩⟩
  · have c2 : w.cell? ⟨r, 2, none⟩ = some (slV kw (D.m.width s) c) := h.bk.cell 2
    have HE : Hid (0 < D.m.wl s) := hl
    clear A C h hl hv
    go_enter Tryd.func19, Tryd.ntmps19
    go_wp2_with fail
    refine (made_any r _ _ c1).mono ?_
    rintro E u ⟨rfl, rfl⟩
    go_wp2_with fail
    refine (under_yes r 2 _ _ _ c2).mono ?_
    rintro E u ⟨rfl, rfl⟩
    go_wp2_with fail
    go_ret
    exact ⟨fun _ => ⟨rfl, wr_same HA.out.rep⟩, fun x => by have := HE.out; omega⟩

set_option maxRecDepth 100000 in
set_option maxHeartbeats 4000000 in
theorem stepW1_any (L : Reg.Laws D.m) (C : Cc D 53 52) {own : Nat → Prop} {w : World} {r : Nat} {s : Q} (A : Reg.At D.m (Rall D 73) a B own w r s) :
    Calls Tryd.prog 20 #[.pointer (some ⟨r, 0, none⟩)] w fun E w' =>
      (D.m.wl s = 0 → E = .returned (.tuple #[.bool false, errV (a 4)]) ∧ Reg.Wr (Rall D 73) own r s w w') ∧ (0 < D.m.wl s → E = .returned (.tuple #[.bool (D.m.wl s == 1), .nilIface]) ∧ Reg.Wr (Rall D 73) own r (D.m.stepW s) w w') := by
  have HA : Hid (Reg.At D.m (Rall D 73) a B own w r s) := A
  have HC : Hid (Cc D 53 52) := C
  have HL : Hid (Reg.Laws D.m) := L
  obtain ⟨f, CB, W, Z, wv, wx, rv, rx, h⟩ := A.rep
  have HH : Hid (Ri D 73 own w r s f CB W Z wv wx rv rx) := h
  have e4 := A.rg.e4
  have c1 : w.cell? ⟨r, 1, none⟩ = some (.iface 73 (.pointer (some ⟨f, 0, none⟩))) := h.bk.cell 1
  rcases h.wk with ⟨hl, _, rfl, rfl⟩ | ⟨hl, kw, c, hW, rfl, rfl, hR⟩
  · have c2 : w.cell? ⟨r, 2, none⟩ = some nilS := h.bk.cell 2
    have HE : Hid (D.m.wl s = 0) := hl
    clear A C L h hl
    go_enter Tryd.func20, Tryd.ntmps20
    go_wp2_with fail
    refine (made_any r _ _ c1).mono ?_
    rintro E u ⟨rfl, rfl⟩
    go_wp2_with fail
    refine (under_no r 2 c2).mono ?_
    rintro E u ⟨rfl, rfl⟩
    go_wp2_with fail
    go_region
    all_goals go_wp2_with fail
    all_goals go_ret2
    all_goals exact ⟨fun _ => ⟨rfl, own, fun _ e => Or.inl e, Fr.draw (Fr.refl _ _), rall_kept HC.out HA.out.rep (fun _ _ => rfl)⟩, fun x => by have := HE.out; omega⟩
  · have c2 : w.cell? ⟨r, 2, none⟩ = some (slV kw (D.m.width s) c) := h.bk.cell 2
    have c3 : w.cell? ⟨r, 3, none⟩ = some (.int .i64 ((D.WT (D.m.width s) - D.m.wl s : Nat) : Int)) := h.bk.cell 3
    have HE : Hid (0 < D.m.wl s ∧ W = some kw ∧ Rw w kw (D.m.width s) (D.pay s) ∧ D.WT (D.m.width s) - D.m.wl s ≤ 100) := ⟨hl, hW, hR, by have := C.top s A.good; have := A.w40; omega⟩
    have HB : Hid (Bk w.drew r (blkR (D.m.width s) 73 f (slV kw (D.m.width s) c) (.int .i64 ((D.WT (D.m.width s) - D.m.wl s : Nat) : Int)) rv rx) 65) := h.bk
    have HK : Hid (∀ w1, Fr (fun k => k = r) w w1 → D.K CB w1 f s) := fun w1 F => C.kept h.ce (fun k hk => F.block k (C.lt h.ce k hk) (fun x => h.r1 (x ▸ hk)))
    have hm := fun w => me_w1 (some ⟨f, 0, none⟩) w
    generalize hd : D.WT (D.m.width s) - D.m.wl s = d at c3 HE HB
    have HD : Hid (D.WT (D.m.width s) - D.m.wl s = d) := hd
    clear A C L h hl hW hR hd
    go_enter Tryd.func20, Tryd.ntmps20
    go_wp2_with fail
    refine (made_any r _ _ c1).mono ?_
    rintro E u ⟨rfl, rfl⟩
    go_wp2_with fail
    refine (under_yes r 2 _ _ _ c2).mono ?_
    rintro E u ⟨rfl, rfl⟩
    go_wp2_with fail
    go_region_with (first
      | (go_at_call 26; refine (next2_any HB.out HE.out.2.2.2).mono ?_; rintro E w1 ⟨rfl, x1, F1, b1⟩; have HX : Hid (Fr (fun k => k = r) w w1 ∧ Bk w1 r (blkR (D.m.width s) 73 f (slV kw (D.m.width s) c) (.int .i64 (d + 1 : Nat)) rv rx) 65) := ⟨fr_of_drew F1, b1⟩; clear F1 b1; rw [← HD.out])
      | (go_at_call 53; refine (HC.out.write kw c (HK.out w1 HX.out.1) HH.out.nd HA.out.good HA.out.w40 HE.out.1 (HH.out.q1 kw HE.out.2.1) (HE.out.2.2.1.heap (HX.out.1.block kw HE.out.2.2.1.lt (fun x => HH.out.r2 (x ▸ HE.out.2.1))))).mono ?_; rintro E w2 ⟨rfl, hk2, hf2⟩; have HY : Hid (D.K CB w2 f (D.m.stepW s) ∧ Fr (fun k => k ∈ CB) w1 w2) := ⟨hk2, hf2⟩; clear hk2 hf2))
    all_goals (
      by_cases h1 : D.m.wl s = 1
      · have hb : (D.m.wl s == 1) = true := by simpa using h1
        have H1 : Hid (D.m.wl s = 1) := h1
        have HB2 : Hid (Bk w2 r (blkR (D.m.width s) 73 f (slV kw (D.m.width s) c) (.int .i64 (d + 1 : Nat)) rv rx) 65) := HX.out.2.fr HY.out.2 HH.out.r1
        clear h1
        rw [hb]
        go_wp2_with fail
        refine (end_any r 2 _ _ (HB2.out.cell 2) (HB2.out.cell 3) (HB2.out.fz 2) (HB2.out.fz 3)).mono ?_
        rintro E w3 ⟨rfl, hw3⟩
        have HW3 : Hid (w3 = (w2.setCell ⟨r, 2, none⟩ nilS).setCell ⟨r, 3, none⟩ (.int .i64 0)) := hw3
        clear hw3
        go_wp2_with fail
        go_ret2
        refine ⟨fun x => by have := HE.out.1; omega, fun _ => ⟨by rw [hb]; rfl, ?_⟩⟩
        rw [HW3.out]
        exact wr_stepW1 HC.out HL.out HH.out HA.out.good H1.out HX.out.1 HX.out.2 HY.out.2 HY.out.1
      · have hb : (D.m.wl s == 1) = false := by simpa using h1
        have H1 : Hid (1 < D.m.wl s) := by show _ < _; have := HE.out.1; omega
        clear h1
        rw [hb]
        go_wp2_with fail
        go_ret2
        refine ⟨fun x => by have := HE.out.1; omega, fun _ => ⟨by rw [hb]; rfl, ?_⟩⟩
        exact wr_stepW HC.out HL.out HH.out HA.out.good H1.out HE.out.2.1 HE.out.2.2.1 (by rw [HD.out]) HX.out.1 HX.out.2 HY.out.2 HY.out.1)

set_option maxRecDepth 100000 in
set_option maxHeartbeats 4000000 in
theorem read1_any (C : Cc D 53 52) {own : Nat → Prop} {w : World} {r : Nat} {s : Q} (A : Reg.At D.m (Rall D 73) a B own w r s) :
    Calls Tryd.prog 17 #[.pointer (some ⟨r, 0, none⟩)] w fun E w' =>
      (0 < D.m.rl s → E = .returned (errV (a 3)) ∧ Reg.Wr (Rall D 73) own r s w w') ∧ (D.m.rl s = 0 → E = .returned .nilIface ∧ Reg.Wr (Rall D 73) own r (D.m.read s) w w') := by
  have HA : Hid (Reg.At D.m (Rall D 73) a B own w r s) := A
  have HC : Hid (Cc D 53 52) := C
  obtain ⟨f, CB, W, Z, wv, wx, rv, rx, h⟩ := A.rep
  have HH : Hid (Ri D 73 own w r s f CB W Z wv wx rv rx) := h
  have e3 := A.rg.e3
  have c0 : w.cell? ⟨r, 0, none⟩ = some (.int .i64 (D.m.width s : Nat)) := h.bk.cell 0
  have c1 : w.cell? ⟨r, 1, none⟩ = some (.iface 73 (.pointer (some ⟨f, 0, none⟩))) := h.bk.cell 1
  rcases h.rk with ⟨hl, _, rfl, rfl⟩ | ⟨hl, kr, c, g, _, rfl, rfl, _, _⟩
  · have c4 : w.cell? ⟨r, 4, none⟩ = some nilS := h.bk.cell 4
    have HE : Hid (D.m.rl s = 0) := hl
    have hmk := fun w => run_make_row' (P := Tryd.prog) 34 33 (.int .u64 0) 8 Tryd.underlying34 Tryd.infoU rfl .i64 .i64 (D.m.width s) (by have := A.w40; omega) (by have := A.w40; omega) w
    have HX : Hid (Rw (w.drew.alloc (.cells (madeCells #[.int .u64 0] (D.m.width s)) 33)) w.heap.size (D.m.width s) (fun _ => 0) ∧ Below w.heap.size w (w.drew.alloc (.cells (madeCells #[.int .u64 0] (D.m.width s)) 33)) ∧ Bk (w.drew.alloc (.cells (madeCells #[.int .u64 0] (D.m.width s)) 33)) r (blkR (D.m.width s) 73 f wv wx nilS (.int .i64 0)) 65) := by
      have hB : Below w.heap.size w (w.drew.alloc (.cells (madeCells #[.int .u64 0] (D.m.width s)) 33)) := (Below.refl _ _).drew.alloc (Nat.le_refl _) _
      exact ⟨made_rw w.drew _, hB, h.bk.heap (hB.block r h.bk.lt)⟩
    clear A C h hl
    go_enter Tryd.func17, Tryd.ntmps17
    go_wp2_with fail
    refine (made_any r _ _ c1).mono ?_
    rintro E u ⟨rfl, rfl⟩
    go_wp2_with fail
    refine (under_no r 4 c4).mono ?_
    rintro E u ⟨rfl, rfl⟩
    go_wp2_with fail
    go_region_with (go_at_call 25; refine (begin_any r 4 _ (HX.out.2.2.cell 4) (HX.out.2.2.cell 5) (HX.out.2.2.fz 4) (HX.out.2.2.fz 5) _ _ _ rfl).mono ?_; rintro E w2 ⟨rfl, hw2⟩; have HW2 : Hid (w2 = ((w.drew.alloc (.cells (madeCells #[.int .u64 0] (D.m.width s)) 33)).setCell ⟨r, 4, none⟩ (slV w.heap.size (D.m.width s) (D.m.width s))).setCell ⟨r, 5, none⟩ (.int .i64 0)) := hw2; clear hw2)
    all_goals go_wp2_with fail
    all_goals go_ret
    all_goals exact ⟨fun x => by have := HE.out; omega, fun _ => ⟨rfl, by rw [HW2.out]; exact wr_read HC.out HH.out HE.out (Nat.le_refl _) HX.out.1 HX.out.2.1 HX.out.2.2⟩⟩
  · have c4 : w.cell? ⟨r, 4, none⟩ = some (slV kr (D.m.width s) c) := h.bk.cell 4
    have HE : Hid (0 < D.m.rl s) := hl
    clear A C h hl
    go_enter Tryd.func17, Tryd.ntmps17
    go_wp2_with fail
    refine (made_any r _ _ c1).mono ?_
    rintro E u ⟨rfl, rfl⟩
    go_wp2_with fail
    refine (under_yes r 4 _ _ _ c4).mono ?_
    rintro E u ⟨rfl, rfl⟩
    go_wp2_with fail
    go_ret
    exact ⟨fun _ => ⟨rfl, wr_same HA.out.rep⟩, fun x => by have := HE.out; omega⟩

set_option maxRecDepth 100000 in
set_option maxHeartbeats 4000000 in
theorem stepR1_any (L : Reg.Laws D.m) (C : Cc D 53 52) {own : Nat → Prop} {w : World} {r : Nat} {s : Q} (A : Reg.At D.m (Rall D 73) a B own w r s) :
    Calls Tryd.prog 18 #[.pointer (some ⟨r, 0, none⟩)] w fun E w' =>
      (D.m.rl s = 0 → E = .returned (.tuple #[.bool false, .slice none 0 0, errV (a 4)]) ∧ Reg.Wr (Rall D 73) own r s w w') ∧
      (1 < D.m.rl s → E = .returned (.tuple #[.bool false, .slice none 0 0, .nilIface]) ∧ Reg.Wr (Rall D 73) own r (D.m.stepR s) w w') ∧
      (D.m.rl s = 1 → ∃ g o c own', E = .returned (.tuple #[.bool true, .slice (some ⟨g, o, none⟩) (D.m.width s) c, .nilIface]) ∧
        (∀ i x, (D.m.out s)[i]? = some x → w'.cell? ⟨g, o + i, none⟩ = some (.int .u64 (x : Nat)) ∧ w'.frozen? ⟨g, o + i, none⟩ = false) ∧ (own g ∨ w.heap.size ≤ g) ∧ ¬ own' g ∧
        (∀ k, own' k → own k ∨ w.heap.size ≤ k) ∧ Fr own w w' ∧ Rall D 73 own' w' r (D.m.stepR s)) := by
  have HA : Hid (Reg.At D.m (Rall D 73) a B own w r s) := A
  have HC : Hid (Cc D 53 52) := C
  have HL : Hid (Reg.Laws D.m) := L
  obtain ⟨f, CB, W, Z, wv, wx, rv, rx, h⟩ := A.rep
  have HH : Hid (Ri D 73 own w r s f CB W Z wv wx rv rx) := h
  have e4 := A.rg.e4
  have c1 : w.cell? ⟨r, 1, none⟩ = some (.iface 73 (.pointer (some ⟨f, 0, none⟩))) := h.bk.cell 1
  rcases h.rk with ⟨hl, _, rfl, rfl⟩ | ⟨hl, kr, c, g, hZ, rfl, rfl, hR, hg⟩
  · have c4 : w.cell? ⟨r, 4, none⟩ = some nilS := h.bk.cell 4
    have HE : Hid (D.m.rl s = 0) := hl
    clear A C L h hl
    go_enter Tryd.func18, Tryd.ntmps18
    go_wp2_with fail
    refine (made_any r _ _ c1).mono ?_
    rintro E u ⟨rfl, rfl⟩
    go_wp2_with fail
    refine (under_no r 4 c4).mono ?_
    rintro E u ⟨rfl, rfl⟩
    go_wp2_with fail
    go_region
    all_goals go_wp2_with fail
    all_goals refine bodyPost_ret (v := .tuple #[.bool false, .slice none 0 0, errV (a 4)]) (by simp [results, Tryd.results18, go_sem]) rfl ?_
    all_goals exact ⟨fun _ => ⟨rfl, own, fun _ e => Or.inl e, Fr.draw (Fr.refl _ _), rall_kept HC.out HA.out.rep (fun _ _ => rfl)⟩, fun x => by have := HE.out; omega, fun x => by have := HE.out; omega⟩
  · have c4 : w.cell? ⟨r, 4, none⟩ = some (slV kr (D.m.width s) c) := h.bk.cell 4
    have HE : Hid (0 < D.m.rl s ∧ Z = some kr ∧ Rw w kr (D.m.width s) g ∧ (∀ i y, (D.acc s)[i]? = some y → g i = y) ∧ D.RT (D.m.width s) - D.m.rl s ≤ 100) := ⟨hl, hZ, hR, hg, by have := C.top s A.good; have := A.w40; omega⟩
    have HB : Hid (Bk w.drew r (blkR (D.m.width s) 73 f wv wx (slV kr (D.m.width s) c) (.int .i64 ((D.RT (D.m.width s) - D.m.rl s : Nat) : Int))) 65) := h.bk
    have HK : Hid (∀ w1, Fr (fun k => k = r) w w1 → D.K CB w1 f s) := fun w1 F => C.kept h.ce (fun k hk => F.block k (C.lt h.ce k hk) (fun x => h.r1 (x ▸ hk)))
    have HO : Hid (D.m.rl s = 1 → (D.m.out s).length ≤ D.m.width s) := fun h1 => by
      obtain ⟨Y, b, e, fl, l, gi⟩ := A.good
      obtain ⟨k, e1, _⟩ := L.last gi h1
      rw [e1]; simp
    have hm := fun w => me_r1 (some ⟨f, 0, none⟩) w
    generalize hd : D.RT (D.m.width s) - D.m.rl s = d at HE HB
    have HD : Hid (D.RT (D.m.width s) - D.m.rl s = d) := hd
    clear A C L h hl hZ hR hg hd
    go_enter Tryd.func18, Tryd.ntmps18
    go_wp2_with fail
    refine (made_any r _ _ c1).mono ?_
    rintro E u ⟨rfl, rfl⟩
    go_wp2_with fail
    refine (under_yes r 4 _ _ _ c4).mono ?_
    rintro E u ⟨rfl, rfl⟩
    go_wp2_with fail
    go_region_with (first
      | (go_at_call 26; refine (next4_any HB.out HE.out.2.2.2.2).mono ?_; rintro E w1 ⟨rfl, x1, F1, b1⟩; have HX : Hid (Fr (fun k => k = r) w w1 ∧ Bk w1 r (blkR (D.m.width s) 73 f wv wx (slV kr (D.m.width s) c) (.int .i64 (d + 1 : Nat))) 65) := ⟨fr_of_drew F1, b1⟩; clear F1 b1; rw [← HD.out])
      | (go_at_call 52; refine (HC.out.read kr c g (HK.out w1 HX.out.1) HH.out.nd HA.out.good HA.out.w40 HE.out.1 (HH.out.q2 kr HE.out.2.1) (HE.out.2.2.1.heap (HX.out.1.block kr HE.out.2.2.1.lt (fun x => HH.out.r3 (x ▸ HE.out.2.1)))) HE.out.2.2.2.1).mono ?_; rintro E w2 ⟨rfl, hk2, hf2, g', hg1, hg2, hg3⟩; have HY : Hid (D.K CB w2 f (D.m.stepR s) ∧ Fr (fun k => k ∈ CB ∨ k = kr) w1 w2 ∧ Rw w2 kr (D.m.width s) g' ∧ (1 < D.m.rl s → ∀ i y, (D.acc (D.m.stepR s))[i]? = some y → g' i = y) ∧ (D.m.rl s = 1 → ∀ i y, (D.m.out s)[i]? = some y → g' i = y)) := ⟨hk2, hf2, hg1, hg2, hg3⟩; clear hk2 hf2 hg1 hg2 hg3))
    all_goals (
      by_cases h1 : D.m.rl s = 1
      · have hb : (D.m.rl s == 1) = true := by simpa using h1
        have H1 : Hid (D.m.rl s = 1) := h1
        have HB2 : Hid (Bk w2 r (blkR (D.m.width s) 73 f wv wx (slV kr (D.m.width s) c) (.int .i64 (d + 1 : Nat))) 65) := HX.out.2.fr HY.out.2.1 (fun x => x.elim HH.out.r1 (fun y => HH.out.r3 (y ▸ HE.out.2.1)))
        clear h1
        rw [hb]
        go_wp2_with fail
        refine (end_any r 4 _ _ (HB2.out.cell 4) (HB2.out.cell 5) (HB2.out.fz 4) (HB2.out.fz 5)).mono ?_
        rintro E w3 ⟨rfl, hw3⟩
        have HW3 : Hid (w3 = (w2.setCell ⟨r, 4, none⟩ nilS).setCell ⟨r, 5, none⟩ (.int .i64 0)) := hw3
        clear hw3
        go_wp2_with fail
        refine bodyPost_ret (v := .tuple #[.bool true, slV kr (D.m.width s) c, .nilIface]) (by simp [results, Tryd.results18, go_sem]) rfl ?_
        refine ⟨fun x => by have := HE.out.1; omega, fun x => by have := H1.out; omega, fun _ => ?_⟩
        rw [HW3.out]
        exact wr_stepR1 HC.out HL.out HH.out HA.out.good H1.out HE.out.2.1 HX.out.1 HX.out.2 HY.out.2.1 HY.out.1 HY.out.2.2.1 (HY.out.2.2.2.2 H1.out) (HO.out H1.out) c rfl
      · have hb : (D.m.rl s == 1) = false := by simpa using h1
        have H1 : Hid (1 < D.m.rl s) := by show _ < _; have := HE.out.1; omega
        clear h1
        rw [hb]
        go_wp2_with fail
        refine bodyPost_ret (v := .tuple #[.bool false, .slice none 0 0, .nilIface]) (by simp [results, Tryd.results18, go_sem]) rfl ?_
        refine ⟨fun x => by have := HE.out.1; omega, fun _ => ⟨rfl, ?_⟩, fun x => by have := H1.out; omega⟩
        exact wr_stepR HC.out HL.out HH.out HA.out.good H1.out HE.out.2.1 (by rw [HD.out]) HX.out.1 HX.out.2 HY.out.2.1 HY.out.1 HY.out.2.2.1 (HY.out.2.2.2.1 H1.out))
end

end Go.Proofs.YtgaepakdhdfdfaaDoor
