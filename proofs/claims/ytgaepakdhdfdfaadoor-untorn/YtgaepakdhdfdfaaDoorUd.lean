/-
  Package plain's Write, StepWrite, Read, StepRead, by what package reg must do.
-/
import Derived.Test.YtgaepakdhdfdfaaDoorUc
namespace Go.Proofs.YtgaepakdhdfdfaaDoor
open Go.RowKit

theorem Wp.below {J : RJ} {a : Nat → Addr} {B : Nat} (S : Spec J a B) {own : Nat → Prop} {r : Nat} {P : Nat → Nat → Nat} {n b e f l wl rl : Nat} {w w1 w2 w3 : World} (h1 : Below w.heap.size w w1) (h : Wp J own r P n b e f l wl rl w1 w2) (h3 : Below w2.heap.size w2 w3) : Wp J own r P n b e f l wl rl w w3 := by
  obtain ⟨own', h4, h5, h6⟩ := h
  refine ⟨own', fun k hk => (h4 k hk).imp id (Nat.le_trans h1.size), ?_, S.kept h6 h3.size (fun k hk => h3.block k (S.own h6 k hk))⟩
  exact ((Fr.of_below (own := own) h1).trans h5 (fun _ _ e => e)).trans (Fr.of_below (own := own) h3) (fun _ _ e => e)
theorem Wp.cleared {J : RJ} {a : Nat → Addr} {B : Nat} (S : Spec J a B) {own : Nat → Prop} {r : Nat} {P : Nat → Nat → Nat} {n b e f l wl rl g : Nat} {w w1 w2 w3 : World} (h1 : Below w.heap.size w w1) (h : Wp J own r P n b e f l wl rl w1 w2) (h3 : Fr (fun k => k = g) w2 w3) (hg : w.heap.size ≤ g) (hl : g < w1.heap.size) (ho : ∀ k, own k → k < w.heap.size) : Wp J own r P n b e f l wl rl w w3 := by
  obtain ⟨own', h4, h5, h6⟩ := h
  refine ⟨own', fun k hk => (h4 k hk).imp id (Nat.le_trans h1.size), ?_, S.kept h6 h3.size (fun k hk => h3.block k (S.own h6 k hk) (fun e => ?_))⟩
  · have F := (Fr.of_below (own := own) h1).trans h5 (fun _ _ e => e)
    exact ⟨h3.os.trans F.os, h3.tape.trans F.tape, h3.output.trans F.output, Nat.le_trans F.size h3.size, fun k hk hn => (h3.block k (Nat.lt_of_lt_of_le hk F.size) (fun e => by omega)).trans (F.block k hk hn)⟩
  · rcases h4 k hk with c | c
    · have := ho k c; omega
    · omega

set_option maxHeartbeats 2000000 in
theorem pwrite_any {J : RJ} {a : Nat → Addr} {B : Nat} (S : Spec J a B) {own : Nat → Prop} {w : World} {r : Nat} {P : Nat → Nat → Nat} {n b e f l wl rl : Nat} (hJ : J own w r P n b e f l wl rl) (R : Rg a B w) (ho : ∀ k, own k → B ≤ k) (hn1 : 1 ≤ n) (hn : n ≤ 40) (v : Value) (hv : Ls w v n (vals P (b + 1) n)) :
    Calls Tryd.prog 10 #[.pointer (some ⟨r, 0, none⟩), v] w fun E w' =>
      (0 < wl → E = .returned (.int .i64 3) ∧ Wp J own r P n b e f l wl rl w w') ∧ (wl = 0 → E = .returned (.int .i64 0) ∧ ∃ x, 0 < x ∧ x ≤ n + 4 ∧ Wp J own r P n (b + 1) e f l x rl w w') := by
  obtain ⟨i0, hi, hz0, hz1, hz2⟩ := info_parts Tryd.infoU
  obtain ⟨g, o, c, rfl, hl, hc, h1c⟩ := hv
  have HS : Hid (Spec J a B) := S
  have HR : Hid (Rg a B w) := R
  have HJ : Hid (J own w r P n b e f l wl rl) := hJ
  have HO : Hid (∀ k, own k → B ≤ k) := ho
  have HL : Hid ((vals P (b + 1) n).length = n ∧ (∀ j u, (vals P (b + 1) n)[j]? = some u → w.cell? ⟨g, o + j, none⟩ = some u) ∧ ∀ u ∈ vals P (b + 1) n, u.oneCell' = true) := ⟨hl, hc, h1c⟩
  have c4 : (0 + n) * 8 ≤ 140737488355328 := by omega
  clear S R hl hc h1c hJ ho
  go_enter Tryd.func10, Tryd.ntmps10
  go_wp2_with (at_builtin; refine wpList_append_own _ rfl _ _ 34 rfl w.heap.size 33 i0 (.int .u64 0) 1 8 Tryd.underlying34 hi hz0 hz1 hz2 rfl (by decide) (.slice none 0 0) 0 [] rfl (World.ownsRow_nil _ _ _ _) ⟨g, o, none⟩ n c (vals P (b + 1) n) rfl (by rw [HL.out.1, Nat.mul_one]) (fun j u hu => by rw [addr_add]; exact HL.out.2.1 j u hu) HL.out.2.2 (by unfold maxLen; omega) c4 (Nat.le_refl _) ?_; intro v1 w1 O1 hg1 _)
  have B1 : Hid (Below w.heap.size w w1) := below_grown (Below.refl _ _) hg1 (fun k hk => by cases hk)
  have R1 : Hid (Rg a B w1) := HR.out.below B1.out
  have J1 : Hid (J own w1 r P n b e f l wl rl) := HS.out.kept HJ.out B1.out.size (fun k hk => B1.out.block k (HS.out.own HJ.out k hk))
  have O1' : w1.ownsRow w.heap.size 33 1 v1 n (vals P (b + 1) n) := by simpa using O1
  have L1 : Hid (Ls w1 v1 n (vals P (b + 1) n)) := Ls.of_own O1' hn1
  obtain ⟨_, ⟨_, h0⟩ | ⟨g1, cap1, cur1, rfl, hgb, hg1b, hcap, _, hsz, _⟩⟩ := O1'
  · omega
  have HG1 : Hid (w1.heap[g1]? = some (.cells cur1 33 (0, 0)) ∧ n ≤ cur1.size ∧ w.heap.size ≤ g1) := ⟨hg1b, by rw [hsz]; omega, hgb⟩
  have HLT : Hid (g1 < w1.heap.size) := (Array.getElem?_eq_some_iff.1 hg1b).1
  have HNO : Hid (¬ own g1) := fun e => by have := HS.out.own HJ.out g1 e; omega
  clear O1 hg1 hgb hg1b hsz
  refine (HS.out.write _ J1.out R1.out L1.out HO.out).mono ?_
  rintro E w2 ⟨hbusy, hfree⟩
  have tail : ∀ (w3 : World), Below w2.heap.size w2 w3 → Fr own w1 w2 → (∀ j, j < n → (w3.cell? ⟨g1, 0 + j, none⟩).isSome = true) ∧ ∀ j, j < n → w3.frozen? ⟨g1, 0 + j, none⟩ = false := by
    intro w3 h3 F2
    have h2 : w2.heap[g1]? = some (.cells cur1 33 (0, 0)) := (F2.block _ HLT.out HNO.out).trans HG1.out.1
    exact row_clear ((h3.block _ (Array.getElem?_eq_some_iff.1 h2).1).trans h2) HG1.out.2.1
  have TAIL : Hid _ := tail
  clear tail
  by_cases hw : wl = 0
  · obtain ⟨rfl, x, hx0, hx1, hW⟩ := hfree hw
    have HW : Hid (Wp J own r P n (b + 1) e f l x rl w1 w2) := hW
    have HX : Hid (wl = 0 ∧ 0 < x ∧ x ≤ n + 4) := ⟨hw, hx0, hx1⟩
    clear hfree hbusy hW hx0 hx1 hw L1 R1 J1
    go_wp2_with fail
    refine (number_nil _).mono ?_
    rintro E w3 ⟨rfl, hb3⟩
    obtain ⟨own', _, F2, _⟩ := HW.out
    have hq := TAIL.out w3 hb3 F2
    have hclr := clear_run g1 0 n cap1 hn1 hq.1 hq.2
    have F4 : Hid (Fr (fun k => k = g1) w3 (w3.setCells g1 0 (List.replicate n (.int .u64 0)))) := setCells_fr g1 _ 0 w3
    have HB3 : Hid (Below w2.heap.size w2 w3) := hb3
    clear hq hb3 F2
    go_wp2
    go_ret
    refine ⟨fun h => by have := HX.out.1; omega, fun _ => ⟨rfl, x, HX.out.2.1, HX.out.2.2, ?_⟩⟩
    exact Wp.cleared HS.out B1.out (Wp.below HS.out (Below.refl _ _) HW.out HB3.out) F4.out HG1.out.2.2 HLT.out (HS.out.own HJ.out)
  · obtain ⟨rfl, hW⟩ := hbusy (by omega)
    have HW : Hid (Wp J own r P n b e f l wl rl w1 w2) := hW
    have HX : Hid (wl ≠ 0) := hw
    have R2 : Hid (Rg a B w2) := by obtain ⟨own', h4, F2, _⟩ := hW; exact R1.out.fr F2 HO.out
    clear hfree hbusy hW hw L1 R1 J1
    go_wp2_with fail
    refine (number_err a B 3 (by decide) (by decide) _ R2.out).mono ?_
    rintro E w3 ⟨rfl, hb3⟩
    obtain ⟨own', _, F2, _⟩ := HW.out
    have hq := TAIL.out w3 hb3 F2
    have hclr := clear_run g1 0 n cap1 hn1 hq.1 hq.2
    have F4 : Hid (Fr (fun k => k = g1) w3 (w3.setCells g1 0 (List.replicate n (.int .u64 0)))) := setCells_fr g1 _ 0 w3
    have HB3 : Hid (Below w2.heap.size w2 w3) := hb3
    clear hq hb3 F2
    go_wp2
    go_ret
    refine ⟨fun _ => ⟨rfl, ?_⟩, fun h => absurd h HX.out⟩
    exact Wp.cleared HS.out B1.out (Wp.below HS.out (Below.refl _ _) HW.out HB3.out) F4.out HG1.out.2.2 HLT.out (HS.out.own HJ.out)

def StwPost (J : RJ) (own : Nat → Prop) (r : Nat) (P : Nat → Nat → Nat) (n b e f l wl rl : Nat) (w : World) (E : Ending) (w' : World) : Prop :=
  (wl = 0 → E = .returned (.tuple #[.bool false, .int .i64 4]) ∧ Wp J own r P n b e f l wl rl w w') ∧ (0 < wl → E = .returned (.tuple #[.bool (wl == 1), .int .i64 0]) ∧ Wp J own r P n b (if wl = 1 then b else e) f l (wl - 1) rl w w')
set_option maxHeartbeats 2000000 in
theorem pstepW_any {J : RJ} {a : Nat → Addr} {B : Nat} (S : Spec J a B) {own : Nat → Prop} {w : World} {r : Nat} {P : Nat → Nat → Nat} {n b e f l wl rl : Nat} (hJ : J own w r P n b e f l wl rl) (R : Rg a B w) (ho : ∀ k, own k → B ≤ k) :
    Calls Tryd.prog 11 #[.pointer (some ⟨r, 0, none⟩)] w (StwPost J own r P n b e f l wl rl w) := by
  have HS : Hid (Spec J a B) := S
  have HR : Hid (Rg a B w) := R
  have HJ : Hid (J own w r P n b e f l wl rl) := hJ
  have HO : Hid (∀ k, own k → B ≤ k) := ho
  clear S R hJ ho
  go_enter Tryd.func11, Tryd.ntmps11
  go_wp2_with fail
  refine (HS.out.stepW HJ.out HR.out HO.out).mono ?_
  rintro E w2 ⟨hidle, hgo⟩
  by_cases hw : wl = 0
  · obtain ⟨rfl, hW⟩ := hidle hw
    have HW : Hid (Wp J own r P n b e f l wl rl w w2) := hW
    have HX : Hid (wl = 0) := hw
    have R2 : Hid (Rg a B w2) := by obtain ⟨own', h4, F2, _⟩ := hW; exact HR.out.fr F2 HO.out
    clear hidle hgo hW hw
    go_wp2_with fail
    refine (number_err a B 4 (by decide) (by decide) _ R2.out).mono ?_
    rintro E w3 ⟨rfl, hb3⟩
    have HB3 : Hid (Below w2.heap.size w2 w3) := hb3
    clear hb3
    go_wp2
    refine bodyPost_ret (v := .tuple #[.bool false, .int .i64 4]) (by simp [results, Tryd.results11, go_sem]) rfl ⟨fun _ => ⟨rfl, Wp.below HS.out (Below.refl _ _) HW.out HB3.out⟩, fun h => by have := HX.out; omega⟩
  · obtain ⟨rfl, hW⟩ := hgo (by omega)
    have HW : Hid (Wp J own r P n b (if wl = 1 then b else e) f l (wl - 1) rl w w2) := hW
    have HX : Hid (wl ≠ 0) := hw
    clear hidle hgo hW hw
    generalize hq : (wl == 1) = q
    have HQ : Hid ((wl == 1) = q) := hq
    clear hq
    go_wp2_with fail
    refine (number_nil _).mono ?_
    rintro E w3 ⟨rfl, hb3⟩
    have HB3 : Hid (Below w2.heap.size w2 w3) := hb3
    clear hb3
    go_wp2
    refine bodyPost_ret (v := .tuple #[.bool q, .int .i64 0]) (by simp [results, Tryd.results11, go_sem]) rfl ⟨fun h => absurd h HX.out, fun _ => ⟨by rw [HQ.out], Wp.below HS.out (Below.refl _ _) HW.out HB3.out⟩⟩

set_option maxHeartbeats 2000000 in
theorem pread_any {J : RJ} {a : Nat → Addr} {B : Nat} (S : Spec J a B) {own : Nat → Prop} {w : World} {r : Nat} {P : Nat → Nat → Nat} {n b e f l wl rl : Nat} (hJ : J own w r P n b e f l wl rl) (R : Rg a B w) (ho : ∀ k, own k → B ≤ k) :
    Calls Tryd.prog 8 #[.pointer (some ⟨r, 0, none⟩)] w fun E w' =>
      (0 < rl → E = .returned (.int .i64 3) ∧ Wp J own r P n b e f l wl rl w w') ∧ (rl = 0 → E = .returned (.int .i64 0) ∧ ∃ x, 0 < x ∧ x ≤ n + 3 ∧ Wp J own r P n b e e l wl x w w') := by
  have HS : Hid (Spec J a B) := S
  have HR : Hid (Rg a B w) := R
  have HJ : Hid (J own w r P n b e f l wl rl) := hJ
  have HO : Hid (∀ k, own k → B ≤ k) := ho
  clear S R hJ ho
  go_enter Tryd.func8, Tryd.ntmps8
  go_wp2_with fail
  refine (HS.out.read HJ.out HR.out HO.out).mono ?_
  rintro E w2 ⟨hbusy, hfree⟩
  by_cases hw : rl = 0
  · obtain ⟨rfl, x, hx0, hx1, hW⟩ := hfree hw
    have HW : Hid (Wp J own r P n b e e l wl x w w2) := hW
    have HX : Hid (rl = 0 ∧ 0 < x ∧ x ≤ n + 3) := ⟨hw, hx0, hx1⟩
    clear hbusy hfree hW hw hx0 hx1
    go_wp2_with fail
    refine (number_nil _).mono ?_
    rintro E w3 ⟨rfl, hb3⟩
    have HB3 : Hid (Below w2.heap.size w2 w3) := hb3
    clear hb3
    go_wp2
    go_ret
    exact ⟨fun h => by have := HX.out.1; omega, fun _ => ⟨rfl, x, HX.out.2.1, HX.out.2.2, Wp.below HS.out (Below.refl _ _) HW.out HB3.out⟩⟩
  · obtain ⟨rfl, hW⟩ := hbusy (by omega)
    have HW : Hid (Wp J own r P n b e f l wl rl w w2) := hW
    have HX : Hid (rl ≠ 0) := hw
    have R2 : Hid (Rg a B w2) := by obtain ⟨own', h4, F2, _⟩ := hW; exact HR.out.fr F2 HO.out
    clear hbusy hfree hW hw
    go_wp2_with fail
    refine (number_err a B 3 (by decide) (by decide) _ R2.out).mono ?_
    rintro E w3 ⟨rfl, hb3⟩
    have HB3 : Hid (Below w2.heap.size w2 w3) := hb3
    clear hb3
    go_wp2
    go_ret
    exact ⟨fun _ => ⟨rfl, Wp.below HS.out (Below.refl _ _) HW.out HB3.out⟩, fun h => absurd h HX.out⟩

/-- What plain.StepRead answers. -/
def StrPost (J : RJ) (own : Nat → Prop) (r : Nat) (P : Nat → Nat → Nat) (n b e f l wl rl : Nat) (w : World) (E : Ending) (w' : World) : Prop :=
  (rl = 0 → E = .returned (.tuple #[.bool false, .slice none 0 0, .int .i64 4]) ∧ Wp J own r P n b e f l wl rl w w') ∧
  (1 < rl → E = .returned (.tuple #[.bool false, .slice none 0 0, .int .i64 0]) ∧ Wp J own r P n b e f l wl (rl - 1) w w') ∧
  (rl = 1 → ∃ k v, f ≤ k ∧ l ≤ k ∧ k ≤ b ∧ E = .returned (.tuple #[.bool true, v, .int .i64 0]) ∧ Ls w' v n (vals P k n) ∧ Wp J own r P n b e f k wl 0 w w')
theorem clear_none (w : World) (ty : TypeId) : (Builtin.clear_ #[34] ty #[.slice none 0 0]).run Tryd.prog w = .ok (.tuple #[]) w := by kernel_rfl
theorem own0 {w : World} {b : Nat} {e : TypeId} {v : Value} {n : Nat} {xs : List Value} (h : w.ownsRow b e 1 v (0 + n) ([] ++ xs)) : w.ownsRow b e 1 v n xs := by simpa using h
theorem cells_later {w w' : World} {g o n : Nat} {P : Nat → Value} (h : ∀ i, i < n → w.cell? ⟨g, o + i, none⟩ = some (P i) ∧ w.frozen? ⟨g, o + i, none⟩ = false) (k : Below w.heap.size w w') : (∀ j, j < n → (w'.cell? ⟨g, o + j, none⟩).isSome = true) ∧ ∀ j, j < n → w'.frozen? ⟨g, o + j, none⟩ = false :=
  ⟨fun j hj => by rw [k.cell (lt_of_cell (h j hj).1), (h j hj).1]; rfl, fun j hj => by rw [k.frozen (p := ⟨g, o + j, none⟩) (lt_of_cell (h j hj).1)]; exact (h j hj).2⟩
set_option maxHeartbeats 2000000 in
theorem pstepR_any {J : RJ} {a : Nat → Addr} {B : Nat} (S : Spec J a B) {own : Nat → Prop} {w : World} {r : Nat} {P : Nat → Nat → Nat} {n b e f l wl rl : Nat} (hJ : J own w r P n b e f l wl rl) (R : Rg a B w) (ho : ∀ k, own k → B ≤ k) (hn1 : 1 ≤ n) (hn : n ≤ 40) :
    Calls Tryd.prog 9 #[.pointer (some ⟨r, 0, none⟩)] w (StrPost J own r P n b e f l wl rl w) := by
  obtain ⟨i0, hi, hz0, hz1, hz2⟩ := info_parts Tryd.infoU
  have HS : Hid (Spec J a B) := S
  have HR : Hid (Rg a B w) := R
  have HJ : Hid (J own w r P n b e f l wl rl) := hJ
  have HO : Hid (∀ k, own k → B ≤ k) := ho
  have c4 : (0 + n) * 8 ≤ 140737488355328 := by omega
  clear S R hJ ho
  go_enter Tryd.func9, Tryd.ntmps9
  go_wp2_with fail
  refine (HS.out.stepR HJ.out HR.out HO.out).mono ?_
  rintro E w2 ⟨hidle, hgo, hend⟩
  have hcn := clear_none
  by_cases hw : rl = 0
  · obtain ⟨rfl, hW⟩ := hidle hw
    have HW : Hid (Wp J own r P n b e f l wl rl w w2) := hW
    have HX : Hid (rl = 0) := hw
    have R2 : Hid (Rg a B w2) := by obtain ⟨own', h4, F2, _⟩ := hW; exact HR.out.fr F2 HO.out
    clear hidle hgo hend hW hw
    go_wp2_with fail
    refine (number_err a B 4 (by decide) (by decide) _ R2.out).mono ?_
    rintro E w3 ⟨rfl, hb3⟩
    have HB3 : Hid (Below w2.heap.size w2 w3) := hb3
    clear hb3 hcn
    go_wp2
    refine bodyPost_ret (v := .tuple #[.bool false, .slice none 0 0, .int .i64 4]) (by simp [results, Tryd.results9, go_sem]) rfl ⟨fun _ => ⟨rfl, Wp.below HS.out (Below.refl _ _) HW.out HB3.out⟩, fun h => by have := HX.out; omega, fun h => by have := HX.out; omega⟩
  · by_cases hw1 : rl = 1
    · obtain ⟨k, g, o, c, own', hf, hl, hb, rfl, hcell, hog, hng, ho', F2, hJ2⟩ := hend hw1
      have HX : Hid (rl = 1 ∧ f ≤ k ∧ l ≤ k ∧ k ≤ b) := ⟨hw1, hf, hl, hb⟩
      have HC : Hid (∀ i, i < n → w2.cell? ⟨g, o + i, none⟩ = some (.int .u64 (P k i : Nat)) ∧ w2.frozen? ⟨g, o + i, none⟩ = false) := hcell
      have HOG : Hid ((own g ∨ w.heap.size ≤ g) ∧ ¬ own' g) := ⟨hog, hng⟩
      have HO' : Hid (∀ k, own' k → own k ∨ w.heap.size ≤ k) := ho'
      have HF2 : Hid (Fr own w w2) := F2
      have HJ2 : Hid (J own' w2 r P n b e f k wl 0) := hJ2
      have HL : Hid (∀ j u, (vals P k n)[j]? = some u → w2.cell? ⟨g, o + j, none⟩ = some u) := by
        intro j u hu
        have hj : j < n := by have := (List.getElem?_eq_some_iff.1 hu).1; rw [vals_len] at this; exact this
        rw [vals_at P k n j hj] at hu
        obtain rfl := Option.some.inj hu
        exact (HC.out j hj).1
      clear hidle hgo hend hw hw1 hf hl hb hcell hog hng ho' F2 hJ2 hcn
      go_wp2_with (at_builtin; refine wpList_append_own _ rfl _ _ 34 rfl w2.heap.size 33 i0 (.int .u64 0) 1 8 Tryd.underlying34 hi hz0 hz1 hz2 rfl (by decide) (.slice none 0 0) 0 [] rfl (World.ownsRow_nil _ _ _ _) ⟨g, o, none⟩ n c (vals P k n) rfl (by rw [vals_len, Nat.mul_one]) (fun j u hu => by rw [addr_add]; exact HL.out j u hu) (vals_one _ _ _) (by unfold maxLen; omega) c4 (Nat.le_refl _) ?_; intro v1 w3 O1 hg1 _; have HB3 : Hid (Below w2.heap.size w2 w3) := below_grown (Below.refl _ _) hg1 (fun k hk => by cases hk); have O3 : Hid (w3.ownsRow w2.heap.size 33 1 v1 n (vals P k n)) := own0 O1; have hq := cells_later HC.out HB3.out; have hclr := clear_run g o n c hn1 hq.1 hq.2; clear O1 hg1 hq)
      clear hclr
      have F4 : Hid (Fr (fun k => k = g) w3 (w3.setCells g o (List.replicate n (.int .u64 0)))) := setCells_fr g _ o w3
      have HGL : Hid (g < w2.heap.size) := lt_of_cell (HC.out 0 hn1).1
      have L4 : Hid (Ls (w3.setCells g o (List.replicate n (.int .u64 0))) v1 n (vals P k n)) := by
        obtain ⟨g1, o1, c1, rfl, q1, q2, q3⟩ := Ls.of_own O3.out hn1
        refine ⟨g1, o1, c1, rfl, q1, fun j u hu => ?_, q3⟩
        have h := q2 j u hu
        refine F4.out.held h (fun e => ?_)
        have e' : g1 = g := e
        obtain ⟨_, ⟨he, _⟩ | ⟨g2, cap2, cur2, he, hgb, _⟩⟩ := O3.out
        · cases he
        · have h5 := (Value.slice.inj he).1
          have h6 : g1 = g2 := by have := congrArg Addr.block (Option.some.inj h5); exact this
          have := HGL.out; omega
      have HW : Hid (Wp J own r P n b e f k wl 0 w (w3.setCells g o (List.replicate n (.int .u64 0)))) := by
        refine ⟨own', HO'.out, ?_, ?_⟩
        · have F := HF2.out.trans (Fr.of_below (own := own) HB3.out) (fun _ _ e => e)
          exact ⟨F4.out.os.trans F.os, F4.out.tape.trans F.tape, F4.out.output.trans F.output, Nat.le_trans F.size F4.out.size, fun i hi hn => (F4.out.block i (Nat.lt_of_lt_of_le hi F.size) (fun e => by
            have e' : i = g := e
            rcases HOG.out.1 with c | c
            · exact hn (e' ▸ c)
            · omega)).trans (F.block i hi hn)⟩
        · have J3 := HS.out.kept HJ2.out HB3.out.size (fun i hi => HB3.out.block i (HS.out.own HJ2.out i hi))
          exact HS.out.kept J3 F4.out.size (fun i hi => F4.out.block i (HS.out.own J3 i hi) (fun e => HOG.out.2 (by have e' : i = g := e; rw [← e']; exact hi)))
      clear F4 O3 HB3 HC HL HJ2
      generalize w3.setCells g o (List.replicate n (.int .u64 0)) = w4 at L4 HW ⊢
      refine (number_nil _).mono ?_
      rintro E w5 ⟨rfl, hb5⟩
      have HB5 : Hid (Below w4.heap.size w4 w5) := hb5
      clear hb5
      go_wp2
      refine bodyPost_ret (v := .tuple #[.bool true, v1, .int .i64 0]) (by simp [results, Tryd.results9, go_sem]) rfl ⟨fun h => by have := HX.out.1; omega, fun h => by have := HX.out.1; omega, fun _ => ⟨k, v1, HX.out.2.1, HX.out.2.2.1, HX.out.2.2.2, rfl, L4.out.below HB5.out, Wp.below HS.out (Below.refl _ _) HW.out HB5.out⟩⟩
    · obtain ⟨rfl, hW⟩ := hgo (by omega)
      have HW : Hid (Wp J own r P n b e f l wl (rl - 1) w w2) := hW
      have HX : Hid (rl ≠ 0 ∧ rl ≠ 1) := ⟨hw, hw1⟩
      clear hidle hgo hend hW hw hw1
      go_wp2_with fail
      refine (number_nil _).mono ?_
      rintro E w3 ⟨rfl, hb3⟩
      have HB3 : Hid (Below w2.heap.size w2 w3) := hb3
      clear hb3 hcn
      go_wp2
      refine bodyPost_ret (v := .tuple #[.bool false, .slice none 0 0, .int .i64 0]) (by simp [results, Tryd.results9, go_sem]) rfl ⟨fun h => absurd h HX.out.1, fun _ => ⟨rfl, Wp.below HS.out (Below.refl _ _) HW.out HB3.out⟩, fun h => absurd h HX.out.2⟩

end Go.Proofs.YtgaepakdhdfdfaaDoor
