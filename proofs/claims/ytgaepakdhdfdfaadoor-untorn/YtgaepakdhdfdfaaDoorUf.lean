/-
  hand, walked: a step of a script on one register.
-/
import Derived.Test.YtgaepakdhdfdfaaDoorUe
namespace Go.Proofs.YtgaepakdhdfdfaaDoor
open Go.RowKit

/-- A handing under way. -/
structure St (J : RJ) (a : Nat → Addr) (B : Nat) (own : Nat → Prop) (w : World) (r hb n b e f l wl rl : Nat) : Prop where
  j : J own w r payN n b e f l wl rl
  h : Hh w hb n b e f l
  rg : Rg a B w
  no : ¬ own hb
  ob : ∀ k, own k → B ≤ k
  hB : B ≤ hb
theorem St.below {J : RJ} {a : Nat → Addr} {B : Nat} (S : Spec J a B) {own : Nat → Prop} {w w' : World} {r hb n b e f l wl rl : Nat} (s : St J a B own w r hb n b e f l wl rl) (k : Below w.heap.size w w') : St J a B own w' r hb n b e f l wl rl :=
  ⟨S.kept s.j k.size (fun i hi => k.block i (S.own s.j i hi)), s.h.below k, s.rg.below k, s.no, s.ob, s.hB⟩
theorem Hh.fr {own : Nat → Prop} {w w' : World} {hb n b e f l : Nat} (h : Hh w hb n b e f l) (k : Fr own w w') (hn : ¬ own hb) : Hh w' hb n b e f l := by
  have hlt : hb < w.heap.size := lt_of_cell h.c0
  exact ⟨k.held h.c0 hn, k.held h.c1 hn, k.held h.c2 hn, k.held h.c3 hn, k.held h.c4 hn, k.held h.c5 hn, k.held h.c6 hn, fun o => by
    have e := k.block hb hlt hn
    have h2 := h.fz o
    unfold World.frozen? at h2 ⊢
    dsimp only at h2 ⊢
    rw [e]; exact h2⟩
/-- Behind a call on the register. -/
theorem St.wp {J : RJ} {a : Nat → Addr} {B : Nat} {own : Nat → Prop} {w w' : World} {r hb n b e f l wl rl b' e' f' l' wl' rl' : Nat} (s : St J a B own w r hb n b e f l wl rl) (k : Wp J own r payN n b' e' f' l' wl' rl' w w') :
    ∃ own', (∀ i, own' i → own i ∨ w.heap.size ≤ i) ∧ Fr own w w' ∧ J own' w' r payN n b' e' f' l' wl' rl' ∧ Hh w' hb n b e f l ∧ Rg a B w' ∧ ¬ own' hb ∧ ∀ i, own' i → B ≤ i := by
  obtain ⟨own', h1, h2, h3⟩ := k
  have hlt : hb < w.heap.size := lt_of_cell s.h.c0
  have hsz := s.rg.size
  refine ⟨own', h1, h2, h3, s.h.fr h2 s.no, s.rg.fr h2 s.ob, fun e => ?_, fun i hi => ?_⟩
  · rcases h1 hb e with c | c
    · exact s.no c
    · omega
  · rcases h1 i hi with c | c
    · exact s.ob i c
    · omega
/-- Behind a store into the handing's block. -/
theorem St.put {J : RJ} {a : Nat → Addr} {B : Nat} (S : Spec J a B) {own : Nat → Prop} {w w' : World} {r hb n b e f l b' e' f' l' wl rl : Nat} (hj : J own w r payN n b' e' f' l' wl rl) (hr : Rg a B w) (no : ¬ own hb) (ob : ∀ i, own i → B ≤ i) (hB : B ≤ hb) (k : Fr (fun i => i = hb) w w') (hh : Hh w' hb n b e f l) (eb : b = b') (ee : e = e') (ef : f = f') (el : l = l') : St J a B own w' r hb n b' e' f' l' wl rl := by
  subst eb ee ef el
  exact ⟨S.kept hj k.size (fun i hi => k.block i (S.own hj i hi) (fun e => no (e ▸ hi))), hh, hr.fr k (fun i e => by have e' : i = hb := e; omega), no, ob, hB⟩
/-- What a step leaves. -/
def HaPost (J : RJ) (a : Nat → Addr) (B : Nat) (own : Nat → Prop) (r hb n b : Nat) (w : World) (E : Ending) (w' : World) : Prop :=
  E = .returned (.tuple #[]) ∧ ∃ own' b' e' f' l' wl' rl', b' ≤ b + 1 ∧ St J a B own' w' r hb n b' e' f' l' wl' rl' ∧ (∀ i, own' i → own i ∨ w.heap.size ≤ i) ∧ Fr (fun i => own i ∨ i = hb) w w'

abbrev opV (k : Int) (A B C : Value) (s : ByteArray) (L U : Value) : Value := .agg #[.int .i64 k, A, B, C, .string s, L, U]
theorem hand_fr {own : Nat → Prop} {hb : Nat} {w w1 w2 w3 : World} (h1 : Below w.heap.size w w1) (h2 : Fr own w1 w2) (h3 : Fr (fun i => i = hb) w2 w3) : Fr (fun i => own i ∨ i = hb) w w3 := by
  have F : Fr own w w2 := (Fr.of_below (own := own) h1).trans h2 (fun _ _ e => e)
  exact ⟨h3.os.trans F.os, h3.tape.trans F.tape, h3.output.trans F.output, Nat.le_trans F.size h3.size, fun i hi hn => (h3.block i (Nat.lt_of_lt_of_le hi F.size) (fun e => hn (Or.inr e))).trans (F.block i hi (fun e => hn (Or.inl e)))⟩
set_option maxHeartbeats 4000000 in
theorem hand_other {J : RJ} {a : Nat → Addr} {B : Nat} (S : Spec J a B) {own : Nat → Prop} {w : World} {r hb n b e f l wl rl : Nat} (s : St J a B own w r hb n b e f l wl rl) (_hn1 : 1 ≤ n) (_hn : n ≤ 40) (_hb42 : b ≤ 4398046511103) (k : Int) (A B' C : Value) (tx : ByteArray) (L U : Value) (k1 : (k == 14) = false) (k2 : (k == 15) = false) (k3 : (k == 16) = false) (k4 : (k == 17) = false) :
    Calls Tryd.prog 14 #[.pointer (some ⟨hb, 0, none⟩), .pointer (some ⟨r, 0, none⟩), opV k A B' C tx L U] w (HaPost J a B own r hb n b w) := by
  have HS : Hid (Spec J a B) := S
  have HB0 : Hid (Below w.heap.size w (w.alloc (.cells #[.int .i64 k, A, B', C, .string tx, L, U] 43))) := (Below.refl _ _).alloc (Nat.le_refl _) _
  have HT : Hid (St J a B own (w.alloc (.cells #[.int .i64 k, A, B', C, .string tx, L, U] 43)) r hb n b e f l wl rl) := s.below S HB0.out
  have cc1 := HT.out.h.c1
  have HLT : Hid (hb < w.heap.size) := lt_of_cell s.h.c0
  clear S s
  go_enter Tryd.func14, Tryd.ntmps14
  go_wp2_with fail
  go_end0
  exact ⟨rfl, own, b, e, f, l, wl, rl, Nat.le_succ _, HT.out, fun _ h => Or.inl h, Fr.of_below HB0.out⟩
set_option maxHeartbeats 4000000 in
theorem hand_write {J : RJ} {a : Nat → Addr} {B : Nat} (S : Spec J a B) {own : Nat → Prop} {w : World} {r hb n b e f l wl rl : Nat} (s : St J a B own w r hb n b e f l wl rl) (hn1 : 1 ≤ n) (hn : n ≤ 40) (hb42 : b ≤ 4398046511103) (A B' C : Value) (tx : ByteArray) (L U : Value) :
    Calls Tryd.prog 14 #[.pointer (some ⟨hb, 0, none⟩), .pointer (some ⟨r, 0, none⟩), opV 14 A B' C tx L U] w (HaPost J a B own r hb n b w) := by
  have HS : Hid (Spec J a B) := S
  have HB0 : Hid (Below w.heap.size w (w.alloc (.cells #[.int .i64 14, A, B', C, .string tx, L, U] 43))) := (Below.refl _ _).alloc (Nat.le_refl _) _
  have HT : Hid (St J a B own (w.alloc (.cells #[.int .i64 14, A, B', C, .string tx, L, U] 43)) r hb n b e f l wl rl) := s.below S HB0.out
  have cc1 := HT.out.h.c1
  have HLT : Hid (hb < w.heap.size) := lt_of_cell s.h.c0
  clear S s
  go_enter Tryd.func14, Tryd.ntmps14
  go_wp2_with fail
  generalize w.alloc (.cells #[.int .i64 14, A, B', C, .string tx, L, U] 43) = W at HB0 HT cc1 ⊢
  have c0 := HT.out.h.c0
  have HB1 : Hid ((b : Int) + 1 = ((b + 1 : Nat) : Int)) := by show _ = _; omega
  rw [HB1.out]
  refine (payload_any hb n (b + 1) hn (by omega) W c0).mono ?_
  rintro E w1 ⟨v1, rfl, O1, hb1⟩
  have HT1 : Hid (St J a B own w1 r hb n b e f l wl rl) := HT.out.below HS.out hb1
  have V1 : Hid (Ls w1 v1 n (vals payN (b + 1) n)) := Ls.of_own O1 hn1
  have HB2 : Hid (Below w.heap.size w w1) := below_step HB0.out hb1
  clear O1 hb1 HT c0 cc1
  go_wp2_with fail
  refine (pwrite_any HS.out HT1.out.j HT1.out.rg HT1.out.ob hn1 hn v1 V1.out).mono ?_
  rintro E w2 ⟨hbusy, hfree⟩
  by_cases hw : wl = 0
  · obtain ⟨rfl, x, hx0, hx1, hW⟩ := hfree hw
    obtain ⟨own', h1, F2, J2, H2, R2, N2, O2⟩ := HT1.out.wp hW
    have c1 := H2.c1
    have fz := H2.fz 1
    have HX : Hid (J own' w2 r payN n (b + 1) e f l x rl ∧ Hh w2 hb n b e f l ∧ Rg a B w2 ∧ ¬ own' hb ∧ (∀ i, own' i → B ≤ i) ∧ Fr own w1 w2 ∧ ∀ i, own' i → own i ∨ w1.heap.size ≤ i) := ⟨J2, H2, R2, N2, O2, F2, h1⟩
    clear hbusy hfree hW hw h1 F2 J2 H2 R2 N2 O2
    go_wp2_with fail
    go_end0
    obtain ⟨J2, H2, R2, N2, O2, F2, h1⟩ := HX.out
    have hh := H2.put1 (b + 1)
    rw [← HB1.out] at hh
    refine ⟨rfl, own', b + 1, e, f, l, x, rl, Nat.le_refl _, St.put HS.out J2 R2 N2 O2 HT1.out.hB (fr_set (Fr.refl _ w2) 1 _) hh rfl rfl rfl rfl, fun i hi => (h1 i hi).imp id (Nat.le_trans HB2.out.size), ?_⟩
    exact hand_fr HB2.out F2 (fr_set (Fr.refl _ w2) 1 _)
  · obtain ⟨rfl, hW⟩ := hbusy (by omega)
    obtain ⟨own', h1, F2, J2, H2, R2, N2, O2⟩ := HT1.out.wp hW
    have HX : Hid (St J a B own' w2 r hb n b e f l wl rl ∧ Fr own w1 w2 ∧ ∀ i, own' i → own i ∨ w1.heap.size ≤ i) := ⟨⟨J2, H2, R2, N2, O2, HT1.out.hB⟩, F2, h1⟩
    clear hbusy hfree hW hw h1 F2 J2 H2 R2 N2 O2
    go_wp2_with fail
    go_end0
    exact ⟨rfl, own', b, e, f, l, wl, rl, Nat.le_succ _, HX.out.1, fun i hi => (HX.out.2.2 i hi).imp id (Nat.le_trans HB2.out.size), hand_fr HB2.out HX.out.2.1 (Fr.refl _ _)⟩
set_option maxHeartbeats 4000000 in
theorem hand_stepW {J : RJ} {a : Nat → Addr} {B : Nat} (S : Spec J a B) {own : Nat → Prop} {w : World} {r hb n b e f l wl rl : Nat} (s : St J a B own w r hb n b e f l wl rl) (_hn1 : 1 ≤ n) (_hn : n ≤ 40) (_hb42 : b ≤ 4398046511103) (A B' C : Value) (tx : ByteArray) (L U : Value) :
    Calls Tryd.prog 14 #[.pointer (some ⟨hb, 0, none⟩), .pointer (some ⟨r, 0, none⟩), opV 15 A B' C tx L U] w (HaPost J a B own r hb n b w) := by
  have HS : Hid (Spec J a B) := S
  have HB0 : Hid (Below w.heap.size w (w.alloc (.cells #[.int .i64 15, A, B', C, .string tx, L, U] 43))) := (Below.refl _ _).alloc (Nat.le_refl _) _
  have HT : Hid (St J a B own (w.alloc (.cells #[.int .i64 15, A, B', C, .string tx, L, U] 43)) r hb n b e f l wl rl) := s.below S HB0.out
  have cc1 := HT.out.h.c1
  have HLT : Hid (hb < w.heap.size) := lt_of_cell s.h.c0
  clear S s
  go_enter Tryd.func14, Tryd.ntmps14
  go_wp2_with fail
  generalize w.alloc (.cells #[.int .i64 15, A, B', C, .string tx, L, U] 43) = W at HB0 HT cc1 ⊢
  clear cc1
  refine (pstepW_any HS.out HT.out.j HT.out.rg HT.out.ob).mono ?_
  rintro E w2 ⟨hidle, hgo⟩
  by_cases hw : wl = 0
  · obtain ⟨rfl, hW⟩ := hidle hw
    obtain ⟨own', h1, F2, J2, H2, R2, N2, O2⟩ := HT.out.wp hW
    have HX : Hid (St J a B own' w2 r hb n b e f l wl rl ∧ Fr own W w2 ∧ ∀ i, own' i → own i ∨ W.heap.size ≤ i) := ⟨⟨J2, H2, R2, N2, O2, HT.out.hB⟩, F2, h1⟩
    clear hidle hgo hW hw h1 F2 J2 H2 R2 N2 O2
    go_wp2_with fail
    go_end0
    exact ⟨rfl, own', b, e, f, l, wl, rl, Nat.le_succ _, HX.out.1, fun i hi => (HX.out.2.2 i hi).imp id (Nat.le_trans HB0.out.size), hand_fr HB0.out HX.out.2.1 (Fr.refl _ _)⟩
  · obtain ⟨rfl, hW⟩ := hgo (by omega)
    obtain ⟨own', h1, F2, J2, H2, R2, N2, O2⟩ := HT.out.wp hW
    by_cases hw1 : wl = 1
    · have hq : (wl == 1) = true := by simpa using hw1
      rw [if_pos hw1] at J2
      rw [hq]
      have c1 := H2.c1
      have c2 := H2.c2
      have fz := H2.fz 2
      have HX : Hid (J own' w2 r payN n b b f l (wl - 1) rl ∧ Hh w2 hb n b e f l ∧ Rg a B w2 ∧ ¬ own' hb ∧ (∀ i, own' i → B ≤ i) ∧ Fr own W w2 ∧ ∀ i, own' i → own i ∨ W.heap.size ≤ i) := ⟨J2, H2, R2, N2, O2, F2, h1⟩
      clear hidle hgo hW hw hw1 hq h1 F2 J2 H2 R2 N2 O2
      go_wp2_with fail
      go_end0
      obtain ⟨J2, H2, R2, N2, O2, F2, h1⟩ := HX.out
      exact ⟨rfl, own', b, b, f, l, wl - 1, rl, Nat.le_succ _, St.put HS.out J2 R2 N2 O2 HT.out.hB (fr_set (Fr.refl _ w2) 2 _) (H2.put2 b) rfl rfl rfl rfl, fun i hi => (h1 i hi).imp id (Nat.le_trans HB0.out.size), hand_fr HB0.out F2 (fr_set (Fr.refl _ w2) 2 _)⟩
    · have hq : (wl == 1) = false := by simpa using hw1
      rw [if_neg hw1] at J2
      rw [hq]
      have HX : Hid (St J a B own' w2 r hb n b e f l (wl - 1) rl ∧ Fr own W w2 ∧ ∀ i, own' i → own i ∨ W.heap.size ≤ i) := ⟨⟨J2, H2, R2, N2, O2, HT.out.hB⟩, F2, h1⟩
      clear hidle hgo hW hw hw1 hq h1 F2 J2 H2 R2 N2 O2
      go_wp2_with fail
      go_end0
      exact ⟨rfl, own', b, e, f, l, wl - 1, rl, Nat.le_succ _, HX.out.1, fun i hi => (HX.out.2.2 i hi).imp id (Nat.le_trans HB0.out.size), hand_fr HB0.out HX.out.2.1 (Fr.refl _ _)⟩
set_option maxHeartbeats 4000000 in
theorem hand_read {J : RJ} {a : Nat → Addr} {B : Nat} (S : Spec J a B) {own : Nat → Prop} {w : World} {r hb n b e f l wl rl : Nat} (s : St J a B own w r hb n b e f l wl rl) (_hn1 : 1 ≤ n) (_hn : n ≤ 40) (_hb42 : b ≤ 4398046511103) (A B' C : Value) (tx : ByteArray) (L U : Value) :
    Calls Tryd.prog 14 #[.pointer (some ⟨hb, 0, none⟩), .pointer (some ⟨r, 0, none⟩), opV 16 A B' C tx L U] w (HaPost J a B own r hb n b w) := by
  have HS : Hid (Spec J a B) := S
  have HB0 : Hid (Below w.heap.size w (w.alloc (.cells #[.int .i64 16, A, B', C, .string tx, L, U] 43))) := (Below.refl _ _).alloc (Nat.le_refl _) _
  have HT : Hid (St J a B own (w.alloc (.cells #[.int .i64 16, A, B', C, .string tx, L, U] 43)) r hb n b e f l wl rl) := s.below S HB0.out
  have cc1 := HT.out.h.c1
  have HLT : Hid (hb < w.heap.size) := lt_of_cell s.h.c0
  clear S s
  go_enter Tryd.func14, Tryd.ntmps14
  go_wp2_with fail
  generalize w.alloc (.cells #[.int .i64 16, A, B', C, .string tx, L, U] 43) = W at HB0 HT cc1 ⊢
  clear cc1
  refine (pread_any HS.out HT.out.j HT.out.rg HT.out.ob).mono ?_
  rintro E w2 ⟨hbusy, hfree⟩
  by_cases hw : rl = 0
  · obtain ⟨rfl, x, hx0, hx1, hW⟩ := hfree hw
    obtain ⟨own', h1, F2, J2, H2, R2, N2, O2⟩ := HT.out.wp hW
    have c2 := H2.c2
    have c3 := H2.c3
    have fz := H2.fz 3
    have HX : Hid (J own' w2 r payN n b e e l wl x ∧ Hh w2 hb n b e f l ∧ Rg a B w2 ∧ ¬ own' hb ∧ (∀ i, own' i → B ≤ i) ∧ Fr own W w2 ∧ ∀ i, own' i → own i ∨ W.heap.size ≤ i) := ⟨J2, H2, R2, N2, O2, F2, h1⟩
    clear hbusy hfree hW hw h1 F2 J2 H2 R2 N2 O2
    go_wp2_with fail
    go_end0
    obtain ⟨J2, H2, R2, N2, O2, F2, h1⟩ := HX.out
    exact ⟨rfl, own', b, e, e, l, wl, x, Nat.le_succ _, St.put HS.out J2 R2 N2 O2 HT.out.hB (fr_set (Fr.refl _ w2) 3 _) (H2.put3 e) rfl rfl rfl rfl, fun i hi => (h1 i hi).imp id (Nat.le_trans HB0.out.size), hand_fr HB0.out F2 (fr_set (Fr.refl _ w2) 3 _)⟩
  · obtain ⟨rfl, hW⟩ := hbusy (by omega)
    obtain ⟨own', h1, F2, J2, H2, R2, N2, O2⟩ := HT.out.wp hW
    have HX : Hid (St J a B own' w2 r hb n b e f l wl rl ∧ Fr own W w2 ∧ ∀ i, own' i → own i ∨ W.heap.size ≤ i) := ⟨⟨J2, H2, R2, N2, O2, HT.out.hB⟩, F2, h1⟩
    clear hbusy hfree hW hw h1 F2 J2 H2 R2 N2 O2
    go_wp2_with fail
    go_end0
    exact ⟨rfl, own', b, e, f, l, wl, rl, Nat.le_succ _, HX.out.1, fun i hi => (HX.out.2.2 i hi).imp id (Nat.le_trans HB0.out.size), hand_fr HB0.out HX.out.2.1 (Fr.refl _ _)⟩
set_option maxHeartbeats 4000000 in
theorem hand_stepR {J : RJ} {a : Nat → Addr} {B : Nat} (S : Spec J a B) {own : Nat → Prop} {w : World} {r hb n b e f l wl rl : Nat} (s : St J a B own w r hb n b e f l wl rl) (hn1 : 1 ≤ n) (hn : n ≤ 40) (hb42 : b ≤ 4398046511103) (A B' C : Value) (tx : ByteArray) (L U : Value) :
    Calls Tryd.prog 14 #[.pointer (some ⟨hb, 0, none⟩), .pointer (some ⟨r, 0, none⟩), opV 17 A B' C tx L U] w (HaPost J a B own r hb n b w) := by
  have HS : Hid (Spec J a B) := S
  have HB0 : Hid (Below w.heap.size w (w.alloc (.cells #[.int .i64 17, A, B', C, .string tx, L, U] 43))) := (Below.refl _ _).alloc (Nat.le_refl _) _
  have HT : Hid (St J a B own (w.alloc (.cells #[.int .i64 17, A, B', C, .string tx, L, U] 43)) r hb n b e f l wl rl) := s.below S HB0.out
  have cc1 := HT.out.h.c1
  have HLT : Hid (hb < w.heap.size) := lt_of_cell s.h.c0
  clear S s
  go_enter Tryd.func14, Tryd.ntmps14
  go_wp2_with fail
  generalize w.alloc (.cells #[.int .i64 17, A, B', C, .string tx, L, U] 43) = W at HB0 HT cc1 ⊢
  clear cc1
  refine (pstepR_any HS.out HT.out.j HT.out.rg HT.out.ob hn1 hn).mono ?_
  rintro E w2 ⟨hidle, hgo, hend⟩
  by_cases hw : rl = 0
  · obtain ⟨rfl, hW⟩ := hidle hw
    obtain ⟨own', h1, F2, J2, H2, R2, N2, O2⟩ := HT.out.wp hW
    have HX : Hid (St J a B own' w2 r hb n b e f l wl rl ∧ Fr own W w2 ∧ ∀ i, own' i → own i ∨ W.heap.size ≤ i) := ⟨⟨J2, H2, R2, N2, O2, HT.out.hB⟩, F2, h1⟩
    clear hidle hgo hend hW hw h1 F2 J2 H2 R2 N2 O2
    go_wp2_with fail
    go_end0
    exact ⟨rfl, own', b, e, f, l, wl, rl, Nat.le_succ _, HX.out.1, fun i hi => (HX.out.2.2 i hi).imp id (Nat.le_trans HB0.out.size), hand_fr HB0.out HX.out.2.1 (Fr.refl _ _)⟩
  · by_cases hw1 : rl = 1
    · obtain ⟨k, v, hf, hl, hkb, rfl, hV, hW⟩ := hend hw1
      obtain ⟨own', h1, F2, J2, H2, R2, N2, O2⟩ := HT.out.wp hW
      have HX : Hid (J own' w2 r payN n b e f k wl 0 ∧ Hh w2 hb n b e f l ∧ Rg a B w2 ∧ ¬ own' hb ∧ (∀ i, own' i → B ≤ i) ∧ Fr own W w2 ∧ ∀ i, own' i → own i ∨ W.heap.size ≤ i) := ⟨J2, H2, R2, N2, O2, F2, h1⟩
      have HV : Hid (Ls w2 v n (vals payN k n)) := hV
      clear hidle hgo hend hW hw hw1 h1 F2 J2 H2 R2 N2 O2 hV
      go_wp2_with fail
      refine (got_any hb n b e f l k v hn1 hn (by omega) w2 HX.out.2.1 HV.out hkb hf hl).mono ?_
      rintro E w3 ⟨rfl, F3, H3⟩
      have HF3 : Hid (Fr (fun i => i = hb) w2 w3) := F3
      have HH3 : Hid (Hh w3 hb n b e f k) := H3
      clear F3 H3
      go_wp2_with fail
      go_end0
      obtain ⟨J2, H2, R2, N2, O2, F2, h1⟩ := HX.out
      exact ⟨rfl, own', b, e, f, k, wl, 0, Nat.le_succ _, St.put HS.out J2 R2 N2 O2 HT.out.hB HF3.out HH3.out rfl rfl rfl rfl, fun i hi => (h1 i hi).imp id (Nat.le_trans HB0.out.size), hand_fr HB0.out F2 HF3.out⟩
    · obtain ⟨rfl, hW⟩ := hgo (by omega)
      obtain ⟨own', h1, F2, J2, H2, R2, N2, O2⟩ := HT.out.wp hW
      have HX : Hid (St J a B own' w2 r hb n b e f l wl (rl - 1) ∧ Fr own W w2 ∧ ∀ i, own' i → own i ∨ W.heap.size ≤ i) := ⟨⟨J2, H2, R2, N2, O2, HT.out.hB⟩, F2, h1⟩
      clear hidle hgo hend hW hw hw1 h1 F2 J2 H2 R2 N2 O2
      go_wp2_with fail
      go_end0
      exact ⟨rfl, own', b, e, f, l, wl, rl - 1, Nat.le_succ _, HX.out.1, fun i hi => (HX.out.2.2 i hi).imp id (Nat.le_trans HB0.out.size), hand_fr HB0.out HX.out.2.1 (Fr.refl _ _)⟩
theorem hand_any {J : RJ} {a : Nat → Addr} {B : Nat} (S : Spec J a B) {own : Nat → Prop} {w : World} {r hb n b e f l wl rl : Nat} (s : St J a B own w r hb n b e f l wl rl) (hn1 : 1 ≤ n) (hn : n ≤ 40) (hb42 : b ≤ 4398046511103) (k : Int) (A B' C : Value) (tx : ByteArray) (L U : Value) :
    Calls Tryd.prog 14 #[.pointer (some ⟨hb, 0, none⟩), .pointer (some ⟨r, 0, none⟩), opV k A B' C tx L U] w (HaPost J a B own r hb n b w) := by
  by_cases h1 : k = 14
  · subst h1; exact hand_write S s hn1 hn hb42 A B' C tx L U
  by_cases h2 : k = 15
  · subst h2; exact hand_stepW S s hn1 hn hb42 A B' C tx L U
  by_cases h3 : k = 16
  · subst h3; exact hand_read S s hn1 hn hb42 A B' C tx L U
  by_cases h4 : k = 17
  · subst h4; exact hand_stepR S s hn1 hn hb42 A B' C tx L U
  exact hand_other S s hn1 hn hb42 k A B' C tx L U (by simpa using h1) (by simpa using h2) (by simpa using h3) (by simpa using h4)

end Go.Proofs.YtgaepakdhdfdfaaDoor
