/-
  What the code of package reg is to be walked against: a register in memory stands for one on paper, and each call does what its step does on paper. Out of it what the statements' side leans on.
-/
import Derived.Test.YtgaepakdhdfdfaaDoorPc
import Derived.Test.YtgaepakdhdfdfaaDoorUk
namespace Go.Proofs.YtgaepakdhdfdfaaDoor
namespace Reg
open Go.RowKit

/-- How a register lies in memory: its own blocks, the world, where it is, what it stands for. -/
abbrev RR (Q : Type) : Type := (Nat → Prop) → World → Nat → Q → Prop
/-- Behind a call. -/
def Wr {Q : Type} (R : RR Q) (own : Nat → Prop) (r : Nat) (s : Q) (w w' : World) : Prop :=
  ∃ own', (∀ k, own' k → own k ∨ w.heap.size ≤ k) ∧ Fr own w w' ∧ R own' w' r s
/-- What may be leant on at a call. -/
structure At {Q : Type} (m : Mach Q) (R : RR Q) (a : Nat → Addr) (B : Nat) (own : Nat → Prop) (w : World) (r : Nat) (s : Q) : Prop where
  rep : R own w r s
  good : ∃ Y b e f l, m.Inv Y s b e f l
  w1 : 1 ≤ m.width s
  w40 : m.width s ≤ 40
  rg : Rg a B w
  ob : ∀ k, own k → B ≤ k
structure Code {Q : Type} (m : Mach Q) (R : RR Q) (a : Nat → Addr) (B : Nat) : Prop where
  kept : ∀ {own w w' r s}, R own w r s → w.heap.size ≤ w'.heap.size → (∀ k, own k → w'.heap[k]? = w.heap[k]?) → R own w' r s
  own : ∀ {own w r s}, R own w r s → ∀ k, own k → k < w.heap.size
  write : ∀ {own w r s} (P : Nat → Nat → Nat) (k : Nat) (v : Value), At m R a B own w r s → Ls w v (m.width s) (vals P k (m.width s)) →
    Calls Tryd.prog 19 #[.pointer (some ⟨r, 0, none⟩), v] w fun E w' =>
      (0 < m.wl s → E = .returned (errV (a 3)) ∧ Wr R own r s w w') ∧ (m.wl s = 0 → E = .returned .nilIface ∧ Wr R own r (m.write s (P k)) w w')
  stepW : ∀ {own w r s}, At m R a B own w r s →
    Calls Tryd.prog 20 #[.pointer (some ⟨r, 0, none⟩)] w fun E w' =>
      (m.wl s = 0 → E = .returned (.tuple #[.bool false, errV (a 4)]) ∧ Wr R own r s w w') ∧ (0 < m.wl s → E = .returned (.tuple #[.bool (m.wl s == 1), .nilIface]) ∧ Wr R own r (m.stepW s) w w')
  read : ∀ {own w r s}, At m R a B own w r s →
    Calls Tryd.prog 17 #[.pointer (some ⟨r, 0, none⟩)] w fun E w' =>
      (0 < m.rl s → E = .returned (errV (a 3)) ∧ Wr R own r s w w') ∧ (m.rl s = 0 → E = .returned .nilIface ∧ Wr R own r (m.read s) w w')
  stepR : ∀ {own w r s}, At m R a B own w r s →
    Calls Tryd.prog 18 #[.pointer (some ⟨r, 0, none⟩)] w fun E w' =>
      (m.rl s = 0 → E = .returned (.tuple #[.bool false, .slice none 0 0, errV (a 4)]) ∧ Wr R own r s w w') ∧
      (1 < m.rl s → E = .returned (.tuple #[.bool false, .slice none 0 0, .nilIface]) ∧ Wr R own r (m.stepR s) w w') ∧
      (m.rl s = 1 → ∃ g o c own', E = .returned (.tuple #[.bool true, .slice (some ⟨g, o, none⟩) (m.width s) c, .nilIface]) ∧
        (∀ i x, (m.out s)[i]? = some x → w'.cell? ⟨g, o + i, none⟩ = some (.int .u64 (x : Nat)) ∧ w'.frozen? ⟨g, o + i, none⟩ = false) ∧ (own g ∨ w.heap.size ≤ g) ∧ ¬ own' g ∧
        (∀ k, own' k → own k ∨ w.heap.size ≤ k) ∧ Fr own w w' ∧ R own' w' r (m.stepR s))

/-- A register of one kind, as the statements' side has it. -/
def Jm {Q : Type} (m : Mach Q) (R : RR Q) : RJ := fun own w r P n b e f l wl rl => ∃ s, R own w r s ∧ m.width s = n ∧ 1 ≤ n ∧ n ≤ 40 ∧ m.Inv P s b e f l ∧ wl = m.wl s ∧ rl = m.rl s
theorem at_of {Q : Type} {m : Mach Q} {R : RR Q} {a : Nat → Addr} {B : Nat} {own : Nat → Prop} {w : World} {r : Nat} {P : Nat → Nat → Nat} {b e f l : Nat} {s : Q} (h1 : R own w r s) (h2 : 1 ≤ m.width s) (h3 : m.width s ≤ 40) (h4 : m.Inv P s b e f l) (hr : Rg a B w) (ho : ∀ k, own k → B ≤ k) : At m R a B own w r s :=
  ⟨h1, ⟨P, b, e, f, l, h4⟩, h2, h3, hr, ho⟩
theorem wp_of {Q : Type} {m : Mach Q} {R : RR Q} {J : RJ} (hJ : ∀ {own w r P n b e f l wl rl}, Jm m R own w r P n b e f l wl rl → J own w r P n b e f l wl rl) {own : Nat → Prop} {w w' : World} {r : Nat} {P : Nat → Nat → Nat} {n b e f l wl rl : Nat} {s : Q} (h : Wr R own r s w w') (h1 : m.width s = n) (h2 : 1 ≤ n) (h3 : n ≤ 40) (h4 : m.Inv P s b e f l) (h5 : wl = m.wl s) (h6 : rl = m.rl s) : Wp J own r P n b e f l wl rl w w' := by
  obtain ⟨own', k1, k2, k3⟩ := h
  exact ⟨own', k1, k2, hJ ⟨s, k3, h1, h2, h3, h4, h5, h6⟩⟩

section
variable {Q : Type} {m : Mach Q} {R : RR Q} {a : Nat → Addr} {B : Nat} {J : RJ}

theorem jm_kept (C : Code m R a B) {own : Nat → Prop} {w w' : World} {r : Nat} {P : Nat → Nat → Nat} {n b e f l wl rl : Nat} (h : Jm m R own w r P n b e f l wl rl) (h1 : w.heap.size ≤ w'.heap.size) (h2 : ∀ k, own k → w'.heap[k]? = w.heap[k]?) : Jm m R own w' r P n b e f l wl rl := by
  obtain ⟨s, k1, k2⟩ := h
  exact ⟨s, C.kept k1 h1 h2, k2⟩
theorem jm_own (C : Code m R a B) {own : Nat → Prop} {w : World} {r : Nat} {P : Nat → Nat → Nat} {n b e f l wl rl : Nat} (h : Jm m R own w r P n b e f l wl rl) (k : Nat) (hk : own k) : k < w.heap.size := by
  obtain ⟨s, k1, _⟩ := h
  exact C.own k1 k hk
theorem jm_write (L : Laws m) (C : Code m R a B) (hJ : ∀ {own w r P n b e f l wl rl}, Jm m R own w r P n b e f l wl rl → J own w r P n b e f l wl rl) {own : Nat → Prop} {w : World} {r : Nat} {P : Nat → Nat → Nat} {n b e f l wl rl : Nat} (v : Value) (h : Jm m R own w r P n b e f l wl rl) (hr : Rg a B w) (hv : Ls w v n (vals P (b + 1) n)) (ho : ∀ k, own k → B ≤ k) :
    Calls Tryd.prog 19 #[.pointer (some ⟨r, 0, none⟩), v] w fun E w' =>
      (0 < wl → E = .returned (errV (a 3)) ∧ Wp J own r P n b e f l wl rl w w') ∧ (wl = 0 → E = .returned .nilIface ∧ ∃ x, 0 < x ∧ x ≤ n + 4 ∧ Wp J own r P n (b + 1) e f l x rl w w') := by
  obtain ⟨s, h1, rfl, h2, h3, h4, rfl, rfl⟩ := h
  refine (C.write P (b + 1) v (at_of h1 h2 h3 h4 hr ho) hv).mono ?_
  rintro E w' ⟨k1, k2⟩
  refine ⟨fun k => ⟨(k1 k).1, wp_of hJ (k1 k).2 rfl h2 h3 h4 rfl rfl⟩, fun k => ?_⟩
  obtain ⟨q1, q2, q3, q4, q5⟩ := L.write (P (b + 1)) h4 k (fun _ _ => rfl)
  exact ⟨(k2 k).1, _, q2, q3, wp_of hJ (k2 k).2 q5 h2 h3 q1 rfl q4.symm⟩
theorem jm_stepW (L : Laws m) (C : Code m R a B) (hJ : ∀ {own w r P n b e f l wl rl}, Jm m R own w r P n b e f l wl rl → J own w r P n b e f l wl rl) {own : Nat → Prop} {w : World} {r : Nat} {P : Nat → Nat → Nat} {n b e f l wl rl : Nat} (h : Jm m R own w r P n b e f l wl rl) (hr : Rg a B w) (ho : ∀ k, own k → B ≤ k) :
    Calls Tryd.prog 20 #[.pointer (some ⟨r, 0, none⟩)] w fun E w' =>
      (wl = 0 → E = .returned (.tuple #[.bool false, errV (a 4)]) ∧ Wp J own r P n b e f l wl rl w w') ∧ (0 < wl → E = .returned (.tuple #[.bool (wl == 1), .nilIface]) ∧ Wp J own r P n b (if wl = 1 then b else e) f l (wl - 1) rl w w') := by
  obtain ⟨s, h1, rfl, h2, h3, h4, rfl, rfl⟩ := h
  refine (C.stepW (at_of h1 h2 h3 h4 hr ho)).mono ?_
  rintro E w' ⟨k1, k2⟩
  refine ⟨fun k => ⟨(k1 k).1, wp_of hJ (k1 k).2 rfl h2 h3 h4 rfl rfl⟩, fun k => ?_⟩
  obtain ⟨q1, q2, q3, q4⟩ := L.stepW h4 k
  exact ⟨(k2 k).1, wp_of hJ (k2 k).2 q4 h2 h3 q1 q2.symm q3.symm⟩
theorem jm_read (L : Laws m) (C : Code m R a B) (hJ : ∀ {own w r P n b e f l wl rl}, Jm m R own w r P n b e f l wl rl → J own w r P n b e f l wl rl) {own : Nat → Prop} {w : World} {r : Nat} {P : Nat → Nat → Nat} {n b e f l wl rl : Nat} (h : Jm m R own w r P n b e f l wl rl) (hr : Rg a B w) (ho : ∀ k, own k → B ≤ k) :
    Calls Tryd.prog 17 #[.pointer (some ⟨r, 0, none⟩)] w fun E w' =>
      (0 < rl → E = .returned (errV (a 3)) ∧ Wp J own r P n b e f l wl rl w w') ∧ (rl = 0 → E = .returned .nilIface ∧ ∃ x, 0 < x ∧ x ≤ n + 3 ∧ Wp J own r P n b e e l wl x w w') := by
  obtain ⟨s, h1, rfl, h2, h3, h4, rfl, rfl⟩ := h
  refine (C.read (at_of h1 h2 h3 h4 hr ho)).mono ?_
  rintro E w' ⟨k1, k2⟩
  refine ⟨fun k => ⟨(k1 k).1, wp_of hJ (k1 k).2 rfl h2 h3 h4 rfl rfl⟩, fun k => ?_⟩
  obtain ⟨q1, q2, q3, q4, q5⟩ := L.read h4 k
  exact ⟨(k2 k).1, _, q2, q3, wp_of hJ (k2 k).2 q5 h2 h3 q1 q4.symm rfl⟩
theorem jm_stepR (L : Laws m) (C : Code m R a B) (hJ : ∀ {own w r P n b e f l wl rl}, Jm m R own w r P n b e f l wl rl → J own w r P n b e f l wl rl) {own : Nat → Prop} {w : World} {r : Nat} {P : Nat → Nat → Nat} {n b e f l wl rl : Nat} (h : Jm m R own w r P n b e f l wl rl) (hr : Rg a B w) (ho : ∀ k, own k → B ≤ k) :
    Calls Tryd.prog 18 #[.pointer (some ⟨r, 0, none⟩)] w fun E w' =>
      (rl = 0 → E = .returned (.tuple #[.bool false, .slice none 0 0, errV (a 4)]) ∧ Wp J own r P n b e f l wl rl w w') ∧
      (1 < rl → E = .returned (.tuple #[.bool false, .slice none 0 0, .nilIface]) ∧ Wp J own r P n b e f l wl (rl - 1) w w') ∧
      (rl = 1 → ∃ k g o c own', f ≤ k ∧ l ≤ k ∧ k ≤ b ∧ E = .returned (.tuple #[.bool true, .slice (some ⟨g, o, none⟩) n c, .nilIface]) ∧
        (∀ i, i < n → w'.cell? ⟨g, o + i, none⟩ = some (.int .u64 (P k i : Nat)) ∧ w'.frozen? ⟨g, o + i, none⟩ = false) ∧ (own g ∨ w.heap.size ≤ g) ∧ ¬ own' g ∧
        (∀ k, own' k → own k ∨ w.heap.size ≤ k) ∧ Fr own w w' ∧ J own' w' r P n b e f k wl 0) := by
  obtain ⟨s, h1, rfl, h2, h3, h4, rfl, rfl⟩ := h
  refine (C.stepR (at_of h1 h2 h3 h4 hr ho)).mono ?_
  rintro E w' ⟨k1, k2, k3⟩
  refine ⟨fun k => ⟨(k1 k).1, wp_of hJ (k1 k).2 rfl h2 h3 h4 rfl rfl⟩, fun k => ?_, fun k => ?_⟩
  · obtain ⟨q1, q2, q3, q4⟩ := L.stepR h4 k
    exact ⟨(k2 k).1, wp_of hJ (k2 k).2 q4 h2 h3 q1 q3.symm q2.symm⟩
  · obtain ⟨K, q1, q2, q3, q4, q5, q6, q7, q8⟩ := L.last h4 k
    obtain ⟨g, o, c, own', e1, e2, e3, e4, e5, e6, e7⟩ := k3 k
    refine ⟨K, g, o, c, own', q2, q3, q4, e1, fun i hi => e2 i _ ?_, e3, e4, e5, e6, hJ ⟨_, e7, q8, h2, h3, q5, q7.symm, q6.symm⟩⟩
    rw [q1]
    simp [hi]
end

/-- What New must do, of each kind. -/
structure News (R1 : RR Q1) (R2 : RR Q2) (R3 : RR Q3) (a : Nat → Addr) (B : Nat) : Prop where
  new1 : ∀ (n : Nat) (P : Nat → Nat → Nat) (v : Value) (w : World), 1 ≤ n → n ≤ 40 → Rg a B w → Ls w v n (vals P 0 n) →
    Calls Tryd.prog 15 #[.int .i64 1, v] w fun e w' => ∃ r own s, e = .returned (.tuple #[.pointer (some ⟨r, 0, none⟩), .nilIface]) ∧ (∀ k, own k → w.heap.size ≤ k) ∧ Below w.heap.size w w' ∧ R1 own w' r s ∧
      s.width = n ∧ s.latest = 0 ∧ s.reading = 0 ∧ (∀ p, s.slot p = 0) ∧ s.wph = 0 ∧ s.rph = 0 ∧ ∀ i, i < n → s.mem 0 0 i = P 0 i
  new2 : ∀ (n : Nat) (P : Nat → Nat → Nat) (v : Value) (w : World), 1 ≤ n → n ≤ 40 → Rg a B w → Ls w v n (vals P 0 n) →
    Calls Tryd.prog 15 #[.int .i64 2, v] w fun e w' => ∃ r own s, e = .returned (.tuple #[.pointer (some ⟨r, 0, none⟩), .nilIface]) ∧ (∀ k, own k → w.heap.size ≤ k) ∧ Below w.heap.size w w' ∧ R2 own w' r s ∧
      s.width = n ∧ s.wb ≠ s.mb ∧ s.wb ≠ s.rb ∧ s.mb ≠ s.rb ∧ s.wb < 3 ∧ s.mb < 3 ∧ s.rb < 3 ∧ s.fresh = false ∧ s.wph = 0 ∧ s.rph = 0 ∧ ∀ i, i < n → s.mem s.rb i = P 0 i
  new3 : ∀ (P : Nat → Nat → Nat) (v : Value) (w : World), Rg a B w → Ls w v 1 (vals P 0 1) →
    Calls Tryd.prog 15 #[.int .i64 3, v] w fun e w' => ∃ r own s, e = .returned (.tuple #[.pointer (some ⟨r, 0, none⟩), .nilIface]) ∧ (∀ k, own k → w.heap.size ≤ k) ∧ Below w.heap.size w w' ∧ R3 own w' r s ∧
      s.wph = 0 ∧ s.rph = 0 ∧ s.val = P 0 0
/-- A register of any kind. -/
def Jall (R1 : RR Q1) (R2 : RR Q2) (R3 : RR Q3) : RJ := fun own w r P n b e f l wl rl => Jm mach1 R1 own w r P n b e f l wl rl ∨ Jm mach2 R2 own w r P n b e f l wl rl ∨ Jm mach3 R3 own w r P n b e f l wl rl
theorem spec_of {R1 : RR Q1} {R2 : RR Q2} {R3 : RR Q3} {a : Nat → Addr} {B : Nat} (C1 : Code mach1 R1 a B) (C2 : Code mach2 R2 a B) (C3 : Code mach3 R3 a B) (N : News R1 R2 R3 a B) : Spec (Jall R1 R2 R3) a B where
  kept := fun h h1 h2 => h.imp (jm_kept C1 · h1 h2) (Or.imp (jm_kept C2 · h1 h2) (jm_kept C3 · h1 h2))
  own := fun h k hk => by
    rcases h with h | h | h
    · exact jm_own C1 h k hk
    · exact jm_own C2 h k hk
    · exact jm_own C3 h k hk
  new := by
    intro kind n P v w h1 h3 hn1 hn hk hr hv
    rcases (by omega : kind = 1 ∨ kind = 2 ∨ kind = 3) with rfl | rfl | rfl
    · refine (N.new1 n P v w hn1 hn hr hv).mono ?_
      rintro E w' ⟨r, own, s, e1, e2, e3, e4, rfl, q2, q3, q4, q5, q6, q7⟩
      exact ⟨r, own, e1, e2, e3, Or.inl ⟨s, e4, rfl, hn1, hn, ⟨_, _, first1 P s hn1 q2 q3 q4 q5 q6 q7⟩, by show 0 = wl1 s; simp [wl1, q5], by show 0 = rl1 s; simp [rl1, q6]⟩⟩
    · refine (N.new2 n P v w hn1 hn hr hv).mono ?_
      rintro E w' ⟨r, own, s, e1, e2, e3, e4, rfl, q2, q3, q4, q5, q6, q7, q8, q9, q10, q11⟩
      exact ⟨r, own, e1, e2, e3, Or.inr (Or.inl ⟨s, e4, rfl, hn1, hn, ⟨_, first2 P s hn1 q2 q3 q4 q5 q6 q7 q8 q9 q10 q11⟩, by show 0 = wl2 s; simp [wl2, q9], by show 0 = rl2 s; simp [rl2, q10]⟩)⟩
    · obtain rfl := hk rfl
      refine (N.new3 P v w hr hv).mono ?_
      rintro E w' ⟨r, own, s, e1, e2, e3, e4, q2, q3, q4⟩
      exact ⟨r, own, e1, e2, e3, Or.inr (Or.inr ⟨s, e4, rfl, hn1, hn, first3 P s q2 q4, (if_pos q2).symm, (if_pos q3).symm⟩)⟩
  write := fun v h hr hv ho => by
    rcases h with h | h | h
    · exact jm_write laws1 C1 (fun h => Or.inl h) v h hr hv ho
    · exact jm_write laws2 C2 (fun h => Or.inr (Or.inl h)) v h hr hv ho
    · exact jm_write laws3 C3 (fun h => Or.inr (Or.inr h)) v h hr hv ho
  stepW := fun h hr ho => by
    rcases h with h | h | h
    · exact jm_stepW laws1 C1 (fun h => Or.inl h) h hr ho
    · exact jm_stepW laws2 C2 (fun h => Or.inr (Or.inl h)) h hr ho
    · exact jm_stepW laws3 C3 (fun h => Or.inr (Or.inr h)) h hr ho
  read := fun h hr ho => by
    rcases h with h | h | h
    · exact jm_read laws1 C1 (fun h => Or.inl h) h hr ho
    · exact jm_read laws2 C2 (fun h => Or.inr (Or.inl h)) h hr ho
    · exact jm_read laws3 C3 (fun h => Or.inr (Or.inr h)) h hr ho
  stepR := fun h hr ho => by
    rcases h with h | h | h
    · exact jm_stepR laws1 C1 (fun h => Or.inl h) h hr ho
    · exact jm_stepR laws2 C2 (fun h => Or.inr (Or.inl h)) h hr ho
    · exact jm_stepR laws3 C3 (fun h => Or.inr (Or.inr h)) h hr ho

end Reg
end Go.Proofs.YtgaepakdhdfdfaaDoor
