/-
  Registers on paper: kind 1, four slots: what is read was written wholly, and is not too old.
-/
import Derived.Below
namespace Go.Proofs.YtgaepakdhdfdfaaDoor
namespace Reg

def set1 {α : Type} (f : Nat → α) (p : Nat) (v : α) : Nat → α := fun x => if x = p then v else f x
def set3 (f : Nat → Nat → Nat → Nat) (p q i v : Nat) : Nat → Nat → Nat → Nat := fun x y z => if x = p ∧ y = q ∧ z = i then v else f x y z
theorem set1_same {α : Type} (f : Nat → α) (p : Nat) (v : α) : set1 f p v p = v := if_pos rfl
theorem set1_other {α : Type} (f : Nat → α) {p x : Nat} (v : α) (h : x ≠ p) : set1 f p v x = f x := if_neg h

/-- A register of kind 1. The writer: 0 idle, 1 begun, 2 it has its pair, 3 words, 4 its slot is to be told, 5 its pair. The reader: 0 idle, 1 begun, 2 it has its pair, 3 that is told, 4 words. -/
structure Q1 where
  width : Nat
  latest : Nat
  reading : Nat
  slot : Nat → Nat
  mem : Nat → Nat → Nat → Nat
  wph : Nat
  wp : Nat
  wq : Nat
  wi : Nat
  wpay : Nat → Nat
  rph : Nat
  rp : Nat
  rq : Nat
  ri : Nat
  racc : List Nat

def write1 (s : Q1) (v : Nat → Nat) : Q1 := { s with wph := 1, wpay := v }
def stepW1 (s : Q1) : Q1 :=
  if s.wph = 1 then { s with wph := 2, wp := 1 - s.reading }
  else if s.wph = 2 then { s with wph := 3, wq := 1 - s.slot s.wp, wi := 0 }
  else if s.wph = 3 then { s with wph := if s.wi + 1 = s.width then 4 else 3, wi := s.wi + 1, mem := set3 s.mem s.wp s.wq s.wi (s.wpay s.wi) }
  else if s.wph = 4 then { s with wph := 5, slot := set1 s.slot s.wp s.wq }
  else { s with wph := 0, latest := s.wp }
def read1 (s : Q1) : Q1 := { s with rph := 1 }
def stepR1 (s : Q1) : Q1 :=
  if s.rph = 1 then { s with rph := 2, rp := s.latest }
  else if s.rph = 2 then { s with rph := 3, reading := s.rp }
  else if s.rph = 3 then { s with rph := 4, rq := s.slot s.rp, ri := 0, racc := [] }
  else { s with rph := if s.ri + 1 = s.width then 0 else 4, ri := s.ri + 1, racc := s.racc ++ [s.mem s.rp s.rq s.ri] }

/-- What holds at all times: c: the number of the payload in each slot; b begun, e ended, f floor, l last. -/
structure Inv (Y : Nat → Nat → Nat) (u : Nat → Nat → Prop) (c : Nat → Nat → Nat) (s : Q1) (b e f l : Nat) : Prop where
  w0 : 0 < s.width
  lat : s.latest < 2
  rd : s.reading < 2
  sl : ∀ p, s.slot p < 2
  wl : s.wph ≤ 5
  rl : s.rph ≤ 4
  wpl : 2 ≤ s.wph → s.wp < 2
  wql : 3 ≤ s.wph → s.wq < 2
  rpl : 2 ≤ s.rph → s.rp < 2
  rql : s.rph = 4 → s.rq < 2
  A : 3 ≤ s.rph → s.reading = s.rp
  B : 3 ≤ s.wph → s.wph ≤ 4 → s.wq = 1 - s.slot s.wp
  B5 : s.wph = 5 → s.slot s.wp = s.wq ∧ c s.wp s.wq = b ∧ u s.wp s.wq
  C : s.rph = 4 → 2 ≤ s.wph → s.wph ≤ 4 → s.wp = s.rp → s.slot s.rp = s.rq
  D : s.rph = 2 ∨ s.rph = 3 → s.rp ≠ s.latest → s.reading = s.rp ∧ (2 ≤ s.wph → s.wp ≠ s.rp)
  G : 2 ≤ s.wph → s.wp ≠ s.latest → s.reading = s.latest
  N0 : f ≤ e ∧ e ≤ b ∧ (s.wph = 0 → e = b)
  N1 : e ≤ c s.latest (s.slot s.latest)
  cb : ∀ p q, c p q ≤ b
  N2 : ¬ (s.wph = 5 ∧ s.wp ≠ s.latest) → c (1 - s.latest) (s.slot (1 - s.latest)) ≤ c s.latest (s.slot s.latest)
  N4 : l ≤ c s.latest (s.slot s.latest)
  N5 : s.rph = 4 → c s.rp s.rq ≤ c s.latest (s.slot s.latest) ∧ f ≤ c s.rp s.rq ∧ l ≤ c s.rp s.rq
  N7 : s.rph = 2 ∨ s.rph = 3 → f ≤ c s.rp (s.slot s.rp) ∧ l ≤ c s.rp (s.slot s.rp)
  U : u s.latest (s.slot s.latest) ∧ (s.rph = 2 ∨ s.rph = 3 → u s.rp (s.slot s.rp)) ∧ (s.rph = 4 → u s.rp s.rq)
  M : ∀ p q, p < 2 → q < 2 → u p q → ¬ (3 ≤ s.wph ∧ s.wph ≤ 4 ∧ p = s.wp ∧ q = s.wq) → ∀ i, i < s.width → s.mem p q i = Y (c p q) i
  M3 : s.wph = 3 → s.wi < s.width ∧ ∀ i, i < s.wi → s.mem s.wp s.wq i = Y b i
  M4 : s.wph = 4 → ∀ i, i < s.width → s.mem s.wp s.wq i = Y b i
  P : s.wph ≠ 0 → ∀ i, i < s.width → s.wpay i = Y b i
  R : s.rph = 4 → s.ri < s.width ∧ s.racc = (List.range s.ri).map (Y (c s.rp s.rq))

/-- The slot that is read is not the one that is written. -/
theorem Inv.apart {Y : Nat → Nat → Nat} {u : Nat → Nat → Prop} {c : Nat → Nat → Nat} {s : Q1} {b e f l : Nat} (h : Inv Y u c s b e f l) (hr : s.rph = 4) : ¬ (3 ≤ s.wph ∧ s.wph ≤ 4 ∧ s.rp = s.wp ∧ s.rq = s.wq) := by
  rintro ⟨h1, h2, h3, h4⟩
  have h5 := h.C hr (by omega) h2 h3.symm
  have h6 := h.B h1 h2
  have h7 := h.sl s.wp
  rw [h3] at h5
  omega

theorem write1_inv {Y : Nat → Nat → Nat} {u : Nat → Nat → Prop} {c : Nat → Nat → Nat} {s : Q1} {b e f l : Nat} (h : Inv Y u c s b e f l) (h0 : s.wph = 0) (v : Nat → Nat) (hv : ∀ i, i < s.width → v i = Y (b + 1) i) : Inv Y u c (write1 s v) (b + 1) e f l where
  w0 := h.w0
  lat := h.lat
  rd := h.rd
  sl := h.sl
  wl := by show 1 ≤ 5; decide
  rl := h.rl
  wpl := fun k => by have k' : 2 ≤ 1 := k; omega
  wql := fun k => by have k' : 3 ≤ 1 := k; omega
  rpl := h.rpl
  rql := h.rql
  A := h.A
  B := fun k => by have k' : 3 ≤ 1 := k; omega
  B5 := fun k => by have k' : 1 = 5 := k; omega
  C := fun _ k => by have k' : 2 ≤ 1 := k; omega
  D := fun k1 k2 => ⟨(h.D k1 k2).1, fun k => by have k' : 2 ≤ 1 := k; omega⟩
  G := fun k => by have k' : 2 ≤ 1 := k; omega
  N0 := ⟨h.N0.1, by have := h.N0.2.1; omega, fun k => by have k' : 1 = 0 := k; omega⟩
  N1 := h.N1
  cb := fun p q => by have := h.cb p q; omega
  N2 := fun _ => h.N2 (fun k => by omega)
  N4 := h.N4
  N5 := h.N5
  N7 := h.N7
  U := h.U
  M := fun p q hp hq hu _ => h.M p q hp hq hu (fun k => by omega)
  M3 := fun k => by have k' : 1 = 3 := k; omega
  M4 := fun k => by have k' : 1 = 4 := k; omega
  P := fun _ => hv
  R := h.R

theorem read1_inv {Y : Nat → Nat → Nat} {u : Nat → Nat → Prop} {c : Nat → Nat → Nat} {s : Q1} {b e f l : Nat} (h : Inv Y u c s b e f l) : Inv Y u c (read1 s) b e e l where
  w0 := h.w0
  lat := h.lat
  rd := h.rd
  sl := h.sl
  wl := h.wl
  rl := by show 1 ≤ 4; decide
  wpl := h.wpl
  wql := h.wql
  rpl := fun k => by have k' : 2 ≤ 1 := k; omega
  rql := fun k => by have k' : 1 = 4 := k; omega
  A := fun k => by have k' : 3 ≤ 1 := k; omega
  B := h.B
  B5 := h.B5
  C := fun k => by have k' : 1 = 4 := k; omega
  D := fun k => by have k' : 1 = 2 ∨ 1 = 3 := k; omega
  G := h.G
  N0 := ⟨Nat.le_refl _, h.N0.2⟩
  N1 := h.N1
  cb := h.cb
  N2 := h.N2
  N4 := h.N4
  N5 := fun k => by have k' : 1 = 4 := k; omega
  N7 := fun k => by have k' : 1 = 2 ∨ 1 = 3 := k; omega
  U := ⟨h.U.1, fun k => by have k' : 1 = 2 ∨ 1 = 3 := k; omega, fun k => by have k' : 1 = 4 := k; omega⟩
  M := h.M
  M3 := h.M3
  M4 := h.M4
  P := h.P
  R := fun k => by have k' : 1 = 4 := k; omega

theorem stepW1_1 {Y : Nat → Nat → Nat} {u : Nat → Nat → Prop} {c : Nat → Nat → Nat} {s : Q1} {b e f l : Nat} (h : Inv Y u c s b e f l) (hw : s.wph = 1) : Inv Y u c { s with wph := 2, wp := 1 - s.reading } b e f l where
  w0 := h.w0
  lat := h.lat
  rd := h.rd
  sl := h.sl
  wl := by show 2 ≤ 5; decide
  rl := h.rl
  wpl := fun _ => by show 1 - s.reading < 2; omega
  wql := fun k => by have k' : 3 ≤ 2 := k; omega
  rpl := h.rpl
  rql := h.rql
  A := h.A
  B := fun k => by have k' : 3 ≤ 2 := k; omega
  B5 := fun k => by have k' : 2 = 5 := k; omega
  C := fun k1 _ _ k4 => by
    have k1' : s.rph = 4 := k1
    have k4' : 1 - s.reading = s.rp := k4
    have := h.A (by omega)
    have := h.rd
    omega
  D := fun k1 k2 => by
    have a := (h.D k1 k2).1
    refine ⟨a, fun _ => ?_⟩
    show 1 - s.reading ≠ s.rp
    have := h.rd
    omega
  G := fun _ k => by
    have k' : 1 - s.reading ≠ s.latest := k
    show s.reading = s.latest
    have := h.rd
    have := h.lat
    omega
  N0 := ⟨h.N0.1, h.N0.2.1, fun k => by have k' : 2 = 0 := k; omega⟩
  N1 := h.N1
  cb := h.cb
  N2 := fun _ => h.N2 (fun k => by omega)
  N4 := h.N4
  N5 := h.N5
  N7 := h.N7
  U := h.U
  M := fun p q hp hq hu _ => h.M p q hp hq hu (fun k => by omega)
  M3 := fun k => by have k' : 2 = 3 := k; omega
  M4 := fun k => by have k' : 2 = 4 := k; omega
  P := fun _ => h.P (by omega)
  R := h.R

theorem stepW1_2 {Y : Nat → Nat → Nat} {u : Nat → Nat → Prop} {c : Nat → Nat → Nat} {s : Q1} {b e f l : Nat} (h : Inv Y u c s b e f l) (hw : s.wph = 2) : Inv Y u c { s with wph := 3, wq := 1 - s.slot s.wp, wi := 0 } b e f l where
  w0 := h.w0
  lat := h.lat
  rd := h.rd
  sl := h.sl
  wl := by show 3 ≤ 5; decide
  rl := h.rl
  wpl := fun _ => h.wpl (by omega)
  wql := fun _ => by show 1 - s.slot s.wp < 2; omega
  rpl := h.rpl
  rql := h.rql
  A := h.A
  B := fun _ _ => rfl
  B5 := fun k => by have k' : 3 = 5 := k; omega
  C := fun k1 _ _ k4 => h.C k1 (by omega) (by omega) k4
  D := fun k1 k2 => ⟨(h.D k1 k2).1, fun _ => (h.D k1 k2).2 (by omega)⟩
  G := fun _ k => h.G (by omega) k
  N0 := ⟨h.N0.1, h.N0.2.1, fun k => by have k' : 3 = 0 := k; omega⟩
  N1 := h.N1
  cb := h.cb
  N2 := fun _ => h.N2 (fun k => by omega)
  N4 := h.N4
  N5 := h.N5
  N7 := h.N7
  U := h.U
  M := fun p q hp hq hu _ => h.M p q hp hq hu (fun k => by omega)
  M3 := fun _ => ⟨h.w0, fun i hi => by have hi' : i < 0 := hi; omega⟩
  M4 := fun k => by have k' : 3 = 4 := k; omega
  P := fun _ => h.P (by omega)
  R := h.R

theorem stepW1_3 {Y : Nat → Nat → Nat} {u : Nat → Nat → Prop} {c : Nat → Nat → Nat} {s : Q1} {b e f l : Nat} (h : Inv Y u c s b e f l) (hw : s.wph = 3) : Inv Y u c { s with wph := if s.wi + 1 = s.width then 4 else 3, wi := s.wi + 1, mem := set3 s.mem s.wp s.wq s.wi (s.wpay s.wi) } b e f l := by
  have w34 : (if s.wi + 1 = s.width then 4 else 3) = 3 ∨ (if s.wi + 1 = s.width then 4 else 3) = 4 := by split <;> simp
  have same : ∀ i, i < s.wi + 1 → set3 s.mem s.wp s.wq s.wi (s.wpay s.wi) s.wp s.wq i = Y b i := fun i hi => by
    unfold set3
    by_cases e : i = s.wi
    · rw [if_pos ⟨rfl, rfl, e⟩, e]
      exact h.P (by omega) _ (h.M3 hw).1
    · rw [if_neg (fun k => e k.2.2)]
      exact (h.M3 hw).2 i (by omega)
  have other : ∀ p q i, ¬ (p = s.wp ∧ q = s.wq) → set3 s.mem s.wp s.wq s.wi (s.wpay s.wi) p q i = s.mem p q i := fun p q i k => by
    unfold set3
    rw [if_neg (fun j => k ⟨j.1, j.2.1⟩)]
  exact {
    w0 := h.w0
    lat := h.lat
    rd := h.rd
    sl := h.sl
    wl := by show (if s.wi + 1 = s.width then 4 else 3) ≤ 5; omega
    rl := h.rl
    wpl := fun _ => h.wpl (by omega)
    wql := fun _ => h.wql (by omega)
    rpl := h.rpl
    rql := h.rql
    A := h.A
    B := fun _ _ => h.B (by omega) (by omega)
    B5 := fun k => by have k' : (if s.wi + 1 = s.width then 4 else 3) = 5 := k; omega
    C := fun k1 _ _ k4 => h.C k1 (by omega) (by omega) k4
    D := fun k1 k2 => ⟨(h.D k1 k2).1, fun _ => (h.D k1 k2).2 (by omega)⟩
    G := fun _ k => h.G (by omega) k
    N0 := ⟨h.N0.1, h.N0.2.1, fun k => by have k' : (if s.wi + 1 = s.width then 4 else 3) = 0 := k; omega⟩
    N1 := h.N1
    cb := h.cb
    N2 := fun _ => h.N2 (fun k => by omega)
    N4 := h.N4
    N5 := h.N5
    N7 := h.N7
    U := h.U
    M := fun p q hp hq hu k i hi => by
      have k' : ¬ (p = s.wp ∧ q = s.wq) := fun j => k ⟨by show 3 ≤ (if s.wi + 1 = s.width then 4 else 3); omega, by show (if s.wi + 1 = s.width then 4 else 3) ≤ 4; omega, j.1, j.2⟩
      show set3 s.mem s.wp s.wq s.wi (s.wpay s.wi) p q i = _
      rw [other p q i k']
      exact h.M p q hp hq hu (fun j => k' ⟨j.2.2.1, j.2.2.2⟩) i hi
    M3 := fun k => by
      have k' : (if s.wi + 1 = s.width then 4 else 3) = 3 := k
      refine ⟨?_, same⟩
      show s.wi + 1 < s.width
      have := (h.M3 hw).1
      split at k'
      · omega
      · omega
    M4 := fun k => by
      have k' : (if s.wi + 1 = s.width then 4 else 3) = 4 := k
      intro i hi
      refine same i ?_
      have hi' : i < s.width := hi
      split at k'
      · omega
      · omega
    P := fun _ => h.P (by omega)
    R := h.R }

/-- The slots that were told. -/
def tells (u : Nat → Nat → Prop) (p q : Nat) : Nat → Nat → Prop := fun x y => (x = p ∧ y = q) ∨ u x y
/-- The number of a slot that is told now. -/
def told (c : Nat → Nat → Nat) (p q b : Nat) : Nat → Nat → Nat := fun x y => if x = p ∧ y = q then b else c x y
theorem stepW1_4 {Y : Nat → Nat → Nat} {u : Nat → Nat → Prop} {c : Nat → Nat → Nat} {s : Q1} {b e f l : Nat} (h : Inv Y u c s b e f l) (hw : s.wph = 4) : Inv Y (tells u s.wp s.wq) (told c s.wp s.wq b) { s with wph := 5, slot := set1 s.slot s.wp s.wq } b e f l := by
  have hB := h.B (by omega) (by omega)
  have hsl := h.sl s.wp
  have now : ∀ p, told c s.wp s.wq b p (set1 s.slot s.wp s.wq p) = if p = s.wp then b else c p (s.slot p) := fun p => by
    unfold told
    by_cases e : p = s.wp
    · rw [e, set1_same, if_pos ⟨rfl, rfl⟩, if_pos rfl]
    · rw [set1_other _ _ e, if_neg (fun k => e k.1), if_neg e]
  have up : ∀ p, c p (s.slot p) ≤ told c s.wp s.wq b p (set1 s.slot s.wp s.wq p) := fun p => by
    rw [now]
    split
    · exact h.cb _ _
    · exact Nat.le_refl _
  have rk : s.rph = 4 → told c s.wp s.wq b s.rp s.rq = c s.rp s.rq := fun k => by
    unfold told
    rw [if_neg (fun j => h.apart k ⟨by omega, by omega, j.1, j.2⟩)]
  have lt := up s.latest
  exact {
    w0 := h.w0
    lat := h.lat
    rd := h.rd
    sl := fun p => by
      show set1 s.slot s.wp s.wq p < 2
      unfold set1
      split
      · exact h.wql (by omega)
      · exact h.sl p
    wl := by show 5 ≤ 5; decide
    rl := h.rl
    wpl := fun _ => h.wpl (by omega)
    wql := fun _ => h.wql (by omega)
    rpl := h.rpl
    rql := h.rql
    A := h.A
    B := fun _ k => by have k' : 5 ≤ 4 := k; omega
    B5 := fun _ => ⟨set1_same _ _ _, by show told c s.wp s.wq b s.wp s.wq = b; exact if_pos ⟨rfl, rfl⟩, Or.inl ⟨rfl, rfl⟩⟩
    C := fun _ _ k => by have k' : 5 ≤ 4 := k; omega
    D := fun k1 k2 => ⟨(h.D k1 k2).1, fun _ => (h.D k1 k2).2 (by omega)⟩
    G := fun _ k => h.G (by omega) k
    N0 := ⟨h.N0.1, h.N0.2.1, fun k => by have k' : 5 = 0 := k; omega⟩
    N1 := Nat.le_trans h.N1 lt
    cb := fun p q => by
      unfold told
      split
      · exact Nat.le_refl _
      · exact h.cb p q
    N2 := fun k => by
      have k' : s.wp = s.latest := by
        rcases Nat.decEq s.wp s.latest with j | j
        · exact absurd ⟨rfl, j⟩ k
        · exact j
      show told c s.wp s.wq b (1 - s.latest) (set1 s.slot s.wp s.wq (1 - s.latest)) ≤ told c s.wp s.wq b s.latest (set1 s.slot s.wp s.wq s.latest)
      rw [now s.latest, if_pos k'.symm, now]
      split
      · exact Nat.le_refl _
      · exact h.cb _ _
    N4 := Nat.le_trans h.N4 lt
    N5 := fun k => by
      obtain ⟨a1, a2, a3⟩ := h.N5 k
      show told c s.wp s.wq b s.rp s.rq ≤ _ ∧ f ≤ told c s.wp s.wq b s.rp s.rq ∧ l ≤ told c s.wp s.wq b s.rp s.rq
      rw [rk k]
      exact ⟨Nat.le_trans a1 lt, a2, a3⟩
    N7 := fun k => by
      obtain ⟨a1, a2⟩ := h.N7 k
      exact ⟨Nat.le_trans a1 (up s.rp), Nat.le_trans a2 (up s.rp)⟩
    U := by
      have q : ∀ p, u p (s.slot p) → tells u s.wp s.wq p (set1 s.slot s.wp s.wq p) := fun p k => by
        by_cases e : p = s.wp
        · rw [e, set1_same]; exact Or.inl ⟨rfl, rfl⟩
        · rw [set1_other _ _ e]; exact Or.inr k
      exact ⟨q _ h.U.1, fun k => q _ (h.U.2.1 k), fun k => Or.inr (h.U.2.2 k)⟩
    M := fun p q hp hq hu _ i hi => by
      show s.mem p q i = Y (told c s.wp s.wq b p q) i
      unfold told
      by_cases j : p = s.wp ∧ q = s.wq
      · rw [if_pos j, j.1, j.2]
        exact h.M4 hw i hi
      · rw [if_neg j]
        exact h.M p q hp hq (hu.resolve_left j) (fun k => j ⟨k.2.2.1, k.2.2.2⟩) i hi
    M3 := fun k => by have k' : 5 = 3 := k; omega
    M4 := fun k => by have k' : 5 = 4 := k; omega
    P := fun _ => h.P (by omega)
    R := fun k => by
      obtain ⟨a1, a2⟩ := h.R k
      refine ⟨a1, ?_⟩
      show s.racc = (List.range s.ri).map (Y (told c s.wp s.wq b s.rp s.rq))
      rw [rk k]
      exact a2 }

theorem stepW1_5 {Y : Nat → Nat → Nat} {u : Nat → Nat → Prop} {c : Nat → Nat → Nat} {s : Q1} {b e f l : Nat} (h : Inv Y u c s b e f l) (hw : s.wph = 5) : Inv Y u c { s with wph := 0, latest := s.wp } b b f l := by
  obtain ⟨h1, h2, hu5⟩ := h.B5 hw
  have hn : c s.wp (s.slot s.wp) = b := by rw [h1]; exact h2
  have hwp := h.wpl (by omega)
  have hlat := h.lat
  have h0 := h.N0
  exact {
    w0 := h.w0
    lat := hwp
    rd := h.rd
    sl := h.sl
    wl := by show 0 ≤ 5; decide
    rl := h.rl
    wpl := fun k => by have k' : 2 ≤ 0 := k; omega
    wql := fun k => by have k' : 3 ≤ 0 := k; omega
    rpl := h.rpl
    rql := h.rql
    A := h.A
    B := fun k => by have k' : 3 ≤ 0 := k; omega
    B5 := fun k => by have k' : 0 = 5 := k; omega
    C := fun _ k => by have k' : 2 ≤ 0 := k; omega
    D := fun k1 k2 => by
      have k2' : s.rp ≠ s.wp := k2
      refine ⟨?_, fun k => by have k' : 2 ≤ 0 := k; omega⟩
      show s.reading = s.rp
      by_cases j : s.rp = s.latest
      · rw [h.G (by omega) (by omega), j]
      · exact (h.D k1 j).1
    G := fun k => by have k' : 2 ≤ 0 := k; omega
    N0 := ⟨by omega, Nat.le_refl _, fun _ => rfl⟩
    N1 := by show b ≤ c s.wp (s.slot s.wp); omega
    cb := h.cb
    N2 := fun _ => by
      show c (1 - s.wp) (s.slot (1 - s.wp)) ≤ c s.wp (s.slot s.wp)
      rw [hn]; exact h.cb _ _
    N4 := by
      show l ≤ c s.wp (s.slot s.wp)
      rw [hn]
      exact Nat.le_trans h.N4 (h.cb _ _)
    N5 := fun k => by
      obtain ⟨_, a2, a3⟩ := h.N5 k
      refine ⟨?_, a2, a3⟩
      show c s.rp s.rq ≤ c s.wp (s.slot s.wp)
      rw [hn]; exact h.cb _ _
    N7 := h.N7
    U := ⟨by show u s.wp (s.slot s.wp); rw [h1]; exact hu5, h.U.2⟩
    M := fun p q hp hq hu _ => h.M p q hp hq hu (fun k => by omega)
    M3 := fun k => by have k' : 0 = 3 := k; omega
    M4 := fun k => by have k' : 0 = 4 := k; omega
    P := fun k => absurd rfl k
    R := h.R }

theorem stepR1_1 {Y : Nat → Nat → Nat} {u : Nat → Nat → Prop} {c : Nat → Nat → Nat} {s : Q1} {b e f l : Nat} (h : Inv Y u c s b e f l) : Inv Y u c { s with rph := 2, rp := s.latest } b e f l where
  w0 := h.w0
  lat := h.lat
  rd := h.rd
  sl := h.sl
  wl := h.wl
  rl := by show 2 ≤ 4; decide
  wpl := h.wpl
  wql := h.wql
  rpl := fun _ => h.lat
  rql := fun k => by have k' : 2 = 4 := k; omega
  A := fun k => by have k' : 3 ≤ 2 := k; omega
  B := h.B
  B5 := h.B5
  C := fun k => by have k' : 2 = 4 := k; omega
  D := fun _ k => absurd rfl k
  G := h.G
  N0 := h.N0
  N1 := h.N1
  cb := h.cb
  N2 := h.N2
  N4 := h.N4
  N5 := fun k => by have k' : 2 = 4 := k; omega
  N7 := fun _ => ⟨Nat.le_trans h.N0.1 h.N1, h.N4⟩
  U := ⟨h.U.1, fun _ => h.U.1, fun k => by have k' : 2 = 4 := k; omega⟩
  M := h.M
  M3 := h.M3
  M4 := h.M4
  P := h.P
  R := fun k => by have k' : 2 = 4 := k; omega

theorem stepR1_2 {Y : Nat → Nat → Nat} {u : Nat → Nat → Prop} {c : Nat → Nat → Nat} {s : Q1} {b e f l : Nat} (h : Inv Y u c s b e f l) (hr : s.rph = 2) : Inv Y u c { s with rph := 3, reading := s.rp } b e f l where
  w0 := h.w0
  lat := h.lat
  rd := h.rpl (by omega)
  sl := h.sl
  wl := h.wl
  rl := by show 3 ≤ 4; decide
  wpl := h.wpl
  wql := h.wql
  rpl := fun _ => h.rpl (by omega)
  rql := fun k => by have k' : 3 = 4 := k; omega
  A := fun _ => rfl
  B := h.B
  B5 := h.B5
  C := fun k => by have k' : 3 = 4 := k; omega
  D := fun _ k => ⟨rfl, (h.D (Or.inl hr) k).2⟩
  G := fun k1 k2 => by
    show s.rp = s.latest
    by_cases j : s.rp = s.latest
    · exact j
    · have a := (h.D (Or.inl hr) j).2 k1
      have k2' : s.wp ≠ s.latest := k2
      have := h.wpl k1
      have := h.rpl (by omega)
      have := h.lat
      omega
  N0 := h.N0
  N1 := h.N1
  cb := h.cb
  N2 := h.N2
  N4 := h.N4
  N5 := fun k => by have k' : 3 = 4 := k; omega
  N7 := fun _ => h.N7 (Or.inl hr)
  U := ⟨h.U.1, fun _ => h.U.2.1 (Or.inl hr), fun k => by have k' : 3 = 4 := k; omega⟩
  M := h.M
  M3 := h.M3
  M4 := h.M4
  P := h.P
  R := fun k => by have k' : 3 = 4 := k; omega

theorem stepR1_3 {Y : Nat → Nat → Nat} {u : Nat → Nat → Prop} {c : Nat → Nat → Nat} {s : Q1} {b e f l : Nat} (h : Inv Y u c s b e f l) (hr : s.rph = 3) : Inv Y u c { s with rph := 4, rq := s.slot s.rp, ri := 0, racc := [] } b e f l where
  w0 := h.w0
  lat := h.lat
  rd := h.rd
  sl := h.sl
  wl := h.wl
  rl := by show 4 ≤ 4; decide
  wpl := h.wpl
  wql := h.wql
  rpl := fun _ => h.rpl (by omega)
  rql := fun _ => h.sl s.rp
  A := fun _ => h.A (by omega)
  B := h.B
  B5 := h.B5
  C := fun _ _ _ _ => rfl
  D := fun k => by have k' : 4 = 2 ∨ 4 = 3 := k; omega
  G := h.G
  N0 := h.N0
  N1 := h.N1
  cb := h.cb
  N2 := h.N2
  N4 := h.N4
  N5 := fun _ => by
    obtain ⟨a1, a2⟩ := h.N7 (Or.inr hr)
    refine ⟨?_, a1, a2⟩
    show c s.rp (s.slot s.rp) ≤ c s.latest (s.slot s.latest)
    by_cases j : s.rp = s.latest
    · rw [j]; exact Nat.le_refl _
    · have hd := (h.D (Or.inr hr) j).2
      have hrp := h.rpl (by omega)
      have hlat := h.lat
      have e : s.rp = 1 - s.latest := by omega
      have n2 := h.N2 (fun k => by
        have a := hd (by omega)
        have := h.wpl (by omega)
        have := k.2
        omega)
      rw [← e] at n2
      exact n2
  N7 := fun k => by have k' : 4 = 2 ∨ 4 = 3 := k; omega
  U := ⟨h.U.1, fun k => by have k' : 4 = 2 ∨ 4 = 3 := k; omega, fun _ => h.U.2.1 (Or.inr hr)⟩
  M := h.M
  M3 := h.M3
  M4 := h.M4
  P := h.P
  R := fun _ => ⟨h.w0, rfl⟩

theorem range_snoc (n : Nat) (g : Nat → Nat) : (List.range (n + 1)).map g = (List.range n).map g ++ [g n] := by rw [List.range_succ, List.map_append]; rfl
/-- A word more is read: it is that of the payload. -/
theorem Inv.word {Y : Nat → Nat → Nat} {u : Nat → Nat → Prop} {c : Nat → Nat → Nat} {s : Q1} {b e f l : Nat} (h : Inv Y u c s b e f l) (hr : s.rph = 4) : s.racc ++ [s.mem s.rp s.rq s.ri] = (List.range (s.ri + 1)).map (Y (c s.rp s.rq)) := by
  obtain ⟨a1, a2⟩ := h.R hr
  rw [range_snoc, a2, h.M s.rp s.rq (h.rpl (by omega)) (h.rql hr) (h.U.2.2 hr) (fun k => h.apart hr k) s.ri a1]
theorem stepR1_4 {Y : Nat → Nat → Nat} {u : Nat → Nat → Prop} {c : Nat → Nat → Nat} {s : Q1} {b e f l : Nat} (h : Inv Y u c s b e f l) (hr : s.rph = 4) (hn : s.ri + 1 ≠ s.width) : Inv Y u c { s with rph := 4, ri := s.ri + 1, racc := s.racc ++ [s.mem s.rp s.rq s.ri] } b e f l where
  w0 := h.w0
  lat := h.lat
  rd := h.rd
  sl := h.sl
  wl := h.wl
  rl := by show 4 ≤ 4; decide
  wpl := h.wpl
  wql := h.wql
  rpl := fun _ => h.rpl (by omega)
  rql := fun _ => h.rql hr
  A := fun _ => h.A (by omega)
  B := h.B
  B5 := h.B5
  C := fun _ => h.C hr
  D := fun k => by have k' : 4 = 2 ∨ 4 = 3 := k; omega
  G := h.G
  N0 := h.N0
  N1 := h.N1
  cb := h.cb
  N2 := h.N2
  N4 := h.N4
  N5 := fun _ => h.N5 hr
  N7 := fun k => by have k' : 4 = 2 ∨ 4 = 3 := k; omega
  U := ⟨h.U.1, fun k => by have k' : 4 = 2 ∨ 4 = 3 := k; omega, fun _ => h.U.2.2 hr⟩
  M := h.M
  M3 := h.M3
  M4 := h.M4
  P := h.P
  R := fun _ => ⟨by show s.ri + 1 < s.width; have := (h.R hr).1; omega, h.word hr⟩
/-- The last word: what was read is a payload, whole and fresh. -/
theorem stepR1_end {Y : Nat → Nat → Nat} {u : Nat → Nat → Prop} {c : Nat → Nat → Nat} {s : Q1} {b e f l : Nat} (h : Inv Y u c s b e f l) (hr : s.rph = 4) (hn : s.ri + 1 = s.width) :
    ∃ k, s.racc ++ [s.mem s.rp s.rq s.ri] = (List.range s.width).map (Y k) ∧ f ≤ k ∧ l ≤ k ∧ k ≤ b ∧ Inv Y u c { s with rph := 0, ri := s.ri + 1, racc := s.racc ++ [s.mem s.rp s.rq s.ri] } b e f k := by
  obtain ⟨a1, a2, a3⟩ := h.N5 hr
  refine ⟨c s.rp s.rq, by rw [h.word hr, hn], a2, a3, h.cb _ _, ?_⟩
  exact {
    w0 := h.w0
    lat := h.lat
    rd := h.rd
    sl := h.sl
    wl := h.wl
    rl := by show 0 ≤ 4; decide
    wpl := h.wpl
    wql := h.wql
    rpl := fun k => by have k' : 2 ≤ 0 := k; omega
    rql := fun k => by have k' : 0 = 4 := k; omega
    A := fun k => by have k' : 3 ≤ 0 := k; omega
    B := h.B
    B5 := h.B5
    C := fun k => by have k' : 0 = 4 := k; omega
    D := fun k => by have k' : 0 = 2 ∨ 0 = 3 := k; omega
    G := h.G
    N0 := h.N0
    N1 := h.N1
    cb := h.cb
    N2 := h.N2
    N4 := a1
    N5 := fun k => by have k' : 0 = 4 := k; omega
    N7 := fun k => by have k' : 0 = 2 ∨ 0 = 3 := k; omega
    U := ⟨h.U.1, fun k => by have k' : 0 = 2 ∨ 0 = 3 := k; omega, fun k => by have k' : 0 = 4 := k; omega⟩
    M := h.M
    M3 := h.M3
    M4 := h.M4
    P := h.P
    R := fun k => by have k' : 0 = 4 := k; omega }

/-- A register of kind 1 at first. -/
theorem first1 (Y : Nat → Nat → Nat) (s : Q1) (hw : 0 < s.width) (h1 : s.latest = 0) (h2 : s.reading = 0) (h3 : ∀ p, s.slot p = 0) (h4 : s.wph = 0) (h5 : s.rph = 0) (h6 : ∀ i, i < s.width → s.mem 0 0 i = Y 0 i) : Inv Y (fun p q => p = 0 ∧ q = 0) (fun _ _ => 0) s 0 0 0 0 where
  w0 := hw
  lat := by omega
  rd := by omega
  sl := fun p => by rw [h3]; decide
  wl := by omega
  rl := by omega
  wpl := fun k => by omega
  wql := fun k => by omega
  rpl := fun k => by omega
  rql := fun k => by omega
  A := fun k => by omega
  B := fun k => by omega
  B5 := fun k => by omega
  C := fun k => by omega
  D := fun k => by omega
  G := fun k => by omega
  N0 := ⟨Nat.le_refl _, Nat.le_refl _, fun _ => rfl⟩
  N1 := Nat.le_refl _
  cb := fun _ _ => Nat.le_refl _
  N2 := fun _ => Nat.le_refl _
  N4 := Nat.le_refl _
  N5 := fun k => by omega
  N7 := fun k => by omega
  U := ⟨⟨h1, h3 _⟩, fun k => by omega, fun k => by omega⟩
  M := fun p q _ _ hu _ i hi => by rw [hu.1, hu.2]; exact h6 i hi
  M3 := fun k => by omega
  M4 := fun k => by omega
  P := fun k => absurd h4 k
  R := fun k => by omega

end Reg
end Go.Proofs.YtgaepakdhdfdfaaDoor
