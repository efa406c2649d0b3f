/-
  Dl, Dm, Ea, Eb, Ec, in one.
-/
import Derived.Test.YtibbjohkiigffaaGreatDoorFa
import Derived.Test.YtibbjohkiigffaaGreatDoorDk1
import Derived.BigQuiet
namespace Go.Proofs.YtibbjohkiigffaaGreatDoor
open Go.RowKit

theorem last_pos (al : Nat → Addr) (x : Addr) : ∀ n, 1 ≤ lastOf al x n
  | 0 => by show (1 : Int) ≤ 14; decide
  | j + 1 => by
    show (1 : Int) ≤ if x = al j then (j : Int) + 1 else lastOf al x j
    split
    · omega
    · exact last_pos al x j
theorem last_at (al : Nat → Addr) (i : Nat) (hd : ∀ k, k ≠ i → al i ≠ al k) : ∀ n, i < n → lastOf al (al i) n = (i : Int) + 1
  | 0, h => by omega
  | j + 1, h => by
    show (if al i = al j then (j : Int) + 1 else lastOf al (al i) j) = _
    by_cases e : j = i
    · subst e; rw [if_pos rfl]
    · rw [if_neg (hd j e)]
      exact last_at al i hd j (by omega)

/-- plain.Compile's own variable. -/
structure Pf (w W : World) : Prop where
  b0 : W.heap[w.heap.size]? = some (.cells #[.int .i64 0, .int .i64 0] 27 (0, 0))
  bl : Below w.heap.size w W
theorem Pf.keep {w W W' : World} (h : Pf w W) (k : Below W.heap.size W W') : Pf w W' := ⟨(k.block _ (Array.getElem?_eq_some_iff.1 h.b0).1).trans h.b0, h.bl.trans (k.mono h.bl.size)⟩
theorem Pf.cells {w W : World} (h : Pf w W) : W.cell? ⟨w.heap.size, 0, none⟩ = some (.int .i64 0) ∧ W.cell? ⟨w.heap.size, 1, none⟩ = some (.int .i64 0) ∧ ∀ o, W.frozen? ⟨w.heap.size, o, none⟩ = false := by
  refine ⟨?_, ?_, fun o => ?_⟩
  · rw [cell_of_row W _ 0 _ _ _ h.b0]; rfl
  · rw [cell_of_row W _ 1 _ _ _ h.b0]; rfl
  · unfold World.frozen?; rw [h.b0]; simp
theorem Pf.set {w W : World} (h : Pf w W) (u v : Value) : Below w.heap.size w ((W.setCell ⟨w.heap.size, 0, none⟩ u).setCell ⟨w.heap.size, 1, none⟩ v) :=
  (h.bl.setCell (p := ⟨w.heap.size, 0, none⟩) (Nat.le_refl _) u).setCell (p := ⟨w.heap.size, 1, none⟩) (Nat.le_refl _) v
theorem Pf.r0 {w W : World} (h : Pf w W) (u : Value) : (W.setCell ⟨w.heap.size, 0, none⟩ u).cell? ⟨w.heap.size, 0, none⟩ = some u := World.cell?_setCell_same _ _ _ h.cells.1
theorem Pf.r1 {w W : World} (h : Pf w W) (u v : Value) : ((W.setCell ⟨w.heap.size, 0, none⟩ u).setCell ⟨w.heap.size, 1, none⟩ v).cell? ⟨w.heap.size, 1, none⟩ = some v :=
  World.cell?_setCell_same _ _ _ ((World.cell?_setCell_other _ ⟨w.heap.size, 0, none⟩ ⟨w.heap.size, 1, none⟩ _ (fun e => by simp at e)).trans h.cells.2.1)

/-- The errors' numbers, one on. -/
abbrev up1 (al : Nat → Addr) : Nat → Addr := fun k => al (k - 1)
theorem Errs.ce {al : Nat → Addr} {w : World} (h : Errs al w) : Ce (up1 al) w := ⟨h.size, h.c4, h.c5, h.c6, h.c7, h.c8, h.c9⟩
theorem Lst.other {w w' : World} {v : Value} {L : List Nat} {k : Nat} {cur : Array Value} {t : TypeId} {p : Nat × Nat} (h : Lst w v L) (fr : Fr (fun i => i = k) w w') (hk : w.heap[k]? = some (.cells cur t p)) (ht : t ≠ 3) : Lst w' v L := by
  rcases h with h | ⟨g2, cap, e, rfl, ⟨cur2, h3⟩, h4⟩
  · exact Or.inl h
  · have hn : ¬ g2 = k := fun e => heap_nt h3 hk (fun e => ht e.symm) e
    exact Or.inr ⟨g2, cap, e, rfl, ⟨cur2, (fr.block g2 (lt_of_heap h3) hn).trans h3⟩, fun j x hx => fr.held (h4 j x hx) hn⟩
theorem Prg.other {N : Nat} {l : List Mip.It} {w w' : World} {P k : Nat} {cur : Array Value} {p : Nat × Nat} (h : Prg N l w P) (fr : Fr (fun i => i = k) w w') (hk : w.heap[k]? = some (.cells cur 27 p)) : Prg N l w' P := by
  obtain ⟨fv, tv, U, B, B', h1, h2, h3⟩ := h.blk
  refine ⟨h.ok, h.len, fv, tv, U, B, B', (fr.block P (lt_of_heap h1) (heap_nt h1 hk (by decide))).trans h1, own_kept h2 (fun g hg => fr.block g (lt_of_heap (own_lt h2 g hg).2.choose_spec) (heap_nt (own_lt h2 g hg).2.choose_spec hk (by decide))), ?_⟩
  exact ⟨own_kept h3.row (fun g hg => fr.block g (lt_of_heap (own_lt h3.row g hg).2.choose_spec) (heap_nt (own_lt h3.row g hg).2.choose_spec hk (by decide))), h3.up, h3.all, fun u hu => (h3.lst u hu).other fr hk (by decide)⟩
/-- What plain.Compile answers. -/
def PcPost (al : Nat → Addr) (N : Nat) (r : Mil.Bytes) (w : World) (e : Ending) (w' : World) : Prop :=
  Below w.heap.size w w' ∧
  ((∃ l P, e = .returned (.tuple #[.pointer (some ⟨P, 0, none⟩), .agg #[.int .i64 0, .int .i64 0]]) ∧ Mip.Parsed r l ∧ Prg N l w' P) ∨
   (∃ f at_, f ≠ 0 ∧ e = .returned (.tuple #[.pointer none, .agg #[.int .i64 f, .int .i64 at_]]) ∧ ((∀ l, ¬ Mil.Parsed r l) ∨ ∃ l k, Mip.Parsed r l ∧ Bad N l k at_ ∧ f = lastOf al (up1 al k) 13)))
theorem errs_row {al : Nat → Addr} {w : World} (hE : Errs al w) {k : Nat} (h1 : 1 ≤ k) (h2 : k ≤ 10) : ∃ c t, w.heap[(up1 al k).block]? = some (.cells c t (0, 0)) := hE.row (k - 1) (by omega)

set_option maxHeartbeats 2000000 in
theorem plainCompile_any (al : Nat → Addr) (s : ByteArray) (w : World) (L : Laid (up1 al) w) (E : Errs al w) :
    Calls Tryz.prog 5 #[.string s] w (PcPost al s.size s.data.toList w) := by
  have HE : Hid (Errs al w) := E
  have HP0 : Hid (Pf w (w.alloc (.cells #[.int .i64 0, .int .i64 0] 27))) := ⟨heap_alloc_new w _, (Below.refl _ _).alloc (Nat.le_refl _) _⟩
  have HL0 : Hid (Laid (up1 al) (w.alloc (.cells #[.int .i64 0, .int .i64 0] 27))) := L.below E.size ((Below.refl _ _).alloc (Nat.le_refl _) _)
  have HC0 : Hid (Ce (up1 al) (w.alloc (.cells #[.int .i64 0, .int .i64 0] 27))) := E.ce.below ((Below.refl _ _).alloc (Nat.le_refl _) _)
  clear L E
  go_enter Tryz.func5, Tryz.ntmps5
  go_wp2_with fail
  refine (compile_any (up1 al) s _ HL0.out HC0.out).mono ?_
  rintro e w1 ⟨hb1, ⟨l, P, rfl, hp, hP⟩ | ⟨d, at_, k, rfl, hd, hk1, hk2, hbad⟩ | ⟨rfl, hno⟩⟩
  · have HP1 : Hid (Pf w w1) := HP0.out.keep hb1
    have HQ : Hid (Mip.Parsed s.data.toList l ∧ Prg s.size l w1 P) := ⟨hp, hP⟩
    clear hb1 hp hP HL0 HP0 HC0
    go_wp2_with fail
    refine (fault_nil _).mono ?_
    rintro e w2 ⟨rfl, hb2⟩
    have HP2 : Hid (Pf w w2) := HP1.out.keep hb2
    have HT2 : Hid (Prg s.size l w2 P) := HQ.out.2.below hb2
    obtain ⟨q0, q1, z⟩ := HP2.out.cells
    clear HP1 hb2
    go_wp2
    refine bodyPost_ret (v := .tuple #[.pointer (some ⟨P, 0, none⟩), .agg #[.int .i64 0, .int .i64 0]]) (by simp [results, Tryz.results5, go_sem, HP2.out.r0, HP2.out.r1]) rfl ⟨HP2.out.set _ _, Or.inl ⟨l, P, rfl, HQ.out.1, ?_⟩⟩
    exact HT2.out.other ((fr_set w2 w.heap.size 0 _).trans (fr_set _ w.heap.size 1 _) (fun _ _ e => e)) HP2.out.b0
  · have HP1 : Hid (Pf w w1) := HP0.out.keep hb1
    have HE1 : Hid (Errs al w1) := HE.out.below HP1.out.bl
    have HD : Hid (w1.heap[d]? = some (.cells #[.int .i64 at_, errV (up1 al k)] 70 (0, 0))) := hd
    have HK : Hid (∃ c t, w1.heap[(up1 al k).block]? = some (.cells c t (0, 0))) := errs_row HE1.out hk1 hk2
    have HN : Hid ((∀ l, ¬ Mil.Parsed s.data.toList l) ∨ ∃ l k', Mip.Parsed s.data.toList l ∧ Bad s.size l k' at_ ∧ lastOf al (up1 al k) 13 = lastOf al (up1 al k') 13) := by
      rcases hbad with ⟨h, _⟩ | ⟨l, h1, h2⟩
      · exact Or.inl h
      · exact Or.inr ⟨l, k, h1, h2, rfl⟩
    clear hb1 hd hbad hk1 hk2 HL0 HP0 HC0
    go_wp2_with fail
    refine (fault_diag al d at_ (up1 al k) _ HE1.out HD.out HK.out).mono ?_
    rintro e w2 ⟨rfl, hb2⟩
    have HP2 : Hid (Pf w w2) := HP1.out.keep hb2
    obtain ⟨q0, q1, z⟩ := HP2.out.cells
    have HF : Hid (lastOf al (up1 al k) 13 ≠ 0) := by have := last_pos al (up1 al k) 13; show _ ≠ _; omega
    generalize lastOf al (up1 al k) 13 = f at HF HN ⊢
    clear HP1 HD HK HE1 hb2
    go_wp2
    exact bodyPost_ret (v := .tuple #[.pointer none, .agg #[.int .i64 f, .int .i64 at_]]) (by simp [results, Tryz.results5, go_sem, HP2.out.r0, HP2.out.r1]) rfl ⟨HP2.out.set _ _, Or.inr ⟨f, at_, HF.out, rfl, HN.out⟩⟩
  · have HP1 : Hid (Pf w w1) := HP0.out.keep hb1
    have HE1 : Hid (Errs al w1) := HE.out.below HP1.out.bl
    have HK : Hid (∃ c t, w1.heap[(up1 al 1).block]? = some (.cells c t (0, 0))) := errs_row HE1.out (by decide) (by decide)
    have HN : Hid (∀ l, ¬ Mil.Parsed s.data.toList l) := hno
    clear hb1 hno HL0 HP0 HC0
    go_wp2_with fail
    refine (fault_err al (up1 al 1) _ HE1.out HK.out).mono ?_
    rintro e w2 ⟨rfl, hb2⟩
    have HP2 : Hid (Pf w w2) := HP1.out.keep hb2
    obtain ⟨q0, q1, z⟩ := HP2.out.cells
    have HF : Hid (lastOf al (up1 al 1) 13 ≠ 0) := by have := last_pos al (up1 al 1) 13; show _ ≠ _; omega
    generalize lastOf al (up1 al 1) 13 = f at HF ⊢
    clear HP1 HK HE1 hb2
    go_wp2
    exact bodyPost_ret (v := .tuple #[.pointer none, .agg #[.int .i64 f, .int .i64 (-1)]]) (by simp [results, Tryz.results5, go_sem, HP2.out.r0, HP2.out.r1]) rfl ⟨HP2.out.set _ _, Or.inr ⟨f, -1, HF.out, rfl, Or.inl HN.out⟩⟩

theorem Tryz.sizeFlo (w : World) : (Go.sizeOf 42).run Tryz.prog w = .ok 5 w := by kernel_rfl
theorem Tryz.sizeTask (w : World) : (Go.sizeOf 40).run Tryz.prog w = .ok 2 w := by kernel_rfl
theorem flC_one (F : List Flo) : ∀ u ∈ fls F, u.oneCell' = true := fun u hu => by
  obtain ⟨f, _, h⟩ := List.mem_flatMap.1 hu
  simp [flC] at h
  rcases h with rfl | rfl | rfl | rfl | rfl <;> rfl
theorem fls_len (F : List Flo) : (fls F).length = F.length * 5 := by
  induction F with
  | nil => rfl
  | cons f r ih =>
    unfold fls at ih ⊢
    rw [List.flatMap_cons, List.length_append, ih, List.length_cons]
    show 5 + _ = _
    omega
/-- What Flows answers. -/
def FlPost (N : Nat) (l : List Mip.It) (w : World) (E : Ending) (w' : World) : Prop := Below w.heap.size w w' ∧ ∃ v, E = .returned v ∧ w'.ownsRow w.heap.size 42 5 v (prd N l).length (fls (prd N l))
set_option maxHeartbeats 4000000 in
theorem flows_any {N : Nat} {l : List Mip.It} {w : World} {P : Nat} (h : Prg N l w P) : Calls Tryz.prog 6 #[.pointer (some ⟨P, 0, none⟩)] w (FlPost N l w) := by
  obtain ⟨fv, tv, U, B, B', h1, h2, h3⟩ := h.blk
  have c0 : w.cell? ⟨P, 0, none⟩ = some fv := (cell_of_row w P 0 _ _ _ h1).trans rfl
  have hl60 : (prd N l).length ≤ 60 := by rw [prd_len]; exact h.len.1
  obtain ⟨i0, hi0, jz0, jz1, jz2⟩ := info_parts Tryz.infoFlo
  rcases h2.2 with ⟨e, e'⟩ | ⟨g, cap, cur, e, _⟩
  · subst e
    have HF : Hid (prd N l = []) := List.length_eq_zero_iff.1 e'
    clear h1 h2 h3 h e' hl60
    go_enter Tryz.func6, Tryz.ntmps6
    go_wp2_with fail
    refine (Tryz.clone_flow_nil 0 0 w).mono ?_
    rintro E w2 ⟨rfl, rfl⟩
    go_wp2
    go_ret
    refine ⟨Below.refl _ _, _, rfl, ?_⟩
    rw [HF.out]
    exact World.ownsRow_nil _ _ _ _
  · have h2' := h2
    rw [e] at h2' c0
    have HCL := Tryz.clone_flow i0 _ 5 40 hi0 jz0 jz1 jz2 rfl (by decide) Tryz.sizeFlo g 0 (prd N l).length cap (fls (prd N l)) w (fls_len _) (by unfold maxLen; omega) (by omega) (fun j u hu => by rw [Nat.zero_add]; exact own_cell h2' hu) (flC_one _)
    clear h1 h2 h3 h h2'
    go_enter Tryz.func6, Tryz.ntmps6
    go_wp2_with fail
    refine HCL.mono ?_
    rintro E w2 ⟨v', rfl, hr, _, hb⟩
    obtain ⟨o1, c1, hs⟩ := own_shape hr
    subst hs
    have HR : Hid (w2.ownsRow w.heap.size 42 5 (.slice o1 (prd N l).length c1) (prd N l).length (fls (prd N l)) ∧ Below w.heap.size w w2) := ⟨hr, hb⟩
    clear hr hb HCL
    go_wp2
    go_ret
    exact ⟨HR.out.2, _, rfl, HR.out.1⟩

end Go.Proofs.YtibbjohkiigffaaGreatDoor
namespace Go.Proofs.YtibbjohkiigffaaGreatDoor
open Go.RowKit

/-- Blocks that are new. -/
def Fsh (B : Nat) (v : Value) : Prop := ∀ g, v.ownBlock = some g → B ≤ g
theorem clone_keeps {w : World} {v : Value} {L : List Nat} (h : Lst w v L) (hL : L.length ≤ 1000000) : Calls Tryz.prog 12 #[v] w fun e w' => ∃ v', e = .returned v' ∧ Lst w' v' L ∧ Below w.heap.size w w' ∧ Fsh w.heap.size v' := by
  by_cases hne : L = []
  · rcases h with ⟨_, rfl⟩ | ⟨g, cap, h1, _⟩
    · refine (Tryz.slices_Clone_nil 0 0 w).mono ?_
      rintro E w' ⟨rfl, rfl⟩
      exact ⟨_, rfl, Or.inl ⟨hne, rfl⟩, Below.refl _ _, fun g hg => by cases hg⟩
    · exact absurd hne h1.1
  · refine (clone_lst h hL).mono ?_
    rintro E w' ⟨v', rfl, h1, h2⟩
    exact ⟨v', rfl, Ndr.lst ⟨h1, fun e => absurd e hne⟩, h2, fun g hg => (own_lt h1 g hg).1⟩
theorem tks_set (v : Value) : ∀ (U : List (Nat × Value)) (j : Nat) (p : Nat) (u : Value), U[j]? = some (p, u) → tks (U.set j (p, v)) = (tks U).set (j * 2 + 1) v
  | [], j, p, u, h => by simp at h
  | x :: r, 0, p, u, h => by
    have e : x = (p, u) := by simpa using h
    subst e
    show tks ((p, v) :: r) = _
    unfold tks
    rw [List.flatMap_cons, List.flatMap_cons, List.set_append_left _ _ (by show 0 * 2 + 1 < 2; omega)]
    rfl
  | x :: r, j + 1, p, u, h => by
    have ih := tks_set v r j p u (by simpa using h)
    show tks (x :: r.set j (p, v)) = _
    unfold tks at ih ⊢
    rw [List.flatMap_cons, List.flatMap_cons, ih, List.set_append_right _ _ (by show 2 ≤ _; omega)]
    have e : (j + 1) * 2 + 1 - (tkC x).length = j * 2 + 1 := by show (j + 1) * 2 + 1 - 2 = _; omega
    rw [e]
theorem tks_len (U : List (Nat × Value)) : (tks U).length = U.length * 2 := by
  induction U with
  | nil => rfl
  | cons f r ih =>
    unfold tks at ih ⊢
    rw [List.flatMap_cons, List.length_append, ih, List.length_cons]
    show 2 + _ = _
    omega
theorem ord_len (nd : Nat → List Nat) (l : List Nat) : ∀ n acc, (Mip.ord nd l n acc).length ≤ acc.length + n
  | 0, acc => Nat.le_refl _
  | n + 1, acc => by
    rw [Mip.ord]
    cases l.find? (Mip.rdy nd l acc) with
    | none => have := ord_len nd l n acc; show (Mip.ord nd l n acc).length ≤ _; omega
    | some f => have := ord_len nd l n (acc ++ [f]); rw [List.length_append] at this; show (Mip.ord nd l n (acc ++ [f])).length ≤ _; simp at this; omega
theorem ordOf_len (m : Mil.Bytes → Option Int) (F : List Flo) (Q : List Nq) (p : Nat) : (ordOf m F Q p).length ≤ Q.length := by
  have h1 := ord_len (ndf m Q) ((part F Q p).map Nq.flow) (part F Q p).length []
  have h2 : (part F Q p).length ≤ Q.length := List.length_filter_le _ _
  unfold ordOf
  simp at h1
  omega
/-- What Tasks answers. -/
def TqPost (N : Nat) (l : List Mip.It) (w : World) (E : Ending) (w' : World) : Prop := Below w.heap.size w w' ∧ ∃ v U, E = .returned v ∧ Tw (dcl N l).2.m (prd N l) (dcl N l).2.Q w.heap.size w' v U ∧ ∀ u ∈ U, Fsh w.heap.size u.2

set_option maxRecDepth 100000 in
set_option maxHeartbeats 8000000 in
theorem tasksOf_any {N : Nat} {l : List Mip.It} {w : World} {P : Nat} (h : Prg N l w P) (hU : ∀ (B : Nat) (tv : Value) (U : List (Nat × Value)), Tw (dcl N l).2.m (prd N l) (dcl N l).2.Q B w tv U → U.length ≤ 1000) : Calls Tryz.prog 7 #[.pointer (some ⟨P, 0, none⟩)] w (TqPost N l w) := by
  obtain ⟨fv, tv, U, B, B', h1, h2, h3⟩ := h.blk
  have c1 : w.cell? ⟨P, 1, none⟩ = some tv := (cell_of_row w P 1 _ _ _ h1).trans rfl
  have hU6 := hU B' tv U h3
  have hQ : (dcl N l).2.Q.length ≤ 60 := h.len.2
  obtain ⟨i0, hi0, jz0, jz1, jz2⟩ := info_parts Tryz.infoTask
  generalize hm : (dcl N l).2.m = m at h3
  generalize hq : (dcl N l).2.Q = Q at h3 hQ
  generalize hF : prd N l = F at h3
  rcases h3.row.2 with ⟨e, e'⟩ | ⟨g, cap, cur, e, _⟩
  · subst e
    have hUn : U = [] := List.length_eq_zero_iff.1 e'
    subst hUn
    have HT : Hid (Tw m F Q B' w (.slice none 0 0) []) := h3
    clear h1 h2 h3 h e' hU hU6
    go_enter Tryz.func7, Tryz.ntmps7
    go_wp2_with fail
    refine (Tryz.clone_task_nil 0 0 w).mono ?_
    rintro E w2 ⟨rfl, rfl⟩
    go_wp2_with fail
    go_loopg [14] 0 (fun gk s14 wr => s14 = .int .i64 0 ∧ wr = w2)
    case atStart => exact ⟨rfl, rfl⟩
    case round =>
      obtain ⟨rfl, rfl⟩ := hrel
      go_wp2
      go_ret
      refine ⟨Below.refl _ _, _, [], rfl, ?_⟩
      rw [hm, hq, hF]
      exact ⟨⟨World.ownsRow_nil _ _ _ _, HT.out.up, HT.out.all, HT.out.lst⟩, fun u hu => by cases hu⟩
  · have h3' := h3.row
    rw [e] at h3' c1
    have HCL := Tryz.clone_task i0 _ 2 32 hi0 jz0 jz1 jz2 rfl (by decide) Tryz.sizeTask g 0 U.length cap (tks U) w (tks_len _) (by unfold maxLen; omega) (by omega) (fun j u hu => by rw [Nat.zero_add]; exact own_cell h3' hu) (fun u hu => by
      obtain ⟨x, hx, h⟩ := List.mem_flatMap.1 hu
      obtain ⟨s1, s2, s3, hs⟩ := (h3.lst x hx).shape
      simp [tkC, hs] at h
      rcases h with rfl | rfl <;> rfl)
    have HT : Hid (Tw m F Q B' w tv U) := h3
    have HQ6 : Hid (Q.length ≤ 60) := hQ
    have HMF : Hid ((dcl N l).2.m = m ∧ (dcl N l).2.Q = Q ∧ prd N l = F) := ⟨hm, hq, hF⟩
    clear h1 h2 h3 h h3' hU hm hq hF hQ
    go_enter Tryz.func7, Tryz.ntmps7
    go_wp2_with fail
    refine HCL.mono ?_
    rintro E W ⟨v', rfl, hr, hnn, hb⟩
    obtain ⟨o1, c1', hs⟩ := own_shape hr
    subst hs
    have HR : Hid (W.ownsRow w.heap.size 40 2 (.slice o1 U.length c1') U.length (tks U) ∧ Below w.heap.size w W) := ⟨hr, hb⟩
    have HL0 : Hid (∀ u ∈ U, Lst W u.2 (ordOf m F Q u.1)) := fun u hu => (HT.out.lst u hu).below hb
    clear hr hb HCL hnn
    go_wp2_with fail
    go_loopg [14] U.length (fun gk s14 wr => ∃ (j : Nat) (V : List (Nat × Value)), j ≤ U.length ∧ s14 = .int .i64 (j : Nat) ∧ gk = U.length - j ∧ Hid (V.map Prod.fst = U.map Prod.fst) ∧ Hid (Below w.heap.size w wr) ∧ Hid (wr.ownsRow w.heap.size 40 2 (.slice o1 U.length c1') U.length (tks V)) ∧ Hid (∀ u ∈ V, Lst wr u.2 (ordOf m F Q u.1)) ∧ Hid (∀ (i : Nat) (x : Nat × Value), i < j → V[i]? = some x → Fsh w.heap.size x.2))
    case atStart => exact ⟨0, U, Nat.zero_le _, rfl, rfl, rfl, HR.out.2, HR.out.1, HL0, fun i x hi _ => absurd hi (Nat.not_lt_zero _)⟩
    case round =>
      obtain ⟨j, V, hj, rfl, hg, KV, KB, KR, KL, KF⟩ := hrel
      have HG : Hid (gk = U.length - j) := hg
      have HVL : Hid (V.length = U.length) := by have h := congrArg List.length KV.out; show V.length = U.length; simpa using h
      clear hg HR HL0
      by_cases hlt : j < U.length
      · have HLT : Hid (j < U.length) := hlt
        obtain ⟨⟨p, u⟩, hq⟩ : ∃ x, V[j]? = some x := ⟨_, List.getElem?_eq_getElem (by rw [HVL.out]; exact hlt)⟩
        have HQV : Hid (V[j]? = some (p, u)) := hq
        obtain ⟨g1, rfl⟩ : ∃ g1, o1 = some ⟨g1, 0, none⟩ := by
          rcases KR.out.2 with ⟨_, e⟩ | ⟨g1, cap1, cur1, e, _⟩
          · omega
          · injection e with e1 _ _
            exact ⟨g1, e1⟩
        have hcu : wr.cell? ⟨g1, j * 2 + 1, none⟩ = some u := own_cell KR.out ((flat_at tkC 2 (fun _ => rfl) V j 1 (p, u) hq (by decide)).trans rfl)
        have HLU : Hid (Lst wr u (ordOf m F Q p)) := KL.out (p, u) (List.mem_of_getElem? hq)
        obtain ⟨s1, s2, s3, hs⟩ := HLU.out.shape
        subst hs
        have h0 : (0 : Int) ≤ (j : Int) := by omega
        have h1 : (j : Int) < (U.length : Int) := by omega
        clear hq
        go_wp2_with fail
        refine (clone_keeps HLU.out (by have := ordOf_len m F Q p; have := HQ6.out; omega)).mono ?_
        rintro E w2 ⟨v2, rfl, hl2, hb2, hf2⟩
        have KR2 : Hid (w2.ownsRow w.heap.size 40 2 (.slice (some ⟨g1, 0, none⟩) U.length c1') U.length (tks V)) := own_kept KR.out (fun g hg => hb2.block g (lt_of_heap (own_lt KR.out g hg).2.choose_spec))
        obtain ⟨r1, r2, r3, hs2⟩ := hl2.shape
        subst hs2
        have hgc := (own_lt KR2.out g1 rfl).2
        have z2 : w2.frozen? ⟨g1, j * 2 + 1, none⟩ = false := by
          obtain ⟨cur1, hcur⟩ := hgc
          unfold World.frozen?; rw [hcur]; simp
        have c2 : w2.cell? ⟨g1, j * 2 + 1, none⟩ = some (.slice s1 s2 s3) := own_cell KR2.out ((flat_at tkC 2 (fun _ => rfl) V j 1 (p, .slice s1 s2 s3) HQV.out (by decide)).trans rfl)
        have HR3 : Hid ((w2.setCell ⟨g1, j * 2 + 1, none⟩ (.slice r1 r2 r3)).ownsRow w.heap.size 40 2 (.slice (some ⟨g1, 0, none⟩) U.length c1') U.length (tks (V.set j (p, .slice r1 r2 r3)))) := by
          show World.ownsRow _ _ _ _ _ _ _
          rw [tks_set _ V j p _ HQV.out]
          exact own_set KR2.out _ _
        have HB3 : Hid (Below w.heap.size w (w2.setCell ⟨g1, j * 2 + 1, none⟩ (.slice r1 r2 r3))) := (below_step KB.out hb2).setCell (own_lt KR2.out g1 rfl).1 _
        have HL3 : Hid (∀ x ∈ V.set j (p, Value.slice r1 r2 r3), Lst (w2.setCell ⟨g1, j * 2 + 1, none⟩ (.slice r1 r2 r3)) x.2 (ordOf m F Q x.1)) := fun x hx => by
          obtain ⟨cur1, hcur⟩ := hgc
          have hl : Lst w2 x.2 (ordOf m F Q x.1) := by
            rcases List.mem_or_eq_of_mem_set hx with h | h
            · exact (KL.out x h).below hb2
            · rw [h]; exact hl2
          exact hl.set hcur (by decide)
        have HV3 : Hid ((V.set j (p, Value.slice r1 r2 r3)).map Prod.fst = U.map Prod.fst) := by
          show _ = _
          rw [List.map_set, ← KV.out]
          apply List.ext_getElem?
          intro i
          rw [List.getElem?_set]
          by_cases e : j = i
          · subst e
            rw [if_pos rfl, List.getElem?_map, HQV.out, if_pos (by rw [List.length_map, HVL.out]; exact HLT.out)]; rfl
          · rw [if_neg e]
        have HF3 : Hid (∀ (i : Nat) (x : Nat × Value), i < j + 1 → (V.set j (p, Value.slice r1 r2 r3))[i]? = some x → Fsh w.heap.size x.2) := fun i x hi hx => by
          rw [List.getElem?_set] at hx
          by_cases e : j = i
          · rw [if_pos e] at hx
            split at hx
            · obtain rfl := Option.some.inj hx
              exact fun g hg => Nat.le_trans KB.out.size (hf2 g hg)
            · cases hx
          · rw [if_neg e] at hx
            exact KF.out i x (by omega) hx
        clear hb2 hl2 hgc hcu hf2
        go_wp2
        go_roundg (U.length - (j + 1))
        case measure => have := HG.out; have := HLT.out; omega
        case rel => exact ⟨j + 1, _, HLT.out, by go_num, rfl, HV3, HB3, HR3, HL3, HF3⟩
      · have hle : (U.length : Int) ≤ (j : Int) := by omega
        go_wp2
        go_ret
        refine ⟨KB.out, _, V, rfl, ?_⟩
        rw [HMF.out.1, HMF.out.2.1, HMF.out.2.2]
        have hr := KR.out
        refine ⟨⟨?_, by rw [KV.out]; exact HT.out.up, fun p => by rw [KV.out]; exact HT.out.all p, KL.out⟩, fun u hu => by
          obtain ⟨i, hi⟩ := List.getElem?_of_mem hu
          have := (List.getElem?_eq_some_iff.1 hi).1
          rw [HVL.out] at this
          exact KF.out i u (by omega) hi⟩
        rw [HVL.out]
        exact hr

end Go.Proofs.YtibbjohkiigffaaGreatDoor
namespace Go.Proofs.YtibbjohkiigffaaGreatDoor
open Go.RowKit

namespace Mip
theorem Parsed.unique {b : Mil.Bytes} {x y : List It} (h : Parsed b x) (k : Parsed b y) : x = y := by
  obtain ⟨n, h⟩ := h
  obtain ⟨m, k⟩ := k
  unfold parse at h k
  by_cases c : 4000 < b.length
  · rw [if_pos c] at h; cases h
  · rw [if_neg c] at h k
    obtain ⟨s, h1, h2⟩ := Option.bind_eq_some_iff.1 h
    obtain ⟨s', k1, k2⟩ := Option.bind_eq_some_iff.1 k
    obtain rfl := Option.some.inj (h1.symm.trans k1)
    exact Option.some.inj ((pprog_le n (n + m) _ _ x (by omega) h2).symm.trans (pprog_le m (n + m) _ _ y (by omega) k2))
def txA : Mil.Bytes := [105, 110, 112, 117, 116, 32, 120, 32, 58, 32, 105, 110, 116, 32, 101, 118, 101, 114, 121, 32, 50, 59, 32, 115, 32, 58, 32, 105, 110, 116, 32, 61, 32, 120, 32, 43, 32, 102, 98, 121, 40, 48, 44, 32, 115, 41, 59, 32, 117, 32, 58, 32, 105, 110, 116, 32, 61, 32, 117, 110, 100, 101, 114, 40, 115, 44, 32, 50, 41, 59, 32, 104, 32, 58, 32, 105, 110, 116, 32, 61, 32, 104, 111, 108, 100, 40, 55, 44, 32, 117, 44, 32, 50, 41, 32, 43, 32, 115, 59, 32, 111, 117, 116, 112, 117, 116, 32, 104, 59]
def lsA : List It := (parse 60 txA).getD []
theorem parsedA : Parsed txA lsA := ⟨60, by kernel_rfl⟩
def txB : Mil.Bytes := [97, 32, 58, 32, 105, 110, 116, 32, 61, 32, 98, 59, 32, 98, 32, 58, 32, 105, 110, 116, 32, 61, 32, 97, 32, 43, 32, 49, 59]
def lsB : List It := (parse 60 txB).getD []
theorem parsedB : Parsed txB lsB := ⟨60, by kernel_rfl⟩
def txC : Mil.Bytes := [105, 110, 112, 117, 116, 32, 120, 32, 58, 32, 105, 110, 116, 32, 101, 118, 101, 114, 121, 32, 49, 59, 32, 97, 32, 58, 32, 105, 110, 116, 32, 61, 32, 98, 32, 43, 32, 120, 59, 32, 98, 32, 58, 32, 105, 110, 116, 32, 61, 32, 97, 59]
def lsC : List It := (parse 60 txC).getD []
theorem parsedC : Parsed txC lsC := ⟨60, by kernel_rfl⟩
end Mip
/-- What can be computed of a text that goes well as far as its cycles. -/
def goodC (N : Nat) (l : List Mip.It) : Bool :=
  (dcl N l).1.isNone && (rsv N l).1.isNone && (dcl N l).2.Q.all (fun q => Mip.tyOf (dcl N l).2.m (rsv N l).2 q.body == some q.ty)
def goodD (N : Nat) (l : List Mip.It) : Bool :=
  (freeAt (prd N l) (dcl N l).2.Q).isNone && (dcl N l).2.Q.all (fun q => Mip.pfault (dcl N l).2.m (prd N l) q.body == none && Mip.perOf (dcl N l).2.m (prd N l) q.body == perAt (prd N l) q.flow) && !tooGreat 1 (prd N l)
theorem okk_three {N : Nat} {l : List Mip.It} (h : goodC N l = true) : okk N l 3 := by
  simp only [goodC, Bool.and_eq_true, Option.isNone_iff_eq_none, List.all_eq_true, beq_iff_eq] at h
  exact ⟨fun _ => h.1.1, fun _ => h.1.2, fun _ => h.2, fun e => by omega, fun e => by omega, fun e => by omega, fun e => by omega⟩
theorem okk_six {N : Nat} {l : List Mip.It} (h : goodC N l = true) (k : goodD N l = true) : okk N l 6 := by
  have h3 := okk_three h
  simp only [goodD, Bool.and_eq_true, Option.isNone_iff_eq_none, List.all_eq_true, beq_iff_eq, Bool.not_eq_true'] at k
  exact ⟨fun _ => h3.1 (by omega), fun _ => h3.2.1 (by omega), fun _ => h3.2.2.1 (by omega), fun _ => k.1.1, fun _ => k.1.2, fun _ => k.2, fun e => by omega⟩
theorem goodA : goodC 109 Mip.lsA = true ∧ goodD 109 Mip.lsA = true := ⟨by kernel_rfl, by kernel_rfl⟩
theorem goodB : goodC 29 Mip.lsB = true := by kernel_rfl
theorem goodCC : goodC 52 Mip.lsC = true ∧ goodD 52 Mip.lsC = true := ⟨by kernel_rfl, by kernel_rfl⟩
theorem freeB : freeAt (prd 29 Mip.lsB) (dcl 29 Mip.lsB).2.Q = some 29 := by kernel_rfl
theorem ndf_none {m : Mil.Bytes → Option Int} {Q : List Nq} {a : Nat} (h : Q.all (fun q => q.flow != a) = true) : ndf m Q a = [] := by
  unfold ndf
  rw [List.find?_eq_none.2 (fun q hq => by have := List.all_eq_true.1 h q hq; simpa using this)]
  rfl
def qA : List Nq := (dcl 109 Mip.lsA).2.Q
def mA : Mil.Bytes → Option Int := (dcl 109 Mip.lsA).2.m
theorem flowsA : qA.map Nq.flow = [1, 2, 3] := by kernel_rfl
theorem ndA : ndf mA qA 1 = [0] ∧ ndf mA qA 2 = [1] ∧ ndf mA qA 3 = [1] := ⟨by kernel_rfl, by kernel_rfl, by kernel_rfl⟩
theorem memA {q : Nq} (h : q ∈ qA) : q.flow = 1 ∨ q.flow = 2 ∨ q.flow = 3 := by
  have : q.flow ∈ qA.map Nq.flow := List.mem_map.2 ⟨q, h, rfl⟩
  rw [flowsA] at this
  simpa using this
theorem rankA (a b : Nat) (h : b ∈ ndf mA qA a) : b < a := by
  by_cases h1 : a = 1
  · subst h1; rw [ndA.1] at h; simp at h; omega
  by_cases h2 : a = 2
  · subst h2; rw [ndA.2.1] at h; simp at h; omega
  by_cases h3 : a = 3
  · subst h3; rw [ndA.2.2] at h; simp at h; omega
  · rw [ndf_none (List.all_eq_true.2 fun q hq => by rcases memA hq with e | e | e <;> simp [e] <;> omega)] at h
    cases h
theorem okA : okk 109 Mip.lsA 7 := by
  have h6 := okk_six goodA.1 goodA.2
  refine okk_up h6 (by decide) (fun e => by cases e) (fun e => by cases e) (fun e => by cases e) (fun e => by cases e) (fun e => by cases e) (fun e => by cases e) (fun _ => ?_)
  unfold cyc
  have e : List.find? (fun q => @decide (Mip.Way (ndf (dcl 109 Mip.lsA).2.m (dcl 109 Mip.lsA).2.Q) q.flow q.flow) (Classical.propDecidable _)) (dcl 109 Mip.lsA).2.Q = none := List.find?_eq_none.2 (fun q hq => by
    have := Mip.no_way_of_rank (nd := ndf mA qA) id rankA q.flow
    simpa [mA, qA] using this)
  rw [e]
  rfl
theorem notBadA {k : Nat} {p : Int} : ¬ Bad 109 Mip.lsA k p := by
  have h := okA
  rintro (⟨_, e⟩ | ⟨_, _, e⟩ | ⟨_, _, e⟩ | ⟨_, _, q, e, _⟩ | ⟨_, _, e⟩ | ⟨_, _, q, e, _⟩)
  · exact e (h.1 (by decide))
  · exact e (h.2.1 (by decide))
  · exact e (h.2.2.1 (by decide))
  · rw [h.2.2.2.1 (by decide)] at e; cases e
  · exact e ⟨h.2.2.2.2.1 (by decide), h.2.2.2.2.2.1 (by decide)⟩
  · have := cyc_two (h.2.2.2.2.2.2 (by decide)) e; cases this
theorem badB {k : Nat} {p : Int} (h : Bad 29 Mip.lsB k p) : k = 9 ∧ p = 0 := by
  have h3 := okk_three goodB
  rcases h with ⟨_, e⟩ | ⟨_, _, e⟩ | ⟨_, _, e⟩ | ⟨hk, _, q, e, hp⟩ | ⟨_, h4, _⟩ | ⟨_, h6, _⟩
  · exact absurd (h3.1 (by decide)) e
  · exact absurd (h3.2.1 (by decide)) e
  · exact absurd (h3.2.2.1 (by decide)) e
  · rw [freeB] at e
    obtain rfl := Option.some.inj e
    exact ⟨hk, hp⟩
  · have := h4.2.2.2.1 (by decide); rw [freeB] at this; cases this
  · have := h6.2.2.2.1 (by decide); rw [freeB] at this; cases this
theorem notB : ¬ okk 29 Mip.lsB 7 := fun h => by have := h.2.2.2.1 (by decide); rw [freeB] at this; cases this
def qC : List Nq := (dcl 52 Mip.lsC).2.Q
def mC : Mil.Bytes → Option Int := (dcl 52 Mip.lsC).2.m
def c1 : Nq := qC.headD ⟨[], 0, 0, .nil, 0⟩
theorem qC_is : qC = c1 :: qC.tail := by kernel_rfl
theorem c1_is : c1.flow = 1 ∧ c1.at_ = 29 := ⟨by kernel_rfl, by kernel_rfl⟩
theorem ndC : ndf mC qC 1 = [2, 0] ∧ ndf mC qC 2 = [1] := ⟨by kernel_rfl, by kernel_rfl⟩
theorem wayC : Mip.Way (ndf mC qC) 1 1 := .tail (.single (b := 2) (by rw [ndC.1]; simp)) (by rw [ndC.2]; simp)
theorem cycC : cyc (dcl 52 Mip.lsC).2.m (dcl 52 Mip.lsC).2.Q (some 29) := by
  show cyc mC qC (some 29)
  unfold cyc
  have e : List.find? (fun q => @decide (Mip.Way (ndf mC qC) q.flow q.flow) (Classical.propDecidable _)) (c1 :: qC.tail) = some c1 := List.find?_cons_of_pos (by
    have := wayC
    rw [← c1_is.1] at this
    simpa using this)
  rw [← qC_is] at e
  rw [e]
  show some c1.at_ = _
  rw [c1_is.2]
theorem notC : ¬ okk 52 Mip.lsC 7 := fun h => by have := cyc_two (h.2.2.2.2.2.2 (by decide)) cycC; cases this
theorem badC {k : Nat} {p : Int} (h : Bad 52 Mip.lsC k p) : k = 10 ∧ p = 23 := by
  have h6 := okk_six goodCC.1 goodCC.2
  rcases h with ⟨_, e⟩ | ⟨_, _, e⟩ | ⟨_, _, e⟩ | ⟨_, _, q, e, _⟩ | ⟨_, _, e⟩ | ⟨hk, _, q, e, hp⟩
  · exact absurd (h6.1 (by decide)) e
  · exact absurd (h6.2.1 (by decide)) e
  · exact absurd (h6.2.2.1 (by decide)) e
  · rw [h6.2.2.2.1 (by decide)] at e; cases e
  · exact absurd ⟨h6.2.2.2.2.1 (by decide), h6.2.2.2.2.2.1 (by decide)⟩ e
  · obtain rfl := Option.some.inj (cyc_two cycC e)
    exact ⟨hk, hp⟩
/-- The flows and tasks of the first. -/
def fA : List Flo := prd 109 Mip.lsA
theorem lenA : fA.length = 4 := by kernel_rfl
theorem flA : fA[0]?.map (fun f => (f.inp, f.per)) = some (true, 2) ∧ fA[2]?.map Flo.per = some 4 ∧ fA[3]?.map Flo.out = some true := ⟨by kernel_rfl, by kernel_rfl, by kernel_rfl⟩
theorem persA : qA.map (fun q => perAt fA q.flow) = [2, 4, 2] := by kernel_rfl
theorem ordA : ordOf mA fA qA 2 = [1, 3] ∧ ordOf mA fA qA 4 = [2] := ⟨by kernel_rfl, by kernel_rfl⟩
theorem tasksA {l : List Nat} (hu : l.Pairwise (· < ·)) (ha : ∀ p, p ∈ l ↔ ∃ q ∈ qA, perAt fA q.flow = p) : l = [2, 4] := by
  have hm : ∀ p, p ∈ l ↔ p = 2 ∨ p = 4 := fun p => by
    rw [ha p]
    have e : (∃ q ∈ qA, perAt fA q.flow = p) ↔ p ∈ qA.map (fun q => perAt fA q.flow) := by rw [List.mem_map]
    rw [e, persA]
    simp
    omega
  match l, hu, hm with
  | [], _, hm => have := (hm 2).2 (Or.inl rfl); cases this
  | [x], _, hm =>
    have h1 := (hm 2).2 (Or.inl rfl)
    have h2 := (hm 4).2 (Or.inr rfl)
    simp at h1 h2
    omega
  | [x, y], hu, hm =>
    have h1 := (hm x).1 (by simp)
    have h2 := (hm y).1 (by simp)
    simp at hu
    have e1 : x = 2 := by omega
    have e2 : y = 4 := by omega
    rw [e1, e2]
  | x :: y :: z :: r, hu, hm =>
    have h1 := (hm x).1 (by simp)
    have h2 := (hm y).1 (by simp)
    have h3 := (hm z).1 (by simp)
    simp at hu
    omega

end Go.Proofs.YtibbjohkiigffaaGreatDoor
namespace Go.Proofs.YtibbjohkiigffaaGreatDoor
open Go.RowKit

/-- All that the law leans on. -/
structure Alp (al : Nat → Addr) (w : World) : Prop where
  l : Laid (up1 al) w
  e : Errs al w
  d : ∀ i k, k < i → i < 13 → al k ≠ al i
theorem Alp.below {al : Nat → Addr} {w w' : World} (h : Alp al w) (hb : Below w.heap.size w w') : Alp al w' := ⟨h.l.below h.e.size hb, h.e.below hb, h.d⟩

theorem comA {al : Nat → Addr} {w : World} (h : Alp al w) (s : ByteArray) (hs : s.data.toList = Mip.txA) :
    Calls Tryz.prog 5 #[.string s] w fun e w' => Below w.heap.size w w' ∧ ∃ P, e = .returned (.tuple #[.pointer (some ⟨P, 0, none⟩), .agg #[.int .i64 0, .int .i64 0]]) ∧ Prg 109 Mip.lsA w' P := by
  have hn : s.size = 109 := by
    have : s.data.toList.length = 109 := by rw [hs]; rfl
    simpa using this
  have H := plainCompile_any al s w h.l h.e
  rw [hs, hn] at H
  refine H.mono ?_
  rintro e w' ⟨hb, ⟨l, P, rfl, hp, hP⟩ | ⟨f, at_, _, _, hno | ⟨l, k, hp, hbad, _⟩⟩⟩
  · obtain rfl := Mip.Parsed.unique hp Mip.parsedA
    exact ⟨hb, P, rfl, hP⟩
  · exact absurd Mip.parsedA.er (hno _)
  · obtain rfl := Mip.Parsed.unique hp Mip.parsedA
    exact absurd hbad notBadA
theorem comB {al : Nat → Addr} {w : World} (h : Alp al w) (s : ByteArray) (hs : s.data.toList = Mip.txB) :
    Calls Tryz.prog 5 #[.string s] w fun e w' => Below w.heap.size w w' ∧ e = .returned (.tuple #[.pointer none, .agg #[.int .i64 9, .int .i64 0]]) := by
  have hn : s.size = 29 := by
    have : s.data.toList.length = 29 := by rw [hs]; rfl
    simpa using this
  have H := plainCompile_any al s w h.l h.e
  rw [hs, hn] at H
  refine H.mono ?_
  rintro e w' ⟨hb, ⟨l, P, rfl, hp, hP⟩ | ⟨f, at_, _, rfl, hno | ⟨l, k, hp, hbad, rfl⟩⟩⟩
  · obtain rfl := Mip.Parsed.unique hp Mip.parsedB
    exact absurd hP.ok notB
  · exact absurd Mip.parsedB.er (hno _)
  · obtain rfl := Mip.Parsed.unique hp Mip.parsedB
    obtain ⟨rfl, rfl⟩ := badB hbad
    have e : lastOf al (up1 al 9) 13 = 9 := by
      show lastOf al (al 8) 13 = 9
      have n0 : ∀ j, 8 < j → j < 13 → al 8 ≠ al j := fun j h1 h2 => h.d j 8 h1 h2
      simp [lastOf, n0]
    rw [e]
    exact ⟨hb, rfl⟩
theorem comC {al : Nat → Addr} {w : World} (h : Alp al w) (s : ByteArray) (hs : s.data.toList = Mip.txC) :
    Calls Tryz.prog 5 #[.string s] w fun e w' => Below w.heap.size w w' ∧ e = .returned (.tuple #[.pointer none, .agg #[.int .i64 10, .int .i64 23]]) := by
  have hn : s.size = 52 := by
    have : s.data.toList.length = 52 := by rw [hs]; rfl
    simpa using this
  have H := plainCompile_any al s w h.l h.e
  rw [hs, hn] at H
  refine H.mono ?_
  rintro e w' ⟨hb, ⟨l, P, rfl, hp, hP⟩ | ⟨f, at_, _, rfl, hno | ⟨l, k, hp, hbad, rfl⟩⟩⟩
  · obtain rfl := Mip.Parsed.unique hp Mip.parsedC
    exact absurd hP.ok notC
  · exact absurd Mip.parsedC.er (hno _)
  · obtain rfl := Mip.Parsed.unique hp Mip.parsedC
    obtain ⟨rfl, rfl⟩ := badC hbad
    have e : lastOf al (up1 al 10) 13 = 10 := by
      show lastOf al (al 9) 13 = 10
      have n0 : ∀ j, 9 < j → j < 13 → al 9 ≠ al j := fun j h1 h2 => h.d j 9 h1 h2
      simp [lastOf, n0]
    rw [e]
    exact ⟨hb, rfl⟩
/-- There are no more tasks than equations. -/
theorem tw_len {m : Mil.Bytes → Option Int} {F : List Flo} {Q : List Nq} {B : Nat} {w : World} {v : Value} {U : List (Nat × Value)} (h : Tw m F Q B w v U) : U.length ≤ Q.length := by
  have h1 := Mip.len_le (U.map Prod.fst) (Q.map fun q => perAt F q.flow) (flows_nodup h.up) (fun p hp => by
    obtain ⟨q, h1, h2⟩ := (h.all p).1 hp
    exact List.mem_map.2 ⟨q, h1, h2⟩)
  simpa using h1
theorem tasks_any' {N : Nat} {l : List Mip.It} {w : World} {P : Nat} (h : Prg N l w P) : Calls Tryz.prog 7 #[.pointer (some ⟨P, 0, none⟩)] w (TqPost N l w) :=
  tasksOf_any h (fun B tv U hT => Nat.le_trans (Nat.le_trans (tw_len hT) h.len.2) (by decide))
/-- Flows' cells. -/
theorem fls_cell {w : World} {B g cap : Nat} {F : List Flo} (h : w.ownsRow B 42 5 (.slice (some ⟨g, 0, none⟩) F.length cap) F.length (fls F)) {j : Nat} {f : Flo} (hf : F[j]? = some f) :
    w.cell? ⟨g, j * 5 + 2, none⟩ = some (.int .i64 (f.per : Nat)) ∧ w.cell? ⟨g, j * 5 + 3, none⟩ = some (.bool f.inp) ∧ w.cell? ⟨g, j * 5 + 4, none⟩ = some (.bool f.out) :=
  ⟨own_cell h (flat_at flC 5 (fun _ => rfl) F j 2 f hf (by decide)), own_cell h (flat_at flC 5 (fun _ => rfl) F j 3 f hf (by decide)), own_cell h (flat_at flC 5 (fun _ => rfl) F j 4 f hf (by decide))⟩
theorem tks_cell {w : World} {B g cap : Nat} {U : List (Nat × Value)} (h : w.ownsRow B 40 2 (.slice (some ⟨g, 0, none⟩) U.length cap) U.length (tks U)) {j : Nat} {u : Nat × Value} (hu : U[j]? = some u) :
    w.cell? ⟨g, j * 2 + 0, none⟩ = some (.int .i64 (u.1 : Nat)) ∧ w.cell? ⟨g, j * 2 + 1, none⟩ = some u.2 :=
  ⟨own_cell h (flat_at tkC 2 (fun _ => rfl) U j 0 u hu (by decide)), own_cell h (flat_at tkC 2 (fun _ => rfl) U j 1 u hu (by decide))⟩
theorem own_some {w : World} {B : Nat} {t : TypeId} {s : Nat} {o : Option Addr} {n c : Nat} {xs : List Value} (h : w.ownsRow B t s (.slice o n c) n xs) (h0 : n ≠ 0) : ∃ g, o = some ⟨g, 0, none⟩ ∧ ∃ cur, w.heap[g]? = some (.cells cur t (0, 0)) := by
  rcases h.2 with ⟨_, e⟩ | ⟨g, cap, cur, e, _, hg, _⟩
  · exact absurd e h0
  · injection e with e1 _ _
    exact ⟨g, e1, cur, hg⟩

set_option maxRecDepth 100000 in
set_option maxHeartbeats 8000000 in
theorem tasked_any (al : Nat → Addr) (w : World) (h : Alp al w) :
    Calls Tryz.prog 4 #[] w fun e w' => Below w.heap.size w w' ∧ ∃ v, e = .returned (.tuple #[v, .bool true]) := by
  have H : Hid (Alp al w) := h
  clear h
  go_enter Tryz.func4, Tryz.ntmps4
  go_wp2_with fail
  refine (comA H.out _ (by rfl)).mono ?_
  rintro e w1 ⟨hb1, P, rfl, hP⟩
  have HB1 : Hid (Below w.heap.size w w1) := hb1
  have HP : Hid (Prg 109 Mip.lsA w1 P) := hP
  clear hb1 hP
  go_wp2_with fail
  have HA1 : Hid (Below w1.heap.size w1 (w1.alloc (.cells #[.int .i64 0, .int .i64 0] 27))) := (Below.refl _ _).alloc (Nat.le_refl _) _
  refine (flows_any (HP.out.below HA1.out)).mono ?_
  rintro e w2 ⟨hb2, v2, rfl, hF⟩
  obtain ⟨of, cf, e2⟩ := own_shape hF
  have hl4 : (prd 109 Mip.lsA).length = 4 := lenA
  subst e2
  obtain ⟨gf, rfl, _⟩ := own_some hF (by rw [hl4]; decide)
  have HF2 : Hid (w2.ownsRow _ 42 5 (.slice (some ⟨gf, 0, none⟩) (prd 109 Mip.lsA).length cf) (prd 109 Mip.lsA).length (fls (prd 109 Mip.lsA))) := hF
  have HB2 : Hid (Below w.heap.size w w2) := below_step (below_step HB1.out HA1.out) hb2
  have HP2 : Hid (Prg 109 Mip.lsA w2 P) := (HP.out.below HA1.out).below hb2
  rw [hl4]
  clear hF hb2 HA1 HP HB1 hl4
  go_wp2_with fail
  refine (tasks_any' HP2.out).mono ?_
  rintro e w3 ⟨hb3, v3, U, rfl, hT, _⟩
  have hU : U.map Prod.fst = [2, 4] := tasksA hT.up hT.all
  obtain ⟨u0, u1, rfl⟩ : ∃ u0 u1, U = [(2, u0), (4, u1)] := by
    match U, hU with
    | [(a, x), (b, y)], hU =>
      simp at hU
      exact ⟨x, y, by rw [hU.1, hU.2]⟩
  obtain ⟨ot, ct, e3⟩ := own_shape hT.row
  subst e3
  obtain ⟨gt, rfl, _⟩ := own_some hT.row (by simp)
  have q0 := tks_cell hT.row (j := 0) (u := (2, u0)) rfl
  have q1 := tks_cell hT.row (j := 1) (u := (4, u1)) rfl
  have z0 := hT.lst (2, u0) (by simp)
  have z1 := hT.lst (4, u1) (by simp)
  rw [show ordOf (dcl 109 Mip.lsA).2.m (prd 109 Mip.lsA) (dcl 109 Mip.lsA).2.Q 2 = [1, 3] from ordA.1] at z0
  rw [show ordOf (dcl 109 Mip.lsA).2.m (prd 109 Mip.lsA) (dcl 109 Mip.lsA).2.Q 4 = [2] from ordA.2] at z1
  rcases z0 with ⟨e, _⟩ | ⟨g0, k0, _, rfl, _, d0⟩
  · cases e
  rcases z1 with ⟨e, _⟩ | ⟨g1, k1, _, rfl, _, d1⟩
  · cases e
  have a0 : w3.cell? ⟨g0, 0, none⟩ = some (.int .i64 1) := d0 0 1 rfl
  have a1 : w3.cell? ⟨g0, 1, none⟩ = some (.int .i64 3) := d0 1 3 rfl
  have b0 : w3.cell? ⟨g1, 0, none⟩ = some (.int .i64 2) := d1 0 2 rfl
  have HF3 := own_kept HF2.out (fun g hg => hb3.block g (lt_of_heap (own_lt HF2.out g hg).2.choose_spec))
  obtain ⟨f0, h0, i0⟩ := Option.map_eq_some_iff.1 flA.1
  obtain ⟨f2, h2, i2⟩ := Option.map_eq_some_iff.1 flA.2.1
  obtain ⟨f3, h3, i3⟩ := Option.map_eq_some_iff.1 flA.2.2
  have c0 := fls_cell HF3 h0
  have c2 := fls_cell HF3 h2
  have c3 := fls_cell HF3 h3
  injection i0 with i0 i0'
  rw [i0, i0'] at c0
  rw [i2] at c2
  rw [i3] at c3
  have HB3 : Hid (Below w.heap.size w w3) := below_step HB2.out hb3
  simp only [Nat.zero_mul, Nat.zero_add, Nat.one_mul, Nat.reduceMul, Nat.reduceAdd, List.length_cons, List.length_nil] at c0 c2 c3 q0 q1
  obtain ⟨c00, c01, _⟩ := c0
  obtain ⟨c20, _⟩ := c2
  obtain ⟨_, _, c32⟩ := c3
  obtain ⟨q00, q01⟩ := q0
  obtain ⟨q10, q11⟩ := q1
  clear hT hU d0 d1 HF2 HF3 hb3 h0 h2 h3 i0 i0' i2 i3 HB2 HP2
  go_wp2_with fail
  refine (comB (H.out.below HB3.out) _ (by rfl)).mono ?_
  rintro e w4 ⟨hb4, rfl⟩
  have HB4 : Hid (Below w.heap.size w w4) := below_step HB3.out hb4
  clear c00 c01 c20 c32 q00 q01 q10 q11 a0 a1 b0 hb4 HB3
  go_wp2_with fail
  have HA4 : Hid (Below w4.heap.size w4 (w4.alloc (.cells #[.int .i64 9, .int .i64 0] 27))) := (Below.refl _ _).alloc (Nat.le_refl _) _
  have k4 := heap_alloc_new w4 (.cells #[.int .i64 9, .int .i64 0] 27)
  have HB4' : Hid (Below w.heap.size w (w4.alloc (.cells #[.int .i64 9, .int .i64 0] 27))) := below_step HB4.out HA4.out
  generalize w4.alloc (.cells #[.int .i64 9, .int .i64 0] 27) = w5 at HB4' k4 ⊢
  generalize w4.heap.size = n4 at k4 ⊢
  clear HA4 HB4
  refine (comC (H.out.below HB4'.out) _ (by rfl)).mono ?_
  rintro e w6 ⟨hb6, rfl⟩
  have k6 := (hb6.block n4 (lt_of_heap k4)).trans k4
  have HB6 : Hid (Below w.heap.size w w6) := below_step HB4'.out hb6
  clear hb6 k4
  go_wp2_with fail
  have HB7 : Hid (Below w.heap.size w (w6.alloc (.cells #[.int .i64 10, .int .i64 23] 27))) := below_step HB6.out ((Below.refl _ _).alloc (Nat.le_refl _) _)
  have k7 := heap_alloc_new w6 (.cells #[.int .i64 10, .int .i64 23] 27)
  have k8 := (((Below.refl _ w6).alloc (Nat.le_refl _) (.cells #[.int .i64 10, .int .i64 23] 27)).block n4 (lt_of_heap k6)).trans k6
  generalize w6.alloc (.cells #[.int .i64 10, .int .i64 23] 27) = w7 at HB7 k7 k8 ⊢
  generalize w6.heap.size = n6 at k7 ⊢
  have x0 : w7.cell? ⟨n4, 0, none⟩ = some (.int .i64 9) := (cell_of_row w7 n4 0 _ _ _ k8).trans rfl
  have x1 : w7.cell? ⟨n4, 1, none⟩ = some (.int .i64 0) := (cell_of_row w7 n4 1 _ _ _ k8).trans rfl
  have x2 : w7.cell? ⟨n6, 0, none⟩ = some (.int .i64 10) := (cell_of_row w7 n6 0 _ _ _ k7).trans rfl
  have x3 : w7.cell? ⟨n6, 1, none⟩ = some (.int .i64 23) := (cell_of_row w7 n6 1 _ _ _ k7).trans rfl
  clear k6 k7 k8 HB6 HB4'
  go_quiet (fail)
  all_goals go_wp2
  all_goals go_ret2
  all_goals exact ⟨below_drewN HB7.out _, _, rfl⟩

end Go.Proofs.YtibbjohkiigffaaGreatDoor
namespace Go.Proofs.YtibbjohkiigffaaGreatDoor
open Go.RowKit

/-- Periods with their orders. -/
abbrev tk2 (o : Nat → List Nat) (U : List (Nat × Value)) : List (Nat × List Nat) := U.map fun u => (u.1, o u.1)
/-- What stands in the first tasks. -/
def dn (o : Nat → List Nat) (U : List (Nat × Value)) (t : Nat) : List Nat := ((tk2 o U).take t).flatMap Prod.snd
/-- What Apart asks. -/
structure Good (F : List Flo) (o : Nat → List Nat) (U : List (Nat × Value)) : Prop where
  up : (U.map Prod.fst).Pairwise (· < ·)
  pos : ∀ u ∈ U, 1 ≤ u.1 ∧ u.1 ≤ 1000000 ∧ o u.1 ≠ [] ∧ (o u.1).length ≤ 60
  mem : ∀ u ∈ U, ∀ e ∈ o u.1, ∃ f, F[e]? = some f ∧ f.inp = false ∧ f.per = u.1
  cnt : ∀ (e : Nat) (f : Flo), F[e]? = some f → (dn o U U.length).count e = if f.inp then 0 else 1
  len : U.length ≤ 60 ∧ F.length ≤ 60

theorem good_of {N : Nat} {r : Mil.Bytes} {l : List Mip.It} {w : World} {P B : Nat} {w' : World} {v : Value} {U : List (Nat × Value)} (hp : Mip.Parsed r l) (h : Prg N l w P) (hT : Tw (dcl N l).2.m (prd N l) (dcl N l).2.Q B w' v U) : Good (prd N l) (ordOf (dcl N l).2.m (prd N l) (dcl N l).2.Q) U := by
  have hz := rz_prd (items_of hp) (okk_less h.ok (by decide)) h.len.2
  have hfr := h.ok.2.2.2.1 (by decide)
  have hcy := h.ok.2.2.2.2.2.2 (by decide)
  have hF : (prd N l).length ≤ 60 := by rw [prd_len]; exact h.len.1
  have hQ := h.len.2
  generalize (dcl N l).2.m = m at *
  generalize (dcl N l).2.Q = Q at *
  generalize prd N l = F at *
  have hc : ∀ q ∈ Q, ¬ Mip.Way (ndf m Q) q.flow q.flow := fun q hq => by
    unfold cyc at hcy
    have := List.find?_eq_none.1 (Option.map_eq_none_iff.1 hcy) q hq
    simpa using this
  have hf : ∀ q ∈ Q, perAt F q.flow ≠ 0 := fun q hq => by
    unfold freeAt at hfr
    have := List.find?_eq_none.1 (Option.map_eq_none_iff.1 hfr) q hq
    simpa using this
  have hmap : (tk2 (ordOf m F Q) U).map Prod.fst = U.map Prod.fst := by simp [tk2]
  have hk : Tks m F Q (tk2 (ordOf m F Q) U) := ⟨by rw [hmap]; exact hT.up, fun p => by rw [hmap]; exact hT.all p, fun t ht => by
    obtain ⟨u, _, rfl⟩ := List.mem_map.1 ht
    rfl⟩
  have hin : ∀ u ∈ U, (u.1, ordOf m F Q u.1) ∈ tk2 (ordOf m F Q) U := fun u hu => List.mem_map.2 ⟨u, hu, rfl⟩
  refine ⟨hT.up, fun u hu => ?_, fun u hu e he => ?_, fun e f hef => ?_, Nat.le_trans (tw_len hT) hQ, hF⟩
  · obtain ⟨q, q1, q2⟩ := (hT.all u.1).1 (List.mem_map.2 ⟨u, hu, rfl⟩)
    obtain ⟨f, f1, _⟩ := hz.fq.eqf q q1
    have hle := hz.fq.per f (List.mem_of_getElem? f1)
    rw [← perAt_of f1, q2] at hle
    have h0 := hf q q1
    rw [q2] at h0
    refine ⟨by omega, hle, fun e => ?_, Nat.le_trans (ordOf_len m F Q u.1) hQ⟩
    have := ((hk.order hz.fq hc (hin u hu)).2 q.flow).2 ⟨q, q1, rfl, q2⟩
    rw [show (u.1, ordOf m F Q u.1).2 = [] from e] at this
    cases this
  · obtain ⟨q, q1, rfl, q2⟩ := ((hk.order hz.fq hc (hin u hu)).2 e).1 he
    obtain ⟨f, f1, f2⟩ := hz.fq.eqf q q1
    exact ⟨f, f1, f2, by rw [← perAt_of f1]; exact q2⟩
  · have := hk.count hz.fq hc hef
    unfold dn
    rw [List.take_of_length_le (by simp [tk2])]
    exact this

theorem dn_zero (o : Nat → List Nat) (U : List (Nat × Value)) : dn o U 0 = [] := rfl
theorem dn_succ {o : Nat → List Nat} {U : List (Nat × Value)} {t : Nat} {u : Nat × Value} (h : U[t]? = some u) : dn o U (t + 1) = dn o U t ++ o u.1 := by
  unfold dn
  have e : (tk2 o U)[t]? = some (u.1, o u.1) := by rw [List.getElem?_map, h]; rfl
  rw [List.take_add_one, e]
  simp
theorem dn_le (o : Nat → List Nat) (U : List (Nat × Value)) {t : Nat} : (dn o U t).Sublist (dn o U U.length) := by
  unfold dn
  have e : ((tk2 o U).take U.length).flatMap Prod.snd = ((tk2 o U).take t).flatMap Prod.snd ++ ((tk2 o U).drop t).flatMap Prod.snd := by
    rw [← List.flatMap_append, List.take_append_drop, List.take_of_length_le (by simp)]
  rw [e]
  exact List.sublist_append_left _ _
theorem Good.fresh {F : List Flo} {o : Nat → List Nat} {U : List (Nat × Value)} (h : Good F o U) {t k x : Nat} {u : Nat × Value} (hu : U[t]? = some u) (hx : (o u.1)[k]? = some x) : (dn o U t ++ (o u.1).take k).count x = 0 := by
  obtain ⟨f, hf, hi, _⟩ := h.mem u (List.mem_of_getElem? hu) x (List.mem_of_getElem? hx)
  have h1 := h.cnt x f hf
  rw [hi] at h1
  have h2 : (dn o U (t + 1)).count x ≤ (dn o U U.length).count x := (dn_le o U).count_le x
  rw [dn_succ hu] at h2
  have h3 : ((o u.1).take (k + 1)).count x ≤ (o u.1).count x := (List.take_sublist _ _).count_le x
  rw [List.take_add_one, hx] at h3
  simp [List.count_append] at h2 h3 h1 ⊢
  omega
theorem Good.next {F : List Flo} {o : Nat → List Nat} {U : List (Nat × Value)} (h : Good F o U) {t : Nat} {u u' : Nat × Value} (hu : U[t]? = some u) (hu' : U[t + 1]? = some u') : u.1 < u'.1 := by
  have h1 : (U.map Prod.fst)[t]? = some u.1 := by rw [List.getElem?_map, hu]; rfl
  have h2 : (U.map Prod.fst)[t + 1]? = some u'.1 := by rw [List.getElem?_map, hu']; rfl
  obtain ⟨a1, a2⟩ := List.getElem?_eq_some_iff.1 h1
  obtain ⟨b1, b2⟩ := List.getElem?_eq_some_iff.1 h2
  have := List.pairwise_iff_getElem.1 h.up t (t + 1) a1 b1 (by omega)
  rw [a2, b2] at this
  exact this

/-- Flows and tasks, beside the counts. -/
structure Ax (F : List Flo) (U : List (Nat × Value)) (o : Nat → List Nat) (gs : Nat) (fo tq : Option Addr) (w : World) : Prop where
  fl : ∀ (e : Nat) (f : Flo), F[e]? = some f → ∃ g, fo = some ⟨g, 0, none⟩ ∧ g ≠ gs ∧ w.cell? ⟨g, e * 5 + 2, none⟩ = some (.int .i64 (f.per : Nat)) ∧ w.cell? ⟨g, e * 5 + 3, none⟩ = some (.bool f.inp)
  tk : ∀ (t : Nat) (u : Nat × Value), U[t]? = some u → ∃ g, tq = some ⟨g, 0, none⟩ ∧ g ≠ gs ∧ w.cell? ⟨g, t * 2, none⟩ = some (.int .i64 (u.1 : Nat)) ∧ w.cell? ⟨g, t * 2 + 1, none⟩ = some u.2
  ls : ∀ u ∈ U, ∃ g cap, u.2 = .slice (some ⟨g, 0, none⟩) (o u.1).length cap ∧ g ≠ gs ∧ ∀ (k x : Nat), (o u.1)[k]? = some x → w.cell? ⟨g, k, none⟩ = some (.int .i64 (x : Nat))
theorem Ax.set {F : List Flo} {U : List (Nat × Value)} {o : Nat → List Nat} {gs : Nat} {fo tq : Option Addr} {w : World} (h : Ax F U o gs fo tq w) (j : Nat) (v : Value) : Ax F U o gs fo tq (w.setCell ⟨gs, j, none⟩ v) := by
  have fr := fr_set w gs j v
  refine ⟨fun e f hf => ?_, fun t u hu => ?_, fun u hu => ?_⟩
  · obtain ⟨g, h1, h2, h3, h4⟩ := h.fl e f hf
    exact ⟨g, h1, h2, fr.held h3 h2, fr.held h4 h2⟩
  · obtain ⟨g, h1, h2, h3, h4⟩ := h.tk t u hu
    exact ⟨g, h1, h2, fr.held h3 h2, fr.held h4 h2⟩
  · obtain ⟨g, cap, h1, h2, h3⟩ := h.ls u hu
    exact ⟨g, cap, h1, h2, fun k x hx => fr.held (h3 k x hx) h2⟩
theorem ax_of {m : Mil.Bytes → Option Int} {F : List Flo} {Q : List Nq} {U : List (Nat × Value)} {gs cf : Nat} {fo : Option Addr} {B1 B2 : Nat} {tq : Option Addr} {ct : Nat} {w : World}
    (hg : Good F (ordOf m F Q) U) (hF : w.ownsRow B1 42 5 (.slice fo F.length cf) F.length (fls F)) (hs : ∃ cur, w.heap[gs]? = some (.cells cur 3 (0, 0))) (hT : Tw m F Q B2 w (.slice tq U.length ct) U) (hf : ∀ u ∈ U, Fsh (gs + 1) u.2) : Ax F U (ordOf m F Q) gs fo tq w := by
  obtain ⟨cur, hs⟩ := hs
  refine ⟨fun e f hef => ?_, fun t u hu => ?_, fun u hu => ?_⟩
  · have hl : F.length ≠ 0 := by have := (List.getElem?_eq_some_iff.1 hef).1; omega
    obtain ⟨g, rfl, cu, hcu⟩ := own_some hF hl
    exact ⟨g, rfl, heap_nt hcu hs (by decide), (fls_cell hF hef).1, (fls_cell hF hef).2.1⟩
  · have hl : U.length ≠ 0 := by have := (List.getElem?_eq_some_iff.1 hu).1; omega
    obtain ⟨g, rfl, cu, hcu⟩ := own_some hT.row hl
    exact ⟨g, rfl, heap_nt hcu hs (by decide), (tks_cell hT.row hu).1, (tks_cell hT.row hu).2⟩
  · rcases hT.lst u hu with ⟨e, _⟩ | ⟨g, cap, _, e, _, h4⟩
    · exact absurd e (hg.pos u hu).2.2.1
    · have := hf u hu g (by rw [e]; rfl)
      exact ⟨g, cap, e, by omega, h4⟩
/-- The counts. -/
def cn (D : List Nat) (i : Nat) : Value := .int .i64 ((D.count i : Nat) : Int)
theorem cn_snoc {D : List Nat} {x : Nat} (h : D.count x = 0) (i : Nat) : (if i = x then Value.int .i64 1 else cn D i) = cn (D ++ [x]) i := by
  unfold cn
  rw [List.count_append]
  by_cases e : i = x
  · subst e
    rw [if_pos rfl, h]
    simp
  · rw [if_neg e, List.count_cons_of_ne (fun h => e h.symm)]
    simp

end Go.Proofs.YtibbjohkiigffaaGreatDoor
