import Derived.Test.YticbokabjhnagaaGreatDoorW31
import Derived.Test.YticbokabjhnagaaGreatDoorW41
import Derived.Test.YticbokabjhnagaaGreatDoorW29
namespace Go.Proofs.YticbokabjhnagaaGreatDoor
set_option maxHeartbeats 32000000
section
open Go.RowKit
theorem last_pos (al : Nat → Addr) (x : Addr) : ∀ n, 1 ≤ lastOf al x n
  | 0 => by show (1 : Int) ≤ 14; decide
  | j + 1 => by
    show (1 : Int) ≤ if x = al j then (j : Int) + 1 else lastOf al x j
    split
    · omega
    · exact last_pos al x j
structure Pf (w W : World) : Prop where
  b0 : W.heap[w.heap.size]? = some (.cells #[.int .i64 0, .int .i64 0] 27 (0, 0))
  bl : Below w.heap.size w W
theorem Pf.keep {w W W' : World} (h : Pf w W) (k : Below W.heap.size W W') : Pf w W' := ⟨(k.block _ (Array.getElem?_eq_some_iff.1 h.b0).1).trans h.b0, h.bl.trans (k.mono h.bl.size)⟩
theorem Pf.cells {w W : World} (h : Pf w W) : W.cell? ⟨w.heap.size, 0, none⟩ = some (.int .i64 0) ∧ W.cell? ⟨w.heap.size, 1, none⟩ = some (.int .i64 0) ∧ ∀ o, W.frozen? ⟨w.heap.size, o, none⟩ = false := by
  refine ⟨?_, ?_, fun o => ?_⟩
  · rw [cell_of_row W _ 0 _ _ _ h.b0]; rfl
  · rw [cell_of_row W _ 1 _ _ _ h.b0]; rfl
  · unfold World.frozen?; rw [h.b0]; simp
theorem Pf.set {w W : World} (h : Pf w W) (u v : Value) : Below w.heap.size w ((W.setCell ⟨w.heap.size, 0, none⟩ u).setCell ⟨w.heap.size, 1, none⟩ v) :=
  (h.bl.setCell (p := ⟨w.heap.size, 0, none⟩) (Nat.le_refl _) u).setCell (p := ⟨w.heap.size, 1, none⟩) (Nat.le_refl _) v
theorem Pf.r0 {w W : World} (h : Pf w W) (u : Value) : (W.setCell ⟨w.heap.size, 0, none⟩ u).cell? ⟨w.heap.size, 0, none⟩ = some u := World.cell?_setCell_same _ _ _ h.cells.1
theorem Pf.r1 {w W : World} (h : Pf w W) (u v : Value) : ((W.setCell ⟨w.heap.size, 0, none⟩ u).setCell ⟨w.heap.size, 1, none⟩ v).cell? ⟨w.heap.size, 1, none⟩ = some v :=
  World.cell?_setCell_same _ _ _ ((World.cell?_setCell_other _ ⟨w.heap.size, 0, none⟩ ⟨w.heap.size, 1, none⟩ _ (fun e => by simp at e)).trans h.cells.2.1)
abbrev up1 (al : Nat → Addr) : Nat → Addr := fun k => al (k - 1)
theorem Errs.ce {al : Nat → Addr} {w : World} (h : Errs al w) : Ce (up1 al) w := ⟨h.size, h.c4, h.c5, h.c6, h.c7, h.c8, h.c9⟩
theorem Lst.other {w w' : World} {v : Value} {L : List Nat} {k : Nat} {cur : Array Value} {t : TypeId} {p : Nat × Nat} (h : Lst w v L) (fr : Fr (fun i => i = k) w w') (hk : w.heap[k]? = some (.cells cur t p)) (ht : t ≠ 3) : Lst w' v L := by
  rcases h with h | ⟨g2, cap, e, rfl, ⟨cur2, h3⟩, h4⟩
  · exact Or.inl h
  · have hn : ¬ g2 = k := fun e => heap_nt h3 hk (fun e => ht e.symm) e
    exact Or.inr ⟨g2, cap, e, rfl, ⟨cur2, (fr.block g2 (lt_of_heap h3) hn).trans h3⟩, fun j x hx => fr.held (h4 j x hx) hn⟩
theorem Prg.other {ρ : Mil.Bytes → Int → Int → Int} {B0 N : Nat} {l : List Mip.It} {w w' : World} {P k : Nat} {cur : Array Value} {p : Nat × Nat} (h : Prg ρ B0 N l w P) (fr : Fr (fun i => i = k) w w') (hk : w.heap[k]? = some (.cells cur 27 p)) (hB : k < B0) : Prg ρ B0 N l w' P := by
  obtain ⟨fv, tv, wv, U, B, B', h1, h2, h3, h4⟩ := h.blk
  refine ⟨h.ok, h.len, fv, tv, wv, U, B, B', (fr.block P (lt_of_heap h1) (heap_nt h1 hk (by decide))).trans h1, own_kept h2 (fun g hg => fr.block g (lt_of_heap (own_lt h2 g hg).2.choose_spec) (heap_nt (own_lt h2 g hg).2.choose_spec hk (by decide))), ?_, h4.fr fr (fun i e => by have e' : i = k := e; omega)⟩
  exact ⟨own_kept h3.row (fun g hg => fr.block g (lt_of_heap (own_lt h3.row g hg).2.choose_spec) (heap_nt (own_lt h3.row g hg).2.choose_spec hk (by decide))), h3.up, h3.all, fun u hu => (h3.lst u hu).other fr hk (by decide)⟩
def PcPost (ρ : Mil.Bytes → Int → Int → Int) (al : Nat → Addr) (N : Nat) (r : Mil.Bytes) (w : World) (e : Ending) (w' : World) : Prop :=
  Below w.heap.size w w' ∧
  ((∃ l P, e = .returned (.tuple #[.pointer (some ⟨P, 0, none⟩), .agg #[.int .i64 0, .int .i64 0]]) ∧ Mip.Parsed r l ∧ ∃ B0, Prg ρ B0 N l w' P) ∨
   (∃ f at_, f ≠ 0 ∧ e = .returned (.tuple #[.pointer none, .agg #[.int .i64 f, .int .i64 at_]]) ∧ ((∀ l, ¬ Mil.Parsed r l) ∨ ∃ l k, Mip.Parsed r l ∧ Bad N l k at_ ∧ f = lastOf al (up1 al k) 13)))
theorem errs_row {al : Nat → Addr} {w : World} (hE : Errs al w) {k : Nat} (h1 : 1 ≤ k) (h2 : k ≤ 10) : ∃ c t, w.heap[(up1 al k).block]? = some (.cells c t (0, 0)) := hE.row (k - 1) (by omega)
theorem plainCompile_is {ρ : Mil.Bytes → Int → Int → Int} (hr : Rall2 ρ) (al : Nat → Addr) (s : ByteArray) (w : World) (L : Laid (up1 al) w) (E : Errs al w) :
    Calls Tryz.prog 6 #[.string s] w (PcPost ρ al s.size s.data.toList w) := by
  have HE : Hid (Errs al w) := E
  have HP0 : Hid (Pf w (w.alloc (.cells #[.int .i64 0, .int .i64 0] 27))) := ⟨heap_alloc_new w _, (Below.refl _ _).alloc (Nat.le_refl _) _⟩
  have HL0 : Hid (Laid (up1 al) (w.alloc (.cells #[.int .i64 0, .int .i64 0] 27))) := L.below E.size ((Below.refl _ _).alloc (Nat.le_refl _) _)
  have HC0 : Hid (Ce (up1 al) (w.alloc (.cells #[.int .i64 0, .int .i64 0] 27))) := E.ce.below ((Below.refl _ _).alloc (Nat.le_refl _) _)
  clear L E
  go_enter Tryz.func6, Tryz.ntmps6
  go_wp2_with fail
  refine (compile_is hr (up1 al) s _ HL0.out HC0.out).mono ?_
  rintro e w1 ⟨hb1, ⟨l, P, rfl, hp, hP⟩ | ⟨d, at_, k, rfl, hd, hk1, hk2, hbad⟩ | ⟨rfl, hno⟩⟩
  · have HP1 : Hid (Pf w w1) := HP0.out.keep hb1
    have HQ : Hid (Mip.Parsed s.data.toList l ∧ Prg ρ (w.heap.size + 1) s.size l w1 P) := ⟨hp, by simpa using hP⟩
    clear hb1 hp hP HL0 HP0 HC0
    go_wp2_with fail
    refine (fault_nil _).mono ?_
    rintro e w2 ⟨rfl, hb2⟩
    have HP2 : Hid (Pf w w2) := HP1.out.keep hb2
    have HT2 : Hid (Prg ρ (w.heap.size + 1) s.size l w2 P) := HQ.out.2.below hb2
    obtain ⟨q0, q1, z⟩ := HP2.out.cells
    clear HP1 hb2
    go_wp2
    refine bodyPost_ret (v := .tuple #[.pointer (some ⟨P, 0, none⟩), .agg #[.int .i64 0, .int .i64 0]]) (by simp [results, Tryz.results6, go_sem, HP2.out.r0, HP2.out.r1]) rfl ⟨HP2.out.set _ _, Or.inl ⟨l, P, rfl, HQ.out.1, w.heap.size + 1, ?_⟩⟩
    exact HT2.out.other ((fr_set w2 w.heap.size 0 _).trans (fr_set _ w.heap.size 1 _) (fun _ _ e => e)) HP2.out.b0 (by omega)
  · have HP1 : Hid (Pf w w1) := HP0.out.keep hb1
    have HE1 : Hid (Errs al w1) := HE.out.below HP1.out.bl
    have HD : Hid (w1.heap[d]? = some (.cells #[.int .i64 at_, errV (up1 al k)] 81 (0, 0))) := hd
    have HK : Hid (∃ c t, w1.heap[(up1 al k).block]? = some (.cells c t (0, 0))) := errs_row HE1.out hk1 hk2
    have HN : Hid ((∀ l, ¬ Mil.Parsed s.data.toList l) ∨ ∃ l k', Mip.Parsed s.data.toList l ∧ Bad s.size l k' at_ ∧ lastOf al (up1 al k) 13 = lastOf al (up1 al k') 13) := by
      rcases hbad with ⟨h, _⟩ | ⟨l, h1, h2⟩
      · exact Or.inl h
      · exact Or.inr ⟨l, k, h1, h2, rfl⟩
    clear hb1 hd hbad hk1 hk2 HL0 HP0 HC0
    go_wp2_with fail
    refine (fault_diag al d at_ (up1 al k) _ HE1.out HD.out HK.out).mono ?_
    rintro e w2 ⟨rfl, hb2⟩
    have HP2 : Hid (Pf w w2) := HP1.out.keep hb2
    obtain ⟨q0, q1, z⟩ := HP2.out.cells
    have HF : Hid (lastOf al (up1 al k) 13 ≠ 0) := by have := last_pos al (up1 al k) 13; show _ ≠ _; omega
    generalize lastOf al (up1 al k) 13 = f at HF HN ⊢
    clear HP1 HD HK HE1 hb2
    go_wp2
    exact bodyPost_ret (v := .tuple #[.pointer none, .agg #[.int .i64 f, .int .i64 at_]]) (by simp [results, Tryz.results6, go_sem, HP2.out.r0, HP2.out.r1]) rfl ⟨HP2.out.set _ _, Or.inr ⟨f, at_, HF.out, rfl, HN.out⟩⟩
  · have HP1 : Hid (Pf w w1) := HP0.out.keep hb1
    have HE1 : Hid (Errs al w1) := HE.out.below HP1.out.bl
    have HK : Hid (∃ c t, w1.heap[(up1 al 1).block]? = some (.cells c t (0, 0))) := errs_row HE1.out (by decide) (by decide)
    have HN : Hid (∀ l, ¬ Mil.Parsed s.data.toList l) := hno
    clear hb1 hno HL0 HP0 HC0
    go_wp2_with fail
    refine (fault_err al (up1 al 1) _ HE1.out HK.out).mono ?_
    rintro e w2 ⟨rfl, hb2⟩
    have HP2 : Hid (Pf w w2) := HP1.out.keep hb2
    obtain ⟨q0, q1, z⟩ := HP2.out.cells
    have HF : Hid (lastOf al (up1 al 1) 13 ≠ 0) := by have := last_pos al (up1 al 1) 13; show _ ≠ _; omega
    generalize lastOf al (up1 al 1) 13 = f at HF ⊢
    clear HP1 HK HE1 hb2
    go_wp2
    exact bodyPost_ret (v := .tuple #[.pointer none, .agg #[.int .i64 f, .int .i64 (-1)]]) (by simp [results, Tryz.results6, go_sem, HP2.out.r0, HP2.out.r1]) rfl ⟨HP2.out.set _ _, Or.inr ⟨f, -1, HF.out, rfl, Or.inl HN.out⟩⟩
theorem Tryz.sizeFlo (w : World) : (Go.sizeOf 42).run Tryz.prog w = .ok 5 w := by kernel_rfl
theorem Tryz.sizeTask (w : World) : (Go.sizeOf 40).run Tryz.prog w = .ok 2 w := by kernel_rfl
theorem flC_one (F : List Flo) : ∀ u ∈ fls F, u.oneCell' = true := fun u hu => by
  obtain ⟨f, _, h⟩ := List.mem_flatMap.1 hu
  simp [flC] at h
  rcases h with rfl | rfl | rfl | rfl | rfl <;> rfl
theorem fls_len (F : List Flo) : (fls F).length = F.length * 5 := by
  induction F with
  | nil => rfl
  | cons f r ih =>
    unfold fls at ih ⊢
    rw [List.flatMap_cons, List.length_append, ih, List.length_cons]
    show 5 + _ = _
    omega
def FlPost (N : Nat) (l : List Mip.It) (w : World) (E : Ending) (w' : World) : Prop := Below w.heap.size w w' ∧ ∃ v, E = .returned v ∧ w'.ownsRow w.heap.size 42 5 v (prd N l).length (fls (prd N l))
theorem flows_any {ρ : Mil.Bytes → Int → Int → Int} {B0 N : Nat} {l : List Mip.It} {w : World} {P : Nat} (h : Prg ρ B0 N l w P) : Calls Tryz.prog 7 #[.pointer (some ⟨P, 0, none⟩)] w (FlPost N l w) := by
  obtain ⟨fv, tv, wv, U, B, B', h1, h2, h3, _⟩ := h.blk
  have c0 : w.cell? ⟨P, 0, none⟩ = some fv := (cell_of_row w P 0 _ _ _ h1).trans rfl
  have hl60 : (prd N l).length ≤ 60 := by rw [prd_len]; exact h.len.1
  obtain ⟨i0, hi0, jz0, jz1, jz2⟩ := info_parts Tryz.infoFlo
  rcases h2.2 with ⟨e, e'⟩ | ⟨g, cap, cur, e, _⟩
  · subst e
    have HF : Hid (prd N l = []) := List.length_eq_zero_iff.1 e'
    clear h1 h2 h3 h e' hl60
    go_enter Tryz.func7, Tryz.ntmps7
    go_wp2_with fail
    refine (Tryz.clone_flow_nil 0 0 w).mono ?_
    rintro E w2 ⟨rfl, rfl⟩
    go_wp2
    go_ret
    refine ⟨Below.refl _ _, _, rfl, ?_⟩
    rw [HF.out]
    exact World.ownsRow_nil _ _ _ _
  · have h2' := h2
    rw [e] at h2' c0
    have HCL := Tryz.clone_flow i0 _ 5 40 hi0 jz0 jz1 jz2 rfl (by decide) Tryz.sizeFlo g 0 (prd N l).length cap (fls (prd N l)) w (fls_len _) (by unfold maxLen; omega) (by omega) (fun j u hu => by rw [Nat.zero_add]; exact own_cell h2' hu) (flC_one _)
    clear h1 h2 h3 h h2'
    go_enter Tryz.func7, Tryz.ntmps7
    go_wp2_with fail
    refine HCL.mono ?_
    rintro E w2 ⟨v', rfl, hr, _, hb⟩
    obtain ⟨o1, c1, hs⟩ := own_shape hr
    subst hs
    have HR : Hid (w2.ownsRow w.heap.size 42 5 (.slice o1 (prd N l).length c1) (prd N l).length (fls (prd N l)) ∧ Below w.heap.size w w2) := ⟨hr, hb⟩
    clear hr hb HCL
    go_wp2
    go_ret
    exact ⟨HR.out.2, _, rfl, HR.out.1⟩
end
section
open Go.RowKit
abbrev i64s (xs:List Int):List Value:=xs.map (Value.int .i64)
abbrev Nl (w:World) (B:Nat) (v:Value) (xs:List Int):Prop:=w.ownsRow B 2 1 v xs.length (i64s xs)
structure Ms (wE:World) (mb lb K:Nat) (wv:Value) (L:Nat→Option (List Int)) (S:Int→Int→Option Int) (w:World) (fn:Nat→Value):Prop where
 be:Below wE.heap.size wE w
 m0:w.heap[mb]?=some (.cells #[wv,.slice (some ⟨lb,0,none⟩) K K] 89 (0,0))
 row:w.rowIs lb 47 K fn
 lo1:wE.heap.size≤mb
 lo2:wE.heap.size≤lb
 inp:∀j l,j < K→L j=some l→∃B,Nl wE B (fn j) l
 eqn:∀j,j < K→L j=none→∃xs:List Int,xs.length≤2001∧Nl w wE.heap.size (fn j) xs∧∀(i:Nat) x,xs[i]?=some x→S (j:Nat) (i:Nat)=some x
 ap:∀j k g,j < K→k < K→L j=none→L k=none→(fn j).ownBlock=some g→(fn k).ownBlock=some g→j=k
theorem rowIs_heap {w:World} {b:Nat} {t:TypeId} {n:Nat} {f:Nat→Value} (h:w.rowIs b t n f):∃c,w.heap[b]?=some (.cells c t (0,0)):=by
 obtain ⟨c,hb,_⟩:=h
 exact ⟨c,hb⟩
theorem Ms.below {wE:World} {mb lb K:Nat} {wv:Value} {L:Nat→Option (List Int)} {S:Int→Int→Option Int} {w w':World} {fn:Nat→Value} (h:Ms wE mb lb K wv L S w fn) (k:Below w.heap.size w w'):Ms wE mb lb K wv L S w' fn:=by
 refine ⟨h.be.trans (k.mono h.be.size),(k.block _ (lt_of_heap h.m0)).trans h.m0,h.row.of_block (k.block _ h.row.lt),h.lo1,h.lo2,h.inp,fun j hj hl=>?_,h.ap⟩
 obtain ⟨xs,h0,h1,h2⟩:=h.eqn j hj hl
 exact ⟨xs,h0,own_kept h1 (fun g hg=>k.block g (lt_of_heap (own_lt h1 g hg).2.choose_spec)),h2⟩
def Pin (fn:Nat→Value) (p:Nat×Nat):Prop:=∃o c,fn p.1=.slice o p.2 c
def Im (wE:World) (mb lb K:Nat) (wv:Value) (L:Nat→Option (List Int)) (S:Int→Int→Option Int) (ps:List (Nat×Nat)) (w:World):Prop:=∃fn,Ms wE mb lb K wv L S w fn∧∀p∈ps,Pin fn p
theorem Im.env {lo:Nat} {w0 wE:World} {mb lb K:Nat} {wv:Value} {L:Nat→Option (List Int)} {S:Int→Int→Option Int} {ps:List (Nat×Nat)} (hw:Below w0.heap.size w0 wE):Env lo w0 (Im wE mb lb K wv L S ps) where
 keep:=by
  rintro w ⟨fn,h,_⟩ k _ hk
  exact (h.be.block k (Nat.lt_of_lt_of_le hk hw.size)).trans (hw.block k hk)
 grow:=by
  rintro w w' ⟨fn,h,hp⟩ hb
  exact ⟨fn,h.below hb,hp⟩
theorem nl_cell {w:World} {B g n c:Nat} {xs:List Int} (h:Nl w B (.slice (some ⟨g,0,none⟩) n c) xs) {i:Nat} {x:Int} (hi:xs[i]?=some x):w.cell? ⟨g,i,none⟩=some (.int .i64 x):=by
 obtain ⟨o,c',e⟩:=own_shape h
 injection e with e1 e2 e3
 subst e2
 exact own_cell h (by simp [i64s,hi])
theorem Ms.put {wE:World} {mb lb K:Nat} {wv:Value} {L:Nat→Option (List Int)} {S:Int→Int→Option Int} {w w7:World} {fn:Nat→Value} (h:Ms wE mb lb K wv L S w fn) {j:Nat} (hj:j < K) (hl:L j=none) {xs:List Int} (hx:Nl w wE.heap.size (fn j) xs) (hS:∀(i:Nat) x,xs[i]?=some x→S (j:Nat) (i:Nat)=some x) (hlen:xs.length≤2000) {v:Int} (hv:S (j:Nat) (xs.length:Nat)=some v)
  {g c:Nat} (O:w7.ownsRow wE.heap.size 2 1 (.slice (some ⟨g,0,none⟩) (xs.length+1) c) (xs.length+1) (i64s xs++[.int .i64 v])) (hg:w.grownBy w7 (fn j).ownBlock) (hgg:(fn j).ownBlock=some g∨g=w.heap.size) :
  Ms wE mb lb K wv L S (w7.setCell ⟨lb,j,none⟩ (.slice (some ⟨g,0,none⟩) (xs.length+1) c)) (fun k=>if k=j then .slice (some ⟨g,0,none⟩) (xs.length+1) c else fn k):=by
 obtain ⟨cr,hcr⟩:=rowIs_heap h.row
 have nb:∀k,(fn j).ownBlock=some k→wE.heap.size≤k∧∃cur,w.heap[k]?=some (.cells cur 2 (0,0)):=own_lt hx
 have old:∀k,k < w.heap.size→(fn j).ownBlock≠some k→w7.heap[k]?=w.heap[k]?:=fun k hk hn=>hg.block k hk (fun e=>hn e.symm)
 have em:w7.heap[mb]?=some (.cells #[wv,.slice (some ⟨lb,0,none⟩) K K] 89 (0,0)):=(old mb (lt_of_heap h.m0) (fun e=>heap_nt h.m0 (nb mb e).2.choose_spec (by decide) rfl)).trans h.m0
 have el:w7.heap[lb]?=w.heap[lb]?:=old lb h.row.lt (fun e=>heap_nt hcr (nb lb e).2.choose_spec (by decide) rfl)
 have nml:mb≠lb:=heap_nt h.m0 hcr (by decide)
 obtain ⟨cg,hcg⟩:=(own_lt O g rfl).2
 have hcl:w7.heap[lb]?=some (.cells cr 47 (0,0)):=el.trans hcr
 have ngl:g≠lb:=heap_nt hcg hcl (by decide)
 have keep:∀k,k≠lb→(w7.setCell ⟨lb,j,none⟩ (.slice (some ⟨g,0,none⟩) (xs.length+1) c)).heap[k]?=w7.heap[k]?:=fun k hk=>Below.heap_setCell w7 ⟨lb,j,none⟩ _ k hk
 have be7:Below wE.heap.size wE w7:=below_grown h.be h.be.size hg (fun k hk=>(nb k hk).1)
 refine ⟨be7.setCell (p:=⟨lb,j,none⟩) h.lo2 _,(keep mb nml).trans em,(h.row.of_block el).set j _,h.lo1,h.lo2,fun k l hk hkl=>?_,fun k hk hkl=>?_,fun k k' q hk hk' hkl hkl' e e'=>?_⟩
 ·have hne:k≠j:=fun e=>by rw [e,hl] at hkl;cases hkl
  show ∃B,Nl wE B (if k=j then _ else fn k) l
  rw [if_neg hne]
  exact h.inp k l hk hkl
 ·by_cases e:k=j
  ·subst e
   refine ⟨xs++[v],by simp;omega,?_,fun i x hi=>?_⟩
   ·show Nl _ _ (if k=k then _ else fn k) _
    rw [if_pos rfl]
    have e1:(xs++[v]).length=xs.length+1:=by simp
    have e2:i64s (xs++[v])=i64s xs++[.int .i64 v]:=by simp [i64s]
    show World.ownsRow _ _ _ _ _ _ _
    rw [e1,e2]
    exact own_kept O (fun k' hk'=>by
     have e3:g=k':=by simpa [Value.ownBlock] using hk'
     exact keep k' (e3 ▸ ngl))
   ·rcases Nat.lt_or_ge i xs.length with c1 | c1
    ·rw [List.getElem?_append_left c1] at hi
     exact hS i x hi
    ·have hi2:=(List.getElem?_eq_some_iff.1 hi).1
     have e3:i=xs.length:=by simp at hi2;omega
     rw [e3] at hi ⊢
     have e4:v=x:=by simpa using hi
     rw [←e4];exact hv
  ·obtain ⟨ys,y0,y1,y2⟩:=h.eqn k hk hkl
   refine ⟨ys,y0,?_,y2⟩
   show Nl _ _ (if k=j then _ else fn k) _
   rw [if_neg e]
   refine own_kept y1 (fun q hq=>?_)
   obtain ⟨_,cy,hcy⟩:=own_lt y1 q hq
   have hn1:q≠lb:=heap_nt hcy hcr (by decide)
   exact (keep q hn1).trans (old q (lt_of_heap hcy) (fun e'=>e (h.ap k j q hk hj hkl hl hq e')))
 ·by_cases c1:k=j
  ·by_cases c2:k'=j
   ·rw [c1,c2]
   ·exfalso
    rw [if_pos c1] at e
    rw [if_neg c2] at e'
    have e3:g=q:=by simpa [Value.ownBlock] using e
    obtain ⟨ys,y0,y1,y2⟩:=h.eqn k' hk' hkl'
    obtain ⟨_,cy,hcy⟩:=own_lt y1 q e'
    rcases hgg with d | d
    ·exact c2 (h.ap k' j q hk' hj hkl' hl e' (e3 ▸ d))
    ·have:=lt_of_heap hcy;omega
  ·by_cases c2:k'=j
   ·exfalso
    rw [if_neg c1] at e
    rw [if_pos c2] at e'
    have e3:g=q:=by simpa [Value.ownBlock] using e'
    obtain ⟨ys,y0,y1,y2⟩:=h.eqn k hk hkl
    obtain ⟨_,cy,hcy⟩:=own_lt y1 q e
    rcases hgg with d | d
    ·exact c1 (h.ap k j q hk hj hkl hl e (e3 ▸ d))
    ·have:=lt_of_heap hcy;omega
   ·rw [if_neg c1] at e
    rw [if_neg c2] at e'
    exact h.ap k k' q hk hk' hkl hkl' e e'
end
section
open Go.RowKit
theorem en_at:En 30:=fun _ _=>by kernel_rfl
theorem makeFunc_run (fn:Fn) (first cap:Array Value) (w:World):(Instr.makeFunc fn first cap).run Tryz.prog w=.ok (.func fn first cap) w:=rfl
theorem eql_nil (w:World):(binOp BinOp.eql 116 .nilFunc .nilFunc).run Tryz.prog w=.ok (.bool true) w:=by kernel_rfl
theorem eql_fn (f:Nat) (c:Array Value) (w:World):(binOp BinOp.eql 116 (.func (.func f) #[] c) .nilFunc).run Tryz.prog w=.ok (.bool false) w:=by kernel_rfl
structure Pg (m:Mil.Bytes→Option Int) (ρ:Mil.Bytes→Int→Int→Int) (F:List Flo) (Q:List Nq) (r:Nat→Nat) (L:Nat→Option (List Int)) (S:Int→Int→Option Int) (wE:World) (wv:Value) (B0:Nat):Prop where
 cd:Cd m F Q r
 sol:∀j n,S j n=tv m ρ Q L S j n
 wr:Wrw m ρ B0 F.length Q wv wE
 eq:∀j,j < F.length→L j=none→∃q∈Q,q.flow=j
 inp:∀j l,L j=some l→∀q∈Q,q.flow≠j
 fit:∀x k,m x=some k→0≤k∧k.toNat < F.length
 k60:F.length≤60
def AtOk (F:List Flo) (r:Nat→Nat) (wE:World) (mb lb:Nat) (wv:Value) (L:Nat→Option (List Int)) (S:Int→Int→Option Int) (u:Nat):Prop:=
 ∀j n:Int,0≤n→0≤j→j.toNat < F.length→mu F r j n < u→∀ps,(∀p∈ps,mu F r j n < mu F r (p.1:Nat) (p.2:Nat))→∀w,Im wE mb lb F.length wv L S ps w→Calls Tryz.prog 30 #[.pointer (some ⟨mb,0,none⟩),.int .i64 j,.int .i64 n] w (Ps (Im wE mb lb F.length wv L S ps) (S j n))
theorem AtOk.src {m:Mil.Bytes→Option Int} {ρ:Mil.Bytes→Int→Int→Int} {F:List Flo} {Q:List Nq} {r:Nat→Nat} {L:Nat→Option (List Int)} {S:Int→Int→Option Int} {wE:World} {wv:Value} {B0 mb lb u:Nat} (P:Pg m ρ F Q r L S wE wv B0) (h:AtOk F r wE mb lb wv L S u) {j i:Nat} (hu:mu F r (j:Nat) (i:Nat)≤u) {ps:List (Nat×Nat)} (hps:∀p∈ps,mu F r (j:Nat) (i:Nat) < mu F r (p.1:Nat) (p.2:Nat)) :
  Src (Im wE mb lb F.length wv L S ((j,i)::ps)) (.func (.func 30) #[.pointer (some ⟨mb,0,none⟩)] #[]) S (fun j' n'=>0≤n'∧(∃x,m x=some j')∧mu F r j' n' < mu F r (j:Nat) (i:Nat)):=by
 refine ⟨_,_,rfl,en_at,fun j' n' w hd hI=>?_⟩
 obtain ⟨h0,⟨x,hx⟩,hm⟩:=hd
 obtain ⟨f1,f2⟩:=P.fit x j' hx
 refine h j' n' h0 f1 f2 (by omega) _ (fun p hp=>?_) w hI
 rcases List.mem_cons.1 hp with rfl | hp
 ·exact hm
 ·have:=hps p hp;omega
set_option maxRecDepth 100000 in
theorem goOn_in {m:Mil.Bytes→Option Int} {ρ:Mil.Bytes→Int→Int→Int} {F:List Flo} {Q:List Nq} {r:Nat→Nat} {L:Nat→Option (List Int)} {S:Int→Int→Option Int} {wE:World} {wv:Value} {B0 mb lb:Nat} (P:Pg m ρ F Q r L S wE wv B0) {j:Nat} {l:List Int} (hj:j < F.length) (hl:L j=some l) {w:World} {fn:Nat→Value} (h:Ms wE mb lb F.length wv L S w fn) :
  Calls Tryz.prog 50 #[.pointer (some ⟨mb,0,none⟩),.int .i64 (j:Nat)] w fun E w'=>E=.returned (.bool false)∧w=w':=by
 obtain ⟨gw,lo,fw,rfl,_,hrow,_,_,_,hno⟩:=P.wr
 have c0:w.cell? ⟨mb,0,none⟩=some (.slice (some ⟨gw,0,none⟩) F.length F.length):=(cell_of_row w mb 0 _ _ _ h.m0).trans rfl
 have cw:w.cell? ⟨gw,j,none⟩=some .nilFunc:=by
  rw [(h.be.cell hrow.lt:w.cell? ⟨gw,j,none⟩=_),hrow.cell hj,hno j (fun q hq=>P.inp j l hl q hq)]
 have h0:(0:Int)≤(j:Int):=by omega
 have h1:(j:Int) < (F.length:Int):=by omega
 have hq:=eql_nil w
 clear h hrow hno P
 go_enter Tryz.func50,Tryz.ntmps50
 go_wp2_with fail
 go_ret
 exact ⟨rfl,rfl⟩
end
section
open Go.RowKit
theorem Tryz.infoI64:(Tryz.prog.info? 2).map (fun i=>(i.zero,i.size,i.bytes))=some (some (.int .i64 0),1,8):=by kernel_rfl
theorem pin_len {fn:Nat→Value} {j i n:Nat} {o:Option Addr} {c:Nat} (h:Pin fn (j,i)) (e:fn j=.slice o n c):n=i:=by
 obtain ⟨o',c',h'⟩:=h
 have h2:fn j=.slice o' i c':=h'
 rw [e] at h2
 injection h2
theorem Ms.mid {wE:World} {mb lb K:Nat} {wv:Value} {L:Nat→Option (List Int)} {S:Int→Int→Option Int} {w w7:World} {fn:Nat→Value} (h:Ms wE mb lb K wv L S w fn) {v:Value} {xs:List Int} (hx:Nl w wE.heap.size v xs) (hg:w.grownBy w7 v.ownBlock):w7.heap[mb]?=w.heap[mb]?∧w7.heap[lb]?=w.heap[lb]?:=by
 obtain ⟨cr,hcr⟩:=rowIs_heap h.row
 exact ⟨hg.block mb (lt_of_heap h.m0) (fun e=>heap_nt h.m0 (own_lt hx mb e.symm).2.choose_spec (by decide) rfl),hg.block lb h.row.lt (fun e=>heap_nt hcr (own_lt hx lb e.symm).2.choose_spec (by decide) rfl)⟩
def GoP (F:List Flo) (wE:World) (mb lb:Nat) (wv:Value) (L:Nat→Option (List Int)) (S:Int→Int→Option Int) (ps:List (Nat×Nat)) (j i:Nat) (rv:Option Int) (E:Ending) (w':World):Prop:=
 E=.returned (.bool rv.isSome)∧(rv.isSome=true→Im wE mb lb F.length wv L S ((j,i+1)::ps) w')∧(rv.isSome=false→Im wE mb lb F.length wv L S ((j,i)::ps) w')
set_option maxRecDepth 100000 in
theorem goOn_eq {m:Mil.Bytes→Option Int} {ρ:Mil.Bytes→Int→Int→Int} {F:List Flo} {Q:List Nq} {r:Nat→Nat} {L:Nat→Option (List Int)} {S:Int→Int→Option Int} {wE:World} {wv:Value} {B0 mb lb u:Nat} (P:Pg m ρ F Q r L S wE wv B0) (A:AtOk F r wE mb lb wv L S u) {j:Nat} (hj:j < F.length) (hl:L j=none) {q:Nq} (hqm:q∈Q) (hqj:q.flow=j) {i:Nat} (hi:i≤2000) (hu:mu F r (j:Nat) (i:Nat)≤u) {ps:List (Nat×Nat)} (hps:∀p∈ps,mu F r (j:Nat) (i:Nat) < mu F r (p.1:Nat) (p.2:Nat)) {w:World} (h:Im wE mb lb F.length wv L S ((j,i)::ps) w) :
  Calls Tryz.prog 50 #[.pointer (some ⟨mb,0,none⟩),.int .i64 (j:Nat)] w (GoP F wE mb lb wv L S ps j i (Mip.sm m ρ S q.body (i:Nat))):=by
 have HP:Hid (Pg m ρ F Q r L S wE wv B0):=P
 have HI:Hid (Im wE mb lb F.length wv L S ((j,i)::ps) w):=h
 have HSR:=A.src P hu hps
 obtain ⟨gw,lo,fw,rfl,_,hrow,_,hlo,hyes,_⟩:=P.wr
 obtain ⟨fc,cc,hfw,hbv⟩:=hyes q hqm
 have HBV:Hid (Xe lo m ρ q.body wE fc cc):=hbv
 have hen:=fun xs w=>hbv.1 xs w
 have HSRC:Hid (Src (Im wE mb lb F.length (.slice (some ⟨gw,0,none⟩) F.length F.length) L S ((j,i)::ps)) (.func (.func 30) #[.pointer (some ⟨mb,0,none⟩)] #[]) S (fun j' n'=>0≤n'∧(∃x,m x=some j')∧mu F r j' n' < mu F r (j:Nat) (i:Nat))):=HSR
 have HASK:Hid (Mip.ask m (fun j' n'=>0≤n'∧(∃x,m x=some j')∧mu F r j' n' < mu F r (j:Nat) (i:Nat)) q.body (i:Nat)):=asks P.cd hqm (by omega) (by omega) (j:Nat) (by rw [hqj];omega)
 obtain ⟨fn,hM,hpin⟩:=h
 obtain ⟨oj,cj,hfj⟩:∃o c,fn j=.slice o i c:=hpin (j,i) (by simp)
 have c0:w.cell? ⟨mb,0,none⟩=some (.slice (some ⟨gw,0,none⟩) F.length F.length):=(cell_of_row w mb 0 _ _ _ hM.m0).trans rfl
 have c1:w.cell? ⟨mb,1,none⟩=some (.slice (some ⟨lb,0,none⟩) F.length F.length):=(cell_of_row w mb 1 _ _ _ hM.m0).trans rfl
 have cl:w.cell? ⟨lb,j,none⟩=some (.slice oj i cj):=by rw [hM.row.cell hj,hfj]
 have cw:w.cell? ⟨gw,j,none⟩=some (.func (.func fc) #[] cc):=by
  rw [(hM.be.cell hrow.lt:w.cell? ⟨gw,j,none⟩=_),hrow.cell hj,←hqj,hfw]
 have h0:(0:Int)≤(j:Int):=by omega
 have h1:(j:Int) < (F.length:Int):=by omega
 have hq:=eql_fn fc cc w
 have hmf:=makeFunc_run
 have HJ:Hid (j < F.length∧L j=none∧q∈Q∧q.flow=j∧i≤2000):=⟨hj,hl,hqm,hqj,hi⟩
 obtain ⟨n0,hn0,nz0,nz1,nz2⟩:=info_parts Tryz.infoI64
 have HPS:Hid (∀p∈ps,¬(p.1=j∧p.2=i)):=fun p hp e=>by
  have:=hps p hp
  rw [e.1,e.2] at this
  omega
 clear P A hrow hyes hfw hbv hM hpin hfj hj hl hqm hqj hi hu hps HSR
 go_enter Tryz.func50,Tryz.ntmps50
 go_wp2_with fail
 have hcall:Calls Tryz.prog fc (#[.func (.func 30) #[.pointer (some ⟨mb,0,none⟩)] #[],.int .i64 (i:Nat)]++cc) w (Ps (Im wE mb lb F.length (.slice (some ⟨gw,0,none⟩) F.length F.length) L S ((j,i)::ps)) (Mip.sm m ρ S q.body (i:Nat))):=HBV.out.2 _ _ S _ (Im.env (Below.refl _ _)) HSRC.out (i:Nat) w HI.out HASK.out
 refine hcall.mono ?_
 clear hcall
 rintro E w1 ⟨hI1,x,rfl,hx⟩
 generalize hrv:Mip.sm m ρ S q.body (i:Nat)=rv at hx ⊢
 have HRV:Hid (Mip.sm m ρ S q.body (i:Nat)=rv):=hrv
 have HI1:Hid (Im wE mb lb F.length (.slice (some ⟨gw,0,none⟩) F.length F.length) L S ((j,i)::ps) w1):=hI1
 clear c0 c1 cl cw hI1 hrv hq hmf
 cases rv with
 | none=>
  clear hx
  go_wp2_with fail
  go_ret
  show GoP _ _ _ _ _ _ _ _ _ _ (Mip.sm m ρ S q.body (i:Nat)) _ _
  rw [HRV.out]
  exact ⟨rfl,(fun e=>by cases e),fun _=>HI1.out⟩
 | some v=>
  obtain rfl:=hx v rfl
  obtain ⟨fn,hM,hpin⟩:=HI1.out
  obtain ⟨oj,cj,hfj⟩:∃o c,fn j=.slice o i c:=hpin (j,i) (by simp)
  obtain ⟨xs,hx0,hxo,hxS⟩:=hM.eqn j HJ.out.1 HJ.out.2.1
  have hlen:xs.length=i:=by
   obtain ⟨o',c',e⟩:=own_shape hxo
   exact pin_len (hpin (j,i) (by simp)) e
  have HM:Hid (Ms wE mb lb F.length (.slice (some ⟨gw,0,none⟩) F.length F.length) L S w1 fn∧(∀p∈ps,Pin fn p)∧fn j=.slice oj i cj∧Nl w1 wE.heap.size (fn j) xs∧xs.length=i∧∀(k:Nat) y,xs[k]?=some y→S (j:Nat) (k:Nat)=some y):=⟨hM,fun p hp=>hpin p (List.mem_cons_of_mem _ hp),hfj,hxo,hlen,hxS⟩
  have d1:w1.cell? ⟨mb,1,none⟩=some (.slice (some ⟨lb,0,none⟩) F.length F.length):=(cell_of_row w1 mb 1 _ _ _ hM.m0).trans rfl
  have dl:w1.cell? ⟨lb,j,none⟩=some (.slice oj i cj):=by rw [hM.row.cell HJ.out.1,hfj]
  have XB:Hid (Below w1.heap.size w1 (w1.alloc (.cells #[.int .i64 x] 2)).drew):=((Below.refl _ _).alloc (Nat.le_refl _) _).drew
  have OW:Hid ((w1.alloc (.cells #[.int .i64 x] 2)).drew.ownsRow wE.heap.size 2 1 (.slice oj i cj) i (i64s xs)):=by
   have:=own_kept hxo (w':=(w1.alloc (.cells #[.int .i64 x] 2)).drew) (fun g hg=>XB.out.block g (lt_of_heap (own_lt hxo g hg).2.choose_spec))
   rw [hfj,hlen] at this
   exact this
  have NW:Hid (∀(k:Nat) (y:Value),[Value.int .i64 x][k]?=some y→(w1.alloc (.cells #[.int .i64 x] 2)).drew.cell? ((⟨w1.heap.size,0,none⟩:Addr).add k)=some y):=fun k y hk=>news_cells w1 [Value.int .i64 x] 2 k y hk
  clear hM hpin hfj hx0 hxo hxS hlen hx
  go_wp2_with fail
  refine region_L (fun w'=>w'.cell? ⟨mb,1,none⟩=some (.slice (some ⟨lb,0,none⟩) F.length F.length)∧w'.cell? ⟨lb,j,none⟩=some (.slice oj i cj)) 16 (by kernel_rfl) ⟨d1,dl⟩ (fun hS=>?_)
  refine L_take 0 (v:=?_) rfl (by kernel_rfl) (by kernel_rfl) (by kernel_rfl) (by kernel_rfl) (fun _ _ _ h=>h) (Or.inl ⟨by rfl,?_⟩) (by assumption) ?_
  rotate_left 1
  ·(intro w' hSw;(try dsimp only at hSw);go_simp <;> with_reducible rfl)
  try simp only [Act.put,List.setIfInBounds_toArray,List.set_cons_zero,List.set_cons_succ]
  refine L_take 1 (v:=?_) rfl (by kernel_rfl) (by kernel_rfl) (by kernel_rfl) (by kernel_rfl) (fun _ _ _ h=>h) (Or.inl ⟨by rfl,?_⟩) (by assumption) ?_
  rotate_left 1
  ·(intro w' hSw;(try dsimp only at hSw);go_simp <;> with_reducible rfl)
  try simp only [Act.put,List.setIfInBounds_toArray,List.set_cons_zero,List.set_cons_succ]
  refine L_take 2 (v:=?_) rfl (by kernel_rfl) (by kernel_rfl) (by kernel_rfl) (by kernel_rfl) (fun _ _ _ h=>h) (Or.inl ⟨by rfl,?_⟩) (by assumption) ?_
  rotate_left 1
  ·(intro w' hSw;(try dsimp only at hSw);go_simp <;> with_reducible rfl)
  try simp only [Act.put,List.setIfInBounds_toArray,List.set_cons_zero,List.set_cons_succ]
  refine L_take 3 (v:=?_) rfl (by kernel_rfl) (by kernel_rfl) (by kernel_rfl) (by kernel_rfl) (fun _ _ _ h=>h) (Or.inl ⟨by rfl,?_⟩) (by assumption) ?_
  rotate_left 1
  ·(intro w' hSw;(try dsimp only at hSw);go_simp <;> with_reducible rfl)
  try simp only [Act.put,List.setIfInBounds_toArray,List.set_cons_zero,List.set_cons_succ]
  refine L_take 4 (v:=?_) rfl (by kernel_rfl) (by kernel_rfl) (by kernel_rfl) (by kernel_rfl) (fun _ _ _ h=>h) (Or.inl ⟨by rfl,?_⟩) (by assumption) ?_
  rotate_left 1
  ·(intro w' hSw;(try dsimp only at hSw);go_simp <;> with_reducible rfl)
  try simp only [Act.put,List.setIfInBounds_toArray,List.set_cons_zero,List.set_cons_succ]
  refine L_take 5 (v:=?_) rfl (by kernel_rfl) (by kernel_rfl) (by kernel_rfl) (by kernel_rfl) (fun _ _ _ h=>h) (Or.inl ⟨by rfl,?_⟩) (by assumption) ?_
  rotate_left 1
  ·(intro w' hSw;(try dsimp only at hSw);go_simp <;> with_reducible rfl)
  try simp only [Act.put,List.setIfInBounds_toArray,List.set_cons_zero,List.set_cons_succ]
  refine L_take 6 (v:=?_) rfl (by kernel_rfl) (by kernel_rfl) (by kernel_rfl) (by kernel_rfl) (fun _ _ _ h=>h) (Or.inl ⟨by rfl,?_⟩) (by assumption) ?_
  rotate_left 1
  ·(intro w' hSw;(try dsimp only at hSw);go_simp <;> with_reducible rfl)
  try simp only [Act.put,List.setIfInBounds_toArray,List.set_cons_zero,List.set_cons_succ]
  refine L_take 7 (v:=?_) rfl (by kernel_rfl) (by kernel_rfl) (by kernel_rfl) (by kernel_rfl) (fun _ _ _ h=>h) (Or.inl ⟨by rfl,?_⟩) (by assumption) ?_
  rotate_left 1
  ·(intro w' hSw;(try dsimp only at hSw);go_simp <;> with_reducible rfl)
  try simp only [Act.put,List.setIfInBounds_toArray,List.set_cons_zero,List.set_cons_succ]
  refine L_take 8 (v:=?_) rfl (by kernel_rfl) (by kernel_rfl) (by kernel_rfl) (by kernel_rfl) (fun _ _ _ h=>h) (Or.inl ⟨by rfl,?_⟩) (by assumption) ?_
  rotate_left 1
  ·(intro w' hSw;(try dsimp only at hSw);go_simp <;> with_reducible rfl)
  try simp only [Act.put,List.setIfInBounds_toArray,List.set_cons_zero,List.set_cons_succ]
  refine L_take 9 (v:=?_) rfl (by kernel_rfl) (by kernel_rfl) (by kernel_rfl) (by kernel_rfl) (fun _ _ _ h=>h) (Or.inl ⟨by rfl,?_⟩) (by assumption) ?_
  rotate_left 1
  ·(intro w' hSw;(try dsimp only at hSw);go_simp <;> with_reducible rfl)
  try simp only [Act.put,List.setIfInBounds_toArray,List.set_cons_zero,List.set_cons_succ]
  refine L_take 10 (v:=?_) rfl (by kernel_rfl) (by kernel_rfl) (by kernel_rfl) (by kernel_rfl) (fun _ _ _ h=>h) (Or.inl ⟨by rfl,?_⟩) (by assumption) ?_
  rotate_left 1
  ·(intro w' hSw;(try dsimp only at hSw);go_simp <;> with_reducible rfl)
  try simp only [Act.put,List.setIfInBounds_toArray,List.set_cons_zero,List.set_cons_succ]
  refine L_take 11 (v:=?_) rfl (by kernel_rfl) (by kernel_rfl) (by kernel_rfl) (by kernel_rfl) (fun _ _ _ h=>h) (Or.inl ⟨by rfl,?_⟩) (by assumption) ?_
  rotate_left 1
  ·(intro w' hSw;(try dsimp only at hSw);go_simp <;> with_reducible rfl)
  try simp only [Act.put,List.setIfInBounds_toArray,List.set_cons_zero,List.set_cons_succ]
  refine L_take 12 (v:=?_) rfl (by kernel_rfl) (by kernel_rfl) (by kernel_rfl) (by kernel_rfl) (fun _ _ _ h=>h) (Or.inl ⟨by rfl,?_⟩) (by assumption) ?_
  rotate_left 1
  ·(intro w' hSw;(try dsimp only at hSw);go_simp <;> with_reducible rfl)
  try simp only [Act.put,List.setIfInBounds_toArray,List.set_cons_zero,List.set_cons_succ]
  refine L_one 13 (by kernel_rfl) rfl (fun K hK=>?_)
  go_simp
  refine hK.out _ _ (Or.inr ?_) (fun h13=>?_)
  ·have kp:∀{p:Addr} {y:Value},w1.cell? p=some y→(w1.alloc (.cells #[.int .i64 x] 2)).drew.cell? p=some y:=fun hp=>(XB.out.cell (lt_of_cell hp)).trans hp
   exact ⟨kp d1,kp dl⟩
  replace h13:=h13.resolve_left (by decide)
  clear hK K hS d1 dl
  try simp only [Act.put,List.setIfInBounds_toArray,List.set_cons_zero,List.set_cons_succ]
  refine L_one 14 (by kernel_rfl) rfl (fun K hK=>?_)
  refine step_append_lies _ rfl _ _ 47 rfl wE.heap.size 2 n0 (.int .i64 0) 1 8 Tryz.underlying47 hn0 nz0 nz1 nz2 rfl (by decide) (.slice oj i cj) i (i64s xs) rfl OW.out ⟨w1.heap.size,0,none⟩ 1 1 [Value.int .i64 x] rfl rfl NW.out (by intro y hy;simp at hy;subst hy;rfl) (by decide) (by unfold maxLen;have:=HJ.out.2.2.2.2;omega) (by have:=HJ.out.2.2.2.2;omega) (Nat.le_trans HM.out.1.be.size XB.out.size) _ rfl ?_
  intro k7 c7 w7 O7 hg7 hat7 hlt7
  have HM8:Ms wE mb lb F.length (.slice (some ⟨gw,0,none⟩) F.length F.length) L S (w1.alloc (.cells #[.int .i64 x] 2)).drew fn:=HM.out.1.below XB.out
  have hxo8:Nl (w1.alloc (.cells #[.int .i64 x] 2)).drew wE.heap.size (fn j) xs:=by
   show World.ownsRow _ _ _ _ _ _ _
   rw [HM.out.2.2.1,HM.out.2.2.2.2.1]
   exact OW.out
  rw [←HM.out.2.2.1] at hg7 hat7
  obtain ⟨em,el⟩:=HM8.mid hxo8 hg7
  have y1:w7.cell? ⟨mb,1,none⟩=some (.slice (some ⟨lb,0,none⟩) F.length F.length):=(cell_of_row w7 mb 1 _ _ _ (em.trans HM8.m0)).trans rfl
  have yr:=HM8.row.of_block el
  have y2:w7.cell? ⟨lb,j,none⟩=some (.slice oj i cj):=by rw [yr.cell HJ.out.1,HM.out.2.2.1]
  have yz:w7.frozen? ⟨lb,j,none⟩=false:=yr.frozen j
  have hfind:Q.find? (fun z=>z.flow==j)=some q:=by
   have:=HP.out.cd.up q HJ.out.2.2.1
   rw [HJ.out.2.2.2.1] at this
   exact this
  have hv:S (j:Nat) (i:Nat)=some x:=sol_next HP.out.sol HJ.out.2.1 hfind HJ.out.2.2.2.2 (fun k hk=>by
   obtain ⟨y,hy⟩:∃y,xs[k]?=some y:=⟨_,List.getElem?_eq_getElem (by rw [HM.out.2.2.2.2.1];exact hk)⟩
   rw [HM.out.2.2.2.2.2 k y hy];rfl) HRV.out
  have PUT:=HM8.put (g:=k7) (c:=c7) HJ.out.1 HJ.out.2.1 hxo8 HM.out.2.2.2.2.2 (by rw [HM.out.2.2.2.2.1];exact HJ.out.2.2.2.2) (by rw [HM.out.2.2.2.2.1];exact hv) (by rw [HM.out.2.2.2.2.1];exact O7) hg7 hat7
  rw [HM.out.2.2.2.2.1] at PUT
  have HPUT:Hid (Im wE mb lb F.length (.slice (some ⟨gw,0,none⟩) F.length F.length) L S ((j,i+1)::ps) (w7.setCell ⟨lb,j,none⟩ (.slice (some ⟨k7,0,none⟩) (i+1) c7))):=⟨_,PUT,fun p hp=>by
   rcases List.mem_cons.1 hp with rfl | hp
   ·exact ⟨_,_,if_pos rfl⟩
   ·by_cases e:p.1=j
    ·have hne:=HPS.out p hp
     exact absurd (HM.out.2.1 p hp) (fun hpin=>hne ⟨e,by obtain ⟨o',c',h'⟩:=hpin;rw [e,HM.out.2.2.1] at h';injection h' with _ h2;exact h2.symm⟩)
    ·obtain ⟨o',c',h'⟩:=HM.out.2.1 p hp
     exact ⟨o',c',(if_neg e).trans h'⟩⟩
  clear PUT HM8 hxo8 em el yr hfind hv O7 hg7 hat7 hlt7 h13
  refine hK.out _ _ (Or.inr ⟨y1,y2⟩) (fun h14=>?_)
  replace h14:=h14.resolve_left (by decide)
  clear hK K
  try simp only [Act.put,List.setIfInBounds_toArray,List.set_cons_zero,List.set_cons_succ]
  refine L_one 15 (by kernel_rfl) rfl (fun K hK=>?_)
  go_simp
  refine hK.out _ _ (Or.inr (by assumption)) (fun h15=>?_)
  clear h15 hK K
  try simp only [Act.put,List.setIfInBounds_toArray,List.set_cons_zero,List.set_cons_succ]
  refine L_one 16 (by kernel_rfl) rfl (fun K hK=>?_)
  go_simp
  refine hK.out _ _ (Or.inl rfl) (fun _=>?_)
  clear hK K h14 y1 y2 yz
  try simp only [Act.put,List.setIfInBounds_toArray,List.set_cons_zero,List.set_cons_succ]
  refine L_done (by kernel_rfl) ?_ _
  go_wp2_with fail
  go_ret
  show GoP _ _ _ _ _ _ _ _ _ _ (Mip.sm m ρ S q.body (i:Nat)) _ _
  rw [HRV.out]
  exact ⟨rfl,fun _=>HPUT.out,fun e=>by cases e⟩
end
end Go.Proofs.YticbokabjhnagaaGreatDoor
