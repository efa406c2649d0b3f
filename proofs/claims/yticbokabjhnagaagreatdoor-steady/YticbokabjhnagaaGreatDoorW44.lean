import Derived.Test.YticbokabjhnagaaGreatDoorW43
namespace Go.Proofs.YticbokabjhnagaaGreatDoor
set_option maxHeartbeats 32000000
section
open Go.RowKit
def Mn (ρ:Mil.Bytes→Int→Int→Int) (N:Nat) (l:List Mip.It) (ls:List (List Int)) (j n:Nat) (o:Option Int):Prop:=
 (lay (prd N l) ls=none∧o=none)∨∃A r S,lay (prd N l) ls=some A∧Cd (dcl N l).2.m (prd N l) (dcl N l).2.Q r∧(∀j n,S j n=tv (dcl N l).2.m ρ (dcl N l).2.Q (Lof A) S j n)∧(∀k j n,mu (prd N l) r j n < k→S j n=va (dcl N l).2.m ρ (dcl N l).2.Q (Lof A) k j n)∧o=S (j:Nat) (n:Nat)
def mv (al:Nat→Addr):Option Int→Value
 | none=>.tuple #[.int .i64 0,errV (al 11)]
 | some v=>.tuple #[.int .i64 v,.nilIface]
def MnPost (al:Nat→Addr) (ρ:Mil.Bytes→Int→Int→Int) (N:Nat) (l:List Mip.It) (ls:List (List Int)) (j n:Nat) (w:World) (E:Ending) (w':World):Prop:=
 Below w.heap.size w w'∧∃o,Mn ρ N l ls j n o∧E=.returned (mv al o)
theorem ms_start {w wr:World} {lb mb K:Nat} {wv:Value} {A:List (Option (List Int))} {fn:Nat→Value} {S:Int→Int→Option Int} (hA:A.length=K) (hb:Below w.heap.size w wr) (hm:wr.heap[mb]?=some (.cells #[wv,.slice (some ⟨lb,0,none⟩) K K] 89 (0,0))) (hr:wr.rowIs lb 47 K fn) (h1:w.heap.size≤mb) (h2:w.heap.size≤lb) (hy:∀(k:Nat) l,A[k]?=some (some l)→∃B,Nl w B (fn k) l) (hn:∀k,A[k]?=some none→fn k=.slice none 0 0):Ms w mb lb K wv (Lof A) S wr fn:=by
 have no:∀j,j < K→Lof A j=none→fn j=.slice none 0 0:=fun j hj hl=>by
  apply hn
  have e:A[j]?=some A[j]:=List.getElem?_eq_getElem (by omega)
  have:A[j]=none:=by simpa [Lof,e] using hl
  rw [e,this]
 refine ⟨hb,hm,hr,h1,h2,fun j l hj hl=>hy j l ?_,fun j hj hl=>⟨[],by simp,?_,fun i x hx=>by simp at hx⟩,fun j k g hj hk hlj hlk hg _=>?_⟩
 ·have e:A[j]?=some A[j]:=List.getElem?_eq_getElem (by omega)
  have:A[j]=some l:=by simpa [Lof,e] using hl
  rw [e,this]
 ·rw [no j hj hl]
  exact ⟨rfl,Or.inl ⟨rfl,rfl⟩⟩
 ·rw [no j hj hlj] at hg
  cases hg
set_option maxRecDepth 100000 in
theorem meaning_any {al:Nat→Addr} {ρ:Mil.Bytes→Int→Int→Int} {B0 N P:Nat} {l:List Mip.It} {w:World} {vi:Value} {ls:List (List Int)} {us:List Value} (hi:Items l) (hP:Prg ρ B0 N l w P) (hE:Errs al w) (hI:Ins w vi ls us) {j n:Nat} (hj:j < (prd N l).length) (hn:n≤400) :
  Calls Tryz.prog 17 #[.pointer (some ⟨P,0,none⟩),.int .i64 (j:Nat),vi,.int .i64 (n:Nat)] w (MnPost al ρ N l ls j n w):=by
 obtain ⟨fv,tv,wv,U,B,B',hp0,hpf,_,hpw⟩:=hP.blk
 obtain ⟨r,hcd⟩:=cd_ex hi hP.ok hP.len.1 hP.len.2
 have HLG:Hid (∀w0,w0=w→Calls Tryz.prog 29 #[.pointer (some ⟨P,0,none⟩),vi] w0 (LgPost (prd N l) ls w)):=fun w0 e=>by
  subst e
  exact logsOf_any hp0 hpf (by have:=hP.len.1;have:=prd_len (N:=N) l;omega) hI
 obtain ⟨of,cf,rfl⟩:=own_shape hpf
 obtain ⟨gw,hwv⟩:∃gw,wv=.slice (some ⟨gw,0,none⟩) (prd N l).length (prd N l).length:=by
  obtain ⟨g,_,_,h,_⟩:=hpw
  exact ⟨g,h⟩
 subst hwv
 have c0:w.cell? ⟨P,0,none⟩=some (.slice of (prd N l).length cf):=(cell_of_row w P 0 _ _ _ hp0).trans rfl
 have c2:w.cell? ⟨P,2,none⟩=some (.slice (some ⟨gw,0,none⟩) (prd N l).length (prd N l).length):=(cell_of_row w P 2 _ _ _ hp0).trans rfl
 have HP:Hid (Prg ρ B0 N l w P∧Cd (dcl N l).2.m (prd N l) (dcl N l).2.Q r∧Wrw (dcl N l).2.m ρ B0 (prd N l).length (dcl N l).2.Q (.slice (some ⟨gw,0,none⟩) (prd N l).length (prd N l).length) w∧Items l):=⟨hP,hcd,hpw,hi⟩
 have HE:Hid (Errs al w):=hE
 have HJ:Hid (j < (prd N l).length∧n≤400):=⟨hj,hn⟩
 have h0:decide (((n:Nat):Int) < 0)=false:=decide_eq_false (by omega)
 have h4:decide (400 < ((n:Nat):Int))=false:=decide_eq_false (by omega)
 have HH:Hid (∀w,Calls Tryz.prog 28 #[.slice of (prd N l).length cf,.int .i64 (j:Nat)] w fun E w'=>E=.returned (.bool true)∧w=w'):=fun w=>has_any of _ cf _ w (by simp [hj])
 clear hp0 hpf hpw hcd hP hE hI hj hn hi
 go_enter Tryz.func17,Tryz.ntmps17
 go_wp2_with fail
 refine (HH.out _).mono ?_
 rintro E w1 ⟨rfl,rfl⟩
 clear HH c0
 go_wp2_with fail
 refine (HLG.out _ rfl).mono ?_
 rintro E w1 ⟨hb1,⟨hno,v,rfl⟩ | ⟨A,fn,hA,rfl,hr,hy,hn⟩⟩
 ·have HB:Hid (Below w.heap.size w w1):=hb1
  have HNO:Hid (lay (prd N l) ls=none):=hno
  have q11:=(HE.out.below hb1).c11
  clear hb1 hno c2 HLG
  go_wp2_with fail
  go_quiet (fail)
  go_wp2
  go_ret2
  exact ⟨below_drewN HB.out _,none,Or.inl ⟨HNO.out,rfl⟩,rfl⟩
 ·obtain ⟨S,hS1,hS2⟩:=sol_ex HP.out.2.1 ρ (Lof A)
  have HB:Hid (Below w.heap.size w w1):=hb1
  have HA:Hid (lay (prd N l) ls=some A∧(∀j n,S j n=_root_.Go.Proofs.YticbokabjhnagaaGreatDoor.tv (dcl N l).2.m ρ (dcl N l).2.Q (Lof A) S j n)∧(∀k j n,mu (prd N l) r j n < k→S j n=va (dcl N l).2.m ρ (dcl N l).2.Q (Lof A) k j n)):=⟨hA,hS1,hS2⟩
  have HR:Hid (w1.rowIs w.heap.size 47 (prd N l).length fn∧(∀(k:Nat) l,A[k]?=some (some l)→∃B,Nl w B (fn k) l)∧∀k,A[k]?=some none→fn k=.slice none 0 0):=⟨hr,hy,hn⟩
  have c2':w1.cell? ⟨P,2,none⟩=some (.slice (some ⟨gw,0,none⟩) (prd N l).length (prd N l).length):=(hb1.cell (lt_of_cell c2)).trans c2
  clear hb1 hA hS1 hS2 hr hy hn c2 HLG
  go_wp2_with fail
  have HIM:Hid (Im w w1.heap.size w.heap.size (prd N l).length (.slice (some ⟨gw,0,none⟩) (prd N l).length (prd N l).length) (Lof A) S [] (w1.alloc (.cells #[.slice (some ⟨gw,0,none⟩) (prd N l).length (prd N l).length,.slice (some ⟨w.heap.size,0,none⟩) (prd N l).length (prd N l).length] 89))):=
   ⟨fn,ms_start (lay_len _ _ _ HA.out.1) (HB.out.alloc HB.out.size _) (heap_alloc_new w1 _) (HR.out.1.alloc _) HB.out.size (Nat.le_refl _) HR.out.2.1 HR.out.2.2,fun p hp=>by cases hp⟩
  have HPG:Hid (Pg (dcl N l).2.m ρ (prd N l) (dcl N l).2.Q r (Lof A) S w (.slice (some ⟨gw,0,none⟩) (prd N l).length (prd N l).length) B0):=pg_ex HP.out.2.2.2 HP.out.1.ok HP.out.1.len.1 HP.out.1.len.2 HP.out.2.2.1 HA.out.1 HP.out.2.1 HA.out.2.1
  refine (at_any HPG.out (mu (prd N l) r (j:Nat) (n:Nat)+1) (j:Nat) (n:Nat) (by omega) (by omega) (by have:=HJ.out.1;omega) (Nat.lt_succ_self _) [] (fun p hp=>by cases hp) _ HIM.out).mono ?_
  rintro E w3 ⟨⟨fn3,hms,_⟩,x,rfl,hx⟩
  have HB3:Hid (Below w.heap.size w w3):=hms.be
  have q11:=(HE.out.below hms.be).c11
  clear hms HIM c2' HR HPG
  cases hS:S (j:Nat) (n:Nat) with
  | none=>
   have HMN:Hid (Mn ρ N l ls j n none):=Or.inr ⟨A,r,S,HA.out.1,HP.out.2.1,HA.out.2.1,HA.out.2.2,hS.symm⟩
   clear hx hS
   dsimp only [Option.isSome]
   go_wp2_with fail
   go_quiet (fail)
   go_wp2
   go_ret2
   exact ⟨below_drewN HB3.out _,none,HMN.out,rfl⟩
  | some v=>
   have HMN:Hid (Mn ρ N l ls j n (some v)):=Or.inr ⟨A,r,S,HA.out.1,HP.out.2.1,HA.out.2.1,HA.out.2.2,hS.symm⟩
   obtain rfl:=hx v hS
   clear hx hS
   dsimp only [Option.isSome]
   go_wp2_with fail
   go_ret2
   exact ⟨HB3.out,some x,HMN.out,rfl⟩
end
section
open Go.RowKit
structure Cp (ls : List (List Int)) (b i : Nat) (v : Value) (us : List Value) (w : World) : Prop where
  row : w.ownsRow b 47 1 v i us
  lst : ∀ (k : Nat) (l : List Int), (ls.take i)[k]? = some l → ∃ u B, us[k]? = some u ∧ Nl w B u l
theorem Cp.below {ls : List (List Int)} {b i : Nat} {v : Value} {us : List Value} {w w' : World} (h : Cp ls b i v us w) (k : Below w.heap.size w w') : Cp ls b i v us w' := by
  refine ⟨own_kept h.row (fun g hg => k.block g (lt_of_heap (own_lt h.row g hg).2.choose_spec)), fun i l hl => ?_⟩
  obtain ⟨u, B', h1, h2⟩ := h.lst i l hl
  exact ⟨u, B', h1, own_kept h2 (fun g hg => k.block g (lt_of_heap (own_lt h2 g hg).2.choose_spec))⟩
theorem Cp.more {ls : List (List Int)} {b i : Nat} {v : Value} {us : List Value} {w w' : World} (h : Cp ls b i v us w) (hg : w.grownBy w' v.ownBlock) {v' u : Value} (ho : w'.ownsRow b 47 1 v' (i + 1) (us ++ [u])) {l : List Int} (hl : ls[i]? = some l) {B : Nat} (hu : Nl w B u l) : Cp ls b (i + 1) v' (us ++ [u]) w' := by
  have kp : ∀ {B : Nat} {x : Value} {xs : List Int}, Nl w B x xs → Nl w' B x xs := fun hx => own_kept hx (fun g hgx => hg.block g (lt_of_heap (own_lt hx g hgx).2.choose_spec) (fun e => heap_nt (own_lt hx g hgx).2.choose_spec (own_lt h.row g e.symm).2.choose_spec (by decide) rfl))
  have hlen : us.length = i := by
    have := h.row.1
    omega
  have hi : i < ls.length := (List.getElem?_eq_some_iff.1 hl).1
  refine ⟨ho, fun k l' hk => ?_⟩
  rw [List.take_add_one, hl] at hk
  by_cases hki : k < i
  · rw [List.getElem?_append_left (by simp; omega)] at hk
    obtain ⟨u', B', h1, h2⟩ := h.lst k l' hk
    exact ⟨u', B', by rw [List.getElem?_append_left (by omega)]; exact h1, kp h2⟩
  · rw [List.getElem?_append_right (by simp; omega)] at hk
    have hke : k = i := by
      have := (List.getElem?_eq_some_iff.1 hk).1
      simp at this
      omega
    subst hke
    have e : l' = l := by
      have : min k ls.length = k := by omega
      simp [this] at hk
      exact hk.symm
    subst e
    exact ⟨u, B, by rw [List.getElem?_append_right (by omega)]; simp [hlen], kp hu⟩
set_option maxRecDepth 100000 in
theorem copied_any {w : World} {vi : Value} {ls : List (List Int)} {us : List Value} (hI : Ins w vi ls us) (hne : ∀ l ∈ ls, l ≠ []) :
    Calls Tryz.prog 18 #[vi] w fun E w' => Below w.heap.size w w' ∧ ∃ v us', E = .returned v ∧ Ins w' v ls us' := by
  obtain ⟨n0, hn0, nz0, nz1, nz2⟩ := info_parts Tryz.infoI64
  obtain ⟨s0, hs0, sz0, sz1, sz2⟩ := info_parts Tryz.infoSl
  obtain ⟨BI, hBI⟩ := hI.row
  obtain ⟨oi, ci, rfl⟩ := own_shape hBI
  have HII : Hid (Ins w (.slice oi ls.length ci) ls us ∧ ∀ l ∈ ls, l ≠ []) := ⟨hI, hne⟩
  have HBI : Hid (w.ownsRow BI 47 1 (.slice oi ls.length ci) ls.length us) := hBI
  clear hI hne hBI
  go_enter Tryz.func18, Tryz.ntmps18
  go_wp2_with fail
  go_loopg [3, 8] ls.length (fun gk s3 s8 wr => ∃ (i : Nat) (o : Option Addr) (c : Nat) (us' : List Value), s3 = .slice o i c ∧ s8 = .int .i64 (i : Nat) ∧ gk = ls.length - i ∧ i ≤ ls.length ∧ Hid (Below w.heap.size w wr) ∧ Hid (Cp ls w.heap.size i (.slice o i c) us' wr))
  case atStart => exact ⟨0, none, 0, [], rfl, rfl, rfl, Nat.zero_le _, Below.refl _ _, ⟨World.ownsRow_nil _ _ _ _, fun k l h => by simp at h⟩⟩
  case round =>
    obtain ⟨i, ov, cv, us', rfl, rfl, hg, hle, KB, KC⟩ := hrel
    have HG : Hid (gk = ls.length - i ∧ i ≤ ls.length) := ⟨hg, hle⟩
    clear hg hle
    by_cases hlt : i < ls.length
    · obtain ⟨l, hl⟩ : ∃ l, ls[i]? = some l := ⟨_, List.getElem?_eq_getElem hlt⟩
      have HL : Hid (ls[i]? = some l ∧ i < ls.length ∧ 0 < l.length ∧ l.length ≤ 1000000 ∧ ls.length ≤ 1000) := ⟨hl, hlt, List.length_pos_iff.2 (HII.out.2 l (List.mem_of_getElem? hl)), HII.out.1.len.2 l (List.mem_of_getElem? hl), HII.out.1.len.1⟩
      obtain ⟨u, BU, hus, hnl⟩ := HII.out.1.lst i l hl
      obtain ⟨gi, hoi⟩ : ∃ gi, oi = some ⟨gi, 0, none⟩ := by
        rcases HBI.out.2 with ⟨_, e⟩ | ⟨gi, cap, cur, e, _⟩
        · omega
        · injection e with e1; exact ⟨gi, e1⟩
      subst hoi
      obtain ⟨gu, cu, rfl⟩ : ∃ gu cu, u = .slice (some ⟨gu, 0, none⟩) l.length cu := by
        rcases hnl.2 with ⟨_, e⟩ | ⟨gi, cap, cur, e, _⟩
        · have := HL.out.2.2.1; omega
        · exact ⟨gi, cap, e⟩
      have cu1 : wr.cell? ⟨gi, i, none⟩ = some (.slice (some ⟨gu, 0, none⟩) l.length cu) := by
        have cu0 := own_cell HBI.out hus
        exact (KB.out.cell (lt_of_cell cu0)).trans cu0
      have HNL : Hid (∀ w', Below w.heap.size w w' → Nl w' BU (.slice (some ⟨gu, 0, none⟩) l.length cu) l) := fun w' k => own_kept hnl (fun g hg => k.block g (lt_of_heap (own_lt hnl g hg).2.choose_spec))
      have h0 : (0 : Int) ≤ (i : Int) := by omega
      have h1 : (i : Int) < (ls.length : Int) := by omega
      have NW : Hid (∀ (i : Nat) (u : Value), (i64s l)[i]? = some u → wr.cell? ((⟨gu, 0, none⟩ : Addr).add i) = some u) := fun i u hu => by
        rw [List.getElem?_map] at hu
        obtain ⟨x, hx, rfl⟩ := Option.map_eq_some_iff.1 hu
        rw [Addr.add_lit, Nat.zero_add]
        exact nl_cell (HNL.out wr KB.out) hx
      clear hl hus hnl
      go_wp2_with (at_builtin; first
        | (refine wpList_append_lies _ rfl _ _ 47 rfl w.heap.size 2 n0 (.int .i64 0) 1 8 Tryz.underlying47 hn0 nz0 nz1 nz2 rfl (by decide) (.slice none 0 0) 0 [] rfl (World.ownsRow_nil _ _ _ _) ⟨gu, 0, none⟩ l.length cu (i64s l) rfl (by simp) NW.out (by intro u hu; obtain ⟨x, _, rfl⟩ := List.mem_map.1 hu; rfl) HL.out.2.2.1 (by unfold maxLen; have := HL.out.2.2.2.1; omega) (by have := HL.out.2.2.2.1; omega) KB.out.size _ rfl ?_
           intro k9 c9 w9 O9 hg9 hat9 hlt9
           have HB9 : Hid (Below wr.heap.size wr w9) := below_grown (Below.refl _ _) (Nat.le_refl _) hg9 (fun k e => by cases e)
           have HO9 : Hid (Nl w9 w.heap.size (.slice (some ⟨k9, 0, none⟩) l.length c9) l) := by
             have h := O9
             rw [Nat.zero_add] at h
             exact h
           have HC9 : Hid (Below wr.heap.size wr (w9.alloc (.cells #[.slice (some ⟨k9, 0, none⟩) l.length c9] 47))) := HB9.out.alloc HB9.out.size _
           clear O9 hg9 hat9 hlt9)
        | (refine wpList_append_lies _ rfl _ _ 45 rfl w.heap.size 47 s0 (.slice none 0 0) 1 24 Tryz.underlying45 hs0 sz0 sz1 sz2 rfl (by decide) (.slice ov i cv) i us' rfl (KC.out.below HC9.out).row ⟨w9.heap.size, 0, none⟩ 1 1 [.slice (some ⟨k9, 0, none⟩) l.length c9] rfl rfl (fun j u hu => by
             cases j with
             | zero => cases hu; rw [Addr.add_lit, Nat.zero_add]; simp
             | succ j => simp at hu) (by intro u hu; simp at hu; subst hu; rfl) (by decide) (by unfold maxLen; have := HL.out; omega) (by have := HL.out; omega) (Nat.le_trans KB.out.size HC9.out.size) _ rfl ?_
           intro k8 c8 w8 O8 hg8 hat8 hlt8))
      have HC8 : Hid (Cp ls w.heap.size (i + 1) (.slice (some ⟨k8, 0, none⟩) (i + 1) c8) (us' ++ [.slice (some ⟨k9, 0, none⟩) l.length c9]) w8) :=
        (KC.out.below HC9.out).more hg8 O8 HL.out.1 (own_kept HO9.out (fun g hg => Below.heap_alloc w9 _ g (lt_of_heap (own_lt HO9.out g hg).2.choose_spec)))
      have HB8 : Hid (Below w.heap.size w w8) := below_grown (below_step KB.out HC9.out) (below_step KB.out HC9.out).size hg8 (fun k e => (own_lt KC.out.row k e).1)
      clear O8 hg8 hat8 hlt8
      go_roundg (ls.length - (i + 1))
      case measure => have := HG.out; have := HL.out; omega
      case rel => exact ⟨i + 1, _, _, _, rfl, wrap_succ (by have := HL.out.2.2.2.2; have := HL.out.2.1; omega), rfl, by have := HL.out; omega, HB8, HC8⟩
    · have hle : (ls.length : Int) ≤ (i : Int) := by omega
      have HE : Hid (i = ls.length) := by show _ = _; have := HG.out.2; omega
      go_wp2_with fail
      go_ret
      refine ⟨KB.out, _, us', rfl, ⟨⟨w.heap.size, ?_⟩, fun k l hk => ?_, HII.out.1.len⟩⟩
      · have := KC.out.row
        rw [HE.out] at this ⊢
        exact this
      · refine KC.out.lst k l ?_
        rw [HE.out, List.take_length]
        exact hk
end
section
open Go.RowKit
def pv (al:Nat→Addr):Option Int→Value
 | none=>.tuple #[.int .i64 0,.agg #[.int .i64 (lastOf al (al 11) 13),.int .i64 (-1)]]
 | some v=>.tuple #[.int .i64 v,.agg #[.int .i64 0,.int .i64 0]]
def PmPost (al:Nat→Addr) (ρ:Mil.Bytes→Int→Int→Int) (N:Nat) (l:List Mip.It) (ls:List (List Int)) (j n:Nat) (w:World) (E:Ending) (w':World):Prop:=
 Below w.heap.size w w'∧∃o,Mn ρ N l ls j n o∧E=.returned (pv al o)
set_option maxRecDepth 100000 in
theorem pmeaning_any {al:Nat→Addr} {ρ:Mil.Bytes→Int→Int→Int} {B0 N P:Nat} {l:List Mip.It} {w:World} {vi:Value} {ls:List (List Int)} {us:List Value} (hi:Items l) (hP:Prg ρ B0 N l w P) (hE:Errs al w) (hI:Ins w vi ls us) (hne:∀x∈ls,x≠[]) {j n:Nat} (hj:j < (prd N l).length) (hn:n≤400) :
  Calls Tryz.prog 11 #[.pointer (some ⟨P,0,none⟩),.int .i64 (j:Nat),vi,.int .i64 (n:Nat)] w (PmPost al ρ N l ls j n w):=by
 have HP0:Hid (Pf w (w.alloc (.cells #[.int .i64 0,.int .i64 0] 27))):=⟨heap_alloc_new w _,(Below.refl _ _).alloc (Nat.le_refl _) _⟩
 have hb0:Below w.heap.size w (w.alloc (.cells #[.int .i64 0,.int .i64 0] 27)):=(Below.refl _ _).alloc (Nat.le_refl _) _
 have HI:Hid (Ins (w.alloc (.cells #[.int .i64 0,.int .i64 0] 27)) vi ls us∧∀x∈ls,x≠[]):=⟨hI.below hb0,hne⟩
 have HW:Hid (Prg ρ B0 N l (w.alloc (.cells #[.int .i64 0,.int .i64 0] 27)) P∧Errs al (w.alloc (.cells #[.int .i64 0,.int .i64 0] 27))∧Items l∧j < (prd N l).length∧n≤400):=⟨hP.below hb0,hE.below hb0,hi,hj,hn⟩
 clear hP hE hI hne hj hn hi hb0
 go_enter Tryz.func11,Tryz.ntmps11
 go_wp2_with fail
 refine (copied_any HI.out.1 HI.out.2).mono ?_
 rintro E w1 ⟨hb1,v,us',rfl,hI1⟩
 have HP1:Hid (Pf w w1):=HP0.out.keep hb1
 have HI1:Hid (Ins w1 v ls us'):=hI1
 have HW1:Hid (Prg ρ B0 N l w1 P∧Errs al w1):=⟨HW.out.1.below hb1,HW.out.2.1.below hb1⟩
 clear hb1 hI1
 go_wp2_with fail
 refine (meaning_any HW.out.2.2.1 HW1.out.1 HW1.out.2 HI1.out HW.out.2.2.2.1 HW.out.2.2.2.2).mono ?_
 rintro E w2 ⟨hb2,o,hmn,rfl⟩
 have HP2:Hid (Pf w w2):=HP1.out.keep hb2
 have HE2:Hid (Errs al w2):=HW1.out.2.below hb2
 have HMN:Hid (Mn ρ N l ls j n o):=hmn
 clear hb2 hmn HP1 HP0
 cases o with
 | none=>
  have HK:Hid (∃c t,w2.heap[(al 11).block]?=some (.cells c t (0,0))):=HE2.out.row 11 (by decide)
  unfold mv
  go_wp2_with fail
  refine (fault_err al (al 11) _ HE2.out HK.out).mono ?_
  rintro e w3 ⟨rfl,hb3⟩
  have HP3:Hid (Pf w w3):=HP2.out.keep hb3
  obtain ⟨q0,q1,z⟩:=HP3.out.cells
  clear HP2 hb3 HK HE2
  have HPV:Hid (pv al none=.tuple #[.int .i64 0,.agg #[.int .i64 (lastOf al (al 11) 13),.int .i64 (-1)]]):=rfl
  generalize lastOf al (al 11) 13=f at HPV ⊢
  go_wp2
  exact bodyPost_ret (v:=.tuple #[.int .i64 0,.agg #[.int .i64 f,.int .i64 (-1)]]) (by simp [results,Tryz.results11,go_sem,HP3.out.r0,HP3.out.r1]) rfl ⟨HP3.out.set _ _,none,HMN.out,by rw [HPV.out]⟩
 | some x=>
  unfold mv
  go_wp2_with fail
  refine (fault_nil _).mono ?_
  rintro e w3 ⟨rfl,hb3⟩
  have HP3:Hid (Pf w w3):=HP2.out.keep hb3
  obtain ⟨q0,q1,z⟩:=HP3.out.cells
  clear HP2 hb3 HE2
  go_wp2
  exact bodyPost_ret (v:=.tuple #[.int .i64 x,.agg #[.int .i64 0,.int .i64 0]]) (by simp [results,Tryz.results11,go_sem,HP3.out.r0,HP3.out.r1]) rfl ⟨HP3.out.set _ _,some x,HMN.out,rfl⟩
end
end Go.Proofs.YticbokabjhnagaaGreatDoor
