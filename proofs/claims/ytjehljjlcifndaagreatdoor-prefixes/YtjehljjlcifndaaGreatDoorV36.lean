import Derived.Test.YtjehljjlcifndaaGreatDoorV35
import Derived.Test.YtjehljjlcifndaaGreatDoorRows
import Derived.Deep.Slices
import Derived.SizedLaws
import Derived.ProofKit
import Derived.ChangeBears2
import Derived.LaidMore
import Derived.OpenShut
import Derived.Stop.Joined
import Derived.LaidLaws
import Derived.LaidSub
import Derived.LaidHandle
import Derived.Lib.LaidTab
import Derived.Stop.LaidErr
import Derived.Test.YtjehljjlcifndaaGreatDoorV24
namespace Go.Proofs.YtjehljjlcifndaaGreatDoor
set_option maxHeartbeats 32000000
set_option maxRecDepth 100000
section
open Go.RowKit
variable {ls:List (List Int)} {us:List Value} {b i:Nat} {v:Value} {w w':World}
structure Cp (ls : List (List Int)) (b i : Nat) (v : Value) (us : List Value) (w : World) : Prop where
  row : w.ownsRow b 35 1 v i us
  lst : ∀ (k : Nat) (l : List Int), (ls.take i)[k]? = some l → ∃ u B, us[k]? = some u ∧ Nl w B u l
theorem Cp.below (h : Cp ls b i v us w) (k : Below w.heap.size w w') : Cp ls b i v us w' := by
  refine ⟨own_kept h.row (fun g hg => k.block g (lt_of_heap (zac h.row g hg).2.choose_spec)), fun i l hl => ?_⟩
  obtain ⟨u, B', h1, h2⟩ := h.lst i l hl
  exact ⟨u, B', h1, own_kept h2 (fun g hg => k.block g (lt_of_heap (zac h2 g hg).2.choose_spec))⟩
theorem Cp.more (h : Cp ls b i v us w) (hg : w.grownBy w' v.ownBlock) {v' u : Value} (ho : w'.ownsRow b 35 1 v' (i + 1) (us ++ [u])) {l : List Int} (hl : ls[i]? = some l) {B : Nat} (hu : Nl w B u l) : Cp ls b (i + 1) v' (us ++ [u]) w' := by
  have kp : ∀ {B : Nat} {x : Value} {xs : List Int}, Nl w B x xs → Nl w' B x xs := fun hx => own_kept hx (fun g hgx => hg.block g (lt_of_heap (zac hx g hgx).2.choose_spec) (fun e => zai (zac hx g hgx).2.choose_spec (zac h.row g e.symm).2.choose_spec (by decide) rfl))
  have hlen : us.length = i := by
    have := h.row.1
    omega
  have hi : i < ls.length := (lgs hl).1
  refine ⟨ho, fun k l' hk => ?_⟩
  rw [List.take_add_one, hl] at hk
  by_cases hki : k < i
  · rw [List.getElem?_append_left (by simp; omega)] at hk
    obtain ⟨u', B', h1, h2⟩ := h.lst k l' hk
    exact ⟨u', B', by rw [List.getElem?_append_left (by omega)]; exact h1, kp h2⟩
  · rw [List.getElem?_append_right (by simp; omega)] at hk
    have hke : k = i := by
      have := (lgs hk).1
      simp at this
      omega
    subst hke
    have e : l' = l := by
      have : min k ls.length = k := by omega
      simp [this] at hk
      exact hk.symm
    subst e
    exact ⟨u, B, by rw [List.getElem?_append_right (by omega)]; simp [hlen], kp hu⟩
theorem copied_any {vi:Value} (hI : Ins w vi ls us) (hne : ∀ l ∈ ls, l ≠ []) :
    Calls Tryz.prog 19 #[vi] w fun E w' => Below w.heap.size w w' ∧ ∃ v us', E = .returned v ∧ Ins w' v ls us' := by
  obtain ⟨n0, hn0, nz0, nz1, nz2⟩ := info_parts Tryz.infoI64
  obtain ⟨s0, hs0, sz0, sz1, sz2⟩ := info_parts Tryz.infoSl
  obtain ⟨BI, hBI⟩ := hI.row
  obtain ⟨oi, ci, rfl⟩ := zae hBI
  have HII : Hid (Ins w (.slice oi ls.length ci) ls us ∧ ∀ l ∈ ls, l ≠ []) := ⟨hI, hne⟩
  have HBI : Hid (w.ownsRow BI 35 1 (.slice oi ls.length ci) ls.length us) := hBI
  clear hI hne hBI
  go_enter Tryz.func19, Tryz.ntmps19
  go_wp2_with fail
  go_loopg [3, 8] ls.length (fun gk s3 s8 wr => ∃ (i : Nat) (o : Option Addr) (c : Nat) (us' : List Value), s3 = .slice o i c ∧ s8 = .int .i64 (i : Nat) ∧ gk = ls.length - i ∧ i ≤ ls.length ∧ Hid (Below w.heap.size w wr) ∧ Hid (Cp ls w.heap.size i (.slice o i c) us' wr))
  case atStart => exact ⟨0, none, 0, [], rfl, rfl, rfl, Nat.zero_le _, Below.refl _ _, ⟨World.ownsRow_nil _ _ _ _, fun k l h => by simp at h⟩⟩
  case round =>
    obtain ⟨i, ov, cv, us', rfl, rfl, hg, hle, KB, KC⟩ := hrel
    have HG : Hid (gk = ls.length - i ∧ i ≤ ls.length) := ⟨hg, hle⟩
    clear hg hle
    by_cases hlt : i < ls.length
    · obtain ⟨l, hl⟩ : ∃ l, ls[i]? = some l := ⟨_, List.getElem?_eq_getElem hlt⟩
      have HL : Hid (ls[i]? = some l ∧ i < ls.length ∧ 0 < l.length ∧ l.length ≤ 1000000 ∧ ls.length ≤ 1000) := ⟨hl, hlt, List.length_pos_iff.2 (HII.out.2 l (List.mem_of_getElem? hl)), HII.out.1.len.2 l (List.mem_of_getElem? hl), HII.out.1.len.1⟩
      obtain ⟨u, BU, hus, hnl⟩ := HII.out.1.lst i l hl
      obtain ⟨gi, hoi⟩ : ∃ gi, oi = some ⟨gi, 0, none⟩ := by
        rcases HBI.out.2 with ⟨_, e⟩ | ⟨gi, cap, cur, e, _⟩
        · omega
        · injection e with e1; exact ⟨gi, e1⟩
      subst hoi
      obtain ⟨gu, cu, rfl⟩ : ∃ gu cu, u = .slice (some ⟨gu, 0, none⟩) l.length cu := by
        rcases hnl.2 with ⟨_, e⟩ | ⟨gi, cap, cur, e, _⟩
        · have := HL.out.2.2.1; omega
        · exact ⟨gi, cap, e⟩
      have cu1 : wr.cell? ⟨gi, i, none⟩ = some (.slice (some ⟨gu, 0, none⟩) l.length cu) := by
        have cu0 := zan HBI.out hus
        exact (KB.out.cell (zab cu0)).trans cu0
      have HNL : Hid (∀ w', Below w.heap.size w w' → Nl w' BU (.slice (some ⟨gu, 0, none⟩) l.length cu) l) := fun w' k => own_kept hnl (fun g hg => k.block g (lt_of_heap (zac hnl g hg).2.choose_spec))
      have h0 : (0 : Int) ≤ (i : Int) := by omega
      have h1 : (i : Int) < (ls.length : Int) := by omega
      have NW : Hid (∀ (i : Nat) (u : Value), (i64s l)[i]? = some u → wr.cell? ((⟨gu, 0, none⟩ : Addr).add i) = some u) := fun i u hu => by
        rw [List.getElem?_map] at hu
        obtain ⟨x, hx, rfl⟩ := oms hu
        rw [Addr.add_lit, Nat.zero_add]
        exact zbr (HNL.out wr KB.out) hx
      clear hl hus hnl
      go_wp2_with (at_builtin; first
        | (refine wpList_append_lies _ rfl _ _ 35 rfl w.heap.size 2 n0 (.int .i64 0) 1 8 Tryz.underlying35 hn0 nz0 nz1 nz2 rfl (by decide) (.slice none 0 0) 0 [] rfl (World.ownsRow_nil _ _ _ _) ⟨gu, 0, none⟩ l.length cu (i64s l) rfl (by simp) NW.out (by intro u hu; obtain ⟨x, _, rfl⟩ := List.mem_map.1 hu; rfl) HL.out.2.2.1 (by unfold maxLen; have := HL.out.2.2.2.1; omega) (by have := HL.out.2.2.2.1; omega) KB.out.size _ rfl ?_
           intro k9 c9 w9 O9 hg9 hat9 hlt9
           have HB9 : Hid (Below wr.heap.size wr w9) := zak brf nlr hg9 (fun k e => by cases e)
           have HO9 : Hid (Nl w9 w.heap.size (.slice (some ⟨k9, 0, none⟩) l.length c9) l) := by
             have h := O9
             rw [Nat.zero_add] at h
             exact h
           have HC9 : Hid (Below wr.heap.size wr (w9.alloc (.cells #[.slice (some ⟨k9, 0, none⟩) l.length c9] 35))) := HB9.out.alloc HB9.out.size _
           clear O9 hg9 hat9 hlt9)
        | (refine wpList_append_lies _ rfl _ _ 33 rfl w.heap.size 35 s0 (.slice none 0 0) 1 24 Tryz.underlying33 hs0 sz0 sz1 sz2 rfl (by decide) (.slice ov i cv) i us' rfl (KC.out.below HC9.out).row ⟨w9.heap.size, 0, none⟩ 1 1 [.slice (some ⟨k9, 0, none⟩) l.length c9] rfl rfl (fun j u hu => by
             cases j with
             | zero => cases hu; rw [Addr.add_lit, Nat.zero_add]; simp
             | succ j => simp at hu) (by intro u hu; simp at hu; subst hu; rfl) (by decide) (by unfold maxLen; have := HL.out; omega) (by have := HL.out; omega) (Nat.le_trans KB.out.size HC9.out.size) _ rfl ?_
           intro k8 c8 w8 O8 hg8 hat8 hlt8))
      have HC8 : Hid (Cp ls w.heap.size (i + 1) (.slice (some ⟨k8, 0, none⟩) (i + 1) c8) (us' ++ [.slice (some ⟨k9, 0, none⟩) l.length c9]) w8) :=
        (KC.out.below HC9.out).more hg8 O8 HL.out.1 (own_kept HO9.out (fun g hg => Below.heap_alloc w9 _ g (lt_of_heap (zac HO9.out g hg).2.choose_spec)))
      have HB8 : Hid (Below w.heap.size w w8) := zak (zaa KB.out HC9.out) (zaa KB.out HC9.out).size hg8 (fun k e => (zac KC.out.row k e).1)
      clear O8 hg8 hat8 hlt8
      go_roundg (ls.length - (i + 1))
      case measure => have := HG.out; have := HL.out; omega
      case rel => exact ⟨i + 1, _, _, _, rfl, zbk (by have := HL.out.2.2.2.2; have := HL.out.2.1; omega), rfl, by have := HL.out; omega, HB8, HC8⟩
    · have hle : (ls.length : Int) ≤ (i : Int) := by omega
      have HE : Hid (i = ls.length) := by show _ = _; have := HG.out.2; omega
      go_wp2_with fail
      go_ret
      refine ⟨KB.out, _, us', rfl, ⟨⟨w.heap.size, ?_⟩, fun k l hk => ?_, HII.out.1.len⟩⟩
      · have := KC.out.row
        rw [HE.out] at this ⊢
        exact this
      · refine KC.out.lst k l ?_
        rw [HE.out, List.take_length]
        exact hk
end
section
open Go.RowKit
def pv (al:Nat->Addr):Option Int->Value
 | none=>.tuple #[.int .i64 0,.agg #[.int .i64 (lastOf al (al 11) 13),.int .i64 (-1)]]
 | some v=>.tuple #[.int .i64 v,.agg #[.int .i64 0,.int .i64 0]]
def PmPost (al:Nat->Addr) (ρ:Mbi) (N:Nat) (l:List Mip.It) (ls:List (List Int)) (j n:Nat) (w:World) (E:Ending) (w':World):Prop:=
 Below w.heap.size w w'/\∃o,Mn ρ N l ls j n o/\E=.returned (pv al o)
theorem zcw {al:Nat->Addr} {ρ:Mbi} {B0 N P:Nat} {l:List Mip.It} {w:World} {vi:Value} {ls:List (List Int)} {us:List Value} (hi:Items l) (hP:Prg ρ B0 N l w P) (hE:Errs al w) (hI:Ins w vi ls us) (hne:∀x∈ls,x≠[]) {j n:Nat} (hj:j < (prd N l).length) (hn:n<=400) :
  Calls Tryz.prog 10 #[.pointer (some ⟨P,0,none⟩),.int .i64 (j:Nat),vi,.int .i64 (n:Nat)] w (PmPost al ρ N l ls j n w):=by
 have HP0:Hid (Pf w (w.alloc (.cells #[.int .i64 0,.int .i64 0] 30))):=⟨han w _,brf.alloc nlr _⟩
 have hb0:Below w.heap.size w (w.alloc (.cells #[.int .i64 0,.int .i64 0] 30)):=brf.alloc nlr _
 have HI:Hid (Ins (w.alloc (.cells #[.int .i64 0,.int .i64 0] 30)) vi ls us/\∀x∈ls,x≠[]):=⟨hI.below hb0,hne⟩
 have HW:Hid (Prg ρ B0 N l (w.alloc (.cells #[.int .i64 0,.int .i64 0] 30)) P/\Errs al (w.alloc (.cells #[.int .i64 0,.int .i64 0] 30))/\Items l/\j < (prd N l).length/\n<=400):=⟨hP.below hb0,hE.below hb0,hi,hj,hn⟩
 clear hP hE hI hne hj hn hi hb0
 go_enter Tryz.func10,Tryz.ntmps10
 go_wp2_with fail
 refine (copied_any HI.out.1 HI.out.2).mono ?_
 rintro E w1 ⟨hb1,v,us',rfl,hI1⟩
 have HP1:=hid (HP0.out.keep hb1)
 have HI1:=hid hI1
 have HW1:Hid (Prg ρ B0 N l w1 P/\Errs al w1):=⟨HW.out.1.below hb1,HW.out.2.1.below hb1⟩
 clear hb1 hI1
 go_wp2_with fail
 refine (meaning_any HW.out.2.2.1 HW1.out.1 HW1.out.2 HI1.out HW.out.2.2.2.1 HW.out.2.2.2.2).mono ?_
 rintro E w2 ⟨hb2,o,hmn,rfl⟩
 have HP2:=hid (HP1.out.keep hb2)
 have HE2:=hid (HW1.out.2.below hb2)
 have HMN:=hid hmn
 clear hb2 hmn HP1 HP0
 cases o with
 | none=>
  have HK:Hid (∃c t,w2.heap[(al 11).block]?=some (.cells c t (0,0))):=HE2.out.row 11 (by decide)
  unfold mv
  go_wp2_with fail
  refine (fault_err al (al 11) _ HE2.out HK.out).mono ?_
  rintro e w3 ⟨rfl,hb3⟩
  have HP3:=hid (HP2.out.keep hb3)
  obtain⟨q0,q1,z⟩:=HP3.out.cells
  clear HP2 hb3 HK HE2
  have HPV:Hid (pv al none=.tuple #[.int .i64 0,.agg #[.int .i64 (lastOf al (al 11) 13),.int .i64 (-1)]]):=rfl
  generalize lastOf al (al 11) 13=f at HPV ⊢
  go_wp2
  exact bodyPost_ret (v:=.tuple #[.int .i64 0,.agg #[.int .i64 f,.int .i64 (-1)]]) (by simp[results,Tryz.results10,go_sem,HP3.out.r0,HP3.out.r1]) rfl ⟨HP3.out.set _ _,none,HMN.out,by rw[HPV.out]⟩
 | some x=>
  unfold mv
  go_wp2_with fail
  refine (fault_nil _).mono ?_
  rintro e w3 ⟨rfl,hb3⟩
  have HP3:=hid (HP2.out.keep hb3)
  obtain⟨q0,q1,z⟩:=HP3.out.cells
  clear HP2 hb3 HE2
  go_wp2
  exact bodyPost_ret (v:=.tuple #[.int .i64 x,.agg #[.int .i64 0,.int .i64 0]]) (by simp[results,Tryz.results10,go_sem,HP3.out.r0,HP3.out.r1]) rfl ⟨HP3.out.set _ _,some x,HMN.out,rfl⟩
end
section
open Go.RowKit
variable {b:Nat} {w w':World}
def Scr (w:World) (b off n:Nat):Prop:=∀j,j < n->∃(k x y z:Int) (s:ByteArray) (o1:Option Addr) (n1 c1:Nat) (o2:Option Addr) (n2 c2:Nat),w.cell? ⟨b,off+j*7,none⟩=some (.int .i64 k)/\w.cell? ⟨b,off+j*7+1,none⟩=some (.int .i64 x)/\w.cell? ⟨b,off+j*7+2,none⟩=some (.int .i64 y)/\w.cell? ⟨b,off+j*7+3,none⟩=some (.int .i64 z)/\w.cell? ⟨b,off+j*7+4,none⟩=some (.string s)/\w.cell? ⟨b,off+j*7+5,none⟩=some (.slice o1 n1 c1)/\w.cell? ⟨b,off+j*7+6,none⟩=some (.slice o2 n2 c2)
theorem Scr.below {off n:Nat} (h:Scr w b off n) (k:Below w.heap.size w w'):Scr w' b off n:=fun j hj=>by
  obtain⟨q,x,y,z,s,o1,n1,c1,o2,n2,c2,h0,h1,h2,h3,h4,h5,h6⟩:=h j hj
  have kp:∀{p:Addr} {v:Value},w.cell? p=some v->w'.cell? p=some v:=fun hp=>(k.cell (zab hp)).trans hp
  exact⟨q,x,y,z,s,o1,n1,c1,o2,n2,c2,kp h0,kp h1,kp h2,kp h3,kp h4,kp h5,kp h6⟩
theorem Cp.app {ls:List (List Int)} {v:Value} {us:List Value} (h:Cp ls b ls.length v us w) (hg:w.grownBy w' v.ownBlock) {v' u:Value} (ho:w'.ownsRow b 35 1 v' (ls.length+1) (us++[u])) {l:List Int} {B:Nat} (hu:Nl w B u l):Cp (ls++[l]) b (ls++[l]).length v' (us++[u]) w':=by
  have h':Cp (ls++[l]) b ls.length v us w:=⟨h.row,fun k l' hk=>h.lst k l' (by
    rw[List.take_append_of_le_length nlr] at hk
    exact hk)⟩
  have:=h'.more hg ho (l:=l) (by simp) hu
  simpa using this
end
section
open Go.ChangeShapes Go.WideShapes Go.ChangeAt Go.RowKit Go.Deep
theorem cellsOp:Tryz.prog.cellsOf 27=7:=by kernel_rfl
theorem bytesOp:33<=Tryz.prog.bytesOf 27:=by
 have h:decide (33<=Tryz.prog.bytesOf 27)=true:=by kernel_rfl
 exact of_decide_eq_true h
theorem cellsI:Tryz.prog.cellsOf 3=1:=by kernel_rfl
theorem cellsS:Tryz.prog.cellsOf 9=1:=by kernel_rfl
theorem cellsL:Tryz.prog.cellsOf 24=1:=by kernel_rfl
theorem cellsU:Tryz.prog.cellsOf 25=1:=by kernel_rfl
theorem open_script {H:Type} {enc:TypeId×Value->H} {W:World} {fuel:Nat} {cs:List Value} {x:DataW H×List MemPlace} (h:DataW.trod enc Tryz.prog W 0 (fun _=>true) true fuel 22 cs=some x) (hw:∀elems spare,x.1=.slice elems spare->(elems.length+spare.length)*Tryz.prog.bytesOf 27<=reachBytes) :
  (∃o c,cs=[.slice o 0 c])\/∃b off n c,cs=[.slice (some ⟨b,off,none⟩) n c]/\0 < n/\n < 2 ^ 60/\Scr W b off n:=by
 rcases open_slice Tryz.underlying22 h with ⟨rfl,_⟩|⟨a,len,cap,m,n,D,P,rfl,_,hl,_,hm,hx1,hx⟩
 ·exact Or.inl ⟨none,0,rfl⟩
 ·have hm':m=cap:=by simpa using hm
  have hlen:len<=4398046511103:=by
   have h1:=hw _ _ (congrArg Prod.fst hx1)
   simp only[List.length_map,List.length_range] at h1
   have h2:reachBytes=140737488351232:=by decide
   rw[h2] at h1
   have h3:=Nat.mul_le_mul_left (len+(m - len)) bytesOp
   omega
  by_cases hz0:len=0
  ·subst hz0
   exact Or.inl ⟨_,_,rfl⟩
  obtain⟨b,off,spot⟩:=a
  have hspot:spot=none:=by
   obtain⟨z,hz⟩:∃z:Nat,z=0:=⟨0,rfl⟩
   obtain⟨cs',h1,_⟩:=hx z (by omega)
   rw[cellsOp] at h1
   subst hz
   obtain⟨_,hlen,hcell⟩:=World.cells?_some h1
   have g0:=hcell 0 (by decide)
   obtain⟨c0,hc0⟩:∃c0,cs'[0]?=some c0:=⟨_,List.getElem?_eq_getElem (by omega)⟩
   rw[hc0] at g0
   simpa [Addr.add] using World.cell?_spot g0
  subst hspot
  refine Or.inr ⟨b,off,len,cap,rfl,by omega,by omega,fun j hj=>?_⟩
  obtain⟨cs',h1,h2⟩:=hx j (by omega)
  rw[cellsOp] at h1
  clear hx hw hx1
  obtain⟨_,hlen,hcell⟩:=World.cells?_some h1
  obtain⟨xs,k,_,_,_,hxl,hf⟩:=DataW.trod_struct Tryz.underlying27 h2
  have hxl':xs.length=7:=hxl
  have ad:∀i,((⟨b,off,none⟩:Addr).add (j*7)).add i=⟨b,off+j*7+i,none⟩:=fun i=>by rw[Addr.add_lit,Addr.add_lit]
  obtain⟨y0,hy0⟩:∃y,xs[0]?=some y:=⟨_,List.getElem?_eq_getElem (by omega)⟩
  have g0:=hf 0 _ rfl
  rw[hy0] at g0
  obtain⟨z0,e0,_,wf0⟩:=DataW.trod_int Tryz.underlying3 g0
  have q0:W.cell? ⟨b,off+j*7,none⟩=some (.int .i64 z0):=by
   have h:=hcell 0 (by decide)
   rw[ad] at h
   refine h.trans ?_
   have:=congrArg (·[0]?) e0
   simpa [List.getElem?_take,List.getElem?_drop,cellsI] using this
  obtain⟨y1,hy1⟩:∃y,xs[1]?=some y:=⟨_,List.getElem?_eq_getElem (by omega)⟩
  have g1:=hf 1 _ rfl
  rw[hy1] at g1
  obtain⟨z1,e1,_,wf1⟩:=DataW.trod_int Tryz.underlying3 g1
  have q1:W.cell? ⟨b,off+j*7+1,none⟩=some (.int .i64 z1):=by
   have h:=hcell 1 (by decide)
   rw[ad] at h
   refine h.trans ?_
   have:=congrArg (·[0]?) e1
   simpa [List.getElem?_take,List.getElem?_drop,cellsI] using this
  obtain⟨y2,hy2⟩:∃y,xs[2]?=some y:=⟨_,List.getElem?_eq_getElem (by omega)⟩
  have g2:=hf 2 _ rfl
  rw[hy2] at g2
  obtain⟨z2,e2,_,wf2⟩:=DataW.trod_int Tryz.underlying3 g2
  have q2:W.cell? ⟨b,off+j*7+2,none⟩=some (.int .i64 z2):=by
   have h:=hcell 2 (by decide)
   rw[ad] at h
   refine h.trans ?_
   have:=congrArg (·[0]?) e2
   simpa [List.getElem?_take,List.getElem?_drop,cellsI] using this
  obtain⟨y3,hy3⟩:∃y,xs[3]?=some y:=⟨_,List.getElem?_eq_getElem (by omega)⟩
  have g3:=hf 3 _ rfl
  rw[hy3] at g3
  obtain⟨z3,e3,_,wf3⟩:=DataW.trod_int Tryz.underlying3 g3
  have q3:W.cell? ⟨b,off+j*7+3,none⟩=some (.int .i64 z3):=by
   have h:=hcell 3 (by decide)
   rw[ad] at h
   refine h.trans ?_
   have:=congrArg (·[0]?) e3
   simpa [List.getElem?_take,List.getElem?_drop,cellsI] using this
  obtain⟨y4,hy4⟩:∃y,xs[4]?=some y:=⟨_,List.getElem?_eq_getElem (by omega)⟩
  have g4:=hf 4 _ rfl
  rw[hy4] at g4
  obtain⟨z4,e4,_,_⟩:=DataW.trod_string Tryz.underlying9 g4
  have q4:W.cell? ⟨b,off+j*7+4,none⟩=some (.string z4):=by
   have h:=hcell 4 (by decide)
   rw[ad] at h
   refine h.trans ?_
   have:=congrArg (·[0]?) e4
   simpa [List.getElem?_take,List.getElem?_drop,cellsS] using this
  obtain⟨y5,hy5⟩:∃y,xs[5]?=some y:=⟨_,List.getElem?_eq_getElem (by omega)⟩
  have g5:=hf 5 _ rfl
  rw[hy5] at g5
  have g5':∃(o:Option Addr) (l c:Nat),(cs'.drop 5).take 1=[.slice o l c]:=by
   rcases DataW.trod_slice Tryz.underlying24 g5 with ⟨e,_⟩|⟨a,len,cap,_,_,_,_,e,_,_,hl,hm,_⟩
   ·exact⟨none,0,0,by simpa [cellsL] using e⟩
   ·exact⟨some a,len,cap,by simpa [cellsL] using e⟩
  obtain⟨o5,l5,c5,e5⟩:=g5'
  have q5:W.cell? ⟨b,off+j*7+5,none⟩=some (.slice o5 l5 c5):=by
   have h:=hcell 5 (by decide)
   rw[ad] at h
   refine h.trans ?_
   have:=congrArg (·[0]?) e5
   simpa [List.getElem?_take,List.getElem?_drop,cellsL] using this
  obtain⟨y6,hy6⟩:∃y,xs[6]?=some y:=⟨_,List.getElem?_eq_getElem (by omega)⟩
  have g6:=hf 6 _ rfl
  rw[hy6] at g6
  have g6':∃(o:Option Addr) (l c:Nat),(cs'.drop 6).take 1=[.slice o l c]:=by
   rcases DataW.trod_slice Tryz.underlying25 g6 with ⟨e,_⟩|⟨a,len,cap,_,_,_,_,e,_,_,hl,hm,_⟩
   ·exact⟨none,0,0,by simpa [cellsU] using e⟩
   ·exact⟨some a,len,cap,by simpa [cellsU] using e⟩
  obtain⟨o6,l6,c6,e6⟩:=g6'
  have q6:W.cell? ⟨b,off+j*7+6,none⟩=some (.slice o6 l6 c6):=by
   have h:=hcell 6 (by decide)
   rw[ad] at h
   refine h.trans ?_
   have:=congrArg (·[0]?) e6
   simpa [List.getElem?_take,List.getElem?_drop,cellsU] using this
  exact⟨z0,z1,z2,z3,z4,o5,l5,c5,o6,l6,c6,q0,q1,q2,q3,q4,q5,q6⟩
end
section
open Go
def FitErrs (P:Program) (ti:TypeId) (nm:String):List (String×DataW Unit)->List Nat->Prop
 | [],[]=>True
 | (n,d)::r,g::gs=>(∃text,d=.iface nm (.ptr (.agg [.lit (.string text)])))/\P.globalNamed n=some g/\(P.globals[g]?).map (·.type)=some ti/\FitErrs P ti nm r gs
 | _,_=>False
def HoldErrs (W:World) (tp:TypeId):List Addr->List Nat->Prop
 | [],[]=>True
 | a::az,g::gs=>W.cell? ⟨g,0,none⟩=some (.iface tp (.pointer (some a)))/\(∃c t,W.heap[a.block]?=some (.cells c t (0,0)))/\a ∉ az/\HoldErrs W tp az gs
 | _,_=>False
theorem errs_of_laid {P:Program} {nm:String} {W:World} {ti tp te ts:TypeId} {ms:Array (String×TypeId)} {f:Field}
  (hi:P.underlying ti=some (.interface ms)) (hrow:∀u,P.typeName? 3 u=some nm->u=tp)
  (hp:P.underlying tp=some (.pointer te)) (he:P.underlying te=some (.struct #[f])) (hft:f.type=ts) (hfo:f.offset=0) (hs:P.underlying ts=some .string) (hc:P.cellsOf te=1) (hcs:P.cellsOf ts=1) :
  ∀(laid:List (String×DataW Unit)) (gs:List Nat) (ps:List MemPlace),FitErrs P ti nm laid gs->DataW.LaidVars P W laid ps->ps.Nodup ->
   (∀b off,MemPlace.cell b off∈ps->(∃c t,W.heap[b]?=some (.cells c t (0,0)))/\∀u v,W.cell? ⟨b,off,none⟩=some (.iface u v)->Value.okWide P W .any 0 u v) ->
   ∃az:List Addr,HoldErrs W tp az gs/\∀a,a∈az->MemPlace.cell a.block a.off∈ps:=by
 intro laid
 induction laid with
 | nil=>
  intro gs ps hfit _ _ _
  cases gs with
  | nil=>exact⟨[],trivial,fun a h=>by cases h⟩
  | cons g r=>exact hfit.elim
 | cons x r ih=>
  intro gs ps hfit hv hnd hrows
  obtain⟨n,d⟩:=x
  cases gs with
  | nil=>exact hfit.elim
  | cons g gs=>
   obtain⟨⟨text,rfl⟩,hg,ht,hfit'⟩:=hfit
   obtain⟨g0,t0,cs0,f0,p0,q0,hg0,ht0,hv0,hd0,hq0,e0⟩:=hv
   obtain rfl:=Option.some.inj (hg.symm.trans hg0)
   obtain rfl:=Option.some.inj (ht.symm.trans ht0)
   subst e0
   have hq:q0.Nodup:=List.Nodup.sublist (List.sublist_append_right _ _) hnd
   obtain⟨az,hold,hmem⟩:=ih gs q0 hfit' hq0 hq (fun b off hm=>hrows b off (List.mem_append_right _ hm))
   obtain⟨l0⟩:=cs0
   have ok0:∀u v,l0=[.iface u v]->Value.okWide P W .any 0 u v:=fun u v e=>by
    subst e
    exact (hrows g 0 (by simp[MemPlace.row])).2 u v (by simpa using World.var?_cell hg0 hv0 0)
   obtain⟨a,s,rfl,hca,_,_,rfl⟩:=errorString_of_trod hi hrow hp he hft hfo hs hc hcs hd0 ok0
   have hin:MemPlace.cell a.block a.off∈MemPlace.row a 1:=by simp[MemPlace.row]
   refine⟨a::az,⟨by simpa using World.var?_cell hg0 hv0 0,(hrows a.block a.off ?_).1,?_,hold⟩,?_⟩
   ·exact List.mem_append_left _ (List.mem_append_right _ hin)
   ·intro h
    have h2:=hmem a h
    have h3:=(List.nodup_append.1 hnd).2.2 _ (List.mem_append_right _ hin) _ h2
    exact h3 rfl
   ·intro b hb
    rcases List.mem_cons.1 hb with rfl|hb
    ·exact List.mem_append_left _ (List.mem_append_right _ hin)
    ·exact List.mem_append_right _ (hmem b hb)
theorem hold_len {W:World} {tp:TypeId}:∀(az:List Addr) (gs:List Nat),HoldErrs W tp az gs->az.length=gs.length
 | [],[],_=>rfl
 | _::az,_::gs,h=>by simp[hold_len az gs h.2.2.2]
 | [],_::_,h=>h.elim
 | _::_,[],h=>h.elim
theorem hold_at {W:World} {tp:TypeId} (z:Addr):∀(xs:List Addr) (gs:List Nat),HoldErrs W tp xs gs->∀i,i < xs.length ->
  W.cell? ⟨gs.getD i 0,0,none⟩=some (.iface tp (.pointer (some (xs.getD i z))))/\∃c t,W.heap[(xs.getD i z).block]?=some (.cells c t (0,0))
 | [],[],_,i,hi=>by simp at hi
 | [],_::_,h,_,_=>h.elim
 | _::_,[],h,_,_=>h.elim
 | a::xs,g::gs,h,0,_=>⟨h.1,h.2.1⟩
 | a::xs,g::gs,h,i+1,hi=>hold_at z xs gs h.2.2.2 i (by simpa using hi)
theorem hold_ne {W:World} {tp:TypeId} (z:Addr):∀(xs:List Addr) (gs:List Nat),HoldErrs W tp xs gs->∀i k,k < i->i < xs.length->xs.getD k z≠xs.getD i z
 | [],[],_,i,_,_,hi=>by simp at hi
 | [],_::_,h,_,_,_,_=>h.elim
 | _::_,[],h,_,_,_,_=>h.elim
 | _::_,_::_,_,0,_,hk,_=>by omega
 | a::xs,g::gs,h,i+1,0,_,hi=>by
  have hi':i < xs.length:=by simpa using hi
  intro e
  apply h.2.2.1
  have e':a=xs.getD i z:=by simpa using e
  rw[e']
  simp[hi']
 | a::xs,g::gs,h,i+1,k+1,hk,hi=>by
  have:=hold_ne z xs gs h.2.2.2 i k (by omega) (by simpa using hi)
  simpa using this
theorem chunks {c:Nat}:∀(ys:List (List Value)) (cs:List Value),cs.length=ys.length*c->(∀(i:Nat) (y:List Value),ys[i]?=some y->(cs.drop (i*c)).take c=y)->cs=ys.flatten
 | [],cs,hl,_=>by
  have:cs.length=0:=by simpa using hl
  simp[List.length_eq_zero_iff.1 this]
 | y::ys,cs,hl,h=>by
  have h0:=h 0 y rfl
  rw[Nat.zero_mul,List.drop_zero] at h0
  have hd:=chunks (c:=c) ys (cs.drop c) (by rw[List.length_drop,hl,List.length_cons,Nat.succ_mul];omega) (fun i z hz=>by
   have:=h (i+1) z hz
   rw[List.drop_drop,show c+i*c=(i+1)*c by rw[Nat.succ_mul];omega]
   exact this)
  rw[List.flatten_cons,<-h0,<-hd,List.take_append_drop]
section
variable {H:Type} {enc:TypeId×Value->H} {P:Program} {w:World} {base:Nat} {sp:Nat->Bool} {held:Bool}
theorem zdb {fuel:Nat} {t e:TypeId} {n c:Nat} {cs:List Value} {ds:List (DataW H)} {p:List MemPlace} (ht:P.underlying t=some (.array n e)) (hce:P.cellsOf e=c) (hct:P.cellsOf t=n*c)
  (ys:List (List Value)) (hn:ys.length=n) (hel:∀(i:Nat) (d:DataW H) (y:List Value) (m:Nat) (x:List Value) (q:List MemPlace),ds[i]?=some d->ys[i]?=some y->DataW.trod enc P w base sp held m e x=some (d,q)->x=y)
  (h:DataW.trod enc P w base sp held fuel t cs=some (.agg ds,p)):cs=ys.flatten:=by
 obtain⟨xs,m,rfl,hx,hl,hxl,hi⟩:=DataW.trod_array ht h
 rw[hct] at hl
 rw[hce] at hi
 refine chunks (c:=c) ys cs (by rw[hl,hn]) fun i y hy=>?_
 have hin:i < n:=by rw[<-hn];exact (List.getElem?_eq_some_iff.1 hy).1
 have hds:ds=xs.map (·.1):=by
  have:=congrArg Prod.fst hx
  simpa using this
 obtain⟨x,hxi⟩:∃x,xs[i]?=some x:=⟨xs[i]'(by omega),List.getElem?_eq_getElem _⟩
 have h1:=hi i hin
 rw[hxi] at h1
 exact hel i x.1 y m _ x.2 (by rw[hds,List.getElem?_map,hxi];rfl) hy h1
end
theorem block_of_var {P:Program} {W:World} {n:String} {g:Nat} {cs:Array Value} (hg:P.globalNamed n=some g) (hv:W.var? P n=some cs) (hr:∃c t,W.heap[g]?=some (.cells c t (0,0))):∃t,W.heap[g]?=some (.cells cs t (0,0)):=by
 obtain⟨c,t,h⟩:=hr
 unfold World.var? at hv
 rw[hg,Option.bind_some,h] at hv
 obtain rfl:=Option.some.inj hv
 exact⟨t,h⟩
theorem ones:∀l:List (List UInt8),(l.map fun x=>[Value.string ⟨x.toArray⟩]).flatten=l.map fun x=>Value.string ⟨x.toArray⟩
 | []=>rfl
 | x::r=>by rw[List.map_cons,List.flatten_cons,List.map_cons,ones r];rfl
theorem zcs {P:Program} {W:World} {name:String} {g:Nat} {t e:TypeId} {n:Nat} (l:List (List UInt8))
  (hg:P.globalNamed name=some g) (hty:(P.globals[g]?).map (·.type)=some t) (ht:P.underlying t=some (.array n e)) (he:P.underlying e=some .string) (hce:P.cellsOf e=1) (hct:P.cellsOf t=n) (hn:l.length=n) (h0:0 < n)
  (h:laidMet P [(name,.agg (l.map fun x=>.lit (.string x)))] W):∃t,W.heap[g]?=some (.cells (l.map fun x=>Value.string ⟨x.toArray⟩).toArray t (0,0)):=by
 obtain⟨ps,⟨g',t',cs,fuel,p,q,hg',ht',hvar,hd,_,hps⟩,_,hrows⟩:=h
 obtain rfl:=Option.some.inj (hg.symm.trans hg')
 obtain rfl:=Option.some.inj (hty.symm.trans ht')
 have hc:=zdb (c:=1) ht hce (by rw[hct,Nat.mul_one]) (l.map fun x=>[Value.string ⟨x.toArray⟩]) (by rw[List.length_map,hn]) (by
  intro i d y m x q hd hy hx
  rw[List.getElem?_map] at hd hy
  obtain⟨z,hz,rfl⟩:=Option.map_eq_some_iff.1 hd
  rw[hz] at hy
  obtain rfl:=Option.some.inj hy
  obtain⟨s,rfl,e1,_⟩:=DataW.trod_string he hx
  have e2:z=s.data.toList:=by
   have:=congrArg Prod.fst e1
   simpa using this
  subst e2
  rfl) hd
 have hc':cs=(l.map fun x=>Value.string ⟨x.toArray⟩).toArray:=by
  rw[<-Array.toList_inj,hc]
  show (l.map fun x=>[Value.string ⟨x.toArray⟩]).flatten=l.map fun x=>Value.string ⟨x.toArray⟩
  exact ones l
 subst hc'
 refine block_of_var hg hvar (hrows g 0 ?_).1
 rw[hps]
 simp[MemPlace.row]
 omega
theorem quads_of_laid {P:Program} {W:World} {name:String} {g:Nat} {t e:TypeId} {n:Nat} {f0 f1 f2 f3:Field} {k:IntKind} (l:List (List UInt8×Int×Int×Int))
  (hg:P.globalNamed name=some g) (hty:(P.globals[g]?).map (·.type)=some t) (ht:P.underlying t=some (.array n e)) (he:P.underlying e=some (.struct #[f0,f1,f2,f3])) (o0:f0.offset=0) (o1:f1.offset=1) (o2:f2.offset=2) (o3:f3.offset=3) (h0s:P.underlying f0.type=some .string) (h1s:P.underlying f1.type=some (.int k)) (h2s:P.underlying f2.type=some (.int k)) (h3s:P.underlying f3.type=some (.int k)) (c0:P.cellsOf f0.type=1) (c1:P.cellsOf f1.type=1) (c2:P.cellsOf f2.type=1) (c3:P.cellsOf f3.type=1)
  (hce:P.cellsOf e=4) (hct:P.cellsOf t=n*4) (hn:l.length=n) (h0:0 < n)
  (h:laidMet P [(name,.agg (l.map fun x=>.agg [.lit (.string x.1),.lit (.int k x.2.1),.lit (.int k x.2.2.1),.lit (.int k x.2.2.2)]))] W):∃t,W.heap[g]?=some (.cells (l.flatMap fun x=>[Value.string ⟨x.1.toArray⟩,.int k x.2.1,.int k x.2.2.1,.int k x.2.2.2]).toArray t (0,0)):=by
 obtain⟨ps,⟨g',t',cs,fuel,p,q,hg',ht',hvar,hd,_,hps⟩,_,hrows⟩:=h
 obtain rfl:=Option.some.inj (hg.symm.trans hg')
 obtain rfl:=Option.some.inj (hty.symm.trans ht')
 have hc:=zdb (c:=4) ht hce hct (l.map fun x=>[Value.string ⟨x.1.toArray⟩,.int k x.2.1,.int k x.2.2.1,.int k x.2.2.2]) (by rw[List.length_map,hn]) (by
  intro i d y m x q hd hy hx
  rw[List.getElem?_map] at hd hy
  obtain⟨z,hz,rfl⟩:=Option.map_eq_some_iff.1 hd
  rw[hz] at hy
  obtain rfl:=Option.some.inj hy
  obtain⟨xs,m',rfl,e0,hl,hxl,hf⟩:=DataW.trod_struct he hx
  have g0:=hf 0 f0 rfl
  have g1:=hf 1 f1 rfl
  have g2:=hf 2 f2 rfl
  have g3:=hf 3 f3 rfl
  rw[hce] at hl
  rw[o0,c0] at g0
  rw[o1,c1] at g1
  rw[o2,c2] at g2
  rw[o3,c3] at g3
  match xs,hxl with
  | [a,b,c,d],_=>
   obtain⟨s,q0,e1,_⟩:=DataW.trod_string h0s g0
   obtain⟨j1,q1,e2,_⟩:=DataW.trod_int h1s g1
   obtain⟨j2,q2,e3,_⟩:=DataW.trod_int h2s g2
   obtain⟨j3,q3,e4,_⟩:=DataW.trod_int h3s g3
   subst e1 e2 e3 e4
   have e5:z.1=s.data.toList/\z.2.1=j1/\z.2.2.1=j2/\z.2.2.2=j3:=by
    have:=congrArg Prod.fst e0
    simpa using this
   match x,hl with
   | [u0,u1,u2,u3],_=>
    simp at q0 q1 q2 q3
    show [u0,u1,u2,u3]=[Value.string ⟨z.1.toArray⟩,.int k z.2.1,.int k z.2.2.1,.int k z.2.2.2]
    rw[q0,q1,q2,q3,e5.1,e5.2.1,e5.2.2.1,e5.2.2.2]) hd
 have hc':cs=(l.flatMap fun x=>[Value.string ⟨x.1.toArray⟩,.int k x.2.1,.int k x.2.2.1,.int k x.2.2.2]).toArray:=by
  rw[<-Array.toList_inj,hc]
  simp[List.flatMap]
 subst hc'
 refine block_of_var hg hvar (hrows g 0 ?_).1
 rw[hps]
 cases l with
 | nil=>simp at hn;omega
 | cons x r=>simp[MemPlace.row]
end
section
open Go Go.RowKit
variable {W:World}
theorem starE : "*" ++ "errors.errorString" = "*errors.errorString" := by decide
theorem rowE (u : TypeId) (h : Tryz.prog.typeName? 3 u = some "*errors.errorString") : u = 303 :=
 typeName_ptr_named (nm := "errors.errorString") (by rw [starE]; kernel_rfl) (by kernel_rfl) (by decide) u (by rw [starE]; exact h)
theorem cellsES:Tryz.prog.cellsOf 305=1:=by kernel_rfl
theorem zed:Tryz.prog.cellsOf 9=1:=by kernel_rfl
abbrev nums:List Nat:=[19,18,2,4,5,6,7,8,9,10,11,12,0,1,13]
def sents : List (String × DataW Unit) := [("strconv.ErrRange", Rows.laid_strconv_ErrRange), ("strconv.ErrSyntax", Rows.laid_strconv_ErrSyntax), ("ratemill/mill.ErrLong", Rows.laid_ratemill_mill_ErrLong), ("ratemill/mill.ErrToken", Rows.laid_ratemill_mill_ErrToken), ("ratemill/mill.ErrSyntax", Rows.laid_ratemill_mill_ErrSyntax), ("ratemill/mill.ErrMany", Rows.laid_ratemill_mill_ErrMany), ("ratemill/mill.ErrTwice", Rows.laid_ratemill_mill_ErrTwice), ("ratemill/mill.ErrName", Rows.laid_ratemill_mill_ErrName), ("ratemill/mill.ErrType", Rows.laid_ratemill_mill_ErrType), ("ratemill/mill.ErrPeriod", Rows.laid_ratemill_mill_ErrPeriod), ("ratemill/mill.ErrFree", Rows.laid_ratemill_mill_ErrFree), ("ratemill/mill.ErrCycle", Rows.laid_ratemill_mill_ErrCycle), ("ratemill/mill.ErrFlow", Rows.laid_ratemill_mill_ErrFlow), ("ratemill/mill.ErrInputs", Rows.laid_ratemill_mill_ErrInputs), ("ratemill/mill.ErrOverrun", Rows.laid_ratemill_mill_ErrOverrun)]
def isSent:String×DataW Unit->Bool
 | (_,.iface _ (.ptr _))=>true
 | _=>false
def isOne (n:String) (x:String×DataW Unit):Bool:=x.1==n
abbrev plains:List (String×DataW Unit):=Rows.prefixesRow.laid.filter fun x=>x.2.handleName?.isNone
theorem plains_sents:plains.filter isSent=sents:=by kernel_rfl
theorem plains_words : plains.filter (isOne "ratemill/mill.words") = [("ratemill/mill.words", .agg (Mil.words.map fun x => .lit (.string x)))] := by kernel_rfl
theorem plains_signs : plains.filter (isOne "ratemill/mill.signs") = [("ratemill/mill.signs", .agg (Mil.signs.map fun x => .lit (.string x)))] := by kernel_rfl
theorem plains_types : plains.filter (isOne "ratemill/mill.typeWords") = [("ratemill/mill.typeWords", .agg ([Mil.wInt, Mil.wBool].map fun x => .lit (.string x)))] := by kernel_rfl
theorem plains_ops : plains.filter (isOne "ratemill/mill.operators") = [("ratemill/mill.operators", .agg (opsTab.map fun x => .agg [.lit (.string x.1), .lit (.int .i64 x.2.1), .lit (.int .i64 x.2.2.1), .lit (.int .i64 x.2.2.2)]))] := by kernel_rfl
theorem plains_last : (plains.filter (isOne "math/bits.deBruijn64tab")).map (·.1) = ["math/bits.deBruijn64tab"] := by kernel_rfl
theorem fit : FitErrs Tryz.prog 47 "*errors.errorString" sents nums :=
 ⟨⟨_,rfl⟩,by kernel_rfl,by kernel_rfl,⟨_,rfl⟩,by kernel_rfl,by kernel_rfl,⟨_,rfl⟩,by kernel_rfl,by kernel_rfl,⟨_,rfl⟩,by kernel_rfl,by kernel_rfl,⟨_,rfl⟩,by kernel_rfl,by kernel_rfl,⟨_,rfl⟩,by kernel_rfl,by kernel_rfl,⟨_,rfl⟩,by kernel_rfl,by kernel_rfl,⟨_,rfl⟩,by kernel_rfl,by kernel_rfl,⟨_,rfl⟩,by kernel_rfl,by kernel_rfl,⟨_,rfl⟩,by kernel_rfl,by kernel_rfl,⟨_,rfl⟩,by kernel_rfl,by kernel_rfl,⟨_,rfl⟩,by kernel_rfl,by kernel_rfl,⟨_,rfl⟩,by kernel_rfl,by kernel_rfl,⟨_,rfl⟩,by kernel_rfl,by kernel_rfl,⟨_,rfl⟩,by kernel_rfl,by kernel_rfl,trivial⟩
theorem kEt : Tryz.prog.globalNamed "errors.errorType" = some 3 := by kernel_rfl
theorem kRt : (Tryz.prog.cutTypes.find? (·.1 == "internal/reflectlite.rtype")).map (·.2) = some 212 := by kernel_rfl
theorem kOneRow:((List.range 343).filter fun t=>Tryz.prog.rowNamed t [101,114,114,111,114])=[47]:=by kernel_rfl
theorem kTypes:Tryz.prog.types.size=343:=by kernel_rfl
theorem handles_are : (Rows.prefixesRow.laid.filter fun x => x.2.handleName?.isSome) = [("errors.errorType", Rows.laid_errors_errorType)] := by kernel_rfl
theorem et_of (h : handlesMet Tryz.prog [("errors.errorType", Rows.laid_errors_errorType)] W) : W.cell? ⟨3, 0, none⟩ = some eTy := by
 obtain⟨name,u,ty,e1,e2,e3,e4,e5⟩:=h _ (List.mem_singleton.2 rfl)
 have en:name=[101,114,114,111,114]:=(osi e1).symm
 subst en
 obtain rfl:=osi (kRt.symm.trans e2)
 have hm:ty∈(List.range 343).filter fun t=>Tryz.prog.rowNamed t [101,114,114,111,114]:=List.mem_filter.2 ⟨List.mem_range.2 (by rw[<-kTypes];exact e3),e4⟩
 rw[kOneRow] at hm
 obtain rfl:=List.mem_singleton.1 hm
 have hh:typeHandle Tryz.prog 47=.pointer (some ⟨23,47,none⟩):=by kernel_rfl
 rw[hh] at e5
 simpa using World.var?_cell kEt e5 0
theorem lt_of_last {n:String} {g:Nat} {l:List (String×DataW Unit)} (hl:l.map (·.1)=[n]) (hg:Tryz.prog.globalNamed n=some g) (h:laidMet Tryz.prog l W):g < W.heap.size:=by
 match l,hl with
 | [x],hl=>
  obtain⟨ps,⟨g',t',cs,fuel,p,q,hg',ht',hvar,_⟩,_⟩:=h
  have e:x.1=n:=by simpa using hl
  rw[e] at hg' hvar
  obtain rfl:=osi (hg.symm.trans hg')
  unfold World.var? at hvar
  rw[hg,Option.bind_some] at hvar
  rcases Nat.lt_or_ge g W.heap.size with h'|h'
  ·exact h'
  ·rw[Array.getElem?_eq_none h'] at hvar
   cases hvar
theorem of_laid (h:laidMetH Tryz.prog Rows.prefixesRow.laid W) :
  ∃al:Nat->Addr,Errs al W/\Laid (fun k=>al (k - 1)) W/\∀i k,k < i->i < 13->al k≠al i:=by
 obtain⟨h1,h2⟩:=laidMetH_iff.1 h
 rw[handles_are] at h2
 have hE:=et_of h2
 have hS:laidMet Tryz.prog sents W:=by have:=h1.filter isSent;rw[plains_sents] at this;exact this
 have hw := h1.filter (isOne "ratemill/mill.words")
 rw[plains_words] at hw
 have hg := h1.filter (isOne "ratemill/mill.signs")
 rw[plains_signs] at hg
 have ht := h1.filter (isOne "ratemill/mill.typeWords")
 rw[plains_types] at ht
 have ho := h1.filter (isOne "ratemill/mill.operators")
 rw[plains_ops] at ho
 have hl:23<=W.heap.size:=by
  have := lt_of_last plains_last (g := 23 - 1) (by kernel_rfl) (h1.filter (isOne "math/bits.deBruijn64tab"))
  omega
 have qw:=zcs Mil.words (g:=14) (t:=268) (by kernel_rfl) (by kernel_rfl) Tryz.underlying268 Tryz.underlying9 zed (by kernel_rfl) rfl (by decide) hw
 have qg:=zcs Mil.signs (g:=15) (t:=270) (by kernel_rfl) (by kernel_rfl) Tryz.underlying270 Tryz.underlying9 zed (by kernel_rfl) rfl (by decide) hg
 have qt:=zcs [Mil.wInt,Mil.wBool] (g:=16) (t:=274) (by kernel_rfl) (by kernel_rfl) Tryz.underlying274 Tryz.underlying9 zed (by kernel_rfl) rfl (by decide) ht
 have qo:=quads_of_laid opsTab (g:=17) (t:=277) (by kernel_rfl) (by kernel_rfl) Tryz.underlying277 Tryz.underlying253 rfl rfl rfl rfl Tryz.underlying9 Tryz.underlying3 Tryz.underlying3 Tryz.underlying3 zed (by kernel_rfl) (by kernel_rfl) (by kernel_rfl) (by kernel_rfl) (by kernel_rfl) rfl (by decide) ho
 obtain⟨ps,hv,hnd,hrows⟩:=hS
 obtain⟨xs,hold,_⟩:=errs_of_laid Tryz.underlying47 rowE Tryz.underlying303 Tryz.underlying305 rfl rfl Tryz.underlying9 cellsES zed sents nums ps fit hv hnd hrows
 have hlen:xs.length=15:=hold_len xs nums hold
 have at_:∀i,i < 15->W.cell? ⟨nums.getD i 0,0,none⟩=some (errV (xs.getD i ⟨0,0,none⟩)):=fun i hi=>(hold_at ⟨0,0,none⟩ xs nums hold i (by omega)).1
 refine⟨fun i=>if i=19 then xs.getD 0 ⟨0,0,none⟩ else xs.getD (i+2) ⟨0,0,none⟩,?_,?_,?_⟩
 ·exact⟨hl,at_ 2 (by decide),at_ 3 (by decide),at_ 4 (by decide),at_ 5 (by decide),at_ 6 (by decide),at_ 7 (by decide),at_ 8 (by decide),at_ 9 (by decide),at_ 10 (by decide),at_ 11 (by decide),at_ 12 (by decide),at_ 13 (by decide),at_ 14 (by decide),
   fun i hi=>by
    show ∃c t,W.heap[(if i=19 then xs.getD 0 ⟨0,0,none⟩ else xs.getD (i+2) ⟨0,0,none⟩:Addr).block]?=some (.cells c t (0,0))
    rw[if_neg (by omega)]
    exact (hold_at ⟨0,0,none⟩ xs nums hold (i+2) (by omega)).2,hE⟩
 ·exact⟨hl,at_ 2 (by decide),at_ 3 (by decide),at_ 4 (by decide),at_ 5 (by decide),qw,qg,qt,qo,at_ 0 (by decide)⟩
 ·intro i k hk hi
  show (if k=19 then xs.getD 0 ⟨0,0,none⟩ else xs.getD (k+2) ⟨0,0,none⟩:Addr)≠if i=19 then xs.getD 0 ⟨0,0,none⟩ else xs.getD (i+2) ⟨0,0,none⟩
  rw[if_neg (by omega),if_neg (by omega)]
  exact hold_ne ⟨0,0,none⟩ xs nums hold (i+2) (k+2) (by omega) (by omega)
end
end Go.Proofs.YtjehljjlcifndaaGreatDoor
