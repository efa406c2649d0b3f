import Derived.Test.YtjehljjlcifndaaGreatDoorX28
import Derived.Test.YtjehljjlcifndaaGreatDoorX39
import Derived.Test.YtjehljjlcifndaaGreatDoorX27
import Derived.Test.YtjehljjlcifndaaGreatDoorRows
import Derived.Deep.Slices
import Derived.SizedLaws
import Derived.ProofKit
import Derived.ChangeBears2
import Derived.LaidMore
import Derived.OpenShut
import Derived.Stop.Joined
import Derived.LaidLaws
import Derived.LaidSub
import Derived.LaidHandle
import Derived.Lib.LaidTab
import Derived.Stop.LaidErr
namespace Go.Proofs.YtjehljjlcifndaaGreatDoor
set_option maxHeartbeats 32000000
set_option maxRecDepth 100000
section
open Go.RowKit
theorem last_pos (al:Nat->Addr) (x:Addr):∀n,1<=lastOf al x n
 | 0=>by show (1:Int)<=14;decide
 | j+1=>by
  show (1:Int)<=if x=al j then (j:Int)+1 else lastOf al x j
  split
  ·omega
  ·exact last_pos al x j
structure Pf (w W:World):Prop where
 b0:W.heap[w.heap.size]?=some (.cells #[.int .i64 0,.int .i64 0] 30 (0,0))
 bl:Below w.heap.size w W
theorem Pf.keep {w W W':World} (h:Pf w W) (k:Below W.heap.size W W'):Pf w W':=⟨(k.block _ (ags h.b0).1).trans h.b0,h.bl.trans (k.mono h.bl.size)⟩
theorem Pf.cells {w W:World} (h:Pf w W):W.cell? ⟨w.heap.size,0,none⟩=some (.int .i64 0)/\W.cell? ⟨w.heap.size,1,none⟩=some (.int .i64 0)/\∀o,W.frozen? ⟨w.heap.size,o,none⟩=false:=by
 refine⟨?_,?_,fun o=>?_⟩
 ·rw[cor W _ 0 _ _ _ h.b0];rfl
 ·rw[cor W _ 1 _ _ _ h.b0];rfl
 ·unfold World.frozen?;rw[h.b0];simp
theorem Pf.set {w W:World} (h:Pf w W) (u v:Value):Below w.heap.size w ((W.setCell ⟨w.heap.size,0,none⟩ u).setCell ⟨w.heap.size,1,none⟩ v):=
 (h.bl.setCell (p:=⟨w.heap.size,0,none⟩) nlr u).setCell (p:=⟨w.heap.size,1,none⟩) nlr v
theorem Pf.r0 {w W:World} (h:Pf w W) (u:Value):(W.setCell ⟨w.heap.size,0,none⟩ u).cell? ⟨w.heap.size,0,none⟩=some u:=World.cell?_setCell_same _ _ _ h.cells.1
theorem Pf.r1 {w W:World} (h:Pf w W) (u v:Value):((W.setCell ⟨w.heap.size,0,none⟩ u).setCell ⟨w.heap.size,1,none⟩ v).cell? ⟨w.heap.size,1,none⟩=some v:=
 World.cell?_setCell_same _ _ _ ((World.cell?_setCell_other _ ⟨w.heap.size,0,none⟩ ⟨w.heap.size,1,none⟩ _ (fun e=>by simp at e)).trans h.cells.2.1)
abbrev up1 (al:Nat->Addr):Nat->Addr:=fun k=>al (k - 1)
theorem Errs.ce {al:Nat->Addr} {w:World} (h:Errs al w):Ce (up1 al) w:=⟨h.size,h.c4,h.c5,h.c6,h.c7,h.c8,h.c9⟩
theorem Lst.other {w w':World} {v:Value} {L:List Nat} {k:Nat} {cur:Array Value} {t:TypeId} {p:Nat×Nat} (h:Lst w v L) (fr:Fr (fun i=>i=k) w w') (hk:w.heap[k]?=some (.cells cur t p)) (ht:t≠3):Lst w' v L:=by
 rcases h with h|⟨g2,cap,e,rfl,⟨cur2,h3⟩,h4⟩
 ·exact Or.inl h
 ·have hn:¬g2=k:=fun e=>heap_nt h3 hk (fun e=>ht e.symm) e
  exact Or.inr ⟨g2,cap,e,rfl,⟨cur2,(fr.block g2 (lt_of_heap h3) hn).trans h3⟩,fun j x hx=>fr.held (h4 j x hx) hn⟩
theorem Prg.other {ρ:Mil.Bytes->Int->Int->Int} {B0 N:Nat} {l:List Mip.It} {w w':World} {P k:Nat} {cur:Array Value} {p:Nat×Nat} (h:Prg ρ B0 N l w P) (fr:Fr (fun i=>i=k) w w') (hk:w.heap[k]?=some (.cells cur 30 p)) (hB:k < B0):Prg ρ B0 N l w' P:=by
 obtain⟨fv,tv,wv,U,B,B',h1,h2,h3,h4⟩:=h.blk
 refine⟨h.ok,h.len,fv,tv,wv,U,B,B',(fr.block P (lt_of_heap h1) (heap_nt h1 hk (by decide))).trans h1,own_kept h2 (fun g hg=>fr.block g (lt_of_heap (own_lt h2 g hg).2.choose_spec) (heap_nt (own_lt h2 g hg).2.choose_spec hk (by decide))),?_,h4.fr fr (fun i e=>by have e':i=k:=e;omega)⟩
 exact⟨own_kept h3.row (fun g hg=>fr.block g (lt_of_heap (own_lt h3.row g hg).2.choose_spec) (heap_nt (own_lt h3.row g hg).2.choose_spec hk (by decide))),h3.up,h3.all,fun u hu=>(h3.lst u hu).other fr hk (by decide)⟩
def PcPost (ρ:Mil.Bytes->Int->Int->Int) (al:Nat->Addr) (N:Nat) (r:Mil.Bytes) (w:World) (e:Ending) (w':World):Prop:=
 Below w.heap.size w w' /\
 ((∃l P,e=.returned (.tuple #[.pointer (some ⟨P,0,none⟩),.agg #[.int .i64 0,.int .i64 0]])/\Mip.Parsed r l/\∃B0,Prg ρ B0 N l w' P)\/(∃f at_,f≠0/\e=.returned (.tuple #[.pointer none,.agg #[.int .i64 f,.int .i64 at_]])/\((∀l,¬Mil.Parsed r l)\/∃l k,Mip.Parsed r l/\Bad N l k at_/\f=lastOf al (up1 al k) 13)))
theorem errs_row {al:Nat->Addr} {w:World} (hE:Errs al w) {k:Nat} (h1:1<=k) (h2:k<=10):∃c t,w.heap[(up1 al k).block]?=some (.cells c t (0,0)):=hE.row (k - 1) (by omega)
theorem plainCompile_is {ρ:Mil.Bytes->Int->Int->Int} (hr:Rall2 ρ) (al:Nat->Addr) (s:ByteArray) (w:World) (L:Laid (up1 al) w) (E:Errs al w) :
  Calls Tryz.prog 7 #[.string s] w (PcPost ρ al s.size s.data.toList w):=by
 have HE:Hid (Errs al w):=E
 have HP0:Hid (Pf w (w.alloc (.cells #[.int .i64 0,.int .i64 0] 30))):=⟨han w _,brf.alloc nlr _⟩
 have HL0:Hid (Laid (up1 al) (w.alloc (.cells #[.int .i64 0,.int .i64 0] 30))):=L.below E.size (brf.alloc nlr _)
 have HC0:Hid (Ce (up1 al) (w.alloc (.cells #[.int .i64 0,.int .i64 0] 30))):=E.ce.below (brf.alloc nlr _)
 clear L E
 go_enter Tryz.func7,Tryz.ntmps7
 go_wp2_with fail
 refine (compile_is hr (up1 al) s _ HL0.out HC0.out).mono ?_
 rintro e w1 ⟨hb1,⟨l,P,rfl,hp,hP⟩|⟨d,at_,k,rfl,hd,hk1,hk2,hbad⟩|⟨rfl,hno⟩⟩
 ·have HP1:Hid (Pf w w1):=HP0.out.keep hb1
  have HQ:Hid (Mip.Parsed s.data.toList l/\Prg ρ (w.heap.size+1) s.size l w1 P):=⟨hp,by simpa using hP⟩
  clear hb1 hp hP HL0 HP0 HC0
  go_wp2_with fail
  refine (fault_nil _).mono ?_
  rintro e w2 ⟨rfl,hb2⟩
  have HP2:Hid (Pf w w2):=HP1.out.keep hb2
  have HT2:Hid (Prg ρ (w.heap.size+1) s.size l w2 P):=HQ.out.2.below hb2
  obtain⟨q0,q1,z⟩:=HP2.out.cells
  clear HP1 hb2
  go_wp2
  refine bodyPost_ret (v:=.tuple #[.pointer (some ⟨P,0,none⟩),.agg #[.int .i64 0,.int .i64 0]]) (by simp[results,Tryz.results7,go_sem,HP2.out.r0,HP2.out.r1]) rfl ⟨HP2.out.set _ _,Or.inl ⟨l,P,rfl,HQ.out.1,w.heap.size+1,?_⟩⟩
  exact HT2.out.other ((fr_set w2 w.heap.size 0 _).trans (fr_set _ w.heap.size 1 _) (fun _ _ e=>e)) HP2.out.b0 (by omega)
 ·have HP1:Hid (Pf w w1):=HP0.out.keep hb1
  have HE1:Hid (Errs al w1):=HE.out.below HP1.out.bl
  have HD:Hid (w1.heap[d]?=some (.cells #[.int .i64 at_,errV (up1 al k)] 90 (0,0))):=hd
  have HK:Hid (∃c t,w1.heap[(up1 al k).block]?=some (.cells c t (0,0))):=errs_row HE1.out hk1 hk2
  have HN:Hid ((∀l,¬Mil.Parsed s.data.toList l)\/∃l k',Mip.Parsed s.data.toList l/\Bad s.size l k' at_/\lastOf al (up1 al k) 13=lastOf al (up1 al k') 13):=by
   rcases hbad with ⟨h,_⟩|⟨l,h1,h2⟩
   ·exact Or.inl h
   ·exact Or.inr ⟨l,k,h1,h2,rfl⟩
  clear hb1 hd hbad hk1 hk2 HL0 HP0 HC0
  go_wp2_with fail
  refine (fault_diag al d at_ (up1 al k) _ HE1.out HD.out HK.out).mono ?_
  rintro e w2 ⟨rfl,hb2⟩
  have HP2:Hid (Pf w w2):=HP1.out.keep hb2
  obtain⟨q0,q1,z⟩:=HP2.out.cells
  have HF:Hid (lastOf al (up1 al k) 13≠0):=by have:=last_pos al (up1 al k) 13;show _≠_;omega
  generalize lastOf al (up1 al k) 13=f at HF HN ⊢
  clear HP1 HD HK HE1 hb2
  go_wp2
  exact bodyPost_ret (v:=.tuple #[.pointer none,.agg #[.int .i64 f,.int .i64 at_]]) (by simp[results,Tryz.results7,go_sem,HP2.out.r0,HP2.out.r1]) rfl ⟨HP2.out.set _ _,Or.inr ⟨f,at_,HF.out,rfl,HN.out⟩⟩
 ·have HP1:Hid (Pf w w1):=HP0.out.keep hb1
  have HE1:Hid (Errs al w1):=HE.out.below HP1.out.bl
  have HK:Hid (∃c t,w1.heap[(up1 al 1).block]?=some (.cells c t (0,0))):=errs_row HE1.out (by decide) (by decide)
  have HN:Hid (∀l,¬Mil.Parsed s.data.toList l):=hno
  clear hb1 hno HL0 HP0 HC0
  go_wp2_with fail
  refine (fault_err al (up1 al 1) _ HE1.out HK.out).mono ?_
  rintro e w2 ⟨rfl,hb2⟩
  have HP2:Hid (Pf w w2):=HP1.out.keep hb2
  obtain⟨q0,q1,z⟩:=HP2.out.cells
  have HF:Hid (lastOf al (up1 al 1) 13≠0):=by have:=last_pos al (up1 al 1) 13;show _≠_;omega
  generalize lastOf al (up1 al 1) 13=f at HF ⊢
  clear HP1 HK HE1 hb2
  go_wp2
  exact bodyPost_ret (v:=.tuple #[.pointer none,.agg #[.int .i64 f,.int .i64 (-1)]]) (by simp[results,Tryz.results7,go_sem,HP2.out.r0,HP2.out.r1]) rfl ⟨HP2.out.set _ _,Or.inr ⟨f,-1,HF.out,rfl,Or.inl HN.out⟩⟩
theorem Tryz.sizeFlo (w:World):(Go.sizeOf 52).run Tryz.prog w=.ok 5 w:=by kernel_rfl
theorem Tryz.sizeTask (w:World):(Go.sizeOf 72).run Tryz.prog w=.ok 2 w:=by kernel_rfl
theorem flC_one (F:List Flo):∀u∈fls F,u.oneCell'=true:=fun u hu=>by
 obtain⟨f,_,h⟩:=List.mem_flatMap.1 hu
 simp[flC] at h
 rcases h with rfl|rfl|rfl|rfl|rfl <;> rfl
theorem fls_len (F:List Flo):(fls F).length=F.length*5:=by
 induction F with
 | nil=>rfl
 | cons f r ih=>
  unfold fls at ih ⊢
  rw[List.flatMap_cons,List.length_append,ih,List.length_cons]
  show 5+_=_
  omega
def FlPost (N:Nat) (l:List Mip.It) (w:World) (E:Ending) (w':World):Prop:=Below w.heap.size w w'/\∃v,E=.returned v/\w'.ownsRow w.heap.size 52 5 v (prd N l).length (fls (prd N l))
theorem flows_any {ρ:Mil.Bytes->Int->Int->Int} {B0 N:Nat} {l:List Mip.It} {w:World} {P:Nat} (h:Prg ρ B0 N l w P):Calls Tryz.prog 9 #[.pointer (some ⟨P,0,none⟩)] w (FlPost N l w):=by
 obtain⟨fv,tv,wv,U,B,B',h1,h2,h3,_⟩:=h.blk
 have c0:w.cell? ⟨P,0,none⟩=some fv:=(cor w P 0 _ _ _ h1).trans rfl
 have hl60:(prd N l).length<=60:=by rw[prd_len];exact h.len.1
 obtain⟨i0,hi0,jz0,jz1,jz2⟩:=info_parts Tryz.infoFlo
 rcases h2.2 with ⟨e,e'⟩|⟨g,cap,cur,e,_⟩
 ·subst e
  have HF:Hid (prd N l=[]):=List.length_eq_zero_iff.1 e'
  clear h1 h2 h3 h e' hl60
  go_enter Tryz.func9,Tryz.ntmps9
  go_wp2_with fail
  refine (Tryz.clone_flow_nil 0 0 w).mono ?_
  rintro E w2 ⟨rfl,rfl⟩
  go_wp2
  go_ret
  refine⟨Below.refl _ _,_,rfl,?_⟩
  rw[HF.out]
  exact World.ownsRow_nil _ _ _ _
 ·have h2':=h2
  rw[e] at h2' c0
  have HCL:=Tryz.clone_flow i0 _ 5 40 hi0 jz0 jz1 jz2 rfl (by decide) Tryz.sizeFlo g 0 (prd N l).length cap (fls (prd N l)) w (fls_len _) (by unfold maxLen;omega) (by omega) (fun j u hu=>by rw[Nat.zero_add];exact own_cell h2' hu) (flC_one _)
  clear h1 h2 h3 h h2'
  go_enter Tryz.func9,Tryz.ntmps9
  go_wp2_with fail
  refine HCL.mono ?_
  rintro E w2 ⟨v',rfl,hr,_,hb⟩
  obtain⟨o1,c1,hs⟩:=own_shape hr
  subst hs
  have HR:Hid (w2.ownsRow w.heap.size 52 5 (.slice o1 (prd N l).length c1) (prd N l).length (fls (prd N l))/\Below w.heap.size w w2):=⟨hr,hb⟩
  clear hr hb HCL
  go_wp2
  go_ret
  exact⟨HR.out.2,_,rfl,HR.out.1⟩
end
section
open Go.RowKit
abbrev i64s (xs:List Int):List Value:=xs.map (Value.int .i64)
abbrev Nl (w:World) (B:Nat) (v:Value) (xs:List Int):Prop:=w.ownsRow B 2 1 v xs.length (i64s xs)
theorem rowIs_heap {w:World} {b:Nat} {t:TypeId} {n:Nat} {f:Nat->Value} (h:w.rowIs b t n f):∃c,w.heap[b]?=some (.cells c t (0,0)):=by
 obtain⟨c,hb,_⟩:=h
 exact⟨c,hb⟩
theorem nl_cell {w:World} {B g n c:Nat} {xs:List Int} (h:Nl w B (.slice (some ⟨g,0,none⟩) n c) xs) {i:Nat} {x:Int} (hi:xs[i]?=some x):w.cell? ⟨g,i,none⟩=some (.int .i64 x):=by
 obtain⟨o,c',e⟩:=own_shape h
 injection e with e1 e2 e3
 subst e2
 exact own_cell h (by simp[i64s,hi])
end
section
open Go.RowKit
theorem makeFunc_run (fn:Fn) (first cap:Array Value) (w:World):(Instr.makeFunc fn first cap).run Tryz.prog w=.ok (.func fn first cap) w:=rfl
end
section
open Go.RowKit
theorem Tryz.infoI64:(Tryz.prog.info? 2).map (fun i=>(i.zero,i.size,i.bytes))=some (some (.int .i64 0),1,8):=by kernel_rfl
end
section
open Go.RowKit
section
variable {m:Mil.Bytes->Option Int} {ρ:Mil.Bytes->Int->Int->Int} {F:List Flo} {Q:List Nq} {r:Nat->Nat} {L:Nat->Option (List Int)} {S:Int->Int->Option Int} {wE:World} {wv:Value} {B0 mb lb u:Nat}
end
end
section
open Go.RowKit
def fitL (ty:Nat) (l:List Int):Bool:=ty != 1 || l.all (fun v=>v==0 || v==1)
def lay:List Flo->List (List Int)->Option (List (Option (List Int)))
 | [],[]=>some []
 | [],_::_=>none
 | f::r,ls=>if f.inp then (match ls with
   | []=>none
   | l::t=>if fitL f.ty l then (lay r t).map (some l::·) else none)
  else (lay r ls).map (none::·)
end
section
open Go.RowKit
structure Ins (w:World) (v:Value) (ls:List (List Int)) (us:List Value):Prop where
 row:∃B,w.ownsRow B 35 1 v ls.length us
 lst:∀(k:Nat) (l:List Int),ls[k]?=some l->∃u B,us[k]?=some u/\Nl w B u l
 len:ls.length<=1000/\∀l∈ls,l.length<=1000000
theorem Ins.below {w w':World} {v:Value} {ls:List (List Int)} {us:List Value} (h:Ins w v ls us) (k:Below w.heap.size w w'):Ins w' v ls us:=by
 obtain⟨B,hB⟩:=h.row
 refine⟨⟨B,own_kept hB (fun g hg=>k.block g (lt_of_heap (own_lt hB g hg).2.choose_spec))⟩,fun i l hl=>?_,h.len⟩
 obtain⟨u,B',h1,h2⟩:=h.lst i l hl
 exact⟨u,B',h1,own_kept h2 (fun g hg=>k.block g (lt_of_heap (own_lt h2 g hg).2.choose_spec))⟩
theorem flo_cell {w:World} {B g cap:Nat} {F:List Flo} (h:w.ownsRow B 52 5 (.slice (some ⟨g,0,none⟩) F.length cap) F.length (fls F)) {j:Nat} {f:Flo} (hf:F[j]?=some f) (i:Nat) (hi:i < 5) {u:Value} (hu:(flC f)[i]?=some u):w.cell? ⟨g,j*5+i,none⟩=some u:=
 own_cell h ((flat_at flC 5 (fun _=>rfl) F j i f hf hi).trans hu)
end
section
open Go.RowKit
theorem Tryz.infoSl:(Tryz.prog.info? 35).map (fun i=>(i.zero,i.size,i.bytes))=some (some (.slice none 0 0),1,24):=by kernel_rfl
end
section
open Go.RowKit
theorem find_up:∀{Q:List Nq},(Q.map Nq.flow).Pairwise (· < ·)->∀q∈Q,Q.find? (fun x=>x.flow==q.flow)=some q
 | [],_,q,hq=>by cases hq
 | x::r,h,q,hq=>by
  rw[List.map_cons,List.pairwise_cons] at h
  rcases List.mem_cons.1 hq with rfl|hq
  ·rw[List.find?_cons_of_pos (by simp)]
  ·have:=h.1 q.flow (List.mem_map.2 ⟨q,hq,rfl⟩)
   rw[List.find?_cons_of_neg (by simp;omega)]
   exact find_up h.2 q hq
theorem way_first {nd:Nat->List Nat} {a b:Nat} (h:Mip.Way nd a b):∃x,x∈nd a:=by
 induction h with
 | single hb=>exact⟨_,hb⟩
 | tail _ _ ih=>exact ih
theorem cd_ex {N:Nat} {l:List Mip.It} (hi:Items l) (h:okk N l 7) (hF:(dcl N l).2.F.length<=60) (hQ:(dcl N l).2.Q.length<=60):∃r,Cd (dcl N l).2.m (prd N l) (dcl N l).2.Q r:=by
 have hz:=rz_prd hi (okk_less h (by decide)) hQ
 have hpos:=prd_pos hi (okk_less h (by decide)) hQ
 have hper:=h.2.2.2.2.1 (by decide)
 have hcyc:=cyc_each (h.2.2.2.2.2.2 (by decide))
 have hlen:=prd_len (N:=N) l
 obtain⟨r,r1,r2⟩:=rank_ex (nd:=ndf (dcl N l).2.m (dcl N l).2.Q) (K:=(prd N l).length) (fun a b hb=>by
  unfold ndf at hb
  cases e:(dcl N l).2.Q.find? (fun q=>q.flow==a) with
  | none=>rw[e] at hb;simp at hb
  | some q=>
   rw[e] at hb
   exact nds_lt hz.fq.fit q.body (hz.un q (List.mem_of_find?_eq_some e)) b hb) (fun j hj=>by
  obtain⟨x,hx⟩:=way_first hj
  unfold ndf at hx
  cases e:(dcl N l).2.Q.find? (fun q=>q.flow==j) with
  | none=>rw[e] at hx;simp at hx
  | some q=>
   have e2:=List.find?_some e
   have e3:q.flow=j:=by simpa using e2
   subst e3
   exact hcyc q (List.mem_of_find?_eq_some e) hj)
 refine⟨r,⟨find_up hz.fq.up,fun q hq=>⟨(hz.fq.wf q hq).1,(hper q hq).1,hz.un q hq⟩,fun q hq=>(hper q hq).2,freeAt_each (h.2.2.2.1 (by decide)),fun j=>?_,fun x k hx=>?_,fun j=>by have:=r1 j;omega,fun q hq y hy=>r2 _ _ (by rw[ndf_of hz.fq.up hq];exact hy)⟩⟩
 ·unfold perAt
  cases e:(prd N l)[j]? with
  | none=>exact Nat.zero_le _
  | some f=>exact (hpos f (List.mem_of_getElem? e)).2
 ·obtain⟨i,rfl,hi⟩:=hz.fq.fit x k hx
  rw[Int.toNat_natCast,perAt_of (List.getElem?_eq_getElem hi)]
  have:=(hpos _ (List.getElem_mem hi)).1
  omega
def Lof (A:List (Option (List Int))) (j:Nat):Option (List Int):=(A[j]?).getD none
end
section
open Go.RowKit
def Mn (ρ:Mil.Bytes->Int->Int->Int) (N:Nat) (l:List Mip.It) (ls:List (List Int)) (j n:Nat) (o:Option Int):Prop:=
 (lay (prd N l) ls=none/\o=none)\/∃A r S,lay (prd N l) ls=some A/\Cd (dcl N l).2.m (prd N l) (dcl N l).2.Q r/\(∀j n,S j n=tv (dcl N l).2.m ρ (dcl N l).2.Q (Lof A) S j n)/\(∀k j n,mu (prd N l) r j n < k->S j n=va (dcl N l).2.m ρ (dcl N l).2.Q (Lof A) k j n)/\o=S (j:Nat) (n:Nat)
end
section
open Go.RowKit
structure Cp (ls:List (List Int)) (b i:Nat) (v:Value) (us:List Value) (w:World):Prop where
 row:w.ownsRow b 35 1 v i us
 lst:∀(k:Nat) (l:List Int),(ls.take i)[k]?=some l->∃u B,us[k]?=some u/\Nl w B u l
theorem Cp.below {ls:List (List Int)} {b i:Nat} {v:Value} {us:List Value} {w w':World} (h:Cp ls b i v us w) (k:Below w.heap.size w w'):Cp ls b i v us w':=by
 refine⟨own_kept h.row (fun g hg=>k.block g (lt_of_heap (own_lt h.row g hg).2.choose_spec)),fun i l hl=>?_⟩
 obtain⟨u,B',h1,h2⟩:=h.lst i l hl
 exact⟨u,B',h1,own_kept h2 (fun g hg=>k.block g (lt_of_heap (own_lt h2 g hg).2.choose_spec))⟩
theorem Cp.more {ls:List (List Int)} {b i:Nat} {v:Value} {us:List Value} {w w':World} (h:Cp ls b i v us w) (hg:w.grownBy w' v.ownBlock) {v' u:Value} (ho:w'.ownsRow b 35 1 v' (i+1) (us++[u])) {l:List Int} (hl:ls[i]?=some l) {B:Nat} (hu:Nl w B u l):Cp ls b (i+1) v' (us++[u]) w':=by
 have kp:∀{B:Nat} {x:Value} {xs:List Int},Nl w B x xs->Nl w' B x xs:=fun hx=>own_kept hx (fun g hgx=>hg.block g (lt_of_heap (own_lt hx g hgx).2.choose_spec) (fun e=>heap_nt (own_lt hx g hgx).2.choose_spec (own_lt h.row g e.symm).2.choose_spec (by decide) rfl))
 have hlen:us.length=i:=by
  have:=h.row.1
  omega
 have hi:i < ls.length:=(lgs hl).1
 refine⟨ho,fun k l' hk=>?_⟩
 rw[List.take_add_one,hl] at hk
 by_cases hki:k < i
 ·rw[List.getElem?_append_left (by simp;omega)] at hk
  obtain⟨u',B',h1,h2⟩:=h.lst k l' hk
  exact⟨u',B',by rw[List.getElem?_append_left (by omega)];exact h1,kp h2⟩
 ·rw[List.getElem?_append_right (by simp;omega)] at hk
  have hke:k=i:=by
   have:=(lgs hk).1
   simp at this
   omega
  subst hke
  have e:l'=l:=by
   have:min k ls.length=k:=by omega
   simp[this] at hk
   exact hk.symm
  subst e
  exact⟨u,B,by rw[List.getElem?_append_right (by omega)];simp[hlen],kp hu⟩
end
section
open Go.RowKit
end
section
open Go.RowKit
def Scr (w:World) (b off n:Nat):Prop:=∀j,j < n->∃(k x y z:Int) (s:ByteArray) (o1:Option Addr) (n1 c1:Nat) (o2:Option Addr) (n2 c2:Nat),w.cell? ⟨b,off+j*7,none⟩=some (.int .i64 k)/\w.cell? ⟨b,off+j*7+1,none⟩=some (.int .i64 x)/\w.cell? ⟨b,off+j*7+2,none⟩=some (.int .i64 y)/\w.cell? ⟨b,off+j*7+3,none⟩=some (.int .i64 z)/\w.cell? ⟨b,off+j*7+4,none⟩=some (.string s)/\w.cell? ⟨b,off+j*7+5,none⟩=some (.slice o1 n1 c1)/\w.cell? ⟨b,off+j*7+6,none⟩=some (.slice o2 n2 c2)
theorem Scr.below {w w':World} {b off n:Nat} (h:Scr w b off n) (k:Below w.heap.size w w'):Scr w' b off n:=fun j hj=>by
  obtain⟨q,x,y,z,s,o1,n1,c1,o2,n2,c2,h0,h1,h2,h3,h4,h5,h6⟩:=h j hj
  have kp:∀{p:Addr} {v:Value},w.cell? p=some v->w'.cell? p=some v:=fun hp=>(k.cell (lt_of_cell hp)).trans hp
  exact⟨q,x,y,z,s,o1,n1,c1,o2,n2,c2,kp h0,kp h1,kp h2,kp h3,kp h4,kp h5,kp h6⟩
theorem Cp.app {ls:List (List Int)} {b:Nat} {v:Value} {us:List Value} {w w':World} (h:Cp ls b ls.length v us w) (hg:w.grownBy w' v.ownBlock) {v' u:Value} (ho:w'.ownsRow b 35 1 v' (ls.length+1) (us++[u])) {l:List Int} {B:Nat} (hu:Nl w B u l):Cp (ls++[l]) b (ls++[l]).length v' (us++[u]) w':=by
  have h':Cp (ls++[l]) b ls.length v us w:=⟨h.row,fun k l' hk=>h.lst k l' (by
    rw[List.take_append_of_le_length nlr] at hk
    exact hk)⟩
  have:=h'.more hg ho (l:=l) (by simp) hu
  simpa using this
end
section
open Go.ChangeShapes Go.WideShapes Go.ChangeAt Go.RowKit Go.Deep
theorem cellsOp:Tryz.prog.cellsOf 27=7:=by kernel_rfl
theorem bytesOp:33<=Tryz.prog.bytesOf 27:=by
 have h:decide (33<=Tryz.prog.bytesOf 27)=true:=by kernel_rfl
 exact of_decide_eq_true h
theorem cellsI:Tryz.prog.cellsOf 3=1:=by kernel_rfl
theorem cellsS:Tryz.prog.cellsOf 9=1:=by kernel_rfl
theorem cellsL:Tryz.prog.cellsOf 24=1:=by kernel_rfl
theorem cellsU:Tryz.prog.cellsOf 25=1:=by kernel_rfl
theorem open_script {H:Type} {enc:TypeId×Value->H} {W:World} {fuel:Nat} {cs:List Value} {x:DataW H×List MemPlace} (h:DataW.trod enc Tryz.prog W 0 (fun _=>true) true fuel 22 cs=some x) (hw:∀elems spare,x.1=.slice elems spare->(elems.length+spare.length)*Tryz.prog.bytesOf 27<=reachBytes) :
  (∃o c,cs=[.slice o 0 c])\/∃b off n c,cs=[.slice (some ⟨b,off,none⟩) n c]/\0 < n/\n < 2 ^ 60/\Scr W b off n:=by
 rcases open_slice Tryz.underlying22 h with ⟨rfl,_⟩|⟨a,len,cap,m,n,D,P,rfl,_,hl,_,hm,hx1,hx⟩
 ·exact Or.inl ⟨none,0,rfl⟩
 ·have hm':m=cap:=by simpa using hm
  have hlen:len<=4398046511103:=by
   have h1:=hw _ _ (congrArg Prod.fst hx1)
   simp only[List.length_map,List.length_range] at h1
   have h2:reachBytes=140737488351232:=by decide
   rw[h2] at h1
   have h3:=Nat.mul_le_mul_left (len+(m - len)) bytesOp
   omega
  by_cases hz0:len=0
  ·subst hz0
   exact Or.inl ⟨_,_,rfl⟩
  obtain⟨b,off,spot⟩:=a
  have hspot:spot=none:=by
   obtain⟨z,hz⟩:∃z:Nat,z=0:=⟨0,rfl⟩
   obtain⟨cs',h1,_⟩:=hx z (by omega)
   rw[cellsOp] at h1
   subst hz
   obtain⟨_,hlen,hcell⟩:=World.cells?_some h1
   have g0:=hcell 0 (by decide)
   obtain⟨c0,hc0⟩:∃c0,cs'[0]?=some c0:=⟨_,List.getElem?_eq_getElem (by omega)⟩
   rw[hc0] at g0
   simpa [Addr.add] using World.cell?_spot g0
  subst hspot
  refine Or.inr ⟨b,off,len,cap,rfl,by omega,by omega,fun j hj=>?_⟩
  obtain⟨cs',h1,h2⟩:=hx j (by omega)
  rw[cellsOp] at h1
  clear hx hw hx1
  obtain⟨_,hlen,hcell⟩:=World.cells?_some h1
  obtain⟨xs,k,_,_,_,hxl,hf⟩:=DataW.trod_struct Tryz.underlying27 h2
  have hxl':xs.length=7:=hxl
  have ad:∀i,((⟨b,off,none⟩:Addr).add (j*7)).add i=⟨b,off+j*7+i,none⟩:=fun i=>by rw[Addr.add_lit,Addr.add_lit]
  obtain⟨y0,hy0⟩:∃y,xs[0]?=some y:=⟨_,List.getElem?_eq_getElem (by omega)⟩
  have g0:=hf 0 _ rfl
  rw[hy0] at g0
  obtain⟨z0,e0,_,wf0⟩:=DataW.trod_int Tryz.underlying3 g0
  have q0:W.cell? ⟨b,off+j*7,none⟩=some (.int .i64 z0):=by
   have h:=hcell 0 (by decide)
   rw[ad] at h
   refine h.trans ?_
   have:=congrArg (·[0]?) e0
   simpa [List.getElem?_take,List.getElem?_drop,cellsI] using this
  obtain⟨y1,hy1⟩:∃y,xs[1]?=some y:=⟨_,List.getElem?_eq_getElem (by omega)⟩
  have g1:=hf 1 _ rfl
  rw[hy1] at g1
  obtain⟨z1,e1,_,wf1⟩:=DataW.trod_int Tryz.underlying3 g1
  have q1:W.cell? ⟨b,off+j*7+1,none⟩=some (.int .i64 z1):=by
   have h:=hcell 1 (by decide)
   rw[ad] at h
   refine h.trans ?_
   have:=congrArg (·[0]?) e1
   simpa [List.getElem?_take,List.getElem?_drop,cellsI] using this
  obtain⟨y2,hy2⟩:∃y,xs[2]?=some y:=⟨_,List.getElem?_eq_getElem (by omega)⟩
  have g2:=hf 2 _ rfl
  rw[hy2] at g2
  obtain⟨z2,e2,_,wf2⟩:=DataW.trod_int Tryz.underlying3 g2
  have q2:W.cell? ⟨b,off+j*7+2,none⟩=some (.int .i64 z2):=by
   have h:=hcell 2 (by decide)
   rw[ad] at h
   refine h.trans ?_
   have:=congrArg (·[0]?) e2
   simpa [List.getElem?_take,List.getElem?_drop,cellsI] using this
  obtain⟨y3,hy3⟩:∃y,xs[3]?=some y:=⟨_,List.getElem?_eq_getElem (by omega)⟩
  have g3:=hf 3 _ rfl
  rw[hy3] at g3
  obtain⟨z3,e3,_,wf3⟩:=DataW.trod_int Tryz.underlying3 g3
  have q3:W.cell? ⟨b,off+j*7+3,none⟩=some (.int .i64 z3):=by
   have h:=hcell 3 (by decide)
   rw[ad] at h
   refine h.trans ?_
   have:=congrArg (·[0]?) e3
   simpa [List.getElem?_take,List.getElem?_drop,cellsI] using this
  obtain⟨y4,hy4⟩:∃y,xs[4]?=some y:=⟨_,List.getElem?_eq_getElem (by omega)⟩
  have g4:=hf 4 _ rfl
  rw[hy4] at g4
  obtain⟨z4,e4,_,_⟩:=DataW.trod_string Tryz.underlying9 g4
  have q4:W.cell? ⟨b,off+j*7+4,none⟩=some (.string z4):=by
   have h:=hcell 4 (by decide)
   rw[ad] at h
   refine h.trans ?_
   have:=congrArg (·[0]?) e4
   simpa [List.getElem?_take,List.getElem?_drop,cellsS] using this
  obtain⟨y5,hy5⟩:∃y,xs[5]?=some y:=⟨_,List.getElem?_eq_getElem (by omega)⟩
  have g5:=hf 5 _ rfl
  rw[hy5] at g5
  have g5':∃(o:Option Addr) (l c:Nat),(cs'.drop 5).take 1=[.slice o l c]:=by
   rcases DataW.trod_slice Tryz.underlying24 g5 with ⟨e,_⟩|⟨a,len,cap,_,_,_,_,e,_,_,hl,hm,_⟩
   ·exact⟨none,0,0,by simpa [cellsL] using e⟩
   ·exact⟨some a,len,cap,by simpa [cellsL] using e⟩
  obtain⟨o5,l5,c5,e5⟩:=g5'
  have q5:W.cell? ⟨b,off+j*7+5,none⟩=some (.slice o5 l5 c5):=by
   have h:=hcell 5 (by decide)
   rw[ad] at h
   refine h.trans ?_
   have:=congrArg (·[0]?) e5
   simpa [List.getElem?_take,List.getElem?_drop,cellsL] using this
  obtain⟨y6,hy6⟩:∃y,xs[6]?=some y:=⟨_,List.getElem?_eq_getElem (by omega)⟩
  have g6:=hf 6 _ rfl
  rw[hy6] at g6
  have g6':∃(o:Option Addr) (l c:Nat),(cs'.drop 6).take 1=[.slice o l c]:=by
   rcases DataW.trod_slice Tryz.underlying25 g6 with ⟨e,_⟩|⟨a,len,cap,_,_,_,_,e,_,_,hl,hm,_⟩
   ·exact⟨none,0,0,by simpa [cellsU] using e⟩
   ·exact⟨some a,len,cap,by simpa [cellsU] using e⟩
  obtain⟨o6,l6,c6,e6⟩:=g6'
  have q6:W.cell? ⟨b,off+j*7+6,none⟩=some (.slice o6 l6 c6):=by
   have h:=hcell 6 (by decide)
   rw[ad] at h
   refine h.trans ?_
   have:=congrArg (·[0]?) e6
   simpa [List.getElem?_take,List.getElem?_drop,cellsU] using this
  exact⟨z0,z1,z2,z3,z4,o5,l5,c5,o6,l6,c6,q0,q1,q2,q3,q4,q5,q6⟩
end
section
open Go
def FitErrs (P:Program) (ti:TypeId) (nm:String):List (String×DataW Unit)->List Nat->Prop
 | [],[]=>True
 | (n,d)::r,g::gs=>(∃text,d=.iface nm (.ptr (.agg [.lit (.string text)])))/\P.globalNamed n=some g/\(P.globals[g]?).map (·.type)=some ti/\FitErrs P ti nm r gs
 | _,_=>False
def HoldErrs (W:World) (tp:TypeId):List Addr->List Nat->Prop
 | [],[]=>True
 | a::az,g::gs=>W.cell? ⟨g,0,none⟩=some (.iface tp (.pointer (some a)))/\(∃c t,W.heap[a.block]?=some (.cells c t (0,0)))/\a ∉ az/\HoldErrs W tp az gs
 | _,_=>False
theorem errs_of_laid {P:Program} {nm:String} {W:World} {ti tp te ts:TypeId} {ms:Array (String×TypeId)} {f:Field}
  (hi:P.underlying ti=some (.interface ms)) (hrow:∀u,P.typeName? 3 u=some nm->u=tp)
  (hp:P.underlying tp=some (.pointer te)) (he:P.underlying te=some (.struct #[f])) (hft:f.type=ts) (hfo:f.offset=0) (hs:P.underlying ts=some .string) (hc:P.cellsOf te=1) (hcs:P.cellsOf ts=1) :
  ∀(laid:List (String×DataW Unit)) (gs:List Nat) (ps:List MemPlace),FitErrs P ti nm laid gs->DataW.LaidVars P W laid ps->ps.Nodup ->
   (∀b off,MemPlace.cell b off∈ps->(∃c t,W.heap[b]?=some (.cells c t (0,0)))/\∀u v,W.cell? ⟨b,off,none⟩=some (.iface u v)->Value.okWide P W .any 0 u v) ->
   ∃az:List Addr,HoldErrs W tp az gs/\∀a,a∈az->MemPlace.cell a.block a.off∈ps:=by
 intro laid
 induction laid with
 | nil=>
  intro gs ps hfit _ _ _
  cases gs with
  | nil=>exact⟨[],trivial,fun a h=>by cases h⟩
  | cons g r=>exact hfit.elim
 | cons x r ih=>
  intro gs ps hfit hv hnd hrows
  obtain⟨n,d⟩:=x
  cases gs with
  | nil=>exact hfit.elim
  | cons g gs=>
   obtain⟨⟨text,rfl⟩,hg,ht,hfit'⟩:=hfit
   obtain⟨g0,t0,cs0,f0,p0,q0,hg0,ht0,hv0,hd0,hq0,e0⟩:=hv
   obtain rfl:=Option.some.inj (hg.symm.trans hg0)
   obtain rfl:=Option.some.inj (ht.symm.trans ht0)
   subst e0
   have hq:q0.Nodup:=List.Nodup.sublist (List.sublist_append_right _ _) hnd
   obtain⟨az,hold,hmem⟩:=ih gs q0 hfit' hq0 hq (fun b off hm=>hrows b off (List.mem_append_right _ hm))
   obtain⟨l0⟩:=cs0
   have ok0:∀u v,l0=[.iface u v]->Value.okWide P W .any 0 u v:=fun u v e=>by
    subst e
    exact (hrows g 0 (by simp[MemPlace.row])).2 u v (by simpa using World.var?_cell hg0 hv0 0)
   obtain⟨a,s,rfl,hca,_,_,rfl⟩:=errorString_of_trod hi hrow hp he hft hfo hs hc hcs hd0 ok0
   have hin:MemPlace.cell a.block a.off∈MemPlace.row a 1:=by simp[MemPlace.row]
   refine⟨a::az,⟨by simpa using World.var?_cell hg0 hv0 0,(hrows a.block a.off ?_).1,?_,hold⟩,?_⟩
   ·exact List.mem_append_left _ (List.mem_append_right _ hin)
   ·intro h
    have h2:=hmem a h
    have h3:=(List.nodup_append.1 hnd).2.2 _ (List.mem_append_right _ hin) _ h2
    exact h3 rfl
   ·intro b hb
    rcases List.mem_cons.1 hb with rfl|hb
    ·exact List.mem_append_left _ (List.mem_append_right _ hin)
    ·exact List.mem_append_right _ (hmem b hb)
theorem hold_len {W:World} {tp:TypeId}:∀(az:List Addr) (gs:List Nat),HoldErrs W tp az gs->az.length=gs.length
 | [],[],_=>rfl
 | _::az,_::gs,h=>by simp[hold_len az gs h.2.2.2]
 | [],_::_,h=>h.elim
 | _::_,[],h=>h.elim
theorem hold_at {W:World} {tp:TypeId} (z:Addr):∀(xs:List Addr) (gs:List Nat),HoldErrs W tp xs gs->∀i,i < xs.length ->
  W.cell? ⟨gs.getD i 0,0,none⟩=some (.iface tp (.pointer (some (xs.getD i z))))/\∃c t,W.heap[(xs.getD i z).block]?=some (.cells c t (0,0))
 | [],[],_,i,hi=>by simp at hi
 | [],_::_,h,_,_=>h.elim
 | _::_,[],h,_,_=>h.elim
 | a::xs,g::gs,h,0,_=>⟨h.1,h.2.1⟩
 | a::xs,g::gs,h,i+1,hi=>hold_at z xs gs h.2.2.2 i (by simpa using hi)
theorem hold_ne {W:World} {tp:TypeId} (z:Addr):∀(xs:List Addr) (gs:List Nat),HoldErrs W tp xs gs->∀i k,k < i->i < xs.length->xs.getD k z≠xs.getD i z
 | [],[],_,i,_,_,hi=>by simp at hi
 | [],_::_,h,_,_,_,_=>h.elim
 | _::_,[],h,_,_,_,_=>h.elim
 | _::_,_::_,_,0,_,hk,_=>by omega
 | a::xs,g::gs,h,i+1,0,_,hi=>by
  have hi':i < xs.length:=by simpa using hi
  intro e
  apply h.2.2.1
  have e':a=xs.getD i z:=by simpa using e
  rw[e']
  simp[hi']
 | a::xs,g::gs,h,i+1,k+1,hk,hi=>by
  have:=hold_ne z xs gs h.2.2.2 i k (by omega) (by simpa using hi)
  simpa using this
theorem chunks {c:Nat}:∀(ys:List (List Value)) (cs:List Value),cs.length=ys.length*c->(∀(i:Nat) (y:List Value),ys[i]?=some y->(cs.drop (i*c)).take c=y)->cs=ys.flatten
 | [],cs,hl,_=>by
  have:cs.length=0:=by simpa using hl
  simp[List.length_eq_zero_iff.1 this]
 | y::ys,cs,hl,h=>by
  have h0:=h 0 y rfl
  rw[Nat.zero_mul,List.drop_zero] at h0
  have hd:=chunks (c:=c) ys (cs.drop c) (by rw[List.length_drop,hl,List.length_cons,Nat.succ_mul];omega) (fun i z hz=>by
   have:=h (i+1) z hz
   rw[List.drop_drop,show c+i*c=(i+1)*c by rw[Nat.succ_mul];omega]
   exact this)
  rw[List.flatten_cons,<-h0,<-hd,List.take_append_drop]
section
variable {H:Type} {enc:TypeId×Value->H} {P:Program} {w:World} {base:Nat} {sp:Nat->Bool} {held:Bool}
theorem cells_of_array {fuel:Nat} {t e:TypeId} {n c:Nat} {cs:List Value} {ds:List (DataW H)} {p:List MemPlace} (ht:P.underlying t=some (.array n e)) (hce:P.cellsOf e=c) (hct:P.cellsOf t=n*c)
  (ys:List (List Value)) (hn:ys.length=n) (hel:∀(i:Nat) (d:DataW H) (y:List Value) (m:Nat) (x:List Value) (q:List MemPlace),ds[i]?=some d->ys[i]?=some y->DataW.trod enc P w base sp held m e x=some (d,q)->x=y)
  (h:DataW.trod enc P w base sp held fuel t cs=some (.agg ds,p)):cs=ys.flatten:=by
 obtain⟨xs,m,rfl,hx,hl,hxl,hi⟩:=DataW.trod_array ht h
 rw[hct] at hl
 rw[hce] at hi
 refine chunks (c:=c) ys cs (by rw[hl,hn]) fun i y hy=>?_
 have hin:i < n:=by rw[<-hn];exact (List.getElem?_eq_some_iff.1 hy).1
 have hds:ds=xs.map (·.1):=by
  have:=congrArg Prod.fst hx
  simpa using this
 obtain⟨x,hxi⟩:∃x,xs[i]?=some x:=⟨xs[i]'(by omega),List.getElem?_eq_getElem _⟩
 have h1:=hi i hin
 rw[hxi] at h1
 exact hel i x.1 y m _ x.2 (by rw[hds,List.getElem?_map,hxi];rfl) hy h1
end
theorem block_of_var {P:Program} {W:World} {n:String} {g:Nat} {cs:Array Value} (hg:P.globalNamed n=some g) (hv:W.var? P n=some cs) (hr:∃c t,W.heap[g]?=some (.cells c t (0,0))):∃t,W.heap[g]?=some (.cells cs t (0,0)):=by
 obtain⟨c,t,h⟩:=hr
 unfold World.var? at hv
 rw[hg,Option.bind_some,h] at hv
 obtain rfl:=Option.some.inj hv
 exact⟨t,h⟩
theorem ones:∀l:List (List UInt8),(l.map fun x=>[Value.string ⟨x.toArray⟩]).flatten=l.map fun x=>Value.string ⟨x.toArray⟩
 | []=>rfl
 | x::r=>by rw[List.map_cons,List.flatten_cons,List.map_cons,ones r];rfl
theorem strs_of_laid {P:Program} {W:World} {name:String} {g:Nat} {t e:TypeId} {n:Nat} (l:List (List UInt8))
  (hg:P.globalNamed name=some g) (hty:(P.globals[g]?).map (·.type)=some t) (ht:P.underlying t=some (.array n e)) (he:P.underlying e=some .string) (hce:P.cellsOf e=1) (hct:P.cellsOf t=n) (hn:l.length=n) (h0:0 < n)
  (h:laidMet P [(name,.agg (l.map fun x=>.lit (.string x)))] W):∃t,W.heap[g]?=some (.cells (l.map fun x=>Value.string ⟨x.toArray⟩).toArray t (0,0)):=by
 obtain⟨ps,⟨g',t',cs,fuel,p,q,hg',ht',hvar,hd,_,hps⟩,_,hrows⟩:=h
 obtain rfl:=Option.some.inj (hg.symm.trans hg')
 obtain rfl:=Option.some.inj (hty.symm.trans ht')
 have hc:=cells_of_array (c:=1) ht hce (by rw[hct,Nat.mul_one]) (l.map fun x=>[Value.string ⟨x.toArray⟩]) (by rw[List.length_map,hn]) (by
  intro i d y m x q hd hy hx
  rw[List.getElem?_map] at hd hy
  obtain⟨z,hz,rfl⟩:=Option.map_eq_some_iff.1 hd
  rw[hz] at hy
  obtain rfl:=Option.some.inj hy
  obtain⟨s,rfl,e1,_⟩:=DataW.trod_string he hx
  have e2:z=s.data.toList:=by
   have:=congrArg Prod.fst e1
   simpa using this
  subst e2
  rfl) hd
 have hc':cs=(l.map fun x=>Value.string ⟨x.toArray⟩).toArray:=by
  rw[<-Array.toList_inj,hc]
  show (l.map fun x=>[Value.string ⟨x.toArray⟩]).flatten=l.map fun x=>Value.string ⟨x.toArray⟩
  exact ones l
 subst hc'
 refine block_of_var hg hvar (hrows g 0 ?_).1
 rw[hps]
 simp[MemPlace.row]
 omega
theorem quads_of_laid {P:Program} {W:World} {name:String} {g:Nat} {t e:TypeId} {n:Nat} {f0 f1 f2 f3:Field} {k:IntKind} (l:List (List UInt8×Int×Int×Int))
  (hg:P.globalNamed name=some g) (hty:(P.globals[g]?).map (·.type)=some t) (ht:P.underlying t=some (.array n e)) (he:P.underlying e=some (.struct #[f0,f1,f2,f3])) (o0:f0.offset=0) (o1:f1.offset=1) (o2:f2.offset=2) (o3:f3.offset=3) (h0s:P.underlying f0.type=some .string) (h1s:P.underlying f1.type=some (.int k)) (h2s:P.underlying f2.type=some (.int k)) (h3s:P.underlying f3.type=some (.int k)) (c0:P.cellsOf f0.type=1) (c1:P.cellsOf f1.type=1) (c2:P.cellsOf f2.type=1) (c3:P.cellsOf f3.type=1)
  (hce:P.cellsOf e=4) (hct:P.cellsOf t=n*4) (hn:l.length=n) (h0:0 < n)
  (h:laidMet P [(name,.agg (l.map fun x=>.agg [.lit (.string x.1),.lit (.int k x.2.1),.lit (.int k x.2.2.1),.lit (.int k x.2.2.2)]))] W):∃t,W.heap[g]?=some (.cells (l.flatMap fun x=>[Value.string ⟨x.1.toArray⟩,.int k x.2.1,.int k x.2.2.1,.int k x.2.2.2]).toArray t (0,0)):=by
 obtain⟨ps,⟨g',t',cs,fuel,p,q,hg',ht',hvar,hd,_,hps⟩,_,hrows⟩:=h
 obtain rfl:=Option.some.inj (hg.symm.trans hg')
 obtain rfl:=Option.some.inj (hty.symm.trans ht')
 have hc:=cells_of_array (c:=4) ht hce hct (l.map fun x=>[Value.string ⟨x.1.toArray⟩,.int k x.2.1,.int k x.2.2.1,.int k x.2.2.2]) (by rw[List.length_map,hn]) (by
  intro i d y m x q hd hy hx
  rw[List.getElem?_map] at hd hy
  obtain⟨z,hz,rfl⟩:=Option.map_eq_some_iff.1 hd
  rw[hz] at hy
  obtain rfl:=Option.some.inj hy
  obtain⟨xs,m',rfl,e0,hl,hxl,hf⟩:=DataW.trod_struct he hx
  have g0:=hf 0 f0 rfl
  have g1:=hf 1 f1 rfl
  have g2:=hf 2 f2 rfl
  have g3:=hf 3 f3 rfl
  rw[hce] at hl
  rw[o0,c0] at g0
  rw[o1,c1] at g1
  rw[o2,c2] at g2
  rw[o3,c3] at g3
  match xs,hxl with
  | [a,b,c,d],_=>
   obtain⟨s,q0,e1,_⟩:=DataW.trod_string h0s g0
   obtain⟨j1,q1,e2,_⟩:=DataW.trod_int h1s g1
   obtain⟨j2,q2,e3,_⟩:=DataW.trod_int h2s g2
   obtain⟨j3,q3,e4,_⟩:=DataW.trod_int h3s g3
   subst e1 e2 e3 e4
   have e5:z.1=s.data.toList/\z.2.1=j1/\z.2.2.1=j2/\z.2.2.2=j3:=by
    have:=congrArg Prod.fst e0
    simpa using this
   match x,hl with
   | [u0,u1,u2,u3],_=>
    simp at q0 q1 q2 q3
    show [u0,u1,u2,u3]=[Value.string ⟨z.1.toArray⟩,.int k z.2.1,.int k z.2.2.1,.int k z.2.2.2]
    rw[q0,q1,q2,q3,e5.1,e5.2.1,e5.2.2.1,e5.2.2.2]) hd
 have hc':cs=(l.flatMap fun x=>[Value.string ⟨x.1.toArray⟩,.int k x.2.1,.int k x.2.2.1,.int k x.2.2.2]).toArray:=by
  rw[<-Array.toList_inj,hc]
  simp[List.flatMap]
 subst hc'
 refine block_of_var hg hvar (hrows g 0 ?_).1
 rw[hps]
 cases l with
 | nil=>simp at hn;omega
 | cons x r=>simp[MemPlace.row]
end
end Go.Proofs.YtjehljjlcifndaaGreatDoor
