import Derived.Test.YtjehljjlcifndaaGreatDoorV15
import Derived.Test.YtjehljjlcifndaaGreatDoorV11
import Derived.Test.YtjehljjlcifndaaGreatDoorV06
import Derived.Deep.AppendLies
import Derived.Deep.RegionHeld3
namespace Go.Proofs.YtjehljjlcifndaaGreatDoor
set_option maxHeartbeats 32000000
set_option maxRecDepth 100000
section
open Go.RowKit
variable {R:Ending->World->Prop} {p:Int} {l:List Mip.It} {i:Mip.It} {B N b k:Nat} {v v0 v1:Value} {w w' w6 w7:World}
namespace Mil
theorem names_mu:∀(n:Nat) (acc:List Bytes) (s:St) (x:List Bytes×St),pnames n acc s=some x->mu x.2<=mu s
 | 0,_,_,_,h=>by cases h
 | n+1,acc,s,x,h=>by
  rw[pnames] at h
  split at h
  ·obtain⟨s1,h1,h⟩:=obs h
   obtain⟨y,h2,h⟩:=obs h
   have:=names_mu n _ _ _ h
   have:=adv_le h1
   have:=name_mu h2
   omega
  ·obtain rfl:=osi h
   exact Nat.le_refl _
theorem rit_mu {s:St} {i:It} {t:St} (h:Rit s i t):mu t < mu s:=by
 by_cases n0:sees s wInput=true
 ·obtain⟨s1,h1,x,s3,y,s5,k,h2,h3,h4,h5,h6,h7,_⟩:=(it_in n0 i t).1 h
  have a1:=adv_mu h1 (by rw[(sees_kind3 n0).1];decide)
  have a2:=name_mu h2
  have a3:=want_mu h3
  have a5:=want_mu h5
  have a6:=number_mu h6
  have a7:=want_mu h7
  have a4:mu y.2<=mu s3:=by
   unfold ftype at h4
   split at h4
   ·obtain⟨q,hq,rfl⟩:=oms h4;exact adv_le hq
   ·split at h4
    ·obtain⟨q,hq,rfl⟩:=oms h4;exact adv_le hq
    ·cases h4
  omega
 ·by_cases n1:sees s wOutput=true
  ·obtain⟨s1,h1,x,l,h2,h3,h7,_⟩:=(it_out n1 i t).1 h
   have a1:=adv_mu h1 (by rw[(sees_kind3 n1).1];decide)
   have a2:=name_mu h2
   have a7:=want_mu h7
   have a3:mu l.2<=mu x.2:=by
    obtain⟨n,hn⟩:=h3
    exact names_mu n _ _ _ hn
   omega
  ·obtain⟨x,s3,y,s5,k,h2,h3,h4,h5,h6,h7,_⟩:=(it_eq (Bool.eq_false_iff.2 n0) (Bool.eq_false_iff.2 n1) i t).1 h
   have a2:=name_mu h2
   have a3:=want_mu h3
   have a5:=want_mu h5
   have a6:=ok_mu h6
   have a7:=want_mu h7
   have a4:mu y.2<=mu s3:=by
    unfold ftype at h4
    split at h4
    ·obtain⟨q,hq,rfl⟩:=oms h4;exact adv_le hq
    ·split at h4
     ·obtain⟨q,hq,rfl⟩:=oms h4;exact adv_le hq
     ·cases h4
   omega
def Rprog' (b:Bytes) (l:List It):Prop:=∃s,adv' b 0=some s/\∃n,pprog n [] s=some l
def Rprog (acc:List It) (s:St) (l:List It):Prop:=∃n,pprog n acc s=some l
theorem Rprog.unique {acc:List It} {s:St} {x y:List It} (h:Rprog acc s x) (k:Rprog acc s y):x=y:=by
 obtain⟨n,hn⟩:=h
 obtain⟨m,hm⟩:=k
 have h1:=pprog_le n (n+m) acc s x (by omega) hn
 have h2:=pprog_le m (n+m) acc s y (by omega) hm
 exact osi (h1.symm.trans h2)
theorem fault_size {s:ByteArray} (h:advZ' s.size s.data.toList 0=.bad k p\/∃st,adv' s.data.toList 0=some st/\BadP s.size [] st k p):Fault s.data.toList k p:=by
 unfold Fault
 rw[show s.data.toList.length=s.size from by simp]
 exact h
theorem fault_no {b:Bytes} (h:Fault b k p) (l:List It):¬Rprog' b l:=by
 rintro ⟨s,h1,n,h2⟩
 rcases h with h|⟨s',h3,m,h4⟩
 ·have:=imz_adv' b.length _ _ _ h1
  rw[this] at h;cases h
 ·obtain rfl:=osi (h1.symm.trans h3)
  have h5:=imz_pprog b.length (n+m) [] s l (pprog_le n (n+m) _ _ _ (by omega) h2)
  have h6:=h4 (n+m) (by omega)
  have h7:pprogZ b.length (n+m) [] s=.bad k p:=h6
  rw[h5] at h7;cases h7
end Mil
namespace Mip
open Mil
def Rprog' (b:Bytes) (l:List It):Prop:=∃s,adv' b 0=some s/\∃n,pprog n [] s=some l
def Rprog (acc:List It) (s:St) (l:List It):Prop:=∃n,pprog n acc s=some l
theorem prog_stop {acc:List It} {s:St} (h:s.tok.kind=0):Rprog acc s acc:=⟨1,by rw[pprog,if_pos h]⟩
theorem prog_go {acc:List It} {s t:St} {i:It} (h:s.tok.kind≠0) (h6:acc.length≠60) (hi:Rit s i t) (l:List It):Rprog acc s l↔Rprog (acc++[i]) t l:=by
 constructor
 ·rintro ⟨n,hn⟩
  cases n with
  | zero=>cases hn
  | succ n=>
   rw[pprog,if_neg h,if_neg h6] at hn
   obtain⟨x,h1,h2⟩:=obs hn
   have:=Rit.unique ⟨n,h1⟩ hi
   obtain⟨e1,e2⟩:=Prod.mk.inj this
   subst e1 e2
   exact⟨n,h2⟩
 ·rintro ⟨n,hn⟩
  obtain⟨m,hm⟩:=hi
  refine⟨n+m+1,?_⟩
  rw[pprog,if_neg h,if_neg h6,pitem_le (show m<=n+m by omega) hm,Option.bind_some]
  exact pprog_le n (n+m) _ _ _ (by omega) hn
end Mip
theorem Tryz.infoItemM:(Tryz.prog.info? 159).map (fun i=>(i.zero,i.size,i.bytes))=some (some .nilIface,1,16):=by kernel_rfl
def Ivs (N:Nat) (w:World) (b:Nat) (l:List Mip.It) (vs:List Value):Prop:=l.length=vs.length/\∀(k:Nat) (i:Mip.It) (v:Value),l[k]?=some i->vs[k]?=some v->Iv N w b i v
def Row (N:Nat) (w:World) (b:Nat) (l:List Mip.It) (v:Value):Prop:=∃vs,w.ownsRow (b+1) 159 1 v l.length vs/\Ivs N w b l vs
def RiPost (N:Nat) (r:Mil.Bytes) (a:Nat->Addr) (w:World) (e:Ending) (w':World):Prop:=
 Below w.heap.size w w' /\
 ((∃l b o n c,w.heap.size<=b/\e=.returned (.tuple #[.slice o n c,.pointer none])/\Mip.Rprog' r l/\Row N w' b l (.slice o n c))\/(∃k at_ d,(k=1\/k=2\/k=3\/k=4)/\e=.returned (.tuple #[.slice none 0 0,.pointer (some ⟨d,0,none⟩)])/\w'.heap[d]?=some (.cells #[.int .i64 at_,errV (a k)] 90 (0,0))/\Mil.Fault r k at_))
abbrev D0 (B:Nat):List Deferred:=[{ target:=.fn (.func 73) #[.pointer (some ⟨B,0,none⟩),.pointer (some ⟨B+1,0,none⟩)],args:=#[] }]
structure Vars (w:World) (B:Nat) (v0 v1:Value):Prop where
 b0:w.heap[B]?=some (.cells #[v0] 80 (0,0))
 b1:w.heap[B+1]?=some (.cells #[v1] 78 (0,0))
theorem Vars.c0 (h:Vars w B v0 v1):w.cell? ⟨B,0,none⟩=some v0:=by
 rw[cor w B 0 _ _ _ h.b0];rfl
theorem Vars.c1 (h:Vars w B v0 v1):w.cell? ⟨B+1,0,none⟩=some v1:=by
 rw[cor w (B+1) 0 _ _ _ h.b1];rfl
theorem Vars.f0 (h:Vars w B v0 v1):w.frozen? ⟨B,0,none⟩=false:=by
 simp[World.frozen?,h.b0]
theorem Vars.f1 (h:Vars w B v0 v1):w.frozen? ⟨B+1,0,none⟩=false:=by
 simp[World.frozen?,h.b1]
theorem Vars.kept (h:Vars w B v0 v1) (k:Kp b w w') (hb:B+2<=b):Vars w' B v0 v1:=
 ⟨(k.block B (ags h.b0).1 (by omega)).trans h.b0,(k.block (B+1) (ags h.b1).1 (by omega)).trans h.b1⟩
theorem zb1 (N:Nat) (r:Mil.Bytes) (a:Nat->Addr) (w w1:World) (tm:Array Value) (h2:tm[2]?=some (.pointer (some ⟨w.heap.size,0,none⟩))) (h3:tm[3]?=some (.pointer (some ⟨w.heap.size+1,0,none⟩))) (v0 v1:Value)
  (V:Vars w1 w.heap.size v0 v1) (hb:Below w.heap.size w w1) (k:Nat) (at_:Int) (d:Nat) (hkk:k=1\/k=2\/k=3\/k=4) (hd:w1.heap[d]?=some (.cells #[.int .i64 at_,errV (a k)] 90 (0,0))) (hno:Mil.Fault r k at_) :
  bodyPostD Tryz.prog Tryz.f48 (RiPost N r a w) (Exit.panic [{ v:=.iface 78 (.pointer (some ⟨d,0,none⟩)),recovered:=false }]) { tmps:=tm,defers:=D0 w.heap.size } w1:=by
 refine leaves_cons (f:=73) (args:=#[.pointer (some ⟨w.heap.size,0,none⟩),.pointer (some ⟨w.heap.size+1,0,none⟩)]) (by simp) (by simp[go_sem]) ?_
 refine (catch_hit ⟨w.heap.size,0,none⟩ ⟨w.heap.size+1,0,none⟩ v0 v1 d w1 V.c0 V.c1 V.f0 V.f1 (by simp)).mono ?_
 rintro e u' w'' ⟨rfl,rfl,rfl⟩
 have hd0:d≠w.heap.size:=by
  rintro rfl
  rw[V.b0] at hd
  cases hd
 have hd1:d≠w.heap.size+1:=by
  rintro rfl
  rw[V.b1] at hd
  cases hd
 have e0:(w1.setCell ⟨w.heap.size,0,none⟩ (.slice none 0 0)).cell? ⟨w.heap.size,0,none⟩=some (.slice none 0 0):=World.cell?_setCell_same _ _ _ V.c0
 have e1:((w1.setCell ⟨w.heap.size,0,none⟩ (.slice none 0 0)).setCell ⟨w.heap.size+1,0,none⟩ (.pointer (some ⟨d,0,none⟩))).cell? ⟨w.heap.size+1,0,none⟩=some (.pointer (some ⟨d,0,none⟩)):=
  World.cell?_setCell_same (w1.setCell ⟨w.heap.size,0,none⟩ (.slice none 0 0)) _ _ ((World.cell?_setCell_other _ _ ⟨w.heap.size+1,0,none⟩ _ (by simp)).trans V.c1)
 simp[Leaves,settle,results,Tryz.results48,go_sem,h2,h3,e0,e1]
 refine⟨(hb.setCell nlr _).setCell (p:=⟨w.heap.size+1,0,none⟩) (Nat.le_succ _) _,Or.inr ⟨k,at_,d,hkk,rfl,?_,hno⟩⟩
 rw[bhs _ _ _ d hd1,bhs _ _ _ d hd0]
 exact hd
theorem leaves_done (N:Nat) (r:Mil.Bytes) (a:Nat->Addr) (w w1:World) (tm:Array Value) (h2:tm[2]?=some (.pointer (some ⟨w.heap.size,0,none⟩))) (h3:tm[3]?=some (.pointer (some ⟨w.heap.size+1,0,none⟩))) (o:Option Addr) (n c:Nat)
  (V:Vars w1 w.heap.size (.slice o n c) (.pointer none)) (hb:Below w.heap.size w w1) (l:List Mip.It) (b:Nat) (hwb:w.heap.size<=b) (hl:Mip.Rprog' r l) (hR:Row N w1 b l (.slice o n c)) :
  Leaves Tryz.prog Tryz.f48 tm (RiPost N r a w) (D0 w.heap.size) .returning w1:=by
 refine leaves_cons (f:=73) (args:=#[.pointer (some ⟨w.heap.size,0,none⟩),.pointer (some ⟨w.heap.size+1,0,none⟩)]) (by simp) (by simp[go_sem]) ?_
 refine (catch_idle ⟨w.heap.size,0,none⟩ ⟨w.heap.size+1,0,none⟩ w1).mono ?_
 rintro e u' w'' ⟨rfl,rfl,rfl⟩
 have e0:=V.c0
 have e1:=V.c1
 simp[Leaves,settle,results,Tryz.results48,go_sem,h2,h3,e0,e1]
 exact⟨hb,Or.inl ⟨l,b,o,n,c,hwb,rfl,hl,hR⟩⟩
theorem leaves_tm {fn:Func} {tm tm':Array Value} (h:results fn tm=results fn tm'):∀(ds:List Deferred) (u:FrameMode) (w:World),Leaves Tryz.prog fn tm R ds u w->Leaves Tryz.prog fn tm' R ds u w:=by
 intro ds
 induction ds with
 | nil=>
  intro u w hl
  cases u with
  | returning=>obtain⟨v,h1,h2⟩:=hl;exact⟨v,by rw[<-h];exact h1,h2⟩
  | panicking c=>exact hl
  | run=>exact hl
 | cons d ds ih=>
  rintro u w ⟨hu,fv,cap,f,args,h1,h2,h3⟩
  refine⟨hu,fv,cap,f,args,h1,h2,h3.mono ?_⟩
  intro e u' w' hr
  cases e with
  | returned v=>exact ih _ _ hr
  | panicked c=>exact ih _ _ hr
  | outgrown=>exact hr
theorem zee {c:List PanicEntry} {a:Act} {i:Nat} (h2:i≠2) (h3:i≠3) (h:bodyPostD Tryz.prog Tryz.f48 R (.panic c) (a.put (some i) v) w) :
  bodyPostD Tryz.prog Tryz.f48 R (.panic c) a w:=by
 refine leaves_tm ?_ _ _ _ h
 show results _ (a.tmps.setIfInBounds i v)=_
 simp[results,Tryz.results48,Array.getElem?_setIfInBounds,h2,h3]
theorem Vars.set0 (h:Vars w B v0 v1) (v:Value):Vars (w.setCell ⟨B,0,none⟩ v) B v v1:=by
 refine⟨?_,(bhs _ _ _ (B+1) (by simp)).trans h.b1⟩
 show (w.heap.modify B _)[B]?=_
 rw[Array.getElem?_modify,if_pos rfl,h.b0];rfl
theorem Vars.set1 (h:Vars w B v0 v1) (v:Value):Vars (w.setCell ⟨B+1,0,none⟩ v) B v0 v:=by
 refine⟨(bhs _ _ _ B (by simp)).trans h.b0,?_⟩
 show (w.heap.modify (B+1) _)[B+1]?=_
 rw[Array.getElem?_modify,if_pos rfl,h.b1];rfl
theorem Row.kept {c:Nat} (h:Row N w b l v) (hk:Kp c w w') (hc:c<=b):Row N w' b l v:=by
 obtain⟨vs,h1,h2,h3⟩:=h
 refine⟨vs,hk.owns h1 (by omega),h2,fun k i u e1 e2=>?_⟩
 rcases h3 k i u e1 e2 with h|⟨g1,r,g2,g3⟩|h
 ·exact Or.inl h
 ·exact Or.inr (Or.inl ⟨g1,r,g2,hk.owns g3 (by omega)⟩)
 ·exact Or.inr (Or.inr h)
theorem Row.shape (h:Row N w b l v):∃o c,v=.slice o l.length c:=by
 obtain⟨vs,h1,_⟩:=h
 rcases h1.2 with ⟨h,h'⟩|⟨g,cap,cur,h,_⟩
 ·exact⟨none,0,by rw[h,h']⟩
 ·exact⟨_,_,h⟩
theorem Row.nil (N:Nat) (w:World) (b:Nat):Row N w b [] (.slice none 0 0):=⟨[],World.ownsRow_nil _ _ _ _,rfl,fun k i v h=>by simp at h⟩
theorem iv_grown (h:Iv N w6 b i v) {row:Option Nat} (hg:w6.grownBy w7 row) (hrow:∀k,row=some k->∃cur,w6.heap[k]?=some (.cells cur 159 (0,0))):Iv N w7 b i v:=by
 rcases h with h|⟨h1,r,h2,h3⟩|h
 ·exact Or.inl h
 ·refine Or.inr (Or.inl ⟨h1,r,h2,h3.1,?_⟩)
  rcases h3.2 with hn|⟨g,cap,cur,rfl,hbg,hgg,rest⟩
  ·exact .inl hn
  ·refine .inr ⟨g,cap,cur,rfl,hbg,(hg.block g (ags hgg).1 (fun e=>?_)).trans hgg,rest⟩
   obtain⟨cur',hc⟩:=hrow g e.symm
   rw[hgg] at hc
   cases hc
 ·exact Or.inr (Or.inr h)
theorem Row.more {w5:World} {acc:List Mip.It} {v7 x:Value} {vs:List Value} (hv:Ivs N w5 b acc vs) (iv:Iv N w5 b i x) (k:∀i v,Iv N w5 b i v->Iv N w7 b i v)
  (O:w7.ownsRow (b+1) 159 1 v7 (acc.length+1) (vs++[x])):Row N w7 b (acc++[i]) v7:=by
 refine⟨vs++[x],by rw[List.length_append];exact O,by rw[List.length_append,List.length_append,hv.1];rfl,fun j i' u e1 e2=>?_⟩
 refine k _ _ ?_
 rcases Nat.lt_or_ge j acc.length with h|h
 ·rw[List.getElem?_append_left h] at e1
  rw[List.getElem?_append_left (by rw[<-hv.1];exact h)] at e2
  exact hv.2 j i' u e1 e2
 ·rw[List.getElem?_append_right h] at e1
  rw[List.getElem?_append_right (by rw[<-hv.1];exact h)] at e2
  have h0:j - acc.length=0:=by
   rcases Nat.eq_zero_or_pos (j - acc.length) with h'|h'
   ·exact h'
   ·rw[List.getElem?_eq_none (by simp;omega)] at e1;cases e1
  rw[h0] at e1
  rw[<-hv.1,h0] at e2
  obtain rfl:=osi e1
  obtain rfl:=osi e2
  exact iv
theorem grown_kp {row:Option Nat} {m:Nat} (hg:w6.grownBy w7 row) (hr:∀k,row=some k->m<=k):∃c,m<=c/\Kp c w6 w7:=by
 cases row with
 | none=>exact⟨m,Nat.le_refl _,hg.os,hg.tape,hg.output,hg.size,fun k h1 _=>hg.block k h1 (fun e=>by cases e)⟩
 | some k=>exact⟨k,hr k rfl,hg.os,hg.tape,hg.output,hg.size,fun j h1 h2=>hg.block j h1 (fun e=>h2 (osi e))⟩
structure Round (a:Nat->Addr) (s:ByteArray) (w:World) (acc:List Mip.It) (t:Mil.St) (u:Value) (w8:World):Prop where
 v:Vars w8 w.heap.size u (.pointer none)
 r:Row s.size w8 (w.heap.size+1+1) acc u
 d:RdS w8 (w.heap.size+1+1) s t
 b:Below w.heap.size w w8
 l:Laid a w8
theorem round_end (a:Nat->Addr) (s:ByteArray) (w w5 w7:World) (acc:List Mip.It) (i:Mip.It) (t:Mil.St) (v0 v7 x:Value) (vs:List Value) (hG:23<=w.heap.size) (V5:Vars w5 w.heap.size v0 (.pointer none)) (B5:Below w.heap.size w w5) (L5:Laid a w5)
  (R5:RdS w5 (w.heap.size+1+1) s t) (HVS:Ivs s.size w5 (w.heap.size+1+1) acc vs) (IV:Iv s.size w5 (w.heap.size+1+1) i x)
  (O6:(w5.alloc (.cells #[x] 159)).ownsRow (w.heap.size+1+1+1) 159 1 v0 acc.length vs) (hg7:(w5.alloc (.cells #[x] 159)).grownBy w7 v0.ownBlock)
  (O7:w7.ownsRow (w.heap.size+1+1+1) 159 1 v7 (acc.length+1) (vs++[x])) :
  Vars w7 w.heap.size v0 (.pointer none)/\Round a s w (acc++[i]) t v7 (w7.setCell ⟨w.heap.size,0,none⟩ v7):=by
 have hlt:∀k,v0.ownBlock=some k->w.heap.size+1+1+1<=k:=fun k hk=>(O6.lt k hk).1
 obtain⟨c,hc,kc⟩:=grown_kp hg7 hlt
 have ka:Kp c w5 (w5.alloc (.cells #[x] 159)):=(Kp.refl c w5).alloc _
 have k7:=ka.trans kc
 have hV:=V5.kept k7 (by omega)
 have hrow:∀k,v0.ownBlock=some k->∃cur,(w5.alloc (.cells #[x] 159)).heap[k]?=some (.cells cur 159 (0,0)):=by
  intro k hk
  rcases O6.2 with ⟨rfl,_⟩|⟨g,cap,cur,rfl,_,hgg,_⟩
  ·cases hk
  ·obtain rfl:g=k:=osi hk
   exact⟨cur,hgg⟩
 have hR:Row s.size w7 (w.heap.size+1+1) (acc++[i]) v7:=Row.more HVS IV (fun i v h=>iv_grown (iv_kept h ((Kp.refl _ w5).alloc _)) hg7 hrow) O7
 have kB:Kp w.heap.size w7 (w7.setCell ⟨w.heap.size,0,none⟩ v7):=(Kp.refl _ w7).setCell 0 v7
 refine⟨hV,hV.set0 v7,hR.kept kB (by omega),(R5.kept k7 (by omega)).kept kB (by omega),?_,(L5.kept k7 (by omega)).kept kB hG⟩
 exact (B5.trans ⟨k7.os,k7.tape,k7.output,k7.size,fun k hk=>k7.block k (Nat.lt_of_lt_of_le hk B5.size) (by omega)⟩).setCell nlr _
structure Start (a:Nat->Addr) (s:ByteArray) (w W:World):Prop where
 v:Vars W w.heap.size (.slice none 0 0) (.pointer none)
 r:Rd W (w.heap.size+1+1) s 0 0 0 0 ⟨#[]⟩ 0
 b:Below w.heap.size w W
 l:Laid a W
theorem start_at (a:Nat->Addr) (s:ByteArray) (w:World) (L:Laid a w):Start a s w (((w.alloc (.cells #[.slice none 0 0] 80)).alloc (.cells #[.pointer none] 78)).alloc (.cells #[.string s,.int .i64 0,.int .i64 0,.int .i64 0,.int .i64 0,.string ⟨#[]⟩,.int .i64 0] 157)):=by
 have hb:Below w.heap.size w (((w.alloc (.cells #[.slice none 0 0] 80)).alloc (.cells #[.pointer none] 78)).alloc (.cells #[.string s,.int .i64 0,.int .i64 0,.int .i64 0,.int .i64 0,.string ⟨#[]⟩,.int .i64 0] 157)):=
  ((brf.alloc nlr _).alloc (by simp) _).alloc (by simp;omega) _
 have hblk:(((w.alloc (.cells #[.slice none 0 0] 80)).alloc (.cells #[.pointer none] 78)).alloc (.cells #[.string s,.int .i64 0,.int .i64 0,.int .i64 0,.int .i64 0,.string ⟨#[]⟩,.int .i64 0] 157)).heap[w.heap.size+1+1]?=some (.cells #[.string s,.int .i64 0,.int .i64 0,.int .i64 0,.int .i64 0,.string ⟨#[]⟩,.int .i64 0] 157 (0,0)):=by
  have:=han ((w.alloc (.cells #[.slice none 0 0] 80)).alloc (.cells #[.pointer none] 78)) (.cells #[.string s,.int .i64 0,.int .i64 0,.int .i64 0,.int .i64 0,.string ⟨#[]⟩,.int .i64 0] 157)
  simpa using this
 refine⟨⟨?_,?_⟩,⟨?_,?_,?_,?_,?_,?_,?_,fun o=>by unfold World.frozen?;rw[hblk];simp⟩,hb,L.kept (Kp.of_below (b:=w.heap.size) hb) L.size⟩
 ·rw[Below.heap_alloc _ _ _ (by simp;omega),Below.heap_alloc _ _ _ (by simp)];exact han w _
 ·rw[Below.heap_alloc _ _ _ (by simp)]
  have:=han (w.alloc (.cells #[.slice none 0 0] 80)) (.cells #[.pointer none] 78)
  simpa using this
 all_goals (rw[cor _ _ _ _ _ _ hblk];rfl)
end
section
open Go.RowKit
variable {xs:List Value} {b base cap g i j n size:Nat} {p:Nat×Nat} {x:Obj} {e t:TypeId} {v:Value} {W u w w':World}
theorem own_kept (ho:w.ownsRow base e size v n xs) (hk:∀k,v.ownBlock=some k->w'.heap[k]?=w.heap[k]?):w'.ownsRow base e size v n xs:=by
 refine⟨ho.1,?_⟩
 rcases ho.2 with hn|⟨g,cap,cur,rfl,hbg,hgg,rest⟩
 ·exact .inl hn
 ·exact .inr ⟨g,cap,cur,rfl,hbg,(hk g rfl).trans hgg,rest⟩
theorem zae (ho:w.ownsRow base e size v n xs):∃o c,v=.slice o n c:=by
 rcases ho.2 with ⟨h,h0⟩|⟨g,cap,cur,h,_⟩
 ·exact⟨none,0,by rw[h,h0]⟩
 ·exact⟨_,_,h⟩
theorem zac (ho:w.ownsRow base e size v n xs) (k:Nat) (hk:v.ownBlock=some k):base<=k/\∃cur,w.heap[k]?=some (.cells cur e (0,0)):=by
 rcases ho.2 with ⟨rfl,_⟩|⟨g,cap,cur,rfl,hbg,hgg,rest⟩
 ·cases hk
 ·have e:g=k:=by simpa [Value.ownBlock] using hk
  subst e
  exact⟨hbg,cur,hgg⟩
theorem zan (ho:w.ownsRow base e size (.slice (some ⟨g,0,none⟩) n cap) n xs) {j:Nat} {v:Value} (hv:xs[j]?=some v):w.cell? ⟨g,j,none⟩=some v:=by
 obtain⟨h1,⟨h2,h3⟩|⟨k,cap',cur,hs,hbk,hk,hcap,hmx,hsz,htk⟩⟩:=ho
 ·cases h2
 ·injection hs with e1 e2 e3
  have e4:g=k:=by simpa using e1
  subst e4
  rw[cor w g _ _ _ _ hk,<-hv,<-htk,List.getElem?_take]
  have hj:=(lgs hv).1
  rw[if_pos (by rw[<-h1];exact hj)]
  simp
theorem zbb {y:Obj} (hi:w.heap[i]?=some x) (hj:w.heap[j]?=some y) (h:x≠y):i≠j:=by
 rintro rfl
 rw[hi] at hj
 exact h (osi hj)
theorem zai {x y:Array Value} {t':TypeId} {q:Nat×Nat} (hi:w.heap[i]?=some (.cells x t p)) (hj:w.heap[j]?=some (.cells y t' q)) (h:t≠t'):i≠j:=by
 rintro rfl
 rw[hi] at hj
 injection hj with e
 injection e with e1 e2 e3
 exact h e2
theorem lt_of_heap (h:w.heap[i]?=some x):i < w.heap.size:=(ags h).1
theorem Msi.heap {m:Mbo} (h:Msi w b n m):∃es clock,w.heap[b]?=some (.map es clock):=by
 obtain⟨D,⟨es,clock,h1,_⟩,_⟩:=h
 exact⟨es,clock,h1⟩
def Kt (w w':World):Prop:=∀(i:Nat) (cur:Array Value),w.heap[i]?=some (.cells cur 79 (0,0))->w'.heap[i]?=some (.cells cur 79 (0,0))
theorem Kt.refl (w:World):Kt w w:=fun _ _ h=>h
theorem Kt.trans {v:World} (h:Kt u v) (k:Kt v w):Kt u w:=fun i cur e=>k i cur (h i cur e)
theorem Kt.of_below (k:Below w.heap.size w w'):Kt w w':=fun i _ h=>(k.block i (lt_of_heap h)).trans h
theorem Kt.step (h:Kt u w) (k:Below w.heap.size w w'):Kt u w':=h.trans (Kt.of_below k)
theorem Kt.fr {own:Nat->Prop} (h:Kt u w) (k:Fr own w w') (ho:∀(i:Nat) (cur:Array Value),own i->w.heap[i]?=some (.cells cur 79 (0,0))->False):Kt u w':=fun i cur e=>(k.block i (lt_of_heap (h i cur e)) (fun e'=>ho i cur e' (h i cur e))).trans (h i cur e)
theorem Kt.one {x:Array Value} (h:Kt u w) (k:Fr (fun i=>i=b) w w') (hb:w.heap[b]?=some (.cells x t p)) (ht:t≠79):Kt u w':=h.fr k (fun i cur e e'=>by
 have e2:i=b:=e
 rw[e2] at e'
 exact zai hb e' ht rfl)
theorem Kt.map (h:Kt u w) (k:Fr (fun i=>i=b) w w') (hb:∃es cl,w.heap[b]?=some (.map es cl)):Kt u w':=h.fr k (fun i cur e e'=>by
 have e2:i=b:=e
 obtain⟨es,cl,hh⟩:=hb
 rw[e2,hh] at e'
 cases e')
def flC (f:Flo):List Value:=[.string (bs f.nm),.int .i64 (f.ty:Nat),.int .i64 (f.per:Nat),.bool f.inp,.bool f.out]
def fls (F:List Flo):List Value:=F.flatMap flC
def nqC (N:Nat) (x:Nq×Value):List Value:=[.int .i64 ((N:Int) - (x.1.at_:Nat)),.string (bs x.1.nm),.int .i64 (x.1.ty:Nat),ev N x.1.body,.int .i64 (x.1.flow:Nat),x.2]
def nqs (N:Nat) (X:List (Nq×Value)):List Value:=X.flatMap (nqC N)
theorem zbc {α:Type} (f:α->List Value) (s:Nat) (hf:∀x,(f x).length=s):∀(l:List α) (j i:Nat) (x:α),l[j]?=some x->i < s->(l.flatMap f)[j*s+i]?=(f x)[i]?
 | [],_,_,_,h,_=>by simp at h
 | y::r,0,i,x,h,hi=>by
  have e:y=x:=by simpa using h
  subst e
  rw[List.flatMap_cons,List.getElem?_append_left (by rw[hf];omega)]
  simp
 | y::r,j+1,i,x,h,hi=>by
  rw[List.flatMap_cons,List.getElem?_append_right (by rw[hf,Nat.add_mul];omega),hf]
  have e:(j+1)*s+i - s=j*s+i:=by rw[Nat.add_mul];omega
  rw[e]
  exact zbc f s hf r j i x (by simpa using h) hi
structure Cs (N:Nat) (w0:World) (iv:Value) (c b n:Nat) (m:Mbo) (F:List Flo) (X:List (Nq×Value)) (fv qv:Value) (w:World):Prop where
 blw:Below w0.heap.size w0 w
 hc:w0.heap.size<=c
 hb:w0.heap.size<=b
 cm:w.heap[c]?=some (.cells #[iv,fv,.map (some b),qv] 84 (0,0))
 mp:Msi w b n m
 fl:w.ownsRow w0.heap.size 52 5 fv F.length (fls F)
 eq:w.ownsRow w0.heap.size 125 6 qv X.length (nqs N X)
section
variable {N:Nat} {w0:World} {iv:Value} {c b n:Nat} {m:Mbo} {F:List Flo} {X:List (Nq×Value)} {fv qv:Value} {w w':World}
theorem Cs.below (h:Cs N w0 iv c b n m F X fv qv w) (k:Below w.heap.size w w'):Cs N w0 iv c b n m F X fv qv w':=by
 refine⟨h.blw.trans (k.mono h.blw.size),h.hc,h.hb,(k.block _ (lt_of_heap h.cm)).trans h.cm,h.mp.fr (Fr.of_below (own:=fun _=>False) k) (fun e=>e),own_kept h.fl (fun q hq=>k.block q (lt_of_heap (zac h.fl q hq).2.choose_spec)),own_kept h.eq (fun q hq=>k.block q (lt_of_heap (zac h.eq q hq).2.choose_spec))⟩
theorem Cs.cells (h:Cs N w0 iv c b n m F X fv qv w):w.cell? ⟨c,0,none⟩=some iv/\w.cell? ⟨c,1,none⟩=some fv/\w.cell? ⟨c,2,none⟩=some (.map (some b))/\w.cell? ⟨c,3,none⟩=some qv:=
 ⟨(cor w c 0 _ _ _ h.cm).trans rfl,(cor w c 1 _ _ _ h.cm).trans rfl,(cor w c 2 _ _ _ h.cm).trans rfl,(cor w c 3 _ _ _ h.cm).trans rfl⟩
theorem Cs.name {n':Nat} {m':Mbo} (h:Cs N w0 iv c b n m F X fv qv w) (k:Fr (fun i=>i=b) w w') (hm:Msi w' b n' m'):Cs N w0 iv c b n' m' F X fv qv w':=by
 obtain⟨es,cl,hbm⟩:=h.mp.heap
 have nf:∀q,fv.ownBlock=some q->q≠b:=fun q hq=>zbb (zac h.fl q hq).2.choose_spec hbm (by intro e;cases e)
 have nq:∀q,qv.ownBlock=some q->q≠b:=fun q hq=>zbb (zac h.eq q hq).2.choose_spec hbm (by intro e;cases e)
 have nc:c≠b:=zbb h.cm hbm (by intro e;cases e)
 refine⟨⟨k.os.trans h.blw.os,k.tape.trans h.blw.tape,k.output.trans h.blw.output,Nat.le_trans h.blw.size k.size,fun i hi=>(k.block i (Nat.lt_of_lt_of_le hi h.blw.size) (fun e=>by have e':i=b:=e;have:=h.hb;omega)).trans (h.blw.block i hi)⟩,h.hc,h.hb,(k.block c (lt_of_heap h.cm) nc).trans h.cm,hm,?_,?_⟩
 ·exact own_kept h.fl (fun q hq=>k.block q (lt_of_heap (zac h.fl q hq).2.choose_spec) (nf q hq))
 ·exact own_kept h.eq (fun q hq=>k.block q (lt_of_heap (zac h.eq q hq).2.choose_spec) (nq q hq))
theorem zak {B:Nat} (h:Below B u w) (hB:B<=w.heap.size) {row:Option Nat} (hg:w.grownBy w' row) (hr:∀k,row=some k->B<=k):Below B u w':=
 h.trans ((Below.refl B w).grown hg hB hr)
theorem Cs.flow {f:Flo} (h:Cs N w0 iv c b n m F X fv qv W) (hg:W.grownBy w' fv.ownBlock) (ho:w'.ownsRow w0.heap.size 52 5 (.slice (some ⟨g,0,none⟩) (F.length+1) cap) (F.length+1) (fls F++flC f)) (hgl:fv.ownBlock=some g\/g=W.heap.size) :
  Cs N w0 iv c b n m (F++[f]) X (.slice (some ⟨g,0,none⟩) (F.length+1) cap) qv (w'.setCell ⟨c,1,none⟩ (.slice (some ⟨g,0,none⟩) (F.length+1) cap))/\(w'.cell? ⟨c,1,none⟩=some fv/\∀o,w'.frozen? ⟨c,o,none⟩=false)/\Fr (fun i=>i=c\/fv.ownBlock=some i) W (w'.setCell ⟨c,1,none⟩ (.slice (some ⟨g,0,none⟩) (F.length+1) cap)):=by
 have nf:∀q,fv.ownBlock=some q->q≠c:=fun q hq=>zai (zac h.fl q hq).2.choose_spec h.cm (by decide)
 have gr:∀q,q < W.heap.size->fv.ownBlock≠some q->w'.heap[q]?=W.heap[q]?:=fun q h1 h2=>hg.block q h1 (fun e=>h2 e.symm)
 have e1:w'.heap[c]?=some (.cells #[iv,fv,.map (some b),qv] 84 (0,0)):=(gr c (lt_of_heap h.cm) (fun e=>nf c e rfl)).trans h.cm
 have oth:∀q,q≠c->(w'.setCell ⟨c,1,none⟩ (.slice (some ⟨g,0,none⟩) (F.length+1) cap)).heap[q]?=w'.heap[q]?:=fun q hq=>bhs w' ⟨c,1,none⟩ _ q hq
 have both:∀q,q < W.heap.size->q≠c->fv.ownBlock≠some q->(w'.setCell ⟨c,1,none⟩ (.slice (some ⟨g,0,none⟩) (F.length+1) cap)).heap[q]?=W.heap[q]?:=fun q h1 h2 h3=>(oth q h2).trans (gr q h1 h3)
 have gc:g≠c:=by
  rcases hgl with e|e
  ·exact nf g e
  ·have:=lt_of_heap h.cm;omega
 obtain⟨es,cl,hbm⟩:=h.mp.heap
 have fb:∀q,fv.ownBlock=some q->q≠b:=fun q hq=>zbb (zac h.fl q hq).2.choose_spec hbm (by intro e;cases e)
 have cb:b≠c:=zbb hbm h.cm (by intro e;cases e)
 have fr:Fr (fun i=>i=c\/fv.ownBlock=some i) W (w'.setCell ⟨c,1,none⟩ (.slice (some ⟨g,0,none⟩) (F.length+1) cap)):=⟨hg.os,hg.tape,hg.output,by simpa using hg.size,fun i h1 h2=>both i h1 (fun e=>h2 (Or.inl e)) (fun e=>h2 (Or.inr e))⟩
 refine⟨⟨?_,h.hc,h.hb,?_,h.mp.fr fr (fun e=>?_),?_,?_⟩,⟨?_,fun q=>?_⟩,fr⟩
 ·exact (zak h.blw h.blw.size hg (fun k e=>(zac h.fl k e).1)).setCell h.hc _
 ·show (w'.heap.modify c _)[c]?=_
  rw[Array.getElem?_modify,if_pos rfl,e1];rfl
 ·rcases e with e|e
  ·exact cb e
  ·exact fb b e rfl
 ·have e2:fls (F++[f])=fls F++flC f:=by simp[fls]
  rw[e2,List.length_append]
  exact own_kept ho (fun j hj=>by
   have:g=j:=by simpa [Value.ownBlock] using hj
   subst this
   exact oth g gc)
 ·refine own_kept h.eq (fun q hq=>both q (lt_of_heap (zac h.eq q hq).2.choose_spec) (zai (zac h.eq q hq).2.choose_spec h.cm (by decide)) (fun e=>?_))
  exact zai (zac h.eq q hq).2.choose_spec (zac h.fl q e).2.choose_spec (by decide) rfl
 ·rw[cor w' _ 1 _ _ _ e1];rfl
 ·unfold World.frozen?;rw[e1];simp
theorem Cs.eqn {x:Nq×Value} (h:Cs N w0 iv c b n m F X fv qv W) (hg:W.grownBy w' qv.ownBlock) (ho:w'.ownsRow w0.heap.size 125 6 (.slice (some ⟨g,0,none⟩) (X.length+1) cap) (X.length+1) (nqs N X++nqC N x)) (hgl:qv.ownBlock=some g\/g=W.heap.size) :
  Cs N w0 iv c b n m F (X++[x]) fv (.slice (some ⟨g,0,none⟩) (X.length+1) cap) (w'.setCell ⟨c,3,none⟩ (.slice (some ⟨g,0,none⟩) (X.length+1) cap))/\(w'.cell? ⟨c,3,none⟩=some qv/\∀o,w'.frozen? ⟨c,o,none⟩=false)/\Fr (fun i=>i=c\/qv.ownBlock=some i) W (w'.setCell ⟨c,3,none⟩ (.slice (some ⟨g,0,none⟩) (X.length+1) cap)):=by
 have nf:∀q,qv.ownBlock=some q->q≠c:=fun q hq=>zai (zac h.eq q hq).2.choose_spec h.cm (by decide)
 have gr:∀q,q < W.heap.size->qv.ownBlock≠some q->w'.heap[q]?=W.heap[q]?:=fun q h1 h2=>hg.block q h1 (fun e=>h2 e.symm)
 have e1:w'.heap[c]?=some (.cells #[iv,fv,.map (some b),qv] 84 (0,0)):=(gr c (lt_of_heap h.cm) (fun e=>nf c e rfl)).trans h.cm
 have oth:∀q,q≠c->(w'.setCell ⟨c,3,none⟩ (.slice (some ⟨g,0,none⟩) (X.length+1) cap)).heap[q]?=w'.heap[q]?:=fun q hq=>bhs w' ⟨c,3,none⟩ _ q hq
 have both:∀q,q < W.heap.size->q≠c->qv.ownBlock≠some q->(w'.setCell ⟨c,3,none⟩ (.slice (some ⟨g,0,none⟩) (X.length+1) cap)).heap[q]?=W.heap[q]?:=fun q h1 h2 h3=>(oth q h2).trans (gr q h1 h3)
 have gc:g≠c:=by
  rcases hgl with e|e
  ·exact nf g e
  ·have:=lt_of_heap h.cm;omega
 obtain⟨es,cl,hbm⟩:=h.mp.heap
 have fb:∀q,qv.ownBlock=some q->q≠b:=fun q hq=>zbb (zac h.eq q hq).2.choose_spec hbm (by intro e;cases e)
 have cb:b≠c:=zbb hbm h.cm (by intro e;cases e)
 have fr:Fr (fun i=>i=c\/qv.ownBlock=some i) W (w'.setCell ⟨c,3,none⟩ (.slice (some ⟨g,0,none⟩) (X.length+1) cap)):=⟨hg.os,hg.tape,hg.output,by simpa using hg.size,fun i h1 h2=>both i h1 (fun e=>h2 (Or.inl e)) (fun e=>h2 (Or.inr e))⟩
 refine⟨⟨?_,h.hc,h.hb,?_,h.mp.fr fr (fun e=>?_),?_,?_⟩,⟨?_,fun q=>?_⟩,fr⟩
 ·exact (zak h.blw h.blw.size hg (fun k e=>(zac h.eq k e).1)).setCell h.hc _
 ·show (w'.heap.modify c _)[c]?=_
  rw[Array.getElem?_modify,if_pos rfl,e1];rfl
 ·rcases e with e|e
  ·exact cb e
  ·exact fb b e rfl
 ·refine own_kept h.fl (fun q hq=>both q (lt_of_heap (zac h.fl q hq).2.choose_spec) (zai (zac h.fl q hq).2.choose_spec h.cm (by decide)) (fun e=>?_))
  exact zai (zac h.fl q hq).2.choose_spec (zac h.eq q e).2.choose_spec (by decide) rfl
 ·have e2:nqs N (X++[x])=nqs N X++nqC N x:=by simp[nqs]
  rw[e2,List.length_append]
  exact own_kept ho (fun j hj=>by
   have:g=j:=by simpa [Value.ownBlock] using hj
   subst this
   exact oth g gc)
 ·rw[cor w' _ 3 _ _ _ e1];rfl
 ·unfold World.frozen?;rw[e1];simp
end
section
variable {P:Program} {ops:Array Oper} {Q:Exit->Act->World->Prop} {md:Region.Mode} {S:World->Prop} {l:Nat}
def wpAnyL (P:Program) (md:Region.Mode) (ops:Array Oper) (Q:Exit->Act->World->Prop) (S:World->Prop) (l:Nat):Nat->Array Bool->Act->World->Prop
 | 0,listed,a,w=>Region.ready md ops listed=[]/\Q .normal a w
 | fuel+1,listed,a,w=>
  (Region.ready md ops listed=[]->Q .normal a w) /\
  ∀i∈Region.ready md ops listed,wpOp P ops Q i (fun a' w'=>(i=l\/S w')/\wpAnyL P md ops Q S l fuel (listed.setIfInBounds i true) a' w') a w
theorem wpAny_of_L:∀(fuel:Nat) (listed:Array Bool) (a:Act) (w:World),wpAnyL P md ops Q S l fuel listed a w->wpAny P md ops Q fuel listed a w
 | 0,_,_,_,h=>h
 | fuel+1,_,_,_,h=>⟨h.1,fun i hi=>wpOp_mono (fun a' w' h'=>wpAny_of_L fuel _ a' w' h'.2) (h.2 i hi)⟩
theorem wpAnyL_first {oi ol:Oper} (hi:ops[i]?=some oi) (hol:ops[l]?=some ol) (hle:∃e∈ol.after,Region.binds md e=true/\e.on=i) (hsel:∀(j:Nat) (o:Oper) cs b,ops[j]?=some o->o.op≠.select cs b)
  (hQ:∀c a w,Q (.panic c) (a.put oi.dst v) w->Q (.panic c) a w) :
  ∀(fuel:Nat) (listed:Array Bool) (a:Act) (w:World),
   (∀j oj,ops[j]?=some oj->j≠i->listed.getD j true=false->(∀e∈oj.after,Region.binds md e=true->e.on≠i)->oi.apart ops oj=true) ->
   i∈Region.ready md ops listed->YieldsIf P ops S oi v a->S w ->
   wpAnyL P md ops Q S l fuel (listed.setIfInBounds i true) (a.put oi.dst v) w->wpAnyL P md ops Q S l (fuel+1) listed a w:=by
 intro fuel
 induction fuel with
 | zero=>
  intro listed a w _ hr hy hS H
  refine⟨fun h=>(by rw[h] at hr;cases hr),fun j hj=>?_⟩
  by_cases hji:j=i
  ·subst hji;exact hy.wpOp hi hS ⟨Or.inr hS,H⟩
  ·have:=ready_mono hj hji
   rw[H.1] at this
   cases this
 | succ fuel ih=>
  intro listed a w hfree hr hy hS H
  refine⟨fun h=>(by rw[h] at hr;cases hr),fun j hj=>?_⟩
  by_cases hji:j=i
  ·subst hji;exact hy.wpOp hi hS ⟨Or.inr hS,H⟩
  ·have h1:=H.2 j (ready_mono hj hji)
   obtain⟨hjun,oj,hoj,hall⟩:=mem_ready.1 hj
   have hnot:∀e∈oj.after,Region.binds md e=true->e.on≠i:=fun e he hb heq=>by
    have h1:=hall e he hb
    have h0:=(mem_ready.1 hr).1
    rw[heq] at h1
    rcases Nat.lt_or_ge i listed.size with h'|h'
    ·simp[h'] at h0 h1;rw[h0] at h1;cases h1
    ·simp[Array.getElem?_eq_none h'] at h1
   have hjl:j≠l:=fun e=>by
    subst e
    rw[hol] at hoj
    obtain rfl:=osi hoj
    obtain⟨e,he,hb,hon⟩:=hle
    exact hnot e he hb hon
   have h2:=wpOp_putIf hoj (hfree j oj hoj hji hjun hnot) (fun cs b=>hsel i oi cs b hi) (fun cs b=>hsel j oj cs b hoj) hQ hy h1
   have hfree':∀k ok,ops[k]?=some ok->k≠i->(listed.setIfInBounds j true).getD k true=false ->
     (∀e∈ok.after,Region.binds md e=true->e.on≠i)->oi.apart ops ok=true:=fun k ok hk hki hun hno=>by
    refine hfree k ok hk hki ?_ hno
    by_cases hjk:j=k
    ·subst hjk;exact hjun
    ·rw[getD_set_ne true hjk] at hun;exact hun
   refine wpOp_mono (fun a' w' h3=>?_) h2
   have hSw:S w':=by
    rcases h3.2.1 with h|h
    ·exact absurd h hjl
    ·exact h
   refine⟨Or.inr hSw,ih (listed.setIfInBounds j true) a' w' hfree' (ready_mono hr (Ne.symm hji)) h3.1 hSw ?_⟩
   rw[Array.setIfInBounds_comm _ _ hji]
   exact h3.2.2
def waits (md:Region.Mode) (ops:Array Oper) (l i:Nat):Bool:=((ops[l]?).map (·.after.toList.any fun e=>Region.binds md e && e.on==i)).getD false
theorem waits_spec (h:waits md ops l i=true):∃ol,ops[l]?=some ol/\∃e∈ol.after,Region.binds md e=true/\e.on=i:=by
 unfold waits at h
 cases ho:ops[l]? with
 | none=>rw[ho] at h;cases h
 | some ol=>
  rw[ho] at h
  have h':(ol.after.toList.any fun e=>Region.binds md e && e.on==i)=true:=h
  rw[List.any_eq_true] at h'
  obtain⟨e,he,hb⟩:=h'
  rw[Bool.and_eq_true,beq_iff_eq] at hb
  exact⟨ol,rfl,e,Array.mem_toList_iff.1 he,hb⟩
theorem L_take (i:Nat) {oi:Oper} {v:Value} {fuel:Nat} {listed:Array Bool} {a:Act} {w:World} (hi:ops.toList[i]?=some oi) (hl:waits md ops l i=true)
  (hs:Region.noSelect ops=true) (hf:Region.free md ops listed i=true) (hr:(Region.ready md ops listed).contains i=true)
  (hQ:∀c a w,Q (.panic c) (a.put oi.dst v) w->Q (.panic c) a w) (hy:YieldsIf P ops S oi v a) (hS:S w)
  (h:wpAnyL P md ops Q S l fuel (listed.setIfInBounds i true) (a.put oi.dst v) w):wpAnyL P md ops Q S l (fuel+1) listed a w:=by
 obtain⟨ol,ho,hle⟩:=waits_spec hl
 exact wpAnyL_first (zdq hi) ho hle (Region.noSelect_spec hs) hQ fuel listed a w (Region.free_spec (zdq hi) hf) (by simpa using hr) hy hS h
theorem Lu (i:Nat) {oi:Oper} {v:Value} {fuel:Nat} {listed:Array Bool} {a:Act} {w:World} (hi:ops.toList[i]?=some oi) (hb:(waits md ops l i&&Region.noSelect ops&&Region.free md ops listed i&&(Region.ready md ops listed).contains i)=true) (hQ:∀c a w,Q (.panic c) (a.put oi.dst v) w->Q (.panic c) a w) (hy:YieldsIf P ops S oi v a) (hS:S w) (h:wpAnyL P md ops Q S l fuel (listed.setIfInBounds i true) (a.put oi.dst v) w):wpAnyL P md ops Q S l (fuel+1) listed a w:=by
 rw[Bool.and_eq_true,Bool.and_eq_true,Bool.and_eq_true] at hb
 exact L_take i hi hb.1.1.1 hb.1.1.2 hb.1.2 hb.2 hQ hy hS h
theorem L_one (i:Nat) {o:Oper} {fuel:Nat} {listed:Array Bool} {a:Act} {w:World} (hr:Region.ready md ops listed=[i]) (ho:ops.toList[i]?=some o)
  (h:∀K':Act->World->Prop,Shut (∀a w,(i=l\/S w)->((i=l\/S w)->wpAnyL P md ops Q S l fuel (listed.setIfInBounds i true) a w)->K' a w)->if Region.wanted o (yielded ops a.tmps)=true then Oper.wp P o a w K' Q else K' (a.put o.dst undef) w) :
  wpAnyL P md ops Q S l (fuel+1) listed a w:=by
 refine⟨fun e=>(by rw[hr] at e;cases e),fun j hj=>?_⟩
 rw[hr] at hj
 obtain rfl:=List.mem_singleton.1 hj
 exact wpOp_step (zdq ho) (fun K' hK=>h K' (fun a w hS hW=>hK a w ⟨hS,hW hS⟩))
theorem zdd {listed:Array Bool} {a:Act} (hr:Region.ready md ops listed=[]) (h:Q .normal a w) :
  ∀fuel,wpAnyL P md ops Q S l fuel listed a w
 | 0=>⟨hr,h⟩
 | _+1=>⟨fun _=>h,by rw[hr];simp⟩
theorem zbu {id:Nat} {a:Act} (S:World->Prop) (l:Nat) (hm:P.follows .mixedOrders=true) (hS:S w.drew)
  (h:S w.drew->wpAnyL P .any ops Q S l ops.size (Array.replicate ops.size false) a w.drew):(Code.region id ops true).wp P Q a w:=
 wp_region_any hm (wpAny_of_L _ _ _ _ (h hS))
end
end
end Go.Proofs.YtjehljjlcifndaaGreatDoor
