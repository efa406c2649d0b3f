import Derived.Test.YtoiajojadihpbaaGreatDoorQt22
import Derived.Test.YtoiajojadihpbaaGreatDoorQt23
import Derived.Test.YtoiajojadihpbaaGreatDoorQt26
import Derived.Deep.RegionHeld3
import Derived.Deep.AppendLies
namespace Go.Proofs.YtoiajojadihpbaaGreatDoor
set_option maxHeartbeats 8000000
set_option maxRecDepth 100000
section
namespace Ref
open Mil
theorem tokAt_has (r:Bytes) (p:Nat):((tokAt r p).name=true->(tokAt r p).t≠[])/\((tokAt r p).number=true->(tokAt r p).t≠[]):=by
 unfold tokAt
 match r with
 | []=>exact⟨fun h=>(by cases h),fun h=>(by cases h)⟩
 | c::r=>
  simp only[]
  have t1:∀f:UInt8->Bool,f c=true->(c::r).takeWhile f≠[]:=fun f hf=>by rw[List.takeWhile_cons,if_pos hf];simp
  by_cases hL:isL c=true
  ·rw[if_pos hL]
   exact⟨fun _=>t1 _ (by unfold isN;rw[hL];rfl),fun h=>by cases h⟩
  ·rw[if_neg hL]
   by_cases hD:isD c=true
   ·rw[if_pos hD]
    exact⟨fun h=>(by cases h),fun _=>t1 _ hD⟩
   ·rw[if_neg hD]
    split
    ·exact⟨fun h=>(by cases h),fun h=>(by cases h)⟩
    ·exact⟨fun h=>(by cases h),fun h=>(by cases h)⟩
theorem rnext_end (b:Bytes) (p:Nat) (hp:p<=b.length) (h:(rnext b p).at_=b.length):(rnext b p).t=[]/\(rnext b p).e=0:=by
 have h1:=skip_le false (b.drop p)
 have h2:(b.drop p).length=b.length - p:=by simp
 have h3:=(tokAt_len (skip false (b.drop p)) (b.length - (skip false (b.drop p)).length)).1
 unfold rnext at h ⊢
 rw[h3] at h
 by_cases hb:b.length=0
 ·have:skip false (b.drop p)=[]:=List.length_eq_zero_iff.1 (by omega)
  rw[this];exact⟨rfl,rfl⟩
 ·have:skip false (b.drop p)=[]:=List.length_eq_zero_iff.1 (by omega)
  rw[this];exact⟨rfl,rfl⟩
def Row (b:Bytes) (T:List Tk):Prop:=∃pre z,T=pre++[z]/\(∀t,t∈pre->t.e=0/\t.t≠[])/\(z.e≠0\/(z.t=[]/\z.at_=b.length))/\(∀t,t∈T->(t.name=true->t.t≠[])/\(t.number=true->t.t≠[]))/\T.length<=601
theorem scan_row (b:Bytes):∀(n p:Nat) (acc T:List Tk),rscan b n p acc=some T->p<=b.length->acc.length<=600->(∀t,t∈acc->(t.e=0/\t.t≠[])/\(t.name=true->t.t≠[])/\(t.number=true->t.t≠[]))->Row b T
 | 0,_,_,_,h,_,_,_=>by cases h
 | n+1,p,acc,T,h,hp,ha,hg=>by
  have hh:((rnext b p).name=true->(rnext b p).t≠[])/\((rnext b p).number=true->(rnext b p).t≠[]):=tokAt_has _ _
  obtain⟨a1,a2,a3,a4⟩:=rnext_adv b p hp
  have mt:(mark acc.length b.length (rnext b p)).t=(rnext b p).t/\(mark acc.length b.length (rnext b p)).at_=(rnext b p).at_/\(mark acc.length b.length (rnext b p)).name=(rnext b p).name/\(mark acc.length b.length (rnext b p)).number=(rnext b p).number:=by
   unfold mark
   split
   ·exact⟨rfl,rfl,rfl,rfl⟩
   ·exact⟨rfl,rfl,rfl,rfl⟩
  have mh:((mark acc.length b.length (rnext b p)).name=true->(mark acc.length b.length (rnext b p)).t≠[])/\((mark acc.length b.length (rnext b p)).number=true->(mark acc.length b.length (rnext b p)).t≠[]):=by
   rw[mt.1,mt.2.2.1,mt.2.2.2];exact hh
  rw[rscan] at h
  by_cases c:(rnext b p).at_=b.length\/(mark acc.length b.length (rnext b p)).e≠0
  ·rw[if_pos c] at h
   obtain rfl:=osi h
   refine⟨acc,_,rfl,fun t ht=>(hg t ht).1,?_,?_,?_⟩
   ·rcases c with c|c
    ·by_cases ce:(mark acc.length b.length (rnext b p)).e=0
     ·exact Or.inr ⟨by rw[mt.1];exact (rnext_end b p hp c).1,by rw[mt.2.1];exact c⟩
     ·exact Or.inl ce
    ·exact Or.inl c
   ·intro t ht
    rcases List.mem_append.1 ht with ht|ht
    ·exact (hg t ht).2
    ·rw[List.mem_singleton.1 ht];exact mh
   ·rw[List.length_append]
    simp only[List.length_singleton]
    omega
  ·rw[if_neg c] at h
   have c1:(rnext b p).at_≠b.length:=fun e=>c (Or.inl e)
   have c2:(mark acc.length b.length (rnext b p)).e=0:=Decidable.not_not.1 (fun e=>c (Or.inr e))
   have c3:(rnext b p).e=0/\acc.length≠600:=by
    unfold mark at c2
    by_cases k:acc.length=600/\(rnext b p).at_≠b.length/\(rnext b p).e=0
    ·rw[if_pos k] at c2;cases c2
    ·rw[if_neg k] at c2
     exact⟨c2,fun e=>k ⟨e,c1,c2⟩⟩
   have c4:=a4 c3.1 c1
   refine scan_row b n _ _ T h a3 (by rw[List.length_append];simp only[List.length_singleton];omega) ?_
   intro t ht
   rcases List.mem_append.1 ht with ht|ht
   ·exact hg t ht
   ·rw[List.mem_singleton.1 ht]
    refine⟨⟨c2,?_⟩,mh⟩
    rw[mt.1]
    intro e
    rw[e] at c4
    simp at c4
theorem scans_row {b:Bytes} {T:List Tk} (h:Scans b 0 [] T):Row b T:=by
 obtain⟨n,h⟩:=h
 exact scan_row b n 0 [] T h (Nat.zero_le _) (Nat.zero_le _) (fun t ht=>by cases ht)
theorem Row.wf {b:Bytes} {T:List Tk} (h:Row b T):Wf T/\0 < T.length/\T.length<=601:=by
 obtain⟨pre,z,rfl,h1,h2,h3,h4⟩:=h
 refine⟨fun i t ht=>⟨fun he hne=>?_,h3 t (List.mem_of_getElem? ht)⟩,by simp,h4⟩
 rw[List.length_append,List.length_singleton]
 have hi:=(lgs ht).1
 rw[List.length_append,List.length_singleton] at hi
 by_cases k:i=pre.length
 ·exfalso
  subst k
  rw[List.getElem?_append_right nlr] at ht
  simp at ht
  subst ht
  rcases h2 with h2|h2
  ·exact h2 he
  ·exact hne h2.1
 ·omega
end Ref
end
section
namespace Ref
open Mil
structure Im where
 kind:Nat
 at_:Nat
 name:Bytes
 type:Nat
 period:Nat
 names:List (Bytes×Nat)
 expr:Nat
def rnames (T:List Tk):Nat->List (Bytes×Nat)->Rs->Option (List (Bytes×Nat)×Rs)
 | 0,_,_=>none
 | n+1,acc,s=>
  if is T sComma (rname T s).2 then rnames T n (acc++[((rname T s).1.t,(rname T s).1.at_)]) (up (rname T s).2)
  else some (acc++[((rname T s).1.t,(rname T s).1.at_)],(rname T s).2)
def rhead (T:List Tk) (s:Rs):(Tk×Nat)×Rs:=(((rname T s).1,(rtyped T (take T sColon (rname T s).2)).1),(rtyped T (take T sColon (rname T s).2)).2)
def ritem (T:List Tk) (n:Nat) (s:Rs):Option (Im×Rs):=
 if is T wInput s then some (⟨1,(rhead T (up s)).1.1.at_,(rhead T (up s)).1.1.t,(rhead T (up s)).1.2,(rnumber T 1 1000000 (take T wEvery (rhead T (up s)).2)).1,[],0⟩,take T sSemi (rnumber T 1 1000000 (take T wEvery (rhead T (up s)).2)).2)
 else if is T wOutput s then (rnames T n [] (up s)).map fun x=>(⟨2,(now T s).at_,[],0,0,x.1,0⟩,take T sSemi x.2)
 else (rx T n 0 0 (take T sIs (rhead T s).2)).map fun x=>(⟨3,(rhead T s).1.1.at_,(rhead T s).1.1.t,(rhead T s).1.2,0,[],x.1⟩,take T sSemi x.2)
def Ri (T:List Tk) (s:Rs) (x:Im×Rs):Prop:=∃n,ritem T n s=some x
def rparse (T:List Tk) (len:Nat):Nat->List Im->Rs->Option (Bool×List Im×Rs)
 | 0,_,_=>none
 | n+1,I,s=>
  if s.fe≠0 then some (false,I,s)
  else if (now T s).e=0/\(now T s).at_=len then some (true,I,s)
  else if I.length=60 then some (false,I,fail T 4 s)
  else (ritem T n s).bind fun x=>rparse T len n (I++[x.1]) x.2
def Rp (T:List Tk) (len:Nat) (I:List Im) (s:Rs) (x:Bool×List Im×Rs):Prop:=∃n,rparse T len n I s=some x
theorem rnames_le {T:List Tk}:∀{n m:Nat},n<=m->∀{acc:List (Bytes×Nat)} {s:Rs} {x:List (Bytes×Nat)×Rs},rnames T n acc s=some x->rnames T m acc s=some x
 | 0,_,_,_,_,_,h=>by cases h
 | n+1,0,hm,_,_,_,_=>by omega
 | n+1,m+1,hm,acc,s,x,h=>by
  rw[rnames] at h ⊢
  by_cases c:is T sComma (rname T s).2=true
  ·rw[if_pos c] at h ⊢
   exact rnames_le (Nat.le_of_succ_le_succ hm) h
  ·rw[if_neg c] at h ⊢
   exact h
theorem ritem_le {T:List Tk} {n m:Nat} (hm:n<=m) {s:Rs} {x:Im×Rs} (h:ritem T n s=some x):ritem T m s=some x:=by
 unfold ritem at h ⊢
 by_cases c1:is T wInput s=true
 ·rw[if_pos c1] at h ⊢;exact h
 rw[if_neg c1] at h ⊢
 by_cases c2:is T wOutput s=true
 ·rw[if_pos c2] at h ⊢
  obtain⟨y,hy,rfl⟩:=oms h
  rw[rnames_le hm hy];rfl
 rw[if_neg c2] at h ⊢
 obtain⟨y,hy,rfl⟩:=oms h
 rw[rx_le hm hy];rfl
theorem rparse_le {T:List Tk} {len:Nat}:∀{n m:Nat},n<=m->∀{I:List Im} {s:Rs} {x:Bool×List Im×Rs},rparse T len n I s=some x->rparse T len m I s=some x
 | 0,_,_,_,_,_,h=>by cases h
 | n+1,0,hm,_,_,_,_=>by omega
 | n+1,m+1,hm,I,s,x,h=>by
  rw[rparse] at h ⊢
  by_cases c1:s.fe≠0
  ·rw[if_pos c1] at h ⊢;exact h
  rw[if_neg c1] at h ⊢
  by_cases c2:(now T s).e=0/\(now T s).at_=len
  ·rw[if_pos c2] at h ⊢;exact h
  rw[if_neg c2] at h ⊢
  by_cases c3:I.length=60
  ·rw[if_pos c3] at h ⊢;exact h
  rw[if_neg c3] at h ⊢
  obtain⟨y,hy,h⟩:=obs h
  rw[ritem_le (Nat.le_of_succ_le_succ hm) hy]
  exact rparse_le (Nat.le_of_succ_le_succ hm) h
theorem Ri.unique {T:List Tk} {s:Rs} {x y:Im×Rs} (h:Ri T s x) (k:Ri T s y):x=y:=by
 obtain⟨n,h⟩:=h
 obtain⟨m,k⟩:=k
 exact osi ((ritem_le (Nat.le_max_left n m) h).symm.trans (ritem_le (Nat.le_max_right n m) k))
theorem Rp.unique {T:List Tk} {len:Nat} {I:List Im} {s:Rs} {x y:Bool×List Im×Rs} (h:Rp T len I s x) (k:Rp T len I s y):x=y:=by
 obtain⟨n,h⟩:=h
 obtain⟨m,k⟩:=k
 exact osi ((rparse_le (Nat.le_max_left n m) h).symm.trans (rparse_le (Nat.le_max_right n m) k))
theorem ri_in {T:List Tk} {s:Rs} (h:is T wInput s=true):Ri T s (⟨1,(rhead T (up s)).1.1.at_,(rhead T (up s)).1.1.t,(rhead T (up s)).1.2,(rnumber T 1 1000000 (take T wEvery (rhead T (up s)).2)).1,[],0⟩,take T sSemi (rnumber T 1 1000000 (take T wEvery (rhead T (up s)).2)).2):=
 ⟨0,by unfold ritem;rw[if_pos h]⟩
theorem ri_out {T:List Tk} {s:Rs} (h:is T wInput s=false) (k:is T wOutput s=true) {n:Nat} {x:List (Bytes×Nat)×Rs} (hx:rnames T n [] (up s)=some x):Ri T s (⟨2,(now T s).at_,[],0,0,x.1,0⟩,take T sSemi x.2):=
 ⟨n,by unfold ritem;rw[if_neg (by rw[h];decide),if_pos k,hx];rfl⟩
theorem ri_eq {T:List Tk} {s:Rs} (h:is T wInput s=false) (k:is T wOutput s=false) {x:Nat×Rs} (hx:Rx T 0 0 (take T sIs (rhead T s).2) x):Ri T s (⟨3,(rhead T s).1.1.at_,(rhead T s).1.1.t,(rhead T s).1.2,0,[],x.1⟩,take T sSemi x.2):=by
 obtain⟨n,hx⟩:=hx
 exact⟨n,by unfold ritem;rw[if_neg (by rw[h];decide),if_neg (by rw[k];decide),hx];rfl⟩
theorem rp_bad {T:List Tk} {len:Nat} {I:List Im} {s:Rs} (h:s.fe≠0):Rp T len I s (false,I,s):=⟨1,by rw[rparse,if_pos h]⟩
theorem rp_end {T:List Tk} {len:Nat} {I:List Im} {s:Rs} (h:s.fe=0) (k:(now T s).e=0/\(now T s).at_=len):Rp T len I s (true,I,s):=⟨1,by rw[rparse,if_neg (by omega),if_pos k]⟩
theorem rp_many {T:List Tk} {len:Nat} {I:List Im} {s:Rs} (h:s.fe=0) (k:¬((now T s).e=0/\(now T s).at_=len)) (j:I.length=60):Rp T len I s (false,I,fail T 4 s):=⟨1,by rw[rparse,if_neg (by omega),if_neg k,if_pos j]⟩
theorem rp_go {T:List Tk} {len:Nat} {I:List Im} {s:Rs} (h:s.fe=0) (k:¬((now T s).e=0/\(now T s).at_=len)) (j:I.length≠60) {x:Im×Rs} (hx:Ri T s x) {y:Bool×List Im×Rs} (hy:Rp T len (I++[x.1]) x.2 y):Rp T len I s y:=by
 obtain⟨n,hx⟩:=hx
 obtain⟨m,hy⟩:=hy
 refine⟨max n m+1,?_⟩
 rw[rparse,if_neg (by omega),if_neg k,if_neg j,ritem_le (Nat.le_max_left n m) hx]
 exact rparse_le (Nat.le_max_right n m) hy
theorem names_pays {T:List Tk}:∀{n:Nat} {acc:List (Bytes×Nat)} {s:Rs} {x:List (Bytes×Nat)×Rs},rnames T n acc s=some x->Pays s x.2/\x.1.length+s.p<=x.2.p+1+acc.length
 | 0,_,_,_,h=>by cases h
 | n+1,acc,s,x,h=>by
  rw[rnames] at h
  have p0:=pays_name T s
  by_cases c:is T sComma (rname T s).2=true
  ·rw[if_pos c] at h
   obtain⟨q1,q2⟩:=names_pays h
   obtain⟨u1,u2,_⟩:=pays_up (rname T s).2
   refine⟨(p0.trans u1).trans q1,?_⟩
   rw[List.length_append,List.length_singleton] at q2
   have:=p0.1
   omega
  ·rw[if_neg c] at h
   obtain rfl:=osi h
   refine⟨p0,?_⟩
   show (acc++_).length+s.p<=_
   rw[List.length_append,List.length_singleton]
   have:=p0.1
   show _<=(rname T s).2.p+1+_
   omega
theorem pays_head (T:List Tk) (s:Rs):Pays s (rhead T s).2:=((pays_name T s).trans (pays_take T sColon _)).trans (pays_typed T _)
theorem Ri.pays {T:List Tk} {s:Rs} {x:Im×Rs} (h:Ri T s x):Pays s x.2:=by
 obtain⟨n,h⟩:=h
 unfold ritem at h
 by_cases c1:is T wInput s=true
 ·rw[if_pos c1] at h
  obtain rfl:=osi h
  exact ((((pays_up s).1.trans (pays_head T _)).trans (pays_take T wEvery _)).trans (pays_number T 1 1000000 _)).trans (pays_take T sSemi _)
 rw[if_neg c1] at h
 by_cases c2:is T wOutput s=true
 ·rw[if_pos c2] at h
  obtain⟨y,hy,rfl⟩:=oms h
  exact (((pays_up s).1).trans (names_pays hy).1).trans (pays_take T sSemi _)
 rw[if_neg c2] at h
 obtain⟨y,hy,rfl⟩:=oms h
 exact (((pays_head T s).trans (pays_take T sIs _)).trans (rx_pays T n 0 0 _ _ hy)).trans (pays_take T sSemi _)
end Ref
end
section
open Go.RowKit
structure Iw where
 im:Ref.Im
 nv:Value
 pv:Value
def imCells (x:Iw):List Value:=[.int .i64 (x.im.kind:Nat),.int .i64 (x.im.at_:Nat),.string (bs x.im.name),.int .i64 (x.im.type:Nat),.int .i64 (x.im.period:Nat),x.nv,x.pv,.int .i64 (x.im.expr:Nat)]
abbrev ims (I:List Iw):List Value:=I.flatMap imCells
abbrev nms (l:List (Mil.Bytes×Nat)):List Value:=l.map fun x=>Value.string (bs x.1)
abbrev pls (l:List (Mil.Bytes×Nat)):List Value:=l.map fun x=>Value.int .i64 (x.2:Nat)
structure IM (B b g:Nat) (tv:Value) (I:List Iw) (iv nv:Value) (w:World):Prop where
 own:w.ownsRow B 122 8 iv I.length (ims I)
 ib:∀k,iv.ownBlock=some k->k≠b/\k≠g/\tv.ownBlock≠some k/\nv.ownBlock≠some k
 nms:∀x,x∈I->w.ownsRow B 9 1 x.nv x.im.names.length (nms x.im.names)/\w.ownsRow B 3 1 x.pv x.im.names.length (pls x.im.names)
 nb:∀x,x∈I->∀k,x.nv.ownBlock=some k\/x.pv.ownBlock=some k->k≠b/\k≠g/\tv.ownBlock≠some k/\nv.ownBlock≠some k/\iv.ownBlock≠some k
theorem IM.kept {B b g:Nat} {tv:Value} {I:List Iw} {iv nv nv':Value} {w w':World} (h:IM B b g tv I iv nv w) (f:Fr b g w nv w' nv'):IM B b g tv I iv nv' w':=by
 have other:∀k,k < w.heap.size->nv.ownBlock≠some k->nv'.ownBlock≠some k:=fun k h1 h2 e=>by
  rcases f.row k e with r|r
  ·exact h2 r
  ·omega
 have blk:∀k,k < w.heap.size->k≠b->k≠g->nv.ownBlock≠some k->w'.heap[k]?=w.heap[k]?:=f.block
 refine⟨own_kept h.own (fun k hk=>?_),fun k hk=>?_,fun x hx=>⟨own_kept (h.nms x hx).1 (fun k hk=>?_),own_kept (h.nms x hx).2 (fun k hk=>?_)⟩,fun x hx k hk=>?_⟩
 ·obtain⟨a1,a2,_,a4⟩:=h.ib k hk
  exact blk k (h.own.lt k hk).2 a1 a2 a4
 ·obtain⟨a1,a2,a3,a4⟩:=h.ib k hk
  exact⟨a1,a2,a3,other k (h.own.lt k hk).2 a4⟩
 ·obtain⟨a1,a2,_,a4,_⟩:=h.nb x hx k (Or.inl hk)
  exact blk k ((h.nms x hx).1.lt k hk).2 a1 a2 a4
 ·obtain⟨a1,a2,_,a4,_⟩:=h.nb x hx k (Or.inr hk)
  exact blk k ((h.nms x hx).2.lt k hk).2 a1 a2 a4
 ·obtain⟨a1,a2,a3,a4,a5⟩:=h.nb x hx k hk
  refine⟨a1,a2,a3,other k ?_ a4,a5⟩
  rcases hk with hk|hk
  ·exact ((h.nms x hx).1.lt k hk).2
  ·exact ((h.nms x hx).2.lt k hk).2
end
section
open Go.RowKit
structure Fi (b g:Nat) (w:World) (iv nv:Value) (w':World) (iv' nv':Value):Prop where
 os:w'.os=w.os
 tape:w'.tape=w.tape
 output:w'.output=w.output
 size:w.heap.size<=w'.heap.size
 row:∀k,nv'.ownBlock=some k->nv.ownBlock=some k\/w.heap.size<=k
 items:∀k,iv'.ownBlock=some k->iv.ownBlock=some k\/w.heap.size<=k
 block:∀k,k < w.heap.size->k≠b->k≠g->nv.ownBlock≠some k->iv.ownBlock≠some k->w'.heap[k]?=w.heap[k]?
def ItemPost (B b g:Nat) (T:List Ref.Tk) (tv:Value) (I:List Iw) (iv nv:Value) (w:World) (s:Ref.Rs) (r:Ending) (w':World):Prop:=
 r=.returned (.tuple #[])/\∃y s' iv' nv',Ref.Ri T s (y.im,s')/\RM B b g T tv iv' s' nv' w'/\IM B b g tv (I++[y]) iv' nv' w'/\Fi b g w iv nv w' iv' nv'
theorem is_other {T:List Ref.Tk} {s:Ref.Rs} {x y:Mil.Bytes} (h:Ref.is T x s=true) (hn:x≠y):Ref.is T y s=false:=by
 unfold Ref.is at h ⊢
 cases hy:(Ref.now T s).t==y
 ·simp
 ·exfalso
  have h1:(Ref.now T s).t=y:=by simpa using hy
  rw[h1] at h
  simp only[Bool.and_eq_true,beq_iff_eq] at h
  exact hn h.1.2.symm
theorem Tryz.infoItem:(Tryz.prog.info? 122).map (fun i=>(i.zero,i.size,i.bytes))=some (some (.agg #[.int .i64 0,.int .i64 0,.string ⟨#[]⟩,.int .i64 0,.int .i64 0,.slice none 0 0,.slice none 0 0,.int .i64 0]),8,104):=by kernel_rfl
abbrev imA (y:Iw):Array Value:=#[.int .i64 (y.im.kind:Nat),.int .i64 (y.im.at_:Nat),.string (bs y.im.name),.int .i64 (y.im.type:Nat),.int .i64 (y.im.period:Nat),y.nv,y.pv,.int .i64 (y.im.expr:Nat)]
theorem im_one (y:Iw) (h1:y.nv.oneCell'=true) (h2:y.pv.oneCell'=true):∀u∈imCells y,u.oneCell'=true:=by
 intro u hu
 simp[imCells] at hu
 rcases hu with rfl|rfl|rfl|rfl|rfl|rfl|rfl|rfl <;> first|rfl|assumption
theorem after_items {B b g:Nat} {T:List Ref.Tk} {tv iv:Value} {s:Ref.Rs} {nv:Value} {I:List Iw} {w w7:World} {o:Option Addr} {c:Nat} (h:RM B b g T tv iv s nv w) (hm:IM B b g tv I iv nv w) (hv:iv=.slice o I.length c) (hg:w.grownBy w7 (Value.slice o I.length c).ownBlock) :
  w7.cell? ⟨b,2,none⟩=some (.pointer (some ⟨g,0,none⟩))/\w7.cell? ⟨g,0,none⟩=some (.slice o I.length c)/\∀k,w7.frozen? ⟨g,k,none⟩=false:=by
 rw[<-hv] at hg ⊢
 have e1:w7.heap[b]?=w.heap[b]?:=hg.block b (ags h.rd).1 (fun e=>(hm.ib b e.symm).1 rfl)
 have e2:w7.heap[g]?=w.heap[g]?:=hg.block g (ags h.pr).1 (fun e=>(hm.ib g e.symm).2.1 rfl)
 refine⟨?_,?_,fun k=>?_⟩
 ·rw[cor w7 _ 2 _ _ _ (e1.trans h.rd)];rfl
 ·rw[cor w7 _ 0 _ _ _ (e2.trans h.pr)];rfl
 ·unfold World.frozen?;rw[e2.trans h.pr];simp
theorem items_end {B b g:Nat} {T:List Ref.Tk} {tv iv:Value} {s:Ref.Rs} {nv n0:Value} {I:List Iw} {y:Iw} {w W w7:World} {o:Option Addr} {c k c7:Nat} (h1:RM B b g T tv iv s nv W) (hm:IM B b g tv I iv nv W) (hF:Fr b g w n0 W nv) (hv:iv=.slice o I.length c)
  (hy:W.ownsRow B 9 1 y.nv y.im.names.length (nms y.im.names)/\W.ownsRow B 3 1 y.pv y.im.names.length (pls y.im.names))
  (hyb:∀k,y.nv.ownBlock=some k\/y.pv.ownBlock=some k->k≠b/\k≠g/\tv.ownBlock≠some k/\nv.ownBlock≠some k/\iv.ownBlock≠some k)
  (O7:w7.ownsRow B 122 8 (.slice (some ⟨k,0,none⟩) (I.length+1) c7) (I.length+1) (ims I++imCells y)) (hg:W.grownBy w7 (Value.slice o I.length c).ownBlock) (hat:(Value.slice o I.length c).ownBlock=some k\/k=W.heap.size) :
  RM B b g T tv (.slice (some ⟨k,0,none⟩) (I.length+1) c7) s nv (w7.setCell ⟨g,0,none⟩ (.slice (some ⟨k,0,none⟩) (I.length+1) c7))/\IM B b g tv (I++[y]) (.slice (some ⟨k,0,none⟩) (I.length+1) c7) nv (w7.setCell ⟨g,0,none⟩ (.slice (some ⟨k,0,none⟩) (I.length+1) c7)) /\
  Fi b g w iv n0 (w7.setCell ⟨g,0,none⟩ (.slice (some ⟨k,0,none⟩) (I.length+1) c7)) (.slice (some ⟨k,0,none⟩) (I.length+1) c7) nv:=by
 rw[<-hv] at hg hat
 have lb:=(ags h1.rd).1
 have lg:=(ags h1.pr).1
 have kb:k≠b/\k≠g/\tv.ownBlock≠some k/\nv.ownBlock≠some k:=by
  rcases hat with hk|hk
  ·exact hm.ib k hk
  ·refine⟨by omega,by omega,fun e=>?_,fun e=>?_⟩
   ·have:=(h1.tok.lt k e).2
    omega
   ·have:=(h1.nod.lt k e).2
    omega
 have oth:∀j,j≠g->(w7.setCell ⟨g,0,none⟩ (.slice (some ⟨k,0,none⟩) (I.length+1) c7)).heap[j]?=w7.heap[j]?:=fun j hj=>bhs w7 ⟨g,0,none⟩ _ j hj
 have gr:∀j,j < W.heap.size->iv.ownBlock≠some j->w7.heap[j]?=W.heap[j]?:=fun j h1 h2=>hg.block j h1 (fun e=>h2 e.symm)
 have e2:w7.heap[g]?=some (.cells #[iv,nv] 100 (0,0)):=(gr g lg (fun e=>(hm.ib g e).2.1 rfl)).trans h1.pr
 have ky:∀j,(Value.slice (some ⟨k,0,none⟩) (I.length+1) c7).ownBlock=some j->k=j:=fun j hj=>by simpa [Value.ownBlock] using hj
 have all:∀x,x∈I++[y]->(W.ownsRow B 9 1 x.nv x.im.names.length (nms x.im.names)/\W.ownsRow B 3 1 x.pv x.im.names.length (pls x.im.names))/\∀k,x.nv.ownBlock=some k\/x.pv.ownBlock=some k->k≠b/\k≠g/\tv.ownBlock≠some k/\nv.ownBlock≠some k/\iv.ownBlock≠some k:=by
  intro x hx
  rcases List.mem_append.1 hx with hx|hx
  ·exact⟨hm.nms x hx,hm.nb x hx⟩
  ·obtain rfl:=List.mem_singleton.1 hx
   exact⟨hy,hyb⟩
 refine⟨⟨?_,?_,?_,?_,h1.hb,h1.hg,h1.bg,h1.tb,h1.nb,h1.lt,h1.wf⟩,⟨?_,?_,?_,?_⟩,⟨?_,?_,?_,?_,hF.row,?_,?_⟩⟩
 ·exact (oth b h1.bg).trans ((gr b lb (fun e=>(hm.ib b e).1 rfl)).trans h1.rd)
 ·show (w7.heap.modify g _)[g]?=_
  rw[Array.getElem?_modify,if_pos rfl,e2];rfl
 ·exact own_kept h1.tok (fun j hj=>(oth j (h1.tb j hj).2).trans (gr j (h1.tok.lt j hj).2 (fun e=>(hm.ib j e).2.2.1 hj)))
 ·exact own_kept h1.nod (fun j hj=>(oth j (h1.nb j hj).2.1).trans (gr j (h1.nod.lt j hj).2 (fun e=>(hm.ib j e).2.2.2 hj)))
 ·have:ims (I++[y])=ims I++imCells y:=by simp[ims]
  rw[this,List.length_append]
  exact own_kept O7 (fun j hj=>by
   obtain rfl:=ky j hj
   exact oth k kb.2.1)
 ·intro j hj
  obtain rfl:=ky j hj
  exact kb
 ·intro x hx
  obtain⟨⟨a1,a2⟩,a3⟩:=all x hx
  refine⟨own_kept a1 (fun j hj=>?_),own_kept a2 (fun j hj=>?_)⟩
  ·obtain⟨_,c2,_,_,c5⟩:=a3 j (Or.inl hj)
   exact (oth j c2).trans (gr j (a1.lt j hj).2 c5)
  ·obtain⟨_,c2,_,_,c5⟩:=a3 j (Or.inr hj)
   exact (oth j c2).trans (gr j (a2.lt j hj).2 c5)
 ·intro x hx j hj
  obtain⟨⟨a1,a2⟩,a3⟩:=all x hx
  obtain⟨c1,c2,c3,c4,c5⟩:=a3 j hj
  refine⟨c1,c2,c3,c4,fun e=>?_⟩
  obtain rfl:=ky j e
  rcases hat with hk|hk
  ·exact c5 hk
  ·rcases hj with hj|hj
   ·have:=(a1.lt k hj).2
    omega
   ·have:=(a2.lt k hj).2
    omega
 ·exact hg.os.trans hF.os
 ·exact hg.tape.trans hF.tape
 ·exact hg.output.trans hF.output
 ·have:=hg.size
  have:=hF.size
  simp
  omega
 ·intro j hj
  obtain rfl:=ky j hj
  rcases hat with hk|hk
  ·exact Or.inl hk
  ·exact Or.inr (by have:=hF.size;omega)
 ·intro j h2 h3 h4 h5 h6
  exact (oth j h4).trans ((gr j (Nat.lt_of_lt_of_le h2 hF.size) h6).trans (hF.block j h2 h3 h4 h5))
end
section
open Go
section
variable {P:Program} {ops:Array Oper} {Q:Exit->Act->World->Prop} {md:Region.Mode} {S:World->Prop} {l:Nat}
def wpAnyL (P:Program) (md:Region.Mode) (ops:Array Oper) (Q:Exit->Act->World->Prop) (S:World->Prop) (l:Nat):Nat->Array Bool->Act->World->Prop
 | 0,listed,a,w=>Region.ready md ops listed=[]/\Q .normal a w
 | fuel+1,listed,a,w=>
  (Region.ready md ops listed=[]->Q .normal a w) /\
  ∀i∈Region.ready md ops listed,wpOp P ops Q i (fun a' w'=>(i=l\/S w')/\wpAnyL P md ops Q S l fuel (listed.setIfInBounds i true) a' w') a w
theorem wpAny_of_L:∀(fuel:Nat) (listed:Array Bool) (a:Act) (w:World),wpAnyL P md ops Q S l fuel listed a w->wpAny P md ops Q fuel listed a w
 | 0,_,_,_,h=>h
 | fuel+1,_,_,_,h=>⟨h.1,fun i hi=>wpOp_mono (fun a' w' h'=>wpAny_of_L fuel _ a' w' h'.2) (h.2 i hi)⟩
theorem wpAnyL_first {i:Nat} {oi ol:Oper} {v:Value} (hi:ops[i]?=some oi) (hol:ops[l]?=some ol) (hle:∃e∈ol.after,Region.binds md e=true/\e.on=i) (hsel:∀(j:Nat) (o:Oper) cs b,ops[j]?=some o->o.op≠.select cs b)
  (hQ:∀c a w,Q (.panic c) (a.put oi.dst v) w->Q (.panic c) a w) :
  ∀(fuel:Nat) (listed:Array Bool) (a:Act) (w:World),
   (∀j oj,ops[j]?=some oj->j≠i->listed.getD j true=false->(∀e∈oj.after,Region.binds md e=true->e.on≠i)->oi.apart ops oj=true) ->
   i∈Region.ready md ops listed->YieldsIf P ops S oi v a->S w ->
   wpAnyL P md ops Q S l fuel (listed.setIfInBounds i true) (a.put oi.dst v) w->wpAnyL P md ops Q S l (fuel+1) listed a w:=by
 intro fuel
 induction fuel with
 | zero=>
  intro listed a w _ hr hy hS H
  refine⟨fun h=>(by rw[h] at hr;cases hr),fun j hj=>?_⟩
  by_cases hji:j=i
  ·subst hji;exact hy.wpOp hi hS ⟨Or.inr hS,H⟩
  ·have:=ready_mono hj hji
   rw[H.1] at this
   cases this
 | succ fuel ih=>
  intro listed a w hfree hr hy hS H
  refine⟨fun h=>(by rw[h] at hr;cases hr),fun j hj=>?_⟩
  by_cases hji:j=i
  ·subst hji;exact hy.wpOp hi hS ⟨Or.inr hS,H⟩
  ·have h1:=H.2 j (ready_mono hj hji)
   obtain⟨hjun,oj,hoj,hall⟩:=mem_ready.1 hj
   have hnot:∀e∈oj.after,Region.binds md e=true->e.on≠i:=fun e he hb heq=>by
    have h1:=hall e he hb
    have h0:=(mem_ready.1 hr).1
    rw[heq] at h1
    rcases Nat.lt_or_ge i listed.size with h'|h'
    ·simp[h'] at h0 h1;rw[h0] at h1;cases h1
    ·simp[Array.getElem?_eq_none h'] at h1
   have hjl:j≠l:=fun e=>by
    subst e
    rw[hol] at hoj
    obtain rfl:=Option.some.inj hoj
    obtain⟨e,he,hb,hon⟩:=hle
    exact hnot e he hb hon
   have h2:=wpOp_putIf hoj (hfree j oj hoj hji hjun hnot) (fun cs b=>hsel i oi cs b hi) (fun cs b=>hsel j oj cs b hoj) hQ hy h1
   have hfree':∀k ok,ops[k]?=some ok->k≠i->(listed.setIfInBounds j true).getD k true=false ->
     (∀e∈ok.after,Region.binds md e=true->e.on≠i)->oi.apart ops ok=true:=fun k ok hk hki hun hno=>by
    refine hfree k ok hk hki ?_ hno
    by_cases hjk:j=k
    ·subst hjk;exact hjun
    ·rw[getD_set_ne true hjk] at hun;exact hun
   refine wpOp_mono (fun a' w' h3=>?_) h2
   have hSw:S w':=by
    rcases h3.2.1 with h|h
    ·exact absurd h hjl
    ·exact h
   refine⟨Or.inr hSw,ih (listed.setIfInBounds j true) a' w' hfree' (ready_mono hr (Ne.symm hji)) h3.1 hSw ?_⟩
   rw[Array.setIfInBounds_comm _ _ hji]
   exact h3.2.2
def waits (md:Region.Mode) (ops:Array Oper) (l i:Nat):Bool:=((ops[l]?).map (·.after.toList.any fun e=>Region.binds md e && e.on==i)).getD false
theorem waits_spec {i:Nat} (h:waits md ops l i=true):∃ol,ops[l]?=some ol/\∃e∈ol.after,Region.binds md e=true/\e.on=i:=by
 unfold waits at h
 cases ho:ops[l]? with
 | none=>rw[ho] at h;cases h
 | some ol=>
  rw[ho] at h
  have h':(ol.after.toList.any fun e=>Region.binds md e && e.on==i)=true:=h
  rw[List.any_eq_true] at h'
  obtain⟨e,he,hb⟩:=h'
  rw[Bool.and_eq_true,beq_iff_eq] at hb
  exact⟨ol,rfl,e,Array.mem_toList_iff.1 he,hb⟩
theorem wpAnyL_take {i:Nat} {oi:Oper} {v:Value} {fuel:Nat} {listed:Array Bool} {a:Act} {w:World} (hi:ops[i]?=some oi) (hl:waits md ops l i=true)
  (hs:Region.noSelect ops=true) (hf:Region.free md ops listed i=true) (hr:(Region.ready md ops listed).contains i=true)
  (hQ:∀c a w,Q (.panic c) (a.put oi.dst v) w->Q (.panic c) a w) (hy:YieldsIf P ops S oi v a) (hS:S w)
  (h:wpAnyL P md ops Q S l fuel (listed.setIfInBounds i true) (a.put oi.dst v) w):wpAnyL P md ops Q S l (fuel+1) listed a w:=by
 obtain⟨ol,ho,hle⟩:=waits_spec hl
 exact wpAnyL_first hi ho hle (Region.noSelect_spec hs) hQ fuel listed a w (Region.free_spec hi hf) (by simpa using hr) hy hS h
theorem wpAnyL_one {i:Nat} {o:Oper} {fuel:Nat} {listed:Array Bool} {a:Act} {w:World} (hr:Region.ready md ops listed=[i]) (ho:ops[i]?=some o)
  (h:∀K':Act->World->Prop,Shut (∀a w,(i=l\/S w)->((i=l\/S w)->wpAnyL P md ops Q S l fuel (listed.setIfInBounds i true) a w)->K' a w)->if Region.wanted o (yielded ops a.tmps)=true then Oper.wp P o a w K' Q else K' (a.put o.dst undef) w) :
  wpAnyL P md ops Q S l (fuel+1) listed a w:=by
 refine⟨fun e=>(by rw[hr] at e;cases e),fun j hj=>?_⟩
 rw[hr] at hj
 obtain rfl:=List.mem_singleton.1 hj
 exact wpOp_step ho (fun K' hK=>h K' (fun a w hS hW=>hK a w ⟨hS,hW hS⟩))
theorem wpAnyL_done {listed:Array Bool} {a:Act} {w:World} (hr:Region.ready md ops listed=[]) (h:Q .normal a w) :
  ∀fuel,wpAnyL P md ops Q S l fuel listed a w
 | 0=>⟨hr,h⟩
 | _+1=>⟨fun _=>h,by rw[hr];simp⟩
theorem wp_region_L {id:Nat} {a:Act} {w:World} (S:World->Prop) (l:Nat) (hm:P.follows .mixedOrders=true) (hS:S w.drew)
  (h:S w.drew->wpAnyL P .any ops Q S l ops.size (Array.replicate ops.size false) a w.drew):(Code.region id ops true).wp P Q a w:=
 wp_region_any hm (wpAny_of_L _ _ _ _ (h hS))
end
end
end Go.Proofs.YtoiajojadihpbaaGreatDoor
