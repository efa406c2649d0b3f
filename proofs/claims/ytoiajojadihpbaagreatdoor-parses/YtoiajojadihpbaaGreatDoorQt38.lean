import Derived.Test.YtoiajojadihpbaaGreatDoorQt08
import Derived.Test.YtoiajojadihpbaaGreatDoorQt33
import Derived.Test.YtoiajojadihpbaaGreatDoorQt27
import Derived.Test.YtoiajojadihpbaaGreatDoorQt07
namespace Go.Proofs.YtoiajojadihpbaaGreatDoor
set_option maxHeartbeats 8000000
set_option maxRecDepth 100000
section
namespace Ref
open Mil
def fate (T:List Tk) (s:Rs):Nat×Nat:=if s.fe≠0 then (s.fe,s.fa) else ((now T s).e,(now T s).at_)
def Dm (T:List Tk) (f:Nat×Nat) (s:Rs):Prop:=Doom T s/\fate T s=f
theorem Dm.ne {T:List Tk} {f:Nat×Nat} {s:Rs} (h:Dm T f s):f.1≠0:=by
 obtain⟨d,rfl⟩:=h
 unfold fate
 by_cases c:s.fe≠0
 ·rw[if_pos c];exact c
 ·rw[if_neg c]
  rcases d with d|d
  ·exact absurd d c
  ·exact d
theorem fail_dm {T:List Tk} {f:Nat×Nat} {s:Rs} (e:Nat) (h:Dm T f s):(fail T e s).fe=f.1/\(fail T e s).fa=f.2:=by
 obtain⟨d,rfl⟩:=h
 unfold fail fate
 by_cases c:s.fe≠0
 ·rw[if_pos c,if_pos c];exact⟨rfl,rfl⟩
 ·have c2:(now T s).e≠0:=by
   rcases d with d|d
   ·exact absurd d c
   ·exact d
  rw[if_neg c,if_neg c,if_pos c2];exact⟨rfl,rfl⟩
theorem dm_of {T:List Tk} {f:Nat×Nat} {s:Rs} (h0:f.1≠0) (h1:s.fe=f.1) (h2:s.fa=f.2):Dm T f s:=by
 refine⟨Or.inl (by rw[h1];exact h0),?_⟩
 unfold fate
 rw[if_pos (by rw[h1];exact h0),h1,h2]
theorem dm_fail {T:List Tk} {f:Nat×Nat} {s:Rs} (e:Nat) (h:Dm T f s):Dm T f (fail T e s):=dm_of h.ne (fail_dm e h).1 (fail_dm e h).2
theorem dm_take {T:List Tk} {f:Nat×Nat} {s:Rs} {x:Bytes} (h:Dm T f s):Dm T f (take T x s):=by
 unfold take
 rw[doom_is h.1 x]
 exact dm_fail 3 h
theorem dm_name {T:List Tk} {f:Nat×Nat} {s:Rs} (h:Dm T f s):Dm T f (rname T s).2:=by
 unfold rname
 rw[if_neg (fun k=>by rcases h.1 with d|d;exact d k.1;exact d k.2.1)]
 exact dm_fail 3 h
theorem dm_number {T:List Tk} {f:Nat×Nat} {s:Rs} {lo hi:Nat} (h:Dm T f s):Dm T f (rnumber T lo hi s).2:=by
 unfold rnumber
 rw[if_neg (fun k=>by rcases h.1 with d|d;exact d k.1;exact d k.2.1)]
 exact dm_fail 3 h
theorem dm_typed {T:List Tk} {f:Nat×Nat} {s:Rs} (h:Dm T f s):Dm T f (rtyped T s).2:=by
 unfold rtyped
 rw[doom_is h.1]
 exact dm_take h
theorem dm_node {T:List Tk} {f:Nat×Nat} {s:Rs} (n:Nd) (h:Dm T f s):Dm T f (node n s).2:=h
theorem dm_const {T:List Tk} {f:Nat×Nat} {s:Rs} (h:Dm T f s):Dm T f (rconst T s).2:=by
 unfold rconst
 rw[doom_is h.1,doom_is h.1,doom_is h.1]
 exact dm_node _ (dm_number h)
theorem dm_atom {T:List Tk} {f0:Nat×Nat} {f:Nat->Nat->Rs->Option (Nat×Rs)} {s:Rs} {x:Nat×Rs} (h:ratom T f s=some x) (d:Dm T f0 s):Dm T f0 x.2:=by
 unfold ratom at h
 by_cases c1:s.fe≠0
 ·rw[if_pos c1] at h
  obtain rfl:=osi h;exact d
 ·have c2:(now T s).e≠0:=by
   rcases d.1 with d|d
   ·exact absurd d c1
   ·exact d
  rw[if_neg c1,if_neg (fun h=>c2 h.1),if_neg (fun h=>c2 h.1),if_pos c2] at h
  obtain rfl:=osi h
  exact dm_fail 3 d
theorem dm_rx {T:List Tk} {f:Nat×Nat}:∀{n t l:Nat} {s:Rs} {x:Nat×Rs},rx T n t l s=some x->Dm T f s->Dm T f x.2
 | 0,_,_,_,_,h,_=>by cases h
 | n+1,t,l,s,x,h,d=>by
  have ih:=fun {t l:Nat} {s:Rs} {x:Nat×Rs}=>dm_rx (T:=T) (f:=f) (n:=n) (t:=t) (l:=l) (s:=s) (x:=x)
  rw[rx,rstep] at h
  rw[doom_is d.1,doom_is d.1,doom_is d.1] at h
  by_cases t0:t=0
  ·rw[if_pos t0] at h
   exact ih h d
  rw[if_neg t0] at h
  by_cases t8:t=8
  ·rw[if_pos t8] at h
   exact dm_atom h d
  rw[if_neg t8] at h
  by_cases t7:t=7
  ·rw[if_pos t7] at h
   exact ih h d
  rw[if_neg t7] at h
  by_cases t3:t=3
  ·rw[if_pos t3] at h
   exact ih h d
  rw[if_neg t3] at h
  by_cases tl:t < 8
  ·rw[if_pos tl] at h
   obtain⟨y,hy,h⟩:=obs h
   exact ih h (ih hy d)
  rw[if_neg tl,if_neg (fun h=>by rcases d.1 with d|d;exact d h.1;exact d h.2.1)] at h
  obtain rfl:=osi h
  exact d
theorem dm_names {T:List Tk} {f:Nat×Nat}:∀{n:Nat} {acc:List (Bytes×Nat)} {s:Rs} {x:List (Bytes×Nat)×Rs},rnames T n acc s=some x->Dm T f s->Dm T f x.2
 | 0,_,_,_,h,_=>by cases h
 | n+1,acc,s,x,h,d=>by
  have d1:=dm_name d
  rw[rnames,doom_is d1.1,if_neg (by decide)] at h
  obtain rfl:=osi h
  exact d1
theorem dm_head {T:List Tk} {f:Nat×Nat} {s:Rs} (h:Dm T f s):Dm T f (rhead T s).2:=dm_typed (dm_take (dm_name h))
theorem dm_item {T:List Tk} {f:Nat×Nat} {n:Nat} {s:Rs} {x:Im×Rs} (h:ritem T n s=some x) (d:Dm T f s):Dm T f x.2:=by
 unfold ritem at h
 rw[doom_is d.1,doom_is d.1,if_neg (by decide),if_neg (by decide)] at h
 obtain⟨y,hy,rfl⟩:=oms h
 exact dm_take (dm_rx hy (dm_take (dm_head d)))
theorem dm_parse {T:List Tk} {len:Nat} {f:Nat×Nat}:∀{n:Nat} {I:List Im} {s:Rs} {x:Bool×List Im×Rs},rparse T len n I s=some x->Dm T f s->x.1=false/\x.2.2.fe=f.1/\x.2.2.fa=f.2
 | 0,_,_,_,h,_=>by cases h
 | n+1,I,s,x,h,d=>by
  rw[rparse] at h
  by_cases c1:s.fe≠0
  ·rw[if_pos c1] at h
   obtain rfl:=osi h
   have e:=d.2
   unfold fate at e
   rw[if_pos c1] at e
   rw[<-e]
   exact⟨rfl,rfl,rfl⟩
  have c2:(now T s).e≠0:=by
   rcases d.1 with d|d
   ·exact absurd d c1
   ·exact d
  rw[if_neg c1,if_neg (fun h=>c2 h.1)] at h
  by_cases c3:I.length=60
  ·rw[if_pos c3] at h
   obtain rfl:=osi h
   exact⟨rfl,fail_dm 4 d⟩
  rw[if_neg c3] at h
  obtain⟨y,hy,h⟩:=obs h
  exact dm_parse h (dm_item hy d)
def Sy (b:Bytes) (T:List Tk) (s:Rs) (st:St):Prop:=Sync b T s st/\((now T s).at_:Int)=hereAt b.length st
def Lk {α:Type} (g:α->St) (b:Bytes) (T:List Tk) (s:Rs) (r:Rz α):Prop:=
 match r with
 | some (.ok x)=>Sy b T s (g x)
 | some (.error e)=>∃f:Nat×Nat,Dm T f s/\f.1=e.1/\(f.2:Int)=e.2
 | none=>False
theorem lk_bind {α β:Type} {g:α->St} {h:β->St} {b:Bytes} {T:List Tk} {r:Rz α} {f:α->Rz β} {s s':Rs} (k:Lk g b T s r) (ok:∀x,Sy b T s (g x)->Lk h b T s' (f x)) (dm:∀f,Dm T f s->Dm T f s'):Lk h b T s' (r.bind f):=by
 rcases r with _|(e|x)
 ·exact k.elim
 ·obtain⟨f,h1,h2⟩:=k
  exact⟨f,dm f h1,h2⟩
 ·exact ok x k
theorem lk_map {α β:Type} {g:α->St} {h:β->St} {b:Bytes} {T:List Tk} {r:Rz α} {f:α->β} {s:Rs} (k:Lk g b T s r) (e:∀x,h (f x)=g x):Lk h b T s (r.map f):=by
 rcases r with _|(e'|x)
 ·exact k
 ·exact k
 ·show Sy b T s (h (f x))
  rw[e];exact k
theorem lk_node {α:Type} {g:α->St} {b:Bytes} {T:List Tk} {r:Rz α} {s:Rs} (n:Nd) (k:Lk g b T s r):Lk g b T (node n s).2 r:=by
 rcases r with _|(e|x)
 ·exact k
 ·exact k
 ·exact k
theorem mark_at (i n:Nat) (t:Tk):(mark i n t).at_=t.at_:=by
 unfold mark
 split <;> rfl
theorem now_of {b:Bytes} {T:List Tk} {s:Rs} {q:Nat} (h:Sc b (T.drop s.p) s.p q):now T s=mark s.p b.length (rnext b q)/\s.p < T.length:=by
 cases hL:T.drop s.p with
 | nil=>rw[hL] at h;exact h.elim
 | cons t L=>
  rw[hL] at h
  have h0:(T.drop s.p)[0]?=some t:=by rw[hL];rfl
  rw[List.getElem?_drop,Nat.add_zero] at h0
  refine⟨?_,(lgs h0).1⟩
  unfold now
  rw[List.getD_eq_getElem?_getD,h0]
  exact h.1
theorem dm_now {T:List Tk} {s:Rs} (hf:s.fe=0) (he:(now T s).e≠0):Dm T ((now T s).e,(now T s).at_) s:=by
 refine⟨Or.inr he,?_⟩
 unfold fate
 rw[if_neg (fun k=>k hf)]
theorem lk_next {b:Bytes} {T:List Tk} (hT:T.length<=601) {s:Rs} {q:Nat} (hq:q<=b.length) (hf:s.fe=0) (h:Sc b (T.drop s.p) s.p q):Lk id b T s (advZ' b.length (b.drop q) s.p):=by
 have hs:=sync_of hT hq hf h
 obtain⟨hn,hlt⟩:=now_of h
 have hat:(rnext b q).at_=b.length - (skip false (b.drop q)).length:=(tokAt_len _ _).1
 have hna:(now T s).at_=b.length - (skip false (b.drop q)).length:=by rw[hn,mark_at];exact hat
 have l1:=skip_le false (b.drop q)
 have l2:(b.drop q).length=b.length - q:=by simp
 have hc:=cut_is (skip false (b.drop q)) (b.length - (skip false (b.drop q)).length)
 change match cut (skip false (b.drop q)) with|none=>(rnext b q).e=2|some x=>(rnext b q).e=0/\TokEq (rnext b q) x.1/\x.2=(skip false (b.drop q)).drop (rnext b q).t.length/\(x.1.kind=0↔skip false (b.drop q)=[]) at hc
 unfold adv' at hs
 unfold advZ'
 cases hk:cut (skip false (b.drop q)) with
 | none=>
  rw[hk] at hs hc
  have hc2:(rnext b q).e=2:=hc
  refine⟨_,dm_now hf hs,?_,?_⟩
  ·show (now T s).e=2
   rw[hn]
   unfold mark
   rw[if_neg (fun k=>by have:=k.2.2;omega)]
   exact hc2
  ·show ((now T s).at_:Int)=_
   rw[hna]
   omega
 | some x=>
  obtain⟨t1,r1⟩:=x
  rw[hk] at hs hc
  obtain⟨c1,c2,c3,c4⟩:=hc
  have hw:=cut_whole hk
  simp only[] at hs c4 ⊢
  have here:∀n,((now T s).at_:Int)=hereAt b.length ⟨t1,r1,n⟩:=fun n=>by
   unfold hereAt
   rw[hna]
   simp only[]
   omega
  by_cases k0:t1.kind=0
  ·rw[if_pos k0] at hs ⊢
   exact⟨hs,here _⟩
  rw[if_neg k0] at hs ⊢
  by_cases k6:600 < s.p+1
  ·rw[if_pos k6] at hs ⊢
   have hne:(rnext b q).at_≠b.length:=fun e=>k0 (c4.2 (List.length_eq_zero_iff.1 (by omega)))
   refine⟨_,dm_now hf hs,?_,?_⟩
   ·show (now T s).e=1
    rw[hn]
    unfold mark
    rw[if_pos ⟨by omega,hne,c1⟩]
   ·show ((now T s).at_:Int)=_
    rw[hna]
    omega
  ·rw[if_neg k6] at hs ⊢
   exact⟨hs,here _⟩
theorem lk_up {b:Bytes} {T:List Tk} (hT:T.length<=601) {s:Rs} {st:St} (h:Sy b T s st) (hk:st.tok.kind≠0):Lk id b T (up s) (advZ b.length st):=by
 obtain⟨h1,h2,h3,_,q,hq,hr,hn⟩:=h.1
 obtain⟨hn1,hn2⟩:=hn hk
 unfold advZ
 rw[hr,hn1]
 exact lk_next hT (s:=up s) hq h1 hn2
theorem lk_fail {α:Type} {g:α->St} {b:Bytes} {T:List Tk} {s:Rs} {st:St} (e:Nat) (he:e≠0) (h:Sy b T s st):Lk g b T (fail T e s) (.bad e (hereAt b.length st)):=by
 have e1:(fail T e s).fe=e/\(fail T e s).fa=(now T s).at_:=by
  unfold fail
  rw[if_neg (fun k=>k h.1.1),if_neg (fun k=>k h.1.2.1)]
  exact⟨rfl,rfl⟩
 exact⟨(e,(now T s).at_),dm_of he e1.1 e1.2,rfl,h.2⟩
theorem lk_take {b:Bytes} {T:List Tk} (hT:T.length<=601) {s:Rs} {st:St} (h:Sy b T s st) {x:Bytes} (hx:Fx x):Lk id b T (take T x s) (wantZ b.length st x):=by
 unfold take wantZ
 rw[h.1.sees hx]
 cases hi:Mil.sees st x with
 | true=>
  rw[if_pos rfl,if_pos rfl]
  exact lk_up hT h (by rw[(sees_kind3 hi).1];decide)
 | false=>
  rw[if_neg (by decide),if_neg (by decide)]
  exact lk_fail 3 (by decide) h
theorem lk_name {b:Bytes} {T:List Tk} (hT:T.length<=601) {s:Rs} {st:St} (h:Sy b T s st):Lk Prod.snd b T (rname T s).2 (nameZ b.length st):=by
 unfold rname nameZ
 by_cases c:st.tok.kind=1
 ·rw[if_pos c,if_pos ⟨h.1.1,h.1.2.1,h.1.named.1.2 c⟩]
  exact lk_map (lk_up hT h (by rw[c];decide)) (fun _=>rfl)
 ·rw[if_neg c,if_neg (fun k=>c (h.1.named.1.1 k.2.2))]
  exact lk_fail 3 (by decide) h
theorem lk_number {b:Bytes} {T:List Tk} (hT:T.length<=601) {s:Rs} {st:St} (h:Sy b T s st) (lo hi:Nat):Lk Prod.snd b T (rnumber T lo hi s).2 (numberZ b.length (lo:Int) (hi:Int) st):=by
 unfold rnumber numberZ
 by_cases c:st.tok.kind=2/\(lo:Int)<=st.tok.val/\st.tok.val<=(hi:Int)
 ·have hu:=h.1.named.2.1.2 c.1
  have hv:=(h.1.named.2.2.2 hu).1
  have hc:=c.2
  rw[hv] at hc
  rw[if_pos c,if_pos ⟨h.1.1,h.1.2.1,hu,by omega,by omega⟩]
  exact lk_map (lk_up hT h (by rw[c.1];decide)) (fun _=>rfl)
 ·rw[if_neg c,if_neg (fun k=>by
   have hv:=(h.1.named.2.2.2 k.2.2.1).1
   refine c ⟨h.1.named.2.1.1 k.2.2.1,?_,?_⟩
   ·rw[hv];have:=k.2.2.2.1;omega
   ·rw[hv];have:=k.2.2.2.2;omega)]
  exact lk_fail 3 (by decide) h
theorem lk_typed {b:Bytes} {T:List Tk} (hT:T.length<=601) {s:Rs} {st:St} (h:Sy b T s st):Lk Prod.snd b T (rtyped T s).2 (ftypeZ b.length st):=by
 have f1:Fx wBool:=⟨_,_,rfl,by decide⟩
 have f2:Fx wInt:=⟨_,_,rfl,by decide⟩
 unfold rtyped ftypeZ
 rw[h.1.sees f1]
 cases hi:Mil.sees st wBool with
 | true=>
  have o:Mil.sees st wInt=false:=sees_other hi (by decide)
  rw[if_pos rfl,o,if_neg (by decide),if_pos rfl]
  exact lk_map (lk_up hT h (by rw[(sees_kind3 hi).1];decide)) (fun _=>rfl)
 | false=>
  rw[if_neg (by decide)]
  unfold take
  rw[h.1.sees f2]
  cases hj:Mil.sees st wInt with
  | true=>
   rw[if_pos rfl,if_pos rfl]
   exact lk_map (lk_up hT h (by rw[(sees_kind3 hj).1];decide)) (fun _=>rfl)
  | false=>
   rw[if_neg (by decide),if_neg (by decide),if_neg (by decide)]
   exact lk_fail 3 (by decide) h
theorem lk_lit {b:Bytes} {T:List Tk} (hT:T.length<=601) {s:Rs} {st:St} (h:Sy b T s st) (k1:Mil.sees st wTrue=false) (k2:Mil.sees st wFalse=false):Lk Prod.snd b T (rnumber T 0 9223372036854775807 s).2 (literalZ b.length st):=by
 unfold literalZ
 rw[k1,k2,if_neg (by decide),if_neg (by decide)]
 exact lk_map (lk_number hT h 0 9223372036854775807) (fun _=>rfl)
theorem lk_const {b:Bytes} {T:List Tk} (hT:T.length<=601) {s:Rs} {st:St} (h:Sy b T s st):Lk Prod.snd b T (rconst T s).2 (constantZ b.length st):=by
 have f1:Fx wTrue:=⟨_,_,rfl,by decide⟩
 have f2:Fx wFalse:=⟨_,_,rfl,by decide⟩
 have f3:Fx sMinus:=⟨_,_,rfl,by decide⟩
 unfold rconst constantZ
 rw[h.1.sees f1,h.1.sees f2,h.1.sees f3]
 cases hi:Mil.sees st wTrue with
 | true=>
  have o:Mil.sees st sMinus=false:=sees_other hi (by decide)
  rw[if_pos rfl,o,if_neg (by decide)]
  unfold literalZ
  rw[hi,if_pos rfl]
  exact lk_node _ (lk_map (lk_up hT h (by rw[(sees_kind3 hi).1];decide)) (fun _=>rfl))
 | false=>
  rw[if_neg (by decide)]
  cases hj:Mil.sees st wFalse with
  | true=>
   have o:Mil.sees st sMinus=false:=sees_other hj (by decide)
   rw[if_pos rfl,o,if_neg (by decide)]
   unfold literalZ
   rw[hi,hj,if_neg (by decide),if_pos rfl]
   exact lk_node _ (lk_map (lk_up hT h (by rw[(sees_kind3 hj).1];decide)) (fun _=>rfl))
  | false=>
   rw[if_neg (by decide)]
   cases hm:Mil.sees st sMinus with
   | true=>
    rw[if_pos rfl,if_pos rfl]
    refine lk_node _ (lk_bind (lk_up hT h (by rw[(sees_kind3 hm).1];decide)) (fun s1 h1=>?_) (fun f d=>dm_number d))
    exact lk_map (lk_number hT h1 0 9223372036854775807) (fun _=>rfl)
   | false=>
    rw[if_neg (by decide),if_neg (by decide)]
    exact lk_node _ (lk_lit hT h hi hj)
def LX (b:Bytes) (T:List Tk) (n:Nat):Prop:=∀(t l:Nat) (s:Rs) (x:Nat×Rs),rx T n t l s=some x->∀st left,Sy b T s st->(t < 9\/(10 < t/\t < 18))->Lk Prod.snd b T x.2 (pz b.length n t left st)
theorem lk_atom {b:Bytes} {T:List Tk} (hT:T.length<=601) {n:Nat} (hf:LX b T n) {s:Rs} {x:Nat×Rs} (h:ratom T (rx T n) s=some x) {st:St} (hs:Sy b T s st):Lk Prod.snd b T x.2 (atomZ b.length (pz b.length n) st):=by
 have ex:∀{s1:Rs} {y:Nat×Rs} {st1:St},rx T n 0 0 s1=some y->Sy b T s1 st1->Lk Prod.snd b T y.2 (pz b.length n 0 eNil st1):=fun {s1 y st1} h1 h2=>hf 0 0 s1 y h1 st1 eNil h2 (Or.inl (by omega))
 have f0:s.fe=0:=hs.1.1
 have e0:(now T s).e=0:=hs.1.2.1
 unfold ratom at h
 rw[if_neg (fun k=>k f0)] at h
 by_cases c2:(now T s).e=0/\(now T s).number=true
 ·rw[if_pos c2] at h
  obtain rfl:=osi h
  have hk:=hs.1.named.2.1.1 c2.2
  obtain⟨hv,hm⟩:=hs.1.named.2.2.2 c2.2
  have no:∀y,Mil.sees st y=false:=fun y=>by unfold Mil.sees;rw[hk];rfl
  unfold atomZ literalZ numberZ
  rw[if_neg (by rw[hk];decide),no,no,no,no,no,no,no,no]
  simp only[Bool.false_eq_true,if_false,Bool.or_false]
  rw[if_pos ⟨hk,by rw[hv];omega,by rw[hv];unfold maxInt;omega⟩]
  exact lk_node _ (lk_map (g:=Prod.snd) (lk_map (lk_up hT hs (by rw[hk];decide)) (fun _=>rfl)) (fun _=>rfl))
 rw[if_neg c2] at h
 by_cases c3:(now T s).e=0/\(now T s).name=true
 ·rw[if_pos c3] at h
  obtain rfl:=osi h
  have hk:=hs.1.named.1.1 c3.2
  unfold atomZ nameZ
  rw[if_pos hk,if_pos hk]
  exact lk_node _ (lk_map (g:=Prod.snd) (lk_map (lk_up hT hs (by rw[hk];decide)) (fun _=>rfl)) (fun _=>rfl))
 rw[if_neg c3,if_neg (fun k=>k e0)] at h
 have hn:(now T s).name=false:=by simpa using fun k=>c3 ⟨e0,k⟩
 have hu:(now T s).number=false:=by simpa using fun k=>c2 ⟨e0,k⟩
 have fxd:∀{x:Bytes},x≠[]->(now T s).t=x->st.tok.kind=3/\st.tok.txt=x:=fun hx e=>hs.1.fixed hn hu hx e
 by_cases c5:(now T s).t=wTrue\/(now T s).t=wFalse
 ·rw[if_pos c5] at h
  obtain rfl:=osi h
  have e:atomZ b.length (pz b.length n) st=constantZ b.length st:=by
   unfold atomZ constantZ
   rcases c5 with c|c
   ·have hk:=fxd (by decide) c
    rw[if_neg (not_name hk),sees_of hk sOpen,sees_of hk wFby,sees_of hk wUnder,sees_of hk wHold,sees_of hk wMin,sees_of hk wMax,sees_of hk sMinus,if_neg (show ¬(wTrue==sOpen)=true by decide),if_neg (show ¬(wTrue==wFby)=true by decide),if_neg (show ¬(wTrue==wUnder)=true by decide),if_neg (show ¬(wTrue==wHold)=true by decide),if_neg (show ¬(wTrue==wMin || wTrue==wMax)=true by decide),if_neg (show ¬(wTrue==sMinus)=true by decide)]
   ·have hk:=fxd (by decide) c
    rw[if_neg (not_name hk),sees_of hk sOpen,sees_of hk wFby,sees_of hk wUnder,sees_of hk wHold,sees_of hk wMin,sees_of hk wMax,sees_of hk sMinus,if_neg (show ¬(wFalse==sOpen)=true by decide),if_neg (show ¬(wFalse==wFby)=true by decide),if_neg (show ¬(wFalse==wUnder)=true by decide),if_neg (show ¬(wFalse==wHold)=true by decide),if_neg (show ¬(wFalse==wMin || wFalse==wMax)=true by decide),if_neg (show ¬(wFalse==sMinus)=true by decide)]
  rw[e]
  exact lk_const hT hs
 rw[if_neg c5] at h
 by_cases c6:(now T s).t=sOpen
 ·rw[if_pos c6] at h
  obtain⟨y,hy,rfl⟩:=oms h
  have hk:=fxd (by decide) c6
  unfold atomZ
  rw[if_neg (not_name hk),sees_of hk,if_pos (by decide)]
  refine lk_bind (lk_up hT hs (by rw[hk.1];decide)) (fun s1 h1=>?_) (fun f d=>dm_take (dm_rx hy d))
  refine lk_bind (ex hy h1) (fun x h2=>?_) (fun f d=>dm_take d)
  exact lk_map (lk_take hT h2 (fx sShut (by decide))) (fun _=>rfl)
 rw[if_neg c6] at h
 by_cases c7:(now T s).t=wFby
 ·rw[if_pos c7] at h
  obtain⟨y,hy,rfl⟩:=oms h
  have hk:=fxd (by decide) c7
  unfold atomZ
  rw[if_neg (not_name hk),sees_of hk,sees_of hk,if_neg (by decide),if_pos (by decide)]
  refine lk_node _ ?_
  refine lk_bind (lk_up hT hs (by rw[hk.1];decide)) (fun s1 h1=>?_) (fun f d=>dm_take (dm_rx hy (dm_take (dm_const (dm_take d)))))
  refine lk_bind (lk_take hT h1 (fx sOpen (by decide))) (fun s2 h2=>?_) (fun f d=>dm_take (dm_rx hy (dm_take (dm_const d))))
  refine lk_bind (lk_const hT h2) (fun c h3=>?_) (fun f d=>dm_take (dm_rx hy (dm_take d)))
  refine lk_bind (lk_take hT h3 (fx sComma (by decide))) (fun s4 h4=>?_) (fun f d=>dm_take (dm_rx hy d))
  refine lk_bind (ex hy h4) (fun x h5=>?_) (fun f d=>dm_take d)
  exact lk_map (lk_take hT h5 (fx sShut (by decide))) (fun _=>rfl)
 rw[if_neg c7] at h
 by_cases c8:(now T s).t=wHold
 ·rw[if_pos c8] at h
  obtain⟨y,hy,rfl⟩:=oms h
  have hk:=fxd (by decide) c8
  unfold atomZ
  rw[if_neg (not_name hk),sees_of hk,sees_of hk,sees_of hk,sees_of hk,if_neg (by decide),if_neg (by decide),if_neg (by decide),if_pos (by decide)]
  refine lk_node _ ?_
  refine lk_bind (lk_up hT hs (by rw[hk.1];decide)) (fun s1 h1=>?_) (fun f d=>dm_take (dm_number (dm_take (dm_rx hy (dm_take (dm_const (dm_take d)))))))
  refine lk_bind (lk_take hT h1 (fx sOpen (by decide))) (fun s2 h2=>?_) (fun f d=>dm_take (dm_number (dm_take (dm_rx hy (dm_take (dm_const d))))))
  refine lk_bind (lk_const hT h2) (fun c h3=>?_) (fun f d=>dm_take (dm_number (dm_take (dm_rx hy (dm_take d)))))
  refine lk_bind (lk_take hT h3 (fx sComma (by decide))) (fun s4 h4=>?_) (fun f d=>dm_take (dm_number (dm_take (dm_rx hy d))))
  refine lk_bind (ex hy h4) (fun x h5=>?_) (fun f d=>dm_take (dm_number (dm_take d)))
  refine lk_bind (lk_take hT h5 (fx sComma (by decide))) (fun s6 h6=>?_) (fun f d=>dm_take (dm_number d))
  refine lk_bind (lk_number hT h6 2 1000) (fun k h7=>?_) (fun f d=>dm_take d)
  exact lk_map (lk_take hT h7 (fx sShut (by decide))) (fun _=>rfl)
 rw[if_neg c8] at h
 by_cases c9:(now T s).t=wUnder
 ·rw[if_pos c9] at h
  obtain⟨y,hy,rfl⟩:=oms h
  have hk:=fxd (by decide) c9
  unfold atomZ
  rw[if_neg (not_name hk),sees_of hk,sees_of hk,sees_of hk,if_neg (by decide),if_neg (by decide),if_pos (by decide)]
  refine lk_node _ ?_
  refine lk_bind (lk_up hT hs (by rw[hk.1];decide)) (fun s1 h1=>?_) (fun f d=>dm_take (dm_number (dm_take (dm_rx hy (dm_take d)))))
  refine lk_bind (lk_take hT h1 (fx sOpen (by decide))) (fun s2 h2=>?_) (fun f d=>dm_take (dm_number (dm_take (dm_rx hy d))))
  refine lk_bind (ex hy h2) (fun x h5=>?_) (fun f d=>dm_take (dm_number (dm_take d)))
  refine lk_bind (lk_take hT h5 (fx sComma (by decide))) (fun s6 h6=>?_) (fun f d=>dm_take (dm_number d))
  refine lk_bind (lk_number hT h6 2 1000) (fun k h7=>?_) (fun f d=>dm_take d)
  exact lk_map (lk_take hT h7 (fx sShut (by decide))) (fun _=>rfl)
 rw[if_neg c9] at h
 by_cases c10:(now T s).t=wMin\/(now T s).t=wMax
 ·rw[if_pos c10] at h
  obtain⟨y,hy,h⟩:=obs h
  obtain⟨z,hz,rfl⟩:=oms h
  have hk0:st.tok.kind≠0:=by
   rcases c10 with c|c
   ·rw[(fxd (by decide) c).1];decide
   ·rw[(fxd (by decide) c).1];decide
  have e:atomZ b.length (pz b.length n) st=(advZ b.length st).bind fun s1=>(wantZ b.length s1 sOpen).bind fun s2=>(pz b.length n 0 eNil s2).bind fun a=>(wantZ b.length a.2 sComma).bind fun s4=>(pz b.length n 0 eNil s4).bind fun b'=>(wantZ b.length b'.2 sShut).map fun s6=>(eLeast st.tok.txt a.1 b'.1,s6):=by
   unfold atomZ
   rcases c10 with c|c
   ·have hk:=fxd (by decide) c
    rw[if_neg (not_name hk),sees_of hk,sees_of hk,sees_of hk,sees_of hk,sees_of hk,sees_of hk,if_neg (by decide),if_neg (by decide),if_neg (by decide),if_neg (by decide),if_pos (by decide)]
   ·have hk:=fxd (by decide) c
    rw[if_neg (not_name hk),sees_of hk,sees_of hk,sees_of hk,sees_of hk,sees_of hk,sees_of hk,if_neg (by decide),if_neg (by decide),if_neg (by decide),if_neg (by decide),if_pos (by decide)]
  rw[e]
  refine lk_node _ ?_
  refine lk_bind (lk_up hT hs hk0) (fun s1 h1=>?_) (fun f d=>dm_take (dm_rx hz (dm_take (dm_rx hy (dm_take d)))))
  refine lk_bind (lk_take hT h1 (fx sOpen (by decide))) (fun s2 h2=>?_) (fun f d=>dm_take (dm_rx hz (dm_take (dm_rx hy d))))
  refine lk_bind (ex hy h2) (fun x h5=>?_) (fun f d=>dm_take (dm_rx hz (dm_take d)))
  refine lk_bind (lk_take hT h5 (fx sComma (by decide))) (fun s6 h6=>?_) (fun f d=>dm_take (dm_rx hz d))
  refine lk_bind (ex hz h6) (fun k h7=>?_) (fun f d=>dm_take d)
  exact lk_map (lk_take hT h7 (fx sShut (by decide))) (fun _=>rfl)
 rw[if_neg c10] at h
 obtain rfl:=osi h
 have no:∀{y:Bytes},(match y with|[]=>true|c::_=>isD c)=false->(now T s).t≠y->Mil.sees st y=false:=fun {y} hy hne=>by
  rw[<-hs.1.sees (fx y hy)]
  unfold is
  have:((now T s).t==y)=false:=by rw[beq_eq_false_iff_ne];exact hne
  rw[this];simp
 have k1:st.tok.kind≠1:=fun k=>by have:=hs.1.named.1.2 k;rw[hn] at this;cases this
 have k2:st.tok.kind≠2:=fun k=>by have:=hs.1.named.2.1.2 k;rw[hu] at this;cases this
 unfold atomZ literalZ numberZ
 rw[if_neg k1,no (y:=sOpen) (by decide) c6,no (y:=wFby) (by decide) c7,no (y:=wUnder) (by decide) c9,no (y:=wHold) (by decide) c8,no (y:=wMin) (by decide) (fun e=>c10 (Or.inl e)),no (y:=wMax) (by decide) (fun e=>c10 (Or.inr e)),no (y:=wTrue) (by decide) (fun e=>c5 (Or.inl e)),no (y:=wFalse) (by decide) (fun e=>c5 (Or.inr e))]
 simp only[Bool.false_eq_true,if_false,Bool.or_false]
 rw[if_neg (fun k=>k2 k.1)]
 exact lk_map (g:=Prod.snd) (lk_fail 3 (by decide) hs) (fun _=>rfl)
theorem tight_no (st:St) {l:Nat} (h:l=3\/l=7):Mil.opAt st≠l:=by
 unfold Mil.opAt
 have t:tightOf st.tok.txt≠3/\tightOf st.tok.txt≠7:=by
  unfold tightOf
  split
  ·exact⟨by decide,by decide⟩
  ·split
   ·exact⟨by decide,by decide⟩
   ·split
    ·exact⟨by decide,by decide⟩
    ·split
     ·exact⟨by decide,by decide⟩
     ·split
      ·exact⟨by decide,by decide⟩
      ·exact⟨by decide,by decide⟩
 split
 ·rcases h with rfl|rfl
  ·exact t.1
  ·exact t.2
 ·omega
theorem pz_idle (N:Nat) {n l:Nat} (h0:n≠0) (hl:l=3\/l=7) (e:E) (st:St):pz N n (10+l) e st=.ok (e,st):=by
 cases n with
 | zero=>exact absurd rfl h0
 | succ n=>
  rw[pz]
  unfold stepZ
  rw[if_neg (by omega),if_neg (by omega),if_neg (by omega),show 10+l - 10=l from by omega,if_neg (tight_no st hl)]
theorem rx_pos {T:List Tk} {n t l:Nat} {s:Rs} {x:Nat×Rs} (h:rx T n t l s=some x):n≠0:=by
 rintro rfl
 cases h
theorem lk_step {b:Bytes} {T:List Tk} (hT:T.length<=601) {n:Nat} (hf:LX b T n):LX b T (n+1):=by
 intro t l s x h st left hs ht
 rw[rx,rstep] at h
 rw[pz]
 unfold stepZ
 by_cases t0:t=0
 ·rw[if_pos t0] at h ⊢
  have f1:Fx wIf:=⟨_,_,rfl,by decide⟩
  rw[hs.1.sees f1] at h
  cases hi:Mil.sees st wIf with
  | true=>
   rw[hi,if_pos rfl] at h
   rw[if_pos rfl]
   obtain⟨y,hy,h⟩:=obs h
   obtain⟨z,hz,h⟩:=obs h
   obtain⟨u,hu,rfl⟩:=oms h
   refine lk_node _ ?_
   refine lk_bind (lk_up hT hs (by rw[(sees_kind3 hi).1];decide)) (fun s1 h1=>?_) (fun f d=>dm_rx hu (dm_take (dm_rx hz (dm_take (dm_rx hy d)))))
   refine lk_bind (hf _ _ _ _ hy _ _ h1 (Or.inl (by omega))) (fun a h2=>?_) (fun f d=>dm_rx hu (dm_take (dm_rx hz (dm_take d))))
   refine lk_bind (lk_take hT h2 (fx wThen (by decide))) (fun s3 h3=>?_) (fun f d=>dm_rx hu (dm_take (dm_rx hz d)))
   refine lk_bind (hf _ _ _ _ hz _ _ h3 (Or.inl (by omega))) (fun c h4=>?_) (fun f d=>dm_rx hu (dm_take d))
   refine lk_bind (lk_take hT h4 (fx wElse (by decide))) (fun s5 h5=>?_) (fun f d=>dm_rx hu d)
   exact lk_map (hf _ _ _ _ hu _ _ h5 (Or.inl (by omega))) (fun _=>rfl)
  | false=>
   rw[hi,if_neg (by decide)] at h
   rw[if_neg (by decide)]
   exact hf _ _ _ _ h _ _ hs (Or.inl (by omega))
 rw[if_neg t0] at h ⊢
 by_cases t8:t=8
 ·rw[if_pos t8] at h ⊢
  exact lk_atom hT hf h hs
 rw[if_neg t8] at h ⊢
 by_cases t7:t=7
 ·subst t7
  rw[if_pos rfl] at h
  rw[if_pos (by decide)]
  have f1:Fx sMinus:=⟨_,_,rfl,by decide⟩
  rw[hs.1.sees f1] at h
  cases hi:Mil.sees st sMinus with
  | true=>
   rw[hi,if_pos rfl] at h
   rw[if_pos (Or.inr ⟨rfl,rfl⟩)]
   obtain⟨y,hy,rfl⟩:=oms h
   refine lk_node _ ?_
   refine lk_bind (lk_up hT hs (by rw[(sees_kind3 hi).1];decide)) (fun s1 h1=>?_) (fun f d=>dm_rx hy d)
   exact lk_map (hf _ _ _ _ hy _ _ h1 (Or.inl (by omega))) (fun _=>rfl)
  | false=>
   rw[hi,if_neg (by decide)] at h
   rw[if_neg (fun k=>by rcases k with k|k;exact absurd k.1 (by decide);exact absurd k.2 (by decide))]
   refine lk_bind (hf _ _ _ _ h st eNil hs (Or.inl (by omega))) (fun a h2=>?_) (fun f d=>d)
   rw[pz_idle b.length (rx_pos h) (l:=7) (Or.inr rfl)]
   exact h2
 rw[if_neg t7] at h
 by_cases t3:t=3
 ·subst t3
  rw[if_pos rfl] at h
  rw[if_pos (by decide)]
  have f1:Fx wNot:=⟨_,_,rfl,by decide⟩
  rw[hs.1.sees f1] at h
  cases hi:Mil.sees st wNot with
  | true=>
   rw[hi,if_pos rfl] at h
   rw[if_pos (Or.inl ⟨rfl,rfl⟩)]
   obtain⟨y,hy,rfl⟩:=oms h
   refine lk_node _ ?_
   refine lk_bind (lk_up hT hs (by rw[(sees_kind3 hi).1];decide)) (fun s1 h1=>?_) (fun f d=>dm_rx hy d)
   exact lk_map (hf _ _ _ _ hy _ _ h1 (Or.inl (by omega))) (fun _=>rfl)
  | false=>
   rw[hi,if_neg (by decide)] at h
   rw[if_neg (fun k=>by rcases k with k|k;exact absurd k.2 (by decide);exact absurd k.1 (by decide))]
   refine lk_bind (hf _ _ _ _ h st eNil hs (Or.inl (by omega))) (fun a h2=>?_) (fun f d=>d)
   rw[pz_idle b.length (rx_pos h) (l:=3) (Or.inl rfl)]
   exact h2
 rw[if_neg t3] at h
 by_cases tl:t < 8
 ·rw[if_pos tl] at h ⊢
  obtain⟨y,hy,h⟩:=obs h
  rw[if_neg (fun k=>by rcases k with k|k;exact t3 k.1;exact t7 k.1)]
  refine lk_bind (hf _ _ _ _ hy st eNil hs (Or.inl (by omega))) (fun a h2=>?_) (fun f d=>dm_rx h d)
  exact hf _ _ _ _ h _ _ h2 (Or.inr (by omega))
 rw[if_neg tl] at h ⊢
 have hop:=hs.1.oper (l:=t - 10) (by omega) (by omega)
 by_cases c:Mil.opAt st=t - 10
 ·rw[if_pos (hop.2 c)] at h
  rw[if_pos c]
  obtain⟨y,hy,h⟩:=obs h
  have hk:st.tok.kind≠0:=fun k=>by
   unfold Mil.opAt at c
   rw[if_neg (by omega)] at c
   omega
  by_cases t14:t=14
  ·rw[if_pos t14] at h
   obtain rfl:=osi h
   refine lk_node _ ?_
   refine lk_bind (lk_up hT hs hk) (fun s1 h1=>?_) (fun f d=>dm_rx hy d)
   refine lk_bind (hf _ _ _ _ hy _ _ h1 (Or.inl (by omega))) (fun a h2=>?_) (fun f d=>d)
   rw[if_pos t14]
   exact h2
  ·rw[if_neg t14] at h
   refine lk_bind (lk_up hT hs hk) (fun s1 h1=>?_) (fun f d=>dm_rx h (dm_node _ (dm_rx hy d)))
   refine lk_bind (hf _ _ _ _ hy _ _ h1 (Or.inl (by omega))) (fun a h2=>?_) (fun f d=>dm_rx h (dm_node _ d))
   rw[if_neg t14]
   exact hf _ _ _ _ h _ _ h2 ht
 ·rw[if_neg (fun k=>c (hop.1 k))] at h
  rw[if_neg c]
  obtain rfl:=osi h
  exact hs
theorem lk_rx {b:Bytes} {T:List Tk} (hT:T.length<=601):∀n,LX b T n
 | 0=>fun _ _ _ _ h=>by cases h
 | n+1=>lk_step hT (lk_rx hT n)
theorem bind_assoc {α β γ:Type} (r:Rz α) (f:α->Rz β) (g:β->Rz γ):(r.bind f).bind g=r.bind fun x=>(f x).bind g:=by rcases r with _|(e|x) <;> rfl
theorem lk_names {b:Bytes} {T:List Tk} (hT:T.length<=601):∀{n:Nat} {acc:List (Bytes×Nat)} {s:Rs} {x:List (Bytes×Nat)×Rs},rnames T n acc s=some x->∀{st:St},Sy b T s st->∀acc':List Bytes,Lk Prod.snd b T x.2 ((nameZ b.length st).bind fun y=>pnamesZ b.length n (acc'++[y.1]) y.2)
 | 0,_,_,_,h,_,_,_=>by cases h
 | n+1,acc,s,x,h,st,hs,acc'=>by
  have fc:Fx sComma:=⟨_,_,rfl,by decide⟩
  rw[rnames] at h
  have dm:∀f,Dm T f (rname T s).2->Dm T f x.2:=fun f d=>by
   rw[doom_is d.1,if_neg (by decide)] at h
   obtain rfl:=osi h
   exact d
  refine lk_bind (lk_name hT hs) (fun y h1=>?_) dm
  rw[pnamesZ]
  rw[h1.1.sees fc] at h
  cases hi:Mil.sees y.2 sComma with
  | true=>
   rw[hi,if_pos rfl] at h
   rw[if_pos rfl]
   refine lk_bind (lk_up hT h1 (by rw[(sees_kind3 hi).1];decide)) (fun s1 h2=>?_) (fun f d=>dm_names h d)
   exact lk_names hT h h2 _
  | false=>
   rw[hi,if_neg (by decide)] at h
   rw[if_neg (by decide)]
   obtain rfl:=osi h
   exact h1
theorem lk_item {b:Bytes} {T:List Tk} (hT:T.length<=601) {n:Nat} {s:Rs} {x:Im×Rs} (h:ritem T n s=some x) {st:St} (hs:Sy b T s st):Lk Prod.snd b T x.2 (pitemZ b.length n st):=by
 have f1:Fx wInput:=⟨_,_,rfl,by decide⟩
 have f2:Fx wOutput:=⟨_,_,rfl,by decide⟩
 unfold ritem at h
 unfold pitemZ
 rw[hs.1.sees f1,hs.1.sees f2] at h
 cases hi:Mil.sees st wInput with
 | true=>
  rw[hi,if_pos rfl] at h
  rw[if_pos rfl]
  obtain rfl:=osi h
  show Lk Prod.snd b T (take T sSemi (rnumber T 1 1000000 (take T wEvery (rtyped T (take T sColon (rname T (up s)).2)).2)).2) _
  refine lk_bind (lk_up hT hs (by rw[(sees_kind3 hi).1];decide)) (fun s1 h1=>?_) (fun f d=>dm_take (dm_number (dm_take (dm_head d))))
  refine lk_bind (lk_name hT h1) (fun y h2=>?_) (fun f d=>dm_take (dm_number (dm_take (dm_typed (dm_take d)))))
  refine lk_bind (lk_take hT h2 (fx sColon (by decide))) (fun s3 h3=>?_) (fun f d=>dm_take (dm_number (dm_take (dm_typed d))))
  refine lk_bind (lk_typed hT h3) (fun t h4=>?_) (fun f d=>dm_take (dm_number (dm_take d)))
  refine lk_bind (lk_take hT h4 (fx wEvery (by decide))) (fun s5 h5=>?_) (fun f d=>dm_take (dm_number d))
  refine lk_bind (lk_number hT h5 1 1000000) (fun k h6=>?_) (fun f d=>dm_take d)
  exact lk_map (lk_take hT h6 (fx sSemi (by decide))) (fun _=>rfl)
 | false=>
  rw[hi,if_neg (by decide)] at h
  rw[if_neg (by decide)]
  cases hj:Mil.sees st wOutput with
  | true=>
   rw[hj,if_pos rfl] at h
   rw[if_pos rfl]
   obtain⟨y,hy,rfl⟩:=oms h
   refine lk_bind (lk_up hT hs (by rw[(sees_kind3 hj).1];decide)) (fun s1 h1=>?_) (fun f d=>dm_take (dm_names hy d))
   have e:((nameZ b.length s1).bind fun x=>(pnamesZ b.length n [x.1] x.2).bind fun l=>(wantZ b.length l.2 sSemi).map fun s4=>((⟨2,[],0,0,l.1,eNil⟩:It),s4))=((nameZ b.length s1).bind fun y=>pnamesZ b.length n ([]++[y.1]) y.2).bind fun l=>(wantZ b.length l.2 sSemi).map fun s4=>((⟨2,[],0,0,l.1,eNil⟩:It),s4):=(bind_assoc _ _ _).symm
   rw[e]
   refine lk_bind (lk_names hT hy h1 []) (fun l h2=>?_) (fun f d=>dm_take d)
   exact lk_map (lk_take hT h2 (fx sSemi (by decide))) (fun _=>rfl)
  | false=>
   rw[hj,if_neg (by decide)] at h
   rw[if_neg (by decide)]
   obtain⟨y,hy,rfl⟩:=oms h
   refine lk_bind (lk_name hT hs) (fun y h2=>?_) (fun f d=>dm_take (dm_rx hy (dm_take (dm_typed (dm_take d)))))
   refine lk_bind (lk_take hT h2 (fx sColon (by decide))) (fun s3 h3=>?_) (fun f d=>dm_take (dm_rx hy (dm_take (dm_typed d))))
   refine lk_bind (lk_typed hT h3) (fun t h4=>?_) (fun f d=>dm_take (dm_rx hy (dm_take d)))
   refine lk_bind (lk_take hT h4 (fx sIs (by decide))) (fun s5 h5=>?_) (fun f d=>dm_take (dm_rx hy d))
   refine lk_bind (lk_rx hT n _ _ _ _ hy _ eNil h5 (Or.inl (by omega))) (fun k h6=>?_) (fun f d=>dm_take d)
   exact lk_map (lk_take hT h6 (fx sSemi (by decide))) (fun _=>rfl)
def Same2 (x:Bool×List Im×Rs) (r:Rz (List It)):Prop:=
 match r with
 | some (.ok _)=>x.1=true
 | some (.error e)=>x.1=false/\x.2.2.fe=e.1/\(x.2.2.fa:Int)=e.2
 | none=>False
theorem lk_prog {b:Bytes} {T:List Tk} (hT:T.length<=601):∀{n:Nat} {I:List Im} {s:Rs} {x:Bool×List Im×Rs},rparse T b.length n I s=some x->∀{st:St},Sy b T s st->∀acc:List It,acc.length=I.length->Same2 x (pprogZ b.length n acc st)
 | 0,_,_,_,h,_,_,_,_=>by cases h
 | n+1,I,s,x,h,st,hs,acc,ha=>by
  rw[rparse,if_neg (fun k=>k hs.1.1)] at h
  rw[pprogZ]
  have hend:=hs.1.2.2.2.1
  by_cases k0:st.tok.kind=0
  ·rw[if_pos ⟨hs.1.2.1,hend.1 k0⟩] at h
   rw[if_pos k0]
   obtain rfl:=osi h
   exact rfl
  rw[if_neg (fun k=>k0 (hend.2 k.2))] at h
  rw[if_neg k0]
  by_cases c6:I.length=60
  ·rw[if_pos c6] at h
   rw[if_pos (by omega)]
   obtain rfl:=osi h
   obtain⟨f,d,e1,e2⟩:=lk_fail (g:=id) 4 (by decide) hs
   have hfe:(fail T 4 s).fe=f.1/\(fail T 4 s).fa=f.2:=by
    have h1:=d.2
    unfold fate at h1
    have hne:(fail T 4 s).fe≠0:=by
     unfold fail
     rw[if_neg (fun k=>k hs.1.1),if_neg (fun k=>k hs.1.2.1)]
     exact fun k=>by cases k
    rw[if_pos hne] at h1
    rw[<-h1]
    exact⟨rfl,rfl⟩
   exact⟨rfl,hfe.1.trans e1,by rw[<-e2];show ((fail T 4 s).fa:Int)=_;rw[hfe.2]⟩
  rw[if_neg c6] at h
  rw[if_neg (by omega)]
  obtain⟨y,hy,h⟩:=obs h
  have hl:=lk_item hT hy hs
  rcases hz:pitemZ b.length n st with _|(e|z)
  ·rw[hz] at hl
   exact hl.elim
  ·rw[hz] at hl
   obtain⟨f,d,e1,e2⟩:=hl
   obtain⟨q1,q2,q3⟩:=dm_parse h d
   exact⟨q1,q2.trans e1,by rw[<-e2,q3]⟩
  ·rw[hz] at hl
   exact lk_prog hT h (st:=z.2) hl (acc++[z.1]) (by rw[List.length_append,List.length_append,ha];rfl)
theorem same_of {b:Bytes} {T:List Tk} (hS:Scans b 0 [] T) {x:Bool×List Im×Rs} (h:Rp T b.length [] ⟨0,[],0,0⟩ x):∃n0,∀n,n0<=n->Same2 x (parseZ n b):=by
 have hT:=(scans_row hS).wf.2.2
 have hc:=scans_sc hS
 obtain⟨n0,h⟩:=h
 refine⟨n0,fun n hn=>?_⟩
 have h':=rparse_le hn h
 have l0:Lk id b T ⟨0,[],0,0⟩ (advZ' b.length (b.drop 0) 0):=lk_next hT (s:=⟨0,[],0,0⟩) (Nat.zero_le _) rfl hc
 rw[List.drop_zero] at l0
 unfold parseZ
 rcases hz:advZ' b.length b 0 with _|(e|z)
 ·rw[hz] at l0
  exact l0.elim
 ·rw[hz] at l0
  obtain⟨f,d,e1,e2⟩:=l0
  obtain⟨q1,q2,q3⟩:=dm_parse h' d
  exact⟨q1,q2.trans e1,by rw[<-e2,q3]⟩
 ·rw[hz] at l0
  exact lk_prog hT h' (st:=z) l0 [] rfl
theorem fault_of {b:Bytes} {T:List Tk} (hS:Scans b 0 [] T) {x:Bool×List Im×Rs} (h:Rp T b.length [] ⟨0,[],0,0⟩ x) {k:Nat} {p:Int} (hf:Fault b k p):x.1=false/\x.2.2.fe=k/\(x.2.2.fa:Int)=p:=by
 obtain⟨n0,hs⟩:=same_of hS h
 rcases hf with hf|⟨s,hs0,m,hm⟩
 ·have:=hs n0 nlr
  unfold parseZ at this
  rw[hf] at this
  exact this
 ·have:=hs (n0+m) (by omega)
  unfold parseZ at this
  rw[imz_adv' b.length _ _ _ hs0] at this
  have e:pprogZ b.length (n0+m) [] s=.bad k p:=hm (n0+m) (by omega)
  change Same2 x (pprogZ b.length (n0+m) [] s) at this
  rw[e] at this
  exact this
theorem taken_of {b:Bytes} {T:List Tk} (hS:Scans b 0 [] T) {x:Bool×List Im×Rs} (h:Rp T b.length [] ⟨0,[],0,0⟩ x) {l:List It} (hp:Parsed b l):x.1=true:=by
 obtain⟨n0,hs⟩:=same_of hS h
 obtain⟨m,hm⟩:=hp
 unfold parse at hm
 split at hm
 ·cases hm
 ·obtain⟨s,h1,h2⟩:=obs hm
  have:=hs (n0+m) (by omega)
  unfold parseZ at this
  rw[imz_adv' b.length _ _ _ h1] at this
  have e:pprogZ b.length (n0+m) [] s=.ok l:=imz_pprog b.length (n0+m) [] s l (pprog_le m (n0+m) _ _ _ (by omega) h2)
  change Same2 x (pprogZ b.length (n0+m) [] s) at this
  rw[e] at this
  exact this
end Ref
end
end Go.Proofs.YtoiajojadihpbaaGreatDoor
