import Derived.Test.YtoiajojadihpbaaGreatDoorQt31
import Derived.Test.YtoiajojadihpbaaGreatDoorQt23
namespace Go.Proofs.YtoiajojadihpbaaGreatDoor
set_option maxHeartbeats 8000000
set_option maxRecDepth 100000
section
namespace Ref
open Mil
theorem skip_drop:∀(f:Bool) (b:Bytes),skip f b=b.drop (b.length - (skip f b).length)
 | _,[]=>by simp[skip]
 | true,c::r=>by
  have h1:=skip_drop false r
  have h2:=skip_drop true r
  have l1:=skip_le false r
  have l2:=skip_le true r
  rw[skip]
  split
  ·rw[List.length_cons,Nat.sub_add_comm l1,List.drop_succ_cons];exact h1
  ·rw[List.length_cons,Nat.sub_add_comm l2,List.drop_succ_cons];exact h2
 | false,c::r=>by
  have h1:=skip_drop false r
  have h2:=skip_drop true r
  have l1:=skip_le false r
  have l2:=skip_le true r
  rw[skip]
  split
  ·rw[List.length_cons,Nat.sub_add_comm l1,List.drop_succ_cons];exact h1
  ·split
   ·rw[List.length_cons,Nat.sub_add_comm l2,List.drop_succ_cons];exact h2
   ·simp
def Sc (b:Bytes):List Tk->Nat->Nat->Prop
 | [],_,_=>False
 | t::L,i,q=>t=mark i b.length (rnext b q)/\((rnext b q).at_=b.length\/t.e≠0\/Sc b L (i+1) ((rnext b q).at_+(rnext b q).t.length))
theorem sc_scan (b:Bytes):∀(n p:Nat) (acc T:List Tk),rscan b n p acc=some T->∃L,T=acc++L/\Sc b L acc.length p
 | 0,_,_,_,h=>by cases h
 | n+1,p,acc,T,h=>by
  rw[rscan] at h
  by_cases c:(rnext b p).at_=b.length\/(mark acc.length b.length (rnext b p)).e≠0
  ·rw[if_pos c] at h
   obtain rfl:=osi h
   exact⟨_,rfl,rfl,by rcases c with c|c;exact Or.inl c;exact Or.inr (Or.inl c)⟩
  ·rw[if_neg c] at h
   obtain⟨L,rfl,hL⟩:=sc_scan b n _ _ T h
   rw[List.length_append,List.length_singleton] at hL
   exact⟨mark acc.length b.length (rnext b p)::L,by simp,rfl,Or.inr (Or.inr hL)⟩
theorem scans_sc {b:Bytes} {T:List Tk} (h:Scans b 0 [] T):Sc b T 0 0:=by
 obtain⟨n,h⟩:=h
 obtain⟨L,rfl,hL⟩:=sc_scan b n 0 [] T h
 exact hL
def Doom (T:List Tk) (s:Rs):Prop:=s.fe≠0\/(now T s).e≠0
def Sync (b:Bytes) (T:List Tk) (s:Rs) (st:St):Prop:=
 s.fe=0/\(now T s).e=0/\TokEq (now T s) st.tok/\(st.tok.kind=0↔(now T s).at_=b.length)/\∃q,q<=b.length/\st.rest=b.drop q/\(st.tok.kind≠0->st.cnt=s.p+1/\Sc b (T.drop (s.p+1)) (s.p+1) q)
theorem sync_of {b:Bytes} {T:List Tk} (hT:T.length<=601) {s:Rs} {q:Nat} (hq:q<=b.length) (hf:s.fe=0) (h:Sc b (T.drop s.p) s.p q) :
  match adv' (b.drop q) s.p with
  | none=>(now T s).e≠0
  | some st=>Sync b T s st:=by
 cases hL:T.drop s.p with
 | nil=>rw[hL] at h;exact h.elim
 | cons t L=>
  rw[hL] at h
  obtain⟨ht,hr⟩:=h
  have hlen:=congrArg List.length hL
  rw[List.length_drop,List.length_cons] at hlen
  have hn:now T s=t:=by
   have h0:(T.drop s.p)[0]?=some t:=by rw[hL];rfl
   rw[List.getElem?_drop,Nat.add_zero] at h0
   unfold now
   rw[List.getD_eq_getElem?_getD,h0];rfl
  have hdr:T.drop (s.p+1)=L:=by rw[<-List.drop_drop,hL];rfl
  obtain⟨a1,a2,a3,a4⟩:=rnext_adv b q hq
  have l1:=skip_le false (b.drop q)
  have l2:(b.drop q).length=b.length - q:=by simp
  have hc:=cut_is (skip false (b.drop q)) (b.length - (skip false (b.drop q)).length)
  have hat:(rnext b q).at_=b.length - (skip false (b.drop q)).length:=(tokAt_len _ _).1
  have hend:skip false (b.drop q)=[]↔(rnext b q).at_=b.length:=by
   rw[hat,<-List.length_eq_zero_iff]
   constructor
   ·intro h;omega
   ·intro h;omega
  have hdrop:skip false (b.drop q)=b.drop (rnext b q).at_:=by
   have:=skip_drop false (b.drop q)
   rw[List.drop_drop] at this
   rw[hat]
   refine this.trans ?_
   congr 1;omega
  unfold adv'
  change match cut (skip false (b.drop q)) with|none=>(rnext b q).e=2|some x=>(rnext b q).e=0/\TokEq (rnext b q) x.1/\x.2=(skip false (b.drop q)).drop (rnext b q).t.length/\(x.1.kind=0↔skip false (b.drop q)=[]) at hc
  cases hk:cut (skip false (b.drop q)) with
  | none=>
   rw[hk] at hc
   show (now T s).e≠0
   rw[hn,ht]
   unfold mark
   split
   ·exact fun h=>by cases h
   ·rw[show (rnext b q).e=2 from hc];exact fun h=>by cases h
  | some x=>
   rw[hk] at hc
   obtain⟨t1,r1⟩:=x
   obtain⟨c1,c2,c3,c4⟩:=hc
   simp only[] at c2 c3 c4 ⊢
   by_cases k0:t1.kind=0
   ·rw[if_pos k0]
    have hae:=hend.1 (c4.1 k0)
    have hm:t=rnext b q:=by
     rw[ht];unfold mark
     rw[if_neg (fun h=>h.2.1 hae)]
    refine⟨hf,?_,?_,?_,b.length,Nat.le_refl _,?_,fun h=>absurd k0 h⟩
    ·rw[hn,hm];exact c1
    ·rw[hn,hm];exact c2
    ·rw[hn,hm];exact⟨fun _=>hae,fun _=>k0⟩
    ·show r1=_
     rw[c3,c4.1 k0];simp
   ·rw[if_neg k0]
    have hne:(rnext b q).at_≠b.length:=fun e=>k0 (c4.2 (hend.2 e))
    by_cases k6:600 < s.p+1
    ·rw[if_pos k6]
     show (now T s).e≠0
     rw[hn,ht];unfold mark
     rw[if_pos ⟨by omega,hne,c1⟩]
     exact fun h=>by cases h
    ·rw[if_neg k6]
     have hm:t=rnext b q:=by
      rw[ht];unfold mark
      rw[if_neg (fun h=>by have:=h.1;omega)]
     refine⟨hf,?_,?_,?_,(rnext b q).at_+(rnext b q).t.length,a3,?_,fun _=>⟨rfl,?_⟩⟩
     ·rw[hn,hm];exact c1
     ·rw[hn,hm];exact c2
     ·rw[hn,hm];exact⟨fun h=>absurd h k0,fun h=>absurd h hne⟩
     ·show r1=_
      rw[c3,hdrop,List.drop_drop]
     ·rw[hdr]
      rcases hr with hr|hr|hr
      ·exact absurd hr hne
      ·rw[hm] at hr;exact absurd c1 hr
      ·exact hr
theorem Sync.next {b:Bytes} {T:List Tk} (hT:T.length<=601) {s:Rs} {st:St} (h:Sync b T s st) (hk:st.tok.kind≠0) :
  match adv st with
  | none=>(now T (up s)).e≠0
  | some st'=>Sync b T (up s) st':=by
 obtain⟨h1,h2,h3,_,q,hq,hr,hn⟩:=h
 obtain⟨hn1,hn2⟩:=hn hk
 have:=sync_of hT (s:=up s) hq h1 hn2
 unfold adv
 rw[hr,hn1]
 exact this
theorem Sync.up {b:Bytes} {T:List Tk} (hT:T.length<=601) {s:Rs} {st:St} (h:Sync b T s st) (hk:st.tok.kind≠0) (hd:¬Doom T (Ref.up s)):∃st',adv st=some st'/\Sync b T (Ref.up s) st':=by
 have:=h.next hT hk
 cases ha:adv st with
 | none=>rw[ha] at this;exact absurd (Or.inr this) hd
 | some st'=>rw[ha] at this;exact⟨st',rfl,this⟩
theorem doom_node {T:List Tk} {s:Rs} (n:Nd):Doom T (node n s).2↔Doom T s:=Iff.rfl
theorem doom_is {T:List Tk} {s:Rs} (h:Doom T s) (x:Bytes):is T x s=false:=by
 unfold is
 rcases h with h|h
 ·have:(s.fe==0)=false:=by simpa using h
  rw[this];rfl
 ·have:((now T s).e==0)=false:=by simpa using h
  rw[this];simp
theorem doom_fail {T:List Tk} (e:Nat) (he:e≠0) (s:Rs):Doom T (fail T e s):=by
 unfold fail
 by_cases h:s.fe≠0
 ·rw[if_pos h];exact Or.inl h
 ·rw[if_neg h]
  refine Or.inl ?_
  show (if (now T s).e≠0 then (now T s).e else e)≠0
  by_cases h1:(now T s).e≠0
  ·rw[if_pos h1];exact h1
  ·rw[if_neg h1];exact he
theorem take_is {T:List Tk} {x:Bytes} {s:Rs} (h:¬Doom T (take T x s)):is T x s=true/\take T x s=up s:=by
 unfold take at h ⊢
 cases hi:is T x s with
 | false=>rw[hi] at h;exact absurd (doom_fail 3 (by decide) s) h
 | true=>exact⟨rfl,rfl⟩
theorem doom_take {T:List Tk} {s:Rs} (h:Doom T s) (x:Bytes):Doom T (take T x s):=by
 unfold take
 rw[doom_is h x]
 exact doom_fail 3 (by decide) s
theorem take_well {T:List Tk} {x:Bytes} {s:Rs} (h:¬Doom T (take T x s)):¬Doom T s:=fun d=>h (doom_take d x)
theorem name_is {T:List Tk} {s:Rs} (h:¬Doom T (rname T s).2):(s.fe=0/\(now T s).e=0/\(now T s).name=true)/\rname T s=(now T s,up s):=by
 unfold rname at h ⊢
 by_cases c:s.fe=0/\(now T s).e=0/\(now T s).name=true
 ·exact⟨c,by rw[if_pos c]⟩
 ·rw[if_neg c] at h;exact absurd (doom_fail 3 (by decide) s) h
theorem name_well {T:List Tk} {s:Rs} (h:¬Doom T (rname T s).2):¬Doom T s:=fun d=>by
 obtain⟨⟨h1,h2,_⟩,_⟩:=name_is h
 rcases d with d|d
 ·exact d h1
 ·exact d h2
theorem number_is {T:List Tk} {lo hi:Nat} {s:Rs} (h:¬Doom T (rnumber T lo hi s).2):(s.fe=0/\(now T s).e=0/\(now T s).number=true/\lo<=(now T s).v/\(now T s).v<=hi)/\rnumber T lo hi s=((now T s).v,up s):=by
 unfold rnumber at h ⊢
 by_cases c:s.fe=0/\(now T s).e=0/\(now T s).number=true/\lo<=(now T s).v/\(now T s).v<=hi
 ·exact⟨c,by rw[if_pos c]⟩
 ·rw[if_neg c] at h;exact absurd (doom_fail 3 (by decide) s) h
theorem number_well {T:List Tk} {lo hi:Nat} {s:Rs} (h:¬Doom T (rnumber T lo hi s).2):¬Doom T s:=fun d=>by
 obtain⟨⟨h1,h2,_⟩,_⟩:=number_is h
 rcases d with d|d
 ·exact d h1
 ·exact d h2
theorem typed_well {T:List Tk} {s:Rs} (h:¬Doom T (rtyped T s).2):¬Doom T s:=fun d=>by
 unfold rtyped at h
 rw[doom_is d] at h
 exact h (doom_take d _)
theorem const_well {T:List Tk} {s:Rs} (h:¬Doom T (rconst T s).2):¬Doom T s:=fun d=>by
 unfold rconst at h
 rw[doom_is d,doom_is d,doom_is d] at h
 exact number_well (h:¬Doom T (rnumber T 0 9223372036854775807 s).2) d
theorem atom_doom {T:List Tk} {f:Nat->Nat->Rs->Option (Nat×Rs)} {s:Rs} {x:Nat×Rs} (h:ratom T f s=some x) (d:Doom T s):Doom T x.2:=by
 unfold ratom at h
 by_cases c1:s.fe≠0
 ·rw[if_pos c1] at h
  obtain rfl:=osi h;exact d
 ·have c2:(now T s).e≠0:=by
   rcases d with d|d
   ·exact absurd d c1
   ·exact d
  rw[if_neg c1,if_neg (fun h=>c2 h.1),if_neg (fun h=>c2 h.1),if_pos c2] at h
  obtain rfl:=osi h
  exact doom_fail 3 (by decide) s
theorem rx_doom {T:List Tk}:∀(n t l:Nat) (s:Rs) (x:Nat×Rs),rx T n t l s=some x->Doom T s->Doom T x.2
 | 0,_,_,_,_,h,_=>by cases h
 | n+1,t,l,s,x,h,d=>by
  have ih:=rx_doom (T:=T) n
  rw[rx,rstep] at h
  rw[doom_is d,doom_is d,doom_is d] at h
  by_cases t0:t=0
  ·rw[if_pos t0] at h
   exact ih _ _ _ _ h d
  rw[if_neg t0] at h
  by_cases t8:t=8
  ·rw[if_pos t8] at h
   exact atom_doom h d
  rw[if_neg t8] at h
  by_cases t7:t=7
  ·rw[if_pos t7] at h
   exact ih _ _ _ _ h d
  rw[if_neg t7] at h
  by_cases t3:t=3
  ·rw[if_pos t3] at h
   exact ih _ _ _ _ h d
  rw[if_neg t3] at h
  by_cases tl:t < 8
  ·rw[if_pos tl] at h
   obtain⟨y,hy,h⟩:=obs h
   exact ih _ _ _ _ h (ih _ _ _ _ hy d)
  rw[if_neg tl,if_neg (fun h=>by rcases d with d|d;exact d h.1;exact d h.2.1)] at h
  obtain rfl:=osi h
  exact d
theorem rx_well {T:List Tk} {n t l:Nat} {s:Rs} {x:Nat×Rs} (h:rx T n t l s=some x) (k:¬Doom T x.2):¬Doom T s:=fun d=>k (rx_doom n t l s x h d)
def Fx (x:Bytes):Prop:=∃c r,x=c::r/\isD c=false
theorem Sync.sees {b:Bytes} {T:List Tk} {s:Rs} {st:St} (h:Sync b T s st) {x:Bytes} (hx:Fx x):is T x s=sees st x:=by
 obtain⟨h1,h2,h3,_⟩:=h
 obtain⟨c,r,rfl,hc⟩:=hx
 have e1:(s.fe==0)=true:=by simpa using h1
 have e2:((now T s).e==0)=true:=by simpa using h2
 unfold is Mil.sees
 rw[e1,e2]
 rcases h3 with ⟨k1,k2,k3,k4⟩|⟨k1,k2,k3,k4⟩|⟨k1,k2,k3,k4,_,c',r',k5,k6⟩|⟨k1,k2,k3,k4,k5⟩
 ·rw[k1,k2,k3];rfl
 ·rw[k1,k3];simp
 ·rw[k1,k3,k5]
  have:((c'::r')==(c::r))=false:=by
   rw[beq_eq_false_iff_ne]
   intro e
   have:c'=c:=by injection e
   rw[this,hc] at k6;cases k6
  rw[this];rfl
 ·rw[k1,k2,k3];simp
theorem Sync.kind {b:Bytes} {T:List Tk} {s:Rs} {st:St} (h:Sync b T s st) {x:Bytes} (hx:Fx x) (hi:is T x s=true):st.tok.kind=3/\st.tok.txt=x:=by
 rw[h.sees hx] at hi
 unfold Mil.sees at hi
 simpa using hi
theorem Sync.named {b:Bytes} {T:List Tk} {s:Rs} {st:St} (h:Sync b T s st):((now T s).name=true↔st.tok.kind=1)/\((now T s).number=true↔st.tok.kind=2)/\((now T s).name=true->st.tok.txt=(now T s).t)/\((now T s).number=true->st.tok.val=((now T s).v:Int)/\(now T s).v<=9223372036854775807):=by
 rcases h.2.2.1 with ⟨k1,k2,k3,k4⟩|⟨k1,k2,k3,k4⟩|⟨k1,k2,k3,k4,k5,_⟩|⟨k1,k2,k3,k4,k5⟩
 ·rw[k1,k3,k4];simp
 ·rw[k1,k3,k4];simp[k2]
 ·rw[k1,k3,k4];simp[k2,k5]
 ·rw[k1,k3,k4];simp
theorem Sync.take {b:Bytes} {T:List Tk} (hT:T.length<=601) {s:Rs} {st:St} (h:Sync b T s st) {x:Bytes} (hx:Fx x) (hd:¬Doom T (Ref.take T x s)):∃st',want st x=some st'/\Sync b T (Ref.take T x s) st':=by
 obtain⟨h1,h2⟩:=take_is hd
 rw[h2] at hd ⊢
 obtain⟨st',h3,h4⟩:=h.up hT (by rw[(h.kind hx h1).1];decide) hd
 refine⟨st',?_,h4⟩
 unfold want
 rw[<-h.sees hx,h1,if_pos rfl,h3]
theorem Sync.name {b:Bytes} {T:List Tk} (hT:T.length<=601) {s:Rs} {st:St} (h:Sync b T s st) (hd:¬Doom T (rname T s).2):∃st',Mil.name st=some ((rname T s).1.t,st')/\Sync b T (rname T s).2 st':=by
 obtain⟨⟨_,_,h1⟩,h2⟩:=name_is hd
 rw[h2] at hd ⊢
 have hk:=h.named.1.1 h1
 obtain⟨st',h3,h4⟩:=h.up hT (by rw[hk];decide) hd
 refine⟨st',?_,h4⟩
 unfold Mil.name
 rw[if_pos hk,h3,h.named.2.2.1 h1];rfl
theorem Sync.number {b:Bytes} {T:List Tk} (hT:T.length<=601) {s:Rs} {st:St} (h:Sync b T s st) {lo hi:Nat} (hd:¬Doom T (rnumber T lo hi s).2):∃st',Mil.number (lo:Int) (hi:Int) st=some ((rnumber T lo hi s).1,st')/\Sync b T (rnumber T lo hi s).2 st':=by
 obtain⟨⟨_,_,h1,h5,h6⟩,h2⟩:=number_is hd
 rw[h2] at hd ⊢
 have hk:=h.named.2.1.1 h1
 have hv:=(h.named.2.2.2 h1).1
 obtain⟨st',h3,h4⟩:=h.up hT (by rw[hk];decide) hd
 refine⟨st',?_,h4⟩
 unfold Mil.number
 rw[if_pos ⟨hk,by rw[hv];omega,by rw[hv];omega⟩,h3,hv];rfl
theorem Sync.typed {b:Bytes} {T:List Tk} (hT:T.length<=601) {s:Rs} {st:St} (h:Sync b T s st) (hd:¬Doom T (rtyped T s).2):∃st',ftype st=some ((rtyped T s).1,st')/\Sync b T (rtyped T s).2 st':=by
 have f1:Fx wBool:=⟨_,_,rfl,by decide⟩
 have f2:Fx wInt:=⟨_,_,rfl,by decide⟩
 unfold rtyped at hd ⊢
 unfold ftype
 cases hi:is T wBool s with
 | true=>
  rw[hi,if_pos rfl] at hd
  have hk:=h.kind f1 hi
  obtain⟨st',h3,h4⟩:=h.up hT (by rw[hk.1];decide) hd
  refine⟨st',?_,h4⟩
  have:Mil.sees st wInt=false:=by
   unfold Mil.sees;rw[hk.2];simp;intro _;decide
  rw[this,if_neg (by decide),<-h.sees f1,hi,if_pos rfl,h3];rfl
 | false=>
  rw[hi,if_neg (by decide)] at hd
  obtain⟨h1,h2⟩:=take_is hd
  rw[h2] at hd
  have hk:=h.kind f2 h1
  obtain⟨st',h3,h4⟩:=h.up hT (by rw[hk.1];decide) hd
  refine⟨st',?_,by rw[if_neg (by decide)];exact h2 ▸ h4⟩
  rw[<-h.sees f2,h1,if_pos rfl,h3];rfl
end Ref
end
section
namespace Ref
open Mil
def Rep (ns:List Nd):E->Nat->Nat->Prop
 | .nil,_,_=>False
 | .node t k x a b,i,j=>
  (t=0/\Rep ns a i 0/\Rep ns b j 0)\/(t=1/\∃p,ns[i]?=some ⟨1,[],p,k,false,0,0,0⟩)\/(t=2/\∃p,ns[i]?=some ⟨2,[],p,k,false,0,0,0⟩) \/
  (t=3/\∃p,ns[i]?=some ⟨3,x,p,0,false,0,0,0⟩)\/(t=4/\x=sMinus/\∃p v,a=eInt v/\ns[i]?=some ⟨1,[],p,v,true,0,0,0⟩) \/
  (t=4/\∃p a',ns[i]?=some ⟨4,x,p,0,false,a',0,0⟩/\a' < i/\Rep ns a a' 0)\/(t=8/\∃p a',ns[i]?=some ⟨8,wUnder,p,k,false,a',0,0⟩/\a' < i/\Rep ns a a' 0) \/
  (t=6/\∃p a' b' c',ns[i]?=some ⟨6,wIf,p,0,false,a',b',c'⟩/\a' < i/\b' < i/\c' < i/\Rep ns a a' 0/\Rep ns b b' c') \/
  (∃p a' b' y v,((t=5/\y=x/\v=0)\/(t=7/\y=wFby/\v=0)\/(t=9/\y=wHold/\v=k)\/(t=10/\y=x/\v=0))/\ns[i]?=some ⟨t,y,p,v,false,a',b',0⟩/\a' < i/\b' < i/\Rep ns a a' 0/\Rep ns b b' 0)
theorem Rep.mono {ns ns':List Nd} (h:∀(i:Nat) (n:Nd),ns[i]?=some n->ns'[i]?=some n):∀{e:E} {i j:Nat},Rep ns e i j->Rep ns' e i j:=by
 intro e
 induction e with
 | nil=>intro i j hr;exact hr
 | node t k x a b iha ihb=>
  intro i j hr
  rcases hr with ⟨c,d1,d2⟩|⟨c,p,d⟩|⟨c,p,d⟩|⟨c,p,d⟩|⟨c,c2,p,v,d1,d2⟩|⟨c,p,a',d1,d2,d3⟩|⟨c,p,a',d1,d2,d3⟩|⟨c,p,a',b',c',d1,d2,d3,d4,d5,d6⟩|⟨p,a',b',y,v,c,d1,d2,d3,d4,d5⟩
  ·exact Or.inl ⟨c,iha d1,ihb d2⟩
  ·exact Or.inr (Or.inl ⟨c,p,h _ _ d⟩)
  ·exact Or.inr (Or.inr (Or.inl ⟨c,p,h _ _ d⟩))
  ·exact Or.inr (Or.inr (Or.inr (Or.inl ⟨c,p,h _ _ d⟩)))
  ·exact Or.inr (Or.inr (Or.inr (Or.inr (Or.inl ⟨c,c2,p,v,d1,h _ _ d2⟩))))
  ·exact Or.inr (Or.inr (Or.inr (Or.inr (Or.inr (Or.inl ⟨c,p,a',h _ _ d1,d2,iha d3⟩)))))
  ·exact Or.inr (Or.inr (Or.inr (Or.inr (Or.inr (Or.inr (Or.inl ⟨c,p,a',h _ _ d1,d2,iha d3⟩))))))
  ·exact Or.inr (Or.inr (Or.inr (Or.inr (Or.inr (Or.inr (Or.inr (Or.inl ⟨c,p,a',b',c',h _ _ d1,d2,d3,d4,iha d5,ihb d6⟩)))))))
  ·exact Or.inr (Or.inr (Or.inr (Or.inr (Or.inr (Or.inr (Or.inr (Or.inr ⟨p,a',b',y,v,c,h _ _ d1,d2,d3,iha d4,ihb d5⟩)))))))
def Has (ns:List Nd) (e:E) (i:Nat):Prop:=i < ns.length/\Rep ns e i 0
def Gr (s t:Rs):Prop:=∃m,t.ns=s.ns++m
theorem Gr.refl (s:Rs):Gr s s:=⟨[],by simp⟩
theorem Gr.of {s t:Rs} (h:t.ns=s.ns):Gr s t:=⟨[],by simp[h]⟩
theorem Gr.trans {s t u:Rs} (h:Gr s t) (k:Gr t u):Gr s u:=by
 obtain⟨m,hm⟩:=h
 obtain⟨l,hl⟩:=k
 exact⟨m++l,by rw[hl,hm];simp⟩
theorem Gr.node {s t:Rs} (h:Gr s t) (n:Nd):Gr s (node n t).2:=h.trans ⟨[n],rfl⟩
theorem Gr.get {s t:Rs} (h:Gr s t) (i:Nat) (n:Nd) (k:s.ns[i]?=some n):t.ns[i]?=some n:=by
 obtain⟨m,hm⟩:=h
 rw[hm,List.getElem?_append_left (lgs k).1,k]
theorem Gr.len {s t:Rs} (h:Gr s t):s.ns.length<=t.ns.length:=by
 obtain⟨m,hm⟩:=h
 rw[hm,List.length_append];omega
theorem Has.grow {s t:Rs} {e:E} {i:Nat} (h:Has s.ns e i) (k:Gr s t):Has t.ns e i:=⟨Nat.lt_of_lt_of_le h.1 k.len,h.2.mono k.get⟩
theorem Rep.grow {s t:Rs} {e:E} {i j:Nat} (h:Rep s.ns e i j) (k:Gr s t):Rep t.ns e i j:=h.mono k.get
theorem node_get (n:Nd) (s:Rs):(node n s).2.ns[(node n s).1]?=some n:=by
 show (s.ns++[n])[s.ns.length]?=some n
 rw[List.getElem?_append_right nlr,Nat.sub_self];rfl
theorem node_lt (n:Nd) (s:Rs):(node n s).1 < (node n s).2.ns.length:=by
 show s.ns.length < (s.ns++[n]).length
 rw[List.length_append,List.length_singleton];omega
theorem ns_fail (T:List Tk) (e:Nat) (s:Rs):(fail T e s).ns=s.ns:=(fail_same T e s).2
theorem ns_take (T:List Tk) (x:Bytes) (s:Rs):(take T x s).ns=s.ns:=by
 unfold take
 split
 ·rfl
 ·exact ns_fail T 3 s
theorem ns_number (T:List Tk) (lo hi:Nat) (s:Rs):(rnumber T lo hi s).2.ns=s.ns:=by
 unfold rnumber
 split
 ·rfl
 ·exact ns_fail T 3 s
theorem ns_name (T:List Tk) (s:Rs):(rname T s).2.ns=s.ns:=by
 unfold rname
 split
 ·rfl
 ·exact ns_fail T 3 s
theorem ns_typed (T:List Tk) (s:Rs):(rtyped T s).2.ns=s.ns:=by
 unfold rtyped
 split
 ·rfl
 ·exact ns_take T wInt s
theorem gr_up (s:Rs):Gr s (up s):=Gr.of rfl
theorem gr_fail (T:List Tk) (e:Nat) (s:Rs):Gr s (fail T e s):=Gr.of (ns_fail T e s)
theorem gr_take (T:List Tk) (x:Bytes) (s:Rs):Gr s (take T x s):=Gr.of (ns_take T x s)
theorem gr_number (T:List Tk) (lo hi:Nat) (s:Rs):Gr s (rnumber T lo hi s).2:=Gr.of (ns_number T lo hi s)
theorem gr_const (T:List Tk) (s:Rs):Gr s (rconst T s).2:=by
 unfold rconst
 split
 ·exact (gr_up s).node _
 split
 ·exact (gr_up s).node _
 split
 ·exact ((gr_up s).trans (gr_number T 0 9223372036854775807 _)).node _
 ·exact (gr_number T 0 9223372036854775807 _).node _
theorem gr_atom {T:List Tk} {f:Nat->Nat->Rs->Option (Nat×Rs)} (hf:∀t l s x,f t l s=some x->Gr s x.2) {s:Rs} {x:Nat×Rs} (h:ratom T f s=some x):Gr s x.2:=by
 unfold ratom at h
 by_cases c0:s.fe≠0
 ·rw[if_pos c0] at h
  obtain rfl:=osi h;exact Gr.refl _
 rw[if_neg c0] at h
 by_cases c1:(now T s).e=0/\(now T s).number=true
 ·rw[if_pos c1] at h
  obtain rfl:=osi h;exact (gr_up s).node _
 rw[if_neg c1] at h
 by_cases c2:(now T s).e=0/\(now T s).name=true
 ·rw[if_pos c2] at h
  obtain rfl:=osi h;exact (gr_up s).node _
 rw[if_neg c2] at h
 by_cases c3:(now T s).e≠0
 ·rw[if_pos c3] at h
  obtain rfl:=osi h;exact gr_fail T 3 s
 rw[if_neg c3] at h
 by_cases c4:(now T s).t=wTrue\/(now T s).t=wFalse
 ·rw[if_pos c4] at h
  obtain rfl:=osi h;exact gr_const T s
 rw[if_neg c4] at h
 by_cases c5:(now T s).t=sOpen
 ·rw[if_pos c5] at h
  obtain⟨y,hy,rfl⟩:=oms h
  exact ((gr_up s).trans (hf _ _ _ _ hy)).trans (gr_take T _ _)
 rw[if_neg c5] at h
 by_cases c6:(now T s).t=wFby
 ·rw[if_pos c6] at h
  obtain⟨y,hy,rfl⟩:=oms h
  exact ((((((gr_up s).trans (gr_take T _ _)).trans (gr_const T _)).trans (gr_take T _ _)).trans (hf _ _ _ _ hy)).trans (gr_take T _ _)).node _
 rw[if_neg c6] at h
 by_cases c7:(now T s).t=wHold
 ·rw[if_pos c7] at h
  obtain⟨y,hy,rfl⟩:=oms h
  exact ((((((((gr_up s).trans (gr_take T _ _)).trans (gr_const T _)).trans (gr_take T _ _)).trans (hf _ _ _ _ hy)).trans (gr_take T _ _)).trans (gr_number T _ _ _)).trans (gr_take T _ _)).node _
 rw[if_neg c7] at h
 by_cases c8:(now T s).t=wUnder
 ·rw[if_pos c8] at h
  obtain⟨y,hy,rfl⟩:=oms h
  exact ((((((gr_up s).trans (gr_take T _ _)).trans (hf _ _ _ _ hy)).trans (gr_take T _ _)).trans (gr_number T _ _ _)).trans (gr_take T _ _)).node _
 rw[if_neg c8] at h
 by_cases c9:(now T s).t=wMin\/(now T s).t=wMax
 ·rw[if_pos c9] at h
  obtain⟨y,hy,h⟩:=obs h
  obtain⟨z,hz,rfl⟩:=oms h
  exact ((((((gr_up s).trans (gr_take T _ _)).trans (hf _ _ _ _ hy)).trans (gr_take T _ _)).trans (hf _ _ _ _ hz)).trans (gr_take T _ _)).node _
 rw[if_neg c9] at h
 obtain rfl:=osi h;exact gr_fail T 3 s
theorem rx_gr {T:List Tk}:∀(n t l:Nat) (s:Rs) (x:Nat×Rs),rx T n t l s=some x->Gr s x.2
 | 0,_,_,_,_,h=>by cases h
 | n+1,t,l,s,x,h=>by
  have ih:=rx_gr (T:=T) n
  rw[rx,rstep] at h
  split at h
  ·split at h
   ·obtain⟨y,hy,h⟩:=obs h
    obtain⟨z,hz,h⟩:=obs h
    obtain⟨u,hu,rfl⟩:=oms h
    exact ((((((gr_up s).trans (ih _ _ _ _ hy)).trans (gr_take T _ _)).trans (ih _ _ _ _ hz)).trans (gr_take T _ _)).trans (ih _ _ _ _ hu)).node _
   ·exact ih _ _ _ _ h
  split at h
  ·exact gr_atom ih h
  split at h
  ·split at h
   ·obtain⟨y,hy,rfl⟩:=oms h
    exact ((gr_up s).trans (ih _ _ _ _ hy)).node _
   ·exact ih _ _ _ _ h
  split at h
  ·split at h
   ·obtain⟨y,hy,rfl⟩:=oms h
    exact ((gr_up s).trans (ih _ _ _ _ hy)).node _
   ·exact ih _ _ _ _ h
  split at h
  ·obtain⟨y,hy,h⟩:=obs h
   exact (ih _ _ _ _ hy).trans (ih _ _ _ _ h)
  split at h
  ·obtain⟨y,hy,h⟩:=obs h
   have g:=(gr_up s).trans (ih _ _ _ _ hy)
   split at h
   ·obtain rfl:=osi h
    exact g.node _
   ·exact (g.node _).trans (ih _ _ _ _ h)
  ·obtain rfl:=osi h;exact Gr.refl _
theorem fx (x:Bytes) (h:(match x with|[]=>true|c::_=>isD c)=false):Fx x:=by
 cases x with
 | nil=>cases h
 | cons c r=>exact⟨c,r,rfl,h⟩
theorem has_int {ns:List Nd} {i k p:Nat} (h:ns[i]?=some ⟨1,[],p,k,false,0,0,0⟩):Has ns (eInt k) i:=⟨(lgs h).1,Or.inr (Or.inl ⟨rfl,p,h⟩)⟩
theorem has_bool {ns:List Nd} {i k p:Nat} (h:ns[i]?=some ⟨2,[],p,k,false,0,0,0⟩):Has ns (eBool k) i:=⟨(lgs h).1,Or.inr (Or.inr (Or.inl ⟨rfl,p,h⟩))⟩
theorem has_name {ns:List Nd} {i p:Nat} {x:Bytes} (h:ns[i]?=some ⟨3,x,p,0,false,0,0,0⟩):Has ns (eName x) i:=⟨(lgs h).1,Or.inr (Or.inr (Or.inr (Or.inl ⟨rfl,p,h⟩)))⟩
theorem has_neg {ns:List Nd} {i k p:Nat} (h:ns[i]?=some ⟨1,[],p,k,true,0,0,0⟩):Has ns (ePre sMinus (eInt k)) i:=⟨(lgs h).1,Or.inr (Or.inr (Or.inr (Or.inr (Or.inl ⟨rfl,rfl,p,k,rfl,h⟩))))⟩
theorem has_pre {s:Rs} {p a:Nat} {x:Bytes} {e:E} (h:Has s.ns e a):Has (node ⟨4,x,p,0,false,a,0,0⟩ s).2.ns (ePre x e) (node ⟨4,x,p,0,false,a,0,0⟩ s).1:=
 ⟨node_lt _ _,Or.inr (Or.inr (Or.inr (Or.inr (Or.inr (Or.inl ⟨rfl,p,a,node_get _ _,h.1,h.2.grow ((Gr.refl s).node _)⟩)))))⟩
theorem has_under {s:Rs} {p a k:Nat} {e:E} (h:Has s.ns e a):Has (node ⟨8,wUnder,p,k,false,a,0,0⟩ s).2.ns (eUnder e k) (node ⟨8,wUnder,p,k,false,a,0,0⟩ s).1:=
 ⟨node_lt _ _,Or.inr (Or.inr (Or.inr (Or.inr (Or.inr (Or.inr (Or.inl ⟨rfl,p,a,node_get _ _,h.1,h.2.grow ((Gr.refl s).node _)⟩))))))⟩
theorem has_if {s:Rs} {p a b c:Nat} {e f g:E} (h1:Has s.ns e a) (h2:Has s.ns f b) (h3:Has s.ns g c):Has (node ⟨6,wIf,p,0,false,a,b,c⟩ s).2.ns (eIf e f g) (node ⟨6,wIf,p,0,false,a,b,c⟩ s).1:=
 ⟨node_lt _ _,Or.inr (Or.inr (Or.inr (Or.inr (Or.inr (Or.inr (Or.inr (Or.inl ⟨rfl,p,a,b,c,node_get _ _,h1.1,h2.1,h3.1,h1.2.grow ((Gr.refl s).node _),Or.inl ⟨rfl,h2.2.grow ((Gr.refl s).node _),h3.2.grow ((Gr.refl s).node _)⟩⟩)))))))⟩
theorem has_two {s:Rs} {t k p a b v:Nat} {x y:Bytes} {e f:E} (hc:(t=5/\y=x/\v=0)\/(t=7/\y=wFby/\v=0)\/(t=9/\y=wHold/\v=k)\/(t=10/\y=x/\v=0)) (h1:Has s.ns e a) (h2:Has s.ns f b) :
  Has (node ⟨t,y,p,v,false,a,b,0⟩ s).2.ns (.node t k x e f) (node ⟨t,y,p,v,false,a,b,0⟩ s).1:=
 ⟨node_lt _ _,Or.inr (Or.inr (Or.inr (Or.inr (Or.inr (Or.inr (Or.inr (Or.inr ⟨p,a,b,y,v,hc,node_get _ _,h1.1,h2.1,h1.2.grow ((Gr.refl s).node _),h2.2.grow ((Gr.refl s).node _)⟩)))))))⟩
theorem sees_of {st:St} {x:Bytes} (h:st.tok.kind=3/\st.tok.txt=x) (y:Bytes):sees st y=(x==y):=by
 unfold sees;rw[h.1,h.2];rfl
theorem literal_of {b:Bytes} {T:List Tk} (hT:T.length<=601) {s:Rs} {st:St} (h:Sync b T s st) (k1:is T wTrue s=false) (k2:is T wFalse s=false) (hd:¬Doom T (rnumber T 0 9223372036854775807 s).2) :
  ∃st',literal st=some (eInt (rnumber T 0 9223372036854775807 s).1,st')/\Sync b T (rnumber T 0 9223372036854775807 s).2 st':=by
 obtain⟨st',h1,h2⟩:=h.number hT hd
 refine⟨st',?_,h2⟩
 unfold literal
 rw[<-h.sees (fx wTrue (by decide)),k1,if_neg (by decide),<-h.sees (fx wFalse (by decide)),k2,if_neg (by decide)]
 have:number 0 maxInt st=number ((0:Nat):Int) ((9223372036854775807:Nat):Int) st:=rfl
 rw[this,h1];rfl
theorem literal_bool {b:Bytes} {T:List Tk} (hT:T.length<=601) {s:Rs} {st:St} (h:Sync b T s st) {x:Bytes} {k:Nat} (hx:(x=wTrue/\k=1)\/(x=wFalse/\k=0)) (hi:is T x s=true) (hd:¬Doom T (up s)) :
  ∃st',literal st=some (eBool k,st')/\Sync b T (up s) st':=by
 have hf:Fx x:=by rcases hx with ⟨rfl,_⟩|⟨rfl,_⟩ <;> exact fx _ (by decide)
 have hk:=h.kind hf hi
 obtain⟨st',h3,h4⟩:=h.up hT (by rw[hk.1];decide) hd
 refine⟨st',?_,h4⟩
 unfold literal
 rw[sees_of hk,sees_of hk]
 rcases hx with ⟨rfl,rfl⟩|⟨rfl,rfl⟩
 ·rw[if_pos (by decide),h3];rfl
 ·rw[if_neg (by decide),if_pos (by decide),h3];rfl
theorem Sync.const {b:Bytes} {T:List Tk} (hT:T.length<=601) {s:Rs} {st:St} (h:Sync b T s st) (hd:¬Doom T (rconst T s).2):∃e st',constant st=some (e,st')/\Sync b T (rconst T s).2 st'/\Has (rconst T s).2.ns e (rconst T s).1:=by
 unfold rconst at hd ⊢
 unfold constant
 by_cases i1:is T wTrue s=true
 ·rw[if_pos i1] at hd ⊢
  have hk:=h.kind (fx wTrue (by decide)) i1
  obtain⟨st',h1,h2⟩:=literal_bool hT h (Or.inl ⟨rfl,rfl⟩) i1 hd
  refine⟨_,st',?_,h2,has_bool (node_get _ _)⟩
  rw[sees_of hk,if_neg (by decide),h1]
 rw[if_neg i1] at hd ⊢
 by_cases i2:is T wFalse s=true
 ·rw[if_pos i2] at hd ⊢
  have hk:=h.kind (fx wFalse (by decide)) i2
  obtain⟨st',h1,h2⟩:=literal_bool hT h (Or.inr ⟨rfl,rfl⟩) i2 hd
  refine⟨_,st',?_,h2,has_bool (node_get _ _)⟩
  rw[sees_of hk,if_neg (by decide),h1]
 rw[if_neg i2] at hd ⊢
 by_cases i3:is T sMinus s=true
 ·rw[if_pos i3] at hd ⊢
  have hk:=h.kind (fx sMinus (by decide)) i3
  have hd1:¬Doom T (Ref.up s):=number_well (hd:¬Doom T (rnumber T 0 9223372036854775807 (Ref.up s)).2)
  obtain⟨st1,h1,h2⟩:=h.up hT (by rw[hk.1];decide) hd1
  obtain⟨st',h3,h4⟩:=h2.number hT (hd:¬Doom T (rnumber T 0 9223372036854775807 (Ref.up s)).2)
  refine⟨_,st',?_,h4,has_neg (node_get _ _)⟩
  have e:Mil.number 0 maxInt st1=Mil.number ((0:Nat):Int) ((9223372036854775807:Nat):Int) st1:=rfl
  rw[sees_of hk,if_pos (by decide),h1,Option.bind_some,e,h3];rfl
 rw[if_neg i3] at hd ⊢
 obtain⟨st',h1,h2⟩:=literal_of hT h (by simpa using i1) (by simpa using i2) (hd:¬Doom T (rnumber T 0 9223372036854775807 s).2)
 refine⟨_,st',?_,h2,has_int (node_get _ _)⟩
 rw[<-h.sees (fx sMinus (by decide)),if_neg i3,h1]
end Ref
end
end Go.Proofs.YtoiajojadihpbaaGreatDoor
