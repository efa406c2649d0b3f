import Derived.Test.YtoiajojadihpbaaGreatDoorQt32
import Derived.Test.YtoiajojadihpbaaGreatDoorQt27
import Derived.Test.YtoiajojadihpbaaGreatDoorQt12
import Derived.Test.YtoiajojadihpbaaGreatDoorQt19
import Derived.Laws.Concat
import Derived.Laws.IdiomStrings
namespace Go.Proofs.YtoiajojadihpbaaGreatDoor
set_option maxHeartbeats 8000000
set_option maxRecDepth 100000
section
namespace Ref
open Mil
def Good (b:Bytes) (T:List Tk) (f:Nat->Nat->Rs->Option (Nat×Rs)):Prop:=∀(t l:Nat) (s:Rs) (x:Nat×Rs),f t l s=some x->¬Doom T x.2->∀st left,Sync b T s st->(t < 9\/(10 < t/\t < 18))->(10<=t->Has s.ns left l)->(t < 10->left=eNil) ->
 ∃e st',Ok t left st (e,st')/\Sync b T x.2 st'/\Has x.2.ns e x.1
theorem not_name {st:St} {x:Bytes} (h:st.tok.kind=3/\st.tok.txt=x):st.tok.kind≠1:=by rw[h.1];decide
theorem level_tight (x:Bytes):(level x=tightOf x/\level x≠0)\/(level x=0/\tightOf x=9):=by
 unfold level tightOf
 by_cases c1:x=wOr\/x=wXor
 ·rw[if_pos c1,if_pos c1];exact Or.inl ⟨rfl,by decide⟩
 rw[if_neg c1,if_neg c1]
 by_cases c2:x=wAnd
 ·rw[if_pos c2,if_pos c2];exact Or.inl ⟨rfl,by decide⟩
 rw[if_neg c2,if_neg c2]
 by_cases c3:x=sLt\/x=sLe\/x=sGt\/x=sGe\/x=sEq\/x=sNe
 ·rw[if_pos c3,if_pos c3];exact Or.inl ⟨rfl,by decide⟩
 rw[if_neg c3,if_neg c3]
 by_cases c4:x=sPlus\/x=sMinus
 ·rw[if_pos c4,if_pos c4];exact Or.inl ⟨rfl,by decide⟩
 rw[if_neg c4,if_neg c4]
 by_cases c5:x=sTimes\/x=sOver\/x=sRest
 ·rw[if_pos c5,if_pos c5];exact Or.inl ⟨rfl,by decide⟩
 rw[if_neg c5,if_neg c5];exact Or.inr ⟨rfl,rfl⟩
theorem level_digit {x:Bytes} (h:∃c r,x=c::r/\isD c=true):level x=0:=by
 obtain⟨c,r,rfl,hc⟩:=h
 have no:∀y:Bytes,Fx y->(c::r)≠y:=fun y hy e=>by
  obtain⟨c',r',rfl,h'⟩:=hy
  injection e with e1 _
  rw[<-e1,hc] at h';cases h'
 have f:∀y:Bytes,(match y with|[]=>true|c::_=>isD c)=false->(c::r)≠y:=fun y hy=>no y (fx y hy)
 unfold level
 rw[if_neg,if_neg,if_neg,if_neg,if_neg]
 ·rintro (h|h|h) <;> exact f _ (by decide) h
 ·rintro (h|h) <;> exact f _ (by decide) h
 ·rintro (h|h|h|h|h|h) <;> exact f _ (by decide) h
 ·exact f _ (by decide)
 ·rintro (h|h) <;> exact f _ (by decide) h
theorem Sync.oper {b:Bytes} {T:List Tk} {s:Rs} {st:St} (h:Sync b T s st) {l:Nat} (hl:l≠0) (h9:l≠9) :
  (s.fe=0/\(now T s).e=0/\(now T s).name=false/\level (now T s).t=l)↔Mil.opAt st=l:=by
 obtain⟨h1,h2,h3,_⟩:=h
 have lt:=level_tight (now T s).t
 unfold Mil.opAt
 rcases h3 with ⟨k1,k2,k3,k4⟩|⟨k1,k2,k3,k4⟩|⟨k1,k2,k3,k4,_,k5⟩|⟨k1,k2,k3,k4,k5⟩
 ·rw[k1,k2,if_neg (by decide)]
  refine⟨fun h=>?_,fun h=>absurd h.symm h9⟩
  have:level []=0:=by decide
  omega
 ·rw[k1,k3,if_neg (by decide)]
  exact⟨fun h=>(by have:=h.2.2.1;cases this),fun h=>absurd h.symm h9⟩
 ·rw[k1,if_neg (by decide)]
  have:=level_digit k5
  exact⟨fun h=>by omega,fun h=>absurd h.symm h9⟩
 ·rw[k1,if_pos rfl,k2]
  refine⟨fun h=>by omega,fun h=>⟨h1,h2,k3,by omega⟩⟩
theorem Sync.fixed {b:Bytes} {T:List Tk} {s:Rs} {st:St} (h:Sync b T s st) (k:(now T s).name=false) (j:(now T s).number=false) {x:Bytes} (hx:x≠[]) (e:(now T s).t=x):st.tok.kind=3/\st.tok.txt=x:=by
 rcases h.2.2.1 with ⟨k1,k2,k3,k4⟩|⟨k1,k2,k3,k4⟩|⟨k1,k2,k3,k4,_,k5⟩|⟨k1,k2,k3,k4,k5⟩
 ·exact absurd (e.symm.trans k2) hx
 ·rw[k] at k3;cases k3
 ·rw[j] at k4;cases k4
 ·exact⟨k1,k2.trans e⟩
theorem atom_good {b:Bytes} {T:List Tk} (hT:T.length<=601) {n:Nat} (hf:Good b T (rx T n)) {s:Rs} {x:Nat×Rs} (h:ratom T (rx T n) s=some x) (hd:¬Doom T x.2) {st:St} (hs:Sync b T s st) :
  ∃e st',Ok 8 eNil st (e,st')/\Sync b T x.2 st'/\Has x.2.ns e x.1:=by
 have ex:∀{s1:Rs} {y:Nat×Rs} {st1:St},rx T n 0 0 s1=some y->¬Doom T y.2->Sync b T s1 st1->∃e st',Ok 0 eNil st1 (e,st')/\Sync b T y.2 st'/\Has y.2.ns e y.1:=fun {s1 y st1} h1 h2 h3=>hf 0 0 s1 y h1 h2 st1 eNil h3 (Or.inl (by omega)) (fun h=>by omega) (fun _=>rfl)
 have f0:s.fe=0:=hs.1
 have e0:(now T s).e=0:=hs.2.1
 unfold ratom at h
 rw[if_neg (fun k=>k f0)] at h
 by_cases c2:(now T s).e=0/\(now T s).number=true
 ·rw[if_pos c2] at h
  obtain rfl:=osi h
  have hk:=hs.named.2.1.1 c2.2
  obtain⟨hv,hm⟩:=hs.named.2.2.2 c2.2
  obtain⟨st',h1,h2⟩:=hs.up hT (by rw[hk];decide) hd
  refine⟨_,st',ok_atom0 (fun f=>?_),h2,has_int (node_get _ _)⟩
  have no:∀y,sees st y=false:=fun y=>by unfold sees;rw[hk];rfl
  unfold atom literal number
  rw[if_neg (by rw[hk];decide),no,no,no,no,no,no,no,no]
  simp only[Bool.false_eq_true,if_false,Bool.or_false]
  rw[if_pos ⟨hk,by rw[hv];omega,by rw[hv];unfold maxInt;omega⟩,h1,hv];rfl
 rw[if_neg c2] at h
 by_cases c3:(now T s).e=0/\(now T s).name=true
 ·rw[if_pos c3] at h
  obtain rfl:=osi h
  have hk:=hs.named.1.1 c3.2
  obtain⟨st',h1,h2⟩:=hs.up hT (by rw[hk];decide) hd
  refine⟨_,st',ok_atom0 (fun f=>?_),h2,has_name (node_get _ _)⟩
  unfold atom name
  rw[if_pos hk,if_pos hk,h1,hs.named.2.2.1 c3.2];rfl
 rw[if_neg c3,if_neg (fun k=>k e0)] at h
 have hn:(now T s).name=false:=by simpa using fun k=>c3 ⟨e0,k⟩
 have hu:(now T s).number=false:=by simpa using fun k=>c2 ⟨e0,k⟩
 have isw:∀x,(now T s).t=x->is T x s=true:=fun x e=>by unfold is;rw[f0,e0,e,hn];simp
 by_cases c5:(now T s).t=wTrue\/(now T s).t=wFalse
 ·rw[if_pos c5] at h
  obtain rfl:=osi h
  have hk:(st.tok.kind=3/\st.tok.txt=wTrue)\/(st.tok.kind=3/\st.tok.txt=wFalse):=by
   rcases c5 with c5|c5
   ·exact Or.inl (hs.fixed hn hu (by decide) c5)
   ·exact Or.inr (hs.fixed hn hu (by decide) c5)
  have at_:∀f y,literal st=some y->atom f st=some y:=fun f y hy=>by
   unfold atom
   rcases hk with hk|hk
   ·rw[if_neg (not_name hk),sees_of hk,sees_of hk,sees_of hk,sees_of hk,sees_of hk,sees_of hk,if_neg (by decide),if_neg (by decide),if_neg (by decide),if_neg (by decide),if_neg (by decide),hy]
   ·rw[if_neg (not_name hk),sees_of hk,sees_of hk,sees_of hk,sees_of hk,sees_of hk,sees_of hk,if_neg (by decide),if_neg (by decide),if_neg (by decide),if_neg (by decide),if_neg (by decide),hy]
  unfold rconst at hd ⊢
  by_cases i1:is T wTrue s=true
  ·rw[if_pos i1] at hd ⊢
   obtain⟨st',h1,h2⟩:=literal_bool hT hs (Or.inl ⟨rfl,rfl⟩) i1 hd
   exact⟨_,st',ok_atom0 (fun f=>at_ f _ h1),h2,has_bool (node_get _ _)⟩
  ·rw[if_neg i1] at hd ⊢
   have i2:is T wFalse s=true:=by
    rcases c5 with c5|c5
    ·exact absurd (isw _ c5) i1
    ·exact isw _ c5
   rw[if_pos i2] at hd ⊢
   obtain⟨st',h1,h2⟩:=literal_bool hT hs (Or.inr ⟨rfl,rfl⟩) i2 hd
   exact⟨_,st',ok_atom0 (fun f=>at_ f _ h1),h2,has_bool (node_get _ _)⟩
 rw[if_neg c5] at h
 by_cases c6:(now T s).t=sOpen
 ·rw[if_pos c6] at h
  obtain⟨y,hy,rfl⟩:=oms h
  have hk:=hs.fixed hn hu (by decide) c6
  have d2:=take_well hd
  have d1:=rx_well hy d2
  obtain⟨st1,a1,s1⟩:=hs.up hT (by rw[hk.1];decide) d1
  obtain⟨e,st2,⟨m,a2⟩,s2,r2⟩:=ex hy d2 s1
  obtain⟨st3,a3,s3⟩:=s2.take hT (fx sShut (by decide)) hd
  refine⟨e,st3,ok_atom (n:=m) ?_,s3,r2.grow (gr_take T _ _)⟩
  unfold atom
  rw[if_neg (not_name hk),sees_of hk,if_pos (by decide),a1,Option.bind_some,a2,Option.bind_some,a3];rfl
 rw[if_neg c6] at h
 by_cases c7:(now T s).t=wFby
 ·rw[if_pos c7] at h
  obtain⟨y,hy,rfl⟩:=oms h
  have hk:=hs.fixed hn hu (by decide) c7
  have d6:¬Doom T (take T sShut y.2):=hd
  have d5:=take_well d6
  have d4:=rx_well hy d5
  have d3:=take_well d4
  have d2:=const_well d3
  have d1:=take_well d2
  obtain⟨st1,a1,s1⟩:=hs.up hT (by rw[hk.1];decide) d1
  obtain⟨st2,a2,s2⟩:=s1.take hT (fx sOpen (by decide)) d2
  obtain⟨ec,st3,a3,s3,r3⟩:=s2.const hT d3
  obtain⟨st4,a4,s4⟩:=s3.take hT (fx sComma (by decide)) d4
  obtain⟨e,st5,⟨m,a5⟩,s5,r5⟩:=ex hy d5 s4
  obtain⟨st6,a6,s6⟩:=s5.take hT (fx sShut (by decide)) d6
  refine⟨eFby ec e,st6,ok_atom (n:=m) ?_,s6,has_two (k:=0) (x:=[]) (Or.inr (Or.inl ⟨rfl,rfl,rfl⟩)) (r3.grow (((gr_take T _ _).trans (rx_gr n _ _ _ _ hy)).trans (gr_take T _ _))) (r5.grow (gr_take T _ _))⟩
  unfold atom
  rw[if_neg (not_name hk),sees_of hk,sees_of hk,if_neg (by decide),if_pos (by decide),a1,Option.bind_some,a2,Option.bind_some,a3,Option.bind_some,a4,Option.bind_some,a5,Option.bind_some,a6];rfl
 rw[if_neg c7] at h
 by_cases c8:(now T s).t=wHold
 ·rw[if_pos c8] at h
  obtain⟨y,hy,rfl⟩:=oms h
  have hk:=hs.fixed hn hu (by decide) c8
  have d8:¬Doom T (take T sShut (rnumber T 2 1000 (take T sComma y.2)).2):=hd
  have d7:=take_well d8
  have d6:=number_well d7
  have d5:=take_well d6
  have d4:=rx_well hy d5
  have d3:=take_well d4
  have d2:=const_well d3
  have d1:=take_well d2
  obtain⟨st1,a1,s1⟩:=hs.up hT (by rw[hk.1];decide) d1
  obtain⟨st2,a2,s2⟩:=s1.take hT (fx sOpen (by decide)) d2
  obtain⟨ec,st3,a3,s3,r3⟩:=s2.const hT d3
  obtain⟨st4,a4,s4⟩:=s3.take hT (fx sComma (by decide)) d4
  obtain⟨e,st5,⟨m,a5⟩,s5,r5⟩:=ex hy d5 s4
  obtain⟨st6,a6,s6⟩:=s5.take hT (fx sComma (by decide)) d6
  obtain⟨st7,a7,s7⟩:=s6.number hT d7
  obtain⟨st8,a8,s8⟩:=s7.take hT (fx sShut (by decide)) d8
  have g:=((gr_take T sComma y.2).trans (gr_number T 2 1000 _)).trans (gr_take T sShut _)
  refine⟨eHold ec e (rnumber T 2 1000 (take T sComma y.2)).1,st8,ok_atom (n:=m) ?_,s8,has_two (x:=[]) (Or.inr (Or.inr (Or.inl ⟨rfl,rfl,rfl⟩))) (r3.grow (((gr_take T _ _).trans (rx_gr n _ _ _ _ hy)).trans g)) (r5.grow g)⟩
  have en:number 2 1000 st6=number ((2:Nat):Int) ((1000:Nat):Int) st6:=rfl
  unfold atom
  rw[if_neg (not_name hk),sees_of hk,sees_of hk,sees_of hk,sees_of hk,if_neg (by decide),if_neg (by decide),if_neg (by decide),if_pos (by decide),a1,Option.bind_some,a2,Option.bind_some,a3,Option.bind_some,a4,Option.bind_some,a5,Option.bind_some,a6,Option.bind_some,en,a7,Option.bind_some,a8];rfl
 rw[if_neg c8] at h
 by_cases c9:(now T s).t=wUnder
 ·rw[if_pos c9] at h
  obtain⟨y,hy,rfl⟩:=oms h
  have hk:=hs.fixed hn hu (by decide) c9
  have d6:¬Doom T (take T sShut (rnumber T 2 1000 (take T sComma y.2)).2):=hd
  have d5:=take_well d6
  have d4:=number_well d5
  have d3:=take_well d4
  have d2:=rx_well hy d3
  have d1:=take_well d2
  obtain⟨st1,a1,s1⟩:=hs.up hT (by rw[hk.1];decide) d1
  obtain⟨st2,a2,s2⟩:=s1.take hT (fx sOpen (by decide)) d2
  obtain⟨e,st3,⟨m,a3⟩,s3,r3⟩:=ex hy d3 s2
  obtain⟨st4,a4,s4⟩:=s3.take hT (fx sComma (by decide)) d4
  obtain⟨st5,a5,s5⟩:=s4.number hT d5
  obtain⟨st6,a6,s6⟩:=s5.take hT (fx sShut (by decide)) d6
  refine⟨eUnder e (rnumber T 2 1000 (take T sComma y.2)).1,st6,ok_atom (n:=m) ?_,s6,has_under (r3.grow (((gr_take T sComma y.2).trans (gr_number T 2 1000 _)).trans (gr_take T sShut _)))⟩
  have en:number 2 1000 st4=number ((2:Nat):Int) ((1000:Nat):Int) st4:=rfl
  unfold atom
  rw[if_neg (not_name hk),sees_of hk,sees_of hk,sees_of hk,if_neg (by decide),if_neg (by decide),if_pos (by decide),a1,Option.bind_some,a2,Option.bind_some,a3,Option.bind_some,a4,Option.bind_some,en,a5,Option.bind_some,a6];rfl
 rw[if_neg c9] at h
 by_cases c10:(now T s).t=wMin\/(now T s).t=wMax
 ·rw[if_pos c10] at h
  obtain⟨y,hy,h⟩:=obs h
  obtain⟨z,hz,rfl⟩:=oms h
  have hk:st.tok.kind=3/\st.tok.txt=(now T s).t:=hs.fixed hn hu (by rcases c10 with c|c <;> rw[c] <;> decide) rfl
  have d6:¬Doom T (take T sShut z.2):=hd
  have d5:=take_well d6
  have d4:=rx_well hz d5
  have d3:=take_well d4
  have d2:=rx_well hy d3
  have d1:=take_well d2
  obtain⟨st1,a1,s1⟩:=hs.up hT (by rw[hk.1];decide) d1
  obtain⟨st2,a2,s2⟩:=s1.take hT (fx sOpen (by decide)) d2
  obtain⟨e,st3,⟨m3,a3⟩,s3,r3⟩:=ex hy d3 s2
  obtain⟨st4,a4,s4⟩:=s3.take hT (fx sComma (by decide)) d4
  obtain⟨e',st5,⟨m5,a5⟩,s5,r5⟩:=ex hz d5 s4
  obtain⟨st6,a6,s6⟩:=s5.take hT (fx sShut (by decide)) d6
  have p3:=px_le (Nat.le_max_left m3 m5) a3
  have p5:=px_le (Nat.le_max_right m3 m5) a5
  refine⟨eLeast (now T s).t e e',st6,ok_atom (n:=max m3 m5) ?_,s6,has_two (k:=0) (Or.inr (Or.inr (Or.inr ⟨rfl,rfl,rfl⟩))) (r3.grow (((gr_take T _ _).trans (rx_gr n _ _ _ _ hz)).trans (gr_take T _ _))) (r5.grow (gr_take T _ _))⟩
  unfold atom
  rw[if_neg (not_name hk),sees_of hk,sees_of hk,sees_of hk,sees_of hk,sees_of hk,sees_of hk]
  rcases c10 with c|c
  ·rw[c] at hk ⊢
   rw[if_neg (by decide),if_neg (by decide),if_neg (by decide),if_neg (by decide),if_pos (by decide),a1,Option.bind_some,a2,Option.bind_some,p3,Option.bind_some,a4,Option.bind_some,p5,Option.bind_some,a6,hk.2];rfl
  ·rw[c] at hk ⊢
   rw[if_neg (by decide),if_neg (by decide),if_neg (by decide),if_neg (by decide),if_pos (by decide),a1,Option.bind_some,a2,Option.bind_some,p3,Option.bind_some,a4,Option.bind_some,p5,Option.bind_some,a6,hk.2];rfl
 rw[if_neg c10] at h
 obtain rfl:=osi h
 exact absurd (doom_fail 3 (by decide) s) hd
theorem step_good {b:Bytes} {T:List Tk} (hT:T.length<=601) {n:Nat} (hf:Good b T (rx T n)):Good b T (rx T (n+1)):=by
 intro t l s x h hd st left hs ht hleft hnil
 have ex:∀{t1:Nat} {s1:Rs} {y:Nat×Rs} {st1:St},t1 < 9->rx T n t1 0 s1=some y->¬Doom T y.2->Sync b T s1 st1->∃e st',Ok t1 eNil st1 (e,st')/\Sync b T y.2 st'/\Has y.2.ns e y.1:=fun {t1 s1 y st1} h0 h1 h2 h3=>hf t1 0 s1 y h1 h2 st1 eNil h3 (Or.inl h0) (fun h=>by omega) (fun _=>rfl)
 rw[rx,rstep] at h
 by_cases t0:t=0
 ·rw[if_pos t0] at h
  subst t0
  rw[hnil (by omega)]
  by_cases i:is T wIf s=true
  ·rw[if_pos i] at h
   obtain⟨y,hy,h⟩:=obs h
   obtain⟨z,hz,h⟩:=obs h
   obtain⟨u,hu,rfl⟩:=oms h
   have hk:=hs.kind (fx wIf (by decide)) i
   have d6:¬Doom T u.2:=hd
   have d5:=rx_well hu d6
   have d4:=take_well d5
   have d3:=rx_well hz d4
   have d2:=take_well d3
   have d1:=rx_well hy d2
   obtain⟨st1,a1,s1⟩:=hs.up hT (by rw[hk.1];decide) d1
   obtain⟨e1,st2,o2,s2,r2⟩:=ex (by omega) hy d2 s1
   obtain⟨st3,a3,s3⟩:=s2.take hT (fx wThen (by decide)) d3
   obtain⟨e2,st4,o4,s4,r4⟩:=ex (by omega) hz d4 s3
   obtain⟨st5,a5,s5⟩:=s4.take hT (fx wElse (by decide)) d5
   obtain⟨e3,st6,o6,s6,r6⟩:=ex (by omega) hu d6 s5
   have g2:=(gr_take T wElse z.2).trans (rx_gr n _ _ _ _ hu)
   have g1:=((gr_take T wThen y.2).trans (rx_gr n _ _ _ _ hz)).trans g2
   exact⟨eIf e1 e2 e3,st6,ok_if (by rw[<-hs.sees (fx wIf (by decide)),i]) a1 o2 a3 o4 a5 o6,s6,has_if (r2.grow g1) (r4.grow g2) r6⟩
  ·rw[if_neg i] at h
   obtain⟨e,st',o,s',r⟩:=ex (by omega) h hd hs
   exact⟨e,st',ok_noif (by rw[<-hs.sees (fx wIf (by decide))];simpa using i) o,s',r⟩
 rw[if_neg t0] at h
 by_cases t8:t=8
 ·rw[if_pos t8] at h
  subst t8
  rw[hnil (by omega)]
  exact atom_good hT hf h hd hs
 rw[if_neg t8] at h
 have nine:∀st:St,Mil.opAt st≠3/\Mil.opAt st≠7:=fun st=>by
  unfold Mil.opAt
  split
  ·have:=tightOf_cases st.tok.txt
   omega
  ·omega
 by_cases t7:t=7
 ·rw[if_pos t7] at h
  subst t7
  rw[hnil (by omega)]
  by_cases i:is T sMinus s=true
  ·rw[if_pos i] at h
   obtain⟨y,hy,rfl⟩:=oms h
   have hk:=hs.kind (fx sMinus (by decide)) i
   have d2:¬Doom T y.2:=hd
   obtain⟨st1,a1,s1⟩:=hs.up hT (by rw[hk.1];decide) (rx_well hy d2)
   obtain⟨e,st2,o,s2,r⟩:=ex (by omega) hy d2 s1
   have o':=ok_pre (l:=7) (Or.inr ⟨rfl,by rw[<-hs.sees (fx sMinus (by decide)),i]⟩) a1 o
   rw[hk.2] at o'
   exact⟨_,st2,o',s2,has_pre r⟩
  ·rw[if_neg i] at h
   obtain⟨e,st',o,s',r⟩:=ex (by omega) h hd hs
   refine⟨e,st',ok_level (l:=7) (by omega) (by omega) (fun c=>?_) o (ok_stop (nine st').2),s',r⟩
   rcases c with c|c
   ·omega
   ·rw[<-hs.sees (fx sMinus (by decide))] at c;exact i c.2
 rw[if_neg t7] at h
 by_cases t3:t=3
 ·rw[if_pos t3] at h
  subst t3
  rw[hnil (by omega)]
  by_cases i:is T wNot s=true
  ·rw[if_pos i] at h
   obtain⟨y,hy,rfl⟩:=oms h
   have hk:=hs.kind (fx wNot (by decide)) i
   have d2:¬Doom T y.2:=hd
   obtain⟨st1,a1,s1⟩:=hs.up hT (by rw[hk.1];decide) (rx_well hy d2)
   obtain⟨e,st2,o,s2,r⟩:=ex (by omega) hy d2 s1
   have o':=ok_pre (l:=3) (Or.inl ⟨rfl,by rw[<-hs.sees (fx wNot (by decide)),i]⟩) a1 o
   rw[hk.2] at o'
   exact⟨_,st2,o',s2,has_pre r⟩
  ·rw[if_neg i] at h
   obtain⟨e,st',o,s',r⟩:=ex (by omega) h hd hs
   refine⟨e,st',ok_level (l:=3) (by omega) (by omega) (fun c=>?_) o (ok_stop (nine st').1),s',r⟩
   rcases c with c|c
   ·rw[<-hs.sees (fx wNot (by decide))] at c;exact i c.2
   ·omega
 rw[if_neg t3] at h
 by_cases tl:t < 8
 ·rw[if_pos tl] at h
  rw[hnil (by omega)]
  obtain⟨y,hy,h⟩:=obs h
  have d1:=rx_well h hd
  obtain⟨e,st1,o,s1,r⟩:=ex (by omega) hy d1 hs
  obtain⟨e',st',o',s',r'⟩:=hf (10+t) y.1 y.2 x h hd st1 e s1 (Or.inr (by omega)) (fun _=>r) (fun h=>by omega)
  exact⟨e',st',ok_level (by omega) tl (fun c=>by omega) o o',s',r'⟩
 rw[if_neg tl] at h
 obtain⟨k,rfl⟩:∃k,t=10+k:=⟨t - 10,by omega⟩
 have ek:10+k - 10=k:=by omega
 rw[ek] at h
 have rl:=hleft (by omega)
 by_cases c:s.fe=0/\(now T s).e=0/\(now T s).name=false/\level (now T s).t=k
 ·rw[if_pos c] at h
  have ho:Mil.opAt st=k:=(hs.oper (by omega) (by omega)).1 c
  have hk:st.tok.kind=3:=by
   unfold Mil.opAt at ho
   by_cases k3:st.tok.kind=3
   ·exact k3
   ·rw[if_neg k3] at ho;omega
  have hx:st.tok.txt=(now T s).t:=by
   rcases hs.2.2.1 with ⟨k1,_⟩|⟨k1,_⟩|⟨k1,_⟩|⟨_,k2,_⟩
   ·omega
   ·omega
   ·omega
   ·exact k2
  obtain⟨y,hy,h⟩:=obs h
  by_cases t4:10+k=14
  ·rw[if_pos t4] at h
   obtain rfl:=osi h
   have e4:k=4:=by omega
   subst e4
   have d2:¬Doom T y.2:=hd
   obtain⟨st1,a1,s1⟩:=hs.up hT (by omega) (rx_well hy d2)
   obtain⟨e,st2,o,s2,r⟩:=ex (by omega) hy d2 s1
   have o':=ok_rel (a:=left) ho a1 o
   rw[hx] at o'
   exact⟨_,st2,o',s2,has_two (k:=0) (Or.inl ⟨rfl,rfl,rfl⟩) (rl.grow ((gr_up s).trans (rx_gr n _ _ _ _ hy))) r⟩
  ·rw[if_neg t4] at h
   have d2:¬Doom T y.2:=fun d=>(rx_well h hd) ((doom_node _).2 d)
   obtain⟨st1,a1,s1⟩:=hs.up hT (by omega) (rx_well hy d2)
   obtain⟨e,st2,o,s2,r⟩:=ex (by omega) hy d2 s1
   obtain⟨e',st',o',s',r'⟩:=hf (10+k) _ _ x h hd st2 (eTwo (now T s).t left e) s2 (Or.inr (by omega)) (fun _=>has_two (k:=0) (Or.inl ⟨rfl,rfl,rfl⟩) (rl.grow ((gr_up s).trans (rx_gr n _ _ _ _ hy))) r) (fun h=>by omega)
   exact⟨e',st',ok_go (by omega) ho a1 o (by rw[hx];exact o'),s',r'⟩
 ·rw[if_neg c] at h
  obtain rfl:=osi h
  exact⟨left,st,ok_stop (fun e=>c ((hs.oper (by omega) (by omega)).2 e)),hs,rl⟩
theorem rx_good {b:Bytes} {T:List Tk} (hT:T.length<=601):∀n,Good b T (rx T n)
 | 0=>fun _ _ _ _ h=>by cases h
 | n+1=>step_good hT (rx_good hT n)
theorem Rx.good {b:Bytes} {T:List Tk} (hT:T.length<=601) {s:Rs} {x:Nat×Rs} (h:Rx T 0 0 s x) (hd:¬Doom T x.2) {st:St} (hs:Sync b T s st):∃e st',Ok 0 eNil st (e,st')/\Sync b T x.2 st'/\Has x.2.ns e x.1:=by
 obtain⟨n,h⟩:=h
 exact rx_good hT n 0 0 s x h hd st eNil hs (Or.inl (by omega)) (fun h=>by omega) (fun _=>rfl)
theorem Rx.gr {T:List Tk} {t l:Nat} {s:Rs} {x:Nat×Rs} (h:Rx T t l s x):Gr s x.2:=by
 obtain⟨n,h⟩:=h
 exact rx_gr n t l s x h
end Ref
end
section
namespace Ref
open Mil
def ItRep (ns:List Nd) (x:Im) (i:It):Prop:=x.kind=i.kind/\x.name=i.nm/\x.type=i.ty/\x.period=i.every/\x.names.map Prod.fst=i.names/\(i.kind=3->Has ns i.body x.expr)/\(i.kind=1\/i.kind=2\/i.kind=3)
theorem ItRep.grow {s t:Rs} {x:Im} {i:It} (h:ItRep s.ns x i) (k:Gr s t):ItRep t.ns x i:=⟨h.1,h.2.1,h.2.2.1,h.2.2.2.1,h.2.2.2.2.1,fun e=>(h.2.2.2.2.2.1 e).grow k,h.2.2.2.2.2.2⟩
def Reps (ns:List Nd):List Im->List It->Prop
 | [],[]=>True
 | x::I,i::l=>ItRep ns x i/\Reps ns I l
 | _,_=>False
theorem Reps.grow {s t:Rs} (k:Gr s t):∀{I:List Im} {l:List It},Reps s.ns I l->Reps t.ns I l
 | [],[],_=>trivial
 | [],_::_,h=>h.elim
 | _::_,[],h=>h.elim
 | _::_,_::_,h=>⟨h.1.grow k,Reps.grow k h.2⟩
theorem Reps.snoc {ns:List Nd} {x:Im} {i:It} (k:ItRep ns x i):∀{I:List Im} {l:List It},Reps ns I l->Reps ns (I++[x]) (l++[i])
 | [],[],_=>⟨k,trivial⟩
 | [],_::_,h=>h.elim
 | _::_,[],h=>h.elim
 | _::_,_::_,h=>⟨h.1,Reps.snoc k h.2⟩
theorem Reps.len {ns:List Nd}:∀{I:List Im} {l:List It},Reps ns I l->I.length=l.length
 | [],[],_=>rfl
 | [],_::_,h=>h.elim
 | _::_,[],h=>h.elim
 | _::I,_::l,h=>by rw[List.length_cons,List.length_cons,Reps.len h.2]
theorem names_well {T:List Tk}:∀{n:Nat} {acc:List (Bytes×Nat)} {s:Rs} {x:List (Bytes×Nat)×Rs},rnames T n acc s=some x->¬Doom T x.2->¬Doom T s
 | 0,_,_,_,h,_=>by cases h
 | n+1,acc,s,x,h,k=>by
  rw[rnames] at h
  by_cases c:is T sComma (rname T s).2=true
  ·rw[if_pos c] at h
   have:=names_well h k
   intro d
   have d2:Doom T (rname T s).2:=Classical.not_not.1 (fun e=>name_well e d)
   rw[doom_is d2] at c;cases c
  ·rw[if_neg c] at h
   obtain rfl:=osi h
   exact name_well k
theorem names_gr {T:List Tk}:∀{n:Nat} {acc:List (Bytes×Nat)} {s:Rs} {x:List (Bytes×Nat)×Rs},rnames T n acc s=some x->x.2.ns=s.ns
 | 0,_,_,_,h=>by cases h
 | n+1,acc,s,x,h=>by
  rw[rnames] at h
  by_cases c:is T sComma (rname T s).2=true
  ·rw[if_pos c] at h
   exact (names_gr h).trans (ns_name T s)
  ·rw[if_neg c] at h
   obtain rfl:=osi h
   exact ns_name T s
theorem names_good {b:Bytes} {T:List Tk} (hT:T.length<=601):∀{n:Nat} {acc:List (Bytes×Nat)} {s:Rs} {x:List (Bytes×Nat)×Rs},rnames T n acc s=some x->¬Doom T x.2->∀{st:St},Sync b T s st ->
  ∃y st1 m st',name st=some (y,st1)/\pnames m (acc.map Prod.fst++[y]) st1=some (x.1.map Prod.fst,st')/\Sync b T x.2 st'
 | 0,_,_,_,h,_,_,_=>by cases h
 | n+1,acc,s,x,h,k,st,hs=>by
  rw[rnames] at h
  by_cases c:is T sComma (rname T s).2=true
  ·rw[if_pos c] at h
   have d2:¬Doom T (up (rname T s).2):=names_well h k
   have d1:¬Doom T (rname T s).2:=fun d=>by rw[doom_is d] at c;cases c
   obtain⟨st1,a1,s1⟩:=hs.name hT d1
   have hk:=s1.kind (fx sComma (by decide)) c
   obtain⟨st2,a2,s2⟩:=s1.up hT (by rw[hk.1];decide) d2
   obtain⟨y,st3,m,st',a3,a4,s4⟩:=names_good hT h k s2
   refine⟨_,st1,m+1,st',a1,?_,s4⟩
   rw[pnames,<-s1.sees (fx sComma (by decide)),c,if_pos rfl,a2,Option.bind_some,a3,Option.bind_some]
   rw[List.map_append] at a4
   exact a4
  ·rw[if_neg c] at h
   obtain rfl:=osi h
   obtain⟨st1,a1,s1⟩:=hs.name hT k
   refine⟨_,st1,1,st1,a1,?_,s1⟩
   rw[pnames,<-s1.sees (fx sComma (by decide)),if_neg c,List.map_append];rfl
theorem head_well {T:List Tk} {s:Rs} (h:¬Doom T (rhead T s).2):¬Doom T s:=name_well (take_well (typed_well h))
theorem head_ns (T:List Tk) (s:Rs):(rhead T s).2.ns=s.ns:=(ns_typed T _).trans ((ns_take T _ _).trans (ns_name T s))
theorem Sync.head {b:Bytes} {T:List Tk} (hT:T.length<=601) {s:Rs} {st:St} (h:Sync b T s st) (hd:¬Doom T (rhead T s).2) :
  ∃st1 st2 st3,Mil.name st=some ((rhead T s).1.1.t,st1)/\want st1 sColon=some st2/\ftype st2=some ((rhead T s).1.2,st3)/\Sync b T (rhead T s).2 st3:=by
 have d2:=typed_well hd
 have d1:=take_well d2
 obtain⟨st1,a1,s1⟩:=h.name hT d1
 obtain⟨st2,a2,s2⟩:=s1.take hT (fx sColon (by decide)) d2
 obtain⟨st3,a3,s3⟩:=s2.typed hT hd
 exact⟨st1,st2,st3,a1,a2,a3,s3⟩
theorem item_well {T:List Tk} {s:Rs} {x:Im×Rs} (h:Ri T s x) (k:¬Doom T x.2):¬Doom T s:=by
 intro d
 obtain⟨n,h⟩:=h
 unfold ritem at h
 rw[doom_is d,doom_is d] at h
 simp only[Bool.false_eq_true,if_false] at h
 obtain⟨y,hy,rfl⟩:=oms h
 exact head_well (take_well (rx_well hy (take_well k))) d
theorem Ri.gr {T:List Tk} {s:Rs} {x:Im×Rs} (h:Ri T s x):Gr s x.2:=by
 obtain⟨n,h⟩:=h
 unfold ritem at h
 by_cases c1:is T wInput s=true
 ·rw[if_pos c1] at h
  obtain rfl:=osi h
  exact Gr.of ((ns_take T _ _).trans ((ns_number T _ _ _).trans ((ns_take T _ _).trans (head_ns T _))))
 rw[if_neg c1] at h
 by_cases c2:is T wOutput s=true
 ·rw[if_pos c2] at h
  obtain⟨y,hy,rfl⟩:=oms h
  have e1:y.2.ns=(up s).ns:=names_gr hy
  exact Gr.of ((ns_take T _ _).trans e1)
 rw[if_neg c2] at h
 obtain⟨y,hy,rfl⟩:=oms h
 exact ((Gr.of ((ns_take T _ _).trans (head_ns T s))).trans (rx_gr n _ _ _ _ hy)).trans (gr_take T _ _)
theorem item_good {b:Bytes} {T:List Tk} (hT:T.length<=601) {s:Rs} {x:Im×Rs} (h:Ri T s x) (k:¬Doom T x.2) {st:St} (hs:Sync b T s st) :
  ∃i m st',pitem m st=some (i,st')/\Sync b T x.2 st'/\ItRep x.2.ns x.1 i:=by
 obtain⟨n,h⟩:=h
 unfold ritem at h
 by_cases c1:is T wInput s=true
 ·rw[if_pos c1] at h
  obtain rfl:=osi h
  have hk:=hs.kind (fx wInput (by decide)) c1
  have d4:¬Doom T (rnumber T 1 1000000 (take T wEvery (rhead T (up s)).2)).2:=take_well k
  have d3:=number_well d4
  have d2:=take_well d3
  have d1:=head_well d2
  obtain⟨st1,a1,s1⟩:=hs.up hT (by rw[hk.1];decide) d1
  obtain⟨st2,st3,st4,a2,a3,a4,s4⟩:=s1.head hT d2
  obtain⟨st5,a5,s5⟩:=s4.take hT (fx wEvery (by decide)) d3
  obtain⟨st6,a6,s6⟩:=s5.number hT d4
  obtain⟨st7,a7,s7⟩:=s6.take hT (fx sSemi (by decide)) k
  refine⟨⟨1,_,_,_,[],eNil⟩,0,st7,?_,s7,rfl,rfl,rfl,rfl,rfl,fun e=>(by cases e),Or.inl rfl⟩
  have en:number 1 1000000 st5=number ((1:Nat):Int) ((1000000:Nat):Int) st5:=rfl
  unfold pitem
  rw[sees_of hk,if_pos (by decide),a1,Option.bind_some,a2,Option.bind_some,a3,Option.bind_some,a4,Option.bind_some,a5,Option.bind_some,en,a6,Option.bind_some,a7];rfl
 rw[if_neg c1] at h
 by_cases c2:is T wOutput s=true
 ·rw[if_pos c2] at h
  obtain⟨y,hy,rfl⟩:=oms h
  have hk:=hs.kind (fx wOutput (by decide)) c2
  have d2:¬Doom T y.2:=take_well k
  have d1:=names_well hy d2
  obtain⟨st1,a1,s1⟩:=hs.up hT (by rw[hk.1];decide) d1
  obtain⟨z,st2,m,st3,a2,a3,s3⟩:=names_good hT hy d2 s1
  obtain⟨st4,a4,s4⟩:=s3.take hT (fx sSemi (by decide)) k
  refine⟨⟨2,[],0,0,_,eNil⟩,m,st4,?_,s4,rfl,rfl,rfl,rfl,rfl,fun e=>(by cases e),Or.inr (Or.inl rfl)⟩
  unfold pitem
  rw[sees_of hk,sees_of hk,if_neg (by decide),if_pos (by decide),a1,Option.bind_some,a2,Option.bind_some]
  have a3':pnames m [z] st2=some (y.1.map Prod.fst,st3):=a3
  rw[a3',Option.bind_some,a4];rfl
 rw[if_neg c2] at h
 obtain⟨y,hy,rfl⟩:=oms h
 have d3:¬Doom T y.2:=take_well k
 have d2:=rx_well hy d3
 have d1:=take_well d2
 obtain⟨st1,st2,st3,a1,a2,a3,s3⟩:=hs.head hT d1
 obtain⟨st4,a4,s4⟩:=s3.take hT (fx sIs (by decide)) d2
 obtain⟨e,st5,⟨m,a5⟩,s5,r5⟩:=Rx.good hT ⟨n,hy⟩ d3 s4
 obtain⟨st6,a6,s6⟩:=s5.take hT (fx sSemi (by decide)) k
 refine⟨⟨3,_,_,0,[],e⟩,m,st6,?_,s6,rfl,rfl,rfl,rfl,rfl,fun _=>r5.grow (gr_take T _ _),Or.inr (Or.inr rfl)⟩
 unfold pitem
 rw[<-hs.sees (fx wInput (by decide)),if_neg c1,<-hs.sees (fx wOutput (by decide)),if_neg c2,a1,Option.bind_some,a2,Option.bind_some,a3,Option.bind_some,a4,Option.bind_some,a5,Option.bind_some,a6];rfl
theorem parse_doom {T:List Tk} {len:Nat}:∀{n:Nat} {I:List Im} {s:Rs} {x:Bool×List Im×Rs},rparse T len n I s=some x->Doom T s->x.1=false
 | 0,_,_,_,h,_=>by cases h
 | n+1,I,s,x,h,d=>by
  rw[rparse] at h
  by_cases c1:s.fe≠0
  ·rw[if_pos c1] at h
   obtain rfl:=osi h;rfl
  rw[if_neg c1] at h
  have c2:(now T s).e≠0:=by
   rcases d with d|d
   ·exact absurd d c1
   ·exact d
  rw[if_neg (fun k=>c2 k.1)] at h
  by_cases c3:I.length=60
  ·rw[if_pos c3] at h
   obtain rfl:=osi h;rfl
  rw[if_neg c3] at h
  obtain⟨y,hy,h⟩:=obs h
  exact parse_doom h (Classical.not_not.1 (fun k=>item_well ⟨n,hy⟩ k d))
theorem parse_good {b:Bytes} {T:List Tk} (hT:T.length<=601):∀{n:Nat} {I:List Im} {s:Rs} {I':List Im} {s':Rs},rparse T b.length n I s=some (true,I',s')->∀{st:St} {l:List It},Sync b T s st->Reps s.ns I l ->
  ∃m l',pprog m l st=some l'/\Reps s'.ns I' l'
 | 0,_,_,_,_,h,_,_,_,_=>by cases h
 | n+1,I,s,I',s',h,st,l,hs,hr=>by
  rw[rparse] at h
  rw[if_neg (fun k=>k hs.1)] at h
  by_cases c2:(now T s).e=0/\(now T s).at_=b.length
  ·rw[if_pos c2] at h
   obtain⟨rfl,rfl⟩:I=I'/\s=s':=by
    have:=osi h
    injection this with _ h2
    injection h2 with h3 h4
    exact⟨h3,h4⟩
   exact⟨1,l,by rw[pprog,if_pos (hs.2.2.2.1.2 c2.2)],hr⟩
  rw[if_neg c2] at h
  by_cases c3:I.length=60
  ·rw[if_pos c3] at h
   have:=osi h
   injection this with h1 _
   cases h1
  rw[if_neg c3] at h
  obtain⟨y,hy,h⟩:=obs h
  have d:¬Doom T y.2:=fun d=>by
   have:=parse_doom h d
   cases this
  obtain⟨i,m1,st1,a1,s1,r1⟩:=item_good hT ⟨n,hy⟩ d hs
  obtain⟨m2,l',a2,r2⟩:=parse_good hT h s1 ((hr.grow (Ri.gr ⟨n,hy⟩)).snoc r1)
  have e1:=pitem_le (Nat.le_max_left m1 m2) a1
  have e2:=pprog_le _ _ _ _ _ (Nat.le_max_right m1 m2) a2
  refine⟨max m1 m2+1,l',?_,r2⟩
  rw[pprog,if_neg (fun k=>c2 ⟨hs.2.1,hs.2.2.2.1.1 k⟩),if_neg (by rw[<-hr.len];exact c3),e1,Option.bind_some,e2]
theorem parsed_of {b:Bytes} {T:List Tk} (hb:b.length<=4000) (hS:Scans b 0 [] T) {I:List Im} {s':Rs} (h:Rp T b.length [] ⟨0,[],0,0⟩ (true,I,s')):∃l,Parsed b l/\Reps s'.ns I l:=by
 obtain⟨n,h⟩:=h
 have hT:=(scans_row hS).wf.2.2
 have h0:=sync_of hT (s:=⟨0,[],0,0⟩) (Nat.zero_le _) rfl (scans_sc hS)
 rw[List.drop_zero] at h0
 cases ha:adv' b 0 with
 | none=>
  rw[show adv' b (Rs.mk 0 [] 0 0).p=none from ha] at h0
  have:=parse_doom h (Or.inr h0)
  cases this
 | some st=>
  rw[show adv' b (Rs.mk 0 [] 0 0).p=some st from ha] at h0
  have r0:Reps (Rs.mk 0 [] 0 0).ns [] []:=trivial
  obtain⟨m,l,a1,r1⟩:=parse_good hT h h0 r0
  refine⟨l,⟨m,?_⟩,r1⟩
  unfold parse
  rw[if_neg (by omega),ha,Option.bind_some,a1]
end Ref
end
section
open Go.RowKit
theorem typeName_any (t:Nat) (ht:t<=1) (w:World):Calls Tryz.prog 54 #[.int .i64 (t:Nat)] w (TxPost (Mil.tyText t) w):=by
 obtain rfl|rfl:t=0\/t=1:=by omega
 ·go_enter Tryz.func54,Tryz.ntmps54
  go_wp2
  all_goals go_ret
  all_goals exact⟨rfl,Below.refl _ _⟩
 ·go_enter Tryz.func54,Tryz.ntmps54
  go_wp2
  all_goals go_ret
  all_goals exact⟨rfl,Below.refl _ _⟩
theorem Tryz.bytesT:Tryz.prog.underlying 108=some (.slice 5)/\Tryz.prog.underlying 5=some (.int .u8)/\Tryz.prog.underlying 9=some .string:=by
 refine⟨?_,?_,?_⟩ <;> kernel_rfl
theorem conv_one (W:World) (d:Nat) (hd:d < 10):(convert 108 9 (.slice (some ⟨W.heap.size,0,none⟩) 1 1)).run Tryz.prog (W.alloc (.cells #[.int .u8 (48+(d:Int))] 5))=.ok (.string (bs [UInt8.ofNat (48+d)])) (W.alloc (.cells #[.int .u8 (48+(d:Int))] 5)):=by
 refine run_convert_bytes_back (W.alloc (.cells #[.int .u8 (48+(d:Int))] 5)) 108 9 5 ⟨W.heap.size,0,none⟩ 1 [UInt8.ofNat (48+d)] Tryz.bytesT.1 Tryz.bytesT.2.1 Tryz.bytesT.2.2 ?_
 intro j hj
 have hj0:j=0:=by simp at hj;omega
 subst hj0
 have e:(⟨W.heap.size,0,none⟩:Addr).add 0=⟨W.heap.size,0,none⟩:=rfl
 rw[e]
 simp
 omega
theorem rdigits_small (k:Nat) (hk:k < 10) (w:World):Calls Tryz.prog 53 #[.int .i64 (k:Nat)] w (TxPost (Lib.decDigits k) w):=by
 have h1:((k:Int) < 10)=True:=by simp;omega
 have h2:IntKind.i64.wrap (48+(k:Int))=48+(k:Int):=by simp only[IntKind.wrap_i64];omega
 have hc:=conv_one w k hk
 have HD:Hid (Lib.decDigits k=[UInt8.ofNat (48+k)]):=Lib.decDigits_one hk
 generalize hB:bs [UInt8.ofNat (48+k)]=B at hc
 have HB:=hid hB
 clear hB
 go_enter Tryz.func53,Tryz.ntmps53
 go_wp2
 all_goals go_ret
 refine⟨?_,brf.alloc nlr _⟩
 rw[HD.out,HB.out];rfl
theorem rdigits_any:∀(k:Nat) (_:k<=9223372036854775807) (w:World),Calls Tryz.prog 53 #[.int .i64 (k:Nat)] w (TxPost (Lib.decDigits k) w):=by
 intro k
 induction k using Nat.strongRecOn with
 | _ k ih=>
 intro hk w
 by_cases hs:k < 10
 ·exact rdigits_small k hs w
 have ek:(k:Int) / 10=((k / 10:Nat):Int):=by omega
 have em:(k:Int) % 10=((k % 10:Nat):Int):=by omega
 have IH:Hid (∀w,Calls Tryz.prog 53 #[.int .i64 ((k:Int) / 10)] w (TxPost (Lib.decDigits (k / 10)) w)):=fun w=>by
  rw[ek];exact ih (k / 10) (by omega) (by omega) w
 have HB:Hid (Lib.decDigits k=Lib.decDigits (k / 10)++[UInt8.ofNat (48+k % 10)]):=Mil.dig_big hs
 have CV:Hid (∀W:World,(convert 108 9 (.slice (some ⟨W.heap.size,0,none⟩) 1 1)).run Tryz.prog (W.alloc (.cells #[.int .u8 (48+(k:Int) % 10)] 5))=.ok (.string (bs [UInt8.ofNat (48+k % 10)])) (W.alloc (.cells #[.int .u8 (48+(k:Int) % 10)] 5))):=fun W=>by
  rw[em];exact conv_one W (k % 10) (by omega)
 have h1:((k:Int) < 10)=False:=by simp;omega
 have h2:IntKind.i64.wrap (48+(k:Int) % 10)=48+(k:Int) % 10:=by simp only[IntKind.wrap_i64];omega
 have h3:IntKind.u8.wrap (48+(k:Int) % 10)=48+(k:Int) % 10:=by simp only[IntKind.wrap_u8];omega
 have hq:IntKind.i64.wrap ((k:Int).tdiv 10)=(k:Int) / 10:=by
  simp only[IntKind.wrap_i64]
  have:(k:Int).tdiv 10=(k:Int) / 10:=Int.tdiv_eq_ediv_of_nonneg (by omega)
  omega
 have hr:IntKind.i64.wrap ((k:Int).tmod 10)=(k:Int) % 10:=by
  simp only[IntKind.wrap_i64]
  have:(k:Int).tmod 10=(k:Int) % 10:=Int.tmod_eq_emod_of_nonneg (by omega)
  omega
 have hl:(bs (Lib.decDigits (k / 10))).size<=20:=by rw[bs_size];exact Mil.digits_len (by unfold Mil.maxInt;omega)
 have hB1:(bs [UInt8.ofNat (48+k % 10)]).size=1:=by rw[bs_size];rfl
 clear ih hs ek em
 go_enter Tryz.func53,Tryz.ntmps53
 go_wp2_with fail
 refine (IH.out _).mono ?_
 rintro e w1 ⟨rfl,hb1⟩
 have HB1:=hid hb1
 have hc:=CV.out w1
 generalize hX:bs (Lib.decDigits (k / 10))=X at hl ⊢
 generalize hY:bs [UInt8.ofNat (48+k % 10)]=Y at hc hB1
 have HE:Hid (X++Y=bs (Lib.decDigits k)):=by
  show X++Y=_
  rw[HB.out,<-bs_add,hX,hY]
 have n1:¬9223372036854775807 < X.size+Y.size:=by omega
 clear hX hY hb1 hl
 go_wp2
 all_goals go_ret
 refine⟨?_,below_step HB1.out (brf.alloc nlr _)⟩
 rw[<-HE.out];rfl
end
end Go.Proofs.YtoiajojadihpbaaGreatDoor
