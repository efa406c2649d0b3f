import Derived.Test.YtjehljjlcifndaaGreatDoorX41
import Derived.Test.YtjehljjlcifndaaGreatDoorX46
namespace Go.Proofs.YtjehljjlcifndaaGreatDoor
set_option maxHeartbeats 32000000
set_option maxRecDepth 100000
section
open Go.RowKit
theorem lput_same (L:Nat->List Int) (j:Nat) (v:Int):lput L j v j=L j++[v]:=if_pos rfl
theorem lput_ne (L:Nat->List Int) {j k:Nat} (v:Int) (h:k≠j):lput L j v k=L k:=if_neg h
theorem jput_same (J:Nat->List Nat) (t:Nat) (xs:List Nat):jput J t xs t=xs:=if_pos rfl
theorem jput_ne (J:Nat->List Nat) {t k:Nat} (xs:List Nat) (h:k≠t):jput J t xs k=J k:=if_neg h
theorem pk_cases (m:Mil.Bytes->Option Int) (ρ:Mil.Bytes->Int->Int->Int) (Q:List Nq) (L:Nat->List Int) (J:Nat->List Nat) (t:Nat) :
  pk m ρ Q L J t=(L,J)\/∃j rest q v,J t=j::rest/\Q.find? (fun q=>q.flow==j)=some q/\Mip.sm m ρ (SL L) q.body ((L j).length:Nat)=some v/\pk m ρ Q L J t=(lput L j v,jput J t rest):=by
 unfold pk
 cases hJ:J t with
 | nil=>exact Or.inl rfl
 | cons j rest=>
  dsimp only
  cases hf:Q.find? (fun q=>q.flow==j) with
  | none=>exact Or.inl rfl
  | some q=>
   cases hv:Mip.sm m ρ (SL L) q.body ((L j).length:Nat) with
   | none=>left;simp[hv]
   | some v=>right;exact⟨j,rest,q,v,rfl,hf,hv,by simp[hv]⟩
structure Ivj (F:List Flo) (T:Nat) (pt:Nat->Nat) (O:Nat->List Nat) (c:Nat) (s:Lj):Prop where
 inp:∀j f,F[j]?=some f->f.inp=true->(s.1 j).length=c / f.per+1
 job:∀t,t < T->∃pre,O t=pre++s.2 t/\(s.2 t≠[]->c % pt t=0)/\(∀e∈pre,(s.1 e).length=c / pt t+1)/\∀e∈s.2 t,(s.1 e).length=c / pt t
section
variable {m:Mil.Bytes->Option Int} {ρ:Mil.Bytes->Int->Int->Int} {F:List Flo} {Q:List Nq} {r:Nat->Nat} {T:Nat} {pt:Nat->Nat} {O:Nat->List Nat} {c:Nat} {s:Lj}
theorem Tp.ne (P:Tp m F Q r T pt O) {t t' e e':Nat} (ht:t < T) (ht':t' < T) (h:t≠t') (he:e∈O t) (he':e'∈O t'):e≠e':=by
 rintro rfl
 obtain⟨_,_,_,h1⟩:=(P.mem t ht e).1 he
 obtain⟨_,_,_,h2⟩:=(P.mem t' ht' e).1 he'
 rcases Nat.lt_or_gt_of_ne h with c|c
 ·have:=P.up t t' c ht';omega
 ·have:=P.up t' t c ht;omega
theorem Tp.noInp (P:Tp m F Q r T pt O) {t e:Nat} (ht:t < T) (he:e∈O t) {f:Flo} (hf:F[e]?=some f):f.inp=false:=by
 obtain⟨q,hq,rfl,_⟩:=(P.mem t ht e).1 he
 obtain⟨g,h1,h2⟩:=P.eqf q hq
 rw[hf] at h1
 obtain rfl:=osi h1
 exact h2
theorem Tp.at_ (P:Tp m F Q r T pt O) {t e:Nat} (ht:t < T) (he:e∈O t):∃f,F[e]?=some f/\f.inp=false/\f.per=pt t/\e < F.length:=by
 obtain⟨q,hq,rfl,h3⟩:=(P.mem t ht e).1 he
 obtain⟨g,h1,h2⟩:=P.eqf q hq
 exact⟨g,h1,h2,by rw[<-h3,perAt_of h1],(lgs h1).1⟩
theorem Ivj.pk (P:Tp m F Q r T pt O) (h:Ivj F T pt O c s) {t:Nat} (ht:t < T):Ivj F T pt O c (pk m ρ Q s.1 s.2 t):=by
 rcases pk_cases m ρ Q s.1 s.2 t with e|⟨j,rest,q,v,hJ,hq,hv,e⟩
 ·rw[e];exact h
 ·obtain⟨pre,o1,o2,o3,o4⟩:=h.job t ht
  rw[hJ] at o1 o2 o4
  have hjO:j∈O t:=by rw[o1];simp
  have hnd:=P.nd t ht
  rw[o1] at hnd
  have hn1:∀x∈pre,x≠j:=fun x hx e=>by
   subst e
   exact (List.nodup_append.1 hnd).2.2 x hx x (by simp) rfl
  have hn2:∀x∈rest,x≠j:=fun x hx e=>by
   subst e
   exact (List.nodup_cons.1 (List.nodup_append.1 hnd).2.1).1 hx
  rw[e]
  refine⟨fun k f hf hk=>?_,fun t' ht'=>?_⟩
  ·have hne:k≠j:=fun e=>by
    subst e
    rw[P.noInp ht hjO hf] at hk;cases hk
   show (lput s.1 j v k).length=_
   rw[lput_ne _ _ hne]
   exact h.inp k f hf hk
  ·by_cases e1:t'=t
   ·subst e1
    refine⟨pre++[j],?_,fun _=>o2 (by simp),fun x hx=>?_,fun x hx=>?_⟩
    ·show O t'=_++jput s.2 t' rest t'
     rw[jput_same,o1];simp
    ·show (lput s.1 j v x).length=_
     rcases List.mem_append.1 hx with hx|hx
     ·rw[lput_ne _ _ (hn1 x hx)];exact o3 x hx
     ·obtain rfl:x=j:=by simpa using hx
      rw[lput_same,List.length_append,o4 x (by simp)];rfl
    ·have hx2:x∈jput s.2 t' rest t':=hx
     rw[jput_same] at hx2
     show (lput s.1 j v x).length=_
     rw[lput_ne _ _ (hn2 x hx2)]
     exact o4 x (by simp[hx2])
   ·obtain⟨pre',p1,p2,p3,p4⟩:=h.job t' ht'
    have hne:∀x∈O t',x≠j:=fun x hx=>P.ne ht' ht e1 hx hjO
    refine⟨pre',?_,?_,fun x hx=>?_,fun x hx=>?_⟩
    ·show O t'=_++jput s.2 t rest t'
     rw[jput_ne _ _ e1];exact p1
    ·show jput s.2 t rest t'≠[]->_
     rw[jput_ne _ _ e1];exact p2
    ·show (lput s.1 j v x).length=_
     rw[lput_ne _ _ (hne x (by rw[p1];simp[hx]))]
     exact p3 x hx
    ·have hx2:x∈jput s.2 t rest t':=hx
     rw[jput_ne _ _ e1] at hx2
     show (lput s.1 j v x).length=_
     rw[lput_ne _ _ (hne x (by rw[p1];simp[hx2]))]
     exact p4 x hx2
theorem Ivj.jok (P:Tp m F Q r T pt O) (h:Ivj F T pt O c s) (hc:c<=2000) {t:Nat} (ht:t < T):Jok F Q s.1 (s.2 t):=by
 obtain⟨pre,o1,o2,o3,o4⟩:=h.job t ht
 intro j hj
 have hjO:j∈O t:=by rw[o1];simp[hj]
 obtain⟨q,hq,e,_⟩:=(P.mem t ht j).1 hjO
 obtain⟨f,_,_,_,hl⟩:=P.at_ ht hjO
 refine⟨hl,⟨q,hq,e⟩,?_⟩
 rw[o4 j hj]
 exact Nat.le_trans (Nat.div_le_self _ _) hc
theorem le_div {n p c:Nat} (hp:1<=p) (h:n*p<=c):n<=c / p:=(Nat.le_div_iff_mul_le (by omega)).2 h
theorem lt_div {n p c:Nat} (hc:c % p=0) (h:n*p < c):n < c / p:=by
 have e:=Nat.div_add_mod c p
 rw[hc,Nat.add_zero,Nat.mul_comm] at e
 rw[<-e] at h
 exact Nat.lt_of_mul_lt_mul_right h
theorem Ivj.go (P:Tp m F Q r T pt O) (h:Ivj F T pt O c s) (hc:c<=2000) {t:Nat} (ht:t < T) (hlow:∀t',t' < t->s.2 t'=[]) {j:Nat} {rest:List Nat} (hJ:s.2 t=j::rest) (ρ:Mil.Bytes->Int->Int->Int) :
  ∃q v,Q.find? (fun q=>q.flow==j)=some q/\Mip.sm m ρ (SL s.1) q.body ((s.1 j).length:Nat)=some v:=by
 obtain⟨pre,o1,o2,o3,o4⟩:=h.job t ht
 have hm:=o2 (by rw[hJ];simp)
 rw[hJ] at o1 o4
 have hjO:j∈O t:=by rw[o1];simp
 obtain⟨q,hq,hqj,hper⟩:=(P.mem t ht j).1 hjO
 have hf:Q.find? (fun q=>q.flow==j)=some q:=by rw[<-hqj];exact P.cd.up q hq
 have hlen:=o4 j (by simp)
 have hp1:=P.ptp t ht
 have hi:(s.1 j).length<=2000:=by rw[hlen];exact Nat.le_trans (Nat.div_le_self _ _) hc
 have e0:c / pt t*pt t=c:=by
  have e:=Nat.div_add_mod c (pt t)
  rw[hm,Nat.add_zero,Nat.mul_comm] at e
  exact e
 have key:(Mip.sm m ρ (SL s.1) q.body ((s.1 j).length:Nat)).isSome=true:=by
  refine Mip.sm_some (d:=_) (fun j' n' hd=>?_) q.body (P.cd.hl q hq).wf _ (asks_time P.cd hq hi)
  obtain⟨h0,⟨x,hx⟩,hor⟩:=hd
  obtain⟨f0,f1⟩:=P.fit x j' hx
  obtain⟨n,rfl⟩:∃n:Nat,n'=n:=⟨n'.toNat,by omega⟩
  obtain⟨k,rfl⟩:∃k:Nat,j'=k:=⟨j'.toNat,by omega⟩
  simp only[Int.toNat_natCast] at f1 hor
  have hfk:F[k]?=some F[k]:=List.getElem?_eq_getElem f1
  have hpk:=P.pos _ (List.getElem_mem f1)
  have hpe:perAt F k=F[k].per:=perAt_of hfk
  have hqp:perAt F q.flow=pt t:=by rw[hqj];exact hper
  rw[hpe,hqp,hlen] at hor
  have hor':n*F[k].per < c\/(n*F[k].per=c/\k∈Mip.nds m q.body/\F[k].per<=pt t):=by
   have e1:((c / pt t:Nat):Int)*(pt t:Nat)=(c:Nat):=by rw[<-Int.natCast_mul,e0]
   rw[e1,<-Int.natCast_mul] at hor
   rcases hor with h1|⟨h1,h2,h3⟩
   ·left;omega
   ·right;exact⟨by omega,h2,h3⟩
  have hgoal:n < (s.1 k).length:=by
   cases hin:F[k].inp with
   | true=>
    rw[h.inp k _ hfk hin]
    have:n*F[k].per<=c:=by rcases hor' with h1|⟨h1,_⟩ <;> omega
    exact Nat.lt_succ_of_le (le_div hpk this)
   | false=>
    obtain⟨q',hq',e'⟩:=P.fe k _ hfk hin
    obtain⟨t',ht',e2⟩:=P.all q' hq'
    rw[e',hpe] at e2
    have hkO:k∈O t':=(P.mem t' ht' k).2 ⟨q',hq',e',by rw[hpe,e2]⟩
    obtain⟨pre',p1,p2,p3,p4⟩:=h.job t' ht'
    have hdone:k∈pre'->n < (s.1 k).length:=fun hk=>by
     rw[p3 k hk,e2]
     have:n*F[k].per<=c:=by rcases hor' with h1|⟨h1,_⟩ <;> omega
     exact Nat.lt_succ_of_le (le_div hpk this)
    rw[p1] at hkO
    rcases List.mem_append.1 hkO with hk|hk
    ·exact hdone hk
    ·have hm':=p2 (fun e=>by rw[e] at hk;cases hk)
     rcases hor' with h1|⟨h1,h2,h3⟩
     ·rw[p4 k hk,e2]
      rw[e2] at hm'
      exact lt_div hm' h1
     ·exfalso
      rw[<-e2] at h3
      rcases Nat.lt_trichotomy t' t with hlt|heq|hgt
      ·rw[hlow t' hlt] at hk;cases hk
      ·subst heq
       have hkO':k∈O t':=by rw[p1];simp[hk]
       have hpre:=P.pre t' ht' pre j rest o1 q hq hqj k h2 hkO'
       have hnd:=P.nd t' ht'
       rw[o1] at hnd
       rw[hJ] at hk
       exact (List.nodup_append.1 hnd).2.2 k hpre k hk rfl
      ·have:=P.up t t' hgt ht';omega
  show (SL s.1 (k:Nat) (n:Nat)).isSome=true
  unfold SL
  rw[if_pos (by omega),Int.toNat_natCast,Int.toNat_natCast,List.getElem?_eq_getElem hgoal]
  rfl
 obtain⟨v,hv⟩:=Option.isSome_iff_exists.1 key
 exact⟨q,v,hf,hv⟩
theorem Ivj.rnd_go (P:Tp m F Q r T pt O) (h:Ivj F T pt O c s) (hc:c<=2000) (hid:¬idle T s):∃t,t < T/\((rnd m ρ Q T s).2 t).length < (s.2 t).length:=by
 have hex:∃t,t < T/\s.2 t≠[]:=by
  apply Classical.byContradiction
  intro hno
  exact hid (fun t ht=>Classical.byContradiction fun e=>hno ⟨t,ht,e⟩)
 obtain⟨t,ht,hne,hlow⟩:∃t,t < T/\s.2 t≠[]/\∀t',t' < t->s.2 t'=[]:=by
  obtain⟨t,h1,h2⟩:=hex
  induction t using Nat.strongRecOn with
  | ind t ih=>
   by_cases hl:∀t',t' < t->s.2 t'=[]
   ·exact⟨t,h1,h2,hl⟩
   ·obtain⟨t',h3⟩:=Classical.not_forall.1 hl
    obtain⟨h4,h5⟩:=Classical.not_imp.1 h3
    exact ih t' h4 (by omega) h5
 obtain⟨j,rest,hJ⟩:∃j rest,s.2 t=j::rest:=by
  cases e:s.2 t with
  | nil=>exact absurd e hne
  | cons j rest=>exact⟨j,rest,rfl⟩
 obtain⟨q,v,hq,hv⟩:=h.go P hc ht hlow hJ ρ
 refine⟨t,ht,?_⟩
 have e1:(rnd m ρ Q (t+1) s).2 t=rest:=by
  rw[rnd_succ,rnd_idle hlow]
  unfold stp
  rw[hJ]
  show (Go.Proofs.YtjehljjlcifndaaGreatDoor.pk m ρ Q s.1 s.2 t).2 t=rest
  unfold Go.Proofs.YtjehljjlcifndaaGreatDoor.pk
  rw[hJ]
  dsimp only
  rw[hq]
  simp[hv,jput_same]
 have e2:∀n,t+1<=n->(rnd m ρ Q n s).2 t=rest:=by
  intro n hn
  induction n with
  | zero=>omega
  | succ n ih=>
   by_cases c1:n=t
   ·subst c1;exact e1
   ·rw[rnd_succ,stp_other (by omega)]
    exact ih (by omega)
 rw[e2 T ht,hJ]
 simp
theorem rnd_keepsT {I:Lj->Prop}:∀(n:Nat) {s:Lj},(∀s t,t < n->I s->s.2 t≠[]->I (pk m ρ Q s.1 s.2 t))->I s->I (rnd m ρ Q n s)
 | 0,_,_,hs=>hs
 | n+1,s,h,hs=>by
  rw[rnd_succ]
  have h1:=rnd_keepsT n (fun s t ht=>h s t (by omega)) hs
  unfold stp
  by_cases e:((rnd m ρ Q n s).2 n).isEmpty=true
  ·rw[if_pos e];exact h1
  ·rw[if_neg e]
   exact h _ _ (by omega) h1 (fun e2=>e (by rw[e2];rfl))
theorem drain_ok (P:Tp m F Q r T pt O) (hc:c<=2000) {I:Lj->Prop} (hI:I s) (hv:∀s,I s->Ivj F T pt O c s) (hk:∀s t,t < T->I s->s.2 t≠[]->I (pk m ρ Q s.1 s.2 t)) {n N:Nat} (hN:jsum T s.2 < N) (hn:n=N/\∀k,k < n->¬idle T (itr m ρ Q T s k)):False:=by
 have:=itr_idle (m:=m) (ρ:=ρ) (Q:=Q) (T:=T) (I:=I) hI (fun s hs=>rnd_keepsT T hk hs) (fun s hs hid=>(hv s hs).rnd_go P hc hid) hn.2
 omega
structure Rsj (F:List Flo) (T c:Nat) (s:Lj):Prop where
 log:∀j f,F[j]?=some f->(s.1 j).length=(c+f.per - 1) / f.per
 job:∀t,t < T->s.2 t=[]
theorem cn_yes {c p:Nat} (hp:1<=p) (h:c % p=0):(c+p - 1) / p=c / p:=by
 have e:=Nat.div_add_mod c p
 rw[h,Nat.add_zero] at e
 have e2:c+p - 1=p*(c / p)+(p - 1):=by omega
 rw[e2,Nat.mul_add_div (by omega),Nat.div_eq_of_lt (by omega:p - 1 < p)]
 rfl
theorem cn_no {c p:Nat} (hp:1<=p) (h:c % p≠0):(c+p - 1) / p=c / p+1:=by
 have e:=Nat.div_add_mod c p
 have hl:=Nat.mod_lt c (by omega:0 < p)
 have e2:c+p - 1=p*(c / p)+(p+(c % p - 1)):=by omega
 rw[e2,Nat.mul_add_div (by omega),Nat.add_div_left _ (by omega),Nat.div_eq_of_lt (by omega:c % p - 1 < p)]
theorem cn_next (c:Nat) {p:Nat} (hp:1<=p):(c+1+p - 1) / p=c / p+1:=by
 have e:c+1+p - 1=c+p:=by omega
 rw[e,Nat.add_div_right _ (by omega)]
theorem Rsj.zero (P:Tp m F Q r T pt O):Rsj F T 0 (fun _=>[],fun _=>[]):=by
 refine⟨fun j f hf=>?_,fun _ _=>rfl⟩
 have:=P.pos f (List.mem_of_getElem? hf)
 rw[cn_yes this (Nat.zero_mod _),Nat.zero_div];rfl
theorem Ivj.done (P:Tp m F Q r T pt O) (h:Ivj F T pt O c s) (hid:idle T s):Rsj F T (c+1) s:=by
 refine⟨fun j f hf=>?_,hid⟩
 rw[cn_next c (P.pos f (List.mem_of_getElem? hf))]
 cases hin:f.inp with
 | true=>exact h.inp j f hf hin
 | false=>
  obtain⟨q,hq,e⟩:=P.fe j f hf hin
  obtain⟨t,ht,e2⟩:=P.all q hq
  obtain⟨pre,p1,_,p3,_⟩:=h.job t ht
  have hjO:j∈O t:=(P.mem t ht j).2 ⟨q,hq,e,by rw[e2,e]⟩
  rw[p1,hid t ht,List.append_nil] at hjO
  have e3:pt t=f.per:=by rw[e2,e,perAt_of hf]
  rw[p3 j hjO,e3]
end
theorem putL_not:∀(zs:List (Nat×Int)) (L:Nat->List Int) (j:Nat),j ∉ zs.map Prod.fst->putL L zs j=L j
 | [],_,_,_=>rfl
 | z::r,L,j,h=>by
  rw[List.map_cons,List.mem_cons] at h
  show putL (lput L z.1 z.2) r j=_
  rw[putL_not r _ j (fun e=>h (Or.inr e)),lput_ne _ _ (fun e=>h (Or.inl e))]
theorem putL_in:∀(zs:List (Nat×Int)) (L:Nat->List Int) (j:Nat) (v:Int),(zs.map Prod.fst).Nodup->(j,v)∈zs->putL L zs j=L j++[v]
 | [],_,_,_,_,h=>by cases h
 | z::r,L,j,v,hn,h=>by
  rw[List.map_cons,List.nodup_cons] at hn
  show putL (lput L z.1 z.2) r j=_
  rcases List.mem_cons.1 h with e|h
  ·subst e
   rw[putL_not r _ j hn.1,lput_same]
  ·have hne:j≠z.1:=fun e=>hn.1 (List.mem_map.2 ⟨(j,v),h,e⟩)
   rw[putL_in r _ j v hn.2 h,lput_ne _ _ hne]
theorem setJ_at (O:Nat->List Nat):∀(ts:List Nat) (J:Nat->List Nat) (t:Nat),setJ O J ts t=if t∈ts then O t else J t
 | [],_,_=>by simp[setJ]
 | z::r,J,t=>by
  show setJ O (jput J z (O z)) r t=_
  rw[setJ_at O r]
  by_cases h:t∈r
  ·rw[if_pos h,if_pos (by simp[h])]
  ·rw[if_neg h]
   by_cases e:t=z
   ·subst e
    rw[jput_same,if_pos (by simp)]
   ·rw[jput_ne _ _ e,if_neg (by simp[h,e])]
theorem duI_mem {F:List Flo} {c j:Nat}:j∈duI F c F.length↔∃f,F[j]?=some f/\f.inp=true/\c % f.per=0:=by
 unfold duI
 rw[List.mem_filter,List.mem_range]
 constructor
 ·rintro ⟨h1,h2⟩
  rw[List.getElem?_eq_getElem h1] at h2 ⊢
  dsimp only at h2
  simp only[Bool.and_eq_true,beq_iff_eq] at h2
  exact⟨_,rfl,h2.1,h2.2⟩
 ·rintro ⟨f,h1,h2,h3⟩
  refine⟨(lgs h1).1,?_⟩
  rw[h1]
  simp[h2,h3]
theorem duT_mem {U:List (Nat×Value)} {c t:Nat}:t∈duT U c U.length↔t < U.length/\c % ptU U t=0:=by
 unfold duT
 rw[List.mem_filter,List.mem_range]
 constructor
 ·rintro ⟨h1,h2⟩
  refine⟨h1,?_⟩
  rw[ptU_of (List.getElem?_eq_getElem h1)]
  rw[List.getElem?_eq_getElem h1] at h2
  simpa using h2
 ·rintro ⟨h1,h2⟩
  refine⟨h1,?_⟩
  rw[ptU_of (List.getElem?_eq_getElem h1)] at h2
  rw[List.getElem?_eq_getElem h1]
  simpa using h2
theorem duI_nodup (F:List Flo) (c i:Nat):(duI F c i).Nodup:=List.Nodup.sublist List.filter_sublist List.nodup_range
theorem zip_fst:∀(ds:List Nat) (xs:List Int),ds.length=xs.length->(ds.zip xs).map Prod.fst=ds
 | [],_,_=>rfl
 | d::r,[],h=>by simp at h
 | d::r,x::t,h=>by
  rw[List.zip_cons_cons,List.map_cons,zip_fst r t (by simpa using h)]
theorem Rsj.tick {m:Mil.Bytes->Option Int} {F:List Flo} {Q:List Nq} {r:Nat->Nat} {O:Nat->List Nat} {U:List (Nat×Value)} {c:Nat} {s:Lj} (P:Tp m F Q r U.length (ptU U) O) (h:Rsj F U.length c s) {xs:List Int} (hx:(duI F c F.length).length=xs.length):Ivj F U.length (ptU U) O c (putL s.1 ((duI F c F.length).zip xs),setJ O s.2 (duT U c U.length)):=by
 have hz:=zip_fst _ _ hx
 have hnd:(((duI F c F.length).zip xs).map Prod.fst).Nodup:=by rw[hz];exact duI_nodup F c _
 refine⟨fun j f hf hi=>?_,fun t ht=>?_⟩
 ·have hp:=P.pos f (List.mem_of_getElem? hf)
  show (putL s.1 _ j).length=_
  by_cases hm:c % f.per=0
  ·have hj:j∈((duI F c F.length).zip xs).map Prod.fst:=by rw[hz];exact duI_mem.2 ⟨f,hf,hi,hm⟩
   obtain⟨z,h1,h2⟩:=List.mem_map.1 hj
   obtain⟨a,v⟩:=z
   obtain rfl:a=j:=h2
   rw[putL_in _ _ a v hnd h1,List.length_append,h.log a f hf,cn_yes hp hm];rfl
  ·have hj:j ∉ ((duI F c F.length).zip xs).map Prod.fst:=by
    rw[hz]
    intro e
    obtain⟨f',e1,_,e2⟩:=duI_mem.1 e
    rw[hf] at e1
    obtain rfl:=osi e1
    exact hm e2
   rw[putL_not _ _ j hj,h.log j f hf,cn_no hp hm]
 ·have hlog:∀e∈O t,putL s.1 ((duI F c F.length).zip xs) e=s.1 e:=fun e he=>by
   refine putL_not _ _ e ?_
   rw[hz]
   intro e1
   obtain⟨f',h1,h2,_⟩:=duI_mem.1 e1
   rw[P.noInp ht he h1] at h2;cases h2
  have hl2:∀e∈O t,(s.1 e).length=(c+ptU U t - 1) / ptU U t:=fun e he=>by
   obtain⟨f,h1,_,h3,_⟩:=P.at_ ht he
   rw[h.log e f h1,h3]
  have hp:=P.ptp t ht
  by_cases hm:c % ptU U t=0
  ·have e1:setJ O s.2 (duT U c U.length) t=O t:=by rw[setJ_at,if_pos (duT_mem.2 ⟨ht,hm⟩)]
   refine⟨[],by show _=[]++setJ O s.2 _ t;rw[e1];rfl,fun _=>hm,(fun e he=>by cases he),fun e he=>?_⟩
   have he2:e∈setJ O s.2 (duT U c U.length) t:=he
   rw[e1] at he2
   show (putL s.1 _ e).length=_
   rw[hlog e he2,hl2 e he2,cn_yes hp hm]
  ·have e1:setJ O s.2 (duT U c U.length) t=[]:=by
    rw[setJ_at,if_neg (fun e=>hm (duT_mem.1 e).2),h.job t ht]
   refine⟨O t,by show _=_++setJ O s.2 _ t;rw[e1];simp,fun e=>absurd e1 e,fun e he=>?_,fun e he=>?_⟩
   ·show (putL s.1 _ e).length=_
    rw[hlog e he,hl2 e he,cn_no hp hm]
   ·have he2:e∈setJ O s.2 (duT U c U.length) t:=he
    rw[e1] at he2;cases he2
theorem Ivj.jsum {m:Mil.Bytes->Option Int} {F:List Flo} {Q:List Nq} {r:Nat->Nat} {T:Nat} {pt:Nat->Nat} {O:Nat->List Nat} {c:Nat} {s:Lj} (P:Tp m F Q r T pt O) (h:Ivj F T pt O c s):jsum T s.2 < (F.length+1)*(T+1):=by
 have key:∀n,n<=T->Go.Proofs.YtjehljjlcifndaaGreatDoor.jsum n s.2<=F.length*n:=by
  intro n
  induction n with
  | zero=>intro _;exact Nat.le_refl _
  | succ n ih=>
   intro hn
   have h1:=ih (by omega)
   obtain⟨pre,o1,_⟩:=h.job n (by omega)
   have h2:(O n).length<=(List.range F.length).length:=Mip.len_le _ _ (P.nd n (by omega)) (fun x hx=>by
    obtain⟨_,_,_,_,hl⟩:=P.at_ (by omega) hx
    exact List.mem_range.2 hl)
   rw[List.length_range,o1,List.length_append] at h2
   rw[jsum_succ,Nat.mul_succ]
   omega
 have h1:=key T nlr
 have h2:(F.length+1)*(T+1)=F.length*T+F.length+T+1:=by
  rw[Nat.add_mul,Nat.mul_add,Nat.one_mul,Nat.mul_one];omega
 omega
end
section
open Go.RowKit
def Pol (tk:Nat):List Flo->List (List Int)->Prop
 | [],ls=>ls=[]
 | f::r,ls=>if f.inp then ∃l t,ls=l::t/\l.length=(tk+f.per - 1) / f.per/\(f.ty=1->∀v∈l,v=0\/v=1)/\Pol tk r t else Pol tk r ls
theorem Pol.skip {tk:Nat} {f:Flo} (hf:f.inp=false):∀(A:List Flo) (ls:List (List Int)),Pol tk A ls->Pol tk (A++[f]) ls
 | [],ls,h=>by
  show Pol tk [f] ls
  unfold Pol
  rw[if_neg (by rw[hf];decide)]
  exact h
 | g::A,ls,h=>by
  show Pol tk (g::(A++[f])) ls
  unfold Pol at h ⊢
  by_cases c:g.inp=true
  ·rw[if_pos c] at h ⊢
   obtain⟨l,t,h1,h2,h3,h4⟩:=h
   exact⟨l,t,h1,h2,h3,Pol.skip hf A t h4⟩
  ·rw[if_neg c] at h ⊢
   exact Pol.skip hf A ls h
theorem Pol.take {tk:Nat} {f:Flo} (hf:f.inp=true) {l:List Int} (hl:l.length=(tk+f.per - 1) / f.per) (hb:f.ty=1->∀v∈l,v=0\/v=1):∀(A:List Flo) (ls:List (List Int)),Pol tk A ls->Pol tk (A++[f]) (ls++[l])
 | [],ls,h=>by
  have e:ls=[]:=h
  subst e
  show Pol tk [f] [l]
  unfold Pol
  rw[if_pos hf]
  exact⟨l,[],rfl,hl,hb,rfl⟩
 | g::A,ls,h=>by
  show Pol tk (g::(A++[f])) (ls++[l])
  unfold Pol at h ⊢
  by_cases c:g.inp=true
  ·rw[if_pos c] at h ⊢
   obtain⟨l',t,rfl,h2,h3,h4⟩:=h
   exact⟨l',t++[l],rfl,h2,h3,Pol.take hf hl hb A t h4⟩
  ·rw[if_neg c] at h ⊢
   exact Pol.take hf hl hb A ls h
theorem Pol.nin {tk:Nat}:∀{A:List Flo} {ls:List (List Int)},Pol tk A ls->nin A=ls.length
 | [],ls,h=>by have e:ls=[]:=h;subst e;rfl
 | g::A,ls,h=>by
  unfold Pol at h
  unfold Go.Proofs.YtjehljjlcifndaaGreatDoor.nin
  by_cases c:g.inp=true
  ·rw[if_pos c] at h
   obtain⟨l',t,rfl,h2,h3,h4⟩:=h
   have:=Pol.nin h4
   unfold Go.Proofs.YtjehljjlcifndaaGreatDoor.nin at this
   rw[List.filter_cons_of_pos c,List.length_cons,List.length_cons,this]
  ·rw[if_neg c] at h
   have:=Pol.nin h
   unfold Go.Proofs.YtjehljjlcifndaaGreatDoor.nin at this
   rw[List.filter_cons_of_neg c,this]
def dui (c:Nat):List Flo->Nat->List Nat
 | [],_=>[]
 | f::r,k=>(if f.inp=true/\c % f.per=0 then [k] else [])++dui c r (k+1)
theorem dui_is (F:List Flo) (c:Nat):∀e,e<=F.length->duI F c e++dui c (F.drop e) e=dui c F 0
 | 0,_=>by simp[duI]
 | e+1,h=>by
  rw[<-dui_is F c e (by omega)]
  have hf:F[e]?=some F[e]:=List.getElem?_eq_getElem (by omega)
  have ed:F.drop e=F[e]::F.drop (e+1):=List.drop_eq_getElem_cons (by omega)
  rw[ed]
  show _=duI F c e++((if F[e].inp=true/\c % F[e].per=0 then [e] else [])++dui c (F.drop (e+1)) (e+1))
  by_cases c1:F[e].inp=true/\c % F[e].per=0
  ·rw[if_pos c1,duI_yes hf c1.1 c1.2,List.append_assoc]
  ·have c2:F[e].inp=false\/c % F[e].per≠0:=by
    cases hi:F[e].inp with
    | false=>exact Or.inl rfl
    | true=>exact Or.inr (fun e2=>c1 ⟨hi,e2⟩)
   rw[if_neg c1,duI_no hf c2,List.nil_append]
theorem duI_dui (F:List Flo) (c:Nat):duI F c F.length=dui c F 0:=by
 rw[<-dui_is F c F.length nlr,List.drop_length]
 simp[dui]
theorem fit_at {tk c:Nat} (hc:c < tk):∀(A:List Flo) (ls:List (List Int)) (k:Nat),(∀f∈A,1<=f.per)->Pol tk A ls->(dui c A k).length=(dvs A ls c).length/\∀p∈(dui c A k).zip (dvs A ls c),k<=p.1/\∃f,A[p.1 - k]?=some f/\fitL f.ty [p.2]=true
 | [],ls,k,_,_=>⟨rfl,fun p hp=>by simp[dui] at hp⟩
 | f::A,ls,k,hp,h=>by
  have hpA:∀f∈A,1<=f.per:=fun g hg=>hp g (by simp[hg])
  have up:∀p:Nat×Int,(k+1<=p.1/\∃g,A[p.1 - (k+1)]?=some g/\fitL g.ty [p.2]=true)->k<=p.1/\∃g,(f::A)[p.1 - k]?=some g/\fitL g.ty [p.2]=true:=by
   rintro p ⟨h1,g,h2,h3⟩
   refine⟨by omega,g,?_,h3⟩
   have e:p.1 - k=p.1 - (k+1)+1:=by omega
   rw[e,List.getElem?_cons_succ]
   exact h2
  unfold Pol at h
  unfold dui dvs
  by_cases ci:f.inp=true
  ·rw[if_pos ci] at h ⊢
   obtain⟨l,t,rfl,h2,h3,h4⟩:=h
   obtain⟨i1,i2⟩:=fit_at hc A t (k+1) hpA h4
   dsimp only
   by_cases cm:c % f.per=0
   ·have hp1:=hp f (by simp)
    have hlt:c / f.per < l.length:=by
     rw[h2]
     have e1:=Nat.div_add_mod c f.per
     rw[cm,Nat.add_zero] at e1
     have e2:(c / f.per+1)*f.per<=tk+f.per - 1:=by
      rw[Nat.add_mul,Nat.mul_comm (c / f.per),e1];omega
     exact le_div hp1 e2
    rw[if_pos ⟨ci,cm⟩,if_pos cm,List.getElem?_eq_getElem hlt]
    refine⟨by simpa using i1,fun p hpz=>?_⟩
    have hz:p∈(k,l[c / f.per])::(dui c A (k+1)).zip (dvs A t c):=by simpa using hpz
    rcases List.mem_cons.1 hz with rfl|hz
    ·refine⟨Nat.le_refl _,f,by simp,?_⟩
     unfold fitL
     by_cases ct:f.ty=1
     ·have:=h3 ct _ (List.getElem_mem hlt)
      rcases this with e|e <;> simp[e]
     ·have:(f.ty != 1)=true:=by simpa using ct
      rw[this];rfl
    ·exact up p (i2 p hz)
   ·rw[if_neg (fun e=>cm e.2),if_neg cm]
    exact⟨i1,fun p hpz=>up p (i2 p hpz)⟩
  ·rw[if_neg ci] at h ⊢
   obtain⟨i1,i2⟩:=fit_at hc A ls (k+1) hpA h
   rw[if_neg (fun e=>ci e.1)]
   exact⟨i1,fun p hpz=>up p (i2 p hpz)⟩
theorem fitT_ok {tk c:Nat} (hc:c < tk) {F:List Flo} {ls:List (List Int)} (hp:∀f∈F,1<=f.per) (h:Pol tk F ls):fitT F (duI F c F.length) (dvs F ls c)=true/\(duI F c F.length).length=(dvs F ls c).length:=by
 obtain⟨h1,h2⟩:=fit_at hc F ls 0 hp h
 rw[<-duI_dui] at h1 h2
 refine⟨?_,h1⟩
 unfold fitT
 simp only[Bool.and_eq_true,decide_eq_true_eq,List.all_eq_true]
 refine⟨h1,fun p hpz=>?_⟩
 obtain⟨_,f,h3,h4⟩:=h2 p hpz
 rw[Nat.sub_zero] at h3
 unfold ftyAt
 rw[h3]
 exact h4
theorem dvs_len (c:Nat):∀(A:List Flo) (ls:List (List Int)),(dvs A ls c).length<=A.length
 | [],_=>Nat.le_refl _
 | f::A,ls=>by
  unfold dvs
  by_cases ci:f.inp=true
  ·rw[if_pos ci]
   cases ls with
   | nil=>simp
   | cons l t=>
    dsimp only
    have h1:=dvs_len c A t
    rw[List.length_append,List.length_cons]
    split
    ·cases l[c / f.per]? <;> simp <;> omega
    ·simp;omega
  ·rw[if_neg ci,List.length_cons]
   have:=dvs_len c A ls
   omega
end
section
open Go.RowKit
def Li (F:List Flo) (L:Nat->List Int) (j:Nat):Option (List Int):=match F[j]? with
 | some f=>if f.inp then some (L j) else none
 | none=>none
def Beg (m:Mil.Bytes->Option Int) (ρ:Mil.Bytes->Int->Int->Int) (F:List Flo) (Q:List Nq) (L:Nat->List Int):Prop:=
 ∀S:Int->Int->Option Int,(∀j n,S j n=tv m ρ Q (Li F L) S j n)->∀j,j < F.length->∀(i:Nat) x,(L j)[i]?=some x->S (j:Nat) (i:Nat)=some x
section
variable {m:Mil.Bytes->Option Int} {ρ:Mil.Bytes->Int->Int->Int} {F:List Flo} {Q:List Nq} {r:Nat->Nat}
theorem Beg.zero:Beg m ρ F Q (fun _=>[]):=fun S _ j _ i x h=>by simp at h
theorem Li_put {L:Nat->List Int} {j:Nat} (hj:∀f,F[j]?=some f->f.inp=false) (v:Int):Li F (lput L j v)=Li F L:=by
 funext k
 unfold Li
 cases hk:F[k]? with
 | none=>rfl
 | some f=>
  dsimp only
  cases hi:f.inp with
  | false=>rfl
  | true=>
   have hne:k≠j:=fun e=>by
    subst e
    rw[hj f hk] at hi;cases hi
   rw[lput_ne _ _ hne]
theorem Beg.put (C:Cd m F Q r) (hfit:∀x k,m x=some k->0<=k/\k.toNat < F.length) {L:Nat->List Int} (h:Beg m ρ F Q L) {j:Nat} {q:Nq} (hq:q∈Q) (hqj:q.flow=j) (hj:∀f,F[j]?=some f->f.inp=false) (hl:(L j).length<=2000) {v:Int} (hv:Mip.sm m ρ (SL L) q.body ((L j).length:Nat)=some v):Beg m ρ F Q (lput L j v):=by
 intro S hS k hk i x hx
 rw[Li_put hj] at hS
 by_cases e:k=j
 ·subst e
  rw[lput_same] at hx
  rcases Nat.lt_or_ge i (L k).length with c1|c1
  ·rw[List.getElem?_append_left c1] at hx
   exact h S hS k hk i x hx
  ·have hi2:=(lgs hx).1
   have e3:i=(L k).length:=by simp at hi2;omega
   rw[e3] at hx ⊢
   have e4:v=x:=by simpa using hx
   subst e4
   have hL:Li F L k=none:=by
    unfold Li
    cases hf:F[k]? with
    | none=>rfl
    | some f=>
     dsimp only
     rw[hj f hf];rfl
   refine sol_next hS hL (by rw[<-hqj];exact C.up q hq) hl (fun n hn=>?_) ?_
   ·obtain⟨y,hy⟩:∃y,(L k)[n]?=some y:=⟨_,List.getElem?_eq_getElem hn⟩
    rw[h S hS k hk n y hy];rfl
   ·refine Mip.sm_mono (d:=fun j' n'=>0<=n'/\∃x,m x=some j') (fun j' n' y hd hy=>?_) q.body (C.hl q hq).wf _ _ (Mip.ask_mono (fun j' n' hd=>⟨hd.1,hd.2.1⟩) q.body (C.hl q hq).wf _ (asks_time C hq hl)) hv
    obtain⟨h0,x,hx⟩:=hd
    obtain⟨f0,f1⟩:=hfit x j' hx
    unfold SL at hy
    rw[if_pos h0] at hy
    have:=h S hS j'.toNat f1 n'.toNat y hy
    rw[Int.toNat_of_nonneg f0,Int.toNat_of_nonneg h0] at this
    exact this
 ·rw[lput_ne _ _ e] at hx
  exact h S hS k hk i x hx
theorem Beg.pk {T:Nat} {pt:Nat->Nat} {O:Nat->List Nat} (P:Tp m F Q r T pt O) {s:Lj} (h:Beg m ρ F Q s.1) {t:Nat} (hJ:Jok F Q s.1 (s.2 t)):Beg m ρ F Q (pk m ρ Q s.1 s.2 t).1:=by
 rcases pk_cases m ρ Q s.1 s.2 t with e|⟨j,rest,q,v,hj,hq,hv,e⟩
 ·rw[e];exact h
 ·rw[e]
  obtain⟨_,_,h3⟩:=hJ j (by rw[hj];simp)
  have hm:=List.mem_of_find?_eq_some hq
  have hqj:q.flow=j:=by have:=List.find?_some hq;simpa using this
  refine h.put P.cd P.fit hm hqj (fun f hf=>?_) h3 hv
  obtain⟨g,h1,h2⟩:=P.eqf q hm
  rw[hqj,hf] at h1
  obtain rfl:=osi h1
  exact h2
theorem Beg.more (C:Cd m F Q r) {L L':Nat->List Int} (h:Beg m ρ F Q L) (hin:∀j f,F[j]?=some f->f.inp=true->(∃t,L' j=L j++t)/\(L' j).length<=2001) (hno:∀j f,F[j]?=some f->f.inp=false->L' j=L j):Beg m ρ F Q L':=by
 intro S' hS' j hj i x hx
 have hf:F[j]?=some F[j]:=List.getElem?_eq_getElem hj
 cases hi:F[j].inp with
 | true=>
  have hL:Li F L' j=some (L' j):=by
   unfold Li
   rw[hf]
   dsimp only
   rw[hi];rfl
  have hlt:=(lgs hx).1
  have:=(hin j _ hf hi).2
  rw[sol_in hS' hL (by omega)]
  exact hx
 | false=>
  rw[hno j _ hf hi] at hx
  obtain⟨S,hS,_⟩:=sol_ex C ρ (Li F L)
  refine sol_mono C (fun k=>?_) hS hS' _ _ _ rfl x (h S hS j hj i x hx)
  unfold Li
  cases hk:F[k]? with
  | none=>exact⟨Iff.rfl,fun l l' e=>by cases e⟩
  | some f=>
   dsimp only
   cases hfi:f.inp with
   | false=>exact⟨Iff.rfl,fun l l' e=>by cases e⟩
   | true=>
    refine⟨by simp,fun l l' e e'=>?_⟩
    obtain⟨t,ht⟩:=(hin k f hk hfi).1
    have e1:L k=l:=by simpa using e
    have e2:L' k=l':=by simpa using e'
    exact⟨t,by rw[<-e1,<-e2];exact ht⟩
end
theorem putL_inp {F:List Flo} {c:Nat} {L:Nat->List Int} {xs:List Int} (hx:(duI F c F.length).length=xs.length) {j:Nat} {f:Flo} (hf:F[j]?=some f):(f.inp=true->(∃t,putL L ((duI F c F.length).zip xs) j=L j++t)/\(putL L ((duI F c F.length).zip xs) j).length<=(L j).length+1)/\(f.inp=false->putL L ((duI F c F.length).zip xs) j=L j):=by
 have hz:=zip_fst _ _ hx
 have hnd:(((duI F c F.length).zip xs).map Prod.fst).Nodup:=by rw[hz];exact duI_nodup F c _
 by_cases hm:j∈((duI F c F.length).zip xs).map Prod.fst
 ·obtain⟨⟨a,v⟩,h1,h2⟩:=List.mem_map.1 hm
  obtain rfl:a=j:=h2
  rw[putL_in _ _ a v hnd h1]
  refine⟨fun _=>⟨⟨_,rfl⟩,by simp⟩,fun hi=>?_⟩
  rw[hz] at hm
  obtain⟨f',e1,e2,_⟩:=duI_mem.1 hm
  rw[hf] at e1
  obtain rfl:=osi e1
  rw[hi] at e2;cases e2
 ·rw[putL_not _ _ j hm]
  exact⟨fun _=>⟨⟨[],by simp⟩,by omega⟩,fun _=>rfl⟩
theorem Beg.tick {m:Mil.Bytes->Option Int} {ρ:Mil.Bytes->Int->Int->Int} {F:List Flo} {Q:List Nq} {r:Nat->Nat} (C:Cd m F Q r) {L:Nat->List Int} (h:Beg m ρ F Q L) {c:Nat} {xs:List Int} (hx:(duI F c F.length).length=xs.length) (hl:∀j,(L j).length<=1900):Beg m ρ F Q (putL L ((duI F c F.length).zip xs)):=
 h.more C (fun j f hf hi=>by
  obtain⟨h1,h2⟩:=(putL_inp (L:=L) hx hf).1 hi
  exact⟨h1,by have:=hl j;omega⟩) (fun j f hf hi=>(putL_inp hx hf).2 hi)
def gv (F:List Flo) (L:Nat->List Int) (e:Nat):List (List Int):=(List.range e).filterMap (Li F L)
theorem lay_gv {F:List Flo} {L:Nat->List Int} (hfit:∀j f,F[j]?=some f->f.inp=true->fitL f.ty (L j)=true):∀(n i:Nat),i+n=F.length->lay (F.drop i) ((List.range' i n).filterMap (Li F L))=some ((List.range' i n).map (Li F L))
 | 0,i,h=>by
  rw[List.drop_eq_nil_of_le (by omega)]
  rfl
 | n+1,i,h=>by
  have hlt:i < F.length:=by omega
  have hf:F[i]?=some F[i]:=List.getElem?_eq_getElem hlt
  rw[List.drop_eq_getElem_cons hlt,List.range'_succ,List.map_cons]
  have ih:=lay_gv hfit n (i+1) (by omega)
  cases hi:F[i].inp with
  | true=>
   have h1:Li F L i=some (L i):=by
    unfold Li
    rw[hf]
    dsimp only
    rw[hi];rfl
   rw[List.filterMap_cons_some h1,h1]
   unfold lay
   rw[if_pos hi]
   dsimp only
   rw[if_pos (hfit i _ hf hi),ih]
   rfl
  | false=>
   have h1:Li F L i=none:=by
    unfold Li
    rw[hf]
    dsimp only
    rw[hi];rfl
   rw[List.filterMap_cons_none h1,h1]
   unfold lay
   rw[if_neg (by rw[hi];decide),ih]
   rfl
theorem lay_all {F:List Flo} {L:Nat->List Int} (hfit:∀j f,F[j]?=some f->f.inp=true->fitL f.ty (L j)=true):lay F (gv F L F.length)=some ((List.range F.length).map (Li F L)):=by
 have h:=lay_gv hfit F.length 0 (by omega)
 rw[List.drop_zero,<-List.range_eq_range'] at h
 exact h
theorem lof_li (F:List Flo) (L:Nat->List Int):Lof ((List.range F.length).map (Li F L))=Li F L:=by
 funext j
 unfold Lof
 rw[List.getElem?_map]
 rcases Nat.lt_or_ge j F.length with c|c
 ·rw[List.getElem?_range c];rfl
 ·rw[List.getElem?_eq_none (by simpa using c)]
  unfold Li
  rw[List.getElem?_eq_none c];rfl
end
section
open Go.RowKit
structure Iq (m:Mil.Bytes->Option Int) (ρ:Mil.Bytes->Int->Int->Int) (F:List Flo) (Q:List Nq) (T:Nat) (pt:Nat->Nat) (O:Nat->List Nat) (c:Nat) (A:Nat->List Int) (s:Lj):Prop where
 iv:Ivj F T pt O c s
 be:Beg m ρ F Q s.1
 inp:∀j f,F[j]?=some f->f.inp=true->s.1 j=A j
 out:∀j,F.length<=j->s.1 j=[]
structure Rq (m:Mil.Bytes->Option Int) (ρ:Mil.Bytes->Int->Int->Int) (F:List Flo) (Q:List Nq) (T c:Nat) (A:Nat->List Int) (s:Lj):Prop where
 rs:Rsj F T c s
 be:Beg m ρ F Q s.1
 inp:∀j f,F[j]?=some f->f.inp=true->s.1 j=A j
 out:∀j,F.length<=j->s.1 j=[]
section
variable {m:Mil.Bytes->Option Int} {ρ:Mil.Bytes->Int->Int->Int} {F:List Flo} {Q:List Nq} {r:Nat->Nat} {T:Nat} {pt:Nat->Nat} {O:Nat->List Nat} {c:Nat} {s:Lj} {A:Nat->List Int}
theorem Iq.pk (P:Tp m F Q r T pt O) (h:Iq m ρ F Q T pt O c A s) (hc:c<=2000) {t:Nat} (ht:t < T):Iq m ρ F Q T pt O c A (pk m ρ Q s.1 s.2 t):=by
 refine⟨h.iv.pk P ht,h.be.pk P (h.iv.jok P hc ht),fun j f hf hi=>?_,fun j hj=>?_⟩
 all_goals rcases pk_cases m ρ Q s.1 s.2 t with e|⟨k,rest,q,v,hJ,hq,hv,e⟩
 ·rw[e];exact h.inp j f hf hi
 rotate_left
 ·rw[e];exact h.out j hj
 ·rw[e]
  have hne:j≠k:=fun e=>by
   subst e
   obtain⟨pre,o1,_⟩:=h.iv.job t ht
   obtain⟨_,_,_,_,hl⟩:=P.at_ (e:=j) ht (by rw[o1,hJ];simp)
   omega
  show lput s.1 k v j=_
  rw[lput_ne _ _ hne]
  exact h.out j hj
 ·rw[e]
  have hne:j≠k:=fun e=>by
   subst e
   obtain⟨pre,o1,_⟩:=h.iv.job t ht
   have hjO:j∈O t:=by rw[o1,hJ];simp
   rw[P.noInp ht hjO hf] at hi;cases hi
  show lput s.1 k v j=_
  rw[lput_ne _ _ hne]
  exact h.inp j f hf hi
theorem Iq.done (P:Tp m F Q r T pt O) (h:Iq m ρ F Q T pt O c A s) (hid:idle T s):Rq m ρ F Q T (c+1) A s:=⟨h.iv.done P hid,h.be,h.inp,h.out⟩
theorem Rq.zero (P:Tp m F Q r T pt O):Rq m ρ F Q T 0 (fun _=>[]) (fun _=>[],fun _=>[]):=⟨Rsj.zero P,Beg.zero,fun _ _ _ _=>rfl,fun _ _=>rfl⟩
theorem Rq.len (P:Tp m F Q r T pt O) (h:Rq m ρ F Q T c A s) (j:Nat):(s.1 j).length<=c:=by
 rcases Nat.lt_or_ge j F.length with hj|hj
 rotate_left
 ·rw[h.out j hj];exact Nat.zero_le _
 obtain⟨f,hf⟩:∃f,F[j]?=some f:=⟨_,List.getElem?_eq_getElem hj⟩
 have hp:=P.pos f (List.mem_of_getElem? hf)
 rw[h.rs.log j f hf]
 by_cases hm:c % f.per=0
 ·rw[cn_yes hp hm];exact Nat.div_le_self _ _
 ·rw[cn_no hp hm]
  have h1:c / f.per*f.per < c:=by
   have e:=Nat.div_add_mod c f.per
   rw[Nat.mul_comm] at e
   omega
  exact Nat.lt_of_le_of_lt (Nat.le_mul_of_pos_right _ (by omega)) h1
end
section
variable {m:Mil.Bytes->Option Int} {ρ:Mil.Bytes->Int->Int->Int} {F:List Flo} {Q:List Nq} {r:Nat->Nat} {U:List (Nat×Value)} {O:Nat->List Nat} {c:Nat} {s:Lj} {A:Nat->List Int} {al:Nat->Addr} {D:Nat->Obj->Prop} {wE w:World} {mb lb jb:Nat} {fv tv wv:Value}
theorem tkn_ok (P:Tp m F Q r U.length (ptU U) O) (h:Rq m ρ F Q U.length c A s) (hl:∀j,(s.1 j).length<=1900) {xs:List Int} (hx:fitT F (duI F c F.length) xs=true) {k:Int} (hk:TkN al D F U O wE mb lb jb fv tv wv c false s.1 s.2 xs k w) :
  k=0/\∃s' fn jn,Mc D wE mb lb jb F.length U.length fv tv wv ((c+1:Nat):Int) false s'.1 s'.2 fn jn w/\Iq m ρ F Q U.length (ptU U) O c (putL A ((duI F c F.length).zip xs)) s':=by
 obtain⟨fn,jn,⟨h1,_⟩|⟨_,h2,_⟩|⟨_,_,h3,_⟩|⟨_,_,h3,h4,h5⟩⟩:=hk
 ·cases h1
 ·rw[hx] at h2;cases h2
 ·exfalso
  obtain⟨t,ht,hb⟩:=List.any_eq_true.1 h3
  rw[h.rs.job t (duT_lt ht)] at hb
  cases hb
 ·have hxl:(duI F c F.length).length=xs.length:=by
   unfold fitT at hx
   simp only[Bool.and_eq_true,decide_eq_true_eq] at hx
   exact hx.1
  refine⟨h4,(putL s.1 ((duI F c F.length).zip xs),setJ O s.2 (duT U c U.length)),fn,jn,h5,h.rs.tick P hxl,h.be.tick P.cd hxl hl,fun j f hf hi=>?_,fun j hj=>?_⟩
  rotate_left
  ·show putL s.1 _ j=_
   rw[putL_not _ _ j (fun e=>by
    rw[zip_fst _ _ hxl] at e
    have:=duI_lt e
    omega)]
   exact h.out j hj
  have hz:=zip_fst _ _ hxl
  have hnd:(((duI F c F.length).zip xs).map Prod.fst).Nodup:=by rw[hz];exact duI_nodup F c _
  show putL s.1 _ j=_
  by_cases hm:j∈((duI F c F.length).zip xs).map Prod.fst
  ·obtain⟨⟨a,v⟩,h6,h7⟩:=List.mem_map.1 hm
   obtain rfl:a=j:=h7
   rw[putL_in _ _ a v hnd h6,putL_in _ _ a v hnd h6,h.inp a f hf hi]
  ·rw[putL_not _ _ j hm,putL_not _ _ j hm,h.inp j f hf hi]
theorem drp_ok {B0 K:Nat} {fn jn:Nat->Value} (PM:Pm m ρ F Q r wE wv B0) (P:Tp m F Q r U.length (ptU U) O) (hc:c<=2000) (hi:Iq m ρ F Q U.length (ptU U) O c A s) (hT:U.length<=60) (hK:K<=60) (hN:jsum U.length s.2 < (K+1)*(U.length+1)) {cc:Int} (h:Mc D wE mb lb jb F.length U.length fv tv wv cc false s.1 s.2 fn jn w) :
  Calls Tryz.prog 23 #[.pointer (some ⟨mb,0,none⟩),.int .i64 (U.length:Nat),.int .i64 (K:Nat)] w fun E w'=>E=.returned (.bool true)/\∃s' fn' jn',Mc D wE mb lb jb F.length U.length fv tv wv cc false s'.1 s'.2 fn' jn' w'/\Rq m ρ F Q U.length (c+1) A s':=by
 refine (drained_any PM (Iq m ρ F Q U.length (ptU U) O c A) hi (fun s t ht h _=>⟨h.iv.jok P hc ht,h.pk P hc ht⟩) hT hK h).mono ?_
 rintro E w' ⟨n,b,fn',jn',rfl,_,hM,hI,h1,h2⟩
 cases b with
 | false=>exact (drain_ok P hc hi (fun s hs=>hs.iv) (fun s t ht hs _=>hs.pk P hc ht) hN (h2 rfl)).elim
 | true=>exact⟨rfl,_,fn',jn',hM,hI.done P (h1 rfl)⟩
end
end
end Go.Proofs.YtjehljjlcifndaaGreatDoor
