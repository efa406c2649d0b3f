import Derived.Test.YtjehljjlcifndaaGreatDoorV42
import Derived.Test.YtjehljjlcifndaaGreatDoorV35
import Derived.Test.YtjehljjlcifndaaGreatDoorV34
namespace Go.Proofs.YtjehljjlcifndaaGreatDoor
set_option maxHeartbeats 32000000
set_option maxRecDepth 100000
section
open Go.RowKit
variable {f:Flo} {c tk:Nat}
def Pol (tk:Nat):List Flo->List (List Int)->Prop
 | [],ls=>ls=[]
 | f::r,ls=>if f.inp then ∃l t,ls=l::t/\l.length=(tk+f.per - 1) / f.per/\(f.ty=1->∀v∈l,v=0\/v=1)/\Pol tk r t else Pol tk r ls
theorem Pol.skip (hf:f.inp=false):∀(A:List Flo) (ls:List (List Int)),Pol tk A ls->Pol tk (A++[f]) ls
 | [],ls,h=>by
  show Pol tk [f] ls
  unfold Pol
  rw[if_neg (by rw[hf];decide)]
  exact h
 | g::A,ls,h=>by
  show Pol tk (g::(A++[f])) ls
  unfold Pol at h ⊢
  by_cases c:g.inp=true
  ·rw[if_pos c] at h ⊢
   obtain⟨l,t,h1,h2,h3,h4⟩:=h
   exact⟨l,t,h1,h2,h3,Pol.skip hf A t h4⟩
  ·rw[if_neg c] at h ⊢
   exact Pol.skip hf A ls h
theorem Pol.take (hf:f.inp=true) {l:List Int} (hl:l.length=(tk+f.per - 1) / f.per) (hb:f.ty=1->∀v∈l,v=0\/v=1):∀(A:List Flo) (ls:List (List Int)),Pol tk A ls->Pol tk (A++[f]) (ls++[l])
 | [],ls,h=>by
  have e:ls=[]:=h
  subst e
  show Pol tk [f] [l]
  unfold Pol
  rw[if_pos hf]
  exact⟨l,[],rfl,hl,hb,rfl⟩
 | g::A,ls,h=>by
  show Pol tk (g::(A++[f])) (ls++[l])
  unfold Pol at h ⊢
  by_cases c:g.inp=true
  ·rw[if_pos c] at h ⊢
   obtain⟨l',t,rfl,h2,h3,h4⟩:=h
   exact⟨l',t++[l],rfl,h2,h3,Pol.take hf hl hb A t h4⟩
  ·rw[if_neg c] at h ⊢
   exact Pol.take hf hl hb A ls h
theorem Pol.nin:∀{A:List Flo} {ls:List (List Int)},Pol tk A ls->nin A=ls.length
 | [],ls,h=>by have e:ls=[]:=h;subst e;rfl
 | g::A,ls,h=>by
  unfold Pol at h
  unfold Go.Proofs.YtjehljjlcifndaaGreatDoor.nin
  by_cases c:g.inp=true
  ·rw[if_pos c] at h
   obtain⟨l',t,rfl,h2,h3,h4⟩:=h
   have:=Pol.nin h4
   unfold Go.Proofs.YtjehljjlcifndaaGreatDoor.nin at this
   rw[List.filter_cons_of_pos c,List.length_cons,List.length_cons,this]
  ·rw[if_neg c] at h
   have:=Pol.nin h
   unfold Go.Proofs.YtjehljjlcifndaaGreatDoor.nin at this
   rw[List.filter_cons_of_neg c,this]
def dui (c:Nat):List Flo->Nat->List Nat
 | [],_=>[]
 | f::r,k=>(if f.inp=true/\c % f.per=0 then [k] else [])++dui c r (k+1)
theorem dui_is (F:List Flo) (c:Nat):∀e,e<=F.length->duI F c e++dui c (F.drop e) e=dui c F 0
 | 0,_=>by simp[duI]
 | e+1,h=>by
  rw[<-dui_is F c e (by omega)]
  have hf:F[e]?=some F[e]:=List.getElem?_eq_getElem (by omega)
  have ed:F.drop e=F[e]::F.drop (e+1):=List.drop_eq_getElem_cons (by omega)
  rw[ed]
  show _=duI F c e++((if F[e].inp=true/\c % F[e].per=0 then [e] else [])++dui c (F.drop (e+1)) (e+1))
  by_cases c1:F[e].inp=true/\c % F[e].per=0
  ·rw[if_pos c1,duI_yes hf c1.1 c1.2,List.append_assoc]
  ·have c2:F[e].inp=false\/c % F[e].per≠0:=by
    cases hi:F[e].inp with
    | false=>exact Or.inl rfl
    | true=>exact Or.inr (fun e2=>c1 ⟨hi,e2⟩)
   rw[if_neg c1,duI_no hf c2,List.nil_append]
theorem duI_dui (F:List Flo) (c:Nat):duI F c F.length=dui c F 0:=by
 rw[<-dui_is F c F.length nlr,List.drop_length]
 simp[dui]
theorem fit_at (hc:c < tk):∀(A:List Flo) (ls:List (List Int)) (k:Nat),(∀f∈A,1<=f.per)->Pol tk A ls->(dui c A k).length=(dvs A ls c).length/\∀p∈(dui c A k).zip (dvs A ls c),k<=p.1/\∃f,A[p.1 - k]?=some f/\fitL f.ty [p.2]=true
 | [],ls,k,_,_=>⟨rfl,fun p hp=>by simp[dui] at hp⟩
 | f::A,ls,k,hp,h=>by
  have hpA:∀f∈A,1<=f.per:=fun g hg=>hp g (by simp[hg])
  have up:∀p:Nat×Int,(k+1<=p.1/\∃g,A[p.1 - (k+1)]?=some g/\fitL g.ty [p.2]=true)->k<=p.1/\∃g,(f::A)[p.1 - k]?=some g/\fitL g.ty [p.2]=true:=by
   rintro p ⟨h1,g,h2,h3⟩
   refine⟨by omega,g,?_,h3⟩
   have e:p.1 - k=p.1 - (k+1)+1:=by omega
   rw[e,List.getElem?_cons_succ]
   exact h2
  unfold Pol at h
  unfold dui dvs
  by_cases ci:f.inp=true
  ·rw[if_pos ci] at h ⊢
   obtain⟨l,t,rfl,h2,h3,h4⟩:=h
   obtain⟨i1,i2⟩:=fit_at hc A t (k+1) hpA h4
   dsimp only
   by_cases cm:c % f.per=0
   ·have hp1:=hp f (by simp)
    have hlt:c / f.per < l.length:=by
     rw[h2]
     have e1:=Nat.div_add_mod c f.per
     rw[cm,Nat.add_zero] at e1
     have e2:(c / f.per+1)*f.per<=tk+f.per - 1:=by
      rw[Nat.add_mul,Nat.mul_comm (c / f.per),e1];omega
     exact le_div hp1 e2
    rw[if_pos ⟨ci,cm⟩,if_pos cm,List.getElem?_eq_getElem hlt]
    refine⟨by simpa using i1,fun p hpz=>?_⟩
    have hz:p∈(k,l[c / f.per])::(dui c A (k+1)).zip (dvs A t c):=by simpa using hpz
    rcases List.mem_cons.1 hz with rfl|hz
    ·refine⟨Nat.le_refl _,f,by simp,?_⟩
     unfold fitL
     by_cases ct:f.ty=1
     ·have:=h3 ct _ (List.getElem_mem hlt)
      rcases this with e|e <;> simp[e]
     ·have:(f.ty != 1)=true:=by simpa using ct
      rw[this];rfl
    ·exact up p (i2 p hz)
   ·rw[if_neg (fun e=>cm e.2),if_neg cm]
    exact⟨i1,fun p hpz=>up p (i2 p hpz)⟩
  ·rw[if_neg ci] at h ⊢
   obtain⟨i1,i2⟩:=fit_at hc A ls (k+1) hpA h
   rw[if_neg (fun e=>ci e.1)]
   exact⟨i1,fun p hpz=>up p (i2 p hpz)⟩
theorem fitT_ok (hc:c < tk) {F:List Flo} {ls:List (List Int)} (hp:∀f∈F,1<=f.per) (h:Pol tk F ls):fitT F (duI F c F.length) (dvs F ls c)=true/\(duI F c F.length).length=(dvs F ls c).length:=by
 obtain⟨h1,h2⟩:=fit_at hc F ls 0 hp h
 rw[<-duI_dui] at h1 h2
 refine⟨?_,h1⟩
 unfold fitT
 simp only[Bool.and_eq_true,decide_eq_true_eq,List.all_eq_true]
 refine⟨h1,fun p hpz=>?_⟩
 obtain⟨_,f,h3,h4⟩:=h2 p hpz
 rw[Nat.sub_zero] at h3
 unfold ftyAt
 rw[h3]
 exact h4
theorem dvs_len (c:Nat):∀(A:List Flo) (ls:List (List Int)),(dvs A ls c).length<=A.length
 | [],_=>Nat.le_refl _
 | f::A,ls=>by
  unfold dvs
  by_cases ci:f.inp=true
  ·rw[if_pos ci]
   cases ls with
   | nil=>simp
   | cons l t=>
    dsimp only
    have h1:=dvs_len c A t
    rw[List.length_append,List.length_cons]
    split
    ·cases l[c / f.per]? <;> simp <;> omega
    ·simp;omega
  ·rw[if_neg ci,List.length_cons]
   have:=dvs_len c A ls
   omega
end
section
open Go.RowKit
variable {f:Flo} {F:List Flo} {e:Nat} {L:Nat->List Int}
def Li (F:List Flo) (L:Nat->List Int) (j:Nat):Option (List Int):=match F[j]? with
 | some f=>if f.inp then some (L j) else none
 | none=>none
def Beg (m:Mbo) (ρ:Mbi) (F:List Flo) (Q:List Nq) (L:Nat->List Int):Prop:=
 ∀S:Int->Int->Option Int,(∀j n,S j n=tv m ρ Q (Li F L) S j n)->∀j,j < F.length->∀(i:Nat) x,(L j)[i]?=some x->S (j:Nat) (i:Nat)=some x
section
variable {m:Mbo} {ρ:Mbi} {F:List Flo} {Q:List Nq} {r:Nat->Nat}
theorem Beg.zero:Beg m ρ F Q (fun _=>[]):=fun S _ j _ i x h=>by simp at h
theorem Li_put {j:Nat} (hj:∀f,F[j]?=some f->f.inp=false) (v:Int):Li F (lput L j v)=Li F L:=by
 funext k
 unfold Li
 cases hk:F[k]? with
 | none=>rfl
 | some f=>
  dsimp only
  cases hi:f.inp with
  | false=>rfl
  | true=>
   have hne:k≠j:=fun e=>by
    subst e
    rw[hj f hk] at hi;cases hi
   rw[zba _ _ hne]
theorem Beg.put (C:Cd m F Q r) (hfit:∀x k,m x=some k->0<=k/\k.toNat < F.length) {L:Nat->List Int} (h:Beg m ρ F Q L) {j:Nat} {q:Nq} (hq:q∈Q) (hqj:q.flow=j) (hj:∀f,F[j]?=some f->f.inp=false) (hl:(L j).length<=2000) {v:Int} (hv:Mip.sm m ρ (SL L) q.body ((L j).length:Nat)=some v):Beg m ρ F Q (lput L j v):=by
 intro S hS k hk i x hx
 rw[Li_put hj] at hS
 by_cases e:k=j
 ·subst e
  rw[zcy] at hx
  rcases Nat.lt_or_ge i (L k).length with c1|c1
  ·rw[List.getElem?_append_left c1] at hx
   exact h S hS k hk i x hx
  ·have hi2:=(lgs hx).1
   have e3:i=(L k).length:=by simp at hi2;omega
   rw[e3] at hx ⊢
   have e4:v=x:=by simpa using hx
   subst e4
   have hL:Li F L k=none:=by
    unfold Li
    cases hf:F[k]? with
    | none=>rfl
    | some f=>
     dsimp only
     rw[hj f hf];rfl
   refine za9 hS hL (by rw[<-hqj];exact C.up q hq) hl (fun n hn=>?_) ?_
   ·obtain⟨y,hy⟩:∃y,(L k)[n]?=some y:=⟨_,List.getElem?_eq_getElem hn⟩
    rw[h S hS k hk n y hy];rfl
   ·refine Mip.sm_mono (d:=fun j' n'=>0<=n'/\∃x,m x=some j') (fun j' n' y hd hy=>?_) q.body (C.hl q hq).wf _ _ (Mip.ask_mono (fun j' n' hd=>⟨hd.1,hd.2.1⟩) q.body (C.hl q hq).wf _ (asks_time C hq hl)) hv
    obtain⟨h0,x,hx⟩:=hd
    obtain⟨f0,f1⟩:=hfit x j' hx
    unfold SL at hy
    rw[if_pos h0] at hy
    have:=h S hS j'.toNat f1 n'.toNat y hy
    rw[Int.toNat_of_nonneg f0,Int.toNat_of_nonneg h0] at this
    exact this
 ·rw[zba _ _ e] at hx
  exact h S hS k hk i x hx
theorem Beg.pk {T:Nat} {pt:Nat->Nat} {O:Nat->List Nat} (P:Tp m F Q r T pt O) {s:Lj} (h:Beg m ρ F Q s.1) {t:Nat} (hJ:Jok F Q s.1 (s.2 t)):Beg m ρ F Q (pk m ρ Q s.1 s.2 t).1:=by
 rcases pk_cases m ρ Q s.1 s.2 t with e|⟨j,rest,q,v,hj,hq,hv,e⟩
 ·rw[e];exact h
 ·rw[e]
  obtain⟨_,_,h3⟩:=hJ j (by rw[hj];simp)
  have hm:=List.mem_of_find?_eq_some hq
  have hqj:q.flow=j:=by have:=List.find?_some hq;simpa using this
  refine h.put P.cd P.fit hm hqj (fun f hf=>?_) h3 hv
  obtain⟨g,h1,h2⟩:=P.eqf q hm
  rw[hqj,hf] at h1
  obtain rfl:=osi h1
  exact h2
theorem Beg.more (C:Cd m F Q r) {L L':Nat->List Int} (h:Beg m ρ F Q L) (hin:∀j f,F[j]?=some f->f.inp=true->(∃t,L' j=L j++t)/\(L' j).length<=2001) (hno:∀j f,F[j]?=some f->f.inp=false->L' j=L j):Beg m ρ F Q L':=by
 intro S' hS' j hj i x hx
 have hf:F[j]?=some F[j]:=List.getElem?_eq_getElem hj
 cases hi:F[j].inp with
 | true=>
  have hL:Li F L' j=some (L' j):=by
   unfold Li
   rw[hf]
   dsimp only
   rw[hi];rfl
  have hlt:=(lgs hx).1
  have:=(hin j _ hf hi).2
  rw[sol_in hS' hL (by omega)]
  exact hx
 | false=>
  rw[hno j _ hf hi] at hx
  obtain⟨S,hS,_⟩:=sol_ex C ρ (Li F L)
  refine sol_mono C (fun k=>?_) hS hS' _ _ _ rfl x (h S hS j hj i x hx)
  unfold Li
  cases hk:F[k]? with
  | none=>exact⟨Iff.rfl,fun l l' e=>by cases e⟩
  | some f=>
   dsimp only
   cases hfi:f.inp with
   | false=>exact⟨Iff.rfl,fun l l' e=>by cases e⟩
   | true=>
    refine⟨by simp,fun l l' e e'=>?_⟩
    obtain⟨t,ht⟩:=(hin k f hk hfi).1
    have e1:L k=l:=by simpa using e
    have e2:L' k=l':=by simpa using e'
    exact⟨t,by rw[<-e1,<-e2];exact ht⟩
end
theorem putL_inp {c:Nat} {xs:List Int} (hx:(duI F c F.length).length=xs.length) {j:Nat} {f:Flo} (hf:F[j]?=some f):(f.inp=true->(∃t,putL L ((duI F c F.length).zip xs) j=L j++t)/\(putL L ((duI F c F.length).zip xs) j).length<=(L j).length+1)/\(f.inp=false->putL L ((duI F c F.length).zip xs) j=L j):=by
 have hz:=zip_fst _ _ hx
 have hnd:(((duI F c F.length).zip xs).map Prod.fst).Nodup:=by rw[hz];exact zec F c _
 by_cases hm:j∈((duI F c F.length).zip xs).map Prod.fst
 ·obtain⟨⟨a,v⟩,h1,h2⟩:=List.mem_map.1 hm
  obtain rfl:a=j:=h2
  rw[putL_in _ _ a v hnd h1]
  refine⟨fun _=>⟨⟨_,rfl⟩,by simp⟩,fun hi=>?_⟩
  rw[hz] at hm
  obtain⟨f',e1,e2,_⟩:=duI_mem.1 hm
  rw[hf] at e1
  obtain rfl:=osi e1
  rw[hi] at e2;cases e2
 ·rw[zbl _ _ j hm]
  exact⟨fun _=>⟨⟨[],by simp⟩,by omega⟩,fun _=>rfl⟩
theorem Beg.tick {m:Mbo} {ρ:Mbi} {Q:List Nq} {r:Nat->Nat} (C:Cd m F Q r) {L:Nat->List Int} (h:Beg m ρ F Q L) {c:Nat} {xs:List Int} (hx:(duI F c F.length).length=xs.length) (hl:∀j,(L j).length<=1900):Beg m ρ F Q (putL L ((duI F c F.length).zip xs)):=
 h.more C (fun j f hf hi=>by
  obtain⟨h1,h2⟩:=(putL_inp (L:=L) hx hf).1 hi
  exact⟨h1,by have:=hl j;omega⟩) (fun j f hf hi=>(putL_inp hx hf).2 hi)
def gv (F:List Flo) (L:Nat->List Int) (e:Nat):List (List Int):=(List.range e).filterMap (Li F L)
theorem gv_yes (hf:F[e]?=some f) (hi:f.inp=true):gv F L (e+1)=gv F L e++[L e]:=by
 have h1:Li F L e=some (L e):=by
  unfold Li
  rw[hf]
  dsimp only
  rw[hi];rfl
 unfold gv
 rw[List.range_succ,List.filterMap_append]
 simp[h1]
theorem gv_no (hf:F[e]?=some f) (hi:f.inp=false):gv F L (e+1)=gv F L e:=by
 have h1:Li F L e=none:=by
  unfold Li
  rw[hf]
  dsimp only
  rw[hi];rfl
 unfold gv
 rw[List.range_succ,List.filterMap_append]
 simp[h1]
theorem lay_gv (hfit:∀j f,F[j]?=some f->f.inp=true->fitL f.ty (L j)=true):∀(n i:Nat),i+n=F.length->lay (F.drop i) ((List.range' i n).filterMap (Li F L))=some ((List.range' i n).map (Li F L))
 | 0,i,h=>by
  rw[List.drop_eq_nil_of_le (by omega)]
  rfl
 | n+1,i,h=>by
  have hlt:i < F.length:=by omega
  have hf:F[i]?=some F[i]:=List.getElem?_eq_getElem hlt
  rw[List.drop_eq_getElem_cons hlt,List.range'_succ,List.map_cons]
  have ih:=lay_gv hfit n (i+1) (by omega)
  cases hi:F[i].inp with
  | true=>
   have h1:Li F L i=some (L i):=by
    unfold Li
    rw[hf]
    dsimp only
    rw[hi];rfl
   rw[List.filterMap_cons_some h1,h1]
   unfold lay
   rw[if_pos hi]
   dsimp only
   rw[if_pos (hfit i _ hf hi),ih]
   rfl
  | false=>
   have h1:Li F L i=none:=by
    unfold Li
    rw[hf]
    dsimp only
    rw[hi];rfl
   rw[List.filterMap_cons_none h1,h1]
   unfold lay
   rw[if_neg (by rw[hi];decide),ih]
   rfl
theorem lay_all (hfit:∀j f,F[j]?=some f->f.inp=true->fitL f.ty (L j)=true):lay F (gv F L F.length)=some ((List.range F.length).map (Li F L)):=by
 have h:=lay_gv hfit F.length 0 (by omega)
 rw[List.drop_zero,<-List.range_eq_range'] at h
 exact h
theorem lof_li (F:List Flo) (L:Nat->List Int):Lof ((List.range F.length).map (Li F L))=Li F L:=by
 funext j
 unfold Lof
 rw[List.getElem?_map]
 rcases Nat.lt_or_ge j F.length with c|c
 ·rw[List.getElem?_range c];rfl
 ·rw[List.getElem?_eq_none (by simpa using c)]
  unfold Li
  rw[List.getElem?_eq_none c];rfl
end
section
open Go.RowKit
structure Iq (m:Mbo) (ρ:Mbi) (F:List Flo) (Q:List Nq) (T:Nat) (pt:Nat->Nat) (O:Nat->List Nat) (c:Nat) (A:Nat->List Int) (s:Lj):Prop where
 iv:Ivj F T pt O c s
 be:Beg m ρ F Q s.1
 inp:∀j f,F[j]?=some f->f.inp=true->s.1 j=A j
 out:∀j,F.length<=j->s.1 j=[]
structure Rq (m:Mbo) (ρ:Mbi) (F:List Flo) (Q:List Nq) (T c:Nat) (A:Nat->List Int) (s:Lj):Prop where
 rs:Rsj F T c s
 be:Beg m ρ F Q s.1
 inp:∀j f,F[j]?=some f->f.inp=true->s.1 j=A j
 out:∀j,F.length<=j->s.1 j=[]
section
variable {m:Mbo} {ρ:Mbi} {F:List Flo} {Q:List Nq} {r:Nat->Nat} {T:Nat} {pt:Nat->Nat} {O:Nat->List Nat} {c:Nat} {s:Lj} {A:Nat->List Int}
theorem Iq.pk (P:Tp m F Q r T pt O) (h:Iq m ρ F Q T pt O c A s) (hc:c<=2000) {t:Nat} (ht:t < T):Iq m ρ F Q T pt O c A (pk m ρ Q s.1 s.2 t):=by
 refine⟨h.iv.pk P ht,h.be.pk P (h.iv.jok P hc ht),fun j f hf hi=>?_,fun j hj=>?_⟩
 all_goals rcases pk_cases m ρ Q s.1 s.2 t with e|⟨k,rest,q,v,hJ,hq,hv,e⟩
 ·rw[e];exact h.inp j f hf hi
 rotate_left
 ·rw[e];exact h.out j hj
 ·rw[e]
  have hne:j≠k:=fun e=>by
   subst e
   obtain⟨pre,o1,_⟩:=h.iv.job t ht
   obtain⟨_,_,_,_,hl⟩:=P.at_ (e:=j) ht (by rw[o1,hJ];simp)
   omega
  show lput s.1 k v j=_
  rw[zba _ _ hne]
  exact h.out j hj
 ·rw[e]
  have hne:j≠k:=fun e=>by
   subst e
   obtain⟨pre,o1,_⟩:=h.iv.job t ht
   have hjO:j∈O t:=by rw[o1,hJ];simp
   rw[P.noInp ht hjO hf] at hi;cases hi
  show lput s.1 k v j=_
  rw[zba _ _ hne]
  exact h.inp j f hf hi
theorem Iq.done (P:Tp m F Q r T pt O) (h:Iq m ρ F Q T pt O c A s) (hid:idle T s):Rq m ρ F Q T (c+1) A s:=⟨h.iv.done P hid,h.be,h.inp,h.out⟩
theorem Rq.zero (P:Tp m F Q r T pt O):Rq m ρ F Q T 0 (fun _=>[]) (fun _=>[],fun _=>[]):=⟨Rsj.zero P,Beg.zero,fun _ _ _ _=>rfl,fun _ _=>rfl⟩
theorem Rq.len (P:Tp m F Q r T pt O) (h:Rq m ρ F Q T c A s) (j:Nat):(s.1 j).length<=c:=by
 rcases Nat.lt_or_ge j F.length with hj|hj
 rotate_left
 ·rw[h.out j hj];exact Nat.zero_le _
 obtain⟨f,hf⟩:∃f,F[j]?=some f:=⟨_,List.getElem?_eq_getElem hj⟩
 have hp:=P.pos f (List.mem_of_getElem? hf)
 rw[h.rs.log j f hf]
 by_cases hm:c % f.per=0
 ·rw[cn_yes hp hm];exact Nat.div_le_self _ _
 ·rw[cn_no hp hm]
  have h1:c / f.per*f.per < c:=by
   have e:=Nat.div_add_mod c f.per
   rw[Nat.mul_comm] at e
   omega
  exact Nat.lt_of_le_of_lt (Nat.le_mul_of_pos_right _ (by omega)) h1
end
section
variable {m:Mbo} {ρ:Mbi} {F:List Flo} {Q:List Nq} {r:Nat->Nat} {U:List (Nat×Value)} {O:Nat->List Nat} {c:Nat} {s:Lj} {A:Nat->List Int} {al:Nat->Addr} {D:Nat->Obj->Prop} {wE w:World} {mb lb jb:Nat} {fv tv wv:Value}
theorem tkn_ok (P:Tp m F Q r U.length (ptU U) O) (h:Rq m ρ F Q U.length c A s) (hl:∀j,(s.1 j).length<=1900) {xs:List Int} (hx:fitT F (duI F c F.length) xs=true) {k:Int} (hk:TkN al D F U O wE mb lb jb fv tv wv c false s.1 s.2 xs k w) :
  k=0/\∃s' fn jn,Mc D wE mb lb jb F.length U.length fv tv wv ((c+1:Nat):Int) false s'.1 s'.2 fn jn w/\Iq m ρ F Q U.length (ptU U) O c (putL A ((duI F c F.length).zip xs)) s':=by
 obtain⟨fn,jn,⟨h1,_⟩|⟨_,h2,_⟩|⟨_,_,h3,_⟩|⟨_,_,h3,h4,h5⟩⟩:=hk
 ·cases h1
 ·rw[hx] at h2;cases h2
 ·exfalso
  obtain⟨t,ht,hb⟩:=List.any_eq_true.1 h3
  rw[h.rs.job t (duT_lt ht)] at hb
  cases hb
 ·have hxl:(duI F c F.length).length=xs.length:=by
   unfold fitT at hx
   simp only[Bool.and_eq_true,decide_eq_true_eq] at hx
   exact hx.1
  refine⟨h4,(putL s.1 ((duI F c F.length).zip xs),setJ O s.2 (duT U c U.length)),fn,jn,h5,h.rs.tick P hxl,h.be.tick P.cd hxl hl,fun j f hf hi=>?_,fun j hj=>?_⟩
  rotate_left
  ·show putL s.1 _ j=_
   rw[zbl _ _ j (fun e=>by
    rw[zip_fst _ _ hxl] at e
    have:=duI_lt e
    omega)]
   exact h.out j hj
  have hz:=zip_fst _ _ hxl
  have hnd:(((duI F c F.length).zip xs).map Prod.fst).Nodup:=by rw[hz];exact zec F c _
  show putL s.1 _ j=_
  by_cases hm:j∈((duI F c F.length).zip xs).map Prod.fst
  ·obtain⟨⟨a,v⟩,h6,h7⟩:=List.mem_map.1 hm
   obtain rfl:a=j:=h7
   rw[putL_in _ _ a v hnd h6,putL_in _ _ a v hnd h6,h.inp a f hf hi]
  ·rw[zbl _ _ j hm,zbl _ _ j hm,h.inp j f hf hi]
theorem drp_ok {B0 K:Nat} {fn jn:Nat->Value} (PM:Pm m ρ F Q r wE wv B0) (P:Tp m F Q r U.length (ptU U) O) (hc:c<=2000) (hi:Iq m ρ F Q U.length (ptU U) O c A s) (hT:U.length<=60) (hK:K<=60) (hN:jsum U.length s.2 < (K+1)*(U.length+1)) {cc:Int} (h:Mc D wE mb lb jb F.length U.length fv tv wv cc false s.1 s.2 fn jn w) :
  Calls Tryz.prog 23 #[.pointer (some ⟨mb,0,none⟩),.int .i64 (U.length:Nat),.int .i64 (K:Nat)] w fun E w'=>E=.returned (.bool true)/\∃s' fn' jn',Mc D wE mb lb jb F.length U.length fv tv wv cc false s'.1 s'.2 fn' jn' w'/\Rq m ρ F Q U.length (c+1) A s':=by
 refine (drained_any PM (Iq m ρ F Q U.length (ptU U) O c A) hi (fun s t ht h _=>⟨h.iv.jok P hc ht,h.pk P hc ht⟩) hT hK h).mono ?_
 rintro E w' ⟨n,b,fn',jn',rfl,_,hM,hI,h1,h2⟩
 cases b with
 | false=>exact (drain_ok P hc hi (fun s hs=>hs.iv) (fun s t ht hs _=>hs.pk P hc ht) hN (h2 rfl)).elim
 | true=>exact⟨rfl,_,fn',jn',hM,hI.done P (h1 rfl)⟩
end
end
section
open Go.RowKit
variable {s:Lj} {ρ:Mbi} {c:Nat} {O:Nat->List Nat}
structure Px (m:Mbo) (ρ:Mbi) (F:List Flo) (Q:List Nq) (T:Nat) (O:Nat->List Nat) (c:Nat) (s:Lj):Prop where
 be:Beg m ρ F Q s.1
 out:∀j,F.length<=j->s.1 j=[]
 inp:∀j f,F[j]?=some f->f.inp=true->fitL f.ty (s.1 j)=true/\(s.1 j).length<=c/\(1<=c->s.1 j≠[])
 job:∀t,t < T->∃pre,O t=pre++s.2 t/\(∀e∈pre,(s.1 e).length<=c)/\∀e∈s.2 t,(s.1 e).length+1<=c
theorem fitL_app (ty:Nat) (a b:List Int) (ha:fitL ty a=true) (hb:fitL ty b=true):fitL ty (a++b)=true:=by
 unfold fitL at ha hb ⊢
 by_cases h:ty=1
 ·subst h
  rw[show (1 != 1)=false from rfl,Bool.false_or] at ha hb ⊢
  rw[List.all_append,ha,hb];rfl
 ·have:(ty != 1)=true:=by simpa using h
  rw[this];rfl
section
variable {m:Mbo} {ρ:Mbi} {F:List Flo} {Q:List Nq} {r:Nat->Nat} {T:Nat} {pt:Nat->Nat} {O:Nat->List Nat} {c:Nat} {s:Lj}
theorem Px.zero:Px m ρ F Q T O 0 (fun _=>[],fun _=>[])↔True:=by
 refine⟨fun _=>trivial,fun _=>⟨Beg.zero,fun _ _=>rfl,fun j f hf hi=>⟨?_,Nat.le_refl _,fun e=>by omega⟩,fun t ht=>⟨O t,by simp,fun e _=>Nat.le_refl _,fun e he=>by cases he⟩⟩⟩
 unfold fitL
 simp
theorem Px.jok (P:Tp m F Q r T pt O) (h:Px m ρ F Q T O c s) (hc:c<=2000) {t:Nat} (ht:t < T):Jok F Q s.1 (s.2 t):=by
 obtain⟨pre,o1,o3,o4⟩:=h.job t ht
 intro j hj
 have hjO:j∈O t:=by rw[o1];simp[hj]
 obtain⟨q,hq,e,_⟩:=(P.mem t ht j).1 hjO
 obtain⟨f,_,_,_,hl⟩:=P.at_ ht hjO
 have:=o4 j hj
 exact⟨hl,⟨q,hq,e⟩,by omega⟩
theorem Px.len (P:Tp m F Q r T pt O) (h:Px m ρ F Q T O c s) (j:Nat):(s.1 j).length<=c:=by
 rcases Nat.lt_or_ge j F.length with hj|hj
 ·have hf:F[j]?=some F[j]:=List.getElem?_eq_getElem hj
  cases hin:F[j].inp with
  | true=>exact (h.inp j _ hf hin).2.1
  | false=>
   obtain⟨q,hq,e⟩:=P.fe j _ hf hin
   obtain⟨t,ht,e2⟩:=P.all q hq
   obtain⟨pre,p1,p3,p4⟩:=h.job t ht
   have hjO:j∈O t:=(P.mem t ht j).2 ⟨q,hq,e,by rw[e2,e]⟩
   rw[p1] at hjO
   rcases List.mem_append.1 hjO with h1|h1
   ·exact p3 j h1
   ·have:=p4 j h1;omega
 ·rw[h.out j hj];exact Nat.zero_le _
theorem Px.pk (P:Tp m F Q r T pt O) (h:Px m ρ F Q T O c s) (hc:c<=2000) {t:Nat} (ht:t < T):Px m ρ F Q T O c (pk m ρ Q s.1 s.2 t):=by
 have hbe:=h.be.pk P (h.jok P hc ht)
 rcases pk_cases m ρ Q s.1 s.2 t with e|⟨j,rest,q,v,hJ,hq,hv,e⟩
 ·rw[e];exact h
 ·obtain⟨pre,o1,o3,o4⟩:=h.job t ht
  rw[hJ] at o1 o4
  have hjO:j∈O t:=by rw[o1];simp
  have hnd:=P.nd t ht
  rw[o1] at hnd
  have hn2:∀x∈rest,x≠j:=fun x hx e=>by
   subst e
   exact (List.nodup_cons.1 (List.nodup_append.1 hnd).2.1).1 hx
  have hn1:∀x∈pre,x≠j:=fun x hx e=>by
   subst e
   exact (List.nodup_append.1 hnd).2.2 x hx x (by simp) rfl
  obtain⟨_,_,_,_,hjl⟩:=P.at_ ht hjO
  rw[e] at hbe ⊢
  refine⟨hbe,fun k hk=>?_,fun k f hf hk=>?_,fun t' ht'=>?_⟩
  ·show lput s.1 j v k=_
   rw[zba _ _ (by omega)]
   exact h.out k hk
  ·have hne:k≠j:=fun e=>by
    subst e
    rw[P.noInp ht hjO hf] at hk;cases hk
   show fitL f.ty (lput s.1 j v k)=true/\(lput s.1 j v k).length<=c/\(1<=c->lput s.1 j v k≠[])
   rw[zba _ _ hne]
   exact h.inp k f hf hk
  ·by_cases e1:t'=t
   ·subst e1
    refine⟨pre++[j],?_,fun x hx=>?_,fun x hx=>?_⟩
    ·show O t'=_++jput s.2 t' rest t'
     rw[zcg,o1];simp
    ·show (lput s.1 j v x).length<=_
     rcases List.mem_append.1 hx with hx|hx
     ·rw[zba _ _ (hn1 x hx)];exact o3 x hx
     ·obtain rfl:x=j:=by simpa using hx
      rw[zcy,List.length_append]
      exact o4 x (by simp)
    ·have hx2:x∈jput s.2 t' rest t':=hx
     rw[zcg] at hx2
     show (lput s.1 j v x).length+1<=_
     rw[zba _ _ (hn2 x hx2)]
     exact o4 x (by simp[hx2])
   ·obtain⟨pre',p1,p3,p4⟩:=h.job t' ht'
    have hne:∀x∈O t',x≠j:=fun x hx=>P.ne ht' ht e1 hx hjO
    refine⟨pre',?_,fun x hx=>?_,fun x hx=>?_⟩
    ·show O t'=_++jput s.2 t rest t'
     rw[jput_ne _ _ e1];exact p1
    ·show (lput s.1 j v x).length<=_
     rw[zba _ _ (hne x (by rw[p1];simp[hx]))]
     exact p3 x hx
    ·have hx2:x∈jput s.2 t rest t':=hx
     rw[jput_ne _ _ e1] at hx2
     show (lput s.1 j v x).length+1<=_
     rw[zba _ _ (hne x (by rw[p1];simp[hx2]))]
     exact p4 x hx2
end
theorem Px.tick {m:Mbo} {F:List Flo} {Q:List Nq} {r:Nat->Nat} {U:List (Nat×Value)} (P:Tp m F Q r U.length (ptU U) O) (h:Px m ρ F Q U.length O c s) (hc:c<=1000) {xs:List Int} (hx:fitT F (duI F c F.length) xs=true) (hb:(duT U c U.length).any (fun t=>!(s.2 t).isEmpty)=false):Px m ρ F Q U.length O (c+1) (putL s.1 ((duI F c F.length).zip xs),setJ O s.2 (duT U c U.length)):=by
 have hfit:(duI F c F.length).length=xs.length/\∀p∈(duI F c F.length).zip xs,fitL (ftyAt F p.1) [p.2]=true:=by
  unfold fitT at hx
  simpa only[Bool.and_eq_true,decide_eq_true_eq,List.all_eq_true] using hx
 obtain⟨hxl,hxf⟩:=hfit
 have hl:∀j,(s.1 j).length<=1900:=fun j=>Nat.le_trans (h.len P j) (by omega)
 have hz:=zip_fst _ _ hxl
 have hnd:(((duI F c F.length).zip xs).map Prod.fst).Nodup:=by rw[hz];exact zec F c _
 refine⟨h.be.tick P.cd hxl hl,fun j hj=>?_,fun j f hf hi=>?_,fun t ht=>?_⟩
 ·show putL s.1 _ j=_
  rw[zbl _ _ j (fun e=>by
   rw[hz] at e
   have:=duI_lt e
   omega)]
  exact h.out j hj
 ·obtain⟨f1,f2,f3⟩:=h.inp j f hf hi
  show fitL f.ty (putL s.1 _ j)=true/\(putL s.1 _ j).length<=c+1/\(1<=c+1->putL s.1 _ j≠[])
  by_cases hm:j∈((duI F c F.length).zip xs).map Prod.fst
  ·obtain⟨⟨a,v⟩,h1,h2⟩:=List.mem_map.1 hm
   obtain rfl:a=j:=h2
   rw[putL_in _ _ a v hnd h1]
   have h3:=hxf _ h1
   unfold ftyAt at h3
   rw[hf] at h3
   exact⟨fitL_app _ _ _ f1 h3,by rw[List.length_append];show _+1<=_;omega,fun _=>by simp⟩
  ·rw[zbl _ _ j hm]
   refine⟨f1,by omega,fun _=>f3 ?_⟩
   rcases Nat.eq_zero_or_pos c with e|e
   ·exfalso
    apply hm
    rw[hz]
    exact duI_mem.2 ⟨f,hf,hi,by rw[e];exact Nat.zero_mod _⟩
   ·exact e
 ·have hlog:∀e∈O t,putL s.1 ((duI F c F.length).zip xs) e=s.1 e:=fun e he=>by
   refine zbl _ _ e ?_
   rw[hz]
   intro e1
   obtain⟨f',h1,h2,_⟩:=duI_mem.1 e1
   rw[P.noInp ht he h1] at h2;cases h2
  obtain⟨pre,p1,p3,p4⟩:=h.job t ht
  by_cases hm:c % ptU U t=0
  ·have hd:t∈duT U c U.length:=duT_mem.2 ⟨ht,hm⟩
   have e1:setJ O s.2 (duT U c U.length) t=O t:=by rw[zdl,if_pos hd]
   have e2:s.2 t=[]:=by
    have:=List.any_eq_false.1 hb t hd
    cases e3:s.2 t with
    | nil=>rfl
    | cons a b=>rw[e3] at this;exact absurd rfl this
   refine⟨[],by show _=[]++setJ O s.2 _ t;rw[e1];rfl,(fun e he=>by cases he),fun e he=>?_⟩
   have he2:e∈setJ O s.2 (duT U c U.length) t:=he
   rw[e1] at he2
   show (putL s.1 _ e).length+1<=_
   rw[hlog e he2]
   rw[p1,e2,List.append_nil] at he2
   have:=p3 e he2
   omega
  ·have e1:setJ O s.2 (duT U c U.length) t=s.2 t:=by
    rw[zdl,if_neg (fun e=>hm (duT_mem.1 e).2)]
   refine⟨pre,by show _=_++setJ O s.2 _ t;rw[e1];exact p1,fun e he=>?_,fun e he=>?_⟩
   ·show (putL s.1 _ e).length<=_
    rw[hlog e (by rw[p1];simp[he])]
    have:=p3 e he
    omega
   ·have he2:e∈setJ O s.2 (duT U c U.length) t:=he
    rw[e1] at he2
    show (putL s.1 _ e).length+1<=_
    rw[hlog e (by rw[p1];simp[he2])]
    have:=p4 e he2
    omega
theorem Px.mean {N:Nat} {l:List Mip.It} {T:Nat} (h:Px (dcl N l).2.m ρ (prd N l) (dcl N l).2.Q T O c s) {j n:Nat} {x:Int} (hj:j < (prd N l).length) (hx:(s.1 j)[n]?=some x) {o:Option Int} (hm:Mn ρ N l (gv (prd N l) s.1 (prd N l).length) j n o):o=some x:=by
 have hl:=lay_all (F:=prd N l) (L:=s.1) (fun j f hf hi=>(h.inp j f hf hi).1)
 rcases hm with ⟨e,_⟩|⟨A,r,S,hA,_,hS,_,rfl⟩
 ·rw[hl] at e;cases e
 ·obtain rfl:=osi (hl.symm.trans hA)
  rw[lof_li] at hS
  exact h.be S hS j hj n x hx
end
section
open Go.RowKit
variable {xs:List Nat} {v:Value} {w:World}
theorem Lst.jq (h:Lst w v xs) (h60:xs.length<=60):Jq w v xs:=by
 rcases h with ⟨rfl,rfl⟩|⟨g,cap,⟨_,h1⟩,rfl,_,h2⟩
 ·exact Or.inl ⟨rfl,_,_,rfl⟩
 ·refine Or.inr ⟨g,0,cap,rfl,h1,h60,fun i x hx=>?_⟩
  rw[Nat.zero_add]
  exact h2 i x hx
theorem Lst.shp (h:Lst w v xs):∃o n c,v=.slice o n c:=by
 rcases h with ⟨_,rfl⟩|⟨g,cap,_,rfl,_⟩
 ·exact⟨_,_,_,rfl⟩
 ·exact⟨_,_,_,rfl⟩
theorem rall_q:∃ρ,Rall2 ρ:=⟨fun x=>(reckoning_ex (bs x)).choose,fun x=>(reckoning_ex (bs x)).choose_spec⟩
abbrev oU (N:Nat) (l:List Mip.It) (U:List (Nat×Value)) (t:Nat):List Nat:=ordOf (dcl N l).2.m (prd N l) (dcl N l).2.Q (ptU U t)
theorem tw_len' {m:Mbo} {F:List Flo} {Q:List Nq} {B:Nat} {U:List (Nat×Value)} (h:Tw m F Q B w v U):U.length<=Q.length:=by
 have h1:=Mip.len_le (U.map Prod.fst) (Q.map fun q=>perAt F q.flow) (zdo h.up) (fun p hp=>by
  obtain⟨q,h1,h2⟩:=(h.all p).1 hp
  exact List.mem_map.2 ⟨q,h1,h2⟩)
 simpa using h1
structure Mw (ρ:Mbi) (B0 N:Nat) (l:List Mip.It) (w:World) (P:Nat) (of ot:Option Addr) (cf ct g:Nat) (U:List (Nat×Value)) (r:Nat->Nat):Prop where
 blk:w.heap[P]?=some (.cells #[.slice of (prd N l).length cf,.slice ot U.length ct,.slice (some ⟨g,0,none⟩) (prd N l).length (prd N l).length] 57 (0,0))
 pt:Ptm (prd N l) U (oU N l U) w (.slice of (prd N l).length cf) (.slice ot U.length ct)
 pm:Pm (dcl N l).2.m ρ (prd N l) (dcl N l).2.Q r w (.slice (some ⟨g,0,none⟩) (prd N l).length (prd N l).length) B0
 tp:Tp (dcl N l).2.m (prd N l) (dcl N l).2.Q r U.length (ptU U) (oU N l U)
 f60:(prd N l).length<=60
 u60:U.length<=60
 up:(U.map Prod.fst).Pairwise (· < ·)
 all:∀p,p∈U.map Prod.fst↔∃q∈(dcl N l).2.Q,perAt (prd N l) q.flow=p
theorem mw_ex {ρ:Mbi} {B0 N:Nat} {l:List Mip.It} {P:Nat} (hi:Items l) (h:Prg ρ B0 N l w P):∃of ot cf ct g U r,Mw ρ B0 N l w P of ot cf ct g U r:=by
 obtain⟨fv,tv,wv,U,B,B',h1,h2,h3,h4⟩:=h.blk
 obtain⟨r,hC⟩:=cd_ex hi h.ok h.len.1 h.len.2
 obtain⟨of,cf,rfl⟩:=zae h2
 obtain⟨ot,ct,rfl⟩:=zae h3.row
 obtain⟨g,hg⟩:∃g,wv=.slice (some ⟨g,0,none⟩) (prd N l).length (prd N l).length:=by
  obtain⟨g,_,_,e,_⟩:=h4
  exact⟨g,e⟩
 subst hg
 have hf60:(prd N l).length<=60:=by rw[zb9];exact h.len.1
 have hu60:U.length<=60:=Nat.le_trans (tw_len' h3) h.len.2
 have tp:=tp_ex hi h.ok h.len.2 hC h3.up h3.all
 refine⟨of,ot,cf,ct,g,U,r,⟨h1,⟨⟨_,h2⟩,⟨_,h3.row⟩,hf60,hu60,tp.pos,fun u hu=>?_,fun i u hu=>?_⟩,⟨hC,h4,tp.fit,hf60⟩,tp,hf60,hu60,h3.up,h3.all⟩⟩
 ·obtain⟨t,ht⟩:=List.getElem?_of_mem hu
  have:=tp.ptp t (lgs ht).1
  rw[zd0 ht] at this
  exact⟨this,(h3.lst u hu).shp⟩
 ·have hlt:=(lgs hu).1
  show Jq w u.2 (ordOf _ _ _ (ptU U i))
  have hlen:(oU N l U i).length<=(List.range (prd N l).length).length:=Mip.len_le _ _ (tp.nd i hlt) (fun x hx=>by
   obtain⟨_,_,_,_,hl⟩:=tp.at_ hlt hx
   exact List.mem_range.2 hl)
  rw[List.length_range] at hlen
  have hl2:=Nat.le_trans hlen hf60
  unfold oU at hl2
  rw[zd0 hu] at hl2 ⊢
  exact (h3.lst u (List.mem_of_getElem? hu)).jq hl2
end
section
open Go.RowKit
variable {w:World}
def Fsh (B:Nat) (v:Value):Prop:=∀g,v.ownBlock=some g->B<=g
theorem clone_keeps {v:Value} {L:List Nat} (h:Lst w v L) (hL:L.length<=1000000):Calls Tryz.prog 47 #[v] w fun e w'=>∃v',e=.returned v'/\Lst w' v' L/\Below w.heap.size w w'/\Fsh w.heap.size v':=by
 by_cases hne:L=[]
 ·rcases h with ⟨_,rfl⟩|⟨g,cap,h1,_⟩
  ·refine (Tryz.slices_Clone_nil 0 0 w).mono ?_
   rintro E w' ⟨rfl,rfl⟩
   exact⟨_,rfl,Or.inl ⟨hne,rfl⟩,Below.refl _ _,fun g hg=>by cases hg⟩
  ·exact absurd hne h1.1
 ·refine (clone_lst h hL).mono ?_
  rintro E w' ⟨v',rfl,h1,h2⟩
  exact⟨v',rfl,Ndr.lst ⟨h1,fun e=>absurd e hne⟩,h2,fun g hg=>(zac h1 g hg).1⟩
theorem tks_set (v:Value):∀(U:List (Nat×Value)) (j:Nat) (p:Nat) (u:Value),U[j]?=some (p,u)->tks (U.set j (p,v))=(tks U).set (j*2+1) v
 | [],j,p,u,h=>by simp at h
 | x::r,0,p,u,h=>by
  have e:x=(p,u):=by simpa using h
  subst e
  show tks ((p,v)::r)=_
  unfold tks
  rw[List.flatMap_cons,List.flatMap_cons,List.set_append_left _ _ (by show 0*2+1 < 2;omega)]
  rfl
 | x::r,j+1,p,u,h=>by
  have ih:=tks_set v r j p u (by simpa using h)
  show tks (x::r.set j (p,v))=_
  unfold tks at ih ⊢
  rw[List.flatMap_cons,List.flatMap_cons,ih,List.set_append_right _ _ (by show 2<=_;omega)]
  have e:(j+1)*2+1 - (tkC x).length=j*2+1:=by show (j+1)*2+1 - 2=_;omega
  rw[e]
theorem tks_len (U:List (Nat×Value)):(tks U).length=U.length*2:=by
 induction U with
 | nil=>rfl
 | cons f r ih=>
  unfold tks at ih ⊢
  rw[List.flatMap_cons,List.length_append,ih,List.length_cons]
  show 2+_=_
  omega
theorem ord_len (nd:Nat->List Nat) (l:List Nat):∀n acc,(Mip.ord nd l n acc).length<=acc.length+n
 | 0,acc=>Nat.le_refl _
 | n+1,acc=>by
  rw[Mip.ord]
  cases l.find? (Mip.rdy nd l acc) with
  | none=>have:=ord_len nd l n acc;show (Mip.ord nd l n acc).length<=_;omega
  | some f=>have:=ord_len nd l n (acc++[f]);rw[List.length_append] at this;show (Mip.ord nd l n (acc++[f])).length<=_;simp at this;omega
theorem ordOf_len (m:Mbo) (F:List Flo) (Q:List Nq) (p:Nat):(ordOf m F Q p).length<=Q.length:=by
 have h1:=ord_len (ndf m Q) ((part F Q p).map Nq.flow) (part F Q p).length []
 have h2:(part F Q p).length<=Q.length:=List.length_filter_le _ _
 unfold ordOf
 simp at h1
 omega
def TqPost (N:Nat) (l:List Mip.It) (w:World) (E:Ending) (w':World):Prop:=Below w.heap.size w w'/\∃v U,E=.returned v/\Tw (dcl N l).2.m (prd N l) (dcl N l).2.Q w.heap.size w' v U/\∀u∈U,Fsh w.heap.size u.2
theorem tasksOf_any {ρ:Mbi} {B0 N:Nat} {l:List Mip.It} {P:Nat} (h:Prg ρ B0 N l w P) (hU:∀(B:Nat) (tv:Value) (U:List (Nat×Value)),Tw (dcl N l).2.m (prd N l) (dcl N l).2.Q B w tv U->U.length<=1000):Calls Tryz.prog 28 #[.pointer (some ⟨P,0,none⟩)] w (TqPost N l w):=by
 obtain⟨fv,tv,wv,U,B,B',h1,h2,h3,_⟩:=h.blk
 have c1:w.cell? ⟨P,1,none⟩=some tv:=(cor w P 1 _ _ _ h1).trans rfl
 have hU6:=hU B' tv U h3
 have hQ:(dcl N l).2.Q.length<=60:=h.len.2
 obtain⟨i0,hi0,jz0,jz1,jz2⟩:=info_parts Tryz.infoTask
 generalize hm:(dcl N l).2.m=m at h3
 generalize hq:(dcl N l).2.Q=Q at h3 hQ
 generalize hF:prd N l=F at h3
 rcases h3.row.2 with ⟨e,e'⟩|⟨g,cap,cur,e,_⟩
 ·subst e
  have hUn:U=[]:=List.length_eq_zero_iff.1 e'
  subst hUn
  have HT:=hid h3
  clear h1 h2 h3 h e' hU hU6
  go_enter Tryz.func28,Tryz.ntmps28
  go_wp2_with fail
  refine (Tryz.clone_task_nil 0 0 w).mono ?_
  rintro E w2 ⟨rfl,rfl⟩
  go_wp2_with fail
  go_loopg [14] 0 (fun gk s14 wr=>s14=.int .i64 0/\wr=w2)
  case atStart=>exact⟨rfl,rfl⟩
  case round=>
   obtain⟨rfl,rfl⟩:=hrel
   go_wp2
   go_ret
   refine⟨Below.refl _ _,_,[],rfl,?_⟩
   rw[hm,hq,hF]
   exact⟨⟨World.ownsRow_nil _ _ _ _,HT.out.up,HT.out.all,HT.out.lst⟩,fun u hu=>by cases hu⟩
 ·have h3':=h3.row
  rw[e] at h3' c1
  have HCL:=Tryz.clone_task i0 _ 2 32 hi0 jz0 jz1 jz2 rfl (by decide) Tryz.sizeTask g 0 U.length cap (tks U) w (tks_len _) (by unfold maxLen;omega) (by omega) (fun j u hu=>by rw[Nat.zero_add];exact zan h3' hu) (fun u hu=>by
   obtain⟨x,hx,h⟩:=List.mem_flatMap.1 hu
   obtain⟨s1,s2,s3,hs⟩:=(h3.lst x hx).shape
   simp[tkC,hs] at h
   rcases h with rfl|rfl <;> rfl)
  have HT:=hid h3
  have HQ6:=hid hQ
  have HMF:Hid ((dcl N l).2.m=m/\(dcl N l).2.Q=Q/\prd N l=F):=⟨hm,hq,hF⟩
  clear h1 h2 h3 h h3' hU hm hq hF hQ
  go_enter Tryz.func28,Tryz.ntmps28
  go_wp2_with fail
  refine HCL.mono ?_
  rintro E W ⟨v',rfl,hr,hnn,hb⟩
  obtain⟨o1,c1',hs⟩:=zae hr
  subst hs
  have HR:Hid (W.ownsRow w.heap.size 72 2 (.slice o1 U.length c1') U.length (tks U)/\Below w.heap.size w W):=⟨hr,hb⟩
  have HL0:Hid (∀u∈U,Lst W u.2 (ordOf m F Q u.1)):=fun u hu=>(HT.out.lst u hu).below hb
  clear hr hb HCL hnn
  go_wp2_with fail
  go_loopg [14] U.length (fun gk s14 wr=>∃(j:Nat) (V:List (Nat×Value)),j<=U.length/\s14=.int .i64 (j:Nat)/\gk=U.length - j/\Hid (V.map Prod.fst=U.map Prod.fst)/\Hid (Below w.heap.size w wr)/\Hid (wr.ownsRow w.heap.size 72 2 (.slice o1 U.length c1') U.length (tks V))/\Hid (∀u∈V,Lst wr u.2 (ordOf m F Q u.1))/\Hid (∀(i:Nat) (x:Nat×Value),i < j->V[i]?=some x->Fsh w.heap.size x.2))
  case atStart=>exact⟨0,U,Nat.zero_le _,rfl,rfl,rfl,HR.out.2,HR.out.1,HL0,fun i x hi _=>absurd hi (Nat.not_lt_zero _)⟩
  case round=>
   obtain⟨j,V,hj,rfl,hg,KV,KB,KR,KL,KF⟩:=hrel
   have HG:=hid hg
   have HVL:Hid (V.length=U.length):=by have h:=congrArg List.length KV.out;show V.length=U.length;simpa using h
   clear hg HR HL0
   by_cases hlt:j < U.length
   ·have HLT:=hid hlt
    obtain⟨⟨p,u⟩,hq⟩:∃x,V[j]?=some x:=⟨_,List.getElem?_eq_getElem (by rw[HVL.out];exact hlt)⟩
    have HQV:=hid hq
    obtain⟨g1,rfl⟩:∃g1,o1=some ⟨g1,0,none⟩:=by
     rcases KR.out.2 with ⟨_,e⟩|⟨g1,cap1,cur1,e,_⟩
     ·omega
     ·injection e with e1 _ _
      exact⟨g1,e1⟩
    have hcu:wr.cell? ⟨g1,j*2+1,none⟩=some u:=zan KR.out ((zbc tkC 2 (fun _=>rfl) V j 1 (p,u) hq (by decide)).trans rfl)
    have HLU:Hid (Lst wr u (ordOf m F Q p)):=KL.out (p,u) (List.mem_of_getElem? hq)
    obtain⟨s1,s2,s3,hs⟩:=HLU.out.shape
    subst hs
    have h0:(0:Int)<=(j:Int):=by omega
    have h1:(j:Int) < (U.length:Int):=by omega
    clear hq
    go_wp2_with fail
    refine (clone_keeps HLU.out (by have:=ordOf_len m F Q p;have:=HQ6.out;omega)).mono ?_
    rintro E w2 ⟨v2,rfl,hl2,hb2,hf2⟩
    have KR2:Hid (w2.ownsRow w.heap.size 72 2 (.slice (some ⟨g1,0,none⟩) U.length c1') U.length (tks V)):=own_kept KR.out (fun g hg=>hb2.block g (lt_of_heap (zac KR.out g hg).2.choose_spec))
    obtain⟨r1,r2,r3,hs2⟩:=hl2.shape
    subst hs2
    have hgc:=(zac KR2.out g1 rfl).2
    have z2:w2.frozen? ⟨g1,j*2+1,none⟩=false:=by
     obtain⟨cur1,hcur⟩:=hgc
     unfold World.frozen?;rw[hcur];simp
    have c2:w2.cell? ⟨g1,j*2+1,none⟩=some (.slice s1 s2 s3):=zan KR2.out ((zbc tkC 2 (fun _=>rfl) V j 1 (p,.slice s1 s2 s3) HQV.out (by decide)).trans rfl)
    have HR3:Hid ((w2.setCell ⟨g1,j*2+1,none⟩ (.slice r1 r2 r3)).ownsRow w.heap.size 72 2 (.slice (some ⟨g1,0,none⟩) U.length c1') U.length (tks (V.set j (p,.slice r1 r2 r3)))):=by
     show World.ownsRow _ _ _ _ _ _ _
     rw[tks_set _ V j p _ HQV.out]
     exact own_set KR2.out _ _
    have HB3:Hid (Below w.heap.size w (w2.setCell ⟨g1,j*2+1,none⟩ (.slice r1 r2 r3))):=(zaa KB.out hb2).setCell (zac KR2.out g1 rfl).1 _
    have HL3:Hid (∀x∈V.set j (p,Value.slice r1 r2 r3),Lst (w2.setCell ⟨g1,j*2+1,none⟩ (.slice r1 r2 r3)) x.2 (ordOf m F Q x.1)):=fun x hx=>by
     obtain⟨cur1,hcur⟩:=hgc
     have hl:Lst w2 x.2 (ordOf m F Q x.1):=by
      rcases List.mem_or_eq_of_mem_set hx with h|h
      ·exact (KL.out x h).below hb2
      ·rw[h];exact hl2
     exact hl.set hcur (by decide)
    have HV3:Hid ((V.set j (p,Value.slice r1 r2 r3)).map Prod.fst=U.map Prod.fst):=by
     show _=_
     rw[List.map_set,<-KV.out]
     apply List.ext_getElem?
     intro i
     rw[List.getElem?_set]
     by_cases e:j=i
     ·subst e
      rw[if_pos rfl,List.getElem?_map,HQV.out,if_pos (by rw[List.length_map,HVL.out];exact HLT.out)];rfl
     ·rw[if_neg e]
    have HF3:Hid (∀(i:Nat) (x:Nat×Value),i < j+1->(V.set j (p,Value.slice r1 r2 r3))[i]?=some x->Fsh w.heap.size x.2):=fun i x hi hx=>by
     rw[List.getElem?_set] at hx
     by_cases e:j=i
     ·rw[if_pos e] at hx
      split at hx
      ·obtain rfl:=osi hx
       exact fun g hg=>Nat.le_trans KB.out.size (hf2 g hg)
      ·cases hx
     ·rw[if_neg e] at hx
      exact KF.out i x (by omega) hx
    clear hb2 hl2 hgc hcu hf2
    go_wp2
    go_roundg (U.length - (j+1))
    case measure=>have:=HG.out;have:=HLT.out;omega
    case rel=>exact⟨j+1,_,HLT.out,by go_num,rfl,HV3,HB3,HR3,HL3,HF3⟩
   ·have hle:(U.length:Int)<=(j:Int):=by omega
    go_wp2
    go_ret
    refine⟨KB.out,_,V,rfl,?_⟩
    rw[HMF.out.1,HMF.out.2.1,HMF.out.2.2]
    have hr:=KR.out
    refine⟨⟨?_,by rw[KV.out];exact HT.out.up,fun p=>by rw[KV.out];exact HT.out.all p,KL.out⟩,fun u hu=>by
     obtain⟨i,hi⟩:=List.getElem?_of_mem hu
     have:=(lgs hi).1
     rw[HVL.out] at this
     exact KF.out i u (by omega) hi⟩
    rw[HVL.out]
    exact hr
end
end Go.Proofs.YtjehljjlcifndaaGreatDoor
