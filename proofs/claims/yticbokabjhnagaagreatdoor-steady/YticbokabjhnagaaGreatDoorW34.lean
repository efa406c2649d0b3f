import Derived.Test.YticbokabjhnagaaGreatDoorW33
namespace Go.Proofs.YticbokabjhnagaaGreatDoor
set_option maxHeartbeats 32000000
section
open Go.RowKit
theorem nodes_kids:∀(e q:Mip.E),q∈Mip.kids e→nodes q≤nodes e:=by
 intro e q hq
 cases e with
 | nil=>cases hq
 | node t k x a b=>
  unfold Mip.kids at hq
  split at hq
  all_goals (rename_i heq;try (injection heq with e1 e2 e3 e4 e5;subst e4;try subst e5))
  all_goals simp at hq
  all_goals try (rcases hq with rfl | rfl | rfl <;> simp [nodes] <;> omega)
  all_goals try (rcases hq with rfl | rfl <;> simp [nodes] <;> omega)
  all_goals try (subst hq;simp [nodes];omega)
theorem brack_len (a b:Nat) (l:List Mil.Tok):l.length≤(Mil.brackT a b l).length:=by
 unfold Mil.brackT
 split
 ·simp only [List.length_cons,List.length_append];omega
 ·exact Nat.le_refl _
theorem nodes_toks:∀e:Mip.E,Mil.wf (Mip.er e) false→nodes e≤(Mil.toks (Mip.er e)).length:=by
 refine Mip.tree_induct ?_ ?_ ?_ ?_ ?_ ?_ ?_ ?_ ?_ ?_
 ·intro p k _;exact Nat.le_refl _
 ·intro p k _;exact Nat.le_refl _
 ·intro p x _;exact Nat.le_refl _
 ·intro p x a _ ha
  have h:=brack_len (Mil.tight (Mip.er a)) (Mil.preLvl x) (Mil.toks (Mip.er a))
  show 1+nodes a+0≤(_::Mil.brackT (Mil.tight (Mip.er a)) (Mil.preLvl x) (Mil.toks (Mip.er a))).length
  rw [List.length_cons]
  omega
 ·intro p x a b _ ha hb
  have h1:=brack_len (Mil.tight (Mip.er a)) (Mil.leftOf (Mil.tightOf x)) (Mil.toks (Mip.er a))
  have h2:=brack_len (Mil.tight (Mip.er b)) (Mil.tightOf x+1) (Mil.toks (Mip.er b))
  show 1+nodes a+nodes b≤(Mil.brackT (Mil.tight (Mip.er a)) (Mil.leftOf (Mil.tightOf x)) (Mil.toks (Mip.er a))++_::Mil.brackT (Mil.tight (Mip.er b)) (Mil.tightOf x+1) (Mil.toks (Mip.er b))).length
  rw [List.length_append,List.length_cons]
  omega
 ·intro p y a b c ha hb hc
  show 1+nodes a+(1+nodes b+nodes c)≤(_::(Mil.toks (Mip.er a)++_::(Mil.toks (Mip.er b)++_::Mil.toks (Mip.er c)))).length
  simp only [List.length_cons,List.length_append]
  omega
 ·intro p a b ha hb
  show 1+nodes a+nodes b≤(_::_::(Mil.toks (Mip.er a)++_::(Mil.toks (Mip.er b)++[_]))).length
  simp only [List.length_cons,List.length_append]
  omega
 ·intro p a k _ _ ha
  show 1+nodes a+0≤(_::_::(Mil.toks (Mip.er a)++[_,_,_])).length
  simp only [List.length_cons,List.length_append]
  omega
 ·intro p a b k _ _ ha hb
  show 1+nodes a+nodes b≤(_::_::(Mil.toks (Mip.er a)++_::(Mil.toks (Mip.er b)++[_,_,_]))).length
  simp only [List.length_cons,List.length_append]
  omega
 ·intro p x a b _ ha hb
  show 1+nodes a+nodes b≤(_::_::(Mil.toks (Mip.er a)++_::(Mil.toks (Mip.er b)++[_]))).length
  simp only [List.length_cons,List.length_append]
  omega
theorem body_nodes {b:Mil.Bytes} {l:List Mip.It} (h:Mip.Parsed b l):∀i∈l,i.kind=3→nodes i.body≤600:=fun i hi hk=>by
 obtain ⟨h1,h2,h3⟩:=Mil.parsed_ok h.er
 have hm:=Mil.toks_mem (i:=Mip.eri i) (List.mem_map.2 ⟨i,hi,rfl⟩)
 rcases (items_of h).ok i hi with ⟨e,_⟩ | ⟨e,_⟩ | ⟨_,_,_,hw⟩
 ·omega
 ·omega
 ·have ht:=nodes_toks i.body hw
  have hl:(Mil.toks (Mip.er i.body)).length≤(Mil.itemToks (Mip.eri i)).length:=by
   unfold Mil.itemToks
   rw [if_neg (show ¬(Mip.eri i).kind=1 by show ¬i.kind=1;omega),if_neg (show ¬(Mip.eri i).kind=2 by show ¬i.kind=2;omega)]
   show _≤(_::_::_::_::(Mil.toks (Mip.er i.body)++[_])).length
   simp only [List.length_cons,List.length_append]
   omega
  omega
theorem node_cases:∀e:Mip.E,Mil.wf (Mip.er e) false→(∃p a b,e=Mip.eFby p a b)∨(∃p a b k,e=Mip.eHold p a b k)∨(∃p x,e=Mip.eName p x)∨handsOn e:=by
 refine Mip.tree_induct ?_ ?_ ?_ ?_ ?_ ?_ ?_ ?_ ?_ ?_
 ·intro p k _;exact Or.inr (Or.inr (Or.inr ⟨by show ¬(1=3);decide,by show ¬(1=7);decide,by show ¬(1=9);decide⟩))
 ·intro p k _;exact Or.inr (Or.inr (Or.inr ⟨by show ¬(2=3);decide,by show ¬(2=7);decide,by show ¬(2=9);decide⟩))
 ·intro p x _;exact Or.inr (Or.inr (Or.inl ⟨p,x,rfl⟩))
 ·intro p x a _ _;exact Or.inr (Or.inr (Or.inr ⟨by show ¬(4=3);decide,by show ¬(4=7);decide,by show ¬(4=9);decide⟩))
 ·intro p x a b _ _ _;exact Or.inr (Or.inr (Or.inr ⟨by show ¬(5=3);decide,by show ¬(5=7);decide,by show ¬(5=9);decide⟩))
 ·intro p y a b c _ _ _;exact Or.inr (Or.inr (Or.inr ⟨by show ¬(6=3);decide,by show ¬(6=7);decide,by show ¬(6=9);decide⟩))
 ·intro p a b _ _;exact Or.inl ⟨p,a,b,rfl⟩
 ·intro p a k _ _ _;exact Or.inr (Or.inr (Or.inr ⟨by show ¬(8=3);decide,by show ¬(8=7);decide,by show ¬(8=9);decide⟩))
 ·intro p a b k _ _ _ _;exact Or.inr (Or.inl ⟨p,a,b,k,rfl⟩)
 ·intro p x a b _ _ _;exact Or.inr (Or.inr (Or.inr ⟨by show ¬(10=3);decide,by show ¬(10=7);decide,by show ¬(10=9);decide⟩))
theorem needsOf_any (N:Nat) (a:Nat→Addr) (c b n:Nat) (m:Mil.Bytes→Option Int) (F:List Flo) (hfit:Fit' m F):∀e,Mil.wf (Mip.er e) false→nodes e≤100000→NC N a c b n m e:=by
 refine Mip.tree_ind (Q:=fun e=>nodes e≤100000→NC N a c b n m e) (fun p x hx _ _=>needs_name N a c b n m F hfit p x hx) (fun e hw hn hk hsz=>?_)
 rcases node_cases e hw with ⟨p,x0,x1,rfl⟩ | ⟨p,x0,x1,k,rfl⟩ | ⟨p,x,rfl⟩ | ho
 ·exact needs_fby N a c b n m p x0 x1 (ev_iface N x0 (hk x0 (by simp [Mip.kids,Mip.eFby])).1) (ev_iface N x1 (hk x1 (by simp [Mip.kids,Mip.eFby])).1)
 ·exact needs_hold N a c b n m p x0 x1 k (ev_iface N x0 (hk x0 (by simp [Mip.kids,Mip.eHold])).1) (ev_iface N x1 (hk x1 (by simp [Mip.kids,Mip.eHold])).1)
 ·exact absurd rfl (hn p x)
 ·exact needs_node N a c b n m e hw ho (fun hu=>Mip.first_each m _ (by rw [←Mip.unres_kids m e hw hn];exact hu)) (fun q hq=>⟨(hk q hq).1,(hk q hq).2 (Nat.le_trans (nodes_kids e q hq) hsz)⟩) (fun q hq=>Nat.le_trans (nds_len m q) (Nat.le_trans (nodes_kids e q hq) hsz))
theorem nds_lt {m:Mil.Bytes→Option Int} {F:List Flo} (hfit:Fit' m F):∀e:Mip.E,Mip.unres m e=none→∀x∈Mip.nds m e,x < F.length
 | .nil,_,x,hx=>by cases hx
 | .node t k y a b,hu,x,hx=>by
  unfold Mip.unres at hu
  unfold Mip.nds at hx
  by_cases h3:t=3
  ·rw [if_pos h3] at hu hx
   have hs:(m y.1).isSome=true:=by
    by_cases h:(m y.1).isSome=true
    ·exact h
    ·rw [if_neg h] at hu;cases hu
   obtain ⟨i,hi⟩:=Option.isSome_iff_exists.1 hs
   obtain ⟨j,rfl,hj⟩:=hfit y.1 i hi
   rw [hi] at hx
   have e:x=j:=by simpa using hx
   omega
  ·rw [if_neg h3] at hu hx
   obtain ⟨hu1,hu2⟩:=Option.or_eq_none_iff.1 hu
   split at hx
   ·cases hx
   ·rcases List.mem_append.1 hx with h | h
    ·exact nds_lt hfit a hu1 x h
    ·exact nds_lt hfit b hu2 x h
end
section
open Go.RowKit Go.Maps
theorem nqs_set (N:Nat) (v:Value):∀(X:List (Nq×Value)) (j:Nat) (q:Nq) (u:Value),X[j]?=some (q,u)→nqs N (X.set j (q,v))=(nqs N X).set (j*6+5) v
 | [],j,q,u,h=>by simp at h
 | x::r,0,q,u,h=>by
  have e:x=(q,u):=by simpa using h
  subst e
  show nqs N ((q,v)::r)=_
  unfold nqs
  rw [List.flatMap_cons,List.flatMap_cons,List.set_append_left _ _ (by show 0*6+5 < 6;omega)]
  rfl
 | x::r,j+1,q,u,h=>by
  have ih:=nqs_set N v r j q u (by simpa using h)
  show nqs N (x::r.set j (q,v))=_
  unfold nqs at ih ⊢
  rw [List.flatMap_cons,List.flatMap_cons,ih,List.set_append_right _ _ (by show 6≤_;omega)]
  have e:(j+1)*6+5 - (nqC N x).length=j*6+5:=by show (j+1)*6+5 - 6=_;omega
  rw [e]
theorem Cs.setX {N:Nat} {w0:World} {iv:Value} {c b n:Nat} {m:Mil.Bytes→Option Int} {F:List Flo} {X:List (Nq×Value)} {fv qv:Value} {w:World} (h:Cs N w0 iv c b n m F X fv qv w) {g cap:Nat} (hv:qv=.slice (some ⟨g,0,none⟩) X.length cap) {j:Nat} {q:Nq} {u:Value} (hj:X[j]?=some (q,u)) (v:Value) :
  Cs N w0 iv c b n m F (X.set j (q,v)) fv qv (w.setCell ⟨g,j*6+5,none⟩ v):=by
 have heq:=h.eq
 rw [hv] at heq
 obtain ⟨cur,hg⟩:=(own_lt heq g rfl).2
 have hg0:=(own_lt heq g rfl).1
 have fr:=fr_set w g (j*6+5) v
 obtain ⟨es,cl,hbm⟩:=h.mp.heap
 refine ⟨h.blw.setCell hg0 _,h.hc,h.hb,(fr.block c (lt_of_heap h.cm) (heap_nt h.cm hg (by decide))).trans h.cm,h.mp.fr fr (heap_ne hbm hg (by intro e;cases e)),own_kept h.fl (fun q hq=>fr.block q (lt_of_heap (own_lt h.fl q hq).2.choose_spec) (heap_nt (own_lt h.fl q hq).2.choose_spec hg (by decide))),?_⟩
 rw [nqs_set N v X j q u hj,List.length_set,hv]
 exact own_set heq _ v
theorem Cs.thawX {N:Nat} {w0:World} {iv:Value} {c b n:Nat} {m:Mil.Bytes→Option Int} {F:List Flo} {X:List (Nq×Value)} {fv qv:Value} {w:World} (h:Cs N w0 iv c b n m F X fv qv w) {g cap:Nat} (hv:qv=.slice (some ⟨g,0,none⟩) X.length cap) (o:Nat):w.frozen? ⟨g,o,none⟩=false:=by
 have heq:=h.eq
 rw [hv] at heq
 obtain ⟨cur,hg⟩:=(own_lt heq g rfl).2
 unfold World.frozen?;rw [hg];simp
theorem Lst.set {w:World} {v u:Value} {L:List Nat} {g o:Nat} {cur:Array Value} {t:TypeId} (h:Lst w v L) (hg:w.heap[g]?=some (.cells cur t (0,0))) (ht:t≠3):Lst (w.setCell ⟨g,o,none⟩ u) v L:=by
 rcases h with h | ⟨g2,cap,e,rfl,⟨cur2,h3⟩,h4⟩
 ·exact Or.inl h
 ·have hn:¬g2=g:=fun e=>heap_nt h3 hg (fun e=>ht e.symm) e
  have fr:=fr_set w g o u
  exact Or.inr ⟨g2,cap,e,rfl,⟨cur2,(fr.block g2 (lt_of_heap h3) hn).trans h3⟩,fun j x hx=>fr.held (h4 j x hx) hn⟩
theorem Lst.map {w w':World} {v:Value} {L:List Nat} {b:Nat} (h:Lst w v L) (fr:Fr (fun i=>i=b) w w') (hb:∃es cl,w.heap[b]?=some (.map es cl)):Lst w' v L:=by
 obtain ⟨es,cl,hh⟩:=hb
 rcases h with h | ⟨g2,cap,e,rfl,⟨cur2,h3⟩,h4⟩
 ·exact Or.inl h
 ·have hn:¬g2=b:=heap_ne h3 hh (by intro e;cases e)
  exact Or.inr ⟨g2,cap,e,rfl,⟨cur2,(fr.block g2 (lt_of_heap h3) hn).trans h3⟩,fun j x hx=>fr.held (h4 j x hx) hn⟩
theorem Lst.shape {w:World} {v:Value} {L:List Nat} (h:Lst w v L):∃o n c,v=.slice o n c:=by
 rcases h with ⟨_,rfl⟩ | ⟨g2,cap,_,rfl,_⟩
 ·exact ⟨_,_,_,rfl⟩
 ·exact ⟨_,_,_,rfl⟩
structure Xs (m:Mil.Bytes→Option Int) (Q:List Nq) (w:World) (j:Nat) (X:List (Nq×Value)) (mv:Nat→Option Value):Prop where
 fst:X.map Prod.fst=Q
 done:∀(i:Nat) (x:Nq×Value),i < j→X[i]?=some x→Lst w x.2 (Mip.nds m x.1.body)∧mv x.1.flow=some x.2
 rest:∀(i:Nat) (x:Nq×Value),j≤i→X[i]?=some x→x.2=.slice none 0 0
 none_:∀k,(∀(i:Nat) (x:Nq×Value),i < j→X[i]?=some x→x.1.flow≠k)→mv k=none
theorem Xs.len {m:Mil.Bytes→Option Int} {Q:List Nq} {w:World} {j:Nat} {X:List (Nq×Value)} {mv:Nat→Option Value} (h:Xs m Q w j X mv):X.length=Q.length:=by rw [←h.fst];simp
theorem Xs.at_ {m:Mil.Bytes→Option Int} {Q:List Nq} {w:World} {j i:Nat} {X:List (Nq×Value)} {mv:Nat→Option Value} (h:Xs m Q w j X mv) {q:Nq} (hq:Q[i]?=some q):∃u,X[i]?=some (q,u):=by
 rw [←h.fst,List.getElem?_map] at hq
 obtain ⟨x,h1,h2⟩:=Option.map_eq_some_iff.1 hq
 exact ⟨x.2,by rw [h1,←h2]⟩
theorem Xs.start (m:Mil.Bytes→Option Int) (Q:List Nq) (w:World):Xs m Q w 0 (nilX Q) (fun _=>none):=
 ⟨by simp [nilX,List.map_map,Function.comp_def],(fun i x hi=>by omega),(fun i x _ hx=>by
  unfold nilX at hx
  rw [List.getElem?_map] at hx
  obtain ⟨q,_,rfl⟩:=Option.map_eq_some_iff.1 hx
  rfl),fun _ _=>rfl⟩
theorem Xs.world {m:Mil.Bytes→Option Int} {Q:List Nq} {w w':World} {j:Nat} {X:List (Nq×Value)} {mv:Nat→Option Value} (h:Xs m Q w j X mv) (k:∀v L,Lst w v L→Lst w' v L):Xs m Q w' j X mv:=
 ⟨h.fst,fun i x hi hx=>⟨k _ _ (h.done i x hi hx).1,(h.done i x hi hx).2⟩,h.rest,h.none_⟩
theorem flow_inj {Q:List Nq} (hup:(Q.map Nq.flow).Pairwise (· < ·)) {i j:Nat} {p q:Nq} (hi:Q[i]?=some p) (hj:Q[j]?=some q) (h:p.flow=q.flow):i=j:=by
 rw [List.pairwise_map] at hup
 rcases Nat.lt_trichotomy i j with h1 | h1 | h1
 ·have:=List.pairwise_iff_getElem.1 hup i j (List.getElem?_eq_some_iff.1 hi).1 (List.getElem?_eq_some_iff.1 hj).1 h1
  rw [(List.getElem?_eq_some_iff.1 hi).2,(List.getElem?_eq_some_iff.1 hj).2] at this
  omega
 ·exact h1
 ·have:=List.pairwise_iff_getElem.1 hup j i (List.getElem?_eq_some_iff.1 hj).1 (List.getElem?_eq_some_iff.1 hi).1 h1
  rw [(List.getElem?_eq_some_iff.1 hi).2,(List.getElem?_eq_some_iff.1 hj).2] at this
  omega
theorem set_same {l:List Nq} {j:Nat} {x:Nq} (h:l[j]?=some x):l.set j x=l:=by
 apply List.ext_getElem?
 intro i
 rw [List.getElem?_set]
 by_cases e:j=i
 ·subst e
  rw [if_pos rfl,if_pos (List.getElem?_eq_some_iff.1 h).1,h]
 ·rw [if_neg e]
theorem Xs.step {m:Mil.Bytes→Option Int} {Q:List Nq} (hup:(Q.map Nq.flow).Pairwise (· < ·)) {w:World} {j:Nat} {X:List (Nq×Value)} {mv:Nat→Option Value} (h:Xs m Q w j X mv) {q:Nq} {u:Value} (hj:X[j]?=some (q,u)) (v:Value) (hv:Lst w v (Mip.nds m q.body)):Xs m Q w (j+1) (X.set j (q,v)) (updN mv q.flow v):=by
 have hjl:=(List.getElem?_eq_some_iff.1 hj).1
 have fq:∀(i:Nat) (x:Nq×Value),X[i]?=some x→Q[i]?=some x.1:=fun i x hx=>by rw [←h.fst,List.getElem?_map,hx];rfl
 refine ⟨?_,fun i x hi hx=>?_,fun i x hi hx=>?_,fun k hk=>?_⟩
 ·rw [List.map_set,←h.fst]
  exact set_same (by rw [List.getElem?_map,hj];rfl)
 ·rw [List.getElem?_set] at hx
  by_cases e:j=i
  ·rw [if_pos e,if_pos hjl] at hx
   obtain rfl:=Option.some.inj hx
   exact ⟨hv,if_pos rfl⟩
  ·rw [if_neg e] at hx
   have hd:=h.done i x (by omega) hx
   refine ⟨hd.1,?_⟩
   have hne:x.1.flow≠q.flow:=fun e'=>e (flow_inj hup (fq j _ hj) (fq i x hx) e'.symm)
   show (if x.1.flow=q.flow then some v else mv x.1.flow)=_
   rw [if_neg hne]
   exact hd.2
 ·rw [List.getElem?_set,if_neg (by omega)] at hx
  exact h.rest i x (by omega) hx
 ·have hq:=hk j (q,v) (Nat.lt_succ_self _) (by rw [List.getElem?_set,if_pos rfl,if_pos hjl])
  show (if k=q.flow then some v else mv k)=none
  rw [if_neg (fun e=>hq e.symm)]
  refine h.none_ k (fun i x hi hx=>?_)
  exact hk i x (by omega) (by rw [List.getElem?_set,if_neg (by omega)];exact hx)
theorem Xs.nvs {m:Mil.Bytes→Option Int} {Q:List Nq} {w:World} {X:List (Nq×Value)} {mv:Nat→Option Value} (h:Xs m Q w Q.length X mv):Nvs w mv (ndf m Q):=fun k=>by
 have fq:∀(i:Nat) (x:Nq×Value),X[i]?=some x→Q[i]?=some x.1:=fun i x hx=>by rw [←h.fst,List.getElem?_map,hx];rfl
 unfold ndf
 cases hf:Q.find? (fun q=>q.flow==k) with
 | none=>
  have hn:mv k=none:=h.none_ k (fun i x _ hx e=>by
   have:=List.find?_eq_none.1 hf x.1 (List.mem_of_getElem? (fq i x hx))
   simp [e] at this)
  rw [hn]
  exact Or.inl ⟨rfl,rfl⟩
 | some q=>
  have hq:=List.mem_of_find?_eq_some hf
  have hk:q.flow=k:=by have:=List.find?_some hf;simpa using this
  obtain ⟨i,hi⟩:=List.getElem?_of_mem hq
  obtain ⟨u,hu⟩:=h.at_ hi
  have hd:=h.done i (q,u) (List.getElem?_eq_some_iff.1 hi).1 hu
  rw [←hk,hd.2]
  exact hd.1
theorem ndf_lt {m:Mil.Bytes→Option Int} {F:List Flo} {Q:List Nq} (hfit:Fit' m F) (hu:∀q∈Q,Mip.unres m q.body=none) (k x:Nat) (hx:x∈ndf m Q k):x < F.length:=by
 unfold ndf at hx
 cases hf:Q.find? (fun q=>q.flow==k) with
 | none=>rw [hf] at hx;cases hx
 | some q=>
  rw [hf] at hx
  exact nds_lt hfit q.body (hu q (List.mem_of_find?_eq_some hf)) x hx
theorem ndf_len {m:Mil.Bytes→Option Int} {Q:List Nq} (hn:∀q∈Q,nodes q.body≤600) (k:Nat):(ndf m Q k).length≤100000:=by
 unfold ndf
 cases hf:Q.find? (fun q=>q.flow==k) with
 | none=>exact Nat.zero_le _
 | some q=>
  have h1:=nds_len m q.body
  have h2:=hn q (List.mem_of_find?_eq_some hf)
  show (Mip.nds m q.body).length≤_
  omega
def cyc (m:Mil.Bytes→Option Int) (Q:List Nq) (r:Option Nat):Prop:=(Q.find? fun q=>@decide (Mip.Way (ndf m Q) q.flow q.flow) (Classical.propDecidable _)).map Nq.at_=r
theorem cyc_two {m:Mil.Bytes→Option Int} {Q:List Nq} {r r':Option Nat} (h:cyc m Q r) (k:cyc m Q r'):r=r':=Eq.trans (Eq.symm h) k
theorem cyc_some {m:Mil.Bytes→Option Int} {Q0:List Nq}:∀{Q:List Nq} {j:Nat} {q:Nq},Q[j]?=some q→Mip.Way (ndf m Q0) q.flow q.flow→(∀(i:Nat) (q':Nq),i < j→Q[i]?=some q'→¬Mip.Way (ndf m Q0) q'.flow q'.flow)→(Q.find? fun q=>@decide (Mip.Way (ndf m Q0) q.flow q.flow) (Classical.propDecidable _))=some q
 | [],_,_,h,_,_=>by simp at h
 | x::r,0,q,h,k,_=>by
  have e:x=q:=by simpa using h
  subst e
  rw [List.find?_cons_of_pos (by simpa using k)]
 | x::r,j+1,q,h,k,l=>by
  have hx:=l 0 x (Nat.succ_pos _) rfl
  rw [List.find?_cons_of_neg (by simpa using hx)]
  exact cyc_some (Q:=r) (j:=j) (by simpa using h) k (fun i q' hi hq=>l (i+1) q' (Nat.succ_lt_succ hi) (by simpa using hq))
theorem cyc_none {m:Mil.Bytes→Option Int} {Q:List Nq} (h:∀q∈Q,¬Mip.Way (ndf m Q) q.flow q.flow):cyc m Q none:=by
 unfold cyc
 rw [List.find?_eq_none.2 (fun q hq=>by simpa using h q hq)];rfl
theorem cyc_each {m:Mil.Bytes→Option Int} {Q:List Nq} (h:cyc m Q none):∀q∈Q,¬Mip.Way (ndf m Q) q.flow q.flow:=fun q hq=>by
 unfold cyc at h
 have:=List.find?_eq_none.1 (Option.map_eq_none_iff.1 h) q hq
 simpa using this
def Fin (N:Nat) (w0:World) (iv:Value) (c b n:Nat) (m:Mil.Bytes→Option Int) (F:List Flo) (Q:List Nq) (fv qv:Value) (w:World):Prop:=
 ∃X,X.map Prod.fst=Q∧Cs N w0 iv c b n m F X fv qv w∧∀x∈X,Lst w x.2 (Mip.nds m x.1.body)
set_option maxRecDepth 100000 in
theorem findNeeds_any {N:Nat} {a:Nat→Addr} {w0:World} {iv:Value} {c b n:Nat} {m:Mil.Bytes→Option Int} {F:List Flo} {Q:List Nq} {fv qv:Value} {w:World} (h:Cs N w0 iv c b n m F (nilX Q) fv qv w) (hE:Ce a w0) (hz:Rz2 m F Q) (hF:F.length≤60) (hnod:∀q∈Q,nodes q.body≤600) {cy:Option Nat} (hcy:cyc m Q cy) :
  Calls Tryz.prog 38 #[.pointer (some ⟨c,0,none⟩)] w (ScPost N a w0 10 cy (fun w'=>Fin N w0 iv c b n m F Q fv qv w'∧Kt w w')):=by
 have HCY:Hid (cyc m Q cy):=hcy
 clear hcy
 have HE:Hid (Ce a w0):=hE
 have HZ:Hid (Rz2 m F Q):=hz
 have HND:Hid (∀q∈Q,nodes q.body≤600):=hnod
 have HFL:Hid (F.length≤60):=hF
 obtain ⟨oq,cq,hqv⟩:=own_shape h.eq
 rw [nilX_len] at hqv
 have HQV:Hid (qv=.slice oq Q.length cq):=hqv
 have hlen:=hz.len
 have HB0:Hid (Below w.heap.size w (w.alloc (.map #[] 0))):=(Below.refl _ _).alloc (Nat.le_refl _) _
 have HC0:Hid (Cs N w0 iv c b n m F (nilX Q) fv qv (w.alloc (.map #[] 0))):=h.below HB0.out
 have HM0:Hid (Mpi (w.alloc (.map #[] 0)) w.heap.size 0 (fun _=>none)):=Mpi.made w
 have HMO:Hid (w.heap.size≠b∧w0.heap.size≤w.heap.size∧w.heap.size≠c):=⟨(h.new (Nat.le_refl _)).2.2.1,h.blw.size,(h.new (Nat.le_refl _)).2.1⟩
 have c3:=HC0.out.cells.2.2.2
 rw [hqv] at c3
 have hmm:=@run_makeMap Tryz.prog
 clear h hE hz hqv hnod hF
 generalize hmo:w.heap.size=mo at HM0 HMO
 go_enter Tryz.func38,Tryz.ntmps38
 go_wp2_with fail
 try rw [hmo]
 clear hmm hmo
 generalize w.alloc (.map #[] 0)=W at HB0 HC0 HM0 c3 ⊢
 go_loopg [14] Q.length (fun gk s14 wr=>∃(j:Nat) (X:List (Nq×Value)) (mv:Nat→Option Value),j≤Q.length∧s14=.int .i64 (j:Nat)∧gk=Q.length - j∧Hid (Cs N w0 iv c b n m F X fv qv wr)∧Hid (Xs m Q wr j X mv)∧Hid (Mpi wr mo j mv)∧Hid (Kt w wr))
 case atStart=>exact ⟨0,nilX Q,fun _=>none,Nat.zero_le _,rfl,rfl,HC0,Xs.start m Q W,HM0,Kt.of_below HB0.out⟩
 case round=>
  obtain ⟨j,X,mv,hj,rfl,hg,KC,KX,KM,KT⟩:=hrel
  have HG:Hid (gk=Q.length - j):=hg
  clear hg c3 HC0 HM0 HB0
  have d3:=KC.out.cells.2.2.2
  rw [HQV.out] at d3
  by_cases hlt:j < Q.length
  ·have HLT:Hid (j < Q.length):=hlt
   obtain ⟨q,hq⟩:∃q,Q[j]?=some q:=⟨_,List.getElem?_eq_getElem hlt⟩
   have hmem:=List.mem_of_getElem? hq
   have hwf:=(HZ.out.fq.wf q hmem).1
   obtain ⟨u,hu⟩:=KX.out.at_ hq
   have HU:Hid (X[j]?=some (q,u)):=hu
   obtain ⟨gq,cap,hqv,e0,e1,e2,e3,e4,e5⟩:=KC.out.eqAt hu
   have HGQ:Hid (qv=.slice (some ⟨gq,0,none⟩) X.length cap):=hqv
   rw [HQV.out] at hqv
   obtain ⟨rfl,rfl⟩:oq=some ⟨gq,0,none⟩∧cq=cap:=by injection hqv with h1 h2 h3;exact ⟨h1,h3⟩
   obtain ⟨T,y,hev⟩:=ev_iface N q.body hwf
   simp only [hev] at e3
   have h0:(0:Int)≤(j:Int):=by omega
   have h1:(j:Int) < (Q.length:Int):=by omega
   have HNO:=needsOf_any N a c b n m F HZ.out.fq.fit q.body hwf (by have:=HND.out q hmem;omega) (HZ.out.un q hmem)
   rw [hev] at HNO
   have HNO':Hid (∀w,Nm a c b n m w→Calls Tryz.prog 63 #[.pointer (some ⟨c,0,none⟩),.iface T y] w (NdPost (Mip.nds m q.body) w)):=HNO
   obtain ⟨f,hf,_⟩:=HZ.out.fq.eqf q hmem
   have HFQ:Hid (q.flow≤1000000000):=by
    have h1:=(List.getElem?_eq_some_iff.1 hf).1
    have h2:=HFL.out
    show _≤_
    omega
   clear hq hmem hwf hqv hev HNO hf hu e0 e1 e2 e4 e5
   go_wp2_with fail
   refine (HNO'.out _ (KC.out.nm HE.out)).mono ?_
   rintro E w1 ⟨hb1,v,rfl,hnv⟩
   have HC1:Hid (Cs N w0 iv c b n m F X fv qv w1):=KC.out.below hb1
   have HX1:Hid (Xs m Q w1 j X mv):=KX.out.world (fun v L hL=>hL.below hb1)
   have HM1:Hid (Mpi w1 mo j mv):=KM.out.below hb1
   have HLV:Hid (Lst w1 v (Mip.nds m q.body)):=hnv.lst
   obtain ⟨vo,vn,vc,hvs⟩:=HLV.out.shape
   subst hvs
   obtain ⟨_,_,hqv2,x0,x1,x2,x3,x4,x5⟩:=HC1.out.eqAt HU.out
   obtain ⟨uo,un,uc,hus⟩:∃o n c,u=.slice o n c:=⟨none,0,0,KX.out.rest j (q,u) (Nat.le_refl _) HU.out⟩
   subst hus
   rw [HGQ.out] at hqv2
   obtain ⟨rfl,rfl⟩:gq=_∧cq=_:=by injection hqv2 with h1 h2 h3;exact ⟨by simpa using h1,h3⟩
   have zz:=HC1.out.thawX HGQ.out (j*6+5)
   have HC2:Hid (Cs N w0 iv c b n m F (X.set j (q,.slice vo vn vc)) fv qv (w1.setCell ⟨gq,j*6+5,none⟩ (.slice vo vn vc))):=HC1.out.setX HGQ.out HU.out (.slice vo vn vc)
   have hgb:∃cur,w1.heap[gq]?=some (.cells cur 109 (0,0)):=by
    have heq:=HC1.out.eq
    rw [HGQ.out] at heq
    exact (own_lt heq gq rfl).2
   obtain ⟨cur,hcur⟩:=hgb
   have HX2:Hid (Xs m Q (w1.setCell ⟨gq,j*6+5,none⟩ (.slice vo vn vc)) (j+1) (X.set j (q,.slice vo vn vc)) (updN mv q.flow (.slice vo vn vc))):=(HX1.out.step HZ.out.fq.up HU.out (.slice vo vn vc) HLV.out).world (fun v L hL=>hL.set hcur (by decide))
   have HM2:Hid (Mpi (w1.setCell ⟨gq,j*6+5,none⟩ (.slice vo vn vc)) mo j mv):=by
    obtain ⟨es,cl,hh⟩:=HM1.out.heap
    exact HM1.out.fr (fr_set w1 gq (j*6+5) _) (heap_ne hh hcur (by intro e;cases e))
   have HT2:Hid (Kt w (w1.setCell ⟨gq,j*6+5,none⟩ (.slice vo vn vc))):=(KT.out.step hb1).one (fr_set w1 gq (j*6+5) _) hcur (by decide)
   have y4:(w1.setCell ⟨gq,j*6+5,none⟩ (.slice vo vn vc)).cell? ⟨gq,j*6+4,none⟩=some (.int .i64 (q.flow:Nat)):=by
    rw [World.cell?_setCell_other (h:=fun e=>by have:=congrArg Addr.off e;simp at this)];exact x4
   have y5:(w1.setCell ⟨gq,j*6+5,none⟩ (.slice vo vn vc)).cell? ⟨gq,j*6+5,none⟩=some (.slice vo vn vc):=World.cell?_setCell_same _ _ _ x5
   clear hb1 hnv hqv2 x0 x1 x2 x3 x4 hcur d3 e3
   go_wp2_with fail
   generalize w1.setCell ⟨gq,j*6+5,none⟩ (.slice vo vn vc)=U at HC2 HX2 HM2 HT2 y4 y5 ⊢
   clear x5 zz
   refine region_held (fun w'=>w'.cell? ⟨gq,j*6+4,none⟩=some (.int .i64 (q.flow:Nat))∧w'.cell? ⟨gq,j*6+5,none⟩=some (.slice vo vn vc)) (by kernel_rfl) ⟨y4,y5⟩ (fun hS=>?_)
   refine held_take 0 (v:=?_) rfl (by kernel_rfl) (by kernel_rfl) (by kernel_rfl) (fun _ _ _ h=>h) (Or.inl ⟨by rfl,?_⟩) (by assumption) ?_
   rotate_left 1
   ·(intro w' hSw;(try dsimp only at hSw);go_simp <;> with_reducible rfl)
   try simp only [Act.put,List.setIfInBounds_toArray,List.set_cons_zero,List.set_cons_succ]
   refine held_take 1 (v:=?_) rfl (by kernel_rfl) (by kernel_rfl) (by kernel_rfl) (fun _ _ _ h=>h) (Or.inl ⟨by rfl,?_⟩) (by assumption) ?_
   rotate_left 1
   ·(intro w' hSw;(try dsimp only at hSw);go_simp <;> with_reducible rfl)
   try simp only [Act.put,List.setIfInBounds_toArray,List.set_cons_zero,List.set_cons_succ]
   refine held_take 2 (v:=?_) rfl (by kernel_rfl) (by kernel_rfl) (by kernel_rfl) (fun _ _ _ h=>h) (Or.inl ⟨by rfl,?_⟩) (by assumption) ?_
   rotate_left 1
   ·(intro w' hSw;(try dsimp only at hSw);go_simp <;> with_reducible rfl)
   try simp only [Act.put,List.setIfInBounds_toArray,List.set_cons_zero,List.set_cons_succ]
   refine held_take 3 (v:=?_) rfl (by kernel_rfl) (by kernel_rfl) (by kernel_rfl) (fun _ _ _ h=>h) (Or.inl ⟨by rfl,?_⟩) (by assumption) ?_
   rotate_left 1
   ·(intro w' hSw;(try dsimp only at hSw);go_simp <;> with_reducible rfl)
   try simp only [Act.put,List.setIfInBounds_toArray,List.set_cons_zero,List.set_cons_succ]
   refine held_take 4 (v:=?_) rfl (by kernel_rfl) (by kernel_rfl) (by kernel_rfl) (fun _ _ _ h=>h) (Or.inl ⟨by rfl,?_⟩) (by assumption) ?_
   rotate_left 1
   ·(intro w' hSw;(try dsimp only at hSw);go_simp <;> with_reducible rfl)
   try simp only [Act.put,List.setIfInBounds_toArray,List.set_cons_zero,List.set_cons_succ]
   refine held_take 5 (v:=?_) rfl (by kernel_rfl) (by kernel_rfl) (by kernel_rfl) (fun _ _ _ h=>h) (Or.inl ⟨by rfl,?_⟩) (by assumption) ?_
   rotate_left 1
   ·(intro w' hSw;(try dsimp only at hSw);go_simp <;> with_reducible rfl)
   try simp only [Act.put,List.setIfInBounds_toArray,List.set_cons_zero,List.set_cons_succ]
   refine held_take 6 (v:=?_) rfl (by kernel_rfl) (by kernel_rfl) (by kernel_rfl) (fun _ _ _ h=>h) (Or.inl ⟨by rfl,?_⟩) (by assumption) ?_
   rotate_left 1
   ·(intro w' hSw;(try dsimp only at hSw);go_simp <;> with_reducible rfl)
   try simp only [Act.put,List.setIfInBounds_toArray,List.set_cons_zero,List.set_cons_succ]
   refine held_take 7 (v:=?_) rfl (by kernel_rfl) (by kernel_rfl) (by kernel_rfl) (fun _ _ _ h=>h) (Or.inl ⟨by rfl,?_⟩) (by assumption) ?_
   rotate_left 1
   ·(intro w' hSw;(try dsimp only at hSw);go_simp <;> with_reducible rfl)
   try simp only [Act.put,List.setIfInBounds_toArray,List.set_cons_zero,List.set_cons_succ]
   refine held_take 8 (v:=?_) rfl (by kernel_rfl) (by kernel_rfl) (by kernel_rfl) (fun _ _ _ h=>h) (Or.inl ⟨by rfl,?_⟩) (by assumption) ?_
   rotate_left 1
   ·(intro w' hSw;(try dsimp only at hSw);go_simp <;> with_reducible rfl)
   try simp only [Act.put,List.setIfInBounds_toArray,List.set_cons_zero,List.set_cons_succ]
   obtain ⟨Z,hst,hZM,hZF⟩:=HM2.out.drew.store Tryz.underlying156 q.flow HFQ.out (by have:=HLT.out;omega) (.slice vo vn vc)
   refine held_one 9 (by kernel_rfl) rfl (fun K hK=>?_)
   go_simp
   have HC3:Hid (Cs N w0 iv c b n m F (X.set j (q,.slice vo vn vc)) fv qv Z):=by
    obtain ⟨es,cl,hh⟩:=HM2.out.heap
    refine (HC2.out.below (Below.refl _ _).drew).off hZF HMO.out.2.1 HMO.out.2.2 HMO.out.1 (fun e=>?_) (fun e=>?_)
    ·exact heap_ne (own_lt HC2.out.fl mo e).2.choose_spec hh (by intro e;cases e) rfl
    ·exact heap_ne (own_lt HC2.out.eq mo e).2.choose_spec hh (by intro e;cases e) rfl
   have HX3:Hid (Xs m Q Z (j+1) (X.set j (q,.slice vo vn vc)) (updN mv q.flow (.slice vo vn vc))):=HX2.out.world (fun v L hL=>(hL.below (Below.refl _ _).drew).map hZF HM2.out.drew.heap)
   have HT3:Hid (Kt w Z):=(HT2.out.step (Below.refl _ _).drew).map hZF HM2.out.drew.heap
   have HM3:Hid (Mpi Z mo (j+1) (updN mv q.flow (.slice vo vn vc))):=hZM
   have z4:Z.cell? ⟨gq,j*6+4,none⟩=some (.int .i64 (q.flow:Nat))∧Z.cell? ⟨gq,j*6+5,none⟩=some (.slice vo vn vc):=by
    have hne:¬gq=mo:=by
     obtain ⟨es,cl,hh⟩:=HM2.out.heap
     have heq:=HC2.out.eq
     rw [List.length_set,HGQ.out] at heq
     exact heap_ne (own_lt heq gq rfl).2.choose_spec hh (by intro e;cases e)
    exact ⟨hZF.held (w:=U.drew) y4 hne,hZF.held (w:=U.drew) y5 hne⟩
   refine hK.out _ _ z4 (fun hS=>?_)
   clear hK K hst hZM hZF
   try simp only [Act.put,List.setIfInBounds_toArray,List.set_cons_zero,List.set_cons_succ]
   refine wpAnyH_done (by kernel_rfl) ?_ _
   clear hS z4 y4 y5
   go_wp2
   go_roundg (Q.length - (j+1))
   case measure=>have:=HG.out;have:=HLT.out;omega
   case rel=>exact ⟨j+1,_,_,HLT.out,by go_num,rfl,HC3,HX3,HM3,HT3⟩
  ·have hle:(Q.length:Int)≤(j:Int):=by omega
   have HJ:Hid (j=Q.length):=by show _=_;omega
   have HXF:Hid (Xs m Q wr Q.length X mv):=by have h:=KX.out;rw [HJ.out] at h;exact h
   have HNV:Hid (Nvs wr mv (ndf m Q)):=HXF.out.nvs
   have HMF:Hid (Mpi wr mo 60 mv):=KM.out.more (by have:=HJ.out;omega)
   have HXM:Hid (∀x∈X,Lst wr x.2 (Mip.nds m x.1.body)):=fun x hx=>by
    obtain ⟨i,hi⟩:=List.getElem?_of_mem hx
    exact (HXF.out.done i x (by rw [←HXF.out.len];exact (List.getElem?_eq_some_iff.1 hi).1) hi).1
   have HXQ:Hid (X.map Prod.fst=Q):=HXF.out.fst
   have HKC:=KC
   have hnl:((j:Int) < (Q.length:Int))=False:=by simp;omega
   clear KX KM hlt hj
   go_wp2_with fail
   clear hnl hle
   go_loopg [48] Q.length (fun gk s48 wq=>∃j:Nat,j≤Q.length∧s48=.int .i64 (j:Nat)∧gk=Q.length - j∧Hid (∀(i:Nat) (q:Nq),i < j→Q[i]?=some q→¬Mip.Way (ndf m Q) q.flow q.flow)∧Hid (Below wr.heap.size wr wq))
   case atStart=>exact ⟨0,Nat.zero_le _,rfl,rfl,fun i q hi=>by omega,Below.refl _ _⟩
   case round=>
    rename World=>wr0
    obtain ⟨j,hj,rfl,hg,HP,KB⟩:=hrel
    have HG2:Hid (gk=Q.length - j):=hg
    clear hg d3
    by_cases hlt:j < Q.length
    ·have HLT:Hid (j < Q.length):=hlt
     obtain ⟨q,hq⟩:∃q,Q[j]?=some q:=⟨_,List.getElem?_eq_getElem hlt⟩
     have HQ:Hid (Q[j]?=some q):=hq
     have hmem:=List.mem_of_getElem? hq
     have hwf:=(HZ.out.fq.wf q hmem).1
     have HCW:Hid (Cs N w0 iv c b n m F X fv qv wr0):=HKC.out.below KB.out
     obtain ⟨u,hu⟩:=HXF.out.at_ hq
     obtain ⟨gq,cap,hqv,e0,e1,e2,e3,e4,e5⟩:=HCW.out.eqAt hu
     rw [HQV.out] at hqv
     obtain ⟨rfl,rfl⟩:oq=some ⟨gq,0,none⟩∧cq=cap:=by injection hqv with h1 h2 h3;exact ⟨h1,h3⟩
     obtain ⟨T,y,hev⟩:=ev_iface N q.body hwf
     simp only [hev] at e3
     obtain ⟨so,sn,sc,hus⟩:=(HXM.out (q,u) (List.mem_of_getElem? hu)).shape
     have hus':u=.slice so sn sc:=hus
     simp only [hus'] at e5
     have h0:(0:Int)≤(j:Int):=by omega
     have h1:(j:Int) < (Q.length:Int):=by omega
     obtain ⟨f,hf,_⟩:=HZ.out.fq.eqf q hmem
     have HFQ:Hid (q.flow < F.length):=(List.getElem?_eq_some_iff.1 hf).1
     have HB:Hid (Below wr0.heap.size wr0 (wr0.alloc (.cells #[.int .i64 ((N:Int) - (q.at_:Nat)),.string (bs q.nm),.int .i64 (q.ty:Nat),.iface T y,.int .i64 (q.flow:Nat),.slice so sn sc] 109))):=(Below.refl _ _).alloc (Nat.le_refl _) _
     have HXB:Hid ((wr0.alloc (.cells #[.int .i64 ((N:Int) - (q.at_:Nat)),.string (bs q.nm),.int .i64 (q.ty:Nat),.iface T y,.int .i64 (q.flow:Nat),.slice so sn sc] 109)).heap[wr0.heap.size]?=some (.cells #[.int .i64 ((N:Int) - (q.at_:Nat)),.string (bs q.nm),.int .i64 (q.ty:Nat),.iface T y,.int .i64 (q.flow:Nat),.slice so sn sc] 109 (0,0))):=heap_alloc_new wr0 _
     clear hq hmem hwf hqv hev hf hu hus hus'
     go_wp2_with fail
     have VB:Hid (Below wr.heap.size wr (wr0.alloc (.cells #[.int .i64 ((N:Int) - (q.at_:Nat)),.string (bs q.nm),.int .i64 (q.ty:Nat),.iface T y,.int .i64 (q.flow:Nat),.slice so sn sc] 109))):=below_step KB.out HB.out
     clear e0 e1 e2 e3 e4 e5 HB
     generalize wr0.alloc (.cells #[.int .i64 ((N:Int) - (q.at_:Nat)),.string (bs q.nm),.int .i64 (q.ty:Nat),.iface T y,.int .i64 (q.flow:Nat),.slice so sn sc] 109)=V at VB HXB ⊢
     generalize wr0.heap.size=ib at HXB ⊢
     refine (reaches_any (ndf m Q) F.length (HMF.out.below VB.out) (fun k=>(HNV.out k).below VB.out) (fun k x hx=>ndf_lt HZ.out.fq.fit HZ.out.un k x hx) (by have:=HFL.out;omega) (fun k=>ndf_len HND.out k) q.flow (by have:=HFQ.out;have:=HFL.out;omega)).mono ?_
     rintro E w1 ⟨hb1,r,rfl,hr⟩
     have HB1:Hid (Below wr.heap.size wr w1):=below_step VB.out hb1
     have HX1:Hid (w1.heap[ib]?=some (.cells #[.int .i64 ((N:Int) - (q.at_:Nat)),.string (bs q.nm),.int .i64 (q.ty:Nat),.iface T y,.int .i64 (q.flow:Nat),.slice so sn sc] 109 (0,0))):=(hb1.block _ (lt_of_heap HXB.out)).trans HXB.out
     clear hb1 VB HXB
     cases r
     ·have HNW:Hid (¬Mip.Way (ndf m Q) q.flow q.flow):=fun hw=>by have:=hr.2 hw;cases this
      clear hr
      go_wp2
      go_roundg (Q.length - (j+1))
      case measure=>have:=HG2.out;have:=HLT.out;omega
      case rel=>exact ⟨j+1,HLT.out,by go_num,rfl,fun i q' hi hq'=>by
       rcases Nat.lt_or_ge i j with h | h
       ·exact HP.out i q' h hq'
       ·have e:i=j:=by omega
        rw [e,HQ.out] at hq'
        rw [←Option.some.inj hq']
        exact HNW.out,HB1⟩
     ·have HW:Hid (cy=some q.at_):=by
       have e:=HCY.out
       unfold cyc at e
       show cy=_
       rw [←e,cyc_some HQ.out (hr.1 rfl) HP.out];rfl
      have HCZ:Hid (Below w0.heap.size w0 w1):=(HKC.out.below HB1.out).blw
      have x0:w1.cell? ⟨ib,0,none⟩=some (.int .i64 ((N:Int) - (q.at_:Nat))):=(cell_of_row w1 _ 0 _ _ _ HX1.out).trans rfl
      have e10:=(HE.out.below HCZ.out).e10
      clear hr
      go_wp2
      go_ret
      exact ⟨below_step HCZ.out ((Below.refl _ _).alloc (Nat.le_refl _) _),Or.inr ⟨q.at_,_,HW.out,rfl,dg_new a _ _ rfl _ _⟩⟩
    ·have hle:(Q.length:Int)≤(j:Int):=by omega
     have HJ2:Hid (j=Q.length):=by show _=_;omega
     go_wp2
     go_ret
     have hn:cy=none:=cyc_two HCY.out (cyc_none (fun q hq=>by
      obtain ⟨i,hi⟩:=List.getElem?_of_mem hq
      exact HP.out i q (by have:=(List.getElem?_eq_some_iff.1 hi).1;have:=HJ2.out;omega) hi))
     exact ⟨(HKC.out.below KB.out).blw,Or.inl ⟨hn,rfl,⟨X,HXQ.out,HKC.out.below KB.out,fun x hx=>(HXM.out x hx).below KB.out⟩,KT.out.step KB.out⟩⟩
end
end Go.Proofs.YticbokabjhnagaaGreatDoor
