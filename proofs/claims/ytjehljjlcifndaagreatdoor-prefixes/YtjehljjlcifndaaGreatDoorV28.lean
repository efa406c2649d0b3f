import Derived.Test.YtjehljjlcifndaaGreatDoorV27
namespace Go.Proofs.YtjehljjlcifndaaGreatDoor
set_option maxHeartbeats 32000000
set_option maxRecDepth 100000
section
open Go.RowKit Go.Maps
variable {X:List (Nq×Value)} {F:List Flo} {L:List Nat} {Q:List Nq} {m:Mbo} {N b c j n:Nat} {mv:Nat->Option Value} {fv iv qv v:Value} {w w' w0:World}
theorem nqs_set (N:Nat) (v:Value):∀(X:List (Nq×Value)) (j:Nat) (q:Nq) (u:Value),X[j]?=some (q,u)->nqs N (X.set j (q,v))=(nqs N X).set (j*6+5) v
 | [],j,q,u,h=>by simp at h
 | x::r,0,q,u,h=>by
  have e:x=(q,u):=by simpa using h
  subst e
  show nqs N ((q,v)::r)=_
  unfold nqs
  rw[List.flatMap_cons,List.flatMap_cons,List.set_append_left _ _ (by show 0*6+5 < 6;omega)]
  rfl
 | x::r,j+1,q,u,h=>by
  have ih:=nqs_set N v r j q u (by simpa using h)
  show nqs N (x::r.set j (q,v))=_
  unfold nqs at ih ⊢
  rw[List.flatMap_cons,List.flatMap_cons,ih,List.set_append_right _ _ (by show 6<=_;omega)]
  have e:(j+1)*6+5 - (nqC N x).length=j*6+5:=by show (j+1)*6+5 - 6=_;omega
  rw[e]
theorem Cs.setX (h:Cs N w0 iv c b n m F X fv qv w) {g cap:Nat} (hv:qv=.slice (some ⟨g,0,none⟩) X.length cap) {j:Nat} {q:Nq} {u:Value} (hj:X[j]?=some (q,u)) (v:Value) :
  Cs N w0 iv c b n m F (X.set j (q,v)) fv qv (w.setCell ⟨g,j*6+5,none⟩ v):=by
 have heq:=h.eq
 rw[hv] at heq
 obtain⟨cur,hg⟩:=(zac heq g rfl).2
 have hg0:=(zac heq g rfl).1
 have fr:=zcz w g (j*6+5) v
 obtain⟨es,cl,hbm⟩:=h.mp.heap
 refine⟨h.blw.setCell hg0 _,h.hc,h.hb,(fr.block c (lt_of_heap h.cm) (zai h.cm hg (by decide))).trans h.cm,h.mp.fr fr (zbb hbm hg (by intro e;cases e)),own_kept h.fl (fun q hq=>fr.block q (lt_of_heap (zac h.fl q hq).2.choose_spec) (zai (zac h.fl q hq).2.choose_spec hg (by decide))),?_⟩
 rw[nqs_set N v X j q u hj,List.length_set,hv]
 exact own_set heq _ v
theorem Cs.thawX (h:Cs N w0 iv c b n m F X fv qv w) {g cap:Nat} (hv:qv=.slice (some ⟨g,0,none⟩) X.length cap) (o:Nat):w.frozen? ⟨g,o,none⟩=false:=by
 have heq:=h.eq
 rw[hv] at heq
 obtain⟨cur,hg⟩:=(zac heq g rfl).2
 unfold World.frozen?;rw[hg];simp
theorem Lst.set {u:Value} {g o:Nat} {cur:Array Value} {t:TypeId} (h:Lst w v L) (hg:w.heap[g]?=some (.cells cur t (0,0))) (ht:t≠3):Lst (w.setCell ⟨g,o,none⟩ u) v L:=by
 rcases h with h|⟨g2,cap,e,rfl,⟨cur2,h3⟩,h4⟩
 ·exact Or.inl h
 ·have hn:¬g2=g:=fun e=>zai h3 hg (fun e=>ht e.symm) e
  have fr:=zcz w g o u
  exact Or.inr ⟨g2,cap,e,rfl,⟨cur2,(fr.block g2 (lt_of_heap h3) hn).trans h3⟩,fun j x hx=>fr.held (h4 j x hx) hn⟩
theorem Lst.map (h:Lst w v L) (fr:Fr (fun i=>i=b) w w') (hb:∃es cl,w.heap[b]?=some (.map es cl)):Lst w' v L:=by
 obtain⟨es,cl,hh⟩:=hb
 rcases h with h|⟨g2,cap,e,rfl,⟨cur2,h3⟩,h4⟩
 ·exact Or.inl h
 ·have hn:¬g2=b:=zbb h3 hh (by intro e;cases e)
  exact Or.inr ⟨g2,cap,e,rfl,⟨cur2,(fr.block g2 (lt_of_heap h3) hn).trans h3⟩,fun j x hx=>fr.held (h4 j x hx) hn⟩
theorem Lst.shape (h:Lst w v L):∃o n c,v=.slice o n c:=by
 rcases h with ⟨_,rfl⟩|⟨g2,cap,_,rfl,_⟩
 ·exact⟨_,_,_,rfl⟩
 ·exact⟨_,_,_,rfl⟩
structure Xs (m:Mbo) (Q:List Nq) (w:World) (j:Nat) (X:List (Nq×Value)) (mv:Nat->Option Value):Prop where
 fst:X.map Prod.fst=Q
 done:∀(i:Nat) (x:Nq×Value),i < j->X[i]?=some x->Lst w x.2 (Mip.nds m x.1.body)/\mv x.1.flow=some x.2
 rest:∀(i:Nat) (x:Nq×Value),j<=i->X[i]?=some x->x.2=.slice none 0 0
 none_:∀k,(∀(i:Nat) (x:Nq×Value),i < j->X[i]?=some x->x.1.flow≠k)->mv k=none
theorem Xs.len (h:Xs m Q w j X mv):X.length=Q.length:=by rw[<-h.fst];simp
theorem Xs.at_ {i:Nat} (h:Xs m Q w j X mv) {q:Nq} (hq:Q[i]?=some q):∃u,X[i]?=some (q,u):=by
 rw[<-h.fst,List.getElem?_map] at hq
 obtain⟨x,h1,h2⟩:=oms hq
 exact⟨x.2,by rw[h1,<-h2]⟩
theorem Xs.start (m:Mbo) (Q:List Nq) (w:World):Xs m Q w 0 (nilX Q) (fun _=>none):=
 ⟨by simp[nilX,List.map_map,Function.comp_def],(fun i x hi=>by omega),(fun i x _ hx=>by
  unfold nilX at hx
  rw[List.getElem?_map] at hx
  obtain⟨q,_,rfl⟩:=oms hx
  rfl),fun _ _=>rfl⟩
theorem Xs.world (h:Xs m Q w j X mv) (k:∀v L,Lst w v L->Lst w' v L):Xs m Q w' j X mv:=
 ⟨h.fst,fun i x hi hx=>⟨k _ _ (h.done i x hi hx).1,(h.done i x hi hx).2⟩,h.rest,h.none_⟩
theorem flow_inj (hup:(Q.map Nq.flow).Pairwise (· < ·)) {i j:Nat} {p q:Nq} (hi:Q[i]?=some p) (hj:Q[j]?=some q) (h:p.flow=q.flow):i=j:=by
 rw[List.pairwise_map] at hup
 rcases Nat.lt_trichotomy i j with h1|h1|h1
 ·have:=List.pairwise_iff_getElem.1 hup i j (lgs hi).1 (lgs hj).1 h1
  rw[(lgs hi).2,(lgs hj).2] at this
  omega
 ·exact h1
 ·have:=List.pairwise_iff_getElem.1 hup j i (lgs hj).1 (lgs hi).1 h1
  rw[(lgs hi).2,(lgs hj).2] at this
  omega
theorem set_same {l:List Nq} {x:Nq} (h:l[j]?=some x):l.set j x=l:=by
 apply List.ext_getElem?
 intro i
 rw[List.getElem?_set]
 by_cases e:j=i
 ·subst e
  rw[if_pos rfl,if_pos (lgs h).1,h]
 ·rw[if_neg e]
theorem Xs.step (hup:(Q.map Nq.flow).Pairwise (· < ·)) {w:World} {j:Nat} {X:List (Nq×Value)} {mv:Nat->Option Value} (h:Xs m Q w j X mv) {q:Nq} {u:Value} (hj:X[j]?=some (q,u)) (v:Value) (hv:Lst w v (Mip.nds m q.body)):Xs m Q w (j+1) (X.set j (q,v)) (updN mv q.flow v):=by
 have hjl:=(lgs hj).1
 have fq:∀(i:Nat) (x:Nq×Value),X[i]?=some x->Q[i]?=some x.1:=fun i x hx=>by rw[<-h.fst,List.getElem?_map,hx];rfl
 refine⟨?_,fun i x hi hx=>?_,fun i x hi hx=>?_,fun k hk=>?_⟩
 ·rw[List.map_set,<-h.fst]
  exact set_same (by rw[List.getElem?_map,hj];rfl)
 ·rw[List.getElem?_set] at hx
  by_cases e:j=i
  ·rw[if_pos e,if_pos hjl] at hx
   obtain rfl:=osi hx
   exact⟨hv,if_pos rfl⟩
  ·rw[if_neg e] at hx
   have hd:=h.done i x (by omega) hx
   refine⟨hd.1,?_⟩
   have hne:x.1.flow≠q.flow:=fun e'=>e (flow_inj hup (fq j _ hj) (fq i x hx) e'.symm)
   show (if x.1.flow=q.flow then some v else mv x.1.flow)=_
   rw[if_neg hne]
   exact hd.2
 ·rw[List.getElem?_set,if_neg (by omega)] at hx
  exact h.rest i x (by omega) hx
 ·have hq:=hk j (q,v) (Nat.lt_succ_self _) (by rw[List.getElem?_set,if_pos rfl,if_pos hjl])
  show (if k=q.flow then some v else mv k)=none
  rw[if_neg (fun e=>hq e.symm)]
  refine h.none_ k (fun i x hi hx=>?_)
  exact hk i x (by omega) (by rw[List.getElem?_set,if_neg (by omega)];exact hx)
theorem Xs.nvs (h:Xs m Q w Q.length X mv):Nvs w mv (ndf m Q):=fun k=>by
 have fq:∀(i:Nat) (x:Nq×Value),X[i]?=some x->Q[i]?=some x.1:=fun i x hx=>by rw[<-h.fst,List.getElem?_map,hx];rfl
 unfold ndf
 cases hf:Q.find? (fun q=>q.flow==k) with
 | none=>
  have hn:mv k=none:=h.none_ k (fun i x _ hx e=>by
   have:=List.find?_eq_none.1 hf x.1 (List.mem_of_getElem? (fq i x hx))
   simp[e] at this)
  rw[hn]
  exact Or.inl ⟨rfl,rfl⟩
 | some q=>
  have hq:=List.mem_of_find?_eq_some hf
  have hk:q.flow=k:=by have:=List.find?_some hf;simpa using this
  obtain⟨i,hi⟩:=List.getElem?_of_mem hq
  obtain⟨u,hu⟩:=h.at_ hi
  have hd:=h.done i (q,u) (lgs hi).1 hu
  rw[<-hk,hd.2]
  exact hd.1
theorem ndf_lt (hfit:Fit' m F) (hu:∀q∈Q,Mip.unres m q.body=none) (k x:Nat) (hx:x∈ndf m Q k):x < F.length:=by
 unfold ndf at hx
 cases hf:Q.find? (fun q=>q.flow==k) with
 | none=>rw[hf] at hx;cases hx
 | some q=>
  rw[hf] at hx
  exact nds_lt hfit q.body (hu q (List.mem_of_find?_eq_some hf)) x hx
theorem ndf_len (hn:∀q∈Q,nodes q.body<=600) (k:Nat):(ndf m Q k).length<=100000:=by
 unfold ndf
 cases hf:Q.find? (fun q=>q.flow==k) with
 | none=>exact Nat.zero_le _
 | some q=>
  have h1:=nds_len m q.body
  have h2:=hn q (List.mem_of_find?_eq_some hf)
  show (Mip.nds m q.body).length<=_
  omega
def cyc (m:Mbo) (Q:List Nq) (r:Option Nat):Prop:=(Q.find? fun q=>@decide (Mip.Way (ndf m Q) q.flow q.flow) (Classical.propDecidable _)).map Nq.at_=r
theorem cyc_two {r r':Option Nat} (h:cyc m Q r) (k:cyc m Q r'):r=r':=Eq.trans (Eq.symm h) k
theorem cyc_some {Q0:List Nq}:∀{Q:List Nq} {j:Nat} {q:Nq},Q[j]?=some q->Mip.Way (ndf m Q0) q.flow q.flow->(∀(i:Nat) (q':Nq),i < j->Q[i]?=some q'->¬Mip.Way (ndf m Q0) q'.flow q'.flow)->(Q.find? fun q=>@decide (Mip.Way (ndf m Q0) q.flow q.flow) (Classical.propDecidable _))=some q
 | [],_,_,h,_,_=>by simp at h
 | x::r,0,q,h,k,_=>by
  have e:x=q:=by simpa using h
  subst e
  rw[List.find?_cons_of_pos (by simpa using k)]
 | x::r,j+1,q,h,k,l=>by
  have hx:=l 0 x (Nat.succ_pos _) rfl
  rw[List.find?_cons_of_neg (by simpa using hx)]
  exact cyc_some (Q:=r) (j:=j) (by simpa using h) k (fun i q' hi hq=>l (i+1) q' (Nat.succ_lt_succ hi) (by simpa using hq))
theorem cyc_none (h:∀q∈Q,¬Mip.Way (ndf m Q) q.flow q.flow):cyc m Q none:=by
 unfold cyc
 rw[List.find?_eq_none.2 (fun q hq=>by simpa using h q hq)];rfl
theorem cyc_each (h:cyc m Q none):∀q∈Q,¬Mip.Way (ndf m Q) q.flow q.flow:=fun q hq=>by
 unfold cyc at h
 have:=List.find?_eq_none.1 (Option.map_eq_none_iff.1 h) q hq
 simpa using this
def Fin (N:Nat) (w0:World) (iv:Value) (c b n:Nat) (m:Mbo) (F:List Flo) (Q:List Nq) (fv qv:Value) (w:World):Prop:=
 ∃X,X.map Prod.fst=Q/\Cs N w0 iv c b n m F X fv qv w/\∀x∈X,Lst w x.2 (Mip.nds m x.1.body)
theorem findNeeds_any {a:Nat->Addr} (h:Cs N w0 iv c b n m F (nilX Q) fv qv w) (hE:Ce a w0) (hz:Rz2 m F Q) (hF:F.length<=60) (hnod:∀q∈Q,nodes q.body<=600) {cy:Option Nat} (hcy:cyc m Q cy) :
  Calls Tryz.prog 55 #[.pointer (some ⟨c,0,none⟩)] w (ScPost N a w0 10 cy (fun w'=>Fin N w0 iv c b n m F Q fv qv w'/\Kt w w')):=by
 have HCY:=hid hcy
 clear hcy
 have HE:=hid hE
 have HZ:=hid hz
 have HND:=hid hnod
 have HFL:=hid hF
 obtain⟨oq,cq,hqv⟩:=zae h.eq
 rw[zd4] at hqv
 have HQV:=hid hqv
 have hlen:=hz.len
 have HB0:Hid (Below w.heap.size w (w.alloc (.map #[] 0))):=brf.alloc nlr _
 have HC0:=hid (h.below HB0.out)
 have HM0:=hid (Mpi.made w)
 have HMO:Hid (w.heap.size≠b/\w0.heap.size<=w.heap.size/\w.heap.size≠c):=⟨(h.new nlr).2.2.1,h.blw.size,(h.new nlr).2.1⟩
 have c3:=HC0.out.cells.2.2.2
 rw[hqv] at c3
 have hmm:=@run_makeMap Tryz.prog
 clear h hE hz hqv hnod hF
 generalize hmo:w.heap.size=mo at HM0 HMO
 go_enter Tryz.func55,Tryz.ntmps55
 go_wp2_with fail
 try rw[hmo]
 clear hmm hmo
 generalize w.alloc (.map #[] 0)=W at HB0 HC0 HM0 c3 ⊢
 go_loopg [14] Q.length (fun gk s14 wr=>∃(j:Nat) (X:List (Nq×Value)) (mv:Nat->Option Value),j<=Q.length/\s14=.int .i64 (j:Nat)/\gk=Q.length - j/\Hid (Cs N w0 iv c b n m F X fv qv wr)/\Hid (Xs m Q wr j X mv)/\Hid (Mpi wr mo j mv)/\Hid (Kt w wr))
 case atStart=>exact⟨0,nilX Q,fun _=>none,Nat.zero_le _,rfl,rfl,HC0,Xs.start m Q W,HM0,Kt.of_below HB0.out⟩
 case round=>
  obtain⟨j,X,mv,hj,rfl,hg,KC,KX,KM,KT⟩:=hrel
  have HG:=hid hg
  clear hg c3 HC0 HM0 HB0
  have d3:=KC.out.cells.2.2.2
  rw[HQV.out] at d3
  by_cases hlt:j < Q.length
  ·have HLT:=hid hlt
   obtain⟨q,hq⟩:∃q,Q[j]?=some q:=⟨_,List.getElem?_eq_getElem hlt⟩
   have hmem:=List.mem_of_getElem? hq
   have hwf:=(HZ.out.fq.wf q hmem).1
   obtain⟨u,hu⟩:=KX.out.at_ hq
   have HU:=hid hu
   obtain⟨gq,cap,hqv,e0,e1,e2,e3,e4,e5⟩:=KC.out.eqAt hu
   have HGQ:=hid hqv
   rw[HQV.out] at hqv
   obtain⟨rfl,rfl⟩:oq=some ⟨gq,0,none⟩/\cq=cap:=by injection hqv with h1 h2 h3;exact⟨h1,h3⟩
   obtain⟨T,y,hev⟩:=zaz N q.body hwf
   simp only[hev] at e3
   have h0:(0:Int)<=(j:Int):=by omega
   have h1:(j:Int) < (Q.length:Int):=by omega
   have HNO:=needsOf_any N a c b n m F HZ.out.fq.fit q.body hwf (by have:=HND.out q hmem;omega) (HZ.out.un q hmem)
   rw[hev] at HNO
   have HNO':Hid (∀w,Nm a c b n m w->Calls Tryz.prog 85 #[.pointer (some ⟨c,0,none⟩),.iface T y] w (NdPost (Mip.nds m q.body) w)):=HNO
   obtain⟨f,hf,_⟩:=HZ.out.fq.eqf q hmem
   have HFQ:Hid (q.flow<=1000000000):=by
    have h1:=(lgs hf).1
    have h2:=HFL.out
    show _<=_
    omega
   clear hq hmem hwf hqv hev HNO hf hu e0 e1 e2 e4 e5
   go_wp2_with fail
   refine (HNO'.out _ (KC.out.nm HE.out)).mono ?_
   rintro E w1 ⟨hb1,v,rfl,hnv⟩
   have HC1:=hid (KC.out.below hb1)
   have HX1:Hid (Xs m Q w1 j X mv):=KX.out.world (fun v L hL=>hL.below hb1)
   have HM1:=hid (KM.out.below hb1)
   have HLV:=hid hnv.lst
   obtain⟨vo,vn,vc,hvs⟩:=HLV.out.shape
   subst hvs
   obtain⟨_,_,hqv2,x0,x1,x2,x3,x4,x5⟩:=HC1.out.eqAt HU.out
   obtain⟨uo,un,uc,hus⟩:∃o n c,u=.slice o n c:=⟨none,0,0,KX.out.rest j (q,u) nlr HU.out⟩
   subst hus
   rw[HGQ.out] at hqv2
   obtain⟨rfl,rfl⟩:gq=_/\cq=_:=by injection hqv2 with h1 h2 h3;exact⟨by simpa using h1,h3⟩
   have zz:=HC1.out.thawX HGQ.out (j*6+5)
   have HC2:=hid (HC1.out.setX HGQ.out HU.out (.slice vo vn vc))
   have hgb:∃cur,w1.heap[gq]?=some (.cells cur 125 (0,0)):=by
    have heq:=HC1.out.eq
    rw[HGQ.out] at heq
    exact (zac heq gq rfl).2
   obtain⟨cur,hcur⟩:=hgb
   have HX2:Hid (Xs m Q (w1.setCell ⟨gq,j*6+5,none⟩ (.slice vo vn vc)) (j+1) (X.set j (q,.slice vo vn vc)) (updN mv q.flow (.slice vo vn vc))):=(HX1.out.step HZ.out.fq.up HU.out (.slice vo vn vc) HLV.out).world (fun v L hL=>hL.set hcur (by decide))
   have HM2:Hid (Mpi (w1.setCell ⟨gq,j*6+5,none⟩ (.slice vo vn vc)) mo j mv):=by
    obtain⟨es,cl,hh⟩:=HM1.out.heap
    exact HM1.out.fr (zcz w1 gq (j*6+5) _) (zbb hh hcur (by intro e;cases e))
   have HT2:Hid (Kt w (w1.setCell ⟨gq,j*6+5,none⟩ (.slice vo vn vc))):=(KT.out.step hb1).one (zcz w1 gq (j*6+5) _) hcur (by decide)
   have y4:(w1.setCell ⟨gq,j*6+5,none⟩ (.slice vo vn vc)).cell? ⟨gq,j*6+4,none⟩=some (.int .i64 (q.flow:Nat)):=by
    rw[World.cell?_setCell_other (h:=fun e=>by have:=congrArg Addr.off e;simp at this)];exact x4
   have y5:(w1.setCell ⟨gq,j*6+5,none⟩ (.slice vo vn vc)).cell? ⟨gq,j*6+5,none⟩=some (.slice vo vn vc):=World.cell?_setCell_same _ _ _ x5
   clear hb1 hnv hqv2 x0 x1 x2 x3 x4 hcur d3 e3
   go_wp2_with fail
   generalize w1.setCell ⟨gq,j*6+5,none⟩ (.slice vo vn vc)=U at HC2 HX2 HM2 HT2 y4 y5 ⊢
   clear x5 zz
   refine zax (fun w'=>w'.cell? ⟨gq,j*6+4,none⟩=some (.int .i64 (q.flow:Nat))/\w'.cell? ⟨gq,j*6+5,none⟩=some (.slice vo vn vc)) (by kernel_rfl) ⟨y4,y5⟩ (fun hS=>?_)
   refine hu 0 (v:=?_) rfl (by kernel_rfl) (fun _ _ _ h=>h) (Or.inl ⟨by rfl,?_⟩) (by assumption) ?_
   rotate_left 1
   ·(intro w' hSw;(try dsimp only at hSw);go_simp <;> with_reducible rfl)
   try simp only[Act.put,sa,sz,sn]
   refine hu 1 (v:=?_) rfl (by kernel_rfl) (fun _ _ _ h=>h) (Or.inl ⟨by rfl,?_⟩) (by assumption) ?_
   rotate_left 1
   ·(intro w' hSw;(try dsimp only at hSw);go_simp <;> with_reducible rfl)
   try simp only[Act.put,sa,sz,sn]
   refine hu 2 (v:=?_) rfl (by kernel_rfl) (fun _ _ _ h=>h) (Or.inl ⟨by rfl,?_⟩) (by assumption) ?_
   rotate_left 1
   ·(intro w' hSw;(try dsimp only at hSw);go_simp <;> with_reducible rfl)
   try simp only[Act.put,sa,sz,sn]
   refine hu 3 (v:=?_) rfl (by kernel_rfl) (fun _ _ _ h=>h) (Or.inl ⟨by rfl,?_⟩) (by assumption) ?_
   rotate_left 1
   ·(intro w' hSw;(try dsimp only at hSw);go_simp <;> with_reducible rfl)
   try simp only[Act.put,sa,sz,sn]
   refine hu 4 (v:=?_) rfl (by kernel_rfl) (fun _ _ _ h=>h) (Or.inl ⟨by rfl,?_⟩) (by assumption) ?_
   rotate_left 1
   ·(intro w' hSw;(try dsimp only at hSw);go_simp <;> with_reducible rfl)
   try simp only[Act.put,sa,sz,sn]
   refine hu 5 (v:=?_) rfl (by kernel_rfl) (fun _ _ _ h=>h) (Or.inl ⟨by rfl,?_⟩) (by assumption) ?_
   rotate_left 1
   ·(intro w' hSw;(try dsimp only at hSw);go_simp <;> with_reducible rfl)
   try simp only[Act.put,sa,sz,sn]
   refine hu 6 (v:=?_) rfl (by kernel_rfl) (fun _ _ _ h=>h) (Or.inl ⟨by rfl,?_⟩) (by assumption) ?_
   rotate_left 1
   ·(intro w' hSw;(try dsimp only at hSw);go_simp <;> with_reducible rfl)
   try simp only[Act.put,sa,sz,sn]
   refine hu 7 (v:=?_) rfl (by kernel_rfl) (fun _ _ _ h=>h) (Or.inl ⟨by rfl,?_⟩) (by assumption) ?_
   rotate_left 1
   ·(intro w' hSw;(try dsimp only at hSw);go_simp <;> with_reducible rfl)
   try simp only[Act.put,sa,sz,sn]
   refine hu 8 (v:=?_) rfl (by kernel_rfl) (fun _ _ _ h=>h) (Or.inl ⟨by rfl,?_⟩) (by assumption) ?_
   rotate_left 1
   ·(intro w' hSw;(try dsimp only at hSw);go_simp <;> with_reducible rfl)
   try simp only[Act.put,sa,sz,sn]
   obtain⟨Z,hst,hZM,hZF⟩:=HM2.out.drew.store Tryz.underlying174 q.flow HFQ.out (by have:=HLT.out;omega) (.slice vo vn vc)
   refine zav 9 (by kernel_rfl) rfl (fun K hK=>?_)
   go_simp
   have HC3:Hid (Cs N w0 iv c b n m F (X.set j (q,.slice vo vn vc)) fv qv Z):=by
    obtain⟨es,cl,hh⟩:=HM2.out.heap
    refine (HC2.out.below brf.drew).off hZF HMO.out.2.1 HMO.out.2.2 HMO.out.1 (fun e=>?_) (fun e=>?_)
    ·exact zbb (zac HC2.out.fl mo e).2.choose_spec hh (by intro e;cases e) rfl
    ·exact zbb (zac HC2.out.eq mo e).2.choose_spec hh (by intro e;cases e) rfl
   have HX3:Hid (Xs m Q Z (j+1) (X.set j (q,.slice vo vn vc)) (updN mv q.flow (.slice vo vn vc))):=HX2.out.world (fun v L hL=>(hL.below brf.drew).map hZF HM2.out.drew.heap)
   have HT3:Hid (Kt w Z):=(HT2.out.step brf.drew).map hZF HM2.out.drew.heap
   have HM3:=hid hZM
   have z4:Z.cell? ⟨gq,j*6+4,none⟩=some (.int .i64 (q.flow:Nat))/\Z.cell? ⟨gq,j*6+5,none⟩=some (.slice vo vn vc):=by
    have hne:¬gq=mo:=by
     obtain⟨es,cl,hh⟩:=HM2.out.heap
     have heq:=HC2.out.eq
     rw[List.length_set,HGQ.out] at heq
     exact zbb (zac heq gq rfl).2.choose_spec hh (by intro e;cases e)
    exact⟨hZF.held (w:=U.drew) y4 hne,hZF.held (w:=U.drew) y5 hne⟩
   refine hK.out _ _ z4 (fun hS=>?_)
   clear hK K hst hZM hZF
   try simp only[Act.put,sa,sz,sn]
   refine wpAnyH_done (by kernel_rfl) ?_ _
   clear hS z4 y4 y5
   go_wp2
   go_roundg (Q.length - (j+1))
   case measure=>have:=HG.out;have:=HLT.out;omega
   case rel=>exact⟨j+1,_,_,HLT.out,by go_num,rfl,HC3,HX3,HM3,HT3⟩
  ·have hle:(Q.length:Int)<=(j:Int):=by omega
   have HJ:Hid (j=Q.length):=by show _=_;omega
   have HXF:Hid (Xs m Q wr Q.length X mv):=by have h:=KX.out;rw[HJ.out] at h;exact h
   have HNV:=hid HXF.out.nvs
   have HMF:Hid (Mpi wr mo 60 mv):=KM.out.more (by have:=HJ.out;omega)
   have HXM:Hid (∀x∈X,Lst wr x.2 (Mip.nds m x.1.body)):=fun x hx=>by
    obtain⟨i,hi⟩:=List.getElem?_of_mem hx
    exact (HXF.out.done i x (by rw[<-HXF.out.len];exact (lgs hi).1) hi).1
   have HXQ:=hid HXF.out.fst
   have HKC:=KC
   have hnl:((j:Int) < (Q.length:Int))=False:=by simp;omega
   clear KX KM hlt hj
   go_wp2_with fail
   clear hnl hle
   go_loopg [48] Q.length (fun gk s48 wq=>∃j:Nat,j<=Q.length/\s48=.int .i64 (j:Nat)/\gk=Q.length - j/\Hid (∀(i:Nat) (q:Nq),i < j->Q[i]?=some q->¬Mip.Way (ndf m Q) q.flow q.flow)/\Hid (Below wr.heap.size wr wq))
   case atStart=>exact⟨0,Nat.zero_le _,rfl,rfl,fun i q hi=>by omega,Below.refl _ _⟩
   case round=>
    rename World=>wr0
    obtain⟨j,hj,rfl,hg,HP,KB⟩:=hrel
    have HG2:=hid hg
    clear hg d3
    by_cases hlt:j < Q.length
    ·have HLT:=hid hlt
     obtain⟨q,hq⟩:∃q,Q[j]?=some q:=⟨_,List.getElem?_eq_getElem hlt⟩
     have HQ:=hid hq
     have hmem:=List.mem_of_getElem? hq
     have hwf:=(HZ.out.fq.wf q hmem).1
     have HCW:=hid (HKC.out.below KB.out)
     obtain⟨u,hu⟩:=HXF.out.at_ hq
     obtain⟨gq,cap,hqv,e0,e1,e2,e3,e4,e5⟩:=HCW.out.eqAt hu
     rw[HQV.out] at hqv
     obtain⟨rfl,rfl⟩:oq=some ⟨gq,0,none⟩/\cq=cap:=by injection hqv with h1 h2 h3;exact⟨h1,h3⟩
     obtain⟨T,y,hev⟩:=zaz N q.body hwf
     simp only[hev] at e3
     obtain⟨so,sn,sc,hus⟩:=(HXM.out (q,u) (List.mem_of_getElem? hu)).shape
     have hus':u=.slice so sn sc:=hus
     simp only[hus'] at e5
     have h0:(0:Int)<=(j:Int):=by omega
     have h1:(j:Int) < (Q.length:Int):=by omega
     obtain⟨f,hf,_⟩:=HZ.out.fq.eqf q hmem
     have HFQ:Hid (q.flow < F.length):=(lgs hf).1
     have HB:Hid (Below wr0.heap.size wr0 (wr0.alloc (.cells #[.int .i64 ((N:Int) - (q.at_:Nat)),.string (bs q.nm),.int .i64 (q.ty:Nat),.iface T y,.int .i64 (q.flow:Nat),.slice so sn sc] 125))):=brf.alloc nlr _
     have HXB:Hid ((wr0.alloc (.cells #[.int .i64 ((N:Int) - (q.at_:Nat)),.string (bs q.nm),.int .i64 (q.ty:Nat),.iface T y,.int .i64 (q.flow:Nat),.slice so sn sc] 125)).heap[wr0.heap.size]?=some (.cells #[.int .i64 ((N:Int) - (q.at_:Nat)),.string (bs q.nm),.int .i64 (q.ty:Nat),.iface T y,.int .i64 (q.flow:Nat),.slice so sn sc] 125 (0,0))):=han wr0 _
     clear hq hmem hwf hqv hev hf hu hus hus'
     go_wp2_with fail
     have VB:=hid (zaa KB.out HB.out)
     clear e0 e1 e2 e3 e4 e5 HB
     generalize wr0.alloc (.cells #[.int .i64 ((N:Int) - (q.at_:Nat)),.string (bs q.nm),.int .i64 (q.ty:Nat),.iface T y,.int .i64 (q.flow:Nat),.slice so sn sc] 125)=V at VB HXB ⊢
     generalize wr0.heap.size=ib at HXB ⊢
     refine (reaches_any (ndf m Q) F.length (HMF.out.below VB.out) (fun k=>(HNV.out k).below VB.out) (fun k x hx=>ndf_lt HZ.out.fq.fit HZ.out.un k x hx) (by have:=HFL.out;omega) (fun k=>ndf_len HND.out k) q.flow (by have:=HFQ.out;have:=HFL.out;omega)).mono ?_
     rintro E w1 ⟨hb1,r,rfl,hr⟩
     have HB1:=hid (zaa VB.out hb1)
     have HX1:Hid (w1.heap[ib]?=some (.cells #[.int .i64 ((N:Int) - (q.at_:Nat)),.string (bs q.nm),.int .i64 (q.ty:Nat),.iface T y,.int .i64 (q.flow:Nat),.slice so sn sc] 125 (0,0))):=(hb1.block _ (lt_of_heap HXB.out)).trans HXB.out
     clear hb1 VB HXB
     cases r
     ·have HNW:Hid (¬Mip.Way (ndf m Q) q.flow q.flow):=fun hw=>by have:=hr.2 hw;cases this
      clear hr
      go_wp2
      go_roundg (Q.length - (j+1))
      case measure=>have:=HG2.out;have:=HLT.out;omega
      case rel=>exact⟨j+1,HLT.out,by go_num,rfl,fun i q' hi hq'=>by
       rcases Nat.lt_or_ge i j with h|h
       ·exact HP.out i q' h hq'
       ·have e:i=j:=by omega
        rw[e,HQ.out] at hq'
        rw[<-osi hq']
        exact HNW.out,HB1⟩
     ·have HW:Hid (cy=some q.at_):=by
       have e:=HCY.out
       unfold cyc at e
       show cy=_
       rw[<-e,cyc_some HQ.out (hr.1 rfl) HP.out];rfl
      have HCZ:Hid (Below w0.heap.size w0 w1):=(HKC.out.below HB1.out).blw
      have x0:w1.cell? ⟨ib,0,none⟩=some (.int .i64 ((N:Int) - (q.at_:Nat))):=(cor w1 _ 0 _ _ _ HX1.out).trans rfl
      have e10:=(HE.out.below HCZ.out).e10
      clear hr
      go_wp2
      go_ret
      exact⟨zaa HCZ.out (brf.alloc nlr _),Or.inr ⟨q.at_,_,HW.out,rfl,zda a _ _ rfl _ _⟩⟩
    ·have hle:(Q.length:Int)<=(j:Int):=by omega
     have HJ2:Hid (j=Q.length):=by show _=_;omega
     go_wp2
     go_ret
     have hn:cy=none:=cyc_two HCY.out (cyc_none (fun q hq=>by
      obtain⟨i,hi⟩:=List.getElem?_of_mem hq
      exact HP.out i q (by have:=(lgs hi).1;have:=HJ2.out;omega) hi))
     exact⟨(HKC.out.below KB.out).blw,Or.inl ⟨hn,rfl,⟨X,HXQ.out,HKC.out.below KB.out,fun x hx=>(HXM.out x hx).below KB.out⟩,KT.out.step KB.out⟩⟩
end
section
open Go.RowKit Go.Maps
variable {b n:Nat} {W:Nat->Bool} {w:World}
abbrev setM (W:Nat->Bool):Nat->Option Value:=fun k=>if W k then some (.agg #[]) else none
theorem zeroU (w:World):(zeroValue 180).run Tryz.prog w=.ok (.agg #[]) w:=by kernel_rfl
theorem set_look (h:Mpi w b n (setM W)) (x:Nat) (hx:x<=1000000000) :
  (Instr.lookup 179 (.map (some b)) (.int .i64 (x:Nat)) true).run Tryz.prog w=.ok (.tuple #[.agg #[],.bool (W x)]) w:=by
 have h1:=h.look Tryz.underlying179 (zeroU w) x hx
 rw[h1]
 show Result.ok (Value.tuple #[(if W x then some (.agg #[]) else none:Option Value).getD (.agg #[]),.bool (if W x then some (.agg #[]) else none:Option Value).isSome]) w=_
 cases W x <;> rfl
def BoPost (v:Bool) (w:World) (E:Ending) (w':World):Prop:=Below w.heap.size w w'/\E=.returned (.bool v)
theorem isReady_any (hM:Mpi w b n (setM W)) (at_:Int) (nm:Mil.Bytes) (ty fl:Nat) (T:TypeId) (y:Value) (so:Option Addr) (sn sc:Nat) (L:List Nat) (hL:Lst w (.slice so sn sc) L) (hf:fl<=1000000000) (hx:∀x∈L,x<=1000000000) (hl:L.length<=100000) :
  Calls Tryz.prog 90 #[.agg #[.int .i64 at_,.string (bs nm),.int .i64 (ty:Nat),.iface T y,.int .i64 (fl:Nat),.slice so sn sc],.map (some b)] w (BoPost (W fl && L.all fun x=>!W x) w):=by
 have HM:=hid hM
 have HL:=hid hL
 have HX:=hid hx
 have HB:Hid (Below w.heap.size w (w.alloc (.cells #[.int .i64 at_,.string (bs nm),.int .i64 (ty:Nat),.iface T y,.int .i64 (fl:Nat),.slice so sn sc] 125))):=brf.alloc nlr _
 have HXB:Hid ((w.alloc (.cells #[.int .i64 at_,.string (bs nm),.int .i64 (ty:Nat),.iface T y,.int .i64 (fl:Nat),.slice so sn sc] 125)).heap[w.heap.size]?=some (.cells #[.int .i64 at_,.string (bs nm),.int .i64 (ty:Nat),.iface T y,.int .i64 (fl:Nat),.slice so sn sc] 125 (0,0))):=han w _
 have hlk:=set_look (HM.out.below HB.out) fl hf
 have hsn:sn=L.length:=by
  rcases hL with ⟨rfl,e⟩|⟨g,cap,_,e,_⟩
  ·injection e
  ·injection e
 subst hsn
 clear hM hL hx hf
 go_enter Tryz.func90,Tryz.ntmps90
 cases hW:W fl with
 | false=>
  rw[hW] at hlk
  have HWF:=hid hW
  clear hW
  go_wp2
  go_ret
  exact⟨zaa HB.out (brf.alloc nlr _),rfl⟩
 | true=>
  rw[hW] at hlk
  have HWF:=hid hW
  clear hW
  have HB2:Hid (Below w.heap.size w ((w.alloc (.cells #[.int .i64 at_,.string (bs nm),.int .i64 (ty:Nat),.iface T y,.int .i64 (fl:Nat),.slice so L.length sc] 125)).alloc (.cells #[] 180))):=zaa HB.out (brf.alloc nlr _)
  go_wp2_with fail
  clear hlk HXB HB
  generalize (w.alloc (.cells #[.int .i64 at_,.string (bs nm),.int .i64 (ty:Nat),.iface T y,.int .i64 (fl:Nat),.slice so L.length sc] 125)).alloc (.cells #[] 180)=V at HB2 ⊢
  go_loopg [23] L.length (fun gk s23 wr=>∃j:Nat,j<=L.length/\s23=.int .i64 (j:Nat)/\gk=L.length - j/\Hid (∀x∈L.take j,W x=false)/\Hid (Below w.heap.size w wr))
  case atStart=>exact⟨0,Nat.zero_le _,rfl,rfl,fun x hx=>by simp at hx,HB2⟩
  case round=>
   obtain⟨j,hj,rfl,hg,HP,KB⟩:=hrel
   have HG:=hid hg
   clear hg
   by_cases hlt:j < L.length
   ·have HLT:=hid hlt
    obtain⟨x,hxj⟩:∃x,L[j]?=some x:=⟨_,List.getElem?_eq_getElem hlt⟩
    have HQ:=hid hxj
    have hxm:=List.mem_of_getElem? hxj
    obtain⟨g,rfl,hc⟩:∃g,so=some ⟨g,0,none⟩/\wr.cell? ⟨g,j,none⟩=some (.int .i64 (x:Nat)):=by
     rcases HL.out.below KB.out with ⟨e,_⟩|⟨g,cap,_,e,_,h4⟩
     ·rw[e] at hlt;simp at hlt
     ·injection e with e1 _ _
      exact⟨g,e1,h4 j x hxj⟩
    have hlk:=set_look (HM.out.below KB.out) x (HX.out x hxm)
    have HM2:=hid hxm
    have h0:(0:Int)<=(j:Int):=by omega
    have h1:(j:Int) < (L.length:Int):=by omega
    clear hxj hxm
    cases hW:W x with
    | true=>
     rw[hW] at hlk
     have HWX:=hid hW
     clear hW
     go_wp2
     go_ret
     refine⟨zaa KB.out (brf.alloc nlr _),?_⟩
     have e:(L.all fun x=>!W x)=false:=by
      rw[List.all_eq_false]
      exact⟨x,HM2.out,by simp[HWX.out]⟩
     rw[e,Bool.and_false];rfl
    | false=>
     rw[hW] at hlk
     have HWX:=hid hW
     have HB3:Hid (Below w.heap.size w (wr.alloc (.cells #[] 180))):=zaa KB.out (brf.alloc nlr _)
     clear hW
     go_wp2
     go_roundg (L.length - (j+1))
     case measure=>have:=HG.out;have:=HLT.out;omega
     case rel=>exact⟨j+1,HLT.out,by go_num,rfl,fun z hz=>by
      rw[List.take_add_one,HQ.out] at hz
      rcases List.mem_append.1 hz with h|h
      ·exact HP.out z h
      ·simp at h;rw[h];exact HWX.out,HB3⟩
   ·have hle:(L.length:Int)<=(j:Int):=by omega
    have HJ:Hid (j=L.length):=by show _=_;omega
    go_wp2
    go_ret
    refine⟨KB.out,?_⟩
    have e:(L.all fun x=>!W x)=true:=by
     rw[List.all_eq_true]
     intro x hx
     have h:=HP.out x (by rw[HJ.out,List.take_length];exact hx)
     simp[h]
    rw[e];rfl
end
end Go.Proofs.YtjehljjlcifndaaGreatDoor
