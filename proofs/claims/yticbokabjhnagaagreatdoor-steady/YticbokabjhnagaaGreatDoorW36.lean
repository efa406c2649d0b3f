import Derived.Test.YticbokabjhnagaaGreatDoorW35
namespace Go.Proofs.YticbokabjhnagaaGreatDoor
set_option maxHeartbeats 32000000
section
open Go.RowKit Go.Maps
theorem Tryz.infoTask:(Tryz.prog.info? 40).map (fun i=>(i.zero,i.size,i.bytes))=some (some (.agg #[.int .i64 0,.slice none 0 0]),2,32):=by kernel_rfl
theorem zeroNq (w:World):(zeroValue 73).run Tryz.prog w=.ok (.slice none 0 0) w:=by kernel_rfl
abbrev nilS:Value:=.slice none 0 0
def prt (F:List Flo) (X:List (Nq×Value)) (p:Nat):List (Nq×Value):=X.filter fun x=>perAt F x.1.flow==p
theorem prt_part {F:List Flo} {X:List (Nq×Value)} {Q:List Nq} (h:X.map Prod.fst=Q) (p:Nat):(prt F X p).map Prod.fst=part F Q p:=by
 rw [←h]
 unfold prt part
 rw [List.filter_map]
 rfl
structure Pt (N:Nat) (F:List Flo) (B:Nat) (w:World) (X:List (Nq×Value)) (pm:Nat→Option Value):Prop where
 row:∀p,w.ownsRow B 109 6 ((pm p).getD nilS) (prt F X p).length (nqs N (prt F X p))
 apart:∀p p' g,p≠p'→((pm p).getD nilS).ownBlock=some g→((pm p').getD nilS).ownBlock≠some g
 keys:∀p,(pm p).isSome=true↔∃x∈X,perAt F x.1.flow=p
theorem Pt.start (N:Nat) (F:List Flo) (B:Nat) (w:World):Pt N F B w [] (fun _=>none):=⟨fun _=>World.ownsRow_nil _ _ _ _,(fun _ _ _ _ h=>by cases h),fun p=>⟨(fun h=>by cases h),fun ⟨x,h,_⟩=>by cases h⟩⟩
theorem Pt.kept {N:Nat} {F:List Flo} {B:Nat} {w w':World} {X:List (Nq×Value)} {pm:Nat→Option Value} (h:Pt N F B w X pm) (k:∀g,B≤g→(∃cur,w.heap[g]?=some (.cells cur 109 (0,0)))→w'.heap[g]?=w.heap[g]?):Pt N F B w' X pm:=
 ⟨fun p=>own_kept (h.row p) (fun g hg=>k g (own_lt (h.row p) g hg).1 (own_lt (h.row p) g hg).2),h.apart,h.keys⟩
theorem Pt.below {N:Nat} {F:List Flo} {B:Nat} {w w':World} {X:List (Nq×Value)} {pm:Nat→Option Value} (h:Pt N F B w X pm) (k:Below w.heap.size w w'):Pt N F B w' X pm:=h.kept (fun g _ hg=>k.block g (lt_of_heap hg.choose_spec))
theorem Pt.more {N:Nat} {F:List Flo} {B:Nat} {w w9 Z:World} {X:List (Nq×Value)} {pm:Nat→Option Value} (h:Pt N F B w X pm) {x:Nq×Value} {p k9 c9 po:Nat} (hp:perAt F x.1.flow=p) (hg:w.grownBy w9 ((pm p).getD nilS).ownBlock) (ho:w9.ownsRow B 109 6 (.slice (some ⟨k9,0,none⟩) ((prt F X p).length+1) c9) ((prt F X p).length+1) (nqs N (prt F X p)++nqC N x)) (hat:((pm p).getD nilS).ownBlock=some k9∨k9=w.heap.size) (hZ:Fr (fun i=>i=po) w9 Z) (hpo:po < B) :
  Pt N F B Z (X++[x]) (updN pm p (.slice (some ⟨k9,0,none⟩) ((prt F X p).length+1) c9)):=by
 have same:prt F (X++[x]) p=prt F X p++[x]:=by unfold prt;rw [List.filter_append];simp [hp]
 have oth:∀p',p'≠p→prt F (X++[x]) p'=prt F X p':=fun p' hne=>by
  unfold prt
  rw [List.filter_append]
  have:(perAt F x.1.flow==p')=false:=by rw [hp];simp;exact fun e=>hne e.symm
  simp [this]
 have up:∀p',p'≠p→updN pm p (.slice (some ⟨k9,0,none⟩) ((prt F X p).length+1) c9) p'=pm p':=fun p' hne=>if_neg hne
 have us:updN pm p (.slice (some ⟨k9,0,none⟩) ((prt F X p).length+1) c9) p=some (.slice (some ⟨k9,0,none⟩) ((prt F X p).length+1) c9):=if_pos rfl
 have zz:∀{v:Value} {n:Nat} {xs:List Value},w9.ownsRow B 109 6 v n xs→Z.ownsRow B 109 6 v n xs:=fun hr=>own_kept hr (fun g hg=>hZ.block g (lt_of_heap (own_lt hr g hg).2.choose_spec) (fun e=>by have h1:=(own_lt hr g hg).1;have e':g=po:=e;omega))
 refine ⟨fun p'=>?_,fun p1 p2 g hne h1 h2=>?_,fun p'=>?_⟩
 ·by_cases e:p'=p
  ·subst e
   rw [us,same]
   have e2:nqs N (prt F X p'++[x])=nqs N (prt F X p')++nqC N x:=by simp [nqs]
   rw [e2,List.length_append]
   exact zz ho
  ·rw [up p' e,oth p' e]
   refine zz (own_kept (h.row p') (fun g hg'=>hg.block g (lt_of_heap (own_lt (h.row p') g hg').2.choose_spec) (fun e2=>?_)))
   exact h.apart p' p g e hg' e2.symm
 ·have key:∀p1 g,p1≠p→((pm p1).getD nilS).ownBlock=some g→g≠k9:=fun p1 g hne h1=>by
   rcases hat with e | e
   ·intro e2
    rw [e2] at h1
    exact h.apart p1 p k9 hne h1 e
   ·have:=lt_of_heap (own_lt (h.row p1) g h1).2.choose_spec
    omega
  by_cases e1:p1=p
  ·have e2:p2≠p:=fun e=>hne (e1.trans e.symm)
   rw [e1,us] at h1
   rw [up p2 e2] at h2
   have:k9=g:=by simpa [Value.ownBlock] using h1
   exact key p2 g e2 h2 this.symm
  ·rw [up p1 e1] at h1
   by_cases e2:p2=p
   ·rw [e2,us] at h2
    have:k9=g:=by simpa [Value.ownBlock] using h2
    exact key p1 g e1 h1 this.symm
   ·rw [up p2 e2] at h2
    exact h.apart p1 p2 g hne h1 h2
 ·by_cases e:p'=p
  ·rw [e,us]
   exact ⟨fun _=>⟨x,by simp,hp⟩,fun _=>rfl⟩
  ·rw [up p' e,h.keys p']
   constructor
   ·rintro ⟨z,h1,h2⟩
    exact ⟨z,List.mem_append_left _ h1,h2⟩
   ·rintro ⟨z,h1,h2⟩
    rcases List.mem_append.1 h1 with h1 | h1
    ·exact ⟨z,h1,h2⟩
    ·simp at h1
     rw [h1,hp] at h2
     exact absurd h2.symm e
theorem some_list:∀l:List Nat,∃s:List Nat,s.Nodup∧∀x,x∈s↔x∈l
 | []=>⟨[],List.nodup_nil,fun _=>Iff.rfl⟩
 | a::r=>by
  obtain ⟨s,h1,h2⟩:=some_list r
  by_cases h:a∈s
  ·refine ⟨s,h1,fun x=>?_⟩
   rw [h2,List.mem_cons]
   exact ⟨Or.inr,fun e=>e.elim (fun e=>by rw [e];exact (h2 a).1 h) id⟩
  ·refine ⟨a::s,List.nodup_cons.2 ⟨h,h1⟩,fun x=>?_⟩
   rw [List.mem_cons,List.mem_cons,h2]
theorem Lst.grown {w w':World} {v:Value} {L:List Nat} {row:Option Nat} (h:Lst w v L) (hg:w.grownBy w' row) (hr:∀g,row=some g→∃cur,w.heap[g]?=some (.cells cur 40 (0,0))):Lst w' v L:=by
 rcases h with h | ⟨g2,cap,e,rfl,⟨cur2,h3⟩,h4⟩
 ·exact Or.inl h
 ·have hn:some g2≠row:=fun e=>by
   obtain ⟨cur,hc⟩:=hr g2 e.symm
   exact heap_nt h3 hc (by decide) rfl
  exact Or.inr ⟨g2,cap,e,rfl,⟨cur2,(hg.block g2 (lt_of_heap h3) hn).trans h3⟩,fun j x hx=>hg.cell (h4 j x hx) hn⟩
def tkC (u:Nat×Value):List Value:=[.int .i64 (u.1:Nat),u.2]
def tks (U:List (Nat×Value)):List Value:=U.flatMap tkC
def ordOf (m:Mil.Bytes→Option Int) (F:List Flo) (Q:List Nq) (p:Nat):List Nat:=Mip.ord (ndf m Q) ((part F Q p).map Nq.flow) (part F Q p).length []
structure Tw (m:Mil.Bytes→Option Int) (F:List Flo) (Q:List Nq) (B:Nat) (w:World) (v:Value) (U:List (Nat×Value)):Prop where
 row:w.ownsRow B 40 2 v U.length (tks U)
 up:(U.map Prod.fst).Pairwise (· < ·)
 all:∀p,p∈U.map Prod.fst↔∃q∈Q,perAt F q.flow=p
 lst:∀u∈U,Lst w u.2 (ordOf m F Q u.1)
def TasksPost (m:Mil.Bytes→Option Int) (F:List Flo) (Q:List Nq) (w:World) (E:Ending) (w':World):Prop:=Below w.heap.size w w'∧∃v U,E=.returned v∧Tw m F Q w.heap.size w' v U
theorem ndf_of {m:Mil.Bytes→Option Int} {Q:List Nq} (hup:(Q.map Nq.flow).Pairwise (· < ·)) {q:Nq} (hq:q∈Q):ndf m Q q.flow=Mip.nds m q.body:=by
 unfold ndf
 cases hf:Q.find? (fun z=>z.flow==q.flow) with
 | none=>have:=List.find?_eq_none.1 hf q hq;simp at this
 | some z=>
  have h1:z.flow=q.flow:=by have:=List.find?_some hf;simpa using this
  obtain ⟨i,hi⟩:=List.getElem?_of_mem (List.mem_of_find?_eq_some hf)
  obtain ⟨j,hj⟩:=List.getElem?_of_mem hq
  have e:=flow_inj hup hi hj h1
  rw [e,hj] at hi
  rw [←Option.some.inj hi];rfl
set_option maxRecDepth 100000 in
theorem tasks_any {N:Nat} {w0:World} {iv:Value} {c b n:Nat} {m:Mil.Bytes→Option Int} {F:List Flo} {Q:List Nq} {fv qv:Value} {w:World} (h:Fin N w0 iv c b n m F Q fv qv w) (hz:Rz2 m F Q) (hF:F.length≤60) (hnod:∀q∈Q,nodes q.body≤600) :
  Calls Tryz.prog 22 #[.pointer (some ⟨c,0,none⟩)] w (TasksPost m F Q w):=by
 obtain ⟨X,hXQ,hC,hXL⟩:=h
 have HXQ:Hid (X.map Prod.fst=Q):=hXQ
 have hXl:X.length=Q.length:=by rw [←hXQ];simp
 have HC:Hid (Cs N w0 iv c b n m F X fv qv w):=hC
 have HXL:Hid (∀x∈X,Lst w x.2 (Mip.nds m x.1.body)):=hXL
 have HZ:Hid (Rz2 m F Q):=hz
 have HND:Hid (∀q∈Q,nodes q.body≤600):=hnod
 have HFL:Hid (F.length≤60):=hF
 have HXM:Hid (∀x∈X,x.1∈Q):=fun x hx=>by rw [←HXQ.out];exact List.mem_map.2 ⟨x,hx,rfl⟩
 obtain ⟨oq,cq,hqv⟩:=own_shape hC.eq
 have HQV:Hid (qv=.slice oq X.length cq):=hqv
 have hlen:X.length≤60:=by rw [hXl];exact hz.len
 have HB0:Hid (Below w.heap.size w (w.alloc (.map #[] 0))):=(Below.refl _ _).alloc (Nat.le_refl _) _
 have c3:=(hC.below HB0.out).cells.2.2.2
 rw [hqv] at c3
 have HM0:Hid (Mpi (w.alloc (.map #[] 0)) w.heap.size 0 (fun _=>none)):=Mpi.made w
 obtain ⟨i0,hi0,jz0,jz1,jz2⟩:=info_parts Tryz.infoNq
 obtain ⟨t0,ht0,tz0,tz1,tz2⟩:=info_parts Tryz.infoTask
 have hmm:=@run_makeMap Tryz.prog
 clear hXQ hXl hC hXL hz hnod hF hqv
 go_enter Tryz.func22,Tryz.ntmps22
 go_wp2_with fail
 clear hmm
 generalize hpo:w.heap.size=po at HM0
 have HPO:Hid (w.heap.size=po):=hpo
 generalize w.alloc (.map #[] 0)=W at HB0 HM0 c3 ⊢
 clear hpo
 have HKP:Hid (∀u v:World,Below w.heap.size w u→Fr (fun i=>i=po) u v→Below w.heap.size w v):=fun u v h1 h2=>⟨h2.os.trans h1.os,h2.tape.trans h1.tape,h2.output.trans h1.output,Nat.le_trans h1.size h2.size,fun i hi=>(h2.block i (Nat.lt_of_lt_of_le hi h1.size) (fun e=>by have e':i=po:=e;have:=HPO.out;omega)).trans (h1.block i hi)⟩
 go_loopg [16] X.length (fun gk s16 wr=>∃(j:Nat) (pm:Nat→Option Value),j≤X.length∧s16=.int .i64 (j:Nat)∧gk=X.length - j∧Hid (Below w.heap.size w wr)∧Hid (Mpi wr po j pm)∧Hid (Pt N F (po+1) wr (X.take j) pm))
 case atStart=>exact ⟨0,fun _=>none,Nat.zero_le _,rfl,rfl,HB0,HM0,Pt.start N F _ W⟩
 case round=>
  obtain ⟨j,pm,hj,rfl,hg,KB,KM,KP⟩:=hrel
  have HG:Hid (gk=X.length - j):=hg
  clear hg c3 HB0 HM0
  by_cases hlt:j < X.length
  ·have HLT:Hid (j < X.length):=hlt
   obtain ⟨⟨q,u⟩,hq⟩:∃x,X[j]?=some x:=⟨_,List.getElem?_eq_getElem hlt⟩
   have HQ:Hid (X[j]?=some (q,u)):=hq
   have hmem:=List.mem_of_getElem? hq
   have hqm:q∈Q:=HXM.out _ hmem
   have hwf:=(HZ.out.fq.wf q hqm).1
   obtain ⟨gq,cap',hqv,e0,e1,e2,e3,e4,e5⟩:=(HC.out.below KB.out).eqAt hq
   rw [HQV.out] at hqv
   obtain ⟨rfl,rfl⟩:oq=some ⟨gq,0,none⟩∧cq=cap':=by injection hqv with h1 h2 h3;exact ⟨h1,h3⟩
   obtain ⟨T,y,hev⟩:=ev_iface N q.body hwf
   have HEV:Hid (ev N q.body=.iface T y):=hev
   simp only [hev] at e3
   obtain ⟨so,sn,sc,hus⟩:=(HXL.out _ hmem).shape
   have hus':u=.slice so sn sc:=hus
   subst hus'
   obtain ⟨g,capF,hfv,_⟩:=HC.out.row (HZ.out.fq.some_flow hqm)
   have HFV:Hid (fv=.slice (some ⟨g,0,none⟩) F.length capF):=hfv
   obtain ⟨f,hf,_⟩:=HZ.out.fq.eqf q hqm
   have HF:Hid (F[q.flow]?=some f):=hf
   have HPE:Hid (perAt F q.flow=f.per∧f.per≤1000000):=⟨perAt_of hf,HZ.out.fq.per f (List.mem_of_getElem? hf)⟩
   have hfl:=(List.getElem?_eq_some_iff.1 hf).1
   have f0:(0:Int)≤(q.flow:Int):=by omega
   have f1:(q.flow:Int) < (F.length:Int):=by omega
   have h0:(0:Int)≤(j:Int):=by omega
   have h1:(j:Int) < (X.length:Int):=by omega
   have HB:Hid (Below wr.heap.size wr (wr.alloc (.cells #[.int .i64 ((N:Int) - (q.at_:Nat)),.string (bs q.nm),.int .i64 (q.ty:Nat),.iface T y,.int .i64 (q.flow:Nat),.slice so sn sc] 109))):=(Below.refl _ _).alloc (Nat.le_refl _) _
   have HXB:Hid ((wr.alloc (.cells #[.int .i64 ((N:Int) - (q.at_:Nat)),.string (bs q.nm),.int .i64 (q.ty:Nat),.iface T y,.int .i64 (q.flow:Nat),.slice so sn sc] 109)).heap[wr.heap.size]?=some (.cells #[.int .i64 ((N:Int) - (q.at_:Nat)),.string (bs q.nm),.int .i64 (q.ty:Nat),.iface T y,.int .i64 (q.flow:Nat),.slice so sn sc] 109 (0,0))):=heap_alloc_new wr _
   clear hq hmem hqm hwf hqv hev hus hfv hf hfl
   go_wp2_with fail
   have VB:Hid (Below w.heap.size w (wr.alloc (.cells #[.int .i64 ((N:Int) - (q.at_:Nat)),.string (bs q.nm),.int .i64 (q.ty:Nat),.iface T y,.int .i64 (q.flow:Nat),.slice so sn sc] 109))):=below_step KB.out HB.out
   have VM:Hid (Mpi (wr.alloc (.cells #[.int .i64 ((N:Int) - (q.at_:Nat)),.string (bs q.nm),.int .i64 (q.ty:Nat),.iface T y,.int .i64 (q.flow:Nat),.slice so sn sc] 109)) po j pm):=KM.out.below HB.out
   have VP:Hid (Pt N F (po+1) (wr.alloc (.cells #[.int .i64 ((N:Int) - (q.at_:Nat)),.string (bs q.nm),.int .i64 (q.ty:Nat),.iface T y,.int .i64 (q.flow:Nat),.slice so sn sc] 109)) (X.take j) pm):=KP.out.below HB.out
   clear e0 e1 e2 e3 e4 e5 HB KM KP
   generalize wr.alloc (.cells #[.int .i64 ((N:Int) - (q.at_:Nat)),.string (bs q.nm),.int .i64 (q.ty:Nat),.iface T y,.int .i64 (q.flow:Nat),.slice so sn sc] 109)=V at VB VM VP HXB ⊢
   generalize wr.heap.size=ib at HXB ⊢
   have XC:Hid (Cs N w0 iv c b n m F X fv qv V):=HC.out.below VB.out
   have d1:=XC.out.cells.2.1
   rw [HFV.out] at d1
   have x4:V.cell? ⟨ib,4,none⟩=some (.int .i64 (q.flow:Nat)):=(cell_of_row V _ 4 _ _ _ HXB.out).trans rfl
   have p2:=(XC.out.fls HFV.out q.flow f HF.out).2.2.1
   go_quiet (fail)
   have DB:Hid (Below V.heap.size V (V.drewN nq)):=below_drewN (Below.refl _ _) _
   have UB:Hid (Below w.heap.size w (V.drewN nq)):=below_step VB.out DB.out
   have UM:Hid (Mpi (V.drewN nq) po j pm):=VM.out.below DB.out
   have UP:Hid (Pt N F (po+1) (V.drewN nq) (X.take j) pm):=VP.out.below DB.out
   have UX:Hid ((V.drewN nq).heap[ib]?=some (.cells #[.int .i64 ((N:Int) - (q.at_:Nat)),.string (bs q.nm),.int .i64 (q.ty:Nat),.iface T y,.int .i64 (q.flow:Nat),.slice so sn sc] 109 (0,0))):=HXB.out
   clear d1 x4 p2 XC VB VM VP HXB DB
   generalize V.drewN nq=U at UB UM UP UX ⊢
   have x0:U.cell? ⟨ib,0,none⟩=some (.int .i64 ((N:Int) - (q.at_:Nat))):=(cell_of_row U _ 0 _ _ _ UX.out).trans rfl
   have x1:U.cell? ⟨ib,1,none⟩=some (.string (bs q.nm)):=(cell_of_row U _ 1 _ _ _ UX.out).trans rfl
   have x2:U.cell? ⟨ib,2,none⟩=some (.int .i64 (q.ty:Nat)):=(cell_of_row U _ 2 _ _ _ UX.out).trans rfl
   have x3:U.cell? ⟨ib,3,none⟩=some (.iface T y):=(cell_of_row U _ 3 _ _ _ UX.out).trans rfl
   have x4:U.cell? ⟨ib,4,none⟩=some (.int .i64 (q.flow:Nat)):=(cell_of_row U _ 4 _ _ _ UX.out).trans rfl
   have x5:U.cell? ⟨ib,5,none⟩=some (.slice so sn sc):=(cell_of_row U _ 5 _ _ _ UX.out).trans rfl
   have hlk:=UM.out.at_ Tryz.underlying97 (zeroNq U) f.per (by have:=HPE.out.2;omega)
   have AB:Hid (Below U.heap.size U (U.alloc (.cells #[.int .i64 ((N:Int) - (q.at_:Nat)),.string (bs q.nm),.int .i64 (q.ty:Nat),.iface T y,.int .i64 (q.flow:Nat),.slice so sn sc] 109))):=(Below.refl _ _).alloc (Nat.le_refl _) _
   have AP:Hid (Pt N F (po+1) (U.alloc (.cells #[.int .i64 ((N:Int) - (q.at_:Nat)),.string (bs q.nm),.int .i64 (q.ty:Nat),.iface T y,.int .i64 (q.flow:Nat),.slice so sn sc] 109)) (X.take j) pm):=UP.out.below AB.out
   have AM:Hid (Mpi (U.alloc (.cells #[.int .i64 ((N:Int) - (q.at_:Nat)),.string (bs q.nm),.int .i64 (q.ty:Nat),.iface T y,.int .i64 (q.flow:Nat),.slice so sn sc] 109)) po j pm):=UM.out.below AB.out
   have AW:Hid (Below w.heap.size w (U.alloc (.cells #[.int .i64 ((N:Int) - (q.at_:Nat)),.string (bs q.nm),.int .i64 (q.ty:Nat),.iface T y,.int .i64 (q.flow:Nat),.slice so sn sc] 109))):=below_step UB.out AB.out
   obtain ⟨ov,cv,hvv⟩:=own_shape (AP.out.row f.per)
   have HVV:Hid ((pm f.per).getD nilS=.slice ov (prt F (X.take j) f.per).length cv):=hvv
   rw [hvv] at hlk
   have OW:Hid ((U.alloc (.cells #[.int .i64 ((N:Int) - (q.at_:Nat)),.string (bs q.nm),.int .i64 (q.ty:Nat),.iface T y,.int .i64 (q.flow:Nat),.slice so sn sc] 109)).ownsRow (po+1) 109 6 (.slice ov (prt F (X.take j) f.per).length cv) (prt F (X.take j) f.per).length (nqs N (prt F (X.take j) f.per))):=by
    have h:=AP.out.row f.per
    rw [HVV.out] at h
    exact h
   have HNC:Hid (nqC N (q,.slice so sn sc)=[.int .i64 ((N:Int) - (q.at_:Nat)),.string (bs q.nm),.int .i64 (q.ty:Nat),.iface T y,.int .i64 (q.flow:Nat),.slice so sn sc]):=by
    show [Value.int .i64 ((N:Int) - (q.at_:Nat)),.string (bs q.nm),.int .i64 (q.ty:Nat),ev N q.body,.int .i64 (q.flow:Nat),.slice so sn sc]=_
    rw [HEV.out]
   have NW:Hid (∀(i:Nat) (z:Value),(nqC N (q,.slice so sn sc))[i]?=some z→(U.alloc (.cells #[.int .i64 ((N:Int) - (q.at_:Nat)),.string (bs q.nm),.int .i64 (q.ty:Nat),.iface T y,.int .i64 (q.flow:Nat),.slice so sn sc] 109)).cell? ((⟨U.heap.size,0,none⟩:Addr).add i)=some z):=by
    show ∀(i:Nat) (z:Value),_
    rw [HNC.out]
    exact fun i z h=>news_cells U _ 109 i z h
   have HSZ:Hid (po+1≤(U.alloc (.cells #[.int .i64 ((N:Int) - (q.at_:Nat)),.string (bs q.nm),.int .i64 (q.ty:Nat),.iface T y,.int .i64 (q.flow:Nat),.slice so sn sc] 109)).heap.size):=by
    obtain ⟨es,cl,hh⟩:=AM.out.heap
    exact lt_of_heap hh
   have HPL:Hid ((prt F (X.take j) f.per).length≤60):=by
    have h1:(prt F (X.take j) f.per).length≤(X.take j).length:=List.length_filter_le _ _
    have h2:(X.take j).length≤X.length:=by rw [List.length_take];omega
    show _≤_
    omega
   have HPF:Hid (f.per≤1000000000):=by have:=HPE.out.2;show _≤_;omega
   have HJ6:Hid (j≤1000000):=by show _≤_;omega
   clear hvv
   generalize (prt F (X.take j) f.per).length=pl at HVV OW HPL hlk
   go_wp2_with (at_builtin;refine wpList_append_lies _ rfl _ _ 73 rfl (po+1) 109 i0 (.agg #[.int .i64 0,.string ⟨#[]⟩,.int .i64 0,.nilIface,.int .i64 0,.slice none 0 0]) 6 80 Tryz.underlying73 hi0 jz0 jz1 jz2 rfl (by decide) (.slice ov pl cv) pl (nqs N (prt F (X.take j) f.per)) rfl OW.out ⟨U.heap.size,0,none⟩ 1 1 (nqC N (q,.slice so sn sc)) rfl rfl NW.out (by rw [HNC.out];intro z hz;simp at hz;rcases hz with rfl | rfl | rfl | rfl | rfl | rfl <;> rfl) (by decide) (by unfold maxLen;have:=HPL.out;omega) (by have:=HPL.out;omega) HSZ.out _ rfl ?_;intro k9 c9 w9 O9 hg9 hat9 hlt9;have hM9:Mpi w9 po j pm:=AM.out.fr (own:=fun i=>(Value.slice ov pl cv).ownBlock=some i) ⟨hg9.os,hg9.tape,hg9.output,hg9.size,fun i h1 h2=>hg9.block i h1 (fun e=>h2 e.symm)⟩ (fun e=>by have:=(own_lt OW.out po e).1;omega);obtain ⟨Z,hst,hZM,hZF⟩:=hM9.store Tryz.underlying97 f.per HPF.out HJ6.out (.slice (some ⟨k9,0,none⟩) (pl+1) c9))
   have HZ1:Hid (Below w.heap.size w Z):=HKP.out _ _ (below_grown AW.out AW.out.size hg9 (fun i e=>by have:=(own_lt OW.out i e).1;have:=HPO.out;omega)) hZF
   have HZ2:Hid (Mpi Z po (j+1) (updN pm f.per (.slice (some ⟨k9,0,none⟩) (pl+1) c9))):=hZM
   have HZ3:Hid (Pt N F (po+1) Z (X.take (j+1)) (updN pm f.per (.slice (some ⟨k9,0,none⟩) (pl+1) c9))):=by
    rw [←HVV.out] at hg9 hat9
    have hpl:(prt F (X.take j) f.per).length=pl:=by
     have h1:=(AP.out.row f.per)
     rw [HVV.out] at h1
     obtain ⟨o1,c1,e⟩:=own_shape h1
     injection e with _ e2 _
     exact e2.symm
    rw [←hpl] at O9
    have e:X.take (j+1)=X.take j++[(q,.slice so sn sc)]:=by rw [List.take_add_one,HQ.out];rfl
    show Pt _ _ _ _ _ _
    rw [e,←hpl]
    exact AP.out.more (x:=(q,.slice so sn sc)) HPE.out.1 hg9 O9 hat9 hZF (Nat.lt_succ_self _)
   clear O9 hg9 hat9 hlt9 hM9 hst hZM hZF hlk x0 x1 x2 x3 x4 x5
   go_roundg (X.length - (j+1))
   case measure=>have:=HG.out;have:=HLT.out;omega
   case rel=>exact ⟨j+1,_,HLT.out,by go_num,rfl,HZ1,HZ2,HZ3⟩
  ·have hle:(X.length:Int)≤(j:Int):=by omega
   have hnl:((j:Int) < (X.length:Int))=False:=by simp;omega
   have HJ:Hid (j=X.length):=by show _=_;omega
   have HPA:Hid (Pt N F (po+1) wr X pm):=by have h:=KP.out;rw [HJ.out,List.take_length] at h;exact h
   have HMA:Hid (Mpi wr po 60 pm):=KM.out.more (by omega)
   have HBA:=KB
   clear hj hlt KM KP
   go_wp2_with fail
   clear hnl hle
   refine (Tryz.maps_keys (some po) wr).mono ?_
   rintro E w1 ⟨rfl,rfl⟩
   go_wp2_with fail
   obtain ⟨ss0,hnd,hss⟩:=some_list (X.map fun x=>perAt F x.1.flow)
   refine (HMA.out.keys (by decide) ss0 hnd (fun x=>by
    rw [hss,HPA.out.keys,List.mem_map])).mono ?_
   rintro E w2 ⟨v,ps,rfl,hup,hpm,hrow,hb2⟩
   have HB2:Hid (Below wr.heap.size wr w2):=((Below.refl _ _).alloc (Nat.le_refl _) _).trans (hb2.mono (Nat.le_succ _))
   have HPS:Hid (ps.Pairwise (· < ·)∧(∀x,x∈ps↔(pm x).isSome=true)∧ps.length≤60):=by
    refine ⟨hup,hpm,?_⟩
    have h1:ps.length≤(X.map fun x=>perAt F x.1.flow).length:=Mip.len_le ps _ (hup.imp (fun e=>Nat.ne_of_lt e)) (fun x hx=>by
     have h2:=(HPA.out.keys x).1 ((hpm x).1 hx)
     obtain ⟨z,h3,h4⟩:=h2
     exact List.mem_map.2 ⟨z,h3,h4⟩)
    rw [List.length_map] at h1
    omega
   have HRW:Hid (w2.ownsRow (wr.heap.size+1) 3 1 v ps.length (ps.map encN)):=hrow
   obtain ⟨ov,cv,hv⟩:=own_shape hrow
   subst hv
   have hpl:=HPS.out.2.2
   clear hup hpm hrow hb2 hnd hss ss0
   go_wp2_with fail
   go_loopg [7,42] ps.length (fun gk s7 s42 wz=>∃(j:Nat) (U:List (Nat×Value)) (tv:Value),s7=tv∧j≤ps.length∧s42=.int .i64 (j:Nat)∧gk=ps.length - j∧Hid (U.map Prod.fst=ps.take j)∧Hid (Below w2.heap.size w2 wz)∧Hid (wz.ownsRow w2.heap.size 40 2 tv U.length (tks U))∧Hid (∀u∈U,Lst wz u.2 (ordOf m F Q u.1)))
   case atStart=>exact ⟨0,[],.slice none 0 0,rfl,Nat.zero_le _,rfl,rfl,rfl,Below.refl _ _,World.ownsRow_nil _ _ _ _,fun u hu=>by cases hu⟩
   case round=>
    rename World=>wz
    obtain ⟨k,U,tv,hs7,hk,rfl,hg,KU,KB2,KR,KL⟩:=hrel
    have HG2:Hid (gk=ps.length - k):=hg
    obtain ⟨ot,ct,hv⟩:=own_shape KR.out
    have hs7':=hs7.trans hv
    subst hs7'
    have HVV:Hid (tv=.slice ot U.length ct):=hv
    have HWZ:Hid (Below wr.heap.size wr wz):=below_step HB2.out KB2.out
    have HWW:Hid (Below w.heap.size w wz):=below_step HBA.out HWZ.out
    have HUL:Hid (U.length=k):=by
     have h:=congrArg List.length KU.out
     rw [List.length_map,List.length_take] at h
     show _=_
     omega
    clear hg hs7 hv
    by_cases hlt:k < ps.length
    ·have HLT:Hid (k < ps.length):=hlt
     obtain ⟨p,hp⟩:∃p,ps[k]?=some p:=⟨_,List.getElem?_eq_getElem hlt⟩
     have HP:Hid (ps[k]?=some p):=hp
     obtain ⟨gv,rfl⟩:∃gv,ov=some ⟨gv,0,none⟩:=by
      rcases HRW.out.2 with ⟨_,e⟩ | ⟨g,cap,cur,e,_⟩
      ·omega
      ·injection e with e1 _ _
       exact ⟨g,e1⟩
     have hcp:wz.cell? ⟨gv,k,none⟩=some (.int .i64 (p:Nat)):=by
      have h:=own_cell HRW.out (j:=k) (v:=encN p) (by rw [List.getElem?_map,hp];rfl)
      exact (KB2.out.cell (lt_of_cell h)).trans h
     obtain ⟨z0,hz0,hz1⟩:=(HPA.out.keys p).1 ((HPS.out.2.1 p).1 (List.mem_of_getElem? hp))
     have HPB:Hid (p≤1000000):=by
      obtain ⟨f,hf,_⟩:=HZ.out.fq.eqf z0.1 (HXM.out z0 hz0)
      rw [perAt_of hf] at hz1
      have:=HZ.out.fq.per f (List.mem_of_getElem? hf)
      show _≤_
      omega
     have ZP:Hid (Pt N F (po+1) wz X pm):=HPA.out.below HWZ.out
     obtain ⟨op,cp,hvp⟩:=own_shape (ZP.out.row p)
     have hlk:=(HMA.out.below HWZ.out).at_ Tryz.underlying97 (zeroNq wz) p (by have:=HPB.out;omega)
     rw [hvp] at hlk
     have HYR:Hid (Yr N (ndf m Q) 60 wz (.slice op (prt F X p).length cp) (prt F X p)):=by
      have hr:=ZP.out.row p
      rw [hvp] at hr
      refine ⟨⟨_,hr⟩,fun x hx=>?_,fun x hx=>?_,fun k x hx=>?_,fun k=>ndf_len HND.out k,?_⟩
      ·have hxX:=(List.mem_filter.1 hx).1
       have hxQ:=HXM.out x hxX
       refine ⟨(HZ.out.fq.wf x.1 hxQ).1,?_⟩
       obtain ⟨f,hf,_⟩:=HZ.out.fq.eqf x.1 hxQ
       have h1:=(List.getElem?_eq_some_iff.1 hf).1
       have h2:=HFL.out
       omega
      ·have hxX:=(List.mem_filter.1 hx).1
       rw [ndf_of HZ.out.fq.up (HXM.out x hxX)]
       exact (HXL.out x hxX).below HWW.out
      ·have:=ndf_lt HZ.out.fq.fit HZ.out.un k x hx
       have h2:=HFL.out
       omega
      ·have h1:(prt F X p).length≤X.length:=List.length_filter_le _ _
       omega
     have HOO:Hid (Mip.ord (ndf m Q) ((prt F X p).map fun x=>x.1.flow) (prt F X p).length []=ordOf m F Q p):=by
      have h1:=prt_part (F:=F) HXQ.out p
      have h2:(prt F X p).map (fun x=>x.1.flow)=(part F Q p).map Nq.flow:=by rw [←h1,List.map_map];rfl
      have h3:(prt F X p).length=(part F Q p).length:=by rw [←h1,List.length_map]
      show _=_
      unfold ordOf
      rw [h2,h3]
     have hin:=inOrder_any N (ndf m Q) HYR.out
     rw [HOO.out] at hin
     have HIN:Hid (Calls Tryz.prog 41 #[.slice op (prt F X p).length cp] wz (OrPost (ordOf m F Q p) wz)):=hin
     have h0:(0:Int)≤(k:Int):=by omega
     have h1:(k:Int) < (ps.length:Int):=by omega
     clear hp hz0 hz1 hvp hin hk
     go_wp2_with fail
     refine HIN.out.mono ?_
     rintro E w3 ⟨hb3,vo,rfl,hno⟩
     have HB3:Hid (Below w2.heap.size w2 w3):=below_step KB2.out hb3
     have HLO:Hid (Lst w3 vo (ordOf m F Q p)):=hno.lst
     have KL3:Hid (∀u∈U,Lst w3 u.2 (ordOf m F Q u.1)):=fun u hu=>(KL.out u hu).below hb3
     have KR3:Hid (w3.ownsRow w2.heap.size 40 2 tv U.length (tks U)):=own_kept KR.out (fun g hg=>hb3.block g (lt_of_heap (own_lt KR.out g hg).2.choose_spec))
     obtain ⟨s1,s2,s3,hvo⟩:=HLO.out.shape
     subst hvo
     have AB:Hid (Below w3.heap.size w3 (w3.alloc (.cells #[.int .i64 (p:Nat),.slice s1 s2 s3] 40))):=(Below.refl _ _).alloc (Nat.le_refl _) _
     have OW:Hid ((w3.alloc (.cells #[.int .i64 (p:Nat),.slice s1 s2 s3] 40)).ownsRow w2.heap.size 40 2 (.slice ot U.length ct) U.length (tks U)):=by
      have h:=own_kept KR3.out (fun g hg=>AB.out.block g (lt_of_heap (own_lt KR3.out g hg).2.choose_spec))
      rw [HVV.out] at h
      exact h
     have NW:Hid (∀(i:Nat) (z:Value),(tkC (p,.slice s1 s2 s3))[i]?=some z→(w3.alloc (.cells #[.int .i64 (p:Nat),.slice s1 s2 s3] 40)).cell? ((⟨w3.heap.size,0,none⟩:Addr).add i)=some z):=fun i z hz=>news_cells w3 (tkC (p,.slice s1 s2 s3)) 40 i z hz
     have HAW:Hid (Below w2.heap.size w2 (w3.alloc (.cells #[.int .i64 (p:Nat),.slice s1 s2 s3] 40))):=below_step HB3.out AB.out
     have HU6:Hid (U.length≤60):=by have h1:=HUL.out;have h2:=HLT.out;show _≤_;omega
     clear hb3 hno hlk hcp
     go_wp2_with (at_builtin;refine wpList_append_lies _ rfl _ _ 37 rfl w2.heap.size 40 t0 (.agg #[.int .i64 0,.slice none 0 0]) 2 32 Tryz.underlying37 ht0 tz0 tz1 tz2 rfl (by decide) (.slice ot U.length ct) U.length (tks U) rfl OW.out ⟨w3.heap.size,0,none⟩ 1 1 (tkC (p,.slice s1 s2 s3)) rfl rfl NW.out (by intro z hz;simp [tkC] at hz;rcases hz with rfl | rfl <;> rfl) (by decide) (by unfold maxLen;have:=HU6.out;omega) (by have:=HU6.out;omega) HAW.out.size _ rfl ?_;intro k9 c9 w9 O9 hg9 hat9 hlt9)
     have HR9:Hid (w9.ownsRow w2.heap.size 40 2 (.slice (some ⟨k9,0,none⟩) (U.length+1) c9) (U++[(p,Value.slice s1 s2 s3)]).length (tks (U++[(p,.slice s1 s2 s3)]))):=by
      have e:tks (U++[(p,.slice s1 s2 s3)])=tks U++tkC (p,.slice s1 s2 s3):=by simp [tks]
      show World.ownsRow _ _ _ _ _ _ _
      rw [e,List.length_append]
      exact O9
     have HB9:Hid (Below w2.heap.size w2 w9):=below_grown HAW.out HAW.out.size hg9 (fun i e=>(own_lt OW.out i e).1)
     have HL9:Hid (∀u∈U++[(p,Value.slice s1 s2 s3)],Lst w9 u.2 (ordOf m F Q u.1)):=fun u hu=>by
      have hl:Lst w3 u.2 (ordOf m F Q u.1):=by
       rcases List.mem_append.1 hu with h | h
       ·exact KL3.out u h
       ·simp at h;rw [h];exact HLO.out
      exact (hl.below AB.out).grown hg9 (fun g e=>(own_lt OW.out g e).2)
     have HU9:Hid ((U++[(p,Value.slice s1 s2 s3)]).map Prod.fst=ps.take (k+1)):=by
      show _=_
      rw [List.map_append,KU.out,List.take_add_one,HP.out];rfl
     clear O9 hg9 hat9 hlt9
     go_roundg (ps.length - (k+1))
     case measure=>have:=HG2.out;have:=HLT.out;omega
     case rel=>exact ⟨k+1,U++[(p,.slice s1 s2 s3)],_,rfl,HLT.out,by go_num,rfl,HU9,HB9,HR9,HL9⟩
    ·have hle:(ps.length:Int)≤(k:Int):=by omega
     have HJ2:Hid (k=ps.length):=by show _=_;omega
     go_wp2
     go_ret
     have hps:U.map Prod.fst=ps:=by rw [KU.out,HJ2.out,List.take_length]
     refine ⟨HWW.out,_,U,rfl,?_,by rw [hps];exact HPS.out.1,fun p=>?_,KL.out⟩
     ·have h:=owns_from (base':=w.heap.size) (Nat.le_trans HBA.out.size HB2.out.size) KR.out
      rw [HVV.out] at h
      exact h
     ·rw [hps,HPS.out.2.1 p,HPA.out.keys p]
      constructor
      ·rintro ⟨x,h1,h2⟩
       exact ⟨x.1,HXM.out x h1,h2⟩
      ·rintro ⟨q,h1,h2⟩
       rw [←HXQ.out] at h1
       obtain ⟨x,h3,rfl⟩:=List.mem_map.1 h1
       exact ⟨x,h3,h2⟩
end
end Go.Proofs.YticbokabjhnagaaGreatDoor
