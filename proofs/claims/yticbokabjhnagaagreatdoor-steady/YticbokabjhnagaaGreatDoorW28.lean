import Derived.Test.YticbokabjhnagaaGreatDoorW24
import Derived.Test.YticbokabjhnagaaGreatDoorW27
import Derived.Test.YticbokabjhnagaaGreatDoorW14
import Derived.BigQuiet
namespace Go.Proofs.YticbokabjhnagaaGreatDoor
set_option maxHeartbeats 32000000
section
open Go.RowKit
theorem nilX_at {Q:List Nq} {j:Nat} {q:Nq} (h:Q[j]?=some q):(nilX Q)[j]?=some (q,.slice none 0 0):=by simp [nilX,h]
theorem nilX_len (Q:List Nq):(nilX Q).length=Q.length:=by simp [nilX]
section
variable {N:Nat} {w0:World} {iv:Value} {c b n:Nat} {m:Mil.Bytes→Option Int} {F:List Flo} {X:List (Nq×Value)} {fv qv:Value} {w w':World}
theorem Cs.eqAt (h:Cs N w0 iv c b n m F X fv qv w) {j:Nat} {x:Nq×Value} (hx:X[j]?=some x):∃g cap,qv=.slice (some ⟨g,0,none⟩) X.length cap∧w.cell? ⟨g,j*6,none⟩=some (.int .i64 ((N:Int) - (x.1.at_:Nat)))∧w.cell? ⟨g,j*6+1,none⟩=some (.string (bs x.1.nm))∧w.cell? ⟨g,j*6+2,none⟩=some (.int .i64 (x.1.ty:Nat))∧w.cell? ⟨g,j*6+3,none⟩=some (ev N x.1.body)∧w.cell? ⟨g,j*6+4,none⟩=some (.int .i64 (x.1.flow:Nat))∧w.cell? ⟨g,j*6+5,none⟩=some x.2:=by
 have hj:=(List.getElem?_eq_some_iff.1 hx).1
 have he:=h.eq
 rcases h.eq.2 with ⟨_,h'⟩ | ⟨g,cap,cur,e,_⟩
 ·omega
 ·rw [e] at he
  have at_:∀i v,i < 6→(nqC N x)[i]?=some v→w.cell? ⟨g,j*6+i,none⟩=some v:=fun i v hi hv=>own_cell he ((flat_at (nqC N) 6 (fun _=>rfl) X j i x hx hi).trans hv)
  exact ⟨g,cap,e,at_ 0 _ (by decide) rfl,at_ 1 _ (by decide) rfl,at_ 2 _ (by decide) rfl,at_ 3 _ (by decide) rfl,at_ 4 _ (by decide) rfl,at_ 5 _ (by decide) rfl⟩
end
structure Rz2 (m:Mil.Bytes→Option Int) (F:List Flo) (Q:List Nq):Prop where
 fq:Fq m F Q
 un:∀q∈Q,Mip.unres m q.body=none
 len:Q.length≤60
def SdPost (a:Nat→Addr) (w0:World) (k:Nat) (ok:Prop) (G:World→Prop) (E:Ending) (w':World):Prop:=
 Below w0.heap.size w0 w'∧((ok∧E=.returned (.pointer none)∧G w')∨(¬ok∧∃d p,E=.returned (.pointer (some ⟨d,0,none⟩))∧Dg a w' d p k))
theorem Fq.some_flow {m:Mil.Bytes→Option Int} {F:List Flo} {Q:List Nq} (h:Fq m F Q) {q:Nq} (hq:q∈Q):F≠[]:=fun e=>by
 obtain ⟨f,h1,_⟩:=h.eqf q hq
 rw [e] at h1;simp at h1
set_option maxRecDepth 100000 in
theorem checkTypes_any {N:Nat} {a:Nat→Addr} {w0:World} {iv:Value} {c b n:Nat} {m:Mil.Bytes→Option Int} {F:List Flo} {Q:List Nq} {fv qv:Value} {w:World} (h:Cs N w0 iv c b n m F (nilX Q) fv qv w) (hE:Ce a w0) (hL:Laid a w0) (hz:Rz2 m F Q) :
  Calls Tryz.prog 34 #[.pointer (some ⟨c,0,none⟩)] w (SdPost a w0 7 (∀q∈Q,Mip.tyOf m F q.body=some q.ty) (fun w'=>Cs N w0 iv c b n m F (nilX Q) fv qv w'∧Kt w w')):=by
 have HC:Hid (Cs N w0 iv c b n m F (nilX Q) fv qv w):=h
 have HE:Hid (Ce a w0):=hE
 have HL:Hid (Laid a w0):=hL
 have HZ:Hid (Rz2 m F Q):=hz
 obtain ⟨oq,cq,hqv⟩:=own_shape h.eq
 rw [nilX_len] at hqv
 have HQV:Hid (qv=.slice oq Q.length cq):=hqv
 have c3:=h.cells.2.2.2
 rw [hqv] at c3
 have hlen:=hz.len
 clear h hE hL hz hqv
 go_enter Tryz.func34,Tryz.ntmps34
 go_wp2_with fail
 go_loopg [12] Q.length (fun gk s12 wr=>∃j:Nat,j≤Q.length∧s12=.int .i64 (j:Nat)∧gk=Q.length - j∧Hid (∀(i:Nat) (q:Nq),i < j→Q[i]?=some q→Mip.tyOf m F q.body=some q.ty)∧Hid (Cs N w0 iv c b n m F (nilX Q) fv qv wr)∧Hid (Kt w wr))
 case atStart=>exact ⟨0,Nat.zero_le _,rfl,rfl,fun i q hi=>by omega,HC,Kt.refl _⟩
 case round=>
  obtain ⟨j,hj,rfl,hg,HP,KC,KT⟩:=hrel
  have HG:Hid (gk=Q.length - j):=hg
  clear hg c3
  by_cases hlt:j < Q.length
  ·have HLT:Hid (j < Q.length):=hlt
   obtain ⟨q,hq⟩:∃q,Q[j]?=some q:=⟨_,List.getElem?_eq_getElem hlt⟩
   have HQ:Hid (Q[j]?=some q):=hq
   have hmem:=List.mem_of_getElem? hq
   have HM:Hid (q∈Q):=hmem
   have hwf:=(HZ.out.fq.wf q hmem).1
   obtain ⟨gq,cap,hqv,e0,e1,e2,e3,e4,e5⟩:=KC.out.eqAt (nilX_at hq)
   rw [HQV.out] at hqv
   obtain ⟨rfl,rfl⟩:oq=some ⟨gq,0,none⟩∧cq=cap:=by injection hqv with h1 h2 h3;exact ⟨h1,h3⟩
   obtain ⟨T,y,hev⟩:=ev_iface N q.body hwf
   have HEV:Hid (ev N q.body=.iface T y):=hev
   simp only [hev] at e3
   obtain ⟨g,capF,hfv,_⟩:=KC.out.row (HZ.out.fq.some_flow hmem)
   have HFV:Hid (fv=.slice (some ⟨g,0,none⟩) F.length capF):=hfv
   have h0:(0:Int)≤(j:Int):=by omega
   have h1:(j:Int) < (Q.length:Int):=by omega
   have HTO:=typeOf_any N a c b n m g F HZ.out.fq.fit q.body hwf (HZ.out.un q hmem)
   rw [hev] at HTO
   have HTO':Hid (∀w,Cw a c b n m g F w→Laid a w→Calls Tryz.prog 58 #[.pointer (some ⟨c,0,none⟩),.iface T y] w (ToPost a (Mip.tyOf m F q.body) w)):=HTO
   have HB:Hid (Below wr.heap.size wr (wr.alloc (.cells #[.int .i64 ((N:Int) - (q.at_:Nat)),.string (bs q.nm),.int .i64 (q.ty:Nat),.iface T y,.int .i64 (q.flow:Nat),.slice none 0 0] 109))):=(Below.refl _ _).alloc (Nat.le_refl _) _
   have HXB:Hid ((wr.alloc (.cells #[.int .i64 ((N:Int) - (q.at_:Nat)),.string (bs q.nm),.int .i64 (q.ty:Nat),.iface T y,.int .i64 (q.flow:Nat),.slice none 0 0] 109)).heap[wr.heap.size]?=some (.cells #[.int .i64 ((N:Int) - (q.at_:Nat)),.string (bs q.nm),.int .i64 (q.ty:Nat),.iface T y,.int .i64 (q.flow:Nat),.slice none 0 0] 109 (0,0))):=heap_alloc_new wr _
   clear hq hmem hwf hqv hev hfv HTO
   go_wp2_with fail
   have XC:Hid (Cs N w0 iv c b n m F (nilX Q) fv qv (wr.alloc (.cells #[.int .i64 ((N:Int) - (q.at_:Nat)),.string (bs q.nm),.int .i64 (q.ty:Nat),.iface T y,.int .i64 (q.flow:Nat),.slice none 0 0] 109))):=KC.out.below HB.out
   clear e0 e1 e2 e3 e4 e5
   refine (HTO'.out _ (XC.out.cw HE.out HFV.out) (HL.out.below HE.out.size XC.out.blw)).mono ?_
   rintro E w1 ⟨hb1,(⟨t,ht,rfl⟩ | ⟨ht,d,p,rfl,hd⟩)⟩
   ·have HT:Hid (Mip.tyOf m F q.body=some t):=ht
    have HC1:Hid (Cs N w0 iv c b n m F (nilX Q) fv qv w1):=XC.out.below hb1
    have HT1:Hid (Kt w w1):=(KT.out.step HB.out).step hb1
    have HX1:Hid (w1.heap[wr.heap.size]?=some (.cells #[.int .i64 ((N:Int) - (q.at_:Nat)),.string (bs q.nm),.int .i64 (q.ty:Nat),.iface T y,.int .i64 (q.flow:Nat),.slice none 0 0] 109 (0,0))):=(hb1.block _ (lt_of_heap HXB.out)).trans HXB.out
    have x0:w1.cell? ⟨wr.heap.size,0,none⟩=some (.int .i64 ((N:Int) - (q.at_:Nat))):=(cell_of_row w1 _ 0 _ _ _ HX1.out).trans rfl
    have x2:w1.cell? ⟨wr.heap.size,2,none⟩=some (.int .i64 (q.ty:Nat)):=(cell_of_row w1 _ 2 _ _ _ HX1.out).trans rfl
    have e7:=(HE.out.below HC1.out.blw).e7
    clear ht hb1
    by_cases hty:t=q.ty
    ·have q1:((t:Int) != (q.ty:Int))=false:=by rw [bne_eq_false_iff_eq];omega
     have HTY:Hid (t=q.ty):=hty
     clear hty
     go_wp2
     go_roundg (Q.length - (j+1))
     case measure=>have:=HG.out;have:=HLT.out;omega
     case rel=>exact ⟨j+1,HLT.out,by go_num,rfl,fun i q' hi hq'=>by
      rcases Nat.lt_or_ge i j with h | h
      ·exact HP.out i q' h hq'
      ·have e:i=j:=by omega
       rw [e,HQ.out] at hq'
       rw [←Option.some.inj hq',HT.out,HTY.out],HC1,HT1⟩
    ·have q1:((t:Int) != (q.ty:Int))=true:=by rw [bne_iff_ne];omega
     have HTY:Hid (t≠q.ty):=hty
     clear hty
     go_wp2
     go_ret
     exact ⟨below_step HC1.out.blw ((Below.refl _ _).alloc (Nat.le_refl _) _),Or.inr ⟨fun hall=>HTY.out (by have e:=hall q HM.out;rw [HT.out] at e;exact Option.some.inj e),_,_,rfl,dg_new a _ _ rfl _ _⟩⟩
   ·have HN:Hid (Mip.tyOf m F q.body=none):=ht
    have HD:Hid (Dg a w1 d p 7):=hd
    have HB1:Hid (Below w0.heap.size w0 w1):=below_step XC.out.blw hb1
    clear ht hd hb1
    go_wp2
    go_ret
    exact ⟨HB1.out,Or.inr ⟨(fun hall=>by have e:=hall q HM.out;rw [HN.out] at e;cases e),d,p,rfl,HD.out⟩⟩
  ·have hle:(Q.length:Int)≤(j:Int):=by omega
   have HJ:Hid (j=Q.length):=by show _=_;omega
   go_wp2
   go_ret
   exact ⟨KC.out.blw,Or.inl ⟨fun q hq=>by
    obtain ⟨i,hi⟩:=List.getElem?_of_mem hq
    exact HP.out i q (by have:=(List.getElem?_eq_some_iff.1 hi).1;have:=HJ.out;omega) hi,rfl,KC.out,KT.out⟩⟩
end
section
open Go.RowKit
theorem Rz2.alike {m:Mil.Bytes→Option Int} {F G:List Flo} {Q:List Nq} (h:Rz2 m F Q) (k:Alike F G) (hle:∀f∈G,f.per≤1000000):Rz2 m G Q:=⟨h.fq.alike k hle,h.un,h.len⟩
theorem setPer_le {F:List Flo} {i p:Nat} (h:∀f∈F,f.per≤1000000) (hp:p≤1000000):∀f∈setPer F i p,f.per≤1000000:=fun f hf=>by
 obtain ⟨j,hj⟩:=List.getElem?_of_mem hf
 obtain ⟨f0,e0,rfl⟩:=setPer_at hj
 split
 ·exact hp
 ·exact h f0 (List.mem_of_getElem? e0)
def OnPost (w0:World) (v:Bool) (G:World→Prop) (E:Ending) (w':World):Prop:=Below w0.heap.size w0 w'∧E=.returned (.bool v)∧G w'
set_option maxRecDepth 100000 in
theorem once_any {N:Nat} {a:Nat→Addr} {w0:World} {iv:Value} {c b n:Nat} {m:Mil.Bytes→Option Int} {F:List Flo} {Q:List Nq} {fv qv:Value} {w:World} (h:Cs N w0 iv c b n m F (nilX Q) fv qv w) (hE:Ce a w0) (hz:Rz2 m F Q) :
  Calls Tryz.prog 59 #[.pointer (some ⟨c,0,none⟩)] w (OnPost w0 (once m Q F false).2 (fun w'=>Cs N w0 iv c b n m (once m Q F false).1 (nilX Q) fv qv w'∧Kt w w')):=by
 have HC:Hid (Cs N w0 iv c b n m F (nilX Q) fv qv w):=h
 have HE:Hid (Ce a w0):=hE
 have HZ:Hid (Rz2 m F Q):=hz
 obtain ⟨oq,cq,hqv⟩:=own_shape h.eq
 rw [nilX_len] at hqv
 have HQV:Hid (qv=.slice oq Q.length cq):=hqv
 have c3:=h.cells.2.2.2
 rw [hqv] at c3
 have hlen:=hz.len
 clear h hE hz hqv
 go_enter Tryz.func59,Tryz.ntmps59
 go_wp2_with fail
 go_loopg [3,12] Q.length (fun gk s3 s12 wr=>∃(j:Nat) (more:Bool) (Fj:List Flo),j≤Q.length∧s3=.bool more∧s12=.int .i64 (j:Nat)∧gk=Q.length - j∧Hid (once m Q F false=once m (Q.drop j) Fj more)∧Hid (Cs N w0 iv c b n m Fj (nilX Q) fv qv wr)∧Hid (Rz2 m Fj Q)∧Hid (Kt w wr))
 case atStart=>exact ⟨0,false,F,Nat.zero_le _,rfl,rfl,rfl,rfl,HC,HZ,Kt.refl _⟩
 case round=>
  obtain ⟨j,more,Fj,hj,rfl,rfl,hg,HR,KC,KZ,KT⟩:=hrel
  have HG:Hid (gk=Q.length - j):=hg
  clear hg c3
  by_cases hlt:j < Q.length
  ·have HLT:Hid (j < Q.length):=hlt
   obtain ⟨q,hq⟩:∃q,Q[j]?=some q:=⟨_,List.getElem?_eq_getElem hlt⟩
   have hmem:=List.mem_of_getElem? hq
   have hwf:=(KZ.out.fq.wf q hmem).1
   have HOD:Hid (once m Q F false=if perAt Fj q.flow=0 then once m (Q.drop (j+1)) (setPer Fj q.flow (Mip.perOf m Fj q.body)) (more || Mip.perOf m Fj q.body != 0) else once m (Q.drop (j+1)) Fj more):=HR.out.trans (once_drop m hq)
   obtain ⟨gq,cap,hqv,e0,e1,e2,e3,e4,e5⟩:=KC.out.eqAt (nilX_at hq)
   rw [HQV.out] at hqv
   obtain ⟨rfl,rfl⟩:oq=some ⟨gq,0,none⟩∧cq=cap:=by injection hqv with h1 h2 h3;exact ⟨h1,h3⟩
   obtain ⟨T,y,hev⟩:=ev_iface N q.body hwf
   simp only [hev] at e3
   obtain ⟨g,capF,hfv,_⟩:=KC.out.row (KZ.out.fq.some_flow hmem)
   have HFV:Hid (fv=.slice (some ⟨g,0,none⟩) Fj.length capF):=hfv
   have h0:(0:Int)≤(j:Int):=by omega
   have h1:(j:Int) < (Q.length:Int):=by omega
   have HPO:=periodOf_any N a c b n m g Fj KZ.out.fq.fit KZ.out.fq.per q.body hwf (KZ.out.un q hmem)
   rw [hev] at HPO
   have HPO':Hid (∀w,Cw a c b n m g Fj w→Calls Tryz.prog 61 #[.pointer (some ⟨c,0,none⟩),.iface T y] w (Pp (Mip.perOf m Fj q.body) w)):=HPO
   have HPL:Hid (Mip.perOf m Fj q.body≤1000000):=Mip.perOf_le m Fj KZ.out.fq.per q.body
   obtain ⟨f,hf,_⟩:=KZ.out.fq.eqf q hmem
   have HF:Hid (Fj[q.flow]?=some f):=hf
   have hfl:=(List.getElem?_eq_some_iff.1 hf).1
   have HFL:Hid (q.flow < Fj.length):=hfl
   have f0:(0:Int)≤(q.flow:Int):=by omega
   have f1:(q.flow:Int) < (Fj.length:Int):=by omega
   have HB:Hid (Below wr.heap.size wr (wr.alloc (.cells #[.int .i64 ((N:Int) - (q.at_:Nat)),.string (bs q.nm),.int .i64 (q.ty:Nat),.iface T y,.int .i64 (q.flow:Nat),.slice none 0 0] 109))):=(Below.refl _ _).alloc (Nat.le_refl _) _
   have HXB:Hid ((wr.alloc (.cells #[.int .i64 ((N:Int) - (q.at_:Nat)),.string (bs q.nm),.int .i64 (q.ty:Nat),.iface T y,.int .i64 (q.flow:Nat),.slice none 0 0] 109)).heap[wr.heap.size]?=some (.cells #[.int .i64 ((N:Int) - (q.at_:Nat)),.string (bs q.nm),.int .i64 (q.ty:Nat),.iface T y,.int .i64 (q.flow:Nat),.slice none 0 0] 109 (0,0))):=heap_alloc_new wr _
   clear hq hmem hwf hqv hev hfv HPO hf hfl HR
   go_wp2_with fail
   have XC:Hid (Cs N w0 iv c b n m Fj (nilX Q) fv qv (wr.alloc (.cells #[.int .i64 ((N:Int) - (q.at_:Nat)),.string (bs q.nm),.int .i64 (q.ty:Nat),.iface T y,.int .i64 (q.flow:Nat),.slice none 0 0] 109))):=KC.out.below HB.out
   have KTV:Hid (Kt w (wr.alloc (.cells #[.int .i64 ((N:Int) - (q.at_:Nat)),.string (bs q.nm),.int .i64 (q.ty:Nat),.iface T y,.int .i64 (q.flow:Nat),.slice none 0 0] 109))):=KT.out.step HB.out
   clear e0 e1 e2 e3 e4 e5 HB
   generalize wr.alloc (.cells #[.int .i64 ((N:Int) - (q.at_:Nat)),.string (bs q.nm),.int .i64 (q.ty:Nat),.iface T y,.int .i64 (q.flow:Nat),.slice none 0 0] 109)=V at XC HXB KTV ⊢
   generalize wr.heap.size=ib at HXB ⊢
   have d1:=XC.out.cells.2.1
   rw [HFV.out] at d1
   have x4:V.cell? ⟨ib,4,none⟩=some (.int .i64 (q.flow:Nat)):=(cell_of_row V _ 4 _ _ _ HXB.out).trans rfl
   go_quiet (fail)
   have YC:Hid (Cs N w0 iv c b n m Fj (nilX Q) fv qv (V.drewN nq)):=XC.out.below (below_drewN (Below.refl _ _) _)
   have YX:Hid ((V.drewN nq).heap[ib]?=some (.cells #[.int .i64 ((N:Int) - (q.at_:Nat)),.string (bs q.nm),.int .i64 (q.ty:Nat),.iface T y,.int .i64 (q.flow:Nat),.slice none 0 0] 109 (0,0))):=HXB.out
   have YT:Hid (Kt w (V.drewN nq)):=KTV.out.step (below_drewN (Below.refl _ _) _)
   clear d1 x4 XC HXB
   generalize V.drewN nq=U at YC YX YT ⊢
   have p2:=(YC.out.fls HFV.out q.flow f HF.out).2.2.1
   have x3:U.cell? ⟨ib,3,none⟩=some (.iface T y):=(cell_of_row U _ 3 _ _ _ YX.out).trans rfl
   by_cases hp0:f.per=0
   ·have q1:((f.per:Int) != 0)=false:=by rw [bne_eq_false_iff_eq];omega
    have HP0:Hid (perAt Fj q.flow=0):=by show _=_;rw [perAt_of HF.out];exact hp0
    clear hp0
    go_wp2_with fail
    refine (HPO'.out _ (YC.out.cw HE.out HFV.out)).mono ?_
    rintro E w1 ⟨hb1,rfl⟩
    have ZC:Hid (Cs N w0 iv c b n m Fj (nilX Q) fv qv w1):=YC.out.below hb1
    generalize hpp:Mip.perOf m Fj q.body=pp at HOD HPL
    have z2:=(ZC.out.fls HFV.out q.flow f HF.out).2.2.1
    have zz:=ZC.out.thawF HFV.out (q.flow*5+2)
    have SC:Hid (Cs N w0 iv c b n m (setPer Fj q.flow pp) (nilX Q) fv qv (w1.setCell ⟨g,q.flow*5+2,none⟩ (.int .i64 (pp:Nat)))):=ZC.out.setF HFV.out (fun f=>{ f with per:=pp }) 2 (.int .i64 (pp:Nat)) (by decide) (fun _=>rfl) HFL.out
    have s2:(w1.setCell ⟨g,q.flow*5+2,none⟩ (.int .i64 (pp:Nat))).cell? ⟨g,q.flow*5+2,none⟩=some (.int .i64 (pp:Nat)):=World.cell?_setCell_same _ _ _ z2
    have ST:Hid (Kt w (w1.setCell ⟨g,q.flow*5+2,none⟩ (.int .i64 (pp:Nat)))):=by
     have hr:=ZC.out.fl
     rw [HFV.out] at hr
     exact (YT.out.step hb1).one (fr_set w1 g (q.flow*5+2) _) (own_lt hr g rfl).2.choose_spec (by decide)
    have SZ:Hid (Rz2 m (setPer Fj q.flow pp) Q):=KZ.out.alike (alike_set HP0.out) (setPer_le KZ.out.fq.per HPL.out)
    have HR2:Hid (once m Q F false=once m (Q.drop (j+1)) (setPer Fj q.flow pp) (more || pp != 0)):=by have h:=HOD.out;rw [if_pos HP0.out] at h;exact h
    clear hb1 hpp p2 x3 HOD
    cases more
    ·by_cases hpz:pp=0
     ·have q3:((pp:Int) != 0)=false:=by rw [bne_eq_false_iff_eq];omega
      have HM2:Hid ((false || pp != 0)=false):=by show _=_;simp [hpz]
      clear hpz
      go_wp2
      go_roundg (Q.length - (j+1))
      case measure=>have:=HG.out;have:=HLT.out;omega
      case rel=>exact ⟨j+1,false,setPer Fj q.flow pp,HLT.out,rfl,by go_num,rfl,by have h:=HR2.out;rw [HM2.out] at h;exact h,SC,SZ,ST⟩
     ·have q3:((pp:Int) != 0)=true:=by rw [bne_iff_ne];omega
      have HM2:Hid ((false || pp != 0)=true):=by show _=_;simp [hpz]
      clear hpz
      go_wp2
      go_roundg (Q.length - (j+1))
      case measure=>have:=HG.out;have:=HLT.out;omega
      case rel=>exact ⟨j+1,true,setPer Fj q.flow pp,HLT.out,rfl,by go_num,rfl,by have h:=HR2.out;rw [HM2.out] at h;exact h,SC,SZ,ST⟩
    ·go_wp2
     go_roundg (Q.length - (j+1))
     case measure=>have:=HG.out;have:=HLT.out;omega
     case rel=>exact ⟨j+1,true,setPer Fj q.flow pp,HLT.out,rfl,by go_num,rfl,HR2,SC,SZ,ST⟩
   ·have q1:((f.per:Int) != 0)=true:=by rw [bne_iff_ne];omega
    have HR2:Hid (once m Q F false=once m (Q.drop (j+1)) Fj more):=by have h:=HOD.out;rw [if_neg (by rw [perAt_of HF.out];exact hp0)] at h;exact h
    clear hp0 x3
    go_wp2
    go_roundg (Q.length - (j+1))
    case measure=>have:=HG.out;have:=HLT.out;omega
    case rel=>exact ⟨j+1,more,Fj,HLT.out,rfl,by go_num,rfl,HR2,YC,KZ,YT⟩
  ·have hle:(Q.length:Int)≤(j:Int):=by omega
   have HJ:Hid (j=Q.length):=by show _=_;omega
   go_wp2
   go_ret
   have e1:once m Q F false=(Fj,more):=by rw [HR.out,HJ.out,List.drop_length];rfl
   exact ⟨KC.out.blw,by rw [e1];rfl,by rw [e1];exact ⟨KC.out,KT.out⟩⟩
def freeAt (F:List Flo) (Q:List Nq):Option Nat:=(Q.find? fun q=>perAt F q.flow==0).map Nq.at_
theorem freeAt_some {F:List Flo}:∀{Q:List Nq} {j:Nat} {q:Nq},Q[j]?=some q→perAt F q.flow=0→(∀(i:Nat) (q':Nq),i < j→Q[i]?=some q'→perAt F q'.flow≠0)→freeAt F Q=some q.at_
 | [],_,_,h,_,_=>by simp at h
 | x::r,0,q,h,k,_=>by
  have e:x=q:=by simpa using h
  subst e
  simp [freeAt,k]
 | x::r,j+1,q,h,k,l=>by
  have hx:=l 0 x (Nat.succ_pos _) rfl
  have ih:=freeAt_some (Q:=r) (j:=j) (by simpa using h) k (fun i q' hi hq=>l (i+1) q' (Nat.succ_lt_succ hi) (by simpa using hq))
  unfold freeAt at ih ⊢
  rw [List.find?_cons_of_neg (by simpa using hx)]
  exact ih
theorem freeAt_none {F:List Flo} {Q:List Nq} (h:∀q∈Q,perAt F q.flow≠0):freeAt F Q=none:=by
 unfold freeAt
 rw [List.find?_eq_none.2 (fun q hq=>by simpa using h q hq)];rfl
theorem freeAt_each {F:List Flo} {Q:List Nq} (h:freeAt F Q=none):∀q∈Q,perAt F q.flow≠0:=fun q hq=>by
 unfold freeAt at h
 have:=List.find?_eq_none.1 (Option.map_eq_none_iff.1 h) q hq
 simpa using this
set_option maxRecDepth 100000 in
theorem findPeriods_any {N:Nat} {a:Nat→Addr} {w0:World} {iv:Value} {c b n:Nat} {m:Mil.Bytes→Option Int} {F:List Flo} {Q:List Nq} {fv qv:Value} {w:World} (h:Cs N w0 iv c b n m F (nilX Q) fv qv w) (hE:Ce a w0) (hz:Rz2 m F Q) :
  Calls Tryz.prog 35 #[.pointer (some ⟨c,0,none⟩)] w (ScPost N a w0 9 (freeAt (rnds m Q 61 F) Q) (fun w'=>Cs N w0 iv c b n m (rnds m Q 61 F) (nilX Q) fv qv w'∧Kt w w')):=by
 have HC:Hid (Cs N w0 iv c b n m F (nilX Q) fv qv w):=h
 have HE:Hid (Ce a w0):=hE
 have HZ:Hid (Rz2 m F Q):=hz
 obtain ⟨oq,cq,hqv⟩:=own_shape h.eq
 rw [nilX_len] at hqv
 have HQV:Hid (qv=.slice oq Q.length cq):=hqv
 have hlen:=hz.len
 have HO:Hid (opn Q F < 61):=by
  have h1:opn Q F≤Q.length:=List.length_filter_le _ _
  show _ < _
  omega
 clear h hE hz hqv
 go_enter Tryz.func35,Tryz.ntmps35
 go_wp2_with fail
 go_loopg [6] (opn Q F) (fun gk _ wr=>∃(k:Nat) (Fk:List Flo),gk=opn Q Fk∧Hid (opn Q Fk < k∧rnds m Q 61 F=rnds m Q k Fk)∧Hid (Cs N w0 iv c b n m Fk (nilX Q) fv qv wr)∧Hid (Rz2 m Fk Q)∧Hid (Kt w wr))
 case atStart=>exact ⟨61,F,rfl,⟨HO.out,rfl⟩,HC,HZ,Kt.refl _⟩
 case round=>
  obtain ⟨k,Fk,hg,HK,KC,KZ,KT⟩:=hrel
  have HG:Hid (gk=opn Q Fk):=hg
  clear hg
  go_wp2_with fail
  refine (once_any KC.out HE.out KZ.out).mono ?_
  rintro E w1 ⟨hb1,rfl,hC1,hT1⟩
  have HT1:Hid (Kt w w1):=KT.out.trans hT1
  have HC1:Hid (Cs N w0 iv c b n m (once m Q Fk false).1 (nilX Q) fv qv w1):=hC1
  have HZ1:Hid (Rz2 m (once m Q Fk false).1 Q):=KZ.out.alike (once_alike m Q Fk false) (once_le m Q Fk false KZ.out.fq.per)
  have HQF:Hid (∀q∈Q,q.flow < Fk.length):=fun q hq=>by
   obtain ⟨f,hf,_⟩:=KZ.out.fq.eqf q hq
   exact (List.getElem?_eq_some_iff.1 hf).1
  obtain ⟨k',hk'⟩:∃k',k=k'+1:=⟨k - 1,by have:=HK.out.1;omega⟩
  have HKK:Hid (k=k'+1):=hk'
  clear hb1 hC1 hk' hT1
  cases hmo:(once m Q Fk false).2 with
  | true=>
   have HMO:Hid ((once m Q Fk false).2=true):=hmo
   clear hmo
   go_wp2
   go_roundg (opn Q (once m Q Fk false).1)
   case measure=>have:=opn_less m Q Fk HQF.out HMO.out;have:=HG.out;omega
   case rel=>
    have h:rnds m Q 61 F=rnds m Q (k'+1) Fk:=by rw [←HKK.out];exact HK.out.2
    have h2:rnds m Q 61 F=rnds m Q k' (once m Q Fk false).1:=h.trans (show (if (once m Q Fk false).2 then rnds m Q k' (once m Q Fk false).1 else (once m Q Fk false).1)=_ from if_pos HMO.out)
    exact ⟨k',(once m Q Fk false).1,rfl,⟨by have:=opn_less m Q Fk HQF.out HMO.out;have:=HK.out.1;have:=HKK.out;omega,h2⟩,HC1,HZ1,HT1⟩
  | false=>
   have HFF:Hid (rnds m Q 61 F=(once m Q Fk false).1):=by
    have h:rnds m Q 61 F=rnds m Q (k'+1) Fk:=by rw [←HKK.out];exact HK.out.2
    exact h.trans (show (if (once m Q Fk false).2 then rnds m Q k' (once m Q Fk false).1 else (once m Q Fk false).1)=_ from if_neg (by rw [hmo];decide))
   clear hmo
   generalize (once m Q Fk false).1=G at HC1 HZ1 HFF
   have c3:=HC1.out.cells.2.2.2
   rw [HQV.out] at c3
   go_wp2_with fail
   clear KC KZ HK HQF HC HZ HO KT
   go_loopg [12] Q.length (fun gk s12 wr=>∃j:Nat,j≤Q.length∧s12=.int .i64 (j:Nat)∧gk=Q.length - j∧Hid (∀(i:Nat) (q:Nq),i < j→Q[i]?=some q→perAt G q.flow≠0)∧Hid (Cs N w0 iv c b n m G (nilX Q) fv qv wr)∧Hid (Kt w wr))
   case atStart=>exact ⟨0,Nat.zero_le _,rfl,rfl,fun i q hi=>by omega,HC1,HT1⟩
   case round=>
    obtain ⟨j,hj,rfl,hg,HP,KC,KT⟩:=hrel
    have HG2:Hid (gk=Q.length - j):=hg
    clear hg c3
    by_cases hlt:j < Q.length
    ·have HLT:Hid (j < Q.length):=hlt
     obtain ⟨q,hq⟩:∃q,Q[j]?=some q:=⟨_,List.getElem?_eq_getElem hlt⟩
     have HQ:Hid (Q[j]?=some q):=hq
     have hmem:=List.mem_of_getElem? hq
     have hwf:=(HZ1.out.fq.wf q hmem).1
     obtain ⟨gq,cap,hqv,e0,e1,e2,e3,e4,e5⟩:=KC.out.eqAt (nilX_at hq)
     rw [HQV.out] at hqv
     obtain ⟨rfl,rfl⟩:oq=some ⟨gq,0,none⟩∧cq=cap:=by injection hqv with h1 h2 h3;exact ⟨h1,h3⟩
     obtain ⟨T,y,hev⟩:=ev_iface N q.body hwf
     simp only [hev] at e3
     obtain ⟨g,capF,hfv,_⟩:=KC.out.row (HZ1.out.fq.some_flow hmem)
     have HFV:Hid (fv=.slice (some ⟨g,0,none⟩) G.length capF):=hfv
     have h0:(0:Int)≤(j:Int):=by omega
     have h1:(j:Int) < (Q.length:Int):=by omega
     obtain ⟨f,hf,_⟩:=HZ1.out.fq.eqf q hmem
     have HF:Hid (G[q.flow]?=some f):=hf
     have hfl:=(List.getElem?_eq_some_iff.1 hf).1
     have f0:(0:Int)≤(q.flow:Int):=by omega
     have f1:(q.flow:Int) < (G.length:Int):=by omega
     have HB:Hid (Below wr.heap.size wr (wr.alloc (.cells #[.int .i64 ((N:Int) - (q.at_:Nat)),.string (bs q.nm),.int .i64 (q.ty:Nat),.iface T y,.int .i64 (q.flow:Nat),.slice none 0 0] 109))):=(Below.refl _ _).alloc (Nat.le_refl _) _
     have HXB:Hid ((wr.alloc (.cells #[.int .i64 ((N:Int) - (q.at_:Nat)),.string (bs q.nm),.int .i64 (q.ty:Nat),.iface T y,.int .i64 (q.flow:Nat),.slice none 0 0] 109)).heap[wr.heap.size]?=some (.cells #[.int .i64 ((N:Int) - (q.at_:Nat)),.string (bs q.nm),.int .i64 (q.ty:Nat),.iface T y,.int .i64 (q.flow:Nat),.slice none 0 0] 109 (0,0))):=heap_alloc_new wr _
     clear hq hmem hwf hqv hev hfv hf hfl
     go_wp2_with fail
     have XC:Hid (Cs N w0 iv c b n m G (nilX Q) fv qv (wr.alloc (.cells #[.int .i64 ((N:Int) - (q.at_:Nat)),.string (bs q.nm),.int .i64 (q.ty:Nat),.iface T y,.int .i64 (q.flow:Nat),.slice none 0 0] 109))):=KC.out.below HB.out
     have KTV:Hid (Kt w (wr.alloc (.cells #[.int .i64 ((N:Int) - (q.at_:Nat)),.string (bs q.nm),.int .i64 (q.ty:Nat),.iface T y,.int .i64 (q.flow:Nat),.slice none 0 0] 109))):=KT.out.step HB.out
     clear e0 e1 e2 e3 e4 e5 HB
     generalize wr.alloc (.cells #[.int .i64 ((N:Int) - (q.at_:Nat)),.string (bs q.nm),.int .i64 (q.ty:Nat),.iface T y,.int .i64 (q.flow:Nat),.slice none 0 0] 109)=V at XC HXB KTV ⊢
     generalize wr.heap.size=ib at HXB ⊢
     have d1:=XC.out.cells.2.1
     rw [HFV.out] at d1
     have x4:V.cell? ⟨ib,4,none⟩=some (.int .i64 (q.flow:Nat)):=(cell_of_row V _ 4 _ _ _ HXB.out).trans rfl
     have p2:=(XC.out.fls HFV.out q.flow f HF.out).2.2.1
     by_cases hp0:f.per=0
     ·have q1:((f.per:Int)==0)=true:=by rw [beq_iff_eq];omega
      have HP0:Hid (freeAt G Q=some q.at_):=freeAt_some HQ.out (by rw [perAt_of HF.out];exact hp0) HP.out
      clear hp0
      go_quiet (fail)
      all_goals
       have YC:Hid (Cs N w0 iv c b n m G (nilX Q) fv qv (V.drewN nq)):=XC.out.below (below_drewN (Below.refl _ _) _)
       have YX:Hid ((V.drewN nq).heap[ib]?=some (.cells #[.int .i64 ((N:Int) - (q.at_:Nat)),.string (bs q.nm),.int .i64 (q.ty:Nat),.iface T y,.int .i64 (q.flow:Nat),.slice none 0 0] 109 (0,0))):=HXB.out
       clear d1 x4 p2 XC HXB
       generalize V.drewN nq=U at YC YX ⊢
       have x0:U.cell? ⟨ib,0,none⟩=some (.int .i64 ((N:Int) - (q.at_:Nat))):=(cell_of_row U _ 0 _ _ _ YX.out).trans rfl
       have e9:=(HE.out.below YC.out.blw).e9
       go_wp2
       go_ret
       exact ⟨below_step YC.out.blw ((Below.refl _ _).alloc (Nat.le_refl _) _),Or.inr ⟨q.at_,_,by rw [HFF.out];exact HP0.out,rfl,dg_new a _ _ rfl _ _⟩⟩
     ·have q1:((f.per:Int)==0)=false:=by rw [beq_eq_false_iff_ne];omega
      have HP0:Hid (perAt G q.flow≠0):=by show _≠_;rw [perAt_of HF.out];exact hp0
      clear hp0
      go_quiet (fail)
      all_goals
       have YC:Hid (Cs N w0 iv c b n m G (nilX Q) fv qv (V.drewN nq)):=XC.out.below (below_drewN (Below.refl _ _) _)
       have YT:Hid (Kt w (V.drewN nq)):=KTV.out.step (below_drewN (Below.refl _ _) _)
       clear d1 x4 p2 XC HXB
       generalize V.drewN nq=U at YC YT ⊢
       go_wp2
       go_roundg (Q.length - (j+1))
      case measure=>have:=HG2.out;have:=HLT.out;omega
      case rel=>exact ⟨j+1,HLT.out,by go_num,rfl,fun i q' hi hq'=>by
       rcases Nat.lt_or_ge i j with h | h
       ·exact HP.out i q' h hq'
       ·have e:i=j:=by omega
        rw [e,HQ.out] at hq'
        rw [←Option.some.inj hq']
        exact HP0.out,YC,YT⟩
    ·have hle:(Q.length:Int)≤(j:Int):=by omega
     have HJ:Hid (j=Q.length):=by show _=_;omega
     go_wp2
     go_ret
     have e1:freeAt G Q=none:=freeAt_none (fun q hq=>by
      obtain ⟨i,hi⟩:=List.getElem?_of_mem hq
      exact HP.out i q (by have:=(List.getElem?_eq_some_iff.1 hi).1;have:=HJ.out;omega) hi)
     exact ⟨KC.out.blw,Or.inl ⟨by rw [HFF.out];exact e1,rfl,by rw [HFF.out];exact ⟨KC.out,KT.out⟩⟩⟩
end
section
open Go.RowKit
def PerOk (m:Mil.Bytes→Option Int) (F:List Flo) (Q:List Nq):Prop:=∀q∈Q,Mip.pfault m F q.body=none∧Mip.perOf m F q.body=perAt F q.flow
set_option maxRecDepth 100000 in
theorem checkPeriods_any {N:Nat} {a:Nat→Addr} {w0:World} {iv:Value} {c b n:Nat} {m:Mil.Bytes→Option Int} {F:List Flo} {Q:List Nq} {fv qv:Value} {w:World} (h:Cs N w0 iv c b n m F (nilX Q) fv qv w) (hE:Ce a w0) (hz:Rz2 m F Q) :
  Calls Tryz.prog 36 #[.pointer (some ⟨c,0,none⟩)] w (SdPost a w0 8 (PerOk m F Q) (fun w'=>Cs N w0 iv c b n m F (nilX Q) fv qv w'∧Kt w w')):=by
 have HC:Hid (Cs N w0 iv c b n m F (nilX Q) fv qv w):=h
 have HE:Hid (Ce a w0):=hE
 have HZ:Hid (Rz2 m F Q):=hz
 obtain ⟨oq,cq,hqv⟩:=own_shape h.eq
 rw [nilX_len] at hqv
 have HQV:Hid (qv=.slice oq Q.length cq):=hqv
 have c3:=h.cells.2.2.2
 rw [hqv] at c3
 have hlen:=hz.len
 clear h hE hz hqv
 go_enter Tryz.func36,Tryz.ntmps36
 go_wp2_with fail
 go_loopg [11] Q.length (fun gk s11 wr=>∃j:Nat,j≤Q.length∧s11=.int .i64 (j:Nat)∧gk=Q.length - j∧Hid (∀(i:Nat) (q:Nq),i < j→Q[i]?=some q→Mip.pfault m F q.body=none∧Mip.perOf m F q.body=perAt F q.flow)∧Hid (Cs N w0 iv c b n m F (nilX Q) fv qv wr)∧Hid (Kt w wr))
 case atStart=>exact ⟨0,Nat.zero_le _,rfl,rfl,fun i q hi=>by omega,HC,Kt.refl _⟩
 case round=>
  obtain ⟨j,hj,rfl,hg,HP,KC,KT⟩:=hrel
  have HG:Hid (gk=Q.length - j):=hg
  clear hg c3
  by_cases hlt:j < Q.length
  ·have HLT:Hid (j < Q.length):=hlt
   obtain ⟨q,hq⟩:∃q,Q[j]?=some q:=⟨_,List.getElem?_eq_getElem hlt⟩
   have HQ:Hid (Q[j]?=some q):=hq
   have hmem:=List.mem_of_getElem? hq
   have HM:Hid (q∈Q):=hmem
   have hwf:=(HZ.out.fq.wf q hmem).1
   obtain ⟨gq,cap,hqv,e0,e1,e2,e3,e4,e5⟩:=KC.out.eqAt (nilX_at hq)
   rw [HQV.out] at hqv
   obtain ⟨rfl,rfl⟩:oq=some ⟨gq,0,none⟩∧cq=cap:=by injection hqv with h1 h2 h3;exact ⟨h1,h3⟩
   obtain ⟨T,y,hev⟩:=ev_iface N q.body hwf
   simp only [hev] at e3
   obtain ⟨g,capF,hfv,_⟩:=KC.out.row (HZ.out.fq.some_flow hmem)
   have HFV:Hid (fv=.slice (some ⟨g,0,none⟩) F.length capF):=hfv
   have h0:(0:Int)≤(j:Int):=by omega
   have h1:(j:Int) < (Q.length:Int):=by omega
   have HPO:=periodOf_any N a c b n m g F HZ.out.fq.fit HZ.out.fq.per q.body hwf (HZ.out.un q hmem)
   have HPF:=periodFault_any N a c b n m g F HZ.out.fq.fit HZ.out.fq.per q.body hwf (HZ.out.un q hmem)
   rw [hev] at HPO HPF
   have HPO':Hid (∀w,Cw a c b n m g F w→Calls Tryz.prog 61 #[.pointer (some ⟨c,0,none⟩),.iface T y] w (Pp (Mip.perOf m F q.body) w)):=HPO
   have HPF':Hid (∀w,Cw a c b n m g F w→Calls Tryz.prog 60 #[.pointer (some ⟨c,0,none⟩),.iface T y] w (Rk N a 8 (Mip.pfault m F q.body) w)):=HPF
   obtain ⟨f,hf,_⟩:=HZ.out.fq.eqf q hmem
   have HF:Hid (F[q.flow]?=some f):=hf
   have hfl:=(List.getElem?_eq_some_iff.1 hf).1
   have f0:(0:Int)≤(q.flow:Int):=by omega
   have f1:(q.flow:Int) < (F.length:Int):=by omega
   have HB:Hid (Below wr.heap.size wr (wr.alloc (.cells #[.int .i64 ((N:Int) - (q.at_:Nat)),.string (bs q.nm),.int .i64 (q.ty:Nat),.iface T y,.int .i64 (q.flow:Nat),.slice none 0 0] 109))):=(Below.refl _ _).alloc (Nat.le_refl _) _
   have HXB:Hid ((wr.alloc (.cells #[.int .i64 ((N:Int) - (q.at_:Nat)),.string (bs q.nm),.int .i64 (q.ty:Nat),.iface T y,.int .i64 (q.flow:Nat),.slice none 0 0] 109)).heap[wr.heap.size]?=some (.cells #[.int .i64 ((N:Int) - (q.at_:Nat)),.string (bs q.nm),.int .i64 (q.ty:Nat),.iface T y,.int .i64 (q.flow:Nat),.slice none 0 0] 109 (0,0))):=heap_alloc_new wr _
   clear hq hmem hwf hqv hev hfv HPO HPF hf hfl
   go_wp2_with fail
   have XC:Hid (Cs N w0 iv c b n m F (nilX Q) fv qv (wr.alloc (.cells #[.int .i64 ((N:Int) - (q.at_:Nat)),.string (bs q.nm),.int .i64 (q.ty:Nat),.iface T y,.int .i64 (q.flow:Nat),.slice none 0 0] 109))):=KC.out.below HB.out
   have KTV:Hid (Kt w (wr.alloc (.cells #[.int .i64 ((N:Int) - (q.at_:Nat)),.string (bs q.nm),.int .i64 (q.ty:Nat),.iface T y,.int .i64 (q.flow:Nat),.slice none 0 0] 109))):=KT.out.step HB.out
   clear e0 e1 e2 e3 e4 e5 HB
   generalize wr.alloc (.cells #[.int .i64 ((N:Int) - (q.at_:Nat)),.string (bs q.nm),.int .i64 (q.ty:Nat),.iface T y,.int .i64 (q.flow:Nat),.slice none 0 0] 109)=V at XC HXB KTV ⊢
   generalize wr.heap.size=ib at HXB ⊢
   refine (HPF'.out _ (XC.out.cw HE.out HFV.out)).mono ?_
   rintro E W ⟨hb1,(⟨hn,rfl⟩ | ⟨p,d,hn,rfl,hd⟩)⟩
   ·have HN:Hid (Mip.pfault m F q.body=none):=hn
    have WC:Hid (Cs N w0 iv c b n m F (nilX Q) fv qv W):=XC.out.below hb1
    have WX:Hid (W.heap[ib]?=some (.cells #[.int .i64 ((N:Int) - (q.at_:Nat)),.string (bs q.nm),.int .i64 (q.ty:Nat),.iface T y,.int .i64 (q.flow:Nat),.slice none 0 0] 109 (0,0))):=(hb1.block _ (lt_of_heap HXB.out)).trans HXB.out
    have WTT:Hid (Kt w W):=KTV.out.step hb1
    clear hn hb1 XC HXB
    have up:∀{q:Addr} {v:Value},W.cell? q=some v→∀w',Below W.heap.size W w'→w'.cell? q=some v:=fun hq w' hb=>(hb.cell (lt_of_cell hq)).trans hq
    have y3:W.cell? ⟨ib,3,none⟩=some (.iface T y):=(cell_of_row W _ 3 _ _ _ WX.out).trans rfl
    have y4:W.cell? ⟨ib,4,none⟩=some (.int .i64 (q.flow:Nat)):=(cell_of_row W _ 4 _ _ _ WX.out).trans rfl
    have y1:=WC.out.cells.2.1
    rw [HFV.out] at y1
    have k3:=up y3
    have k4:=up y4
    have k1:=up y1
    have kp:=up (WC.out.fls HFV.out q.flow f HF.out).2.2.1
    have HPA:Hid (perAt F q.flow=f.per):=perAt_of HF.out
    clear up y3 y4 y1
    go_wp2_with fail
    generalize hpp:Mip.perOf m F q.body=pp at HPO'
    have HPP:Hid (Mip.perOf m F q.body=pp):=hpp
    clear hpp
    by_cases he:pp=f.per
    ·have q1:((pp:Int) != (f.per:Int))=false:=by rw [bne_eq_false_iff_eq];omega
     have HEQ:Hid (pp=f.per):=he
     clear he
     go_region_held3 (fun w'=>Below W.heap.size W w') (first | assumption | exact (Below.refl _ _).drew) (first
      | (go_at_call 61;(with_reducible refine (HPO'.out _ ?_).mono ?_);exact (WC.out.below (by assumption)).cw HE.out HFV.out;rintro e w4 ⟨hbw4,rfl⟩;have hBw4:Below W.heap.size W w4:=below_step (by assumption) hbw4))
     all_goals go_wp2
     all_goals go_roundg (Q.length - (j+1))
     case measure=>have:=HG.out;have:=HLT.out;omega
     case rel=>exact ⟨j+1,HLT.out,by go_num,rfl,fun i q' hi hq'=>by
      rcases Nat.lt_or_ge i j with h | h
      ·exact HP.out i q' h hq'
      ·have e:i=j:=by omega
       rw [e,HQ.out] at hq'
       rw [←Option.some.inj hq',HPP.out,HPA.out,HEQ.out]
       exact ⟨HN.out,rfl⟩,WC.out.below (by assumption),WTT.out.step (by assumption)⟩
    ·have q1:((pp:Int) != (f.per:Int))=true:=by rw [bne_iff_ne];omega
     have HEQ:Hid (pp≠f.per):=he
     clear he
     go_region_held3 (fun w'=>Below W.heap.size W w') (first | assumption | exact (Below.refl _ _).drew) (first
      | (go_at_call 61;(with_reducible refine (HPO'.out _ ?_).mono ?_);exact (WC.out.below (by assumption)).cw HE.out HFV.out;rintro e w4 ⟨hbw4,rfl⟩;have hBw4:Below W.heap.size W w4:=below_step (by assumption) hbw4))
     have ZC:Hid (Cs N w0 iv c b n m F (nilX Q) fv qv w4):=WC.out.below (by assumption)
     have ZX:Hid (w4.heap[ib]?=some (.cells #[.int .i64 ((N:Int) - (q.at_:Nat)),.string (bs q.nm),.int .i64 (q.ty:Nat),.iface T y,.int .i64 (q.flow:Nat),.slice none 0 0] 109 (0,0))):=(hBw4.block _ (lt_of_heap WX.out)).trans WX.out
     have x0:w4.cell? ⟨ib,0,none⟩=some (.int .i64 ((N:Int) - (q.at_:Nat))):=(cell_of_row w4 _ 0 _ _ _ ZX.out).trans rfl
     have e8:=(HE.out.below ZC.out.blw).e8
     clear k1 k3 k4 kp hbw4 hBw4
     go_wp2
     go_ret
     exact ⟨below_step ZC.out.blw ((Below.refl _ _).alloc (Nat.le_refl _) _),Or.inr ⟨fun hall=>HEQ.out (by have e:=(hall q HM.out).2;rw [HPP.out,HPA.out] at e;exact e),_,_,rfl,dg_new a _ _ rfl _ _⟩⟩
   ·have HN:Hid (Mip.pfault m F q.body=some p):=hn
    have HD:Hid (Dg a W d ((N:Int) - (p:Nat)) 8):=hd
    have HB1:Hid (Below w0.heap.size w0 W):=below_step XC.out.blw hb1
    clear hn hd hb1
    go_wp2
    go_ret
    exact ⟨HB1.out,Or.inr ⟨(fun hall=>by have e:=(hall q HM.out).1;rw [HN.out] at e;cases e),d,_,rfl,HD.out⟩⟩
  ·have hle:(Q.length:Int)≤(j:Int):=by omega
   have HJ:Hid (j=Q.length):=by show _=_;omega
   go_wp2
   go_ret
   exact ⟨KC.out.blw,Or.inl ⟨fun q hq=>by
    obtain ⟨i,hi⟩:=List.getElem?_of_mem hq
    exact HP.out i q (by have:=(List.getElem?_eq_some_iff.1 hi).1;have:=HJ.out;omega) hi,rfl,KC.out,KT.out⟩⟩
theorem checkCommon_cs {N:Nat} {a:Nat→Addr} {w0:World} {iv:Value} {c b n:Nat} {m:Mil.Bytes→Option Int} {F:List Flo} {X:List (Nq×Value)} {fv qv:Value} {w:World} (h:Cs N w0 iv c b n m F X fv qv w) (hE:Ce a w0) (hF:F.length≤1000) (hP:∀f∈F,0 < f.per∧f.per≤1000000) :
  Calls Tryz.prog 37 #[.pointer (some ⟨c,0,none⟩)] w (SdPost a w0 8 (tooGreat 1 F=false) (fun w'=>Cs N w0 iv c b n m F X fv qv w'∧Kt w w')):=by
 by_cases hne:F=[]
 ·subst hne
  have HC:Hid (Cs N w0 iv c b n m [] X fv qv w):=h
  have c1:=h.cells.2.1
  obtain ⟨of,cf,hfv⟩:=own_shape h.fl
  rw [hfv] at c1
  clear h hE hF hP hfv
  go_enter Tryz.func37,Tryz.ntmps37
  go_wp2_with fail
  go_loopg [11] 0 (fun gk s11 wr=>s11=.int .i64 0∧wr=w)
  case atStart=>exact ⟨rfl,rfl⟩
  case round=>
   obtain ⟨rfl,rfl⟩:=hrel
   go_wp2
   go_ret
   exact ⟨HC.out.blw,Or.inl ⟨rfl,rfl,HC.out,Kt.refl _⟩⟩
 ·obtain ⟨g,cap,hfv,_⟩:=h.row hne
  refine (checkCommon_any (h.cw hE hfv) hF hP).mono ?_
  rintro E w' ⟨hb,(⟨h1,rfl⟩ | ⟨d,h1,rfl,hd⟩)⟩
  ·exact ⟨below_step h.blw hb,Or.inl ⟨h1,rfl,h.below hb,Kt.of_below hb⟩⟩
  ·exact ⟨below_step h.blw hb,Or.inr ⟨by rw [h1];decide,d,0,rfl,hd⟩⟩
end
end Go.Proofs.YticbokabjhnagaaGreatDoor
