import Derived.Test.YtoiajojadihpbaaGreatDoorQt47
namespace Go.Proofs.YtoiajojadihpbaaGreatDoor
set_option maxHeartbeats 8000000
set_option maxRecDepth 100000
section
open Go.RowKit
structure Rok (ns:List Ref.Nd) (I:List Iw) (F:List Ref.Fl):Prop where
 len:F.length<=60
 items:I.length<=60
 pe:∀f,f∈F->f.pe<=1000000
 eq:∀f,f∈F->∃y,I[f.item]?=some y/\(f.pe=0->y.im.kind=3)
 trees:∀y,y∈I->y.im.kind=3->∃e,Mil.wf e false/\Ref.Has ns e y.im.expr/\Ref.Closed F e/\(Ref.namesIn e).length<=2000
def zc (F:List Ref.Fl):Nat:=F.countP fun f=>f.pe==0
theorem Rok.set {ns:List Ref.Nd} {I:List Iw} {F:List Ref.Fl} {f q:Nat} {y:Ref.Fl} (h:Rok ns I F) (hy:F[f]?=some y) (h0:y.pe=0) (hq:q<=1000000):Rok ns I (F.set f { y with pe:=q })/\Like F (F.set f { y with pe:=q })/\zc (F.set f { y with pe:=q })<=zc F/\(q≠0->zc (F.set f { y with pe:=q }) < zc F):=by
 have hl:=(lgs hy).1
 have he:=(lgs hy).2
 have hk:Like F (F.set f { y with pe:=q }):=Like.set hy rfl rfl rfl
 have hm:=List.mem_of_getElem? hy
 have hz:zc F=(F.countP fun f=>f.pe==0):=rfl
 have hp:0 < zc F:=List.countP_pos_iff.2 ⟨y,hm,by simp[h0]⟩
 have hc:zc (F.set f { y with pe:=q })=zc F - 1+(if q=0 then 1 else 0):=by
  unfold zc
  rw[List.countP_set hl,he]
  simp[h0]
 refine⟨⟨by rw[List.length_set];exact h.len,h.items,fun z hz=>?_,fun z hz=>?_,fun x hx hk3=>?_⟩,hk,?_,?_⟩
 ·rcases List.mem_or_eq_of_mem_set hz with h1|h1
  ·exact h.pe z h1
  ·rw[h1];exact hq
 ·rcases List.mem_or_eq_of_mem_set hz with h1|h1
  ·exact h.eq z h1
  ·obtain⟨x,hx,hx3⟩:=h.eq y hm
   rw[h1]
   exact⟨x,hx,fun _=>hx3 h0⟩
 ·obtain⟨e,h1,h2,h3,h4⟩:=h.trees x hx hk3
  refine⟨e,h1,h2,fun n hn=>?_,h4⟩
  rw[Ref.fnd_names hk.1]
  exact h3 n hn
 ·rw[hc];split <;> omega
 ·intro hq0
  rw[hc,if_neg hq0];omega
def Offs (b:Nat) (w w':World):Prop:=∀q,q≠b->w'.heap[q]?=w.heap[q]?
theorem Offs.refl (b:Nat) (w:World):Offs b w w:=fun _ _=>rfl
theorem Offs.drew {b:Nat} {w w':World} (h:Offs b w w'):Offs b w w'.drew:=h
theorem Offs.setCell {b:Nat} {w w':World} (h:Offs b w w') (j:Nat) (v:Value):Offs b w (w'.setCell ⟨b,j,none⟩ v):=fun q hq=>(bhs _ ⟨b,j,none⟩ _ q hq).trans (h q hq)
theorem Offs.cell {b:Nat} {w w':World} (h:Offs b w w') {k j:Nat} {v:Value} (hk:k≠b) (hv:w.cell? ⟨k,j,none⟩=some v):w'.cell? ⟨k,j,none⟩=some v:=by
 rw[<-hv]
 unfold World.cell?
 rw[h k hk]
theorem gcd2_any (a b:Nat) (ha:0 < a\/0 < b) (ha2:a<=1000000000000) (hb:b<=1000000000000) (w:World) :
  Calls Tryz.prog 105 #[.int .i64 (a:Nat),.int .i64 (b:Nat)] w fun r w'=>(∃q:Nat,0 < q/\q<=1000000000000/\r=.returned (.int .i64 (q:Nat)))/\w'=w:=by
 go_enter Tryz.func105,Tryz.ntmps105
 go_wp2_with fail
 go_loopg [0,1] b (fun gk s0 s1 wr=>∃(a b:Nat),s0=.int .i64 (a:Nat)/\s1=.int .i64 (b:Nat)/\gk=b/\(0 < a\/0 < b)/\a<=1000000000000/\b<=1000000000000/\wr=w)
 case atStart=>exact⟨a,b,rfl,rfl,rfl,ha,ha2,hb,rfl⟩
 case round=>
  clear ha ha2 hb
  obtain⟨x,y,rfl,rfl,rfl,hx,hx2,hy,rfl⟩:=hrel
  by_cases h0:gk=0
  ·have q0:((gk:Int) != 0)=false:=by rw[bne_eq_false_iff_eq];omega
   have HX:Hid (0 < x/\x<=1000000000000):=⟨by omega,hx2⟩
   clear h0 hx hx2 hy
   go_wp2_with fail
   all_goals go_ret
   exact⟨⟨x,HX.out.1,HX.out.2,rfl⟩,rfl⟩
  ·have q0:((gk:Int) != 0)=true:=by rw[bne_iff_ne];omega
   have q1:((gk:Int)==0)=false:=by rw[beq_eq_false_iff_ne];omega
   have q2:((gk:Int)==-1)=false:=by rw[beq_eq_false_iff_ne];omega
   have q3:¬gk=0:=h0
   have hlt:x % gk < gk:=Nat.mod_lt _ (by omega)
   have wr2:IntKind.i64.wrap ((x:Int).tmod (gk:Int))=(x:Int) % (gk:Int):=by
    have e:(x:Int).tmod (gk:Int)=((x % gk:Nat):Int):=by rw[Int.tmod_eq_emod_of_nonneg (by omega)];rfl
    have e2:(x:Int) % (gk:Int)=((x % gk:Nat):Int):=rfl
    rw[e,e2]
    generalize x % gk=q at hlt ⊢
    simp only[IntKind.wrap_i64];omega
   have wr3:IntKind.i64.wrap ((x:Int) % (gk:Int))=(x:Int) % (gk:Int):=by
    have e2:(x:Int) % (gk:Int)=((x % gk:Nat):Int):=rfl
    rw[e2]
    generalize x % gk=q at hlt ⊢
    simp only[IntKind.wrap_i64];omega
   have HX:Hid (0 < gk/\gk<=1000000000000/\x % gk<=1000000000000/\x % gk < gk):=⟨by omega,hy,by omega,hlt⟩
   clear h0 hx hx2 hy hlt
   go_wp2_with fail
   go_roundg (x % gk)
   case measure=>exact HX.out.2.2.2
   case rel=>exact⟨gk,x % gk,rfl,rfl,rfl,Or.inl HX.out.1,HX.out.2.1,HX.out.2.2.1,rfl⟩
def RtsP (B ub g:Nat) (iv nv fv tv:Value) (ns:List Ref.Nd) (I:List Iw) (F:List Ref.Fl) (w:World) (r:Ending) (w':World):Prop:=
 ∃(fe fa:Int) (G:List Ref.Fl),r=.returned (.agg #[.int .i64 fe,.int .i64 fa])/\Like F G/\UM B ub g iv nv fv tv ns I G w'/\Below B w w'/\Rok ns I G
theorem rates_any (B ub g:Nat) (iv nv fv tv:Value) (ns:List Ref.Nd) (I:List Iw) (F:List Ref.Fl) (hd:Ud ub g iv nv fv I) (hBg:B<=ub) (hR:Rok ns I F) (w:World) (h:UM B ub g iv nv fv tv ns I F w) :
  Calls Tryz.prog 60 #[.pointer (some ⟨ub,0,none⟩)] w (RtsP B ub g iv nv fv tv ns I F w):=by
 have HP:=hid h
 have HD:=hid hd
 have HBG:=hid hBg
 have HR:=hid hR
 have FB:=bRow w #[.int .i64 0,.int .i64 0] 44
 have FF:=nRow w #[.int .i64 0,.int .i64 0] 44
 have QF:Hid (w.heap.size≠ub/\w.heap.size≠g/\nv.ownBlock≠some w.heap.size/\iv.ownBlock≠some w.heap.size/\fv.ownBlock≠some w.heap.size/\∀x,x∈I->x.nv.ownBlock≠some w.heap.size/\x.pv.ownBlock≠some w.heap.size):=h.new nlr
 have BF:Hid (B<=w.heap.size):=by
  have:=(ags h.un).1
  show B<=_
  omega
 obtain⟨o,c,hiv⟩:=own_shape h.pi.own
 have HIV:=hid hiv
 obtain⟨o2,c2,hfv⟩:=own_shape h.fl
 have HFV:=hid hfv
 clear h hd hBg hR hiv hfv
 go_enter Tryz.func60,Tryz.ntmps60
 go_wp2_with fail
 have HP0:=hid (HP.out.below FB.out)
 have FB0:Hid (Below B w (w.alloc (.cells #[.int .i64 0,.int .i64 0] 44))):=HP.out.base HBG.out FB.out
 generalize (w.alloc (.cells #[.int .i64 0,.int .i64 0] 44))=W0 at FB FF HP0 FB0 ⊢
 generalize w.heap.size=fb at FF QF BF ⊢
 go_loopg [3] (zc F) (fun gk s3 wr=>∃(G:List Ref.Fl),s3=s3/\gk=zc G/\Hid (Like F G/\Rok ns I G)/\Hid (UM B ub g iv nv fv tv ns I G wr)/\Hid (Below B w wr)/\Hid (wr.heap[fb]?=some (.cells #[.int .i64 0,.int .i64 0] 44 (0,0))))
 case atStart=>exact⟨F,rfl,rfl,⟨Like.refl F,HR.out⟩,HP0,FB0,FF⟩
 case round=>
  obtain⟨G,_,hg,KG,KU,KB,KF⟩:=hrel
  have HG:=hid hg
  clear hg HP0 FB0 FB FF HP
  go_wp2_with fail
  go_loopg [3,4] F.length (fun gj s3 s4 wj=>∃(f:Nat) (sm:Bool) (G2:List Ref.Fl),s3=.bool sm/\s4=.int .i64 (f:Nat)/\f<=F.length/\gj=F.length - f/\Hid (Like F G2/\Rok ns I G2)/\Hid (UM B ub g iv nv fv tv ns I G2 wj)/\Hid (Below B w wj)/\Hid (wj.heap[fb]?=some (.cells #[.int .i64 0,.int .i64 0] 44 (0,0)))/\Hid (zc G2<=zc G/\(sm=true->zc G2 < zc G)))
  case atStart=>exact⟨0,false,G,rfl,rfl,Nat.zero_le _,rfl,KG,KU,KB,KF,⟨Nat.le_refl _,fun e=>by cases e⟩⟩
  case round=>
   obtain⟨f,sm,G2,rfl,rfl,hf,hgj,LG,LU,LB,LF,LZ⟩:=hrel
   have HGJ:=hid hgj
   have d0:=LU.out.cells.1
   have d1:=LU.out.cells.2.1
   rw[HFV.out] at d1
   clear hgj KU KB KF
   by_cases hlt:f < F.length
   ·have b0:((f:Int) < (F.length:Int))=True:=by simp;omega
    have i1:(0:Int)<=(f:Int):=by omega
    have i2:(f:Int) < (F.length:Int):=by omega
    have hl2:f < G2.length:=by rw[LG.out.1.len];exact hlt
    have hyf:G2[f]?=some G2[f]:=List.getElem?_eq_getElem hl2
    generalize G2[f]=fy at hyf
    obtain⟨kf,cf,hvf,t0,t1,t2,t3,t4,t5⟩:=LU.out.flow6 hyf
    have hvg:=hvf
    rw[LG.out.1.len,HFV.out] at hvf
    obtain⟨ho,hcc⟩:o2=some ⟨kf,0,none⟩/\c2=cf:=by
     injection hvf with h1 h2 h3
     exact⟨h1,h3⟩
    subst ho
    subst hcc
    have HVG:=hid hvg
    have HY:=hid hyf
    have HLT:=hid hlt
    have hw:IntKind.i64.wrap ((f:Int)+1)=(f:Int)+1:=by
     have:=HR.out.len
     simp only[IntKind.wrap_i64];omega
    clear hvf hvg hlt hl2 hf
    by_cases h0:fy.pe=0
    ·obtain⟨y,hy,hy3⟩:=LG.out.2.eq fy (List.mem_of_getElem? hyf)
     obtain⟨e,hwf,hh,hc,hn⟩:=LG.out.2.trees y (List.mem_of_getElem? hy) (hy3 h0)
     have HN:Hid (∀w,UM B ub g iv nv fv tv ns I G2 w->_):=rate_all B ub g iv nv fv tv ns I G2 (by rw[LG.out.1.len];have:=HR.out.len;omega) e hwf y.im.expr hh hc LG.out.2.pe
     obtain⟨k2,cc,hv2,e0,e1,e2,e3,e4,e5,e6,e7,d3⟩:=LU.out.itemAt hy
     have hyl:=(lgs hy).1
     have i3:(0:Int)<=(fy.item:Int):=by omega
     have i4:(fy.item:Int) < (I.length:Int):=by omega
     have q0:((fy.pe:Int)==0)=true:=by rw[h0];rfl
     have H0:=hid h0
     have up:∀{q:Addr} {v:Value},wr.cell? q=some v->∀w',Below wr.heap.size wr w'->w'.cell? q=some v:=fun hq w' hb=>(hb.cell (lt_of_cell hq)).trans hq
     have j0:=up d0
     have j1:=up d1
     have j2:=up d3
     have j3:=up t5
     have j4:=up e7
     have j5:=up t2
     clear up hy hy3 hwf hh hc hn hv2 hyl h0 hyf t0 t1 t3 t4 e0 e1 e2 e3 e4 e5 e6
     go_wp2_with fail
     clear t2 t5 e7 d0 d1 d3
     go_region_held3 (fun w'=>Below wr.heap.size wr w') (first|assumption|exact brf.drew|exact Below.alloc (by assumption) (Below.size (by assumption)) _) (first
      | (go_at_call 104;(with_reducible refine (HN.out _ ?_).mono ?_);exact LU.out.below (by assumption);rintro r w2 ⟨⟨q,a,hq,rfl⟩,hb⟩;have hB:Below wr.heap.size wr w2:=below_step (by assumption) hb;have HQ:Hid (q<=1000000):=hq;clear hb hq))
     have U2:=hid (LU.out.below hB)
     have B2:Hid (Below B w w2):=LB.out.trans (LU.out.base HBG.out hB)
     have F2:Hid (w2.heap[fb]?=some (.cells #[.int .i64 0,.int .i64 0] 44 (0,0))):=(hB.block _ (ags LF.out).1).trans LF.out
     obtain⟨U3,fz,B3⟩:=U2.out.setFl HD.out HVG.out HY.out (j:=2) (y':={ fy with pe:=q }) (u:=.int .i64 (q:Nat)) (by decide) rfl
     have HU3:=hid U3
     have HB3:=hid (B2.out.trans B3)
     have nb:fv.ownBlock=some kf:=by rw[HVG.out];rfl
     have HF3:Hid ((w2.setCell ⟨kf,f*6+2,none⟩ (.int .i64 (q:Nat))).heap[fb]?=some (.cells #[.int .i64 0,.int .i64 0] 44 (0,0))):=(bhs _ ⟨kf,f*6+2,none⟩ _ fb (fun e=>QF.out.2.2.2.2.1 (e ▸ nb))).trans F2.out
     have ff1:=j1 w2 hB
     have ff2:=j5 w2 hB
     obtain⟨R1,R2,R3,R4⟩:=LG.out.2.set HY.out H0.out HQ.out
     have HR1:Hid (Like F (G2.set f { fy with pe:=q })/\Rok ns I (G2.set f { fy with pe:=q })):=⟨LG.out.1.trans R2,R1⟩
     have HZ3:Hid (zc (G2.set f { fy with pe:=q })<=zc G2/\(q≠0->zc (G2.set f { fy with pe:=q }) < zc G2)):=⟨R3,R4⟩
     clear U3 B3 nb R1 R2 R3 R4 j0 j1 j2 j3 j4 j5 hB
     by_cases hq0:q=0
     ·have q1:((q:Int) != 0)=false:=by rw[bne_eq_false_iff_eq];omega
      clear hq0
      cases sm
      ·go_wp2_with fail
       all_goals go_roundg (F.length - (f+1))
       case measure=>
        have h1:=HGJ.out
        have h2:=HLT.out
        omega
       case rel=>exact⟨f+1,false,_,rfl,rfl,HLT.out,rfl,HR1,HU3,HB3,HF3,⟨Nat.le_trans HZ3.out.1 LZ.out.1,fun e=>by cases e⟩⟩
      ·go_wp2_with fail
       all_goals go_roundg (F.length - (f+1))
       case measure=>
        have h1:=HGJ.out
        have h2:=HLT.out
        omega
       case rel=>exact⟨f+1,true,_,rfl,rfl,HLT.out,rfl,HR1,HU3,HB3,HF3,⟨Nat.le_trans HZ3.out.1 LZ.out.1,fun _=>Nat.lt_of_le_of_lt HZ3.out.1 (LZ.out.2 (by first|trivial|rfl))⟩⟩
     ·have q1:((q:Int) != 0)=true:=by rw[bne_iff_ne];omega
      have HQ0:=hid hq0
      clear hq0
      cases sm <;> go_wp2_with fail
      all_goals go_roundg (F.length - (f+1))
      case measure=>
       have h1:=HGJ.out
       have h2:=HLT.out
       omega
      case rel=>exact⟨f+1,true,_,rfl,rfl,HLT.out,rfl,HR1,HU3,HB3,HF3,⟨Nat.le_trans HZ3.out.1 LZ.out.1,fun _=>Nat.lt_of_lt_of_le (HZ3.out.2 HQ0.out) LZ.out.1⟩⟩
      case measure=>
       have h1:=HGJ.out
       have h2:=HLT.out
       omega
      case rel=>exact⟨f+1,true,_,rfl,rfl,HLT.out,rfl,HR1,HU3,HB3,HF3,⟨Nat.le_trans HZ3.out.1 LZ.out.1,fun _=>Nat.lt_of_lt_of_le (HZ3.out.2 HQ0.out) LZ.out.1⟩⟩
    ·have q0:((fy.pe:Int)==0)=false:=by rw[beq_eq_false_iff_ne];omega
     clear h0 hyf
     go_wp2_with fail
     all_goals go_roundg (F.length - (f+1))
     case measure=>
      have h1:=HGJ.out
      have h2:=HLT.out
      omega
     case rel=>exact⟨f+1,sm,G2,rfl,rfl,HLT.out,rfl,LG,LU,LB,LF,LZ⟩
   ·have b0:((f:Int) < (F.length:Int))=False:=by simp;omega
    clear hlt hf
    cases sm
    ·go_wp2_with fail
     rename World=>V
     have HV0:Hid (zc G2=zc G2):=rfl
     clear d0 d1
     go_loopg [7] F.length (fun gj s7 wj=>∃(f7:Nat),s7=.int .i64 (f7:Nat)/\f7<=F.length/\gj=F.length - f7/\wj=V/\Hid (∀j z,j < f7->G2[j]?=some z->z.pe≠0))
     case atStart=>exact⟨0,rfl,Nat.zero_le _,rfl,rfl,fun j z h=>by omega⟩
     case round=>
      obtain⟨f7,rfl,h7,hg7,rfl,LN⟩:=hrel
      have HG7:=hid hg7
      clear hg7
      have d0:=LU.out.cells.1
      have d1:=LU.out.cells.2.1
      rw[HFV.out] at d1
      by_cases hlt:f7 < F.length
      ·have b0:((f7:Int) < (F.length:Int))=True:=by simp;omega
       have i1:(0:Int)<=(f7:Int):=by omega
       have i2:(f7:Int) < (F.length:Int):=by omega
       have hl2:f7 < G2.length:=by rw[LG.out.1.len];exact hlt
       have hyf:G2[f7]?=some G2[f7]:=List.getElem?_eq_getElem hl2
       generalize G2[f7]=fy at hyf
       obtain⟨kf,cf,hvf,t0,t1,t2,t3,t4,t5⟩:=LU.out.flow6 hyf
       have nf:kf≠fb:=fun e=>QF.out.2.2.2.2.1 (by rw[hvf,<-e];rfl)
       rw[LG.out.1.len,HFV.out] at hvf
       obtain⟨ho,hcc⟩:o2=some ⟨kf,0,none⟩/\c2=cf:=by
        injection hvf with h1 h2 h3
        exact⟨h1,h3⟩
       subst ho
       subst hcc
       have HY:=hid hyf
       have HLT:=hid hlt
       have hw:IntKind.i64.wrap ((f7:Int)+1)=(f7:Int)+1:=by
        have:=HR.out.len
        simp only[IntKind.wrap_i64];omega
       clear hvf hlt hl2 h7
       by_cases h0:fy.pe=0
       ·obtain⟨y,hy,hy3⟩:=LG.out.2.eq fy (List.mem_of_getElem? hyf)
        obtain⟨k2,cc,hv2,e0,e1,e2,e3,e4,e5,e6,e7,d3⟩:=LU.out.itemAt hy
        have ni:k2≠fb:=fun e=>QF.out.2.2.2.1 (by rw[hv2,<-e];rfl)
        have hyl:=(lgs hy).1
        have i3:(0:Int)<=(fy.item:Int):=by omega
        have i4:(fy.item:Int) < (I.length:Int):=by omega
        have q0:((fy.pe:Int)==0)=true:=by rw[h0];rfl
        have nu:=Ne.symm QF.out.1
        have ng:=Ne.symm QF.out.2.1
        obtain⟨g0,g1,z0⟩:=fault_at LF.out
        have j0:∀w',Offs fb wr w'->w'.cell? ⟨ub,0,none⟩=some _:=fun w' h=>h.cell nu d0
        have j1:∀w',Offs fb wr w'->w'.cell? ⟨ub,1,none⟩=some _:=fun w' h=>h.cell nu d1
        have j2:∀w',Offs fb wr w'->w'.cell? ⟨g,0,none⟩=some _:=fun w' h=>h.cell ng d3
        have j3:∀w',Offs fb wr w'->w'.cell? ⟨kf,f7*6+5,none⟩=some _:=fun w' h=>h.cell nf t5
        have j4:∀w',Offs fb wr w'->w'.cell? ⟨k2,fy.item*8+1,none⟩=some _:=fun w' h=>h.cell ni e1
        clear hy hy3 hv2 hyl h0 hyf t0 t1 t3 t4 e0 e2 e3 e4 e5 e6 e7 nu ng nf ni
        go_wp2_with fail
        clear t2 t5 e1 d0 d1 d3
        go_region_held3 (fun w'=>Offs fb wr w') (first|assumption|exact Offs.refl _ _|exact (Offs.refl _ _).drew|exact Offs.setCell (by assumption) _ _|exact Offs.setCell (Offs.setCell (by assumption) _ _) _ _|exact Offs.setCell (Offs.setCell (Offs.refl _ _).drew _ _) _ _|exact Offs.setCell (Offs.setCell (Offs.refl _ _) _ _) _ _) (fail)
        have HAT:Hid (wr.heap[fb]?=some (.cells #[.int .i64 0,.int .i64 0] 44 (0,0))):=LF.out
        clear j0 j1 j2 j3 j4 g0 g1 z0
        go_wp2_with fail
        obtain⟨a2,a3⟩:=two_set (u:=.int .i64 9) (v:=.int .i64 (y.im.at_:Nat)) HAT.out
        refine bodyPost_ret (v:=.agg #[.int .i64 9,.int .i64 (y.im.at_:Nat)]) (by simp[results,Tryz.results60,a2,a3,go_sem]) rfl ?_
        exact⟨9,(y.im.at_:Nat),G2,rfl,LG.out.1,(LU.out.off QF.out (fun q hq=>(bhs _ ⟨fb,1,none⟩ _ q hq).trans (bhs _ ⟨fb,0,none⟩ _ q hq))).below brf.drew,((LB.out.setCell BF.out _).setCell BF.out _).drew,LG.out.2⟩
       ·have q0:((fy.pe:Int)==0)=false:=by rw[beq_eq_false_iff_ne];omega
        have HN0:=hid h0
        clear h0 hyf
        go_wp2_with fail
        all_goals go_roundg (F.length - (f7+1))
        case measure=>
         have h1:=HG7.out
         have h2:=HLT.out
         omega
        case rel=>
         refine⟨f7+1,rfl,HLT.out,rfl,rfl,fun j z hj hz=>?_⟩
         by_cases hji:j=f7
         ·subst hji
          rw[HY.out] at hz
          obtain rfl:=osi hz
          exact HN0.out
         ·exact LN.out j z (by omega) hz
      ·have b0:((f7:Int) < (F.length:Int))=False:=by simp;omega
       have HNZ:Hid (∀z,z∈G2->z.pe≠0):=fun z hz=>by
        obtain⟨j,hj,he⟩:=List.getElem_of_mem hz
        exact LN.out j z (by have:=LG.out.1.len;omega) (by rw[List.getElem?_eq_getElem hj,he])
       clear hlt h7 LN
       go_wp2_with fail
       clear d0 d1
       go_loopg [8,9] F.length (fun gj s8 s9 wj=>∃(al f9:Nat),s8=.int .i64 (al:Nat)/\s9=.int .i64 (f9:Nat)/\f9<=F.length/\gj=F.length - f9/\al<=1000000000000/\Hid (UM B ub g iv nv fv tv ns I G2 wj)/\Hid (Below B w wj)/\Hid (wj.heap[fb]?=some (.cells #[.int .i64 0,.int .i64 0] 44 (0,0))))
       case atStart=>exact⟨1,0,rfl,rfl,Nat.zero_le _,rfl,by omega,LU,LB,LF⟩
       case round=>
        obtain⟨al,f9,rfl,rfl,h9,hg9,hal,MU,MB,MF⟩:=hrel
        have HG9:=hid hg9
        have HAL:=hid hal
        clear hg9 hal LU LB LF
        have d0:=MU.out.cells.1
        have d1:=MU.out.cells.2.1
        rw[HFV.out] at d1
        by_cases hlt:f9 < F.length
        ·have b0:((f9:Int) < (F.length:Int))=True:=by simp;omega
         have i1:(0:Int)<=(f9:Int):=by omega
         have i2:(f9:Int) < (F.length:Int):=by omega
         have hl2:f9 < G2.length:=by rw[LG.out.1.len];exact hlt
         have hyf:G2[f9]?=some G2[f9]:=List.getElem?_eq_getElem hl2
         generalize G2[f9]=fy at hyf
         obtain⟨kf,cf,hvf,t0,t1,t2,t3,t4,t5⟩:=MU.out.flow6 hyf
         rw[LG.out.1.len,HFV.out] at hvf
         obtain⟨ho,hcc⟩:o2=some ⟨kf,0,none⟩/\c2=cf:=by
          injection hvf with h1 h2 h3
          exact⟨h1,h3⟩
         subst ho
         subst hcc
         have HY:=hid hyf
         have HLT:=hid hlt
         have hw:IntKind.i64.wrap ((f9:Int)+1)=(f9:Int)+1:=by
          have:=HR.out.len
          simp only[IntKind.wrap_i64];omega
         obtain⟨y,hy,_⟩:=LG.out.2.eq fy (List.mem_of_getElem? hyf)
         obtain⟨on,cn,hyn⟩:=own_shape (MU.out.pi.rows y (List.mem_of_getElem? hy)).1
         obtain⟨op,cp,hyp⟩:=own_shape (MU.out.pi.rows y (List.mem_of_getElem? hy)).2
         obtain⟨k2,cc,hv2,e0,e1,e2,e3,e4,e5,e6,e7,d3⟩:=MU.out.itemAt hy
         have hyl:=(lgs hy).1
         have i3:(0:Int)<=(fy.item:Int):=by omega
         have i4:(fy.item:Int) < (I.length:Int):=by omega
         have HYI:=hid hy
         obtain⟨ym,yn,yp⟩:=y
         simp only[] at e0 e1 e2 e3 e4 e5 e6 e7 hyn hyp
         subst hyn hyp
         have up:∀{q:Addr} {v:Value},wr.cell? q=some v->∀w',Below wr.heap.size wr w'->w'.cell? q=some v:=fun hq w' hb=>(hb.cell (lt_of_cell hq)).trans hq
         have j0:=up d0
         have j1:=up d1
         have j2:=up d3
         have j3:=up t5
         have j4:=up e0
         have j5:=up e1
         have j6:=up e2
         have j7:=up e3
         have j8:=up e4
         have j9:=up e5
         have j10:=up e6
         have j11:=up e7
         have T2:Hid (∀w',Below wr.heap.size wr w'->w'.cell? ⟨kf,f9*6+2,none⟩=some (.int .i64 (fy.pe:Nat))):=up t2
         have J1:Hid (∀w',Below wr.heap.size wr w'->w'.cell? ⟨ub,1,none⟩=some (.slice (some ⟨kf,0,none⟩) F.length c2)):=up d1
         clear up hy hv2 hyl hyf t0 t1 t2 t3 t4 hvf hlt hl2 h9
         go_wp2_with fail
         clear t5 e0 e1 e2 e3 e4 e5 e6 e7 d0 d1 d3
         go_region_held3 (fun w'=>Below wr.heap.size wr w') (first|assumption|exact brf.drew|exact Below.alloc (by assumption) (Below.size (by assumption)) _|exact Below.alloc brf nlr _|exact (brf.alloc nlr _).drew) (fail)
         have HBI:Hid (Below wr.heap.size wr ((wr.alloc (.cells (itA ym (.slice on ym.names.length cn) (.slice op ym.names.length cp)) 122)).drew)):=(brf.alloc nlr _).drew
         have IB:Hid (((wr.alloc (.cells (itA ym (.slice on ym.names.length cn) (.slice op ym.names.length cp)) 122)).drew).heap[wr.heap.size]?=some (.cells (itA ym (.slice on ym.names.length cn) (.slice op ym.names.length cp)) 122 (0,0))):=han wr _
         clear j0 j1 j2 j3 j4 j5 j6 j7 j8 j9 j10 j11
         have t2:=T2.out _ HBI.out
         have d1:=J1.out _ HBI.out
         have WU:=hid (MU.out.below HBI.out)
         have WB:Hid (Below B w ((wr.alloc (.cells (itA ym (.slice on ym.names.length cn) (.slice op ym.names.length cp)) 122)).drew)):=MB.out.trans (MU.out.base HBG.out HBI.out)
         have WF:Hid (((wr.alloc (.cells (itA ym (.slice on ym.names.length cn) (.slice op ym.names.length cp)) 122)).drew).heap[fb]?=some (.cells #[.int .i64 0,.int .i64 0] 44 (0,0))):=(HBI.out.block _ (ags MF.out).1).trans MF.out
         have p0:((wr.alloc (.cells (itA ym (.slice on ym.names.length cn) (.slice op ym.names.length cp)) 122)).drew).cell? ⟨wr.heap.size,0,none⟩=some (.int .i64 (ym.kind:Nat)):=(cor _ _ 0 _ _ _ IB.out).trans rfl
         have p7:((wr.alloc (.cells (itA ym (.slice on ym.names.length cn) (.slice op ym.names.length cp)) 122)).drew).cell? ⟨wr.heap.size,7,none⟩=some (.int .i64 (ym.expr:Nat)):=(cor _ _ 7 _ _ _ IB.out).trans rfl
         clear T2 J1 MU MB MF
         generalize (wr.alloc (.cells (itA ym (.slice on ym.names.length cn) (.slice op ym.names.length cp)) 122)).drew=W at HBI IB t2 d1 WU WB WF p0 p7 ⊢
         clear HBI
         generalize wr.heap.size=ib at IB p0 p7 ⊢
         by_cases hk3:ym.kind=3
         ·have q3:((ym.kind:Int)==3)=true:=by rw[beq_iff_eq];omega
          obtain⟨e,hwf,hh,hc,hn⟩:=LG.out.2.trees _ (List.mem_of_getElem? HYI.out) hk3
          have HN:Hid (∀w,UM B ub g iv nv fv tv ns I G2 w->_):=rate_all B ub g iv nv fv tv ns I G2 (by rw[LG.out.1.len];have:=HR.out.len;omega) e hwf ym.expr hh hc LG.out.2.pe
          clear hk3 hwf hh hc hn
          go_wp2_with fail
          refine (HN.out _ WU.out).mono ?_
          rintro r w2 ⟨⟨q,a,hq,rfl⟩,hb⟩
          have U2:=hid (WU.out.below hb)
          have B2:Hid (Below B w w2):=WB.out.trans (WU.out.base HBG.out hb)
          have F2:Hid (w2.heap[fb]?=some (.cells #[.int .i64 0,.int .i64 0] 44 (0,0))):=(hb.block _ (ags WF.out).1).trans WF.out
          have I2:Hid (w2.heap[ib]?=some (.cells (itA ym (.slice on ym.names.length cn) (.slice op ym.names.length cp)) 122 (0,0))):=(hb.block _ (ags IB.out).1).trans IB.out
          have p1:w2.cell? ⟨ib,1,none⟩=some (.int .i64 (ym.at_:Nat)):=(cor _ _ 1 _ _ _ I2.out).trans rfl
          clear hb t2 d1 p0 p7 hq HN WU WB WF IB
          by_cases ha:(0:Int)<=a
          ·have q4:((0:Int)<=a)=True:=by simp;omega
           clear ha
           obtain⟨g0,g1,z0⟩:=fault_at F2.out
           go_wp2_with fail
           obtain⟨a2,a3⟩:=two_set (u:=.int .i64 8) (v:=.int .i64 a) F2.out
           refine bodyPost_ret (v:=.agg #[.int .i64 8,.int .i64 a]) (by simp[results,Tryz.results60,a2,a3,go_sem]) rfl ?_
           exact⟨8,a,G2,rfl,LG.out.1,U2.out.off QF.out (fun q hq=>(bhs _ ⟨fb,1,none⟩ _ q hq).trans (bhs _ ⟨fb,0,none⟩ _ q hq)),(B2.out.setCell BF.out _).setCell BF.out _,LG.out.2⟩
          ·have q4:((0:Int)<=a)=False:=by simp;omega
           clear ha
           by_cases hq0:q=0
           ·have q9:((q:Int) != 0)=false:=by rw[bne_eq_false_iff_eq];omega
            clear hq0
            by_cases hA:al<=1000000
            ·have b1:((al:Int)<=1000000)=True:=by simp;omega
             have HA:=hid hA
             clear hA
             go_wp2_with fail
             refine (gcd2_any al fy.pe (Or.inr (Nat.pos_of_ne_zero (HNZ.out fy (List.mem_of_getElem? HY.out)))) HAL.out (by have:=LG.out.2.pe fy (List.mem_of_getElem? HY.out);omega) _).mono ?_
             rintro r w3 ⟨⟨d,hd1,hd2,rfl⟩,rfl⟩
             have q5:((d:Int)==0)=false:=by rw[beq_eq_false_iff_ne];omega
             have q6:((d:Int)==-1)=false:=by rw[beq_eq_false_iff_ne];omega
             have hdl:al / d<=1000000:=Nat.le_trans (Nat.div_le_self _ _) HA.out
             have hml:al / d*fy.pe<=1000000000000:=Nat.le_trans (Nat.mul_le_mul hdl (LG.out.2.pe fy (List.mem_of_getElem? HY.out))) (by decide)
             have q7:IntKind.i64.wrap ((al:Int) / (d:Int))=((al / d:Nat):Int):=by
              have e:(al:Int) / (d:Int)=((al / d:Nat):Int):=rfl
              rw[e]
              generalize al / d=q at hdl ⊢
              simp only[IntKind.wrap_i64];omega
             have q8:IntKind.i64.wrap (((al / d:Nat):Int)*(fy.pe:Int))=((al / d*fy.pe:Nat):Int):=by
              rw[<-Int.natCast_mul]
              generalize al / d*fy.pe=q at hml ⊢
              simp only[IntKind.wrap_i64];omega
             have Q8:Hid (wrap64 (wrap64 ((al:Int) / (d:Int))*(fy.pe:Int))=((al / d*fy.pe:Nat):Int)):=by
              have h7:wrap64 ((al:Int) / (d:Int))=((al / d:Nat):Int):=by unfold wrap64;rw[IntKind.wrap_i64] at q7;first|exact q7|(simp only[IntKind.wrap_i64] at q7;exact q7)|omega
              show wrap64 (wrap64 ((al:Int) / (d:Int))*(fy.pe:Int))=((al / d*fy.pe:Nat):Int)
              rw[h7]
              unfold wrap64;rw[IntKind.wrap_i64] at q8;first|exact q8|omega
             have HML:=hid hml
             clear hml hdl hd2 q7 q8
             go_wp2_with fail
             all_goals go_roundg (F.length - (f9+1))
             case measure=>
              have h1:=HG9.out
              have h2:=HLT.out
              omega
             case rel=>exact⟨al / d*fy.pe,f9+1,congrArg (Value.int .i64) Q8.out,rfl,HLT.out,rfl,HML.out,U2,B2,F2⟩
            ·have b1:((al:Int)<=1000000)=False:=by simp;omega
             clear hA
             go_wp2_with fail
             all_goals go_roundg (F.length - (f9+1))
             case measure=>
              have h1:=HG9.out
              have h2:=HLT.out
              omega
             case rel=>exact⟨al,f9+1,rfl,rfl,HLT.out,rfl,HAL.out,U2,B2,F2⟩
           ·have q9:((q:Int) != 0)=true:=by rw[bne_iff_ne];omega
            clear hq0
            by_cases hqp:q=fy.pe
            ·have q10:((q:Int) != (fy.pe:Int))=false:=by rw[bne_eq_false_iff_eq];omega
             clear hqp
             by_cases hA:al<=1000000
             ·have b1:((al:Int)<=1000000)=True:=by simp;omega
              have HA:=hid hA
              clear hA
              go_wp2_with fail
              refine (gcd2_any al fy.pe (Or.inr (Nat.pos_of_ne_zero (HNZ.out fy (List.mem_of_getElem? HY.out)))) HAL.out (by have:=LG.out.2.pe fy (List.mem_of_getElem? HY.out);omega) _).mono ?_
              rintro r w3 ⟨⟨d,hd1,hd2,rfl⟩,rfl⟩
              have q5:((d:Int)==0)=false:=by rw[beq_eq_false_iff_ne];omega
              have q6:((d:Int)==-1)=false:=by rw[beq_eq_false_iff_ne];omega
              have hdl:al / d<=1000000:=Nat.le_trans (Nat.div_le_self _ _) HA.out
              have hml:al / d*fy.pe<=1000000000000:=Nat.le_trans (Nat.mul_le_mul hdl (LG.out.2.pe fy (List.mem_of_getElem? HY.out))) (by decide)
              have q7:IntKind.i64.wrap ((al:Int) / (d:Int))=((al / d:Nat):Int):=by
               have e:(al:Int) / (d:Int)=((al / d:Nat):Int):=rfl
               rw[e]
               generalize al / d=q at hdl ⊢
               simp only[IntKind.wrap_i64];omega
              have q8:IntKind.i64.wrap (((al / d:Nat):Int)*(fy.pe:Int))=((al / d*fy.pe:Nat):Int):=by
               rw[<-Int.natCast_mul]
               generalize al / d*fy.pe=q at hml ⊢
               simp only[IntKind.wrap_i64];omega
              have Q8:Hid (wrap64 (wrap64 ((al:Int) / (d:Int))*(fy.pe:Int))=((al / d*fy.pe:Nat):Int)):=by
               have h7:wrap64 ((al:Int) / (d:Int))=((al / d:Nat):Int):=by unfold wrap64;rw[IntKind.wrap_i64] at q7;first|exact q7|(simp only[IntKind.wrap_i64] at q7;exact q7)|omega
               show wrap64 (wrap64 ((al:Int) / (d:Int))*(fy.pe:Int))=((al / d*fy.pe:Nat):Int)
               rw[h7]
               unfold wrap64;rw[IntKind.wrap_i64] at q8;first|exact q8|omega
              have HML:=hid hml
              clear hml hdl hd2 q7 q8
              go_wp2_with fail
              all_goals go_roundg (F.length - (f9+1))
              case measure=>
               have h1:=HG9.out
               have h2:=HLT.out
               omega
              case rel=>exact⟨al / d*fy.pe,f9+1,congrArg (Value.int .i64) Q8.out,rfl,HLT.out,rfl,HML.out,U2,B2,F2⟩
             ·have b1:((al:Int)<=1000000)=False:=by simp;omega
              clear hA
              go_wp2_with fail
              all_goals go_roundg (F.length - (f9+1))
              case measure=>
               have h1:=HG9.out
               have h2:=HLT.out
               omega
              case rel=>exact⟨al,f9+1,rfl,rfl,HLT.out,rfl,HAL.out,U2,B2,F2⟩
            ·have q10:((q:Int) != (fy.pe:Int))=true:=by rw[bne_iff_ne];omega
             clear hqp
             obtain⟨g0,g1,z0⟩:=fault_at F2.out
             go_wp2_with fail
             obtain⟨a2,a3⟩:=two_set (u:=.int .i64 8) (v:=.int .i64 (ym.at_:Nat)) F2.out
             refine bodyPost_ret (v:=.agg #[.int .i64 8,.int .i64 (ym.at_:Nat)]) (by simp[results,Tryz.results60,a2,a3,go_sem]) rfl ?_
             exact⟨8,(ym.at_:Nat),G2,rfl,LG.out.1,U2.out.off QF.out (fun q hq=>(bhs _ ⟨fb,1,none⟩ _ q hq).trans (bhs _ ⟨fb,0,none⟩ _ q hq)),(B2.out.setCell BF.out _).setCell BF.out _,LG.out.2⟩
         ·have q3:((ym.kind:Int)==3)=false:=by rw[beq_eq_false_iff_ne];omega
          clear hk3
          by_cases hA:al<=1000000
          ·have b1:((al:Int)<=1000000)=True:=by simp;omega
           have HA:=hid hA
           clear hA
           go_wp2_with fail
           refine (gcd2_any al fy.pe (Or.inr (Nat.pos_of_ne_zero (HNZ.out fy (List.mem_of_getElem? HY.out)))) HAL.out (by have:=LG.out.2.pe fy (List.mem_of_getElem? HY.out);omega) _).mono ?_
           rintro r w3 ⟨⟨d,hd1,hd2,rfl⟩,rfl⟩
           have q5:((d:Int)==0)=false:=by rw[beq_eq_false_iff_ne];omega
           have q6:((d:Int)==-1)=false:=by rw[beq_eq_false_iff_ne];omega
           have hdl:al / d<=1000000:=Nat.le_trans (Nat.div_le_self _ _) HA.out
           have hml:al / d*fy.pe<=1000000000000:=Nat.le_trans (Nat.mul_le_mul hdl (LG.out.2.pe fy (List.mem_of_getElem? HY.out))) (by decide)
           have q7:IntKind.i64.wrap ((al:Int) / (d:Int))=((al / d:Nat):Int):=by
            have e:(al:Int) / (d:Int)=((al / d:Nat):Int):=rfl
            rw[e]
            generalize al / d=q at hdl ⊢
            simp only[IntKind.wrap_i64];omega
           have q8:IntKind.i64.wrap (((al / d:Nat):Int)*(fy.pe:Int))=((al / d*fy.pe:Nat):Int):=by
            rw[<-Int.natCast_mul]
            generalize al / d*fy.pe=q at hml ⊢
            simp only[IntKind.wrap_i64];omega
           have Q8:Hid (wrap64 (wrap64 ((al:Int) / (d:Int))*(fy.pe:Int))=((al / d*fy.pe:Nat):Int)):=by
            have h7:wrap64 ((al:Int) / (d:Int))=((al / d:Nat):Int):=by unfold wrap64;rw[IntKind.wrap_i64] at q7;first|exact q7|(simp only[IntKind.wrap_i64] at q7;exact q7)|omega
            show wrap64 (wrap64 ((al:Int) / (d:Int))*(fy.pe:Int))=((al / d*fy.pe:Nat):Int)
            rw[h7]
            unfold wrap64;rw[IntKind.wrap_i64] at q8;first|exact q8|omega
           have HML:=hid hml
           clear hml hdl hd2 q7 q8
           go_wp2_with fail
           all_goals go_roundg (F.length - (f9+1))
           case measure=>
            have h1:=HG9.out
            have h2:=HLT.out
            omega
           case rel=>exact⟨al / d*fy.pe,f9+1,congrArg (Value.int .i64) Q8.out,rfl,HLT.out,rfl,HML.out,WU,WB,WF⟩
          ·have b1:((al:Int)<=1000000)=False:=by simp;omega
           clear hA
           go_wp2_with fail
           all_goals go_roundg (F.length - (f9+1))
           case measure=>
            have h1:=HG9.out
            have h2:=HLT.out
            omega
           case rel=>exact⟨al,f9+1,rfl,rfl,HLT.out,rfl,HAL.out,WU,WB,WF⟩
        ·have b0:((f9:Int) < (F.length:Int))=False:=by simp;omega
         clear hlt h9
         by_cases hA:1000000 < al
         ·have b1:((1000000:Int) < (al:Int))=True:=by simp;omega
          clear hA
          obtain⟨g0,g1,z0⟩:=fault_at MF.out
          go_wp2_with fail
          obtain⟨a2,a3⟩:=two_set (u:=.int .i64 8) (v:=.int .i64 0) MF.out
          refine bodyPost_ret (v:=.agg #[.int .i64 8,.int .i64 0]) (by simp[results,Tryz.results60,a2,a3,go_sem]) rfl ?_
          exact⟨8,0,G2,rfl,LG.out.1,MU.out.off QF.out (fun q hq=>(bhs _ ⟨fb,1,none⟩ _ q hq).trans (bhs _ ⟨fb,0,none⟩ _ q hq)),(MB.out.setCell BF.out _).setCell BF.out _,LG.out.2⟩
         ·have b1:((1000000:Int) < (al:Int))=False:=by simp;omega
          clear hA
          obtain⟨g0,g1,z0⟩:=fault_at MF.out
          go_wp2_with fail
          obtain⟨a2,a3⟩:=two_set (u:=.int .i64 0) (v:=.int .i64 0) MF.out
          refine bodyPost_ret (v:=.agg #[.int .i64 0,.int .i64 0]) (by simp[results,Tryz.results60,a2,a3,go_sem]) rfl ?_
          exact⟨0,0,G2,rfl,LG.out.1,MU.out.off QF.out (fun q hq=>(bhs _ ⟨fb,1,none⟩ _ q hq).trans (bhs _ ⟨fb,0,none⟩ _ q hq)),(MB.out.setCell BF.out _).setCell BF.out _,LG.out.2⟩
    ·go_wp2_with fail
     all_goals go_roundg (zc G2)
     case measure=>
      have h1:=HG.out
      have h2:=LZ.out.2 (by first|trivial|rfl)
      omega
     case rel=>exact⟨G2,by first|trivial|rfl,rfl,LG,LU,LB,LF⟩
end
end Go.Proofs.YtoiajojadihpbaaGreatDoor
