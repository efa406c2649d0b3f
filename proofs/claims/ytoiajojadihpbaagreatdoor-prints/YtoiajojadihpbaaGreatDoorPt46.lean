import Derived.Test.YtoiajojadihpbaaGreatDoorPt45
import Derived.Test.YtoiajojadihpbaaGreatDoorPt26
namespace Go.Proofs.YtoiajojadihpbaaGreatDoor
set_option maxHeartbeats 8000000
section
open Go.RowKit
def FlOf (I:List Iw) (f:Ref.Fl):Prop:=∃y,I[f.item]?=some y∧y.im.kind≠2∧f.inp=(y.im.kind==1)∧f.pe=y.im.period
def DcP (B ub g:Nat) (iv nv tv:Value) (ns:List Ref.Nd) (I:List Iw) (w:World) (r:Ending) (w':World):Prop:=
 ∃(fe fa:Int) (F:List Ref.Fl) (fv:Value),r=.returned (.agg #[.int .i64 fe,.int .i64 fa])∧UM B ub g iv nv fv tv ns I F w'∧Ud ub g iv nv fv I∧Below B w w'∧F.length≤I.length∧∀f,f∈F→FlOf I f
theorem Tryz.infoFlow:(Tryz.prog.info? 136).map (fun i=>(i.zero,i.size,i.bytes))=some (some (.agg #[.string ⟨#[]⟩,.int .i64 0,.int .i64 0,.bool false,.bool false,.int .i64 0]),6,48):=by kernel_rfl
theorem row_nmv {w:World} {B:Nat} {on:Option Addr} {cn:Nat} {O:List Mil.Bytes} (h:w.ownsRow B 9 1 (.slice on O.length cn) O.length (nmv O)) {j:Nat} {z:Mil.Bytes} (hz:O[j]?=some z):∃kn,on=some ⟨kn,0,none⟩∧w.cell? ⟨kn,j,none⟩=some (.string (bs z)):=by
 have hl:=(List.getElem?_eq_some_iff.1 hz).1
 obtain ⟨h1,⟨h2,h3⟩ | ⟨k,cap,cur,hv,hbk,hk,hcap,hmx,hsz,htk⟩⟩:=h
 ·omega
 ·injection hv with e1 e2 e3
  refine ⟨k,e1,?_⟩
  have e4:(nmv O)[j]?=some (.string (bs z)):=by
   show (List.map _ O)[j]?=_
   rw [List.getElem?_map,hz];rfl
  rw [cell_of_row w k _ _ _ _ hk,←e4,←htk,List.getElem?_take]
  rw [if_pos (by omega)]
  simp
theorem UM.grown {B ub g:Nat} {iv nv fv tv:Value} {ns:List Ref.Nd} {I:List Iw} {F:List Ref.Fl} {W w7:World} {b:Option Nat} (h:UM B ub g iv nv fv tv ns I F W) (hg:W.grownBy w7 b)
  (hd:∀q,b=some q→q≠ub∧q≠g∧nv.ownBlock≠some q∧iv.ownBlock≠some q∧fv.ownBlock≠some q∧∀x,x∈I→x.nv.ownBlock≠some q∧x.pv.ownBlock≠some q):UM B ub g iv nv fv tv ns I F w7:=by
 have lu:=(Array.getElem?_eq_some_iff.1 h.un).1
 have lg:=(Array.getElem?_eq_some_iff.1 h.pi.pm.pr).1
 refine ⟨(hg.block ub lu (fun e=>(hd ub e.symm).1 rfl)).trans h.un,⟨⟨(hg.block g lg (fun e=>(hd g e.symm).2.1 rfl)).trans h.pi.pm.pr,?_⟩,?_,fun x hx=>⟨?_,?_⟩⟩,?_⟩
 ·exact own_kept h.pi.pm.nod (fun q hq=>hg.block q (h.pi.pm.nod.lt q hq).2 (fun e=>(hd q e.symm).2.2.1 hq))
 ·exact own_kept h.pi.own (fun q hq=>hg.block q (h.pi.own.lt q hq).2 (fun e=>(hd q e.symm).2.2.2.1 hq))
 ·exact own_kept (h.pi.rows x hx).1 (fun q hq=>hg.block q ((h.pi.rows x hx).1.lt q hq).2 (fun e=>((hd q e.symm).2.2.2.2.2 x hx).1 hq))
 ·exact own_kept (h.pi.rows x hx).2 (fun q hq=>hg.block q ((h.pi.rows x hx).2.lt q hq).2 (fun e=>((hd q e.symm).2.2.2.2.2 x hx).2 hq))
 ·exact own_kept h.fl (fun q hq=>hg.block q (h.fl.lt q hq).2 (fun e=>(hd q e.symm).2.2.2.2.1 hq))
theorem flows_end {B ub g:Nat} {iv nv fv tv:Value} {ns:List Ref.Nd} {I:List Iw} {F:List Ref.Fl} {W w7:World} {y:Ref.Fl} {o:Option Addr} {c k c7:Nat} (h:UM B ub g iv nv fv tv ns I F W) (hub:B≤ub) (hug:ub≠g∧nv.ownBlock≠some ub∧iv.ownBlock≠some ub∧∀x,x∈I→x.nv.ownBlock≠some ub∧x.pv.ownBlock≠some ub) (hd:Ud ub g iv nv fv I) (hv:fv=.slice o F.length c) (hBW:B≤W.heap.size)
  (O7:w7.ownsRow B 136 6 (.slice (some ⟨k,0,none⟩) (F.length+1) c7) (F.length+1) (fls F++Ref.flCells y)) (hg:W.grownBy w7 (Value.slice o F.length c).ownBlock) (hat:(Value.slice o F.length c).ownBlock=some k∨k=W.heap.size) :
  UM B ub g iv nv (.slice (some ⟨k,0,none⟩) (F.length+1) c7) tv ns I (F++[y]) (w7.setCell ⟨ub,1,none⟩ (.slice (some ⟨k,0,none⟩) (F.length+1) c7))∧(w7.cell? ⟨ub,1,none⟩=some fv∧∀q,w7.frozen? ⟨ub,q,none⟩=false) ∧
  (∀q,q < W.heap.size→q≠ub→fv.ownBlock≠some q→(w7.setCell ⟨ub,1,none⟩ (.slice (some ⟨k,0,none⟩) (F.length+1) c7)).heap[q]?=W.heap[q]?)∧Below B W (w7.setCell ⟨ub,1,none⟩ (.slice (some ⟨k,0,none⟩) (F.length+1) c7)):=by
 rw [←hv] at hg hat
 have lu:=(Array.getElem?_eq_some_iff.1 h.un).1
 have lg:=(Array.getElem?_eq_some_iff.1 h.pi.pm.pr).1
 have gr:∀q,q < W.heap.size→fv.ownBlock≠some q→w7.heap[q]?=W.heap[q]?:=fun q h1 h2=>hg.block q h1 (fun e=>h2 e.symm)
 have oth:∀q,q≠ub→(w7.setCell ⟨ub,1,none⟩ (.slice (some ⟨k,0,none⟩) (F.length+1) c7)).heap[q]?=w7.heap[q]?:=fun q hq=>Below.heap_setCell w7 ⟨ub,1,none⟩ _ q hq
 have nu:fv.ownBlock≠some ub:=fun e=>(hd ub e).1 rfl
 have e1:w7.heap[ub]?=some (.cells #[.pointer (some ⟨g,0,none⟩),fv,tv] 129 (0,0)):=(gr ub lu nu).trans h.un
 have kub:k≠ub:=by
  rcases hat with hk | hk
  ·exact (hd k hk).1
  ·omega
 have ky:∀j,(Value.slice (some ⟨k,0,none⟩) (F.length+1) c7).ownBlock=some j→k=j:=fun j hj=>by simpa [Value.ownBlock] using hj
 have both:∀q,q < W.heap.size→q≠ub→fv.ownBlock≠some q→(w7.setCell ⟨ub,1,none⟩ (.slice (some ⟨k,0,none⟩) (F.length+1) c7)).heap[q]?=W.heap[q]?:=fun q h1 h2 h3=>(oth q h2).trans (gr q h1 h3)
 have ap:∀q,(nv.ownBlock=some q∨iv.ownBlock=some q∨∃x,x∈I∧(x.nv.ownBlock=some q∨x.pv.ownBlock=some q))→fv.ownBlock≠some q:=fun q hq e=>by
  obtain ⟨_,_,a3,a4,a5⟩:=hd q e
  rcases hq with hq | hq | ⟨x,hx,hq | hq⟩
  ·exact a3 hq
  ·exact a4 hq
  ·exact (a5 x hx).1 hq
  ·exact (a5 x hx).2 hq
 refine ⟨⟨?_,⟨⟨?_,?_⟩,?_,fun x hx=>⟨?_,?_⟩⟩,?_⟩,⟨?_,fun q=>?_⟩,both,?_⟩
 ·show (w7.heap.modify ub _)[ub]?=_
  rw [Array.getElem?_modify,if_pos rfl,e1];rfl
 ·exact (both g lg (Ne.symm hug.1) (fun e=>(hd g e).2.1 rfl)).trans h.pi.pm.pr
 ·exact own_kept h.pi.pm.nod (fun q hq=>both q (h.pi.pm.nod.lt q hq).2 (fun e=>hug.2.1 (e ▸ hq)) (ap q (Or.inl hq)))
 ·exact own_kept h.pi.own (fun q hq=>both q (h.pi.own.lt q hq).2 (fun e=>hug.2.2.1 (e ▸ hq)) (ap q (Or.inr (Or.inl hq))))
 ·exact own_kept (h.pi.rows x hx).1 (fun q hq=>both q ((h.pi.rows x hx).1.lt q hq).2 (fun e=>(hug.2.2.2 x hx).1 (e ▸ hq)) (ap q (Or.inr (Or.inr ⟨x,hx,Or.inl hq⟩))))
 ·exact own_kept (h.pi.rows x hx).2 (fun q hq=>both q ((h.pi.rows x hx).2.lt q hq).2 (fun e=>(hug.2.2.2 x hx).2 (e ▸ hq)) (ap q (Or.inr (Or.inr ⟨x,hx,Or.inr hq⟩))))
 ·have e2:fls (F++[y])=fls F++Ref.flCells y:=by simp [fls]
  rw [e2,List.length_append]
  exact own_kept O7 (fun j hj=>by
   obtain rfl:=ky j hj
   exact oth k kub)
 ·rw [cell_of_row w7 _ 1 _ _ _ e1];rfl
 ·unfold World.frozen?;rw [e1];simp
 ·exact ((Below.refl B W).grown hg hBW (fun q hq=>(h.fl.lt q hq).1)).setCell hub _
set_option maxRecDepth 100000 in
theorem declare_any (B ub g:Nat) (iv nv tv:Value) (ns:List Ref.Nd) (I:List Iw) (hBg:B≤ub) (hUg:ub≠g∧nv.ownBlock≠some ub∧iv.ownBlock≠some ub∧∀x,x∈I→x.nv.ownBlock≠some ub∧x.pv.ownBlock≠some ub) (hIl:I.length≤60) (hN:∀y,y∈I→y.im.names.length≤4000) (w:World) (h:UM B ub g iv nv (.slice none 0 0) tv ns I [] w) :
  Calls Tryz.prog 57 #[.pointer (some ⟨ub,0,none⟩)] w (DcP B ub g iv nv tv ns I w):=by
 have HP:=hid h
 have HBG:=hid hBg
 have HBU:=hid hBg
 have HUG:=hid hUg
 have HS:=hid hIl
 have HN:=hid hN
 have FB:Hid (Below w.heap.size w (w.alloc (.cells #[.int .i64 0,.int .i64 0] 44))):=(Below.refl _ _).alloc (Nat.le_refl _) _
 have FF:Hid ((w.alloc (.cells #[.int .i64 0,.int .i64 0] 44)).heap[w.heap.size]?=some (.cells #[.int .i64 0,.int .i64 0] 44 (0,0))):=heap_alloc_new w _
 have BF:Hid (B≤w.heap.size):=by
  have:=(Array.getElem?_eq_some_iff.1 h.un).1
  show B≤_
  omega
 obtain ⟨o,c,hiv⟩:=own_shape h.pi.own
 have HIV:=hid hiv
 clear h hBg hUg hIl hN hiv
 go_enter Tryz.func57,Tryz.ntmps57
 go_wp2_with fail
 have HP0:=hid (HP.out.below FB.out)
 have FB0:Hid (Below B w (w.alloc (.cells #[.int .i64 0,.int .i64 0] 44))):=HP.out.base HBG.out FB.out
 have ND:Hid (∀q,w.heap.size≤q→q≠ub∧q≠g∧nv.ownBlock≠some q∧iv.ownBlock≠some q∧∀x,x∈I→x.nv.ownBlock≠some q∧x.pv.ownBlock≠some q):=fun q hq=>by
  obtain ⟨a1,a2,a3,a4,_,a6⟩:=HP.out.new hq
  exact ⟨a1,a2,a3,a4,a6⟩
 generalize w.alloc (.cells #[.int .i64 0,.int .i64 0] 44)=W0 at FB FF HP0 FB0 ⊢
 generalize w.heap.size=fb at FF BF ND ⊢
 obtain ⟨j0,hj0,jz0,jz1,jz2⟩:=info_parts Tryz.infoString
 obtain ⟨f0,hf0,fz0,fz1,fz2⟩:=info_parts Tryz.infoFlow
 go_loopg [3,4] I.length (fun gk s3 s4 wr=>∃(i:Nat) (F:List Ref.Fl) (fv ov:Value) (O:List Mil.Bytes),s3=ov∧s4=.int .i64 (i:Nat)∧i≤I.length∧gk=I.length - i∧Hid (UM B ub g iv nv fv tv ns I F wr)∧Hid (∀q,fv.ownBlock=some q→fb < q)∧Hid (Below B w wr)∧Hid (wr.heap[fb]?=some (.cells #[.int .i64 0,.int .i64 0] 44 (0,0)))∧Hid (wr.ownsRow (fb+1) 9 1 ov O.length (nmv O)∧O.length≤4000*i∧∀q,ov.ownBlock=some q→fv.ownBlock≠some q)∧Hid (F.length≤i∧∀f,f∈F→FlOf I f))
 case atStart=>exact ⟨0,[],.slice none 0 0,.slice none 0 0,[],rfl,rfl,Nat.zero_le _,rfl,HP0,(fun q hq=>by cases hq),FB0,FF,⟨World.ownsRow_nil _ _ _ _,Nat.zero_le _,fun q hq=>by cases hq⟩,⟨Nat.zero_le _,fun f hf=>by cases hf⟩⟩
 case round=>
  obtain ⟨i,F,fv,ov,O,hs3,rfl,hi,hg,KU,KV,KB,KF,KO,KL⟩:=hrel
  have hs4:=hs3.symm
  clear hs3
  subst hs4
  have HG:=hid hg
  clear hg HP0 FB0 FB FF HP
  obtain ⟨oo,co,hov⟩:=own_shape KO.out.1
  have HOV:=hid hov
  have d0:=KU.out.cells.1
  have d3:=KU.out.pi.pm.cells.1
  rw [HIV.out] at d3
  by_cases hlt:i < I.length
  ·have b0:((i:Int) < (I.length:Int))=True:=by simp;omega
   have i1:(0:Int)≤(i:Int):=by omega
   have i2:(i:Int) < (I.length:Int):=by omega
   have hy:I[i]?=some I[i]:=List.getElem?_eq_getElem hlt
   generalize I[i]=y at hy
   obtain ⟨on,cn,hyn⟩:=own_shape (KU.out.pi.rows y (List.mem_of_getElem? hy)).1
   obtain ⟨op,cp,hyp⟩:=own_shape (KU.out.pi.rows y (List.mem_of_getElem? hy)).2
   obtain ⟨k,cc,hv2,c0,c1,c2,c3,c4,c5,c6,c7,_⟩:=KU.out.itemAt hy
   obtain ⟨ho,hcc⟩:o=some ⟨k,0,none⟩∧c=cc:=by
    rw [HIV.out] at hv2
    injection hv2 with h1 h2 h3
    exact ⟨h1,h3⟩
   subst ho
   subst hcc
   have HY:=hid hy
   have HLT:=hid hlt
   have hw:IntKind.i64.wrap ((i:Int)+1)=(i:Int)+1:=by
    have:=HS.out
    simp only [IntKind.wrap_i64];omega
   obtain ⟨ym,yn,yp⟩:=y
   simp only [] at c0 c1 c2 c3 c4 c5 c6 c7 hyn hyp
   subst hyn hyp
   have HBI:Hid (Below wr.heap.size wr (wr.alloc (.cells (itA ym (.slice on ym.names.length cn) (.slice op ym.names.length cp)) 122))):=(Below.refl _ _).alloc (Nat.le_refl _) _
   have IB:Hid ((wr.alloc (.cells (itA ym (.slice on ym.names.length cn) (.slice op ym.names.length cp)) 122)).heap[wr.heap.size]?=some (.cells (itA ym (.slice on ym.names.length cn) (.slice op ym.names.length cp)) 122 (0,0))):=heap_alloc_new wr _
   have LF:Hid (fb < wr.heap.size):=(Array.getElem?_eq_some_iff.1 KF.out).1
   have QI:Hid (fv.ownBlock≠some wr.heap.size):=(KU.out.new (Nat.le_refl _)).2.2.2.2.1
   clear hv2 hy hlt hi
   by_cases hk2:ym.kind=2
   ·have q2:((ym.kind:Int) != 2)=false:=by rw [bne_eq_false_iff_eq];omega
    clear hk2
    go_wp2_with fail
    have WU:=hid (KU.out.below HBI.out)
    have WB:Hid (Below B w (wr.alloc (.cells (itA ym (.slice on ym.names.length cn) (.slice op ym.names.length cp)) 122))):=KB.out.trans (KU.out.base HBG.out HBI.out)
    have WF:Hid ((wr.alloc (.cells (itA ym (.slice on ym.names.length cn) (.slice op ym.names.length cp)) 122)).heap[fb]?=some (.cells #[.int .i64 0,.int .i64 0] 44 (0,0))):=(HBI.out.block _ LF.out).trans KF.out
    have WO:Hid ((wr.alloc (.cells (itA ym (.slice on ym.names.length cn) (.slice op ym.names.length cp)) 122)).ownsRow (fb+1) 9 1 ov O.length (nmv O)):=KO.out.1.alloc _
    have QO:Hid (∀q,ov.ownBlock=some q→q≠wr.heap.size):=fun q hq e=>by have:=(KO.out.1.lt q hq).2;omega
    generalize wr.alloc (.cells (itA ym (.slice on ym.names.length cn) (.slice op ym.names.length cp)) 122)=W at HBI IB WU WB WF WO ⊢
    clear hov c0 c1 c2 c3 c4 c5 c6 c7 d0 d3 HBI
    generalize wr.heap.size=ib at IB QI QO ⊢
    go_loopg [3,7] ym.names.length (fun gj s3 s7 wj=>∃(k7:Nat) (O2:List Mil.Bytes) (ov2:Value),s3=ov2∧s7=.int .i64 (k7:Nat)∧k7≤ym.names.length∧gj=ym.names.length - k7∧Hid (UM B ub g iv nv fv tv ns I F wj)∧Hid (Below B w wj)∧Hid (wj.heap[fb]?=some (.cells #[.int .i64 0,.int .i64 0] 44 (0,0)))∧Hid (wj.heap[ib]?=some (.cells (itA ym (.slice on ym.names.length cn) (.slice op ym.names.length cp)) 122 (0,0)))∧Hid (wj.ownsRow (fb+1) 9 1 ov2 O2.length (nmv O2))∧Hid (O2.length≤4000*i+k7∧(∀q,ov2.ownBlock=some q→fv.ownBlock≠some q)∧∀q,ov2.ownBlock=some q→q≠ib))
    case atStart=>exact ⟨0,O,ov,rfl,rfl,Nat.zero_le _,rfl,WU,WB,WF,IB,WO,⟨KO.out.2.1,KO.out.2.2,QO.out⟩⟩
    case round=>
     obtain ⟨k7,O2,ov2,hs3,rfl,hk7,hg7,LU,LB,LFt,LI,LO,LP⟩:=hrel
     have hs5:=hs3.symm
     clear hs3
     subst hs5
     have HGJ:=hid hg7
     have f5:wr.cell? ⟨ib,5,none⟩=some (.slice on ym.names.length cn):=(cell_of_row wr _ 5 _ _ _ LI.out).trans rfl
     obtain ⟨o2,co2,hov2⟩:=own_shape LO.out
     have HOV2:=hid hov2
     clear hg7 WU WB WF IB WO
     by_cases hl7:k7 < ym.names.length
     ·have b6:((k7:Int) < (ym.names.length:Int))=True:=by simp;omega
      have j1:(0:Int)≤(k7:Int):=by omega
      have j2:(k7:Int) < (ym.names.length:Int):=by omega
      have hz:ym.names[k7]?=some ym.names[k7]:=List.getElem?_eq_getElem hl7
      generalize ym.names[k7]=z at hz
      obtain ⟨z1,z2⟩:=z
      have rws:=LU.out.pi.rows _ (List.mem_of_getElem? HY.out)
      obtain ⟨kn,hon,cz⟩:=row_name rws.1 hz
      obtain ⟨kp,hop,cp2⟩:=row_place rws.2 hz
      have HL7:=hid hl7
      have hw7:IntKind.i64.wrap ((k7:Int)+1)=(k7:Int)+1:=by
       have h1:ym.names.length≤4000:=HN.out _ (List.mem_of_getElem? HY.out)
       simp only [IntKind.wrap_i64];omega
      have f6:wr.cell? ⟨ib,6,none⟩=some (.slice op ym.names.length cp):=(cell_of_row wr _ 6 _ _ _ LI.out).trans rfl
      have HON:=hid hon
      rw [hon] at f5
      rw [hop] at f6
      have OB:Hid (O2.length≤300000):=by
       have h1:=LP.out.1
       have h2:ym.names.length≤4000:=HN.out _ (List.mem_of_getElem? HY.out)
       have h3:=HS.out
       have h4:=HLT.out
       show O2.length≤300000
       omega
      clear hz rws hop hon hl7 hk7
      go_wp2_with fail
      rename World=>V
      go_loopg [8] O2.length (fun gj s8 wj=>∃(j8:Nat),s8=.int .i64 (j8:Nat)∧j8≤O2.length∧gj=O2.length - j8∧Hid (Below V.heap.size V wj))
      case atStart=>exact ⟨0,rfl,Nat.zero_le _,rfl,Below.refl _ _⟩
      case round=>
       obtain ⟨j8,rfl,h8,hg8,JB⟩:=hrel
       have HG8:=hid hg8
       have up:∀{q:Addr} {v:Value},V.cell? q=some v→∀w',Below wr.heap.size wr w'→w'.cell? q=some v:=fun hq w' hb=>((below_step JB.out hb).cell (lt_of_cell hq)).trans hq
       have HON2:Hid (on=some ⟨kn,0,none⟩):=HON.out
       by_cases h88:j8 < O2.length
       ·have b8:((j8:Int) < (O2.length:Int))=True:=by simp;omega
        have m1:(0:Int)≤(j8:Int):=by omega
        have m2:(j8:Int) < (O2.length:Int):=by omega
        have ha:O2[j8]?=some O2[j8]:=List.getElem?_eq_getElem h88
        generalize O2[j8]=z8 at ha
        have lo:=LO.out
        rw [hov2] at lo
        obtain ⟨ko,hko,cz8⟩:=row_nmv lo ha
        subst hko
        have v1:=up f5
        have v2:=up cz
        have v3:=up cz8
        have HL8:=hid h88
        have hw8:IntKind.i64.wrap ((j8:Int)+1)=(j8:Int)+1:=by
         have h1:=OB.out
         simp only [IntKind.wrap_i64];omega
        have F6:Hid (∀w',Below wr.heap.size wr w'→w'.cell? ⟨ib,6,none⟩=some (.slice (some ⟨kp,0,none⟩) ym.names.length cp)):=up f6
        have C2:Hid (∀w',Below wr.heap.size wr w'→w'.cell? ⟨kp,k7,none⟩=some (.int .i64 (z2:Nat))):=up cp2
        have PU:=hid (LU.out.below JB.out)
        have PB:Hid (Below B w wr):=LB.out.trans (LU.out.base HBG.out JB.out)
        have PF:Hid (wr.heap[fb]?=some (.cells #[.int .i64 0,.int .i64 0] 44 (0,0))):=(JB.out.block _ (Array.getElem?_eq_some_iff.1 LFt.out).1).trans LFt.out
        have JB2:Hid (∀w',Below wr.heap.size wr w'→Below V.heap.size V w'):=fun w' hb=>below_step JB.out hb
        have HV2:=HOV2
        clear up f5 cz cz8 f6 cp2 ha lo h88 h8 hg8 hov2 HOV2 JB
        by_cases hz8:z8=z1
        ·have q8:((bs z8).toList==(bs z1).toList)=true:=by rw [hz8];simp
         clear hz8
         go_wp2_with fail
         go_region_held3 (fun w'=>Below wr.heap.size wr w') (first | assumption | exact (Below.refl _ _).drew | exact Below.alloc (by assumption) (Below.size (by assumption)) _) (fail)
         have x6:wr.drew.cell? ⟨ib,6,none⟩=some (.slice (some ⟨kp,0,none⟩) ym.names.length cp):=F6.out _ (Below.refl _ _).drew
         have x2:wr.drew.cell? ⟨kp,k7,none⟩=some (.int .i64 (z2:Nat)):=C2.out _ (Below.refl _ _).drew
         have PF2:Hid (wr.drew.heap[fb]?=some (.cells #[.int .i64 0,.int .i64 0] 44 (0,0))):=PF.out
         have PU2:Hid (UM B ub g iv nv fv tv ns I F wr.drew):=PU.out.below (Below.refl _ _).drew
         have PB2:Hid (Below B w wr.drew):=PB.out.drew
         obtain ⟨g0,g1,z0⟩:=fault_at PF2.out
         clear v1 v2 v3 PF PU PB
         generalize wr.drew=WX at PF2 PU2 PB2 x6 x2 g0 g1 z0 ⊢
         go_wp2_with fail
         obtain ⟨a2,a3⟩:=two_set (u:=.int .i64 5) (v:=.int .i64 (z2:Nat)) PF2.out
         refine bodyPost_ret (v:=.agg #[.int .i64 5,.int .i64 (z2:Nat)]) (by simp [results,Tryz.results57,a2,a3,go_sem]) rfl ?_
         obtain ⟨n1,n2,n3,n4,n6⟩:=ND.out fb (Nat.le_refl _)
         refine ⟨5,(z2:Nat),F,fv,rfl,PU2.out.off ⟨n1,n2,n3,n4,(fun e=>by have:=KV.out fb e;omega),n6⟩ (fun q hq=>(Below.heap_setCell _ ⟨fb,1,none⟩ _ q hq).trans (Below.heap_setCell _ ⟨fb,0,none⟩ _ q hq)),?_,(PB2.out.setCell BF.out _).setCell BF.out _,by have:=KL.out.1;have:=HLT.out;omega,KL.out.2⟩
         intro q hq
         exact ND.out q (Nat.le_of_lt (KV.out q hq))
        ·have q8:((bs z8).toList==(bs z1).toList)=false:=by
          rw [beq_eq_false_iff_ne]
          rw [Lib.toList_data,bs_list,Lib.toList_data,bs_list]
          exact hz8
         clear hz8
         go_wp2_with fail
         go_region_held3 (fun w'=>Below wr.heap.size wr w') (first | assumption | exact (Below.refl _ _).drew | exact Below.alloc (by assumption) (Below.size (by assumption)) _) (fail)
         all_goals go_wp2_with fail
         all_goals go_roundg (O2.length - (j8+1))
         case measure=>
          have h1:=HG8.out
          have h2:=HL8.out
          omega
         case rel=>exact ⟨j8+1,by simp,HL8.out,rfl,JB2.out _ (by assumption)⟩
       ·have b8:((j8:Int) < (O2.length:Int))=False:=by simp;omega
        have PU:=hid (LU.out.below JB.out)
        have PB:Hid (Below B w wr):=LB.out.trans (LU.out.base HBG.out JB.out)
        have PF:Hid (wr.heap[fb]?=some (.cells #[.int .i64 0,.int .i64 0] 44 (0,0))):=(JB.out.block _ (Array.getElem?_eq_some_iff.1 LFt.out).1).trans LFt.out
        have PI2:Hid (wr.heap[ib]?=some (.cells (itA ym (.slice on ym.names.length cn) (.slice op ym.names.length cp)) 122 (0,0))):=(JB.out.block _ (Array.getElem?_eq_some_iff.1 LI.out).1).trans LI.out
        have PO:Hid (wr.ownsRow (fb+1) 9 1 ov2 O2.length (nmv O2)):=own_kept LO.out (fun q hq=>JB.out.block q (LO.out.lt q hq).2)
        have v1:=up f5 _ (Below.refl _ _)
        have v2:=up cz _ (Below.refl _ _)
        have OW:Hid ((wr.alloc (.cells #[.string (bs z1)] 9)).ownsRow (fb+1) 9 1 (.slice o2 O2.length co2) O2.length (nmv O2)):=by
         show World.ownsRow _ _ _ _ _ _ _
         rw [←HOV2.out]
         exact PO.out.alloc _
        have NW:Hid (∀(j:Nat) (u:Value),([.string (bs z1)]:List Value)[j]?=some u→(wr.alloc (.cells #[.string (bs z1)] 9)).cell? ((⟨wr.heap.size,0,none⟩:Addr).add j)=some u):=fun j u h=>news_cells wr [.string (bs z1)] 9 j u h
        have XB:Hid (Below wr.heap.size wr (wr.alloc (.cells #[.string (bs z1)] 9))):=(Below.refl _ _).alloc (Nat.le_refl _) _
        have BW:Hid (fb+1≤wr.heap.size):=(Array.getElem?_eq_some_iff.1 PF.out).1
        clear up f5 cz f6 cp2 h88 h8 hg8 hov2 LU LB LFt LI LO JB
        go_upto_region 13 with (at_builtin;refine wpList_append_lies _ rfl (.tmp 92) (.tmp 98) 119 rfl (fb+1) 9 j0 (.string ⟨#[]⟩) 1 16 Tryz.underlying119 hj0 jz0 jz1 jz2 rfl (by decide) (.slice o2 O2.length co2) O2.length (nmv O2) rfl OW.out ⟨wr.heap.size,0,none⟩ 1 1 [.string (bs z1)] rfl rfl NW.out (by intro u hu;simp at hu;subst hu;rfl) (by decide) (by unfold maxLen;have:=OB.out;omega) (by have:=OB.out;omega) (by have:=BW.out;simp;omega) _ rfl ?_;intro k9 c9 w9 O9 hg9 hat9 hlt9)
        have sz:(wr.alloc (.cells #[.string (bs z1)] 9)).heap.size=wr.heap.size+1:=by simp
        have HD9:∀q,(Value.slice o2 O2.length co2).ownBlock=some q→q≠ub∧q≠g∧nv.ownBlock≠some q∧iv.ownBlock≠some q∧fv.ownBlock≠some q∧∀x,x∈I→x.nv.ownBlock≠some q∧x.pv.ownBlock≠some q:=fun q hq=>by
         rw [←HOV2.out] at hq
         have h1:=(PO.out.lt q hq).1
         obtain ⟨n1,n2,n3,n4,n6⟩:=ND.out q (by omega)
         exact ⟨n1,n2,n3,n4,LP.out.2.1 q hq,n6⟩
        have M1:Hid (UM B ub g iv nv fv tv ns I F w9):=(PU.out.below XB.out).grown hg9 HD9
        have M2:Hid (Below B w w9):=PB.out.trans ((PU.out.base HBG.out XB.out).trans ((Below.refl B _).grown hg9 (by have h1:=BW.out;have h2:=BF.out;omega) (fun q hq=>by
         rw [←HOV2.out] at hq
         have h1:=(PO.out.lt q hq).1
         have h2:=BF.out
         omega)))
        have M3:Hid (w9.heap[fb]?=some (.cells #[.int .i64 0,.int .i64 0] 44 (0,0))):=(hg9.block fb (by have:=BW.out;omega) (fun e=>by
         rw [←HOV2.out] at e
         have h1:=(PO.out.lt fb e.symm).1
         omega)).trans ((XB.out.block _ BW.out).trans PF.out)
        have lib:=(Array.getElem?_eq_some_iff.1 PI2.out).1
        have M4:Hid (w9.heap[ib]?=some (.cells (itA ym (.slice on ym.names.length cn) (.slice op ym.names.length cp)) 122 (0,0))):=(hg9.block ib (by omega) (fun e=>by
         rw [←HOV2.out] at e
         exact LP.out.2.2 ib e.symm rfl)).trans ((XB.out.block _ lib).trans PI2.out)
        have M5:Hid (w9.ownsRow (fb+1) 9 1 (.slice (some ⟨k9,0,none⟩) (O2.length+1) c9) (O2++[z1]).length (nmv (O2++[z1]))):=by
         have e2:nmv (O2++[z1])=nmv O2++[Value.string (bs z1)]:=by simp [nmv]
         show World.ownsRow _ _ _ _ _ _ _
         rw [e2,List.length_append]
         exact O9
        have M6:Hid (fv.ownBlock≠some k9∧k9≠ib):=by
         rcases hat9 with hk | hk
         ·rw [←HOV2.out] at hk
          exact ⟨LP.out.2.1 k9 hk,LP.out.2.2 k9 hk⟩
         ·refine ⟨fun e=>?_,by omega⟩
          have:=(PU.out.fl.lt k9 e).2
          omega
        clear O9 hg9 hat9 hlt9 HD9 sz lib OW NW XB PU PB PF PI2 PO v1 v2
        go_wp2_with fail
        all_goals go_roundg (ym.names.length - (k7+1))
        case measure=>
         have h1:=HGJ.out
         have h2:=HL7.out
         omega
        case rel=>
         refine ⟨k7+1,O2++[z1],.slice (some ⟨k9,0,none⟩) (O2.length+1) c9,rfl,rfl,HL7.out,rfl,M1,M2,M3,M4,M5,⟨?_,?_,?_⟩⟩
         ·rw [List.length_append,List.length_singleton]
          have:=LP.out.1
          omega
         ·intro q hq
          have:k9=q:=by simpa [Value.ownBlock] using hq
          rw [←this];exact M6.out.1
         ·intro q hq
          have:k9=q:=by simpa [Value.ownBlock] using hq
          rw [←this];exact M6.out.2
     ·have b6:((k7:Int) < (ym.names.length:Int))=False:=by simp;omega
      have HK7:=hid hk7
      clear hl7 hk7 hov2
      go_wp2_with fail
      all_goals go_roundg (I.length - (i+1))
      case measure=>
       have h1:=HG.out
       have h2:=HLT.out
       omega
      case rel=>
       refine ⟨i+1,F,fv,ov2,O2,rfl,rfl,HLT.out,rfl,LU,KV,LB,LFt,⟨LO.out,?_,LP.out.2.1⟩,⟨by have:=KL.out.1;omega,KL.out.2⟩⟩
       have h1:=LP.out.1
       have h2:ym.names.length≤4000:=HN.out _ (List.mem_of_getElem? HY.out)
       have h3:=HK7.out
       omega
   ·have q2:((ym.kind:Int) != 2)=true:=by rw [bne_iff_ne];omega
    have HK2:=hid hk2
    clear hk2
    go_wp2_with fail
    have WU:=hid (KU.out.below HBI.out)
    have WB:Hid (Below B w (wr.alloc (.cells (itA ym (.slice on ym.names.length cn) (.slice op ym.names.length cp)) 122))):=KB.out.trans (KU.out.base HBG.out HBI.out)
    have WF:Hid ((wr.alloc (.cells (itA ym (.slice on ym.names.length cn) (.slice op ym.names.length cp)) 122)).heap[fb]?=some (.cells #[.int .i64 0,.int .i64 0] 44 (0,0))):=(HBI.out.block _ LF.out).trans KF.out
    have WO:Hid ((wr.alloc (.cells (itA ym (.slice on ym.names.length cn) (.slice op ym.names.length cp)) 122)).ownsRow (fb+1) 9 1 ov O.length (nmv O)):=KO.out.1.alloc _
    generalize wr.alloc (.cells (itA ym (.slice on ym.names.length cn) (.slice op ym.names.length cp)) 122)=W at HBI IB WU WB WF WO ⊢
    refine (find_any B ub g iv nv fv tv ns I F (by have:=KL.out.1;have:=HS.out;have:=HLT.out;omega) ym.name _ WU.out).mono ?_
    rintro r w1 ⟨rfl,hb1⟩
    have VU:=hid (WU.out.below hb1)
    have VB:Hid (Below B w w1):=WB.out.trans (WU.out.base HBG.out hb1)
    have VF:Hid (w1.heap[fb]?=some (.cells #[.int .i64 0,.int .i64 0] 44 (0,0))):=(hb1.block _ (Array.getElem?_eq_some_iff.1 WF.out).1).trans WF.out
    have VI:Hid (w1.heap[wr.heap.size]?=some (.cells (itA ym (.slice on ym.names.length cn) (.slice op ym.names.length cp)) 122 (0,0))):=(hb1.block _ (Array.getElem?_eq_some_iff.1 IB.out).1).trans IB.out
    have VO:Hid (w1.ownsRow (fb+1) 9 1 ov O.length (nmv O)):=own_kept WO.out (fun k hk=>hb1.block k (WO.out.lt k hk).2)
    clear hb1 c0 c1 c2 c3 c4 c5 c6 c7 d0 d3 HBI IB WU WB WF WO
    cases hf:Ref.fnd F ym.name with
    | some jf=>
     have e:Ref.fndI F ym.name=(jf:Int):=by unfold Ref.fndI;rw [hf]
     have q5:((0:Int)≤(jf:Int))=True:=by simp
     have t1:w1.cell? ⟨wr.heap.size,1,none⟩=some (.int .i64 (ym.at_:Nat)):=(cell_of_row w1 _ 1 _ _ _ VI.out).trans rfl
     obtain ⟨g0,g1,z0⟩:=fault_at VF.out
     rw [e]
     clear e hf
     go_wp2_with fail
     obtain ⟨a2,a3⟩:=two_set (u:=.int .i64 5) (v:=.int .i64 (ym.at_:Nat)) VF.out
     refine bodyPost_ret (v:=.agg #[.int .i64 5,.int .i64 (ym.at_:Nat)]) (by simp [results,Tryz.results57,a2,a3,go_sem]) rfl ?_
     obtain ⟨n1,n2,n3,n4,n6⟩:=ND.out fb (Nat.le_refl _)
     refine ⟨5,(ym.at_:Nat),F,fv,rfl,VU.out.off ⟨n1,n2,n3,n4,(fun e=>by have:=KV.out fb e;omega),n6⟩ (fun q hq=>(Below.heap_setCell _ ⟨fb,1,none⟩ _ q hq).trans (Below.heap_setCell _ ⟨fb,0,none⟩ _ q hq)),?_,(VB.out.setCell BF.out _).setCell BF.out _,by have:=KL.out.1;have:=HLT.out;omega,KL.out.2⟩
     intro q hq
     exact ND.out q (Nat.le_of_lt (KV.out q hq))
    | none=>
     have e:Ref.fndI F ym.name=-1:=by unfold Ref.fndI;rw [hf]
     rw [e]
     clear e hf
     go_wp2_with fail
     have XI:Hid (wr.heap.size < w1.heap.size):=(Array.getElem?_eq_some_iff.1 VI.out).1
     generalize wr.heap.size=ib at VI QI XI ⊢
     obtain ⟨of2,cf2,hfv⟩:=own_shape VU.out.fl
     have HFV:=hid hfv
     have u1:=VU.out.cells.2.1
     rw [hfv] at u1
     have p0:w1.cell? ⟨ib,0,none⟩=some (.int .i64 (ym.kind:Nat)):=(cell_of_row w1 _ 0 _ _ _ VI.out).trans rfl
     have p2:w1.cell? ⟨ib,2,none⟩=some (.string (bs ym.name)):=(cell_of_row w1 _ 2 _ _ _ VI.out).trans rfl
     have p3:w1.cell? ⟨ib,3,none⟩=some (.int .i64 (ym.type:Nat)):=(cell_of_row w1 _ 3 _ _ _ VI.out).trans rfl
     have p4:w1.cell? ⟨ib,4,none⟩=some (.int .i64 (ym.period:Nat)):=(cell_of_row w1 _ 4 _ _ _ VI.out).trans rfl
     have XB:Hid (Below w1.heap.size w1 (w1.alloc (.cells #[.string (bs ym.name),.int .i64 (ym.type:Nat),.int .i64 (ym.period:Nat),.bool ((ym.kind:Int)==1),.bool false,.int .i64 (i:Nat)] 136))):=(Below.refl _ _).alloc (Nat.le_refl _) _
     have XU:=hid (VU.out.below XB.out)
     have OW:Hid ((w1.alloc (.cells #[.string (bs ym.name),.int .i64 (ym.type:Nat),.int .i64 (ym.period:Nat),.bool ((ym.kind:Int)==1),.bool false,.int .i64 (i:Nat)] 136)).ownsRow B 136 6 (.slice of2 F.length cf2) F.length (fls F)):=by
      show World.ownsRow _ _ _ _ _ _ _
      rw [←HFV.out]
      exact XU.out.fl
     have NW:Hid (∀(j:Nat) (u:Value),(Ref.flCells ⟨ym.name,ym.type,ym.period,((ym.kind:Int)==1),false,i⟩)[j]?=some u→(w1.alloc (.cells #[.string (bs ym.name),.int .i64 (ym.type:Nat),.int .i64 (ym.period:Nat),.bool ((ym.kind:Int)==1),.bool false,.int .i64 (i:Nat)] 136)).cell? ((⟨w1.heap.size,0,none⟩:Addr).add j)=some u):=fun j u h=>news_cells w1 (Ref.flCells ⟨ym.name,ym.type,ym.period,((ym.kind:Int)==1),false,i⟩) 136 j u h
     have LE:Hid (F.length≤60):=by
      have h1:=KL.out.1
      have h2:=HLT.out
      have h3:=HS.out
      show F.length≤60
      omega
     have BW:Hid (B≤(w1.alloc (.cells #[.string (bs ym.name),.int .i64 (ym.type:Nat),.int .i64 (ym.period:Nat),.bool ((ym.kind:Int)==1),.bool false,.int .i64 (i:Nat)] 136)).heap.size):=Nat.le_trans (Nat.le_trans HBG.out (Nat.le_of_lt (Array.getElem?_eq_some_iff.1 VU.out.un).1)) XB.out.size
     clear hfv hj0 jz0 jz1 jz2
     refine wp_region_L (fun w'=>w'.cell? ⟨ub,1,none⟩=some (.slice of2 F.length cf2)∧w'.cell? ⟨ib,2,none⟩=some (.string (bs ym.name))∧w'.cell? ⟨ib,3,none⟩=some (.int .i64 (ym.type:Nat))∧w'.cell? ⟨ib,4,none⟩=some (.int .i64 (ym.period:Nat))∧w'.cell? ⟨ib,0,none⟩=some (.int .i64 (ym.kind:Nat))) 20 (by kernel_rfl) (by (try dsimp only);go_keep) (fun hHeld=>?_)
     refine wpAnyL_take (i := 0) (oi := { dst := some 43, op := Op.move (Operand.tmp 0), type := 53, pos := "check.go:44", after := #[], guard := none }) (v := ?v0) rfl (by kernel_rfl) (by kernel_rfl) (by kernel_rfl) (by kernel_rfl) (fun _ _ _ h => h) (Or.inl ⟨by rfl, ?y0⟩) (by assumption) ?r0
     case y0=>(intro w' hSw;(try dsimp only at hSw);go_simp <;> with_reducible rfl)
     try simp only [Act.put,List.setIfInBounds_toArray,List.set_cons_zero,List.set_cons_succ]
     refine wpAnyL_take (i := 1) (oi := { dst := some 44, op := Op.move (Operand.tmp 0), type := 53, pos := "check.go:44", after := #[], guard := none }) (v := ?v1) rfl (by kernel_rfl) (by kernel_rfl) (by kernel_rfl) (by kernel_rfl) (fun _ _ _ h => h) (Or.inl ⟨by rfl, ?y1⟩) (by assumption) ?r1
     case y1=>(intro w' hSw;(try dsimp only at hSw);go_simp <;> with_reducible rfl)
     try simp only [Act.put,List.setIfInBounds_toArray,List.set_cons_zero,List.set_cons_succ]
     refine wpAnyL_take (i := 2) (oi := { dst := some 45, op := Op.nilCheck (Operand.tmp 44), type := 0, pos := "check.go:44", after := #[{ on := 1, ground := Ground.data }], guard := none }) (v := ?v2) rfl (by kernel_rfl) (by kernel_rfl) (by kernel_rfl) (by kernel_rfl) (fun _ _ _ h => h) (Or.inl ⟨by rfl, ?y2⟩) (by assumption) ?r2
     case y2=>(intro w' hSw;(try dsimp only at hSw);go_simp <;> with_reducible rfl)
     try simp only [Act.put,List.setIfInBounds_toArray,List.set_cons_zero,List.set_cons_succ]
     refine wpAnyL_take (i := 3) (oi := { dst := some 46, op := Op.fieldAddr 129 (Operand.tmp 45) 1, type := 0, pos := "check.go:44", after := #[{ on := 2, ground := Ground.data }], guard := none }) (v := ?v3) rfl (by kernel_rfl) (by kernel_rfl) (by kernel_rfl) (by kernel_rfl) (fun _ _ _ h => h) (Or.inl ⟨by rfl, ?y3⟩) (by assumption) ?r3
     case y3=>(intro w' hSw;(try dsimp only at hSw);go_simp <;> with_reducible rfl)
     try simp only [Act.put,List.setIfInBounds_toArray,List.set_cons_zero,List.set_cons_succ]
     refine wpAnyL_take (i := 4) (oi := { dst := some 47, op := Op.load 126 (Operand.tmp 46), type := 126, pos := "check.go:44", after := #[{ on := 3, ground := Ground.data }], guard := none }) (v := ?v4) rfl (by kernel_rfl) (by kernel_rfl) (by kernel_rfl) (by kernel_rfl) (fun _ _ _ h => h) (Or.inl ⟨by rfl, ?y4⟩) (by assumption) ?r4
     case y4=>(intro w' hSw;(try dsimp only at hSw);go_simp <;> with_reducible rfl)
     try simp only [Act.put,List.setIfInBounds_toArray,List.set_cons_zero,List.set_cons_succ]
     refine wpAnyL_take (i := 5) (oi := { dst := some 48, op := Op.fieldAddr 122 (Operand.tmp 5) 2, type := 0, pos := "check.go:44", after := #[], guard := none }) (v := ?v5) rfl (by kernel_rfl) (by kernel_rfl) (by kernel_rfl) (by kernel_rfl) (fun _ _ _ h => h) (Or.inl ⟨by rfl, ?y5⟩) (by assumption) ?r5
     case y5=>(intro w' hSw;(try dsimp only at hSw);go_simp <;> with_reducible rfl)
     try simp only [Act.put,List.setIfInBounds_toArray,List.set_cons_zero,List.set_cons_succ]
     refine wpAnyL_take (i := 6) (oi := { dst := some 49, op := Op.load 9 (Operand.tmp 48), type := 9, pos := "check.go:44", after := #[{ on := 5, ground := Ground.data }], guard := none }) (v := ?v6) rfl (by kernel_rfl) (by kernel_rfl) (by kernel_rfl) (by kernel_rfl) (fun _ _ _ h => h) (Or.inl ⟨by rfl, ?y6⟩) (by assumption) ?r6
     case y6=>(intro w' hSw;(try dsimp only at hSw);go_simp <;> with_reducible rfl)
     try simp only [Act.put,List.setIfInBounds_toArray,List.set_cons_zero,List.set_cons_succ]
     refine wpAnyL_take (i := 7) (oi := { dst := some 50, op := Op.fieldAddr 122 (Operand.tmp 5) 3, type := 0, pos := "check.go:44", after := #[], guard := none }) (v := ?v7) rfl (by kernel_rfl) (by kernel_rfl) (by kernel_rfl) (by kernel_rfl) (fun _ _ _ h => h) (Or.inl ⟨by rfl, ?y7⟩) (by assumption) ?r7
     case y7=>(intro w' hSw;(try dsimp only at hSw);go_simp <;> with_reducible rfl)
     try simp only [Act.put,List.setIfInBounds_toArray,List.set_cons_zero,List.set_cons_succ]
     refine wpAnyL_take (i := 8) (oi := { dst := some 51, op := Op.load 3 (Operand.tmp 50), type := 3, pos := "check.go:44", after := #[{ on := 7, ground := Ground.data }], guard := none }) (v := ?v8) rfl (by kernel_rfl) (by kernel_rfl) (by kernel_rfl) (by kernel_rfl) (fun _ _ _ h => h) (Or.inl ⟨by rfl, ?y8⟩) (by assumption) ?r8
     case y8=>(intro w' hSw;(try dsimp only at hSw);go_simp <;> with_reducible rfl)
     try simp only [Act.put,List.setIfInBounds_toArray,List.set_cons_zero,List.set_cons_succ]
     refine wpAnyL_take (i := 9) (oi := { dst := some 52, op := Op.fieldAddr 122 (Operand.tmp 5) 4, type := 0, pos := "check.go:44", after := #[], guard := none }) (v := ?v9) rfl (by kernel_rfl) (by kernel_rfl) (by kernel_rfl) (by kernel_rfl) (fun _ _ _ h => h) (Or.inl ⟨by rfl, ?y9⟩) (by assumption) ?r9
     case y9=>(intro w' hSw;(try dsimp only at hSw);go_simp <;> with_reducible rfl)
     try simp only [Act.put,List.setIfInBounds_toArray,List.set_cons_zero,List.set_cons_succ]
     refine wpAnyL_take (i := 10) (oi := { dst := some 53, op := Op.load 3 (Operand.tmp 52), type := 3, pos := "check.go:44", after := #[{ on := 9, ground := Ground.data }], guard := none }) (v := ?v10) rfl (by kernel_rfl) (by kernel_rfl) (by kernel_rfl) (by kernel_rfl) (fun _ _ _ h => h) (Or.inl ⟨by rfl, ?y10⟩) (by assumption) ?r10
     case y10=>(intro w' hSw;(try dsimp only at hSw);go_simp <;> with_reducible rfl)
     try simp only [Act.put,List.setIfInBounds_toArray,List.set_cons_zero,List.set_cons_succ]
     refine wpAnyL_take (i := 11) (oi := { dst := some 54, op := Op.fieldAddr 122 (Operand.tmp 5) 0, type := 0, pos := "check.go:44", after := #[], guard := none }) (v := ?v11) rfl (by kernel_rfl) (by kernel_rfl) (by kernel_rfl) (by kernel_rfl) (fun _ _ _ h => h) (Or.inl ⟨by rfl, ?y11⟩) (by assumption) ?r11
     case y11=>(intro w' hSw;(try dsimp only at hSw);go_simp <;> with_reducible rfl)
     try simp only [Act.put,List.setIfInBounds_toArray,List.set_cons_zero,List.set_cons_succ]
     refine wpAnyL_take (i := 12) (oi := { dst := some 55, op := Op.load 3 (Operand.tmp 54), type := 3, pos := "check.go:44", after := #[{ on := 11, ground := Ground.data }], guard := none }) (v := ?v12) rfl (by kernel_rfl) (by kernel_rfl) (by kernel_rfl) (by kernel_rfl) (fun _ _ _ h => h) (Or.inl ⟨by rfl, ?y12⟩) (by assumption) ?r12
     case y12=>(intro w' hSw;(try dsimp only at hSw);go_simp <;> with_reducible rfl)
     try simp only [Act.put,List.setIfInBounds_toArray,List.set_cons_zero,List.set_cons_succ]
     refine wpAnyL_take (i := 13) (oi := { dst := some 56, op := Op.binOp BinOp.eql 3 (Operand.tmp 55) (Operand.const (Value.int IntKind.i64 1)) 3, type := 4, pos := "check.go:44", after := #[{ on := 12, ground := Ground.data }], guard := none }) (v := ?v13) rfl (by kernel_rfl) (by kernel_rfl) (by kernel_rfl) (by kernel_rfl) (fun _ _ _ h => h) (Or.inl ⟨by rfl, ?y13⟩) (by assumption) ?r13
     case y13=>(intro w' hSw;(try dsimp only at hSw);go_simp <;> with_reducible rfl)
     try simp only [Act.put,List.setIfInBounds_toArray,List.set_cons_zero,List.set_cons_succ]
     refine wpAnyL_take (i := 14) (oi := { dst := some 57, op := Op.move (Operand.tmp 4), type := 3, pos := "check.go:44", after := #[], guard := none }) (v := ?v14) rfl (by kernel_rfl) (by kernel_rfl) (by kernel_rfl) (by kernel_rfl) (fun _ _ _ h => h) (Or.inl ⟨by rfl, ?y14⟩) (by assumption) ?r14
     case y14=>(intro w' hSw;(try dsimp only at hSw);go_simp <;> with_reducible rfl)
     try simp only [Act.put,List.setIfInBounds_toArray,List.set_cons_zero,List.set_cons_succ]
     refine wpAnyL_take (i := 15) (oi := { dst := some 58, op := Op.build 136 #[(0, Operand.tmp 49), (1, Operand.tmp 51), (2, Operand.tmp 53), (3, Operand.tmp 56), (5, Operand.tmp 57)], type := 136, pos := "check.go:44", after := #[{ on := 6, ground := Ground.data }, { on := 8, ground := Ground.data }, { on := 10, ground := Ground.data }, { on := 13, ground := Ground.data }, { on := 14, ground := Ground.data }], guard := none }) (v := ?v15) rfl (by kernel_rfl) (by kernel_rfl) (by kernel_rfl) (by kernel_rfl) (fun _ _ _ h => h) (Or.inl ⟨by rfl, ?y15⟩) (by assumption) ?r15
     case y15=>(intro w' hSw;(try dsimp only at hSw);go_simp <;> with_reducible rfl)
     try simp only [Act.put,List.setIfInBounds_toArray,List.set_cons_zero,List.set_cons_succ]
     refine wpAnyL_one (i := 16) (o := { dst := some 59, op := Op.buildSlice 126 1 #[(0, Operand.tmp 58)], type := 126, pos := "check.go:44", after := #[{ on := 15, ground := Ground.data }], guard := none }) (by kernel_rfl) rfl (fun K hK => ?_)
     go_simp
     refine hK.out _ _ (Or.inr ?s16) (fun h16=>?r16)
     case s16=>((try dsimp only);go_keep)
     replace h16:=h16.resolve_left (by decide)
     clear hK K
     try simp only [Act.put,List.setIfInBounds_toArray,List.set_cons_zero,List.set_cons_succ]
     refine wpAnyL_one (i := 17) (o := { dst := some 60, op := Op.call { callee := Callee.builtin Builtin.append, args := #[Operand.tmp 47, Operand.tmp 59], argTypes := #[126, 126] }, type := 126, pos := "check.go:44", after := #[{ on := 4, ground := Ground.data }, { on := 16, ground := Ground.data }], guard := none }) (by kernel_rfl) rfl (fun K hK => ?_)
     refine step_append_lies _ rfl (.tmp 47) (.tmp 59) 126 rfl B 136 f0 (.agg #[.string ⟨#[]⟩,.int .i64 0,.int .i64 0,.bool false,.bool false,.int .i64 0]) 6 48 Tryz.underlying126 hf0 fz0 fz1 fz2 rfl (by decide) (.slice of2 F.length cf2) F.length (fls F) rfl OW.out ⟨w1.heap.size,0,none⟩ 1 1 (Ref.flCells ⟨ym.name,ym.type,ym.period,((ym.kind:Int)==1),false,i⟩) rfl rfl NW.out (by intro u hu;simp [Ref.flCells] at hu;rcases hu with rfl | rfl | rfl | rfl | rfl | rfl <;> rfl) (by decide) (by unfold maxLen;have:=LE.out;omega) (by have:=LE.out;omega) BW.out _ rfl ?_
     intro k7 c7 w7 O7 hg7 hat7 hlt7
     obtain ⟨E1,⟨x1,xz⟩,E3,E4⟩:=flows_end (XU.out.below (Below.refl _ _).drew) HBU.out HUG.out (fun q hq=>ND.out q (Nat.le_of_lt (KV.out q hq))) HFV.out BW.out O7 hg7 hat7
     rw [HFV.out] at x1
     have EI:w7.heap[ib]?=some (.cells (itA ym (.slice on ym.names.length cn) (.slice op ym.names.length cp)) 122 (0,0)):=(hg7.block ib (by have:=XI.out;simp;omega) (fun e=>QI.out (by rw [HFV.out];exact e.symm))).trans ((Below.heap_alloc w1 _ ib XI.out).trans VI.out)
     have xl:w7.cell? ⟨ib,2,none⟩=some (.string (bs ym.name))∧w7.cell? ⟨ib,3,none⟩=some (.int .i64 (ym.type:Nat))∧w7.cell? ⟨ib,4,none⟩=some (.int .i64 (ym.period:Nat))∧w7.cell? ⟨ib,0,none⟩=some (.int .i64 (ym.kind:Nat)):=⟨(cell_of_row w7 _ 2 _ _ _ EI).trans rfl,(cell_of_row w7 _ 3 _ _ _ EI).trans rfl,(cell_of_row w7 _ 4 _ _ _ EI).trans rfl,(cell_of_row w7 _ 0 _ _ _ EI).trans rfl⟩
     have G1:=hid E1
     have G3:Hid (∀q,q < w1.heap.size→q≠ub→fv.ownBlock≠some q→(w7.setCell ⟨ub,1,none⟩ (.slice (some ⟨k7,0,none⟩) (F.length+1) c7)).heap[q]?=w1.heap[q]?):=fun q h1 h2 h3=>(E3 q (by simp;omega) h2 h3).trans (Below.heap_alloc w1 _ q h1)
     have G4:Hid (Below B w (w7.setCell ⟨ub,1,none⟩ (.slice (some ⟨k7,0,none⟩) (F.length+1) c7))):=(VB.out.trans (VU.out.base HBG.out XB.out.drew)).trans E4
     have G7:Hid (fb < k7∧∀q,ov.ownBlock=some q→k7≠q):=by
      rcases hat7 with hk | hk
      ·rw [←HFV.out] at hk
       exact ⟨KV.out k7 hk,fun q hq e=>KO.out.2.2 q hq (e ▸ hk)⟩
      ·have l1:(w1.alloc (.cells #[.string (bs ym.name),.int .i64 (ym.type:Nat),.int .i64 (ym.period:Nat),.bool ((ym.kind:Int)==1),.bool false,.int .i64 (i:Nat)] 136)).drew.heap.size=w1.heap.size+1:=by simp
       have l2:=(Array.getElem?_eq_some_iff.1 VF.out).1
       refine ⟨by omega,fun q hq e=>?_⟩
       have:=(VO.out.lt q hq).2
       omega
     clear E1 E3 E4 EI O7 hg7 hat7 hlt7
     refine hK.out _ _ (Or.inr ?s17) (fun h17=>?r17)
     case s17=>exact ⟨x1,xl⟩
     replace h17:=h17.resolve_left (by decide)
     clear hK K
     try simp only [Act.put,List.setIfInBounds_toArray,List.set_cons_zero,List.set_cons_succ]
     refine wpAnyL_one (i := 18) (o := { dst := some 61, op := Op.nilCheck (Operand.tmp 43), type := 0, pos := "check.go:44", after := #[{ on := 0, ground := Ground.data }, { on := 0, ground := Ground.phase }, { on := 1, ground := Ground.phase }, { on := 2, ground := Ground.phase }, { on := 3, ground := Ground.phase }, { on := 4, ground := Ground.phase }, { on := 5, ground := Ground.phase }, { on := 6, ground := Ground.phase }, { on := 7, ground := Ground.phase }, { on := 8, ground := Ground.phase }, { on := 9, ground := Ground.phase }, { on := 10, ground := Ground.phase }, { on := 11, ground := Ground.phase }, { on := 12, ground := Ground.phase }, { on := 13, ground := Ground.phase }, { on := 14, ground := Ground.phase }, { on := 15, ground := Ground.phase }, { on := 16, ground := Ground.phase }, { on := 17, ground := Ground.phase }], guard := none }) (by kernel_rfl) rfl (fun K hK => ?_)
     go_simp
     refine hK.out _ _ (Or.inr (by assumption)) (fun h18=>?r18)
     clear h18 hK K
     try simp only [Act.put,List.setIfInBounds_toArray,List.set_cons_zero,List.set_cons_succ]
     refine wpAnyL_one (i := 19) (o := { dst := some 62, op := Op.fieldAddr 129 (Operand.tmp 61) 1, type := 0, pos := "check.go:44", after := #[{ on := 18, ground := Ground.data }, { on := 0, ground := Ground.phase }, { on := 1, ground := Ground.phase }, { on := 2, ground := Ground.phase }, { on := 3, ground := Ground.phase }, { on := 4, ground := Ground.phase }, { on := 5, ground := Ground.phase }, { on := 6, ground := Ground.phase }, { on := 7, ground := Ground.phase }, { on := 8, ground := Ground.phase }, { on := 9, ground := Ground.phase }, { on := 10, ground := Ground.phase }, { on := 11, ground := Ground.phase }, { on := 12, ground := Ground.phase }, { on := 13, ground := Ground.phase }, { on := 14, ground := Ground.phase }, { on := 15, ground := Ground.phase }, { on := 16, ground := Ground.phase }, { on := 17, ground := Ground.phase }], guard := none }) (by kernel_rfl) rfl (fun K hK => ?_)
     go_simp
     refine hK.out _ _ (Or.inr (by assumption)) (fun h19=>?r19)
     clear h19 hK K
     try simp only [Act.put,List.setIfInBounds_toArray,List.set_cons_zero,List.set_cons_succ]
     refine wpAnyL_one (i := 20) (o := { dst := none, op := Op.store 126 (Operand.tmp 62) (Operand.tmp 60), type := 0, pos := "check.go:44", after := #[{ on := 19, ground := Ground.data }, { on := 17, ground := Ground.data }, { on := 17, ground := Ground.chain }, { on := 0, ground := Ground.phase }, { on := 1, ground := Ground.phase }, { on := 2, ground := Ground.phase }, { on := 3, ground := Ground.phase }, { on := 4, ground := Ground.phase }, { on := 5, ground := Ground.phase }, { on := 6, ground := Ground.phase }, { on := 7, ground := Ground.phase }, { on := 8, ground := Ground.phase }, { on := 9, ground := Ground.phase }, { on := 10, ground := Ground.phase }, { on := 11, ground := Ground.phase }, { on := 12, ground := Ground.phase }, { on := 13, ground := Ground.phase }, { on := 14, ground := Ground.phase }, { on := 15, ground := Ground.phase }, { on := 16, ground := Ground.phase }, { on := 17, ground := Ground.phase }], guard := none }) (by kernel_rfl) rfl (fun K hK => ?_)
     go_simp
     refine hK.out _ _ (Or.inl rfl) (fun _=>?r20)
     clear hK K
     try simp only [Act.put,List.setIfInBounds_toArray,List.set_cons_zero,List.set_cons_succ]
     refine wpAnyL_done (by kernel_rfl) ?_ _
     all_goals go_wp2
     all_goals go_roundg (I.length - (i+1))
     case measure=>
      have h1:=HG.out
      have h2:=HLT.out
      omega
     case rel=>
      have nfb:fb < w1.heap.size:=(Array.getElem?_eq_some_iff.1 VF.out).1
      have dfb:=ND.out fb (Nat.le_refl _)
      refine ⟨i+1,F++[⟨ym.name,ym.type,ym.period,((ym.kind:Int)==1),false,i⟩],.slice (some ⟨k7,0,none⟩) (F.length+1) c7,ov,O,HOV.out.symm,rfl,HLT.out,rfl,G1,?_,G4,?_,⟨?_,?_,?_⟩,⟨?_,?_⟩⟩
      ·intro q hq
       have:k7=q:=by simpa [Value.ownBlock] using hq
       rw [←this];exact G7.out.1
      ·exact (G3.out fb nfb dfb.1 (fun e=>by have:=KV.out fb e;omega)).trans VF.out
      ·exact own_kept VO.out (fun q hq=>G3.out q (VO.out.lt q hq).2 (fun e=>by have h1:=(VO.out.lt q hq).1;have:=ND.out q (by omega);exact this.1 e) (KO.out.2.2 q hq))
      ·have:=KO.out.2.1
       omega
      ·intro q hq e
       have:k7=q:=by simpa [Value.ownBlock] using e
       exact G7.out.2 q hq this
      ·rw [List.length_append,List.length_singleton]
       have:=KL.out.1
       omega
      ·intro f hf
       rcases List.mem_append.1 hf with hf | hf
       ·exact KL.out.2 f hf
       ·rw [List.mem_singleton.1 hf]
        refine ⟨_,HY.out,HK2.out,?_,rfl⟩
        show ((ym.kind:Int)==1)=(ym.kind==1)
        by_cases h1:ym.kind=1
        ·rw [h1];rfl
        ·have a1:((ym.kind:Int)==1)=false:=by rw [beq_eq_false_iff_ne];omega
         have a2:(ym.kind==1)=false:=by rw [beq_eq_false_iff_ne];exact h1
         rw [a1,a2]
  ·have b0:((i:Int) < (I.length:Int))=False:=by simp;omega
   obtain ⟨g0,g1,z0⟩:=fault_at KF.out
   have HI2:=hid hi
   clear hlt hi hov
   go_wp2_with fail
   obtain ⟨a2,a3⟩:=two_set (u:=.int .i64 0) (v:=.int .i64 0) KF.out
   refine bodyPost_ret (v:=.agg #[.int .i64 0,.int .i64 0]) (by simp [results,Tryz.results57,a2,a3,go_sem]) rfl ?_
   obtain ⟨n1,n2,n3,n4,n6⟩:=ND.out fb (Nat.le_refl _)
   refine ⟨0,0,F,fv,rfl,KU.out.off ⟨n1,n2,n3,n4,(fun e=>by have:=KV.out fb e;omega),n6⟩ (fun q hq=>(Below.heap_setCell _ ⟨fb,1,none⟩ _ q hq).trans (Below.heap_setCell _ ⟨fb,0,none⟩ _ q hq)),?_,(KB.out.setCell BF.out _).setCell BF.out _,by have:=KL.out.1;have:=HI2.out;omega,KL.out.2⟩
   intro q hq
   exact ND.out q (Nat.le_of_lt (KV.out q hq))
end
end Go.Proofs.YtoiajojadihpbaaGreatDoor
