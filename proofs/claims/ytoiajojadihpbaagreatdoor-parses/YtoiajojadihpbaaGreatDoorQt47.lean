import Derived.Test.YtoiajojadihpbaaGreatDoorQt46
namespace Go.Proofs.YtoiajojadihpbaaGreatDoor
set_option maxHeartbeats 8000000
set_option maxRecDepth 100000
section
open Go.RowKit
def FP (w:World) (r:Ending) (w':World):Prop:=(∃fe fa:Int,r=.returned (.agg #[.int .i64 fe,.int .i64 fa]))/\Below w.heap.size w w'
def Iok (ns:List Ref.Nd) (I:List Iw) (F:List Ref.Fl):Prop:=I.length<=60/\F.length<=60/\∀y,y∈I->y.im.kind=3->∃e,Mil.wf e false/\Ref.Has ns e y.im.expr/\Ref.Closed F e/\(Ref.namesIn e).length<=2000
theorem types_any (B ub g:Nat) (iv nv fv tv:Value) (ns:List Ref.Nd) (I:List Iw) (F:List Ref.Fl) (hU:Iok ns I F) (w:World) (h:UM B ub g iv nv fv tv ns I F w) :
  Calls Tryz.prog 59 #[.pointer (some ⟨ub,0,none⟩)] w (FP w):=by
 have HP:=hid h
 have HU:=hid hU
 have FB:=bRow w #[.int .i64 0,.int .i64 0] 44
 have FF:=nRow w #[.int .i64 0,.int .i64 0] 44
 have SF:Hid ((w.alloc (.cells #[.int .i64 0,.int .i64 0] 44)).heap.size=w.heap.size+1):=by
  show _=_
  simp
 obtain⟨o,c,hiv⟩:=own_shape h.pi.own
 have HIV:=hid hiv
 clear h hU hiv
 go_enter Tryz.func59,Tryz.ntmps59
 go_wp2_with fail
 have HP0:=hid (HP.out.below FB.out)
 generalize w.alloc (.cells #[.int .i64 0,.int .i64 0] 44)=W0 at FB FF SF HP0 ⊢
 go_loopg [3] I.length (fun gk s3 wr=>∃(i:Nat),s3=.int .i64 (i:Nat)/\i<=I.length/\gk=I.length - i/\Hid (Below W0.heap.size W0 wr))
 case atStart=>exact⟨0,rfl,Nat.zero_le _,rfl,Below.refl _ _⟩
 case round=>
  obtain⟨i,rfl,hi,hg,HB⟩:=hrel
  have HG:=hid hg
  clear hg
  have d0:=(HP0.out.below HB.out).cells.1
  have d3:=(HP0.out.below HB.out).pi.pm.cells.1
  rw[HIV.out] at d3
  by_cases hlt:i < I.length
  ·have b0:((i:Int) < (I.length:Int))=True:=by simp;omega
   have i1:(0:Int)<=(i:Int):=by omega
   have i2:(i:Int) < (I.length:Int):=by omega
   have hy:I[i]?=some I[i]:=List.getElem?_eq_getElem hlt
   generalize I[i]=y at hy
   obtain⟨on,cn,hyn⟩:=own_shape ((HP0.out.below HB.out).pi.rows y (List.mem_of_getElem? hy)).1
   obtain⟨op,cp,hyp⟩:=own_shape ((HP0.out.below HB.out).pi.rows y (List.mem_of_getElem? hy)).2
   obtain⟨k,cc,hv2,c0,c1,c2,c3,c4,c5,c6,c7,_⟩:=(HP0.out.below HB.out).itemAt hy
   obtain⟨ho,hcc⟩:o=some ⟨k,0,none⟩/\c=cc:=by
    rw[HIV.out] at hv2
    injection hv2 with h1 h2 h3
    exact⟨h1,h3⟩
   subst ho
   subst hcc
   have HY:=hid hy
   have HLT:=hid hlt
   have hw:IntKind.i64.wrap ((i:Int)+1)=(i:Int)+1:=by
    have:=HU.out.1
    simp only[IntKind.wrap_i64];omega
   obtain⟨⟨ykd,a0,ynm,yty,ype,yns,ye⟩,yn,yp⟩:=y
   simp only[] at c0 c1 c2 c3 c4 c5 c6 c7 hyn hyp
   subst hyn hyp
   clear hv2 hy hlt hi
   by_cases hk:ykd=3
   ·have q3:((ykd:Int) != 3)=false:=by rw[bne_eq_false_iff_eq];omega
    obtain⟨e,hwf,hh,hc,_⟩:=HU.out.2.2 _ (List.mem_of_getElem? HY.out) hk
    have HT:Hid (∀w,UM B ub g iv nv fv tv ns I F w->_):=typed_all B ub g iv nv fv tv ns I F (by have:=HU.out.2.1;omega) e hwf ye hh hc
    have HBI:=bRow wr #[.int .i64 (ykd:Nat),.int .i64 (a0:Nat),.string (bs ynm),.int .i64 (yty:Nat),.int .i64 (ype:Nat),.slice on yns.length cn,.slice op yns.length cp,.int .i64 (ye:Nat)] 122
    have NC:Hid (∀w',Below (wr.alloc (.cells #[.int .i64 (ykd:Nat),.int .i64 (a0:Nat),.string (bs ynm),.int .i64 (yty:Nat),.int .i64 (ype:Nat),.slice on yns.length cn,.slice op yns.length cp,.int .i64 (ye:Nat)] 122)).heap.size (wr.alloc (.cells #[.int .i64 (ykd:Nat),.int .i64 (a0:Nat),.string (bs ynm),.int .i64 (yty:Nat),.int .i64 (ype:Nat),.slice on yns.length cn,.slice op yns.length cp,.int .i64 (ye:Nat)] 122)) w'->∀j,w'.cell? ⟨wr.heap.size,j,none⟩=(#[.int .i64 (ykd:Nat),.int .i64 (a0:Nat),.string (bs ynm),.int .i64 (yty:Nat),.int .i64 (ype:Nat),.slice on yns.length cn,.slice op yns.length cp,.int .i64 (ye:Nat)]:Array Value)[j]?):=fun w' hb j=>(hb.cell (by simp)).trans (cor _ _ j _ _ _ (han wr _))
    clear hk hwf hh hc
    go_wp2_with fail
    generalize wr.alloc (.cells #[.int .i64 (ykd:Nat),.int .i64 (a0:Nat),.string (bs ynm),.int .i64 (yty:Nat),.int .i64 (ype:Nat),.slice on yns.length cn,.slice op yns.length cp,.int .i64 (ye:Nat)] 122)=W at HBI NC ⊢
    have BW:Hid (Below W0.heap.size W0 W):=HB.out.trans (HBI.out.mono HB.out.size)
    refine (HT.out _ (HP0.out.below BW.out)).mono ?_
    rintro r w1 ⟨⟨t1,z1,rfl⟩,hb⟩
    have B1:Hid (Below W0.heap.size W0 w1):=BW.out.trans (hb.mono BW.out.size)
    have f3:w1.cell? ⟨wr.heap.size,3,none⟩=some (.int .i64 (yty:Nat)):=NC.out w1 hb 3
    have f1:w1.cell? ⟨wr.heap.size,1,none⟩=some (.int .i64 (a0:Nat)):=NC.out w1 hb 1
    have F1:Hid (w1.heap[w.heap.size]?=some (.cells #[.int .i64 0,.int .i64 0] 44 (0,0))):=(B1.out.block _ (by have:=SF.out;omega)).trans FF.out
    have g0:w1.cell? ⟨w.heap.size,0,none⟩=some (.int .i64 0):=(cor w1 _ 0 _ _ _ F1.out).trans rfl
    have g1:w1.cell? ⟨w.heap.size,1,none⟩=some (.int .i64 0):=(cor w1 _ 1 _ _ _ F1.out).trans rfl
    have z0:∀k,w1.frozen? ⟨w.heap.size,k,none⟩=false:=fun k=>by
     unfold World.frozen?;rw[F1.out];simp
    have BWW:Hid (Below w.heap.size w w1):=FB.out.trans (B1.out.mono (by have:=SF.out;omega))
    clear hb c0 c1 c2 c3 c4 c5 c6 c7 d0 d3
    by_cases h1:(0:Int)<=z1
    ·have e1:((0:Int)<=z1)=True:=by simp;omega
     clear h1
     go_wp2_with fail
     obtain⟨a2,a3⟩:=two_set (u:=.int .i64 7) (v:=.int .i64 z1) F1.out
     refine bodyPost_ret (v:=.agg #[.int .i64 7,.int .i64 z1]) (by simp[results,Tryz.results59,a2,a3,go_sem]) rfl ?_
     exact⟨⟨7,z1,rfl⟩,(BWW.out.setCell nlr _).setCell nlr _⟩
    ·have e1:((0:Int)<=z1)=False:=by simp;omega
     clear h1
     by_cases h2:t1=(yty:Int)
     ·have e2:(t1 != (yty:Int))=false:=by rw[bne_eq_false_iff_eq];exact h2
      clear h2
      go_wp2_with fail
      go_roundg (I.length - (i+1))
      case measure=>
       have h1:=HG.out
       have h2:=HLT.out
       omega
      case rel=>exact⟨i+1,rfl,HLT.out,rfl,B1⟩
     ·have e2:(t1 != (yty:Int))=true:=by rw[bne_iff_ne];exact h2
      clear h2
      go_wp2_with fail
      obtain⟨a2,a3⟩:=two_set (u:=.int .i64 7) (v:=.int .i64 (a0:Nat)) F1.out
      refine bodyPost_ret (v:=.agg #[.int .i64 7,.int .i64 (a0:Nat)]) (by simp[results,Tryz.results59,a2,a3,go_sem]) rfl ?_
      exact⟨⟨7,(a0:Nat),rfl⟩,(BWW.out.setCell nlr _).setCell nlr _⟩
   ·have q3:((ykd:Int) != 3)=true:=by rw[bne_iff_ne];omega
    clear hk
    go_wp2_with fail
    go_roundg (I.length - (i+1))
    case measure=>
     have h1:=HG.out
     have h2:=HLT.out
     omega
    case rel=>exact⟨i+1,rfl,HLT.out,rfl,HB.out.alloc HB.out.size _⟩
  ·have b0:((i:Int) < (I.length:Int))=False:=by simp;omega
   have F1:Hid (wr.heap[w.heap.size]?=some (.cells #[.int .i64 0,.int .i64 0] 44 (0,0))):=(HB.out.block _ (by have:=SF.out;omega)).trans FF.out
   have g0:wr.cell? ⟨w.heap.size,0,none⟩=some (.int .i64 0):=(cor wr _ 0 _ _ _ F1.out).trans rfl
   have g1:wr.cell? ⟨w.heap.size,1,none⟩=some (.int .i64 0):=(cor wr _ 1 _ _ _ F1.out).trans rfl
   have z0:∀k,wr.frozen? ⟨w.heap.size,k,none⟩=false:=fun k=>by
    unfold World.frozen?;rw[F1.out];simp
   have BWW:Hid (Below w.heap.size w wr):=FB.out.trans (HB.out.mono (by have:=SF.out;omega))
   clear hlt hi
   go_wp2_with fail
   obtain⟨a2,a3⟩:=two_set (u:=.int .i64 0) (v:=.int .i64 0) F1.out
   refine bodyPost_ret (v:=.agg #[.int .i64 0,.int .i64 0]) (by simp[results,Tryz.results59,a2,a3,go_sem]) rfl ?_
   exact⟨⟨0,0,rfl⟩,(BWW.out.setCell nlr _).setCell nlr _⟩
end
section
open Go.RowKit
theorem fl_set:∀(F:List Ref.Fl) (f j:Nat) (y y':Ref.Fl) (u:Value),F[f]?=some y->j < 6->Ref.flCells y'=(Ref.flCells y).set j u->fls (F.set f y')=(fls F).set (f*6+j) u
 | [],_,_,_,_,_,h,_,_=>by cases h
 | z::F,0,j,y,y',u,h,hj,he=>by
  have hz:z=y:=by simpa using h
  subst hz
  show Ref.flCells y'++fls F=(Ref.flCells z++fls F).set (0*6+j) u
  rw[he,List.set_append_left _ _ (by simp[Ref.flCells];omega)]
  congr 2
  omega
 | z::F,f+1,j,y,y',u,h,hj,he=>by
  rw[List.getElem?_cons_succ] at h
  have ih:=fl_set F f j y y' u h hj he
  show Ref.flCells z++fls (F.set f y')=(Ref.flCells z++fls F).set ((f+1)*6+j) u
  have e6:(Ref.flCells z).length=6:=rfl
  rw[List.set_append_right _ _ (by rw[e6];omega),ih,e6]
  congr 2
  omega
theorem own_set {w:World} {B:Nat} {e:TypeId} {size k n c:Nat} {xs:List Value} (h:w.ownsRow B e size (.slice (some ⟨k,0,none⟩) n c) n xs) {j:Nat} (hj:j < n*size) (u:Value) :
  (w.setCell ⟨k,j,none⟩ u).ownsRow B e size (.slice (some ⟨k,0,none⟩) n c) n (xs.set j u)/\w.frozen? ⟨k,j,none⟩=false/\(w.cell? ⟨k,j,none⟩).isSome=true:=by
 obtain⟨h1,⟨h2,_⟩|⟨k',cap,cur,hv,hbk,hk,hcap,hmx,hsz,htk⟩⟩:=h
 ·cases h2
 ·injection hv with e1 e2 e3
  injection e1 with e1
  injection e1 with e1
  subst e1 e3
  have hjs:j < cur.size:=by
   rw[hsz]
   exact Nat.lt_of_lt_of_le hj (Nat.mul_le_mul_right _ hcap)
  refine⟨⟨by rw[List.length_set];exact h1,Or.inr ⟨k,c,cur.set j u hjs,rfl,hbk,?_,hcap,hmx,by rw[Array.size_set];exact hsz,?_⟩⟩,?_,?_⟩
  ·show (w.heap.modify k _)[k]?=_
   rw[Array.getElem?_modify,if_pos rfl,hk]
   simp[Array.setIfInBounds,hjs]
  ·rw[Array.toList_set,List.take_set,htk]
  ·unfold World.frozen?;rw[hk];simp
  ·rw[cor w k j _ _ _ hk];simp[hjs]
def Ud (ub g:Nat) (iv nv fv:Value) (I:List Iw):Prop:=∀k,fv.ownBlock=some k->k≠ub/\k≠g/\nv.ownBlock≠some k/\iv.ownBlock≠some k/\∀x,x∈I->x.nv.ownBlock≠some k/\x.pv.ownBlock≠some k
theorem UM.setFl {B ub g:Nat} {iv nv fv tv:Value} {ns:List Ref.Nd} {I:List Iw} {F:List Ref.Fl} {w:World} (h:UM B ub g iv nv fv tv ns I F w) (hd:Ud ub g iv nv fv I) {k c:Nat} (hv:fv=.slice (some ⟨k,0,none⟩) F.length c) {f j:Nat} {y y':Ref.Fl} {u:Value} (hy:F[f]?=some y) (hj:j < 6) (he:Ref.flCells y'=(Ref.flCells y).set j u) :
  UM B ub g iv nv fv tv ns I (F.set f y') (w.setCell ⟨k,f*6+j,none⟩ u)/\w.frozen? ⟨k,f*6+j,none⟩=false/\Below B w (w.setCell ⟨k,f*6+j,none⟩ u):=by
 have hf:=(lgs hy).1
 have hb:fv.ownBlock=some k:=by rw[hv];rfl
 obtain⟨d1,d2,d3,d4,d5⟩:=hd k hb
 have oth:∀q,q≠k->(w.setCell ⟨k,f*6+j,none⟩ u).heap[q]?=w.heap[q]?:=fun q hq=>bhs w ⟨k,f*6+j,none⟩ _ q hq
 have hfl:=h.fl
 rw[hv] at hfl
 have os:=own_set hfl (j:=f*6+j) (by omega) u
 refine⟨⟨(oth ub (Ne.symm d1)).trans h.un,⟨⟨(oth g (Ne.symm d2)).trans h.pi.pm.pr,own_kept h.pi.pm.nod (fun q hq=>oth q (fun e=>d3 (e ▸ hq)))⟩,own_kept h.pi.own (fun q hq=>oth q (fun e=>d4 (e ▸ hq))),fun x hx=>⟨own_kept (h.pi.rows x hx).1 (fun q hq=>oth q (fun e=>(d5 x hx).1 (e ▸ hq))),own_kept (h.pi.rows x hx).2 (fun q hq=>oth q (fun e=>(d5 x hx).2 (e ▸ hq)))⟩⟩,?_⟩,os.2.1,(Below.refl B w).setCell (by have:=(h.fl.lt k hb).1;exact this) _⟩
 rw[fl_set F f j y y' u hy hj he,List.length_set,hv]
 exact os.1
def Like (F F':List Ref.Fl):Prop:=F'.map Ref.Fl.name=F.map Ref.Fl.name/\F'.map Ref.Fl.inp=F.map Ref.Fl.inp/\F'.map Ref.Fl.item=F.map Ref.Fl.item
theorem Like.refl (F:List Ref.Fl):Like F F:=⟨rfl,rfl,rfl⟩
theorem Like.trans {F G H:List Ref.Fl} (h:Like F G) (k:Like G H):Like F H:=⟨k.1.trans h.1,k.2.1.trans h.2.1,k.2.2.trans h.2.2⟩
theorem Like.len {F G:List Ref.Fl} (h:Like F G):G.length=F.length:=by
 have:=congrArg List.length h.1
 simpa using this
theorem Like.set {F:List Ref.Fl} {f:Nat} {y y':Ref.Fl} (hy:F[f]?=some y) (h1:y'.name=y.name) (h2:y'.inp=y.inp) (h3:y'.item=y.item):Like F (F.set f y'):=by
 have key:∀{α:Type} (g:Ref.Fl->α),g y'=g y->(F.set f y').map g=F.map g:=fun g hg=>by
  rw[List.map_set,hg]
  apply List.ext_getElem?
  intro n
  rw[List.getElem?_set]
  split
  ·rename_i hn
   subst hn
   rw[List.getElem?_map,hy]
   have:=(lgs hy).1
   simp[this]
  ·rfl
 exact⟨key _ h1,key _ h2,key _ h3⟩
end
section
open Go.RowKit
def NmP (B ub g:Nat) (iv nv fv tv:Value) (ns:List Ref.Nd) (I:List Iw) (F:List Ref.Fl) (w:World) (r:Ending) (w':World):Prop:=
 ∃(fe:Nat) (fa:Int) (G:List Ref.Fl),r=.returned (.agg #[.int .i64 (fe:Nat),.int .i64 fa])/\Like F G/\G.map Ref.Fl.pe=F.map Ref.Fl.pe/\UM B ub g iv nv fv tv ns I G w'/\Below B w w' /\
  (fe=0->∀y,y∈I->y.im.kind=3->∃e,Mil.wf e false/\Ref.Has ns e y.im.expr/\Ref.Closed F e/\(Ref.namesIn e).length<=2000)
abbrev itA (y:Ref.Im) (a b:Value):Array Value:=#[.int .i64 (y.kind:Nat),.int .i64 (y.at_:Nat),.string (bs y.name),.int .i64 (y.type:Nat),.int .i64 (y.period:Nat),a,b,.int .i64 (y.expr:Nat)]
theorem row_place {w:World} {B:Nat} {op:Option Addr} {cp:Nat} {yns:List (Mil.Bytes×Nat)} (h:w.ownsRow B 3 1 (.slice op yns.length cp) yns.length (pls yns)) {j:Nat} {z:Mil.Bytes×Nat} (hz:yns[j]?=some z):∃kn,op=some ⟨kn,0,none⟩/\w.cell? ⟨kn,j,none⟩=some (.int .i64 (z.2:Nat)):=by
 have hl:=(lgs hz).1
 obtain⟨h1,⟨h2,h3⟩|⟨k,cap,cur,hv,hbk,hk,hcap,hmx,hsz,htk⟩⟩:=h
 ·omega
 ·injection hv with e1 e2 e3
  refine⟨k,e1,?_⟩
  have e4:(pls yns)[j]?=some (.int .i64 (z.2:Nat)):=by
   show (List.map _ yns)[j]?=_
   rw[List.getElem?_map,hz];rfl
  rw[cor w k _ _ _ _ hk,<-e4,<-htk,List.getElem?_take]
  rw[if_pos (by omega)]
  simp
theorem fault_at {w:World} {q:Nat} (h:w.heap[q]?=some (.cells #[.int .i64 0,.int .i64 0] 44 (0,0))):w.cell? ⟨q,0,none⟩=some (.int .i64 0)/\w.cell? ⟨q,1,none⟩=some (.int .i64 0)/\∀k,w.frozen? ⟨q,k,none⟩=false:=by
 refine⟨(cor w _ 0 _ _ _ h).trans rfl,(cor w _ 1 _ _ _ h).trans rfl,fun k=>?_⟩
 unfold World.frozen?;rw[h];simp
theorem UM.off {B ub g:Nat} {iv nv fv tv:Value} {ns:List Ref.Nd} {I:List Iw} {F:List Ref.Fl} {w w':World} {q:Nat} (h:UM B ub g iv nv fv tv ns I F w) (hq:q≠ub/\q≠g/\nv.ownBlock≠some q/\iv.ownBlock≠some q/\fv.ownBlock≠some q/\∀x,x∈I->x.nv.ownBlock≠some q/\x.pv.ownBlock≠some q) (oth:∀k,k≠q->w'.heap[k]?=w.heap[k]?):UM B ub g iv nv fv tv ns I F w':=by
 obtain⟨d1,d2,d3,d4,d6,d5⟩:=hq
 exact⟨(oth ub (Ne.symm d1)).trans h.un,⟨⟨(oth g (Ne.symm d2)).trans h.pi.pm.pr,own_kept h.pi.pm.nod (fun q hq=>oth q (fun e=>d3 (e ▸ hq)))⟩,own_kept h.pi.own (fun q hq=>oth q (fun e=>d4 (e ▸ hq))),fun x hx=>⟨own_kept (h.pi.rows x hx).1 (fun q hq=>oth q (fun e=>(d5 x hx).1 (e ▸ hq))),own_kept (h.pi.rows x hx).2 (fun q hq=>oth q (fun e=>(d5 x hx).2 (e ▸ hq)))⟩⟩,own_kept h.fl (fun q hq=>oth q (fun e=>d6 (e ▸ hq)))⟩
theorem UM.new {B ub g:Nat} {iv nv fv tv:Value} {ns:List Ref.Nd} {I:List Iw} {F:List Ref.Fl} {w:World} (h:UM B ub g iv nv fv tv ns I F w) {q:Nat} (hq:w.heap.size<=q):q≠ub/\q≠g/\nv.ownBlock≠some q/\iv.ownBlock≠some q/\fv.ownBlock≠some q/\∀x,x∈I->x.nv.ownBlock≠some q/\x.pv.ownBlock≠some q:=by
 have l1:=(ags h.un).1
 have l2:=(ags h.pi.pm.pr).1
 exact⟨by omega,by omega,fun e=>by have:=(h.pi.pm.nod.lt q e).2;omega,fun e=>by have:=(h.pi.own.lt q e).2;omega,fun e=>by have:=(h.fl.lt q e).2;omega,fun x hx=>⟨fun e=>by have:=((h.pi.rows x hx).1.lt q e).2;omega,fun e=>by have:=((h.pi.rows x hx).2.lt q e).2;omega⟩⟩
theorem UM.base {B ub g:Nat} {iv nv fv tv:Value} {ns:List Ref.Nd} {I:List Iw} {F:List Ref.Fl} {w w':World} (h:UM B ub g iv nv fv tv ns I F w) (hB:B<=ub) (hb:Below w.heap.size w w'):Below B w w':=hb.mono (by have:=(ags h.un).1;omega)
theorem pe_set {F:List Ref.Fl} {f:Nat} {y y':Ref.Fl} (hy:F[f]?=some y) (h:y'.pe=y.pe):(F.set f y').map Ref.Fl.pe=F.map Ref.Fl.pe:=by
 rw[List.map_set,h]
 apply List.ext_getElem?
 intro n
 rw[List.getElem?_set]
 split
 ·rename_i hn
  subst hn
  rw[List.getElem?_map,hy]
  have:=(lgs hy).1
  simp[this]
 ·rfl
theorem names_any (B ub g:Nat) (iv nv fv tv:Value) (ns:List Ref.Nd) (I:List Iw) (F:List Ref.Fl) (hd:Ud ub g iv nv fv I) (hBg:B<=ub) (hFl:F.length<=60) (hIl:I.length<=60) (hE:∀y,y∈I->y.im.kind=3->∃e,Mil.wf e false/\Ref.Has ns e y.im.expr/\(Ref.namesIn e).length<=2000) (hN:∀y,y∈I->y.im.names.length<=4000) (w:World) (h:UM B ub g iv nv fv tv ns I F w) :
  Calls Tryz.prog 58 #[.pointer (some ⟨ub,0,none⟩)] w (NmP B ub g iv nv fv tv ns I F w):=by
 have HP:=hid h
 have HD:=hid hd
 have HBG:=hid hBg
 have HS:Hid (F.length<=60/\I.length<=60):=⟨hFl,hIl⟩
 have HE:=hid hE
 have HN:=hid hN
 have FB:=bRow w #[.int .i64 0,.int .i64 0] 44
 have FF:=nRow w #[.int .i64 0,.int .i64 0] 44
 have QF:Hid (w.heap.size≠ub/\w.heap.size≠g/\nv.ownBlock≠some w.heap.size/\iv.ownBlock≠some w.heap.size/\fv.ownBlock≠some w.heap.size/\∀x,x∈I->x.nv.ownBlock≠some w.heap.size/\x.pv.ownBlock≠some w.heap.size):=h.new nlr
 have BF:Hid (B<=w.heap.size):=by
  have:=(ags h.un).1
  show B<=_
  omega
 obtain⟨o,c,hiv⟩:=own_shape h.pi.own
 have HIV:=hid hiv
 clear h hd hBg hFl hIl hE hN hiv
 go_enter Tryz.func58,Tryz.ntmps58
 go_wp2_with fail
 have HP0:=hid (HP.out.below FB.out)
 have FB0:Hid (Below B w (w.alloc (.cells #[.int .i64 0,.int .i64 0] 44))):=HP.out.base HBG.out FB.out
 generalize w.alloc (.cells #[.int .i64 0,.int .i64 0] 44)=W0 at FB FF HP0 FB0 ⊢
 generalize w.heap.size=fb at FF QF BF ⊢
 go_loopg [3] I.length (fun gk s3 wr=>∃(i:Nat) (G:List Ref.Fl),s3=.int .i64 (i:Nat)/\i<=I.length/\gk=I.length - i/\Hid (Like F G/\G.map Ref.Fl.pe=F.map Ref.Fl.pe)/\Hid (UM B ub g iv nv fv tv ns I G wr)/\Hid (Below B w wr)/\Hid (wr.heap[fb]?=some (.cells #[.int .i64 0,.int .i64 0] 44 (0,0)))/\Hid (∀j y,j < i->I[j]?=some y->y.im.kind=3->∃e,Mil.wf e false/\Ref.Has ns e y.im.expr/\Ref.Closed F e/\(Ref.namesIn e).length<=2000))
 case atStart=>exact⟨0,F,rfl,Nat.zero_le _,rfl,⟨Like.refl F,rfl⟩,HP0,FB0,FF,fun j y hj=>by omega⟩
 case round=>
  obtain⟨i,G,rfl,hi,hg,KG,KU,KB,KF,KC⟩:=hrel
  have HG:=hid hg
  clear hg HP0 FB0 FB FF
  have d0:=KU.out.cells.1
  have d3:=KU.out.pi.pm.cells.1
  rw[HIV.out] at d3
  by_cases hlt:i < I.length
  ·have b0:((i:Int) < (I.length:Int))=True:=by simp;omega
   have i1:(0:Int)<=(i:Int):=by omega
   have i2:(i:Int) < (I.length:Int):=by omega
   have hy:I[i]?=some I[i]:=List.getElem?_eq_getElem hlt
   generalize I[i]=y at hy
   obtain⟨on,cn,hyn⟩:=own_shape (KU.out.pi.rows y (List.mem_of_getElem? hy)).1
   obtain⟨op,cp,hyp⟩:=own_shape (KU.out.pi.rows y (List.mem_of_getElem? hy)).2
   obtain⟨k,cc,hv2,c0,c1,c2,c3,c4,c5,c6,c7,_⟩:=KU.out.itemAt hy
   obtain⟨ho,hcc⟩:o=some ⟨k,0,none⟩/\c=cc:=by
    rw[HIV.out] at hv2
    injection hv2 with h1 h2 h3
    exact⟨h1,h3⟩
   subst ho
   subst hcc
   have HY:=hid hy
   have HLT:=hid hlt
   have hw:IntKind.i64.wrap ((i:Int)+1)=(i:Int)+1:=by
    have:=HS.out.2
    simp only[IntKind.wrap_i64];omega
   obtain⟨ym,yn,yp⟩:=y
   simp only[] at c0 c1 c2 c3 c4 c5 c6 c7 hyn hyp
   subst hyn hyp
   have HBI:=bRow wr (itA ym (.slice on ym.names.length cn) (.slice op ym.names.length cp)) 122
   have IB:=nRow wr (itA ym (.slice on ym.names.length cn) (.slice op ym.names.length cp)) 122
   have QI:Hid (fv.ownBlock≠some wr.heap.size):=(KU.out.new nlr).2.2.2.2.1
   have LF:Hid (fb < wr.heap.size):=(ags KF.out).1
   clear hv2 hy hlt hi
   by_cases hk3:ym.kind=3
   ·have q3:((ym.kind:Int)==3)=true:=by rw[beq_iff_eq];omega
    obtain⟨e0,hwf0,hh0,hn0⟩:=HE.out _ (List.mem_of_getElem? HY.out) hk3
    have HNM:Hid (∀w,UM B ub g iv nv fv tv ns I G w->_):=named_all B ub g iv nv fv tv ns I G (by rw[KG.out.1.len];have:=HS.out.1;omega) e0 hwf0 ym.expr hh0
    have HE0:Hid (Mil.wf e0 false/\Ref.Has ns e0 ym.expr/\(Ref.namesIn e0).length<=2000):=⟨hwf0,hh0,hn0⟩
    clear hk3 hwf0 hh0 hn0
    go_wp2_with fail
    have WU:=hid (KU.out.below HBI.out)
    have WB:Hid (Below B w (wr.alloc (.cells (itA ym (.slice on ym.names.length cn) (.slice op ym.names.length cp)) 122))):=KB.out.trans (KU.out.base HBG.out HBI.out)
    have WF:Hid ((wr.alloc (.cells (itA ym (.slice on ym.names.length cn) (.slice op ym.names.length cp)) 122)).heap[fb]?=some (.cells #[.int .i64 0,.int .i64 0] 44 (0,0))):=(HBI.out.block _ LF.out).trans KF.out
    generalize wr.alloc (.cells (itA ym (.slice on ym.names.length cn) (.slice op ym.names.length cp)) 122)=W at HBI IB WU WB WF ⊢
    refine (HNM.out _ WU.out).mono ?_
    rintro r w1 ⟨⟨zz,rfl,hzz⟩,hb1⟩
    have VU:=hid (WU.out.below hb1)
    have VB:Hid (Below B w w1):=WB.out.trans (WU.out.base HBG.out hb1)
    have VF:Hid (w1.heap[fb]?=some (.cells #[.int .i64 0,.int .i64 0] 44 (0,0))):=(hb1.block _ (ags WF.out).1).trans WF.out
    have VI:Hid (w1.heap[wr.heap.size]?=some (.cells (itA ym (.slice on ym.names.length cn) (.slice op ym.names.length cp)) 122 (0,0))):=(hb1.block _ (ags IB.out).1).trans IB.out
    have HZZ:=hid hzz
    clear hb1 hzz c0 c1 c2 c3 c4 c5 c6 c7 d0 d3 HBI IB WU WB WF
    by_cases hz0:(0:Int)<=zz
    ·have q4:((0:Int)<=zz)=True:=by simp;omega
     obtain⟨g0,g1,z0⟩:=fault_at VF.out
     clear hz0
     go_wp2_with fail
     obtain⟨a2,a3⟩:=two_set (u:=.int .i64 6) (v:=.int .i64 zz) VF.out
     refine bodyPost_ret (v:=.agg #[.int .i64 6,.int .i64 zz]) (by simp[results,Tryz.results58,a2,a3,go_sem]) rfl ?_
     exact⟨6,zz,G,rfl,KG.out.1,KG.out.2,VU.out.off QF.out (fun q hq=>(bhs _ ⟨fb,1,none⟩ _ q hq).trans (bhs _ ⟨fb,0,none⟩ _ q hq)),(VB.out.setCell BF.out _).setCell BF.out _,fun h=>by cases h⟩
    ·have q4:((0:Int)<=zz)=False:=by simp;omega
     have KX:Hid (ym.kind=3->∃e,Mil.wf e false/\Ref.Has ns e ym.expr/\Ref.Closed F e/\(Ref.namesIn e).length<=2000):=by
      intro _
      refine⟨e0,HE0.out.1,HE0.out.2.1,fun x hx=>?_,HE0.out.2.2⟩
      rw[<-Ref.fnd_names KG.out.1.1]
      exact HZZ.out (by omega) x hx
     clear hz0
     go_wp2_with fail
     generalize wr.heap.size=ib at VI QI ⊢
     go_loopg [6] ym.names.length (fun gj s6 wj=>∃(k6:Nat) (G2:List Ref.Fl),s6=.int .i64 (k6:Nat)/\k6<=ym.names.length/\gj=ym.names.length - k6/\Hid (Like F G2/\G2.map Ref.Fl.pe=F.map Ref.Fl.pe)/\Hid (UM B ub g iv nv fv tv ns I G2 wj)/\Hid (Below B w wj)/\Hid (wj.heap[fb]?=some (.cells #[.int .i64 0,.int .i64 0] 44 (0,0)))/\Hid (wj.heap[ib]?=some (.cells (itA ym (.slice on ym.names.length cn) (.slice op ym.names.length cp)) 122 (0,0))))
     case atStart=>exact⟨0,G,rfl,Nat.zero_le _,rfl,KG,VU,VB,VF,VI⟩
     case round=>
      obtain⟨k6,G2,rfl,hk6,hgj,LG,LU,LB,LFt,LI⟩:=hrel
      have HGJ:=hid hgj
      have f5:wr.cell? ⟨ib,5,none⟩=some (.slice on ym.names.length cn):=(cor wr _ 5 _ _ _ LI.out).trans rfl
      clear hgj VU VB VF VI
      by_cases hl6:k6 < ym.names.length
      ·have b6:((k6:Int) < (ym.names.length:Int))=True:=by simp;omega
       have j1:(0:Int)<=(k6:Int):=by omega
       have j2:(k6:Int) < (ym.names.length:Int):=by omega
       have hz:ym.names[k6]?=some ym.names[k6]:=List.getElem?_eq_getElem hl6
       generalize ym.names[k6]=z at hz
       obtain⟨z1,z2⟩:=z
       have rws:=LU.out.pi.rows _ (List.mem_of_getElem? HY.out)
       obtain⟨kn,hon,cz⟩:=row_name rws.1 hz
       have HZ:=hid hz
       have HON:=hid hon
       have HL6:=hid hl6
       have hw6:IntKind.i64.wrap ((k6:Int)+1)=(k6:Int)+1:=by
        have h1:ym.names.length<=4000:=HN.out _ (List.mem_of_getElem? HY.out)
        simp only[IntKind.wrap_i64];omega
       rw[hon] at f5
       clear hz rws hon hl6 hk6
       go_wp2_with fail
       refine (find_any B ub g iv nv fv tv ns I G2 (by rw[LG.out.1.len];have:=HS.out.1;omega) z1 _ LU.out).mono ?_
       rintro r w2 ⟨rfl,hb2⟩
       have U2:=hid (LU.out.below hb2)
       have B2:Hid (Below B w w2):=LB.out.trans (LU.out.base HBG.out hb2)
       have F2:Hid (w2.heap[fb]?=some (.cells #[.int .i64 0,.int .i64 0] 44 (0,0))):=(hb2.block _ (ags LFt.out).1).trans LFt.out
       have I2:Hid (w2.heap[ib]?=some (.cells (itA ym (.slice on ym.names.length cn) (.slice op ym.names.length cp)) 122 (0,0))):=(hb2.block _ (ags LI.out).1).trans LI.out
       clear hb2 f5 cz
       cases hf:Ref.fnd G2 z1 with
       | none=>
        have e:Ref.fndI G2 z1=-1:=by unfold Ref.fndI;rw[hf]
        rw[e]
        obtain⟨kp,hop,cp2⟩:=row_place (U2.out.pi.rows _ (List.mem_of_getElem? HY.out)).2 HZ.out
        have f6:w2.cell? ⟨ib,6,none⟩=some (.slice op ym.names.length cp):=(cor w2 _ 6 _ _ _ I2.out).trans rfl
        rw[hop] at f6
        obtain⟨g0,g1,z0⟩:=fault_at F2.out
        clear hop hf e
        go_wp2_with fail
        obtain⟨a2,a3⟩:=two_set (u:=.int .i64 6) (v:=.int .i64 (z2:Nat)) F2.out
        refine bodyPost_ret (v:=.agg #[.int .i64 6,.int .i64 (z2:Nat)]) (by simp[results,Tryz.results58,a2,a3,go_sem]) rfl ?_
        exact⟨6,(z2:Nat),G2,rfl,LG.out.1,LG.out.2,U2.out.off QF.out (fun q hq=>(bhs _ ⟨fb,1,none⟩ _ q hq).trans (bhs _ ⟨fb,0,none⟩ _ q hq)),(B2.out.setCell BF.out _).setCell BF.out _,fun h=>by cases h⟩
       | some jf=>
        have e:Ref.fndI G2 z1=(jf:Int):=by unfold Ref.fndI;rw[hf]
        have hjl:=Ref.fnd_lt hf
        have q0:((jf:Int) < 0)=False:=by simp
        have m1:(0:Int)<=(jf:Int):=by omega
        have m2:(jf:Int) < (G2.length:Int):=by omega
        have hyf:G2[jf]?=some G2[jf]:=List.getElem?_eq_getElem hjl
        generalize G2[jf]=fy at hyf
        obtain⟨kf,cf,hvf,t0,t1,t2,t3,t4,t5⟩:=U2.out.flow6 hyf
        have ff1:=U2.out.cells.2.1
        rw[hvf] at ff1
        obtain⟨U3,fz,B3⟩:=U2.out.setFl HD.out hvf hyf (j:=4) (y':={ fy with outp:=true }) (u:=.bool true) (by decide) rfl
        have HU3:=hid U3
        have HB3:=hid (B2.out.trans B3)
        have HL3:Hid (Like F (G2.set jf { fy with outp:=true })/\(G2.set jf { fy with outp:=true }).map Ref.Fl.pe=F.map Ref.Fl.pe):=⟨LG.out.1.trans (Like.set hyf rfl rfl rfl),(pe_set (y':={ fy with outp:=true }) hyf rfl).trans LG.out.2⟩
        have nb:fv.ownBlock=some kf:=by rw[hvf];rfl
        have HF3:Hid ((w2.setCell ⟨kf,jf*6+4,none⟩ (.bool true)).heap[fb]?=some (.cells #[.int .i64 0,.int .i64 0] 44 (0,0))):=(bhs _ ⟨kf,jf*6+4,none⟩ _ fb (fun e=>QF.out.2.2.2.2.1 (e ▸ nb))).trans F2.out
        have HI3:Hid ((w2.setCell ⟨kf,jf*6+4,none⟩ (.bool true)).heap[ib]?=some (.cells (itA ym (.slice on ym.names.length cn) (.slice op ym.names.length cp)) 122 (0,0))):=(bhs _ ⟨kf,jf*6+4,none⟩ _ ib (fun e=>QI.out (e ▸ nb))).trans I2.out
        rw[e]
        clear e hjl hf hvf hyf U3 B3 nb
        go_wp2_with fail
        go_roundg (ym.names.length - (k6+1))
        case measure=>
         have h1:=HGJ.out
         have h2:=HL6.out
         omega
        case rel=>exact⟨k6+1,_,rfl,HL6.out,rfl,HL3,HU3,HB3,HF3,HI3⟩
      ·have b6:((k6:Int) < (ym.names.length:Int))=False:=by simp;omega
       clear hl6 hk6
       go_wp2_with fail
       go_roundg (I.length - (i+1))
       case measure=>
        have h1:=HG.out
        have h2:=HLT.out
        omega
       case rel=>
        refine⟨i+1,G2,rfl,HLT.out,rfl,LG,LU,LB,LFt,fun j y hj hy hk=>?_⟩
        by_cases hji:j=i
        ·subst hji
         rw[HY.out] at hy
         obtain rfl:=osi hy
         exact KX.out hk
        ·exact KC.out j y (by omega) hy hk
   ·have q3:((ym.kind:Int)==3)=false:=by rw[beq_eq_false_iff_ne];omega
    have KX:Hid (ym.kind=3->∃e,Mil.wf e false/\Ref.Has ns e ym.expr/\Ref.Closed F e/\(Ref.namesIn e).length<=2000):=fun h=>absurd h hk3
    clear hk3
    go_wp2_with fail
    have VU:=hid (KU.out.below HBI.out)
    have VB:Hid (Below B w (wr.alloc (.cells (itA ym (.slice on ym.names.length cn) (.slice op ym.names.length cp)) 122))):=KB.out.trans (KU.out.base HBG.out HBI.out)
    have VF:Hid ((wr.alloc (.cells (itA ym (.slice on ym.names.length cn) (.slice op ym.names.length cp)) 122)).heap[fb]?=some (.cells #[.int .i64 0,.int .i64 0] 44 (0,0))):=(HBI.out.block _ LF.out).trans KF.out
    have VI:=IB
    clear IB
    generalize wr.alloc (.cells (itA ym (.slice on ym.names.length cn) (.slice op ym.names.length cp)) 122)=W at HBI VU VB VF VI ⊢
    clear HBI c0 c1 c2 c3 c4 c5 c6 c7 d0 d3
    generalize wr.heap.size=ib at VI QI ⊢
    go_loopg [6] ym.names.length (fun gj s6 wj=>∃(k6:Nat) (G2:List Ref.Fl),s6=.int .i64 (k6:Nat)/\k6<=ym.names.length/\gj=ym.names.length - k6/\Hid (Like F G2/\G2.map Ref.Fl.pe=F.map Ref.Fl.pe)/\Hid (UM B ub g iv nv fv tv ns I G2 wj)/\Hid (Below B w wj)/\Hid (wj.heap[fb]?=some (.cells #[.int .i64 0,.int .i64 0] 44 (0,0)))/\Hid (wj.heap[ib]?=some (.cells (itA ym (.slice on ym.names.length cn) (.slice op ym.names.length cp)) 122 (0,0))))
    case atStart=>exact⟨0,G,rfl,Nat.zero_le _,rfl,KG,VU,VB,VF,VI⟩
    case round=>
     obtain⟨k6,G2,rfl,hk6,hgj,LG,LU,LB,LFt,LI⟩:=hrel
     have HGJ:=hid hgj
     have f5:wr.cell? ⟨ib,5,none⟩=some (.slice on ym.names.length cn):=(cor wr _ 5 _ _ _ LI.out).trans rfl
     clear hgj VU VB VF VI
     by_cases hl6:k6 < ym.names.length
     ·have b6:((k6:Int) < (ym.names.length:Int))=True:=by simp;omega
      have j1:(0:Int)<=(k6:Int):=by omega
      have j2:(k6:Int) < (ym.names.length:Int):=by omega
      have hz:ym.names[k6]?=some ym.names[k6]:=List.getElem?_eq_getElem hl6
      generalize ym.names[k6]=z at hz
      obtain⟨z1,z2⟩:=z
      have rws:=LU.out.pi.rows _ (List.mem_of_getElem? HY.out)
      obtain⟨kn,hon,cz⟩:=row_name rws.1 hz
      have HZ:=hid hz
      have HON:=hid hon
      have HL6:=hid hl6
      have hw6:IntKind.i64.wrap ((k6:Int)+1)=(k6:Int)+1:=by
       have h1:ym.names.length<=4000:=HN.out _ (List.mem_of_getElem? HY.out)
       simp only[IntKind.wrap_i64];omega
      rw[hon] at f5
      clear hz rws hon hl6 hk6
      go_wp2_with fail
      refine (find_any B ub g iv nv fv tv ns I G2 (by rw[LG.out.1.len];have:=HS.out.1;omega) z1 _ LU.out).mono ?_
      rintro r w2 ⟨rfl,hb2⟩
      have U2:=hid (LU.out.below hb2)
      have B2:Hid (Below B w w2):=LB.out.trans (LU.out.base HBG.out hb2)
      have F2:Hid (w2.heap[fb]?=some (.cells #[.int .i64 0,.int .i64 0] 44 (0,0))):=(hb2.block _ (ags LFt.out).1).trans LFt.out
      have I2:Hid (w2.heap[ib]?=some (.cells (itA ym (.slice on ym.names.length cn) (.slice op ym.names.length cp)) 122 (0,0))):=(hb2.block _ (ags LI.out).1).trans LI.out
      clear hb2 f5 cz
      cases hf:Ref.fnd G2 z1 with
      | none=>
       have e:Ref.fndI G2 z1=-1:=by unfold Ref.fndI;rw[hf]
       rw[e]
       obtain⟨kp,hop,cp2⟩:=row_place (U2.out.pi.rows _ (List.mem_of_getElem? HY.out)).2 HZ.out
       have f6:w2.cell? ⟨ib,6,none⟩=some (.slice op ym.names.length cp):=(cor w2 _ 6 _ _ _ I2.out).trans rfl
       rw[hop] at f6
       obtain⟨g0,g1,z0⟩:=fault_at F2.out
       clear hop hf e
       go_wp2_with fail
       obtain⟨a2,a3⟩:=two_set (u:=.int .i64 6) (v:=.int .i64 (z2:Nat)) F2.out
       refine bodyPost_ret (v:=.agg #[.int .i64 6,.int .i64 (z2:Nat)]) (by simp[results,Tryz.results58,a2,a3,go_sem]) rfl ?_
       exact⟨6,(z2:Nat),G2,rfl,LG.out.1,LG.out.2,U2.out.off QF.out (fun q hq=>(bhs _ ⟨fb,1,none⟩ _ q hq).trans (bhs _ ⟨fb,0,none⟩ _ q hq)),(B2.out.setCell BF.out _).setCell BF.out _,fun h=>by cases h⟩
      | some jf=>
       have e:Ref.fndI G2 z1=(jf:Int):=by unfold Ref.fndI;rw[hf]
       have hjl:=Ref.fnd_lt hf
       have q0:((jf:Int) < 0)=False:=by simp
       have m1:(0:Int)<=(jf:Int):=by omega
       have m2:(jf:Int) < (G2.length:Int):=by omega
       have hyf:G2[jf]?=some G2[jf]:=List.getElem?_eq_getElem hjl
       generalize G2[jf]=fy at hyf
       obtain⟨kf,cf,hvf,t0,t1,t2,t3,t4,t5⟩:=U2.out.flow6 hyf
       have ff1:=U2.out.cells.2.1
       rw[hvf] at ff1
       obtain⟨U3,fz,B3⟩:=U2.out.setFl HD.out hvf hyf (j:=4) (y':={ fy with outp:=true }) (u:=.bool true) (by decide) rfl
       have HU3:=hid U3
       have HB3:=hid (B2.out.trans B3)
       have HL3:Hid (Like F (G2.set jf { fy with outp:=true })/\(G2.set jf { fy with outp:=true }).map Ref.Fl.pe=F.map Ref.Fl.pe):=⟨LG.out.1.trans (Like.set hyf rfl rfl rfl),(pe_set (y':={ fy with outp:=true }) hyf rfl).trans LG.out.2⟩
       have nb:fv.ownBlock=some kf:=by rw[hvf];rfl
       have HF3:Hid ((w2.setCell ⟨kf,jf*6+4,none⟩ (.bool true)).heap[fb]?=some (.cells #[.int .i64 0,.int .i64 0] 44 (0,0))):=(bhs _ ⟨kf,jf*6+4,none⟩ _ fb (fun e=>QF.out.2.2.2.2.1 (e ▸ nb))).trans F2.out
       have HI3:Hid ((w2.setCell ⟨kf,jf*6+4,none⟩ (.bool true)).heap[ib]?=some (.cells (itA ym (.slice on ym.names.length cn) (.slice op ym.names.length cp)) 122 (0,0))):=(bhs _ ⟨kf,jf*6+4,none⟩ _ ib (fun e=>QI.out (e ▸ nb))).trans I2.out
       rw[e]
       clear e hjl hf hvf hyf U3 B3 nb
       go_wp2_with fail
       go_roundg (ym.names.length - (k6+1))
       case measure=>
        have h1:=HGJ.out
        have h2:=HL6.out
        omega
       case rel=>exact⟨k6+1,_,rfl,HL6.out,rfl,HL3,HU3,HB3,HF3,HI3⟩
     ·have b6:((k6:Int) < (ym.names.length:Int))=False:=by simp;omega
      clear hl6 hk6
      go_wp2_with fail
      go_roundg (I.length - (i+1))
      case measure=>
       have h1:=HG.out
       have h2:=HLT.out
       omega
      case rel=>
       refine⟨i+1,G2,rfl,HLT.out,rfl,LG,LU,LB,LFt,fun j y hj hy hk=>?_⟩
       by_cases hji:j=i
       ·subst hji
        rw[HY.out] at hy
        obtain rfl:=osi hy
        exact KX.out hk
       ·exact KC.out j y (by omega) hy hk
  ·have b0:((i:Int) < (I.length:Int))=False:=by simp;omega
   obtain⟨g0,g1,z0⟩:=fault_at KF.out
   have HE0:Hid (I.length<=i):=by
    show I.length<=i
    omega
   clear hlt hi
   go_wp2_with fail
   obtain⟨a2,a3⟩:=two_set (u:=.int .i64 0) (v:=.int .i64 0) KF.out
   refine bodyPost_ret (v:=.agg #[.int .i64 0,.int .i64 0]) (by simp[results,Tryz.results58,a2,a3,go_sem]) rfl ?_
   refine⟨0,0,G,rfl,KG.out.1,KG.out.2,KU.out.off QF.out (fun q hq=>(bhs _ ⟨fb,1,none⟩ _ q hq).trans (bhs _ ⟨fb,0,none⟩ _ q hq)),(KB.out.setCell BF.out _).setCell BF.out _,fun _ y hy hk=>?_⟩
   obtain⟨j,hj⟩:=List.mem_iff_getElem?.1 hy
   exact KC.out j y (by have:=(lgs hj).1;have:=HE0.out;omega) hj hk
end
end Go.Proofs.YtoiajojadihpbaaGreatDoor
