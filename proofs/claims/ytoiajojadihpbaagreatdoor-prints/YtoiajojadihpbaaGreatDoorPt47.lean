import Derived.Test.YtoiajojadihpbaaGreatDoorPt46
import Derived.BigQuiet
import Derived.OwnWalk
namespace Go.Proofs.YtoiajojadihpbaaGreatDoor
set_option maxHeartbeats 8000000
section
open Go.RowKit
abbrev blv (l:List Bool):List Value:=l.map Value.bool
theorem row_blv {w:World} {B:Nat} {on:Option Addr} {cn:Nat} {O:List Bool} (h:w.ownsRow B 4 1 (.slice on O.length cn) O.length (blv O)) {j:Nat} {z:Bool} (hz:O[j]?=some z):∃kn,on=some ⟨kn,0,none⟩∧w.cell? ⟨kn,j,none⟩=some (.bool z):=by
 have hl:=(List.getElem?_eq_some_iff.1 hz).1
 obtain ⟨h1,⟨h2,h3⟩ | ⟨k,cap,cur,hv,hbk,hk,hcap,hmx,hsz,htk⟩⟩:=h
 ·omega
 ·injection hv with e1 e2 e3
  refine ⟨k,e1,?_⟩
  have e4:(blv O)[j]?=some (.bool z):=by
   show (List.map _ O)[j]?=_
   rw [List.getElem?_map,hz];rfl
  rw [cell_of_row w k _ _ _ _ hk,←e4,←htk,List.getElem?_take]
  rw [if_pos (by omega)]
  simp
theorem row_plv {w:World} {B:Nat} {on:Option Addr} {cn:Nat} {O:List Nat} (h:w.ownsRow B 3 1 (.slice on O.length cn) O.length (plv O)) {j:Nat} {z:Nat} (hz:O[j]?=some z):∃kn,on=some ⟨kn,0,none⟩∧w.cell? ⟨kn,j,none⟩=some (.int .i64 (z:Nat)):=by
 have hl:=(List.getElem?_eq_some_iff.1 hz).1
 obtain ⟨h1,⟨h2,h3⟩ | ⟨k,cap,cur,hv,hbk,hk,hcap,hmx,hsz,htk⟩⟩:=h
 ·omega
 ·injection hv with e1 e2 e3
  refine ⟨k,e1,?_⟩
  have e4:(plv O)[j]?=some (.int .i64 (z:Nat)):=by
   show (List.map _ O)[j]?=_
   rw [List.getElem?_map,hz];rfl
  rw [cell_of_row w k _ _ _ _ hk,←e4,←htk,List.getElem?_take]
  rw [if_pos (by omega)]
  simp
set_option maxRecDepth 100000 in
theorem free_any (B ub g:Nat) (iv nv fv tv:Value) (ns:List Ref.Nd) (I:List Iw) (F:List Ref.Fl) (hU:Uok ns I F) (f:Nat) (hf:f < F.length) (base:Nat) (bv:Value) (T:List Bool) (hT:T.length=F.length) (w:World) (h:UM B ub g iv nv fv tv ns I F w) (ht:w.ownsRow base 4 1 bv T.length (blv T)) :
  Calls Tryz.prog 136 #[.pointer (some ⟨ub,0,none⟩),.int .i64 (f:Nat),bv] w fun r w'=>(∃z:Bool,r=.returned (.bool z))∧Below w.heap.size w w':=by
 have HP:=hid h
 have HU:=hid hU
 have HF:=hid hf
 have HT:=hid hT
 have HB:=hid ht
 obtain ⟨ot,ct,hbv⟩:=own_shape ht
 obtain ⟨o2,c2,hfv⟩:=own_shape h.fl
 have HFV:=hid hfv
 subst hbv
 clear h hU hf hT ht hfv
 go_enter Tryz.func136,Tryz.ntmps136
 go_wp2_with fail
 refine (of_any B ub g iv nv fv tv ns I F HU.out f HF.out _ HP.out).mono ?_
 rintro r w1 ⟨⟨v,L,rfl,hr⟩,hb⟩
 have HB1:=hid hb
 have HL:=hid hr
 obtain ⟨ol,cl,hv⟩:=own_shape hr.1
 subst hv
 clear hb hr
 go_wp2_with fail
 go_loopg [8] L.length (fun gj s8 wj=>∃(i:Nat),s8=.int .i64 (i:Nat)∧i≤L.length∧gj=L.length - i∧Hid (Below w1.heap.size w1 wj))
 case atStart=>exact ⟨0,rfl,Nat.zero_le _,rfl,Below.refl _ _⟩
 case round=>
  obtain ⟨i,rfl,hi,hg,KB⟩:=hrel
  have HG:=hid hg
  have KW:=hid (below_step HB1.out KB.out)
  clear hg
  by_cases hlt:i < L.length
  ·have b0:((i:Int) < (L.length:Int))=True:=by simp;omega
   have i1:(0:Int)≤(i:Int):=by omega
   have i2:(i:Int) < (L.length:Int):=by omega
   have hz:L[i]?=some L[i]:=List.getElem?_eq_getElem hlt
   generalize L[i]=z at hz
   have hzl:z < F.length:=HL.out.2.1 z (List.mem_of_getElem? hz)
   have hfl:=HF.out
   have i3:(0:Int)≤(z:Int):=by omega
   have i4:(z:Int) < (F.length:Int):=by omega
   have i5:(0:Int)≤(f:Int):=by omega
   have i6:(f:Int) < (F.length:Int):=by omega
   have i7:(z:Int) < (T.length:Int):=by rw [HT.out];exact i4
   have hy:F[z]?=some F[z]:=List.getElem?_eq_getElem hzl
   generalize F[z]=y at hy
   have hyf:F[f]?=some F[f]:=List.getElem?_eq_getElem hfl
   generalize F[f]=yf at hyf
   have hzt:z < T.length:=by rw [HT.out];exact hzl
   have hb:T[z]?=some T[z]:=List.getElem?_eq_getElem hzt
   generalize T[z]=t at hb
   have KU:=hid (HP.out.below KW.out)
   obtain ⟨kf,cf,hvf,t0,t1,t2,t3,t4,t5⟩:=KU.out.flow6 hy
   obtain ⟨kf2,cf2,hvf2,s0,s1,s2,s3,s4,s5⟩:=KU.out.flow6 hyf
   obtain ⟨he1,he2⟩:kf2=kf∧cf2=cf:=by
    rw [hvf] at hvf2
    injection hvf2 with h1 h2 h3
    injection h1 with h1
    injection h1 with h1
    exact ⟨h1.symm,h3.symm⟩
   subst he1
   subst he2
   have d1:=KU.out.cells.2.1
   rw [hvf] at d1
   obtain ⟨kl,hol,cz⟩:=row_plv (own_kept HL.out.1 (fun q hq=>KB.out.block q (HL.out.1.lt q hq).2)) hz
   have hbt:=HB.out
   obtain ⟨kt,hot,czt⟩:=row_blv (own_kept hbt (fun q hq=>KW.out.block q (hbt.lt q hq).2)) hb
   subst hol
   subst hot
   have HLT:=hid hlt
   have hw:IntKind.i64.wrap ((i:Int)+1)=(i:Int)+1:=by
    have:=HL.out.2.2
    simp only [IntKind.wrap_i64];omega
   have up:∀{q:Addr} {v:Value},wr.cell? q=some v→∀w',Below wr.heap.size wr w'→w'.cell? q=some v:=fun hq w' hb=>(hb.cell (lt_of_cell hq)).trans hq
   have j0:=up t0
   have j1:=up t1
   have j2:=up t2
   have j3:=up t3
   have j4:=up t4
   have j5:=up t5
   have j6:=up d1
   have j7:=up cz
   have X2:=hid s2
   have X6:=hid d1
   have X7:=hid cz
   have X8:=hid czt
   clear up hz hzl hfl hy hyf hzt hb hvf hvf2 s0 s1 s2 s3 s4 s5 hbt hlt hi czt
   go_wp2_with fail
   clear t0 t1 t2 t3 t4 t5 d1 cz
   go_region_held3 (fun w'=>Below wr.heap.size wr w') (first | assumption | exact (Below.refl _ _).drew | exact Below.alloc (by assumption) (Below.size (by assumption)) _ | exact Below.alloc (Below.refl _ _) (Nat.le_refl _) _ | exact ((Below.refl _ _).alloc (Nat.le_refl _) _).drew) (fail)
   have HBI:Hid (Below wr.heap.size wr ((wr.alloc (.cells #[.string (bs y.name),.int .i64 (y.ty:Nat),.int .i64 (y.pe:Nat),.bool y.inp,.bool y.outp,.int .i64 (y.item:Nat)] 136)).drew)):=((Below.refl _ _).alloc (Nat.le_refl _) _).drew
   have IB:Hid (((wr.alloc (.cells #[.string (bs y.name),.int .i64 (y.ty:Nat),.int .i64 (y.pe:Nat),.bool y.inp,.bool y.outp,.int .i64 (y.item:Nat)] 136)).drew).heap[wr.heap.size]?=some (.cells #[.string (bs y.name),.int .i64 (y.ty:Nat),.int .i64 (y.pe:Nat),.bool y.inp,.bool y.outp,.int .i64 (y.item:Nat)] 136 (0,0))):=heap_alloc_new wr _
   clear j0 j1 j2 j3 j4 j5 j6 j7
   have WB:=hid (below_step KB.out HBI.out)
   have x2:=(HBI.out.cell (lt_of_cell X2.out)).trans X2.out
   have x6:=(HBI.out.cell (lt_of_cell X6.out)).trans X6.out
   have x7:=(HBI.out.cell (lt_of_cell X7.out)).trans X7.out
   have x8:=(HBI.out.cell (lt_of_cell X8.out)).trans X8.out
   have p2:((wr.alloc (.cells #[.string (bs y.name),.int .i64 (y.ty:Nat),.int .i64 (y.pe:Nat),.bool y.inp,.bool y.outp,.int .i64 (y.item:Nat)] 136)).drew).cell? ⟨wr.heap.size,2,none⟩=some (.int .i64 (y.pe:Nat)):=(cell_of_row _ _ 2 _ _ _ IB.out).trans rfl
   have p3:((wr.alloc (.cells #[.string (bs y.name),.int .i64 (y.ty:Nat),.int .i64 (y.pe:Nat),.bool y.inp,.bool y.outp,.int .i64 (y.item:Nat)] 136)).drew).cell? ⟨wr.heap.size,3,none⟩=some (.bool y.inp):=(cell_of_row _ _ 3 _ _ _ IB.out).trans rfl
   clear X2 X6 X7 X8 HBI IB
   generalize (wr.alloc (.cells #[.string (bs y.name),.int .i64 (y.ty:Nat),.int .i64 (y.pe:Nat),.bool y.inp,.bool y.outp,.int .i64 (y.item:Nat)] 136)).drew=W at WB x2 x6 x7 x8 p2 p3 ⊢
   generalize wr.heap.size=ib at p2 p3 ⊢
   obtain ⟨yn,yt,yp,yi,yo,ym⟩:=y
   simp only [] at p2 p3
   go_wp2_with fail
   cases yi
   ·by_cases hpp:yp=yf.pe
    ·have q1:((yp:Int)==(yf.pe:Int))=true:=by rw [beq_iff_eq];omega
     clear hpp
     cases t
     ·go_quiet (fail)
      all_goals go_wp2_with fail
      all_goals go_ret
      all_goals exact ⟨⟨_,rfl⟩,below_step HB1.out (below_drewN WB.out _)⟩
     ·go_quiet (fail)
      all_goals go_wp2_with fail
      all_goals go_roundg (L.length - (i+1))
      case measure=>
       have h1:=HG.out
       have h2:=HLT.out
       omega
      case rel=>exact ⟨i+1,rfl,HLT.out,rfl,below_drewN WB.out _⟩
    ·have q1:((yp:Int)==(yf.pe:Int))=false:=by rw [beq_eq_false_iff_ne];omega
     clear hpp
     go_quiet (fail)
     all_goals go_wp2_with fail
     all_goals go_roundg (L.length - (i+1))
     case measure=>
      have h1:=HG.out
      have h2:=HLT.out
      omega
     case rel=>exact ⟨i+1,rfl,HLT.out,rfl,below_drewN WB.out _⟩
   ·go_quiet (fail)
    all_goals go_wp2_with fail
    all_goals go_roundg (L.length - (i+1))
    case measure=>
     have h1:=HG.out
     have h2:=HLT.out
     omega
    case rel=>exact ⟨i+1,rfl,HLT.out,rfl,below_drewN WB.out _⟩
  ·have b0:((i:Int) < (L.length:Int))=False:=by simp;omega
   clear hlt hi
   go_wp2_with fail
   all_goals go_ret
   all_goals exact ⟨⟨_,rfl⟩,KW.out⟩
end
section
open Go.RowKit
theorem Tryz.infoBool:(Tryz.prog.info? 4).map (fun i=>(i.zero,i.size,i.bytes))=some (some (.bool false),1,1):=by kernel_rfl
theorem made_bools (n:Nat):(madeCells (Value.bool false).cells (n*1)).toList=blv (List.replicate n false):=by
 rw [Nat.mul_one]
 apply List.ext_getElem?
 intro j
 by_cases h:j < n
 ·simp [madeCells,blv,Value.cells,h,Nat.mod_one]
 ·simp [madeCells,blv,Value.cells,h]
def fc (T:List Bool):Nat:=T.countP (fun t=>!t)
theorem fc_set:∀{T:List Bool} {f:Nat},T[f]?=some false→fc (T.set f true)+1=fc T
 | [],_,h=>by cases h
 | t::T,0,h=>by
  have:t=false:=by simpa using h
  subst this
  simp [fc]
 | t::T,f+1,h=>by
  rw [List.getElem?_cons_succ] at h
  have ih:=fc_set (T:=T) (f:=f) h
  show fc (t::T.set f true)+1=fc (t::T)
  unfold fc at ih ⊢
  rw [List.countP_cons,List.countP_cons]
  omega
theorem fc_made (n:Nat):fc (List.replicate n false)=n:=by
 unfold fc
 induction n with
 | zero=>rfl
 | succ n ih=>rw [List.replicate_succ,List.countP_cons,ih];rfl
theorem blv_set (T:List Bool) (f:Nat) (t:Bool):(blv T).set f (.bool t)=blv (T.set f t):=by
 show (List.map _ T).set f _=List.map _ _
 rw [List.map_set]
set_option maxRecDepth 100000 in
theorem order_any (B ub g:Nat) (iv nv fv tv:Value) (ns:List Ref.Nd) (I:List Iw) (F:List Ref.Fl) (hU:Uok ns I F) (p:Nat) (w:World) (h:UM B ub g iv nv fv tv ns I F w) :
  Calls Tryz.prog 107 #[.pointer (some ⟨ub,0,none⟩),.int .i64 (p:Nat)] w fun r w'=>(∃v L,r=.returned v∧FR F w' w.heap.size v L)∧Below w.heap.size w w':=by
 have HP:=hid h
 have HU:=hid hU
 obtain ⟨o2,c2,hfv⟩:=own_shape h.fl
 have HFV:=hid hfv
 have d1:=h.cells.2.1
 rw [hfv] at d1
 have HL:Hid (F.length≤60):=hU.len
 have l1:(0:Int)≤(F.length:Int):=by omega
 obtain ⟨b0,hb0,bz0,bz1,bz2⟩:=info_parts Tryz.infoBool
 clear h hU hfv
 go_enter Tryz.func107,Tryz.ntmps107
 go_wp2_with (at_make;refine wpList_make_full _ rfl _ _ 200 rfl w.heap.size 4 b0 (.bool false) 1 Tryz.underlying200 hb0 bz0 bz1 _ _ _ _ F.length rfl rfl rfl rfl (by rw [bz2];have:=HL.out;omega) (by unfold maxLen;have:=HL.out;omega) (Nat.le_refl _) ?_;intro w1 ho1 hg1)
 rw [made_bools] at ho1
 have HB1:Hid (Below w.heap.size w w1):=⟨hg1.os,hg1.tape,hg1.output,hg1.size,fun k hk=>hg1.block k hk (by simp)⟩
 have HO1:=hid ho1
 have HS1:Hid (w.heap.size < w1.heap.size):=(ho1.lt w.heap.size rfl).2
 clear ho1 hg1 d1 l1 hb0 bz0 bz1 bz2
 go_wp2_with fail
 go_loopg [5] (fc (List.replicate F.length false)) (fun gk s5 wr=>∃(T:List Bool) (lv:Value) (L:List Nat),s5=lv∧gk=fc T∧Hid (T.length=F.length∧L.length+fc T≤F.length)∧Hid (wr.ownsRow w.heap.size 4 1 (.slice (some ⟨w.heap.size,0,none⟩) F.length F.length) F.length (blv T))∧Hid (wr.ownsRow (w.heap.size+1) 3 1 lv L.length (plv L))∧Hid (∀k,k∈L→k < F.length)∧Hid (Below w.heap.size w wr))
 case atStart=>
  refine ⟨List.replicate F.length false,.slice none 0 0,[],rfl,rfl,⟨by simp,by rw [fc_made];simp⟩,HO1,World.ownsRow_nil _ _ _ _,(fun k hk=>by cases hk),HB1⟩
 case round=>
  obtain ⟨T,lv,L,rfl,hg,KT,KO,KL,KN,KB⟩:=hrel
  have HG:=hid hg
  clear hg
  go_wp2_with fail
  go_loopg [7,8] F.length (fun gj s7 s8 wj=>∃(f:Nat) (nx:Int),s7=.int .i64 nx∧s8=.int .i64 (f:Nat)∧f≤F.length∧gj=F.length - f∧Hid (nx=-1∨∃q:Nat,nx=(q:Nat)∧q < F.length∧T[q]?=some false)∧Hid (Below wr.heap.size wr wj))
  case atStart=>exact ⟨0,-1,rfl,rfl,Nat.zero_le _,rfl,Or.inl rfl,Below.refl _ _⟩
  case round=>
   obtain ⟨f,nx,rfl,rfl,hf,hgj,KX,KJ⟩:=hrel
   have HGJ:=hid hgj
   have KW:=hid (below_step KB.out KJ.out)
   have KU:=hid (HP.out.below KW.out)
   have d1:=KU.out.cells.2.1
   rw [HFV.out] at d1
   have KOj:Hid (wr.ownsRow w.heap.size 4 1 (.slice (some ⟨w.heap.size,0,none⟩) F.length F.length) F.length (blv T)):=own_kept KO.out (fun q hq=>KJ.out.block q (KO.out.lt q hq).2)
   have KLj:Hid (wr.ownsRow (w.heap.size+1) 3 1 u5 L.length (plv L)):=own_kept KL.out (fun q hq=>KJ.out.block q (KL.out.lt q hq).2)
   clear hgj
   rcases KX.out with rfl | ⟨q,rfl,hq,hTq⟩
   ·by_cases hlt:f < F.length
    ·have b0:((f:Int) < (F.length:Int))=True:=by simp;omega
     have i1:(0:Int)≤(f:Int):=by omega
     have i2:(f:Int) < (F.length:Int):=by omega
     have hy:F[f]?=some F[f]:=List.getElem?_eq_getElem hlt
     generalize F[f]=y at hy
     have hlT:f < T.length:=by rw [KT.out.1];exact hlt
     have hb:T[f]?=some T[f]:=List.getElem?_eq_getElem hlT
     generalize T[f]=t at hb
     have HTF:=hid hb
     obtain ⟨kf,cf,hvf,t0,t1,t2,t3,t4,t5⟩:=KU.out.flow6 hy
     obtain ⟨he1,he2⟩:o2=some ⟨kf,0,none⟩∧c2=cf:=by
      rw [HFV.out] at hvf
      injection hvf with h1 h2 h3
      exact ⟨h1,h3⟩
     subst he1
     subst he2
     have hOT:=KOj.out
     rw [←KT.out.1] at hOT
     obtain ⟨kt,hot,czt⟩:=row_blv hOT hb
     injection hot with hot
     injection hot with hot
     subst hot
     have HLT:=hid hlt
     have hw:IntKind.i64.wrap ((f:Int)+1)=(f:Int)+1:=by
      have:=HL.out
      simp only [IntKind.wrap_i64];omega
     have HBI:Hid (Below wr.heap.size wr (wr.alloc (.cells #[.string (bs y.name),.int .i64 (y.ty:Nat),.int .i64 (y.pe:Nat),.bool y.inp,.bool y.outp,.int .i64 (y.item:Nat)] 136))):=(Below.refl _ _).alloc (Nat.le_refl _) _
     have IB:Hid ((wr.alloc (.cells #[.string (bs y.name),.int .i64 (y.ty:Nat),.int .i64 (y.pe:Nat),.bool y.inp,.bool y.outp,.int .i64 (y.item:Nat)] 136)).heap[wr.heap.size]?=some (.cells #[.string (bs y.name),.int .i64 (y.ty:Nat),.int .i64 (y.pe:Nat),.bool y.inp,.bool y.outp,.int .i64 (y.item:Nat)] 136 (0,0))):=heap_alloc_new wr _
     have X8:Hid ((wr.alloc (.cells #[.string (bs y.name),.int .i64 (y.ty:Nat),.int .i64 (y.pe:Nat),.bool y.inp,.bool y.outp,.int .i64 (y.item:Nat)] 136)).cell? ⟨w.heap.size,f,none⟩=some (.bool t)):=(HBI.out.cell (lt_of_cell czt)).trans czt
     clear hlT hb hvf hOT czt hlt hf hy
     go_upto_region 8 with (fail)
     clear t0 t1 t2 t3 t4 t5 d1
     have p2:(wr.alloc (.cells #[.string (bs y.name),.int .i64 (y.ty:Nat),.int .i64 (y.pe:Nat),.bool y.inp,.bool y.outp,.int .i64 (y.item:Nat)] 136)).cell? ⟨wr.heap.size,2,none⟩=some (.int .i64 (y.pe:Nat)):=(cell_of_row _ _ 2 _ _ _ IB.out).trans rfl
     have p3:(wr.alloc (.cells #[.string (bs y.name),.int .i64 (y.ty:Nat),.int .i64 (y.pe:Nat),.bool y.inp,.bool y.outp,.int .i64 (y.item:Nat)] 136)).cell? ⟨wr.heap.size,3,none⟩=some (.bool y.inp):=(cell_of_row _ _ 3 _ _ _ IB.out).trans rfl
     have x8:=X8.out
     have WJ:=hid (below_step KW.out HBI.out)
     have WO:Hid ((wr.alloc (.cells #[.string (bs y.name),.int .i64 (y.ty:Nat),.int .i64 (y.pe:Nat),.bool y.inp,.bool y.outp,.int .i64 (y.item:Nat)] 136)).ownsRow w.heap.size 4 1 (.slice (some ⟨w.heap.size,0,none⟩) F.length F.length) F.length (blv T)):=own_kept KOj.out (fun q hq=>HBI.out.block q (KOj.out.lt q hq).2)
     have WB:=hid (below_step KJ.out HBI.out)
     clear X8 IB HBI KOj KLj KU KW KJ
     generalize (wr.alloc (.cells #[.string (bs y.name),.int .i64 (y.ty:Nat),.int .i64 (y.pe:Nat),.bool y.inp,.bool y.outp,.int .i64 (y.item:Nat)] 136))=W at WJ WO WB p2 p3 x8 ⊢
     generalize wr.heap.size=ib at p2 p3 ⊢
     obtain ⟨yn,yt,yp,yi,yo,ym⟩:=y
     simp only [] at p2 p3
     cases yi
     ·by_cases hpp:yp=p
      ·have q1:((yp:Int)==(p:Int))=true:=by rw [beq_iff_eq];omega
       clear hpp
       cases t
       ·go_wp2_with fail
        refine (free_any B ub g iv nv fv tv ns I F HU.out f HLT.out w.heap.size _ T KT.out.1 _ (HP.out.below WJ.out) (by rw [KT.out.1];exact WO.out)).mono ?_
        rintro r w3 ⟨⟨z,rfl⟩,hb⟩
        have WB3:=hid (below_step WB.out hb)
        clear hb
        cases z
        ·go_wp2_with fail
         go_roundg (F.length - (f+1))
         case measure=>
          have h1:=HGJ.out
          have h2:=HLT.out
          omega
         case rel=>exact ⟨f+1,-1,rfl,rfl,HLT.out,rfl,Or.inl rfl,WB3⟩
        ·go_wp2_with fail
         go_roundg (F.length - (f+1))
         case measure=>
          have h1:=HGJ.out
          have h2:=HLT.out
          omega
         case rel=>exact ⟨f+1,(f:Nat),rfl,rfl,HLT.out,rfl,Or.inr ⟨f,rfl,HLT.out,HTF.out⟩,WB3⟩
       ·go_wp2_with fail
        go_roundg (F.length - (f+1))
        case measure=>
         have h1:=HGJ.out
         have h2:=HLT.out
         omega
        case rel=>exact ⟨f+1,-1,rfl,rfl,HLT.out,rfl,Or.inl rfl,WB⟩
      ·have q1:((yp:Int)==(p:Int))=false:=by rw [beq_eq_false_iff_ne];omega
       clear hpp
       go_wp2_with fail
       go_roundg (F.length - (f+1))
       case measure=>
        have h1:=HGJ.out
        have h2:=HLT.out
        omega
       case rel=>exact ⟨f+1,-1,rfl,rfl,HLT.out,rfl,Or.inl rfl,WB⟩
     ·go_wp2_with fail
      go_roundg (F.length - (f+1))
      case measure=>
       have h1:=HGJ.out
       have h2:=HLT.out
       omega
      case rel=>exact ⟨f+1,-1,rfl,rfl,HLT.out,rfl,Or.inl rfl,WB⟩
    ·have b0:((f:Int) < (F.length:Int))=False:=by simp;omega
     clear hlt hf
     go_wp2_with fail
     all_goals go_ret
     all_goals exact ⟨⟨_,rfl,L,own_less KLj.out (Nat.le_succ _),KN.out,by have:=KT.out.2;have:=HL.out;omega⟩,KW.out⟩
   ·have q0:(((q:Nat):Int) < 0)=False:=by simp
    have i1:(0:Int)≤(q:Int):=by omega
    have i2:(q:Int) < (F.length:Int):=by omega
    obtain ⟨o1,o2',o3⟩:=own_set KOj.out (j:=q) (by omega) (.bool true)
    obtain ⟨k0,hk0,kz0,kz1,kz2⟩:=info_parts Tryz.infoInt
    rw [blv_set] at o1
    have O1:=hid o1
    have KL2:Hid ((wr.setCell ⟨w.heap.size,q,none⟩ (.bool true)).ownsRow (w.heap.size+1) 3 1 u5 L.length (plv L)):=own_kept KLj.out (fun k hk=>Below.heap_setCell wr ⟨w.heap.size,q,none⟩ _ k (by have:=(KLj.out.lt k hk).1;show k≠w.heap.size;omega))
    have KW2:Hid (Below w.heap.size w (wr.setCell ⟨w.heap.size,q,none⟩ (.bool true))):=KW.out.setCell (Nat.le_refl _) _
    have HTQ:Hid (T[q]?=some false∧q < F.length):=⟨hTq,hq⟩
    have hOT:=KOj.out
    rw [←KT.out.1] at hOT
    obtain ⟨kt,hot,c8⟩:=row_blv hOT hTq
    injection hot with hot
    injection hot with hot
    subst hot
    have HK0:Hid (Tryz.prog.info? 3=some k0∧k0.zero=some (.int .i64 0)∧k0.size=1∧k0.bytes=8):=⟨hk0,kz0,kz1,kz2⟩
    have HSZ:Hid (w.heap.size < (wr.setCell ⟨w.heap.size,q,none⟩ (.bool true)).heap.size):=(O1.out.lt w.heap.size rfl).2
    clear hTq hq o1 o3 hk0 kz0 kz1 kz2 hOT hf
    obtain ⟨b,b0⟩:∃b:Bool,((f:Int) < (F.length:Int))=(b=true):=by
     by_cases hlt:f < F.length
     ·exact ⟨true,by simp;omega⟩
     ·exact ⟨false,by simp;omega⟩
    cases b
    all_goals simp only [Bool.false_eq_true] at b0
    all_goals (
     go_upto_region 15 with (fail)
     clear c8 o2' d1 KOj KLj KU KW
     generalize (wr.setCell ⟨w.heap.size,q,none⟩ (.bool true))=V at O1 KL2 KW2 HSZ ⊢
     have VB:Hid (Below V.heap.size V (V.alloc (.cells #[.int .i64 (q:Nat)] 3))):=(Below.refl _ _).alloc (Nat.le_refl _) _
     have OW:Hid ((V.alloc (.cells #[.int .i64 (q:Nat)] 3)).ownsRow (w.heap.size+1) 3 1 u5 L.length (plv L)):=own_kept KL2.out (fun k hk=>VB.out.block k (KL2.out.lt k hk).2)
     have NW:Hid (∀(j:Nat) (u:Value),[Value.int .i64 (q:Nat)][j]?=some u→(V.alloc (.cells #[.int .i64 (q:Nat)] 3)).cell? ((⟨V.heap.size,0,none⟩:Addr).add j)=some u):=fun j u h=>news_cells V [.int .i64 (q:Nat)] 3 j u h
     have LL:Hid (L.length < 60):=by
      have h1:=KT.out.2
      have h2:=fc_set HTQ.out.1
      have h3:=HL.out
      show L.length < 60
      omega
     go_wp2_with (at_builtin;refine wpList_append_own_at _ rfl (.tmp 65) (.tmp 67) 120 rfl (w.heap.size+1) 3 k0 (.int .i64 0) 1 8 Tryz.underlying120 HK0.out.1 HK0.out.2.1 HK0.out.2.2.1 HK0.out.2.2.2 rfl (by decide) u5 L.length (plv L) rfl OW.out ⟨V.heap.size,0,none⟩ 1 1 [.int .i64 (q:Nat)] rfl rfl NW.out (by intro u hu;rw [List.mem_singleton.1 hu];rfl) (by unfold maxLen;have:=LL.out;omega) (by have:=LL.out;omega) (by have:=HSZ.out;simp;omega) ?_;intro v5 w5 ho5 hg5 _ hat5)
     have G5:Hid (Below w.heap.size w w5):=(KW2.out.alloc KW2.out.size _).trans ⟨hg5.os,hg5.tape,hg5.output,hg5.size,fun k hk=>hg5.block k (by have:=KW2.out.size;simp;omega) (fun e=>by have:=(KL2.out.lt k e.symm).1;omega)⟩
     have O5:Hid (w5.ownsRow w.heap.size 4 1 (.slice (some ⟨w.heap.size,0,none⟩) F.length F.length) F.length (blv (T.set q true))):=own_kept O1.out (fun k hk=>by
      have e:w.heap.size=k:=by simpa [Value.ownBlock] using hk
      subst e
      exact (hg5.block _ (by have:=HSZ.out;simp;omega) (fun e=>by have:=(KL2.out.lt _ e.symm).1;omega)).trans (VB.out.block _ HSZ.out))
     have L5:Hid (w5.ownsRow (w.heap.size+1) 3 1 v5 (L++[q]).length (plv (L++[q]))):=by
      show World.ownsRow _ _ _ _ _ _ _
      rw [show plv (L++[q])=plv L++[.int .i64 (q:Nat)] from by simp [plv],List.length_append]
      exact ho5
     clear ho5 hg5 hat5
     go_wp2_with fail
     go_roundg (fc (T.set q true))
     case measure=>
      have h1:=HG.out
      have h2:=fc_set HTQ.out.1
      omega
     case rel=>
      refine ⟨T.set q true,v5,L++[q],rfl,rfl,⟨?_,?_⟩,O5,L5,(fun k hk=>?_),G5⟩
      ·rw [List.length_set];exact KT.out.1
      ·have h1:=KT.out.2
       have h2:=fc_set HTQ.out.1
       rw [List.length_append,List.length_singleton]
       omega
      ·rcases List.mem_append.1 hk with hk | hk
       ·exact KN.out k hk
       ·rw [List.mem_singleton.1 hk];exact HTQ.out.2)
end
end Go.Proofs.YtoiajojadihpbaaGreatDoor
