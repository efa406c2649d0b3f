import Derived.Test.YtjehljjlcifndaaGreatDoorX43
import Derived.Test.YtjehljjlcifndaaGreatDoorX28
namespace Go.Proofs.YtjehljjlcifndaaGreatDoor
set_option maxHeartbeats 32000000
set_option maxRecDepth 100000
section
open Go.RowKit
def putL (L:Nat->List Int):List (Nat×Int)->(Nat->List Int)
 | []=>L
 | p::r=>putL (lput L p.1 p.2) r
theorem putL_snoc (p:Nat×Int):∀(zs:List (Nat×Int)) (L:Nat->List Int),putL L (zs++[p])=lput (putL L zs) p.1 p.2
 | [],_=>rfl
 | z::r,L=>putL_snoc p r (lput L z.1 z.2)
theorem lput_len (L:Nat->List Int) (j:Nat) (v:Int) (k:Nat):(lput L j v k).length<=(L k).length+1:=by
 unfold lput
 split
 ·rename_i e;subst e;simp
 ·omega
theorem putL_len (j:Nat):∀(zs:List (Nat×Int)) (L:Nat->List Int),(putL L zs j).length<=(L j).length+zs.length
 | [],L=>Nat.le_refl _
 | z::r,L=>by
  have h1:=putL_len j r (lput L z.1 z.2)
  have h2:=lput_len L z.1 z.2 j
  show (putL (lput L z.1 z.2) r j).length<=(L j).length+(r.length+1)
  omega
def setJ (O:Nat->List Nat) (J:Nat->List Nat):List Nat->(Nat->List Nat)
 | []=>J
 | t::r=>setJ O (jput J t (O t)) r
theorem setJ_snoc (O:Nat->List Nat) (t:Nat):∀(ts:List Nat) (J:Nat->List Nat),setJ O J (ts++[t])=jput (setJ O J ts) t (O t)
 | [],_=>rfl
 | z::r,J=>setJ_snoc O t r (jput J z (O z))
structure Ptm (F:List Flo) (U:List (Nat×Value)) (O:Nat->List Nat) (wE:World) (fv tv:Value):Prop where
 fl:∃B,wE.ownsRow B 52 5 fv F.length (fls F)
 tk:∃B,wE.ownsRow B 72 2 tv U.length (tks U)
 f60:F.length<=60
 u60:U.length<=60
 fper:∀f∈F,1<=f.per
 uper:∀u∈U,1<=u.1/\∃o n c,u.2=.slice o n c
 ord:∀(i:Nat) u,U[i]?=some u->Jq wE u.2 (O i)
section
variable {D D2:Nat->Obj->Prop} {wE:World} {mb lb jb K T:Nat} {fv tv wv:Value} {c:Int} {ov:Bool} {L:Nat->List Int} {J:Nat->List Nat} {fn jn:Nat->Value} {w:World}
theorem Mc.sub (h:Mc D2 wE mb lb jb K T fv tv wv c ov L J fn jn w) (hs:∀b o,D b o->D2 b o):Mc D wE mb lb jb K T fv tv wv c ov L J fn jn w:=
 ⟨h.be,h.m0,h.row,h.jrow,h.lo1,h.lo2,h.lo3,h.log,h.ap,h.job,fun b o hb=>h.kp b o (hs b o hb)⟩
theorem Mc.own (h:Mc D wE mb lb jb K T fv tv wv c ov L J fn jn w) {i:Nat} {v:Value} {c':Int} {ov':Bool} (hb:(w.setCell ⟨mb,i,none⟩ v).heap[mb]?=some (.cells #[fv,tv,wv,.int .i64 c',.bool ov',.slice (some ⟨lb,0,none⟩) K K,.slice (some ⟨jb,0,none⟩) T T] 101 (0,0))):Mc D wE mb lb jb K T fv tv wv c' ov' L J fn jn (w.setCell ⟨mb,i,none⟩ v):=by
 obtain⟨cr,hcr⟩:=rowIs_heap h.row
 obtain⟨cj,hcj⟩:=rowIs_heap h.jrow
 have keep:∀k,k≠mb->(w.setCell ⟨mb,i,none⟩ v).heap[k]?=w.heap[k]?:=fun k hk=>bhs w ⟨mb,i,none⟩ _ k hk
 have n1:lb≠mb:=heap_nt hcr h.m0 (by decide)
 have n2:jb≠mb:=heap_nt hcj h.m0 (by decide)
 refine⟨h.be.setCell (p:=⟨mb,i,none⟩) h.lo1 _,hb,h.row.of_block (keep lb n1),h.jrow.of_block (keep jb n2),h.lo1,h.lo2,h.lo3,fun j hj=>?_,h.ap,h.job,fun b o hb=>?_⟩
 ·obtain⟨y0,y1⟩:=h.log j hj
  refine⟨y0,own_kept y1 (fun q hq=>?_)⟩
  obtain⟨_,cy,hcy⟩:=own_lt y1 q hq
  exact keep q (heap_nt hcy h.m0 (by decide))
 ·obtain⟨k1,k2,k3,k4,k5⟩:=h.kp b o hb
  exact⟨(keep b k2).trans k1,k2,k3,k4,k5⟩
theorem Mc.over (h:Mc D wE mb lb jb K T fv tv wv c ov L J fn jn w):Mc D wE mb lb jb K T fv tv wv c true L J fn jn (w.setCell ⟨mb,4,none⟩ (.bool true)):=h.own (by
 show (w.heap.modify mb _)[mb]?=_
 rw[Array.getElem?_modify,if_pos rfl,h.m0];rfl)
theorem Mc.clock (h:Mc D wE mb lb jb K T fv tv wv c ov L J fn jn w) (c':Int):Mc D wE mb lb jb K T fv tv wv c' ov L J fn jn (w.setCell ⟨mb,3,none⟩ (.int .i64 c')):=h.own (by
 show (w.heap.modify mb _)[mb]?=_
 rw[Array.getElem?_modify,if_pos rfl,h.m0];rfl)
theorem Mc.free (h:Mc D wE mb lb jb K T fv tv wv c ov L J fn jn w) (i:Nat):w.frozen? ⟨mb,i,none⟩=false:=by unfold World.frozen?;rw[h.m0];simp
end
def TkP (al:Nat->Addr) (D:Nat->Obj->Prop) (F:List Flo) (U:List (Nat×Value)) (O:Nat->List Nat) (wE:World) (mb lb jb:Nat) (fv tv wv:Value) (c:Nat) (ov:Bool) (L:Nat->List Int) (J:Nat->List Nat) (xs:List Int) (E:Ending) (w':World):Prop:=
 ∃fn jn,
 (ov=true/\E=.returned (errV (al 12))/\Mc D wE mb lb jb F.length U.length fv tv wv (c:Nat) ov L J fn jn w') \/
 (ov=false/\fitT F (duI F c F.length) xs=false/\E=.returned (errV (al 11))/\Mc D wE mb lb jb F.length U.length fv tv wv (c:Nat) ov L J fn jn w') \/
 (ov=false/\fitT F (duI F c F.length) xs=true/\(duT U c U.length).any (fun t=>!(J t).isEmpty)=true/\E=.returned (errV (al 12))/\Mc D wE mb lb jb F.length U.length fv tv wv (c:Nat) true L J fn jn w') \/
 (ov=false/\fitT F (duI F c F.length) xs=true/\(duT U c U.length).any (fun t=>!(J t).isEmpty)=false/\E=.returned .nilIface/\Mc D wE mb lb jb F.length U.length fv tv wv ((c+1:Nat):Int) false (putL L ((duI F c F.length).zip xs)) (setJ O J (duT U c U.length)) fn jn w')
theorem duI_lt {F:List Flo} {c i k:Nat} (h:k∈duI F c i):k < i:=List.mem_range.1 (List.mem_filter.1 h).1
theorem duT_lt {U:List (Nat×Value)} {c i k:Nat} (h:k∈duT U c i):k < i:=List.mem_range.1 (List.mem_filter.1 h).1
theorem tick_any {al:Nat->Addr} {D:Nat->Obj->Prop} {F:List Flo} {U:List (Nat×Value)} {O:Nat->List Nat} {wE:World} {mb lb jb c BX:Nat} {fv tv wv:Value} {ov:Bool} {L:Nat->List Int} {J:Nat->List Nat} {fn jn:Nat->Value} {w:World} (hE:Errs al wE) (P:Ptm F U O wE fv tv) (h:Mc D wE mb lb jb F.length U.length fv tv wv (c:Nat) ov L J fn jn w) (hc:c<=1000000) (hL:∀j,(L j).length<=1900) {vx:Value} {xs:List Int} (hx:Nl w BX vx xs) (hxD:∀g o,vx.ownBlock=some g->w.heap[g]?=some o->D g o) :
  Calls Tryz.prog 41 #[.pointer (some ⟨mb,0,none⟩),vx] w (TkP al D F U O wE mb lb jb fv tv wv c ov L J xs):=by
 have HM:Hid (Mc D wE mb lb jb F.length U.length fv tv wv (c:Nat) ov L J fn jn w):=h
 have HP:Hid (Ptm F U O wE fv tv/\c<=1000000/\∀j,(L j).length<=1900):=⟨P,hc,hL⟩
 have HE:Hid (∀w',Mc D wE mb lb jb F.length U.length fv tv wv (c:Nat) ov L J fn jn w'->Errs al w'):=fun w' h'=>hE.below h'.be
 have HER:Hid (Errs al wE):=hE
 have HX:Hid (Nl w BX vx xs/\∀g o,vx.ownBlock=some g->w.heap[g]?=some o->D g o):=⟨hx,hxD⟩
 obtain⟨_,_,_,_,c4,_,_⟩:=h.cells
 clear h P hE hx hxD hc hL
 cases ov with
 | true=>
  have q12:=(HE.out w HM.out).c12
  go_enter Tryz.func41,Tryz.ntmps41
  go_wp2
  go_ret
  exact⟨fn,jn,Or.inl ⟨rfl,rfl,HM.out⟩⟩
 | false=>
  obtain⟨ox,cx,hvx⟩:=own_shape HX.out.1
  subst hvx
  go_enter Tryz.func41,Tryz.ntmps41
  go_wp2_with fail
  refine (dueInputs_any HM.out HP.out.1.fl.choose_spec HP.out.1.f60 HP.out.1.fper).mono ?_
  rintro E w1 ⟨hb1,v1,rfl,hd1⟩
  obtain⟨od,cd,e1⟩:=own_shape hd1
  subst e1
  have HM1:Hid (Mc D wE mb lb jb F.length U.length fv tv wv (c:Nat) false L J fn jn w1):=HM.out.below hb1
  have HB1:Hid (Below w.heap.size w w1):=hb1
  have HD1:Hid (w1.ownsRow w.heap.size 3 1 (.slice od (duI F c F.length).length cd) (duI F c F.length).length (nts (duI F c F.length))):=hd1
  clear hb1 hd1 c4
  go_wp2_with fail
  refine (dueTasks_any HM1.out HP.out.1.tk.choose_spec HP.out.1.u60 HP.out.1.uper).mono ?_
  rintro E w2 ⟨hb2,v2,rfl,ht2⟩
  obtain⟨ot,ct,e2⟩:=own_shape ht2
  subst e2
  have HM2:Hid (Mc D wE mb lb jb F.length U.length fv tv wv (c:Nat) false L J fn jn w2):=HM1.out.below hb2
  have HB2:Hid (Below w.heap.size w w2):=below_step HB1.out hb2
  have HD2:Hid (w2.ownsRow w.heap.size 3 1 (.slice od (duI F c F.length).length cd) (duI F c F.length).length (nts (duI F c F.length))):=own_kept HD1.out (fun g hg=>hb2.block g (lt_of_heap (own_lt HD1.out g hg).2.choose_spec))
  have HT2:Hid (w2.ownsRow w1.heap.size 3 1 (.slice ot (duT U c U.length).length ct) (duT U c U.length).length (nts (duT U c U.length))):=ht2
  have HX2:Hid (Nl w2 BX (.slice ox xs.length cx) xs):=own_kept HX.out.1 (fun g hg=>HB2.out.block g (lt_of_heap (own_lt HX.out.1 g hg).2.choose_spec))
  clear hb2 ht2 HD1
  go_wp2_with fail
  refine (fit_any HM2.out HP.out.1.fl.choose_spec HD2.out HX2.out (fun t ht=>duI_lt ht) (Nat.le_trans (duI_len _ _ _) HP.out.1.f60)).mono ?_
  rintro E w3 ⟨rfl,hb3⟩
  have HM3:Hid (Mc D wE mb lb jb F.length U.length fv tv wv (c:Nat) false L J fn jn w3):=HM2.out.below hb3
  have HB3:Hid (Below w.heap.size w w3):=below_step HB2.out hb3
  have HD3:Hid (w3.ownsRow w.heap.size 3 1 (.slice od (duI F c F.length).length cd) (duI F c F.length).length (nts (duI F c F.length))):=own_kept HD2.out (fun g hg=>hb3.block g (lt_of_heap (own_lt HD2.out g hg).2.choose_spec))
  have HT3:Hid (w3.ownsRow w1.heap.size 3 1 (.slice ot (duT U c U.length).length ct) (duT U c U.length).length (nts (duT U c U.length))):=own_kept HT2.out (fun g hg=>hb3.block g (lt_of_heap (own_lt HT2.out g hg).2.choose_spec))
  have HX3:Hid (Nl w3 BX (.slice ox xs.length cx) xs):=own_kept HX2.out (fun g hg=>hb3.block g (lt_of_heap (own_lt HX2.out g hg).2.choose_spec))
  clear hb3 HD2 HT2 HX2 HM2 HM1
  cases hfit:fitT F (duI F c F.length) xs with
  | false=>
   have HFIT:Hid (fitT F (duI F c F.length) xs=false):=hfit
   have q11:=(HE.out w3 HM3.out).c11
   clear hfit
   go_wp2
   go_ret
   exact⟨fn,jn,Or.inr (Or.inl ⟨rfl,HFIT.out,rfl,HM3.out⟩)⟩
  | true=>
   have HFIT:Hid (fitT F (duI F c F.length) xs=true):=hfit
   clear hfit
   go_wp2_with fail
   refine (anyBusy_any HM3.out HT3.out (fun t ht=>duT_lt ht) (Nat.le_trans (duT_len _ _ _) HP.out.1.u60)).mono ?_
   rintro E w4 ⟨rfl,rfl⟩
   cases hbusy:(duT U c U.length).any (fun t=>!(J t).isEmpty) with
   | true=>
    have HBUSY:Hid ((duT U c U.length).any (fun t=>!(J t).isEmpty)=true):=hbusy
    have HM4:Hid (Mc D wE mb lb jb F.length U.length fv tv wv (c:Nat) true L J fn jn (w3.setCell ⟨mb,4,none⟩ (.bool true))):=HM3.out.over
    have q12:=(HER.out.below HM4.out.be).c12
    have z4:=HM3.out.free 4
    have c4:=HM3.out.cells.2.2.2.2.1
    clear hbusy
    go_wp2
    go_ret
    exact⟨fn,jn,Or.inr (Or.inr (Or.inl ⟨rfl,HFIT.out,HBUSY.out,rfl,HM4.out⟩))⟩
   | false=>
    have HBUSY:Hid ((duT U c U.length).any (fun t=>!(J t).isEmpty)=false):=hbusy
    clear hbusy
    obtain⟨D2,hD2⟩:∃D2:Nat->Obj->Prop,D2=fun b o=>D b o\/(w.heap.size<=b/\w3.heap[b]?=some o):=⟨_,rfl⟩
    have HM5:Hid (Mc D2 wE mb lb jb F.length U.length fv tv wv (c:Nat) false L J fn jn w3):=by
     rw[hD2]
     exact HM.out.and HB3.out (fun b o hb=>hb)
    have HSUB:Hid (∀b o,D b o->D2 b o):=fun b o hb=>by rw[hD2];exact Or.inl hb
    have HROW:Hid (∀V:World,(∀b o,D2 b o->V.heap[b]?=some o)->V.ownsRow w.heap.size 3 1 (.slice od (duI F c F.length).length cd) (duI F c F.length).length (nts (duI F c F.length))/\V.ownsRow w1.heap.size 3 1 (.slice ot (duT U c U.length).length ct) (duT U c U.length).length (nts (duT U c U.length))/\Nl V BX (.slice ox xs.length cx) xs):=fun V hV=>by
     rw[hD2] at hV
     refine⟨own_kept HD3.out (fun g hg=>?_),own_kept HT3.out (fun g hg=>?_),own_kept HX3.out (fun g hg=>?_)⟩
     ·obtain⟨hb,cur,hcur⟩:=own_lt HD3.out g hg
      exact (hV g _ (Or.inr ⟨hb,hcur⟩)).trans hcur.symm
     ·obtain⟨hb,cur,hcur⟩:=own_lt HT3.out g hg
      exact (hV g _ (Or.inr ⟨Nat.le_trans HB1.out.size hb,hcur⟩)).trans hcur.symm
     ·obtain⟨_,cur,hcur⟩:=own_lt HX.out.1 g hg
      exact (hV g _ (Or.inl (HX.out.2 g _ hg hcur))).trans ((HB3.out.block g (lt_of_heap hcur)).trans hcur).symm
    have HLN:Hid ((duI F c F.length).length=xs.length/\(duI F c F.length).length<=60/\(duT U c U.length).length<=60):=by
     refine⟨?_,Nat.le_trans (duI_len _ _ _) HP.out.1.f60,Nat.le_trans (duT_len _ _ _) HP.out.1.u60⟩
     have:=HFIT.out
     unfold fitT at this
     rw[Bool.and_eq_true] at this
     exact of_decide_eq_true this.1
    clear hD2 HM3 HD3 HT3 HX3 HB2
    obtain⟨n0,hn0,nz0,nz1,nz2⟩:=info_parts Tryz.infoI64
    go_wp2_with fail
    go_loopg [38] (duI F c F.length).length (fun gk s38 wr=>∃i:Nat,i<=(duI F c F.length).length/\s38=.int .i64 (i:Nat)/\gk=(duI F c F.length).length - i/\Hid (∃fn',Mc D2 wE mb lb jb F.length U.length fv tv wv (c:Nat) false (putL L (((duI F c F.length).zip xs).take i)) J fn' jn wr))
    case atStart=>exact⟨0,Nat.zero_le _,rfl,rfl,fn,HM5.out⟩
    case round=>
     obtain⟨i,hi,rfl,hg,KM⟩:=hrel
     have HG:Hid (gk=(duI F c F.length).length - i/\i<=(duI F c F.length).length):=⟨hg,hi⟩
     clear hg hi HM5
     obtain⟨fn',hM⟩:=KM.out
     obtain⟨rd,_,rx⟩:=HROW.out wr (fun b o hb=>(hM.kp b o hb).1)
     by_cases hlt:i < (duI F c F.length).length
     ·obtain⟨d,hdi⟩:∃d,(duI F c F.length)[i]?=some d:=⟨_,List.getElem?_eq_getElem hlt⟩
      obtain⟨x,hxi⟩:∃x,xs[i]?=some x:=⟨_,List.getElem?_eq_getElem (by have:=HLN.out.1;omega)⟩
      have hdF:d < F.length:=duI_lt (List.mem_of_getElem? hdi)
      obtain⟨gd,hod⟩:∃g,od=some ⟨g,0,none⟩:=by
       rcases rd.2 with ⟨_,e⟩|⟨g,cap,cur,e,_⟩
       ·omega
       ·injection e with e1;exact⟨g,e1⟩
      subst hod
      obtain⟨gx,hox⟩:∃g,ox=some ⟨g,0,none⟩:=by
       rcases rx.2 with ⟨_,e⟩|⟨g,cap,cur,e,_⟩
       ·have:=HLN.out.1;omega
       ·injection e with e1;exact⟨g,e1⟩
      subst hox
      obtain⟨Lc,hLc⟩:∃Lc,Lc=putL L (((duI F c F.length).zip xs).take i):=⟨_,rfl⟩
      rw[<-hLc] at hM
      have HNX:Hid (putL L (((duI F c F.length).zip xs).take (i+1))=lput Lc d x):=by
       show _=_
       have hz:((duI F c F.length).zip xs)[i]?=some (d,x):=by rw[List.getElem?_zip_eq_some];exact⟨hdi,hxi⟩
       rw[List.take_add_one,hz,hLc]
       exact putL_snoc (d,x) _ _
      have HLL:Hid ((Lc d).length<=2000):=by
       show _<=_
       have h1:=putL_len d (((duI F c F.length).zip xs).take i) L
       have h2:=HP.out.2.2 d
       have h3:(((duI F c F.length).zip xs).take i).length<=i:=by simp;omega
       have h4:=HLN.out.2.1
       rw[hLc]
       omega
      have HXI:Hid (xs[i]?=some x):=hxi
      have HM6:Hid (Mc D2 wE mb lb jb F.length U.length fv tv wv (c:Nat) false Lc J fn' jn wr):=hM
      obtain⟨oj,cj,hfj⟩:=own_shape (hM.log d hdF).2
      have HFJ:Hid (fn' d=.slice oj (Lc d).length cj/\d < F.length/\i < (duI F c F.length).length):=⟨hfj,hdF,hlt⟩
      have c5:wr.cell? ⟨mb,5,none⟩=some (.slice (some ⟨lb,0,none⟩) F.length F.length):=hM.cells.2.2.2.2.2.1
      have cl:wr.cell? ⟨lb,d,none⟩=some (.slice oj (Lc d).length cj):=by rw[hM.row.cell hdF,hfj]
      have cd1:wr.cell? ⟨gd,i,none⟩=some (.int .i64 (d:Nat)):=own_cell rd (by simp[nts,hdi])
      have cx1:wr.cell? ⟨gx,i,none⟩=some (.int .i64 x):=nl_cell rx hxi
      have h0:(0:Int)<=(i:Int):=by omega
      have h1:(i:Int) < ((duI F c F.length).length:Int):=by omega
      have h2:(0:Int)<=(d:Int):=by omega
      have h3:(d:Int) < (F.length:Int):=by omega
      have h4:(i:Int) < (xs.length:Int):=by have:=HLN.out.1;omega
      have q60:((duI F c F.length).length:Int)<=60:=by have:=HLN.out.2.1;omega
      have XB:Hid (Below wr.heap.size wr (wr.alloc (.cells #[.int .i64 x] 2)).drew):=(brf.alloc nlr _).drew
      have hxo:=(hM.log d hdF).2
      have OW:Hid ((wr.alloc (.cells #[.int .i64 x] 2)).drew.ownsRow wE.heap.size 2 1 (.slice oj (Lc d).length cj) (Lc d).length (i64s (Lc d))):=by
       have:=own_kept hxo (w':=(wr.alloc (.cells #[.int .i64 x] 2)).drew) (fun g hg=>XB.out.block g (lt_of_heap (own_lt hxo g hg).2.choose_spec))
       rw[hfj] at this
       exact this
      have NW:Hid (∀(k:Nat) (y:Value),[Value.int .i64 x][k]?=some y->(wr.alloc (.cells #[.int .i64 x] 2)).drew.cell? ((⟨wr.heap.size,0,none⟩:Addr).add k)=some y):=fun k y hk=>news_cells wr [Value.int .i64 x] 2 k y hk
      clear hxo hdi hxi hM hfj hLc hdF hlt rd rx KM
      go_upto_region 14 with fail
      clear cd1
      refine region_L (fun w'=>w'.cell? ⟨mb,5,none⟩=some (.slice (some ⟨lb,0,none⟩) F.length F.length)/\w'.cell? ⟨lb,d,none⟩=some (.slice oj (Lc d).length cj)/\w'.cell? ⟨gx,i,none⟩=some (.int .i64 x)) 19 (by kernel_rfl) ⟨c5,cl,cx1⟩ (fun hS=>?_)
      refine Lu 0 (v:=?_) rfl (by kernel_rfl) (fun _ _ _ h=>h) (Or.inl ⟨by rfl,?_⟩) (by assumption) ?_
      rotate_left 1
      ·(intro w' hSw;(try dsimp only at hSw);go_simp <;> with_reducible rfl)
      try simp only[Act.put,sa,sz,sn]
      refine Lu 1 (v:=?_) rfl (by kernel_rfl) (fun _ _ _ h=>h) (Or.inl ⟨by rfl,?_⟩) (by assumption) ?_
      rotate_left 1
      ·(intro w' hSw;(try dsimp only at hSw);go_simp <;> with_reducible rfl)
      try simp only[Act.put,sa,sz,sn]
      refine Lu 2 (v:=?_) rfl (by kernel_rfl) (fun _ _ _ h=>h) (Or.inl ⟨by rfl,?_⟩) (by assumption) ?_
      rotate_left 1
      ·(intro w' hSw;(try dsimp only at hSw);go_simp <;> with_reducible rfl)
      try simp only[Act.put,sa,sz,sn]
      refine Lu 3 (v:=?_) rfl (by kernel_rfl) (fun _ _ _ h=>h) (Or.inl ⟨by rfl,?_⟩) (by assumption) ?_
      rotate_left 1
      ·(intro w' hSw;(try dsimp only at hSw);go_simp <;> with_reducible rfl)
      try simp only[Act.put,sa,sz,sn]
      refine Lu 4 (v:=?_) rfl (by kernel_rfl) (fun _ _ _ h=>h) (Or.inl ⟨by rfl,?_⟩) (by assumption) ?_
      rotate_left 1
      ·(intro w' hSw;(try dsimp only at hSw);go_simp <;> with_reducible rfl)
      try simp only[Act.put,sa,sz,sn]
      refine Lu 5 (v:=?_) rfl (by kernel_rfl) (fun _ _ _ h=>h) (Or.inl ⟨by rfl,?_⟩) (by assumption) ?_
      rotate_left 1
      ·(intro w' hSw;(try dsimp only at hSw);go_simp <;> with_reducible rfl)
      try simp only[Act.put,sa,sz,sn]
      refine Lu 6 (v:=?_) rfl (by kernel_rfl) (fun _ _ _ h=>h) (Or.inl ⟨by rfl,?_⟩) (by assumption) ?_
      rotate_left 1
      ·(intro w' hSw;(try dsimp only at hSw);go_simp <;> with_reducible rfl)
      try simp only[Act.put,sa,sz,sn]
      refine Lu 7 (v:=?_) rfl (by kernel_rfl) (fun _ _ _ h=>h) (Or.inl ⟨by rfl,?_⟩) (by assumption) ?_
      rotate_left 1
      ·(intro w' hSw;(try dsimp only at hSw);go_simp <;> with_reducible rfl)
      try simp only[Act.put,sa,sz,sn]
      refine Lu 8 (v:=?_) rfl (by kernel_rfl) (fun _ _ _ h=>h) (Or.inl ⟨by rfl,?_⟩) (by assumption) ?_
      rotate_left 1
      ·(intro w' hSw;(try dsimp only at hSw);go_simp <;> with_reducible rfl)
      try simp only[Act.put,sa,sz,sn]
      refine Lu 9 (v:=?_) rfl (by kernel_rfl) (fun _ _ _ h=>h) (Or.inl ⟨by rfl,?_⟩) (by assumption) ?_
      rotate_left 1
      ·(intro w' hSw;(try dsimp only at hSw);go_simp <;> with_reducible rfl)
      try simp only[Act.put,sa,sz,sn]
      refine Lu 10 (v:=?_) rfl (by kernel_rfl) (fun _ _ _ h=>h) (Or.inl ⟨by rfl,?_⟩) (by assumption) ?_
      rotate_left 1
      ·(intro w' hSw;(try dsimp only at hSw);go_simp <;> with_reducible rfl)
      try simp only[Act.put,sa,sz,sn]
      refine Lu 11 (v:=?_) rfl (by kernel_rfl) (fun _ _ _ h=>h) (Or.inl ⟨by rfl,?_⟩) (by assumption) ?_
      rotate_left 1
      ·(intro w' hSw;(try dsimp only at hSw);go_simp <;> with_reducible rfl)
      try simp only[Act.put,sa,sz,sn]
      refine Lu 12 (v:=?_) rfl (by kernel_rfl) (fun _ _ _ h=>h) (Or.inl ⟨by rfl,?_⟩) (by assumption) ?_
      rotate_left 1
      ·(intro w' hSw;(try dsimp only at hSw);go_simp <;> with_reducible rfl)
      try simp only[Act.put,sa,sz,sn]
      refine Lu 13 (v:=?_) rfl (by kernel_rfl) (fun _ _ _ h=>h) (Or.inl ⟨by rfl,?_⟩) (by assumption) ?_
      rotate_left 1
      ·(intro w' hSw;(try dsimp only at hSw);go_simp <;> with_reducible rfl)
      try simp only[Act.put,sa,sz,sn]
      refine Lu 14 (v:=?_) rfl (by kernel_rfl) (fun _ _ _ h=>h) (Or.inl ⟨by rfl,?_⟩) (by assumption) ?_
      rotate_left 1
      ·(intro w' hSw;(try dsimp only at hSw);go_simp <;> with_reducible rfl)
      try simp only[Act.put,sa,sz,sn]
      refine Lu 15 (v:=?_) rfl (by kernel_rfl) (fun _ _ _ h=>h) (Or.inl ⟨by rfl,?_⟩) (by assumption) ?_
      rotate_left 1
      ·(intro w' hSw;(try dsimp only at hSw);go_simp <;> with_reducible rfl)
      try simp only[Act.put,sa,sz,sn]
      refine L_one 16 (by kernel_rfl) rfl (fun K hK=>?_)
      go_simp
      refine hK.out _ _ (Or.inr ?_) (fun h16=>?_)
      ·have kp:∀{p:Addr} {y:Value},wr.cell? p=some y->(wr.alloc (.cells #[.int .i64 x] 2)).drew.cell? p=some y:=fun hp=>(XB.out.cell (lt_of_cell hp)).trans hp
       exact⟨kp c5,kp cl,kp cx1⟩
      replace h16:=h16.resolve_left (by decide)
      clear hK K hS c5 cl
      try simp only[Act.put,sa,sz,sn]
      refine L_one 17 (by kernel_rfl) rfl (fun K hK=>?_)
      refine step_append_lies _ rfl _ _ 35 rfl wE.heap.size 2 n0 (.int .i64 0) 1 8 Tryz.underlying35 hn0 nz0 nz1 nz2 rfl (by decide) (.slice oj (Lc d).length cj) (Lc d).length (i64s (Lc d)) rfl OW.out ⟨wr.heap.size,0,none⟩ 1 1 [Value.int .i64 x] rfl rfl NW.out (by intro y hy;simp at hy;subst hy;rfl) (by decide) (by unfold maxLen;have:=HLL.out;omega) (by have:=HLL.out;omega) (Nat.le_trans HM6.out.be.size XB.out.size) _ rfl ?_
      intro k7 c7 w7 O7 hg7 hat7 hlt7
      have HM8:Mc D2 wE mb lb jb F.length U.length fv tv wv (c:Nat) false Lc J fn' jn (wr.alloc (.cells #[.int .i64 x] 2)).drew:=HM6.out.below XB.out
      have hxo8:=(HM8.log d HFJ.out.2.1).2
      rw[<-HFJ.out.1] at hg7 hat7
      obtain⟨em,el,_⟩:=HM8.mid hxo8 hg7
      have y1:w7.cell? ⟨mb,5,none⟩=some (.slice (some ⟨lb,0,none⟩) F.length F.length):=(cor w7 mb 5 _ _ _ (em.trans HM8.m0)).trans rfl
      have yr:=HM8.row.of_block el
      have y2:w7.cell? ⟨lb,d,none⟩=some (.slice oj (Lc d).length cj):=by rw[yr.cell HFJ.out.2.1,HFJ.out.1]
      have yz:w7.frozen? ⟨lb,d,none⟩=false:=yr.frozen d
      have PUT:=HM8.put (g:=k7) (cg:=c7) HFJ.out.2.1 HLL.out O7 hg7 hat7
      have HPUT:Hid (∃fn',Mc D2 wE mb lb jb F.length U.length fv tv wv (c:Nat) false (putL L (((duI F c F.length).zip xs).take (i+1))) J fn' jn (w7.setCell ⟨lb,d,none⟩ (.slice (some ⟨k7,0,none⟩) ((Lc d).length+1) c7))):=by
       rw[HNX.out]
       exact⟨_,PUT⟩
      have y3:w7.cell? ⟨gx,i,none⟩=some (.int .i64 x):=by
       obtain⟨_,_,rx7⟩:=HROW.out (w7.setCell ⟨lb,d,none⟩ (.slice (some ⟨k7,0,none⟩) ((Lc d).length+1) c7)) (fun b o hb=>(PUT.kp b o hb).1)
       obtain⟨_,cur,hcur⟩:=own_lt rx7 gx rfl
       have hne:gx≠lb:=by
        obtain⟨cr,hcr⟩:=rowIs_heap PUT.row
        exact heap_nt hcur hcr (by decide)
       obtain⟨_,_,rx8⟩:=HROW.out w7 (fun b o hb=>by
        have h9:=PUT.kp b o hb
        exact (bhs w7 ⟨lb,d,none⟩ _ b h9.2.2.1).symm.trans h9.1)
       exact nl_cell rx8 HXI.out
      clear PUT HM8 hxo8 em el yr O7 hg7 hat7 hlt7 h16
      refine hK.out _ _ (Or.inr ⟨y1,y2,y3⟩) (fun h17=>?_)
      replace h17:=h17.resolve_left (by decide)
      clear hK K
      try simp only[Act.put,sa,sz,sn]
      refine L_one 18 (by kernel_rfl) rfl (fun K hK=>?_)
      go_simp
      refine hK.out _ _ (Or.inr (by assumption)) (fun h18=>?_)
      clear h18 hK K
      try simp only[Act.put,sa,sz,sn]
      refine L_one 19 (by kernel_rfl) rfl (fun K hK=>?_)
      go_simp
      refine hK.out _ _ (Or.inl rfl) (fun _=>?_)
      clear hK K h17 y1 y2 yz y3 cx1
      try simp only[Act.put,sa,sz,sn]
      refine L_done (by kernel_rfl) ?_ _
      go_wp2_with fail
      go_roundg ((duI F c F.length).length - (i+1))
      case measure=>have:=HG.out;have:=HFJ.out;omega
      case rel=>exact⟨i+1,HFJ.out.2.2,by go_num,rfl,HPUT⟩
     ·have hle:((duI F c F.length).length:Int)<=(i:Int):=by omega
      have HM7:Hid (Mc D2 wE mb lb jb F.length U.length fv tv wv (c:Nat) false (putL L ((duI F c F.length).zip xs)) J fn' jn wr):=by
       have h1:=hM
       rw[List.take_of_length_le (by simp;omega)] at h1
       exact h1
      clear hM KM rd rx
      go_wp2_with fail
      go_loopg [65] (duT U c U.length).length (fun gk s65 wy=>∃i:Nat,i<=(duT U c U.length).length/\s65=.int .i64 (i:Nat)/\gk=(duT U c U.length).length - i/\Hid (∃fn' jn',Mc D2 wE mb lb jb F.length U.length fv tv wv (c:Nat) false (putL L ((duI F c F.length).zip xs)) (setJ O J ((duT U c U.length).take i)) fn' jn' wy))
      case atStart=>exact⟨0,Nat.zero_le _,rfl,rfl,fn',jn,HM7.out⟩
      case round=>
       obtain⟨i,hi,rfl,hg,KM⟩:=hrel
       have HG2:Hid (gk=(duT U c U.length).length - i/\i<=(duT U c U.length).length):=⟨hg,hi⟩
       clear hg hi HM7
       obtain⟨fn2,jn2,hM⟩:=KM.out
       obtain⟨_,rt,_⟩:=HROW.out wr (fun b o hb=>(hM.kp b o hb).1)
       by_cases hlt:i < (duT U c U.length).length
       ·obtain⟨t,hti⟩:∃t,(duT U c U.length)[i]?=some t:=⟨_,List.getElem?_eq_getElem hlt⟩
        have htU:t < U.length:=duT_lt (List.mem_of_getElem? hti)
        obtain⟨⟨p,v⟩,hu⟩:∃u,U[t]?=some u:=⟨_,List.getElem?_eq_getElem htU⟩
        obtain⟨_,o3,n3,c3,hv3⟩:=HP.out.1.uper _ (List.mem_of_getElem? hu)
        have hv4:v=.slice o3 n3 c3:=hv3
        subst hv4
        have HJQ:Hid (Jq wE (.slice o3 n3 c3) (O t)):=HP.out.1.ord t _ hu
        obtain⟨gt,hot⟩:∃g,ot=some ⟨g,0,none⟩:=by
         rcases rt.2 with ⟨_,e⟩|⟨g,cap,cur,e,_⟩
         ·omega
         ·injection e with e1;exact⟨g,e1⟩
        subst hot
        obtain⟨BT,hT⟩:=HP.out.1.tk
        obtain⟨gu,cu,htv⟩:∃g c,tv=.slice (some ⟨g,0,none⟩) U.length c:=by
         rcases hT.2 with ⟨_,e⟩|⟨g,cap,cur,e,_⟩
         ·omega
         ·exact⟨g,cap,e⟩
        have cu1:wr.cell? ⟨gu,t*2+1,none⟩=some (.slice o3 n3 c3):=by
         have hT2:=hT
         rw[htv] at hT2
         have e:wE.cell? ⟨gu,t*2+1,none⟩=some (.slice o3 n3 c3):=own_cell hT2 (flat_at tkC 2 (fun _=>rfl) U t 1 _ hu (by decide))
         exact (hM.be.cell (lt_of_cell e)).trans e
        have d1:wr.cell? ⟨mb,1,none⟩=some (.slice (some ⟨gu,0,none⟩) U.length cu):=by
         have e:=hM.cells.2.1
         rw[htv] at e
         exact e
        have d6:wr.cell? ⟨mb,6,none⟩=some (.slice (some ⟨jb,0,none⟩) U.length U.length):=hM.cells.2.2.2.2.2.2
        have ct1:wr.cell? ⟨gt,i,none⟩=some (.int .i64 (t:Nat)):=own_cell rt (by simp[nts,hti])
        have h0:(0:Int)<=(i:Int):=by omega
        have h1:(i:Int) < ((duT U c U.length).length:Int):=by omega
        have h2:(0:Int)<=(t:Int):=by omega
        have h3:(t:Int) < (U.length:Int):=by omega
        have q60:((duT U c U.length).length:Int)<=60:=by have:=HLN.out.2.2;omega
        have HNX:Hid (setJ O J ((duT U c U.length).take (i+1))=jput (setJ O J ((duT U c U.length).take i)) t (O t)):=by
         show _=_
         rw[List.take_add_one,hti]
         exact setJ_snoc O t _ _
        have HM8:Hid (∃fn' jn',Mc D2 wE mb lb jb F.length U.length fv tv wv (c:Nat) false (putL L ((duI F c F.length).zip xs)) (setJ O J ((duT U c U.length).take (i+1))) fn' jn' (wr.setCell ⟨jb,t,none⟩ (.slice o3 n3 c3)).drew):=by
         rw[HNX.out]
         exact⟨_,_,(hM.jset HJQ.out).below brf.drew⟩
        have ct':wr.drew.cell? ⟨jb,t,none⟩=some (jn2 t):=hM.jrow.cell htU
        have cz':wr.drew.frozen? ⟨jb,t,none⟩=false:=hM.jrow.frozen t
        have HI:Hid (i < (duT U c U.length).length):=hlt
        clear hM KM rt hti htU hu hT htv hlt
        go_upto_region 19 with fail
        clear ct1
        refine region_L (fun w'=>w'.cell? ⟨mb,6,none⟩=some (.slice (some ⟨jb,0,none⟩) U.length U.length)/\w'.cell? ⟨mb,1,none⟩=some (.slice (some ⟨gu,0,none⟩) U.length cu)/\w'.cell? ⟨gu,t*2+1,none⟩=some (.slice o3 n3 c3)) 15 (by kernel_rfl) ⟨d6,d1,cu1⟩ (fun hS=>?_)
        refine Lu 0 (v:=?_) rfl (by kernel_rfl) (fun _ _ _ h=>h) (Or.inl ⟨by rfl,?_⟩) (by assumption) ?_
        rotate_left 1
        ·(intro w' hSw;(try dsimp only at hSw);go_simp <;> with_reducible rfl)
        try simp only[Act.put,sa,sz,sn]
        refine Lu 1 (v:=?_) rfl (by kernel_rfl) (fun _ _ _ h=>h) (Or.inl ⟨by rfl,?_⟩) (by assumption) ?_
        rotate_left 1
        ·(intro w' hSw;(try dsimp only at hSw);go_simp <;> with_reducible rfl)
        try simp only[Act.put,sa,sz,sn]
        refine Lu 2 (v:=?_) rfl (by kernel_rfl) (fun _ _ _ h=>h) (Or.inl ⟨by rfl,?_⟩) (by assumption) ?_
        rotate_left 1
        ·(intro w' hSw;(try dsimp only at hSw);go_simp <;> with_reducible rfl)
        try simp only[Act.put,sa,sz,sn]
        refine Lu 3 (v:=?_) rfl (by kernel_rfl) (fun _ _ _ h=>h) (Or.inl ⟨by rfl,?_⟩) (by assumption) ?_
        rotate_left 1
        ·(intro w' hSw;(try dsimp only at hSw);go_simp <;> with_reducible rfl)
        try simp only[Act.put,sa,sz,sn]
        refine Lu 4 (v:=?_) rfl (by kernel_rfl) (fun _ _ _ h=>h) (Or.inl ⟨by rfl,?_⟩) (by assumption) ?_
        rotate_left 1
        ·(intro w' hSw;(try dsimp only at hSw);go_simp <;> with_reducible rfl)
        try simp only[Act.put,sa,sz,sn]
        refine Lu 5 (v:=?_) rfl (by kernel_rfl) (fun _ _ _ h=>h) (Or.inl ⟨by rfl,?_⟩) (by assumption) ?_
        rotate_left 1
        ·(intro w' hSw;(try dsimp only at hSw);go_simp <;> with_reducible rfl)
        try simp only[Act.put,sa,sz,sn]
        refine Lu 6 (v:=?_) rfl (by kernel_rfl) (fun _ _ _ h=>h) (Or.inl ⟨by rfl,?_⟩) (by assumption) ?_
        rotate_left 1
        ·(intro w' hSw;(try dsimp only at hSw);go_simp <;> with_reducible rfl)
        try simp only[Act.put,sa,sz,sn]
        refine Lu 7 (v:=?_) rfl (by kernel_rfl) (fun _ _ _ h=>h) (Or.inl ⟨by rfl,?_⟩) (by assumption) ?_
        rotate_left 1
        ·(intro w' hSw;(try dsimp only at hSw);go_simp <;> with_reducible rfl)
        try simp only[Act.put,sa,sz,sn]
        refine Lu 8 (v:=?_) rfl (by kernel_rfl) (fun _ _ _ h=>h) (Or.inl ⟨by rfl,?_⟩) (by assumption) ?_
        rotate_left 1
        ·(intro w' hSw;(try dsimp only at hSw);go_simp <;> with_reducible rfl)
        try simp only[Act.put,sa,sz,sn]
        refine Lu 9 (v:=?_) rfl (by kernel_rfl) (fun _ _ _ h=>h) (Or.inl ⟨by rfl,?_⟩) (by assumption) ?_
        rotate_left 1
        ·(intro w' hSw;(try dsimp only at hSw);go_simp <;> with_reducible rfl)
        try simp only[Act.put,sa,sz,sn]
        refine Lu 10 (v:=?_) rfl (by kernel_rfl) (fun _ _ _ h=>h) (Or.inl ⟨by rfl,?_⟩) (by assumption) ?_
        rotate_left 1
        ·(intro w' hSw;(try dsimp only at hSw);go_simp <;> with_reducible rfl)
        try simp only[Act.put,sa,sz,sn]
        refine Lu 11 (v:=?_) rfl (by kernel_rfl) (fun _ _ _ h=>h) (Or.inl ⟨by rfl,?_⟩) (by assumption) ?_
        rotate_left 1
        ·(intro w' hSw;(try dsimp only at hSw);go_simp <;> with_reducible rfl)
        try simp only[Act.put,sa,sz,sn]
        refine Lu 12 (v:=?_) rfl (by kernel_rfl) (fun _ _ _ h=>h) (Or.inl ⟨by rfl,?_⟩) (by assumption) ?_
        rotate_left 1
        ·(intro w' hSw;(try dsimp only at hSw);go_simp <;> with_reducible rfl)
        try simp only[Act.put,sa,sz,sn]
        refine Lu 13 (v:=?_) rfl (by kernel_rfl) (fun _ _ _ h=>h) (Or.inl ⟨by rfl,?_⟩) (by assumption) ?_
        rotate_left 1
        ·(intro w' hSw;(try dsimp only at hSw);go_simp <;> with_reducible rfl)
        try simp only[Act.put,sa,sz,sn]
        refine Lu 14 (v:=?_) rfl (by kernel_rfl) (fun _ _ _ h=>h) (Or.inl ⟨by rfl,?_⟩) (by assumption) ?_
        rotate_left 1
        ·(intro w' hSw;(try dsimp only at hSw);go_simp <;> with_reducible rfl)
        try simp only[Act.put,sa,sz,sn]
        refine L_one 15 (by kernel_rfl) rfl (fun K hK=>?_)
        go_simp
        refine hK.out _ _ (Or.inl rfl) (fun _=>?_)
        clear hK K hS d6 d1 cu1 ct' cz'
        try simp only[Act.put,sa,sz,sn]
        refine L_done (by kernel_rfl) ?_ _
        go_wp2_with fail
        go_roundg ((duT U c U.length).length - (i+1))
        case measure=>have:=HG2.out;have:=HI.out;omega
        case rel=>exact⟨i+1,HI.out,by go_num,rfl,HM8⟩
       ·have hle:((duT U c U.length).length:Int)<=(i:Int):=by omega
        have hM9:Mc D2 wE mb lb jb F.length U.length fv tv wv (c:Nat) false (putL L ((duI F c F.length).zip xs)) (setJ O J (duT U c U.length)) fn2 jn2 wr:=by
         have e:=hM
         rw[List.take_of_length_le (by omega)] at e
         exact e
        have HM9:Hid (Mc D2 wE mb lb jb F.length U.length fv tv wv (c:Nat) false (putL L ((duI F c F.length).zip xs)) (setJ O J (duT U c U.length)) fn2 jn2 wr):=hM9
        have d3:wr.cell? ⟨mb,3,none⟩=some (.int .i64 (c:Nat)):=hM9.cells.2.2.2.1
        have z3:=hM9.free 3
        have q9:(c:Int)<=1000000:=by have:=HP.out.2.1;omega
        have HMZ:Hid (Mc D2 wE mb lb jb F.length U.length fv tv wv ((c+1:Nat):Int) false (putL L ((duI F c F.length).zip xs)) (setJ O J (duT U c U.length)) fn2 jn2 (wr.setCell ⟨mb,3,none⟩ (.int .i64 ((c:Int)+1)))):=by
         rw[show ((c+1:Nat):Int)=(c:Int)+1 from by omega]
         exact hM9.clock ((c:Int)+1)
        clear hM KM rt hM9
        go_wp2
        go_ret
        exact⟨fn2,jn2,Or.inr (Or.inr (Or.inr ⟨rfl,HFIT.out,HBUSY.out,rfl,HMZ.out.sub HSUB.out⟩))⟩
end
end Go.Proofs.YtjehljjlcifndaaGreatDoor
