import Derived.Test.YticbokabjhnagaaGreatDoorW23
import Derived.Deep.OwnRows
import Derived.Test.YticbokabjhnagaaGreatDoorW20
namespace Go.Proofs.YticbokabjhnagaaGreatDoor
set_option maxHeartbeats 32000000
section
open Go.RowKit
def TB (N:Nat) (a:Nat→Addr) (c b n:Nat) (m:Mil.Bytes→Option Int) (g:Nat) (F:List Flo) (e:Mip.E):Prop:=
 (∃T y,ev N e=.iface T y)∧(Mip.unres m e=none→∀(ts:List Nat) (q:Nat) (w:World),ts.length=(Mip.kids e).length→Cw a c b n m g F w→Laid a w→Tyc w q ts →
  Calls Tryz.prog 90 #[.pointer (some ⟨c,0,none⟩),ev N e,.slice (some ⟨q,0,none⟩) ts.length ts.length] w (TbPost (Mip.tyBy m F (Mip.tg e) (Mip.tx e) ts) w))
theorem len_one {ts:List Nat} (h:ts.length=1):∃u,ts=[u]:=by
 match ts,h with
 | [u],_=>exact ⟨u,rfl⟩
theorem len_two {ts:List Nat} (h:ts.length=2):∃u v,ts=[u,v]:=by
 match ts,h with
 | [u,v],_=>exact ⟨u,v,rfl⟩
theorem len_three {ts:List Nat} (h:ts.length=3):∃u v z,ts=[u,v,z]:=by
 match ts,h with
 | [u,v,z],_=>exact ⟨u,v,z,rfl⟩
theorem typeBy_any (N:Nat) (a':Nat→Addr) (c b' n:Nat) (m:Mil.Bytes→Option Int) (g:Nat) (F:List Flo) (hfit:Fit' m F):∀e,Mil.wf (Mip.er e) false→TB N a' c b' n m g F e:=by
 refine Mip.tree_induct ?_ ?_ ?_ ?_ ?_ ?_ ?_ ?_ ?_ ?_
 ·intro p k _
  have e0:ev N (Mip.eInt p k)=.iface 165 (.agg #[.int .i64 ((N:Int) - (p:Nat)),.int .i64 (k:Nat)]):=by
   show Value.iface 165 (.agg #[.int .i64 ((N:Int) - (p:Nat)),.int .i64 (k:Nat)])=_
   rfl
  refine ⟨⟨_,_,e0⟩,fun hu ts q w hl hC hL hT=>?_⟩
  obtain rfl:ts=[]:=List.length_eq_zero_iff.1 hl
  rw [e0]
  exact typeBy_int N a' c b' n m g F p k q w hC hL hT
 ·intro p k _
  have e0:ev N (Mip.eBool p k)=.iface 168 (.agg #[.int .i64 ((N:Int) - (p:Nat)),.bool (k==1)]):=by
   show Value.iface 168 (.agg #[.int .i64 ((N:Int) - (p:Nat)),.bool (k==1)])=_
   rfl
  refine ⟨⟨_,_,e0⟩,fun hu ts q w hl hC hL hT=>?_⟩
  obtain rfl:ts=[]:=List.length_eq_zero_iff.1 hl
  rw [e0]
  exact typeBy_bool N a' c b' n m g F p k q w hC hL hT
 ·intro p x hx
  have e0:ev N (Mip.eName p x)=.iface 103 (.agg #[.int .i64 ((N:Int) - (p:Nat)),.string (bs x)]):=by
   show Value.iface 103 (.agg #[.int .i64 ((N:Int) - (p:Nat)),.string (bs x)])=_
   rfl
  refine ⟨⟨_,_,e0⟩,fun hu ts q w hl hC hL hT=>?_⟩
  obtain rfl:ts=[]:=List.length_eq_zero_iff.1 hl
  rw [e0]
  exact typeBy_name N a' c b' n m g F p x (by have:=hx.2.2.1;omega) (by simp [Mip.unres,Mip.eName] at hu;exact Option.isSome_iff_ne_none.2 hu) hfit q w hC hL hT
 ·intro p x a hx iha
  obtain ⟨⟨ta,ya,ea⟩,_⟩:=iha
  have e0:ev N (Mip.ePre p x a)=.iface 172 (.agg #[.int .i64 ((N:Int) - (p:Nat)),.string (bs x),.iface ta ya]):=by
   show Value.iface 172 (.agg #[.int .i64 ((N:Int) - (p:Nat)),.string (bs x),ev N a])=_
   rw [ea]
  refine ⟨⟨_,_,e0⟩,fun hu ts q w hl hC hL hT=>?_⟩
  obtain ⟨ua,rfl⟩:=len_one hl
  rw [e0]
  exact typeBy_pre N a' c b' n m g F p x ta ya ua q w hC hL hT
 ·intro p x a b hx iha ihb
  obtain ⟨⟨ta,ya,ea⟩,_⟩:=iha
  obtain ⟨⟨tb,yb,eb⟩,_⟩:=ihb
  have e0:ev N (Mip.eTwo p x a b)=.iface 175 (.agg #[.int .i64 ((N:Int) - (p:Nat)),.string (bs x),.iface ta ya,.iface tb yb]):=by
   show Value.iface 175 (.agg #[.int .i64 ((N:Int) - (p:Nat)),.string (bs x),ev N a,ev N b])=_
   rw [ea,eb]
  refine ⟨⟨_,_,e0⟩,fun hu ts q w hl hC hL hT=>?_⟩
  obtain ⟨ua,ub,rfl⟩:=len_two hl
  rw [e0]
  exact typeBy_two N a' c b' n m g F p x ta ya ua tb yb ub hx q w hC hL hT
 ·intro p y a b d iha ihb ihd
  obtain ⟨⟨ta,ya,ea⟩,_⟩:=iha
  obtain ⟨⟨tb,yb,eb⟩,_⟩:=ihb
  obtain ⟨⟨td,yd,ed⟩,_⟩:=ihd
  have e0:ev N ((.node 6 0 ([],p) a (.node 0 0 ([],y) b d)))=.iface 182 (.agg #[.int .i64 ((N:Int) - (p:Nat)),.iface ta ya,.iface tb yb,.iface td yd]):=by
   show Value.iface 182 (.agg #[.int .i64 ((N:Int) - (p:Nat)),ev N a,ev N b,ev N d])=_
   rw [ea,eb,ed]
  refine ⟨⟨_,_,e0⟩,fun hu ts q w hl hC hL hT=>?_⟩
  obtain ⟨ua,ub,ud,rfl⟩:=len_three hl
  rw [e0]
  exact typeBy_if N a' c b' n m g F p ta ya ua tb yb ub td yd ud q w hC hL hT
 ·intro p a b iha ihb
  obtain ⟨⟨ta,ya,ea⟩,_⟩:=iha
  obtain ⟨⟨tb,yb,eb⟩,_⟩:=ihb
  have e0:ev N (Mip.eFby p a b)=.iface 185 (.agg #[.int .i64 ((N:Int) - (p:Nat)),.iface ta ya,.iface tb yb]):=by
   show Value.iface 185 (.agg #[.int .i64 ((N:Int) - (p:Nat)),ev N a,ev N b])=_
   rw [ea,eb]
  refine ⟨⟨_,_,e0⟩,fun hu ts q w hl hC hL hT=>?_⟩
  obtain ⟨ua,ub,rfl⟩:=len_two hl
  rw [e0]
  exact typeBy_fby N a' c b' n m g F p ta ya ua tb yb ub q w hC hL hT
 ·intro p a k h2 hk iha
  obtain ⟨⟨ta,ya,ea⟩,_⟩:=iha
  have e0:ev N (Mip.eUnder p a k)=.iface 188 (.agg #[.int .i64 ((N:Int) - (p:Nat)),.iface ta ya,.int .i64 (k:Nat)]):=by
   show Value.iface 188 (.agg #[.int .i64 ((N:Int) - (p:Nat)),ev N a,.int .i64 (k:Nat)])=_
   rw [ea]
  refine ⟨⟨_,_,e0⟩,fun hu ts q w hl hC hL hT=>?_⟩
  obtain ⟨ua,rfl⟩:=len_one hl
  rw [e0]
  exact typeBy_under N a' c b' n m g F p k ta ya ua q w hC hL hT
 ·intro p a b k h2 hk iha ihb
  obtain ⟨⟨ta,ya,ea⟩,_⟩:=iha
  obtain ⟨⟨tb,yb,eb⟩,_⟩:=ihb
  have e0:ev N (Mip.eHold p a b k)=.iface 191 (.agg #[.int .i64 ((N:Int) - (p:Nat)),.iface ta ya,.iface tb yb,.int .i64 (k:Nat)]):=by
   show Value.iface 191 (.agg #[.int .i64 ((N:Int) - (p:Nat)),ev N a,ev N b,.int .i64 (k:Nat)])=_
   rw [ea,eb]
  refine ⟨⟨_,_,e0⟩,fun hu ts q w hl hC hL hT=>?_⟩
  obtain ⟨ua,ub,rfl⟩:=len_two hl
  rw [e0]
  exact typeBy_hold N a' c b' n m g F p k ta ya ua tb yb ub q w hC hL hT
 ·intro p x a b hx iha ihb
  obtain ⟨⟨ta,ya,ea⟩,_⟩:=iha
  obtain ⟨⟨tb,yb,eb⟩,_⟩:=ihb
  have e0:ev N (Mip.eLeast p x a b)=.iface 180 (.agg #[.int .i64 ((N:Int) - (p:Nat)),.string (bs x),.iface ta ya,.iface tb yb]):=by
   show Value.iface 180 (.agg #[.int .i64 ((N:Int) - (p:Nat)),.string (bs x),ev N a,ev N b])=_
   rw [ea,eb]
  refine ⟨⟨_,_,e0⟩,fun hu ts q w hl hC hL hT=>?_⟩
  obtain ⟨ua,ub,rfl⟩:=len_two hl
  rw [e0]
  exact typeBy_least N a' c b' n m g F p x ta ya ua tb yb ub q w hC hL hT
def ToPost (a:Nat→Addr) (o:Option Nat) (w:World) (E:Ending) (w':World):Prop:=
 Below w.heap.size w w'∧((∃t,o=some t∧E=.returned (.tuple #[.int .i64 (t:Nat),.pointer none]))∨(o=none∧∃d p,E=.returned (.tuple #[.int .i64 0,.pointer (some ⟨d,0,none⟩)])∧Dg a w' d p 7))
def TC (N:Nat) (a:Nat→Addr) (c b n:Nat) (m:Mil.Bytes→Option Int) (g:Nat) (F:List Flo) (e:Mip.E):Prop:=
 Mip.unres m e=none→∀w,Cw a c b n m g F w→Laid a w→Calls Tryz.prog 58 #[.pointer (some ⟨c,0,none⟩),ev N e] w (ToPost a (Mip.tyOf m F e) w)
def tyF (us:List Nat) (j:Nat):Value:=.int .i64 ((us.getD j 0:Nat):Int)
theorem tyF_snoc (us:List Nat) (t j:Nat):(if j=us.length then Value.int .i64 (t:Nat) else tyF us j)=tyF (us++[t]) j:=by
 unfold tyF
 by_cases h:j=us.length
 ·rw [if_pos h,h]
  simp
 ·rw [if_neg h]
  rcases Nat.lt_or_ge j us.length with h1 | h1
  ·simp [List.getElem?_append_left h1]
  ·rw [List.getD_eq_getElem?_getD,List.getD_eq_getElem?_getD,List.getElem?_eq_none h1,List.getElem?_eq_none (by simp;omega)]
namespace Mip
theorem tyAll_snoc (m:Mil.Bytes→Option Int) (F:List Flo):∀(l:List E) (q:E),tyAll m F (l++[q])=(tyAll m F l).bind fun us=>(tyOf m F q).map fun u=>us++[u]
 | [],q=>by
  show (tyOf m F q).bind _=_
  cases tyOf m F q <;> rfl
 | x::r,q=>by
  show (tyOf m F x).bind (fun u=>(tyAll m F (r++[q])).map fun us=>u::us)=((tyOf m F x).bind fun u=>(tyAll m F r).map fun us=>u::us).bind _
  rw [tyAll_snoc m F r q]
  cases tyOf m F x <;> cases tyAll m F r <;> cases tyOf m F q <;> rfl
theorem tyAll_none (m:Mil.Bytes→Option Int) (F:List Flo):∀(l:List E) (j:Nat) (q:E),l[j]?=some q→tyOf m F q=none→tyAll m F l=none
 | [],_,_,h,_=>by simp at h
 | x::r,0,q,h,k=>by
  have e:x=q:=by simpa using h
  show (tyOf m F x).bind _=none
  rw [e,k];rfl
 | x::r,j+1,q,h,k=>by
  show (tyOf m F x).bind (fun u=>(tyAll m F r).map fun us=>u::us)=none
  rw [tyAll_none m F r j q (by simpa using h) k]
  cases tyOf m F x <;> rfl
end Mip
theorem kids_list {N:Nat} {w:World} {v:Value} {l:List Mip.E} (h:Kids N w v l):∃o cap,v=.slice o l.length cap∧∀(j:Nat) (q:Mip.E),l[j]?=some q→∃g,o=some ⟨g,0,none⟩∧w.cell? ⟨g,j,none⟩=some (ev N q):=by
 rcases h with ⟨rfl,rfl⟩ | ⟨g,rfl,h⟩
 ·exact ⟨none,0,rfl,fun j q hq=>by simp at hq⟩
 ·exact ⟨_,_,rfl,fun j q hq=>⟨g,rfl,h j q hq⟩⟩
theorem Tryz.infoI:(Tryz.prog.info? 3).map (fun i=>(i.zero,i.size,i.bytes))=some (some (.int .i64 0),1,8):=by kernel_rfl
set_option maxRecDepth 100000 in
theorem typeOf_node (N:Nat) (a:Nat→Addr) (c b n:Nat) (m:Mil.Bytes→Option Int) (g:Nat) (F:List Flo) (hfit:Fit' m F) (e:Mip.E) (hw:Mil.wf (Mip.er e) false) (hku:Mip.unres m e=none→∀q∈Mip.kids e,Mip.unres m q=none) (ih:∀q∈Mip.kids e,Mil.wf (Mip.er q) false∧TC N a c b n m g F q):TC N a c b n m g F e:=by
 intro hu w hC hL
 have HC:Hid (Cw a c b n m g F w):=hC
 have HL:Hid (Laid a w):=hL
 have HH:Hid (23≤w.heap.size):=hC.nm.ce.size
 have HTB:=(typeBy_any N a c b n m g F hfit e hw).2 hu
 have IH:Hid (∀q∈Mip.kids e,∀w,Cw a c b n m g F w→Laid a w→Calls Tryz.prog 58 #[.pointer (some ⟨c,0,none⟩),ev N q] w (ToPost a (Mip.tyOf m F q) w)):=fun q hq=>(ih q hq).2 (hku hu q hq)
 have HV:Hid (∀q∈Mip.kids e,∃T y,ev N q=.iface T y):=fun q hq=>ev_iface N q (ih q hq).1
 have HTY:Hid (Mip.tyOf m F e=(Mip.tyAll m F (Mip.kids e)).bind fun ts=>Mip.tyPick (Mip.tyBy m F (Mip.tg e) (Mip.tx e) ts)):=Mip.ty_kids m F e hw
 obtain ⟨T,y,he,hpl⟩:=place_of N e hw
 have HO:=operands_any N e hw
 rw [he] at HO HTB
 have HO':Hid (∀w,Calls Tryz.prog 89 #[.iface T y] w (OpPost N e w)):=HO
 have HB':Hid (∀(ts:List Nat) (q:Nat) (w:World),ts.length=(Mip.kids e).length→Cw a c b n m g F w→Laid a w→Tyc w q ts→Calls Tryz.prog 90 #[.pointer (some ⟨c,0,none⟩),.iface T y,.slice (some ⟨q,0,none⟩) ts.length ts.length] w (TbPost (Mip.tyBy m F (Mip.tg e) (Mip.tx e) ts) w)):=HTB
 clear hC hL hu hku ih hfit hw HO HTB
 show Calls Tryz.prog 58 #[.pointer (some ⟨c,0,none⟩),ev N e] w _
 rw [he]
 clear he
 go_enter Tryz.func58,Tryz.ntmps58
 go_wp2_with fail
 refine (HO'.out _).mono ?_
 rintro E w1 ⟨hb1,v,rfl,hK⟩
 obtain ⟨o,cap,rfl,hK2⟩:=kids_list hK
 have HB1:Hid (Below w.heap.size w w1):=hb1
 have hl3:=Mip.kids_le e
 generalize hl:Mip.kids e=l at hK hK2 IH HV HTY HB' hl3
 have HK2:Hid (∀(j:Nat) (q:Mip.E),l[j]?=some q→∃g,o=some ⟨g,0,none⟩∧w1.cell? ⟨g,j,none⟩=some (ev N q)):=hK2
 clear hl hK hK2 hb1
 have hmk:=fun w=>run_make_row' (P:=Tryz.prog) 36 3 (.int .i64 0) 8 Tryz.underlying36 Tryz.infoI rfl .i64 .i64 l.length (by omega) (by omega) w
 have HR0:Hid ((w1.alloc (.cells (madeCells #[.int .i64 0] l.length) 3)).rowIs w1.heap.size 3 l.length (tyF [])):=(World.rowIs_made w1 (.int .i64 0) l.length 3).congr (fun i _=>rfl)
 have HBW:Hid (Below w1.heap.size w1 (w1.alloc (.cells (madeCells #[.int .i64 0] l.length) 3))):=(Below.refl _ _).alloc (Nat.le_refl _) _
 have HL3:Hid (l.length≤3):=hl3
 go_wp2_with fail
 clear hmk
 go_loopg [21] l.length (fun gk s21 wr=>∃(j:Nat) (us:List Nat),j≤l.length∧s21=.int .i64 (j:Nat)∧gk=l.length - j∧Hid (us.length=j∧Mip.tyAll m F (l.take j)=some us)∧Hid (Below w1.heap.size w1 wr)∧Hid (wr.rowIs w1.heap.size 3 l.length (tyF us)))
 case atStart=>exact ⟨0,[],Nat.zero_le _,rfl,rfl,⟨rfl,rfl⟩,HBW,HR0⟩
 case round=>
  obtain ⟨j,us,hj,rfl,hg,HUS,HW1,HRW⟩:=hrel
  have HG:Hid (gk=l.length - j):=hg
  have HWW:Hid (Below w.heap.size w wr):=below_step HB1.out HW1.out
  clear hg HR0 HBW
  by_cases hlt:j < l.length
  ·have HLT:Hid (j < l.length):=hlt
   obtain ⟨q,hq⟩:∃q,l[j]?=some q:=⟨_,List.getElem?_eq_getElem hlt⟩
   obtain ⟨gk2,rfl,hcell⟩:=HK2.out j q hq
   have HQ:Hid (l[j]?=some q):=hq
   have hmem:q∈l:=List.mem_of_getElem? hq
   obtain ⟨Tq,yq,hev⟩:=HV.out q hmem
   have hcq:=(HW1.out.cell (lt_of_cell hcell)).trans hcell
   rw [hev] at hcq
   have IQ:=IH.out q hmem
   rw [hev] at IQ
   have IQ':Hid (∀w,Cw a c b n m g F w→Laid a w→Calls Tryz.prog 58 #[.pointer (some ⟨c,0,none⟩),.iface Tq yq] w (ToPost a (Mip.tyOf m F q) w)):=IQ
   have h0:(0:Int)≤(j:Int):=by omega
   have h1:(j:Int) < (l.length:Int):=by omega
   clear hq hmem hev IQ hcell
   go_wp2_with fail
   refine (IQ'.out _ (HC.out.below HWW.out) (HL.out.below HH.out HWW.out)).mono ?_
   rintro E w2 ⟨hb2,(⟨t,ht,rfl⟩ | ⟨ht,d,p,rfl,hd⟩)⟩
   ·have HT:Hid (Mip.tyOf m F q=some t):=ht
    have HW2:Hid (Below w1.heap.size w1 w2):=below_step HW1.out hb2
    have HR2:Hid (w2.rowIs w1.heap.size 3 l.length (tyF us)):=HRW.out.of_block (hb2.block _ HRW.out.lt)
    have c2:=HR2.out.cell HLT.out
    have z2:=HR2.out.frozen j
    have HR3:Hid ((w2.setCell ⟨w1.heap.size,j,none⟩ (.int .i64 (t:Nat))).rowIs w1.heap.size 3 l.length (tyF (us++[t]))):=(HR2.out.set j (.int .i64 (t:Nat))).congr (fun i _=>by rw [←HUS.out.1];exact tyF_snoc us t i)
    have HU3:Hid ((us++[t]).length=j+1∧Mip.tyAll m F (l.take (j+1))=some (us++[t])):=by
     refine ⟨by rw [List.length_append,HUS.out.1];rfl,?_⟩
     rw [List.take_add_one,HQ.out]
     show Mip.tyAll m F (l.take j++[q])=_
     rw [Mip.tyAll_snoc,HUS.out.2,HT.out];rfl
    clear ht hb2 hcq
    go_wp2
    go_roundg (l.length - (j+1))
    case measure=>have:=HG.out;have:=HLT.out;omega
    case rel=>exact ⟨j+1,us++[t],HLT.out,by go_num,rfl,HU3,HW2.out.setCell (Nat.le_refl _) _,HR3⟩
   ·have HN:Hid (Mip.tyOf m F e=none):=by show _=_;rw [HTY.out,Mip.tyAll_none m F l j q HQ.out ht];rfl
    have HD:Hid (Dg a w2 d p 7):=hd
    have HW2:Hid (Below w.heap.size w w2):=below_step HWW.out hb2
    clear ht hd hb2 hcq
    go_wp2
    go_ret2
    exact ⟨HW2.out,Or.inr ⟨HN.out,d,p,rfl,HD.out⟩⟩
  ·have hle:(l.length:Int)≤(j:Int):=by omega
   have HJ:Hid (j=l.length):=by show _=_;omega
   have HUL:Hid (us.length=l.length∧Mip.tyOf m F e=Mip.tyPick (Mip.tyBy m F (Mip.tg e) (Mip.tx e) us)):=by
    have h1:=HUS.out
    rw [HJ.out,List.take_length] at h1
    exact ⟨h1.1,by rw [HTY.out,h1.2];rfl⟩
   have HTC:Hid (Tyc wr w1.heap.size us):=fun i t hi=>by
    have h1:=(List.getElem?_eq_some_iff.1 hi).1
    rw [HRW.out.cell (i:=i) (by have:=HUL.out.1;omega)]
    unfold tyF
    rw [List.getD_eq_getElem?_getD,hi];rfl
   clear hlt
   go_wp2_with fail
   have BB:=HB'.out us w1.heap.size wr HUL.out.1 (HC.out.below HWW.out) (HL.out.below HH.out HWW.out) HTC.out
   rw [HUL.out.1] at BB
   refine BB.mono ?_
   rintro E w3 ⟨hb3,rfl⟩
   have HW3:Hid (Below w.heap.size w w3):=below_step HWW.out hb3
   clear BB hb3
   obtain ⟨t,f,hr⟩:∃t f,Mip.tyBy m F (Mip.tg e) (Mip.tx e) us=(t,f):=⟨_,_,rfl⟩
   have HTF:Hid (Mip.tyOf m F e=Mip.tyPick (t,f)):=by have h:=HUL.out.2;rw [hr] at h;exact h
   rw [hr]
   clear hr HUL HUS HTC
   cases f
   ·have k7:∀w',Below w3.heap.size w3 w'→w'.cell? ⟨9,0,none⟩=some (errV (a 7)):=fun w' h=>(HC.out.below (below_step HW3.out h)).nm.ce.e7
    go_wp2_with fail
    go_region_held3 (fun w'=>Below w3.heap.size w3 w') (first | assumption | exact (Below.refl _ _).drew | exact Below.alloc (by assumption) (Below.size (by assumption)) _) (first
     | (go_at_call 216;(with_reducible refine (place_any _ _).mono ?_);rintro e w4 ⟨hbw4,rfl⟩;have hBw4:Below w3.heap.size w3 w4:=below_step (by assumption) hbw4))
    all_goals go_wp2
    all_goals go_ret2
    all_goals exact ⟨below_step (below_step HW3.out (by assumption)) ((Below.refl _ _).alloc (Nat.le_refl _) _),Or.inr ⟨HTF.out,_,_,rfl,dg_new a _ _ rfl _ _⟩⟩
   ·go_wp2
    go_ret2
    exact ⟨HW3.out,Or.inl ⟨t,HTF.out,rfl⟩⟩
theorem typeOf_any (N:Nat) (a:Nat→Addr) (c b n:Nat) (m:Mil.Bytes→Option Int) (g:Nat) (F:List Flo) (hfit:Fit' m F):∀e,Mil.wf (Mip.er e) false→TC N a c b n m g F e:=
 Mip.tree_ind (fun p x _ hw=>typeOf_node N a c b n m g F hfit _ hw (fun _ q hq=>by cases hq) (fun q hq=>by cases hq))
  (fun e hw hn hk=>typeOf_node N a c b n m g F hfit e hw (fun hu=>Mip.first_each m _ (by rw [←Mip.unres_kids m e hw hn];exact hu)) hk)
end
section
open Go.RowKit
set_option maxRecDepth 100000 in
theorem readItems_any (a:Nat→Addr) (s:ByteArray) (hs:s.size≤4000) (w:World) (L:Laid a w) :
  Calls Tryz.prog 31 #[.string s] w (RiPost s.size s.data.toList a w):=by
 have ST:=start_at a s w L
 have HG:Hid (23≤w.heap.size+1+1):=by have:=L.size;show _≤_;omega
 have HG0:Hid (23≤w.heap.size):=L.size
 clear L
 have hmf:∀(fn:Fn) (first cap:Array Value) (w:World),(Instr.makeFunc fn first cap).run Tryz.prog w=.ok (.func fn first cap) w:=fun _ _ _ _=>rfl
 go_enter_defers Tryz.func31,Tryz.ntmps31
 go_wp2_with fail
 generalize (((w.alloc (.cells #[.slice none 0 0] 71)).alloc (.cells #[.pointer none] 69)).alloc (.cells #[.string s,.int .i64 0,.int .i64 0,.int .i64 0,.int .i64 0,.string ⟨#[]⟩,.int .i64 0] 139))=W2 at ST ⊢
 refine (advance_raw a (w.heap.size+1+1) s 0 0 0 0 ⟨#[]⟩ 0 W2 ST.l HG.out ST.r (Nat.zero_le _) (Nat.zero_le _) hs).mono ?_
 rintro e w3 ⟨kk3,(⟨st,rfl,g3,r3⟩ | thr)⟩
 ·have G3:Hid (Mil.adv' s.data.toList 0=some st):=g3
  have B3:Hid (Below w.heap.size w w3):=ST.b.trans ⟨kk3.os,kk3.tape,kk3.output,kk3.size,fun k hk=>kk3.block k (Nat.lt_of_lt_of_le hk ST.b.size) (by omega)⟩
  have V3:Hid (Vars w3 w.heap.size (.slice none 0 0) (.pointer none)):=ST.v.kept kk3 (by omega)
  have HL:Hid (Laid a w3):=ST.l.kept kk3 HG.out
  have R3:Hid (RdS w3 (w.heap.size+1+1) s st):=r3
  clear g3 kk3 ST r3 W2
  go_wp2_with fail
  go_loopg [] (Mil.mu st) (fun g wr=>∃acc t v0,g=Mil.mu t∧Hid (Vars wr w.heap.size v0 (.pointer none))∧Hid (Row s.size wr (w.heap.size+1+1) acc v0)∧Hid (RdS wr (w.heap.size+1+1) s t)∧Hid (Below w.heap.size w wr)∧Hid (Laid a wr)∧Hid ((∀z,Mip.Rprog acc t z↔Mip.Rprog [] st z)∧∀k p,Mil.BadP s.size (acc.map Mip.eri) t k p→Mil.BadP s.size [] st k p)∧Hid (acc.length≤60))
  case atStart=>exact ⟨[],st,.slice none 0 0,rfl,V3,Row.nil _ _ _,R3,B3,HL,⟨fun z=>Iff.rfl,fun _ _ h=>h⟩,Nat.zero_le _⟩
  case round=>
   clear V3 R3 B3 HL
   obtain ⟨acc,t,v0,hg,HV,HR,HD,HB,HL,HI,HM⟩:=hrel
   have HG2:Hid (gk=Mil.mu t):=hg
   clear hg
   obtain ⟨o0,c0,rfl⟩:=HR.out.shape
   obtain ⟨p,tp,x,hp,hRd,hr,hx,hn⟩:=HD.out
   have c3:=hRd.c3
   have c4:=hRd.c4
   have q0:=HV.out.c0
   have q1:=HV.out.c1
   have f0:=HV.out.f0
   have f1:=HV.out.f1
   have HTP:Hid (tp=place s.size t):=hn.2.2
   clear hRd hr hx hn hp
   by_cases hk0:t.tok.kind=0
   ·have hb0:(((t.tok.kind:Nat):Int) != 0)=false:=by simp;omega
    have HK0:Hid (t.tok.kind=0):=hk0
    clear hk0
    go_wp2
    refine leaves_done s.size s.data.toList a w _ _ rfl rfl o0 acc.length c0 ((HV.out.set0 _).set1 _) ((HB.out.setCell (Nat.le_refl _) _).setCell (p:=⟨w.heap.size+1,0,none⟩) (Nat.le_succ _) _) acc (w.heap.size+1+1) (by omega) ⟨st,G3.out,(HI.out.1 _).1 (Mip.prog_stop HK0.out)⟩ ?_
    exact (HR.out.kept ((Kp.refl w.heap.size wr).setCell 0 _) (by omega)).kept ((Kp.refl (w.heap.size+1) _).setCell 0 _) (by omega)
   ·have hb0:(((t.tok.kind:Nat):Int) != 0)=true:=by simp;omega
    have HK0:Hid (t.tok.kind≠0):=hk0
    clear hk0
    by_cases h6:acc.length=60
    ·have hb6:(((acc.length:Nat):Int)==60)=true:=by simp;omega
     have H6:Hid (acc.length=60):=h6
     clear h6
     have hcm:=HL.out.many
     have hno:Mil.Fault s.data.toList 4 tp:=Mil.fault_size (Or.inr ⟨_,G3.out,HI.out.2 _ _ (by rw [HTP.out];exact Mil.badP_many HK0.out (by rw [List.length_map];exact H6.out))⟩)
     have hpp:∀tm:Array Value,tm[2]?=some (.pointer (some ⟨w.heap.size,0,none⟩))→tm[3]?=some (.pointer (some ⟨w.heap.size+1,0,none⟩))→bodyPostD Tryz.prog Tryz.f31 (RiPost s.size s.data.toList a w) (Exit.panic [{ v:=.iface 69 (.pointer (some ⟨wr.heap.size,0,none⟩)),recovered:=false }]) { tmps:=tm,defers:=D0 w.heap.size } (wr.alloc (.cells #[.int .i64 tp,errV (a 4)] 81)).drew:=by
      intro tm h2 h3
      exact leaves_thrown s.size s.data.toList a w _ tm h2 h3 _ _ (HV.out.kept (((Kp.refl (w.heap.size+1+1) wr).alloc _).drew) (by omega)) (HB.out.alloc HB.out.size _).drew 4 tp wr.heap.size (Or.inr (Or.inr (Or.inr rfl))) (heap_alloc_new wr _) hno
     have HPP:Hid _:=hpp
     clear hpp hno
     go_wp2
     refine wp_region_any (by kernel_rfl) ?_
     change wpAny _ _ _ _ _ _ _ (World.drew _)
     refine wpAny_take (i:=0) (v:=.pointer (some ⟨w.heap.size+1+1,0,none⟩)) rfl (by kernel_rfl) (by kernel_rfl) (by kernel_rfl) (fun _ _ _ h=>bp_put (i:=20) (by decide) (by decide) h) (Or.inl ⟨by rfl,fun w=>by go_simp⟩) ?_
     refine wpAny_take (i:=1) (v:=.pointer (some ⟨w.heap.size+1+1,0,none⟩)) rfl (by kernel_rfl) (by kernel_rfl) (by kernel_rfl) (fun _ _ _ h=>bp_put (i:=21) (by decide) (by decide) h) (Or.inl ⟨by rfl,fun w=>by go_simp⟩) ?_
     refine wpAny_take (i:=2) (v:=.pointer (some ⟨w.heap.size+1+1,3,none⟩)) rfl (by kernel_rfl) (by kernel_rfl) (by kernel_rfl) (fun _ _ _ h=>bp_put (i:=22) (by decide) (by decide) h) (Or.inl ⟨by rfl,fun w=>by go_simp⟩) ?_
     refine wpAny_take (i:=3) (v:=.pointer (some ⟨w.heap.size+1+1,4,none⟩)) rfl (by kernel_rfl) (by kernel_rfl) (by kernel_rfl) (fun _ _ _ h=>bp_put (i:=23) (by decide) (by decide) h) (Or.inl ⟨by rfl,fun w=>by go_simp⟩) ?_
     refine wpAny_ready (rs:=[4,5]) (by kernel_rfl) (by simp) ?_
     refine AllReady.cons rfl (fun K hK=>?_) (AllReady.cons rfl (fun K hK=>?_) AllReady.nil)
     ·go_simp
      refine hK _ _ ?_
      clear hK K
      refine wpAny_ready (rs:=[5]) (by kernel_rfl) (by simp) ?_
      refine AllReady.cons rfl (fun K hK=>?_) AllReady.nil
      go_simp
      refine hK _ _ ?_
      clear hK K
      refine wpAny_take (i:=6) (v:=.agg #[.int .i64 tp,errV (a 4)]) rfl (by kernel_rfl) (by kernel_rfl) (by kernel_rfl) (fun _ _ _ h=>bp_put (i:=26) (by decide) (by decide) h) (Or.inl ⟨by rfl,fun w=>by go_simp⟩) ?_
      refine wpAny_ready (rs:=[7]) (by kernel_rfl) (by simp) ?_
      refine AllReady.cons rfl (fun K hK=>?_) AllReady.nil
      go_simp
      refine hK _ _ ?_
      clear hK K
      refine wpAny_take (i:=8) (v:=.iface 69 (.pointer (some ⟨wr.heap.size,0,none⟩))) rfl (by kernel_rfl) (by kernel_rfl) (by kernel_rfl) (fun _ _ _ h=>bp_put (i:=28) (by decide) (by decide) h) (Or.inl ⟨by rfl,fun w=>by go_simp⟩) ?_
      refine wpAny_ready (rs:=[9]) (by kernel_rfl) (by simp) ?_
      refine AllReady.cons rfl (fun K hK=>?_) AllReady.nil
      go_simp
      exact HPP.out _ rfl rfl
     ·go_simp
      refine hK _ _ ?_
      clear hK K
      refine wpAny_ready (rs:=[4]) (by kernel_rfl) (by simp) ?_
      refine AllReady.cons rfl (fun K hK=>?_) AllReady.nil
      go_simp
      refine hK _ _ ?_
      clear hK K
      refine wpAny_take (i:=6) (v:=.agg #[.int .i64 tp,errV (a 4)]) rfl (by kernel_rfl) (by kernel_rfl) (by kernel_rfl) (fun _ _ _ h=>bp_put (i:=26) (by decide) (by decide) h) (Or.inl ⟨by rfl,fun w=>by go_simp⟩) ?_
      refine wpAny_ready (rs:=[7]) (by kernel_rfl) (by simp) ?_
      refine AllReady.cons rfl (fun K hK=>?_) AllReady.nil
      go_simp
      refine hK _ _ ?_
      clear hK K
      refine wpAny_take (i:=8) (v:=.iface 69 (.pointer (some ⟨wr.heap.size,0,none⟩))) rfl (by kernel_rfl) (by kernel_rfl) (by kernel_rfl) (fun _ _ _ h=>bp_put (i:=28) (by decide) (by decide) h) (Or.inl ⟨by rfl,fun w=>by go_simp⟩) ?_
      refine wpAny_ready (rs:=[9]) (by kernel_rfl) (by simp) ?_
      refine AllReady.cons rfl (fun K hK=>?_) AllReady.nil
      go_simp
      exact HPP.out _ rfl rfl
    ·have hb6:(((acc.length:Nat):Int)==60)=false:=by simp;omega
     have H6:Hid (acc.length≠60):=h6
     clear h6
     have L4:Hid (Laid a wr.drew):=HL.out.kept ((Kp.refl (w.heap.size+1+1) wr).drew) HG.out
     have D4:Hid (RdS wr.drew (w.heap.size+1+1) s t):=HD.out.kept ((Kp.refl (w.heap.size+1+1+1) wr).drew) (by omega)
     have V4:Hid (Vars wr.drew w.heap.size (.slice o0 acc.length c0) (.pointer none)):=HV.out.kept ((Kp.refl (w.heap.size+1+1) wr).drew) (by omega)
     have R4:Hid (Row s.size wr.drew (w.heap.size+1+1) acc (.slice o0 acc.length c0)):=HR.out.kept ((Kp.refl (w.heap.size+1+1) wr).drew) (by omega)
     have B4:Hid (Below w.heap.size w wr.drew):=HB.out.drew
     have NO4:Hid (∀k p,Mil.BadI s.size t k p→Mil.Fault s.data.toList k p):=fun k p h=>Mil.fault_size (Or.inr ⟨_,G3.out,HI.out.2 _ _ (Mil.badP_item HK0.out (by rw [List.length_map];exact H6.out) h)⟩)
     obtain ⟨i0,hi,hz0,hz1,hz2⟩:=info_parts Tryz.infoItemM
     have hlen:acc.length≤60:=HM.out
     clear HV HR HD HB HL
     go_wp2_with fail
     refine wp_region_any (by kernel_rfl) ?_
     change wpAny _ _ _ _ _ _ _ (World.drew _)
     refine wpAny_take (i:=1) (v:=.pointer (some ⟨w.heap.size+1+1,0,none⟩)) rfl (by kernel_rfl) (by kernel_rfl) (by kernel_rfl) (fun _ _ _ h=>bp_put (i:=30) (by decide) (by decide) h) (Or.inl ⟨by rfl,fun w=>by go_simp⟩) ?_
     refine wpAny_ready (rs:=[0,2]) (by kernel_rfl) (by simp) ?_
     refine AllReady.cons rfl (fun K hK=>?_) (AllReady.cons rfl (fun K hK=>?_) AllReady.nil)
     ·go_simp
      refine hK _ _ ?_
      clear hK K
      refine wpAny_ready (rs:=[2]) (by kernel_rfl) (by simp) ?_
      refine AllReady.cons rfl (fun K hK=>?_) AllReady.nil
      go_simp
      refine (mitem_any a (w.heap.size+1+1) s HG.out hs t _ L4.out D4.out).mono ?_
      rintro e w5 ⟨kk5,(⟨i,t',ty,y,rfl,iv,g5,r5⟩ | ⟨k,at_,hkk,d,rfl,hd,hno⟩)⟩
      ·have V5:Hid (Vars w5 w.heap.size (.slice o0 acc.length c0) (.pointer none)):=V4.out.kept kk5 (by omega)
       have B5:Hid (Below w.heap.size w w5):=B4.out.trans ⟨kk5.os,kk5.tape,kk5.output,kk5.size,fun k hk=>kk5.block k (Nat.lt_of_lt_of_le hk B4.out.size) (by omega)⟩
       have L5:Hid (Laid a w5):=L4.out.kept kk5 HG.out
       have hbw:Hid (w.heap.size+1+1 < w5.heap.size):=by
        obtain ⟨_,_,_,_,hRd,_⟩:=r5
        exact lt_of_cell hRd.c0
       obtain ⟨vs,O5,hvs⟩:=R4.out.kept kk5 (Nat.le_refl _)
       have O6:Hid ((w5.alloc (.cells #[.iface ty y] 141)).ownsRow (w.heap.size+1+1+1) 141 1 (.slice o0 acc.length c0) acc.length vs):=O5.alloc _
       have HVS:Hid (Ivs s.size w5 (w.heap.size+1+1) acc vs):=hvs
       have IV:Hid (Iv s.size w5 (w.heap.size+1+1) i (.iface ty y)):=iv
       have G5:Hid (Mip.Rit t i t'):=g5
       have R5:Hid (RdS w5 (w.heap.size+1+1) s t'):=r5
       have V6:Hid (Vars (w5.alloc (.cells #[.iface ty y] 141)) w.heap.size (.slice o0 acc.length c0) (.pointer none)):=V5.out.kept ((Kp.refl (w.heap.size+1+1) w5).alloc _) (by omega)
       have p5:=V5.out.c0
       have p6:=V6.out.c0
       clear kk5 O5 hvs iv g5 r5
       refine hK _ _ ?_
       clear hK K
       refine wpAny_ready (rs:=[3]) (by kernel_rfl) (by simp) ?_
       refine AllReady.cons rfl (fun K hK=>?_) AllReady.nil
       go_simp
       refine hK _ _ ?_
       clear hK K
       refine wpAny_ready (rs:=[4]) (by kernel_rfl) (by simp) ?_
       refine AllReady.cons rfl (fun K hK=>?_) AllReady.nil
       refine (if_pos (by rfl)).mpr ?_
       refine wp_append_own _ (.tmp 29) (.tmp 32) 71 rfl (w.heap.size+1+1+1) 141 i0 .nilIface 1 16 Tryz.underlying71 hi hz0 hz1 hz2 rfl (by decide) (.slice o0 acc.length c0) acc.length vs rfl O6.out ⟨w5.heap.size,0,none⟩ 1 1 [.iface ty y] rfl rfl (news_one w5 _ _) (by intro u hu;simp at hu;subst hu;rfl) (by unfold maxLen;omega) (by omega) (by have:=hbw.out;simp;omega) ?_
       intro v7 w7 O7 hg7 hn7
       refine hK _ _ ?_
       clear hK K
       obtain ⟨V7,RE⟩:=round_end a s w w5 w7 acc i t' _ v7 _ vs HG0.out V5.out B5.out L5.out R5.out HVS.out IV.out O6.out hg7 O7
       have p7:=V7.c0
       have f7:=V7.f0
       have HRE:Hid _:=RE
       obtain ⟨o7,n7,c7,rfl⟩:=owns_shape O7
       clear RE V7 O7 hg7 hn7
       refine wpAny_ready (rs:=[5]) (by kernel_rfl) (by simp) ?_
       refine AllReady.cons rfl (fun K hK=>?_) AllReady.nil
       go_simp
       refine hK _ _ ?_
       clear hK K
       refine wpAny_done (by kernel_rfl) ?_ _
       go_wp2
       go_roundg (Mil.mu t')
       case measure=>have:=HG2.out;have:=Mil.rit_mu (Mip.Rit.er G5.out);omega
       case rel=>
        refine ⟨acc++[i],t',_,rfl,HRE.out.v,HRE.out.r,HRE.out.d,HRE.out.b,HRE.out.l,⟨fun z=>Iff.trans (Mip.prog_go HK0.out H6.out G5.out z).symm (HI.out.1 z),fun k p h=>HI.out.2 k p (Mil.badP_go HK0.out (by rw [List.length_map];exact H6.out) (Mip.Rit.er G5.out) (by rw [List.map_append] at h;exact h))⟩,?_⟩
        show (acc++[i]).length≤60
        rw [List.length_append]
        have:=H6.out
        simp only [List.length_singleton]
        omega
      ·have V5:Hid (Vars w5 w.heap.size (.slice o0 acc.length c0) (.pointer none)):=V4.out.kept kk5 (by omega)
       have B5:Hid (Below w.heap.size w w5):=B4.out.trans ⟨kk5.os,kk5.tape,kk5.output,kk5.size,fun k hk=>kk5.block k (Nat.lt_of_lt_of_le hk B4.out.size) (by omega)⟩
       exact leaves_thrown s.size s.data.toList a w w5 _ rfl rfl _ _ V5.out B5.out k at_ d hkk hd (NO4.out _ _ hno)
     ·go_simp
      refine (mitem_any a (w.heap.size+1+1) s HG.out hs t _ L4.out D4.out).mono ?_
      rintro e w5 ⟨kk5,(⟨i,t',ty,y,rfl,iv,g5,r5⟩ | ⟨k,at_,hkk,d,rfl,hd,hno⟩)⟩
      ·have V5:Hid (Vars w5 w.heap.size (.slice o0 acc.length c0) (.pointer none)):=V4.out.kept kk5 (by omega)
       have B5:Hid (Below w.heap.size w w5):=B4.out.trans ⟨kk5.os,kk5.tape,kk5.output,kk5.size,fun k hk=>kk5.block k (Nat.lt_of_lt_of_le hk B4.out.size) (by omega)⟩
       have L5:Hid (Laid a w5):=L4.out.kept kk5 HG.out
       have hbw:Hid (w.heap.size+1+1 < w5.heap.size):=by
        obtain ⟨_,_,_,_,hRd,_⟩:=r5
        exact lt_of_cell hRd.c0
       obtain ⟨vs,O5,hvs⟩:=R4.out.kept kk5 (Nat.le_refl _)
       have O6:Hid ((w5.alloc (.cells #[.iface ty y] 141)).ownsRow (w.heap.size+1+1+1) 141 1 (.slice o0 acc.length c0) acc.length vs):=O5.alloc _
       have HVS:Hid (Ivs s.size w5 (w.heap.size+1+1) acc vs):=hvs
       have IV:Hid (Iv s.size w5 (w.heap.size+1+1) i (.iface ty y)):=iv
       have G5:Hid (Mip.Rit t i t'):=g5
       have R5:Hid (RdS w5 (w.heap.size+1+1) s t'):=r5
       have V6:Hid (Vars (w5.alloc (.cells #[.iface ty y] 141)) w.heap.size (.slice o0 acc.length c0) (.pointer none)):=V5.out.kept ((Kp.refl (w.heap.size+1+1) w5).alloc _) (by omega)
       have p5:=V5.out.c0
       have p6:=V6.out.c0
       clear kk5 O5 hvs iv g5 r5
       refine hK _ _ ?_
       clear hK K
       refine wpAny_ready (rs:=[0,3]) (by kernel_rfl) (by simp) ?_
       refine AllReady.cons rfl (fun K hK=>?_) (AllReady.cons rfl (fun K hK=>?_) AllReady.nil)
       ·go_simp
        refine hK _ _ ?_
        clear hK K
        refine wpAny_ready (rs:=[3]) (by kernel_rfl) (by simp) ?_
        refine AllReady.cons rfl (fun K hK=>?_) AllReady.nil
        go_simp
        refine hK _ _ ?_
        clear hK K
        refine wpAny_ready (rs:=[4]) (by kernel_rfl) (by simp) ?_
        refine AllReady.cons rfl (fun K hK=>?_) AllReady.nil
        refine (if_pos (by rfl)).mpr ?_
        refine wp_append_own _ (.tmp 29) (.tmp 32) 71 rfl (w.heap.size+1+1+1) 141 i0 .nilIface 1 16 Tryz.underlying71 hi hz0 hz1 hz2 rfl (by decide) (.slice o0 acc.length c0) acc.length vs rfl O6.out ⟨w5.heap.size,0,none⟩ 1 1 [.iface ty y] rfl rfl (news_one w5 _ _) (by intro u hu;simp at hu;subst hu;rfl) (by unfold maxLen;omega) (by omega) (by have:=hbw.out;simp;omega) ?_
        intro v7 w7 O7 hg7 hn7
        refine hK _ _ ?_
        clear hK K
        obtain ⟨V7,RE⟩:=round_end a s w w5 w7 acc i t' _ v7 _ vs HG0.out V5.out B5.out L5.out R5.out HVS.out IV.out O6.out hg7 O7
        have p7:=V7.c0
        have f7:=V7.f0
        have HRE:Hid _:=RE
        obtain ⟨o7,n7,c7,rfl⟩:=owns_shape O7
        clear RE V7 O7 hg7 hn7
        refine wpAny_ready (rs:=[5]) (by kernel_rfl) (by simp) ?_
        refine AllReady.cons rfl (fun K hK=>?_) AllReady.nil
        go_simp
        refine hK _ _ ?_
        clear hK K
        refine wpAny_done (by kernel_rfl) ?_ _
        go_wp2
        go_roundg (Mil.mu t')
        case measure=>have:=HG2.out;have:=Mil.rit_mu (Mip.Rit.er G5.out);omega
        case rel=>
         refine ⟨acc++[i],t',_,rfl,HRE.out.v,HRE.out.r,HRE.out.d,HRE.out.b,HRE.out.l,⟨fun z=>Iff.trans (Mip.prog_go HK0.out H6.out G5.out z).symm (HI.out.1 z),fun k p h=>HI.out.2 k p (Mil.badP_go HK0.out (by rw [List.length_map];exact H6.out) (Mip.Rit.er G5.out) (by rw [List.map_append] at h;exact h))⟩,?_⟩
         show (acc++[i]).length≤60
         rw [List.length_append]
         have:=H6.out
         simp only [List.length_singleton]
         omega
       ·go_simp
        refine hK _ _ ?_
        clear hK K
        refine wpAny_ready (rs:=[0]) (by kernel_rfl) (by simp) ?_
        refine AllReady.cons rfl (fun K hK=>?_) AllReady.nil
        go_simp
        refine hK _ _ ?_
        clear hK K
        refine wpAny_ready (rs:=[4]) (by kernel_rfl) (by simp) ?_
        refine AllReady.cons rfl (fun K hK=>?_) AllReady.nil
        refine (if_pos (by rfl)).mpr ?_
        refine wp_append_own _ (.tmp 29) (.tmp 32) 71 rfl (w.heap.size+1+1+1) 141 i0 .nilIface 1 16 Tryz.underlying71 hi hz0 hz1 hz2 rfl (by decide) (.slice o0 acc.length c0) acc.length vs rfl O6.out ⟨w5.heap.size,0,none⟩ 1 1 [.iface ty y] rfl rfl (news_one w5 _ _) (by intro u hu;simp at hu;subst hu;rfl) (by unfold maxLen;omega) (by omega) (by have:=hbw.out;simp;omega) ?_
        intro v7 w7 O7 hg7 hn7
        refine hK _ _ ?_
        clear hK K
        obtain ⟨V7,RE⟩:=round_end a s w w5 w7 acc i t' _ v7 _ vs HG0.out V5.out B5.out L5.out R5.out HVS.out IV.out O6.out hg7 O7
        have p7:=V7.c0
        have f7:=V7.f0
        have HRE:Hid _:=RE
        obtain ⟨o7,n7,c7,rfl⟩:=owns_shape O7
        clear RE V7 O7 hg7 hn7
        refine wpAny_ready (rs:=[5]) (by kernel_rfl) (by simp) ?_
        refine AllReady.cons rfl (fun K hK=>?_) AllReady.nil
        go_simp
        refine hK _ _ ?_
        clear hK K
        refine wpAny_done (by kernel_rfl) ?_ _
        go_wp2
        go_roundg (Mil.mu t')
        case measure=>have:=HG2.out;have:=Mil.rit_mu (Mip.Rit.er G5.out);omega
        case rel=>
         refine ⟨acc++[i],t',_,rfl,HRE.out.v,HRE.out.r,HRE.out.d,HRE.out.b,HRE.out.l,⟨fun z=>Iff.trans (Mip.prog_go HK0.out H6.out G5.out z).symm (HI.out.1 z),fun k p h=>HI.out.2 k p (Mil.badP_go HK0.out (by rw [List.length_map];exact H6.out) (Mip.Rit.er G5.out) (by rw [List.map_append] at h;exact h))⟩,?_⟩
         show (acc++[i]).length≤60
         rw [List.length_append]
         have:=H6.out
         simp only [List.length_singleton]
         omega
      ·have V5:Hid (Vars w5 w.heap.size (.slice o0 acc.length c0) (.pointer none)):=V4.out.kept kk5 (by omega)
       have B5:Hid (Below w.heap.size w w5):=B4.out.trans ⟨kk5.os,kk5.tape,kk5.output,kk5.size,fun k hk=>kk5.block k (Nat.lt_of_lt_of_le hk B4.out.size) (by omega)⟩
       exact leaves_thrown s.size s.data.toList a w w5 _ rfl rfl _ _ V5.out B5.out k at_ d hkk hd (NO4.out _ _ hno)
 ·have B3:Hid (Below w.heap.size w w3):=ST.b.trans ⟨kk3.os,kk3.tape,kk3.output,kk3.size,fun k hk=>kk3.block k (Nat.lt_of_lt_of_le hk ST.b.size) (by omega)⟩
  have V3:Hid (Vars w3 w.heap.size (.slice none 0 0) (.pointer none)):=ST.v.kept kk3 (by omega)
  have TH:Hid (Threw (fun k p=>Mil.advZ' s.size s.data.toList 0=.bad k p) a e w3):=thr
  clear kk3 ST thr
  obtain ⟨k,at_,hkk,d,he,hd,hno⟩:=TH.out
  have NO:Hid (Mil.Fault s.data.toList k at_):=Mil.fault_size (Or.inl hno)
  clear hno
  subst he
  clear TH
  go_wp2
  exact leaves_thrown s.size s.data.toList a w w3 _ rfl rfl _ _ V3.out B3.out k at_ d hkk hd NO.out
end
end Go.Proofs.YticbokabjhnagaaGreatDoor
