import Derived.Test.YtoiajojadihpbaaGreatDoorQt42
namespace Go.Proofs.YtoiajojadihpbaaGreatDoor
set_option maxHeartbeats 8000000
set_option maxRecDepth 100000
section
open Go.RowKit
theorem three (a b:Bool):a=true\/(a=false/\b=true)\/(a=false/\b=false):=by cases a <;> cases b <;> decide
def YR (B ub g:Nat) (iv nv fv tv:Value) (ns:List Ref.Nd) (I:List Iw) (F:List Ref.Fl) (e:Mil.E) (i:Nat):Prop:=Ref.Closed F e->∀w,UM B ub g iv nv fv tv ns I F w->Calls Tryz.prog 103 #[.pointer (some ⟨ub,0,none⟩),.int .i64 (i:Nat)] w fun r w'=>(∃t a:Int,r=.returned (.tuple #[.int .i64 t,.int .i64 a]))/\Below w.heap.size w w'
theorem yr_num (B ub g:Nat) (iv nv fv tv:Value) (ns:List Ref.Nd) (I:List Iw) (F:List Ref.Fl) (i p:Nat) (v:Nat) (ng:Bool) (e:Mil.E) (hn:ns[i]?=some ⟨1,[],p,v,ng,0,0,0⟩):YR B ub g iv nv fv tv ns I F e i:=by
 intro hcl
 intro w h
 have HP:=hid h
 have hl:=(lgs hn).1
 have i1:(0:Int)<=(i:Int):=by omega
 have i2:(i:Int) < (ns.length:Int):=by omega
 obtain⟨k,cp,hv,c0,c1,c2,c3,c4,c5,c6,c7⟩:=h.pi.pm.node8 hn
 have d0:=h.cells.1
 have d1:=h.pi.pm.cells.2
 rw[hv] at d1
 have HB0:=bRow w #[.int .i64 ((1:Nat):Int),.string (bs []),.int .i64 (p:Nat),.int .i64 ((v:Nat):Int),.bool ng,.int .i64 ((0:Nat):Int),.int .i64 ((0:Nat):Int),.int .i64 ((0:Nat):Int)] 195
 have NC:=ncRow w #[.int .i64 ((1:Nat):Int),.string (bs []),.int .i64 (p:Nat),.int .i64 ((v:Nat):Int),.bool ng,.int .i64 ((0:Nat):Int),.int .i64 ((0:Nat):Int),.int .i64 ((0:Nat):Int)] 195
 clear hv h hn hl
 go_enter Tryz.func103,Tryz.ntmps103
 go_wp2_with fail
 all_goals go_ret2
 exact⟨⟨_,_,rfl⟩,HB0.out⟩
theorem yr_bool (B ub g:Nat) (iv nv fv tv:Value) (ns:List Ref.Nd) (I:List Iw) (F:List Ref.Fl) (i p:Nat) (v:Nat) (hn:ns[i]?=some ⟨2,[],p,v,false,0,0,0⟩):YR B ub g iv nv fv tv ns I F (Mil.eBool v) i:=by
 intro hcl
 intro w h
 have HP:=hid h
 have hl:=(lgs hn).1
 have i1:(0:Int)<=(i:Int):=by omega
 have i2:(i:Int) < (ns.length:Int):=by omega
 obtain⟨k,cp,hv,c0,c1,c2,c3,c4,c5,c6,c7⟩:=h.pi.pm.node8 hn
 have d0:=h.cells.1
 have d1:=h.pi.pm.cells.2
 rw[hv] at d1
 have HB0:=bRow w #[.int .i64 ((2:Nat):Int),.string (bs []),.int .i64 (p:Nat),.int .i64 ((v:Nat):Int),.bool false,.int .i64 ((0:Nat):Int),.int .i64 ((0:Nat):Int),.int .i64 ((0:Nat):Int)] 195
 have NC:=ncRow w #[.int .i64 ((2:Nat):Int),.string (bs []),.int .i64 (p:Nat),.int .i64 ((v:Nat):Int),.bool false,.int .i64 ((0:Nat):Int),.int .i64 ((0:Nat):Int),.int .i64 ((0:Nat):Int)] 195
 clear hv h hn hl
 go_enter Tryz.func103,Tryz.ntmps103
 go_wp2_with fail
 all_goals go_ret2
 exact⟨⟨_,_,rfl⟩,HB0.out⟩
theorem yr_name (B ub g:Nat) (iv nv fv tv:Value) (ns:List Ref.Nd) (I:List Iw) (F:List Ref.Fl) (i p:Nat) (x:Mil.Bytes) (hn:ns[i]?=some ⟨3,x,p,0,false,0,0,0⟩) (hF:F.length<=4000):YR B ub g iv nv fv tv ns I F (Mil.eName x) i:=by
 intro hcl
 intro w h
 have HP:=hid h
 have hl:=(lgs hn).1
 have i1:(0:Int)<=(i:Int):=by omega
 have i2:(i:Int) < (ns.length:Int):=by omega
 obtain⟨k,cp,hv,c0,c1,c2,c3,c4,c5,c6,c7⟩:=h.pi.pm.node8 hn
 have d0:=h.cells.1
 have d1:=h.pi.pm.cells.2
 rw[hv] at d1
 have HB0:=bRow w #[.int .i64 ((3:Nat):Int),.string (bs x),.int .i64 (p:Nat),.int .i64 ((0:Nat):Int),.bool false,.int .i64 ((0:Nat):Int),.int .i64 ((0:Nat):Int),.int .i64 ((0:Nat):Int)] 195
 have NC:=ncRow w #[.int .i64 ((3:Nat):Int),.string (bs x),.int .i64 (p:Nat),.int .i64 ((0:Nat):Int),.bool false,.int .i64 ((0:Nat):Int),.int .i64 ((0:Nat):Int),.int .i64 ((0:Nat):Int)] 195
 clear hv h hn hl
 have HCL:=hid hcl
 clear hcl
 go_enter Tryz.func103,Tryz.ntmps103
 go_wp2_with fail
 clear c0 c1 c2 c3 c4 c5 c6 c7 d0 d1 i1 i2
 have HP0:=hid (HP.out.below HB0.out)
 generalize hW:w.alloc (.cells #[.int .i64 ((3:Nat):Int),.string (bs x),.int .i64 (p:Nat),.int .i64 ((0:Nat):Int),.bool false,.int .i64 ((0:Nat):Int),.int .i64 ((0:Nat):Int),.int .i64 ((0:Nat):Int)] 195)=W at HB0 NC HP0 ⊢
 have BW:Hid (Below W.heap.size W W):=Below.refl _ _
 clear hW
 refine (find_any B ub g iv nv fv tv ns I F hF x _ HP0.out).mono ?_
 rintro r w1 ⟨rfl,hb⟩
 have Bw1:=hid hb
 clear hb
 obtain⟨j,hj⟩:=Ref.closed_name HCL.out
 have e:Ref.fndI F x=(j:Int):=by unfold Ref.fndI;rw[hj]
 have hjl:=Ref.fnd_lt hj
 have i1:(0:Int)<=(j:Int):=by omega
 have i2:(j:Int) < (F.length:Int):=by omega
 obtain⟨k,c,hv,c0,c1,c2,c3,c4,c5⟩:=(HP0.out.below Bw1.out).flow6 (List.getElem?_eq_getElem hjl)
 have d1:=(HP0.out.below Bw1.out).cells.2.1
 rw[hv] at d1
 rw[e]
 generalize F[j]=fy at c0 c1 c2 c3 c4 c5
 clear e hj hv
 go_wp2_with fail
 all_goals go_ret2
 exact⟨⟨_,_,rfl⟩,below_step HB0.out Bw1.out⟩
theorem yr_under (B ub g:Nat) (iv nv fv tv:Value) (ns:List Ref.Nd) (I:List Iw) (F:List Ref.Fl) (i p:Nat) (v a:Nat) (q:Mil.E) (hn:ns[i]?=some ⟨8,Mil.wUnder,p,v,false,a,0,0⟩) (ha:YR B ub g iv nv fv tv ns I F q a):YR B ub g iv nv fv tv ns I F (Mil.eUnder q v) i:=by
 intro hcl
 intro w h
 have HP:=hid h
 have hl:=(lgs hn).1
 have i1:(0:Int)<=(i:Int):=by omega
 have i2:(i:Int) < (ns.length:Int):=by omega
 obtain⟨k,cp,hv,c0,c1,c2,c3,c4,c5,c6,c7⟩:=h.pi.pm.node8 hn
 have d0:=h.cells.1
 have d1:=h.pi.pm.cells.2
 rw[hv] at d1
 have HB0:=bRow w #[.int .i64 ((8:Nat):Int),.string (bs Mil.wUnder),.int .i64 (p:Nat),.int .i64 ((v:Nat):Int),.bool false,.int .i64 ((a:Nat):Int),.int .i64 ((0:Nat):Int),.int .i64 ((0:Nat):Int)] 195
 have NC:=ncRow w #[.int .i64 ((8:Nat):Int),.string (bs Mil.wUnder),.int .i64 (p:Nat),.int .i64 ((v:Nat):Int),.bool false,.int .i64 ((a:Nat):Int),.int .i64 ((0:Nat):Int),.int .i64 ((0:Nat):Int)] 195
 clear hv h hn hl
 have HA:=ha ((Ref.closed_two (by decide)).1 hcl).1
 have HHA:=hid HA
 clear ha hcl HA
 go_enter Tryz.func103,Tryz.ntmps103
 go_wp2_with fail
 clear c0 c1 c2 c3 c4 c5 c6 c7 d0 d1 i1 i2
 have HP0:=hid (HP.out.below HB0.out)
 generalize hW:w.alloc (.cells #[.int .i64 ((8:Nat):Int),.string (bs Mil.wUnder),.int .i64 (p:Nat),.int .i64 ((v:Nat):Int),.bool false,.int .i64 ((a:Nat):Int),.int .i64 ((0:Nat):Int),.int .i64 ((0:Nat):Int)] 195)=W at HB0 NC HP0 ⊢
 have BW:Hid (Below W.heap.size W W):=Below.refl _ _
 clear hW
 refine (HHA.out _ (HP0.out.below BW.out)).mono ?_
 rintro r w1 ⟨⟨t1,z1,rfl⟩,hb⟩
 have Bw1:=hid (below_step BW.out hb)
 clear hb
 go_wp2_with fail
 all_goals go_ret2
 exact⟨⟨_,_,rfl⟩,below_step HB0.out Bw1.out⟩
theorem yr_pre (B ub g:Nat) (iv nv fv tv:Value) (ns:List Ref.Nd) (I:List Iw) (F:List Ref.Fl) (i p:Nat) (a:Nat) (y:Mil.Bytes) (q:Mil.E) (hn:ns[i]?=some ⟨4,y,p,0,false,a,0,0⟩) (ha:YR B ub g iv nv fv tv ns I F q a):YR B ub g iv nv fv tv ns I F (Mil.ePre y q) i:=by
 intro hcl
 intro w h
 have HP:=hid h
 have hl:=(lgs hn).1
 have i1:(0:Int)<=(i:Int):=by omega
 have i2:(i:Int) < (ns.length:Int):=by omega
 obtain⟨k,cp,hv,c0,c1,c2,c3,c4,c5,c6,c7⟩:=h.pi.pm.node8 hn
 have d0:=h.cells.1
 have d1:=h.pi.pm.cells.2
 rw[hv] at d1
 have HB0:=bRow w #[.int .i64 ((4:Nat):Int),.string (bs y),.int .i64 (p:Nat),.int .i64 ((0:Nat):Int),.bool false,.int .i64 ((a:Nat):Int),.int .i64 ((0:Nat):Int),.int .i64 ((0:Nat):Int)] 195
 have NC:=ncRow w #[.int .i64 ((4:Nat):Int),.string (bs y),.int .i64 (p:Nat),.int .i64 ((0:Nat):Int),.bool false,.int .i64 ((a:Nat):Int),.int .i64 ((0:Nat):Int),.int .i64 ((0:Nat):Int)] 195
 clear hv h hn hl
 have HA:=ha ((Ref.closed_two (by decide)).1 hcl).1
 have HHA:=hid HA
 clear ha hcl HA
 go_enter Tryz.func103,Tryz.ntmps103
 go_wp2_with fail
 clear c0 c1 c2 c3 c4 c5 c6 c7 d0 d1 i1 i2
 have HP0:=hid (HP.out.below HB0.out)
 generalize hW:w.alloc (.cells #[.int .i64 ((4:Nat):Int),.string (bs y),.int .i64 (p:Nat),.int .i64 ((0:Nat):Int),.bool false,.int .i64 ((a:Nat):Int),.int .i64 ((0:Nat):Int),.int .i64 ((0:Nat):Int)] 195)=W at HB0 NC HP0 ⊢
 have BW:Hid (Below W.heap.size W W):=Below.refl _ _
 clear hW
 refine (HHA.out _ (HP0.out.below BW.out)).mono ?_
 rintro r w1 ⟨⟨t1,z1,rfl⟩,hb⟩
 have Bw1:=hid (below_step BW.out hb)
 clear hb
 have f1:w1.cell? ⟨w.heap.size,1,none⟩=some (.string (bs y)):=NC.out w1 Bw1.out 1
 have f2:w1.cell? ⟨w.heap.size,2,none⟩=some (.int .i64 (p:Nat)):=NC.out w1 Bw1.out 2
 by_cases h1:z1 < 0
 ·have e1:(z1 < 0)=True:=by simp;omega
  clear h1
  go_wp2
  all_goals go_ret2
  all_goals exact⟨⟨_,_,rfl⟩,below_step HB0.out Bw1.out⟩
 ·have e1:(z1 < 0)=False:=by simp;omega
  clear h1
  go_wp2
  all_goals go_ret2
  all_goals exact⟨⟨_,_,rfl⟩,below_step HB0.out Bw1.out⟩
theorem yr_two (B ub g:Nat) (iv nv fv tv:Value) (ns:List Ref.Nd) (I:List Iw) (F:List Ref.Fl) (i p:Nat) (a b:Nat) (y:Mil.Bytes) (q r:Mil.E) (hn:ns[i]?=some ⟨5,y,p,0,false,a,b,0⟩) (ha:YR B ub g iv nv fv tv ns I F q a) (hb:YR B ub g iv nv fv tv ns I F r b):YR B ub g iv nv fv tv ns I F (Mil.eTwo y q r) i:=by
 intro hcl
 intro w h
 have HP:=hid h
 have hl:=(lgs hn).1
 have i1:(0:Int)<=(i:Int):=by omega
 have i2:(i:Int) < (ns.length:Int):=by omega
 obtain⟨k,cp,hv,c0,c1,c2,c3,c4,c5,c6,c7⟩:=h.pi.pm.node8 hn
 have d0:=h.cells.1
 have d1:=h.pi.pm.cells.2
 rw[hv] at d1
 have HB0:=bRow w #[.int .i64 ((5:Nat):Int),.string (bs y),.int .i64 (p:Nat),.int .i64 ((0:Nat):Int),.bool false,.int .i64 ((a:Nat):Int),.int .i64 ((b:Nat):Int),.int .i64 ((0:Nat):Int)] 195
 have NC:=ncRow w #[.int .i64 ((5:Nat):Int),.string (bs y),.int .i64 (p:Nat),.int .i64 ((0:Nat):Int),.bool false,.int .i64 ((a:Nat):Int),.int .i64 ((b:Nat):Int),.int .i64 ((0:Nat):Int)] 195
 clear hv h hn hl
 have HA:=ha ((Ref.closed_two (by decide)).1 hcl).1
 have HB:=hb ((Ref.closed_two (by decide)).1 hcl).2
 have HHA:=hid HA
 have HHB:=hid HB
 clear ha hb hcl HA HB
 go_enter Tryz.func103,Tryz.ntmps103
 go_wp2_with fail
 clear c0 c1 c2 c3 c4 c5 c6 c7 d0 d1 i1 i2
 have HP0:=hid (HP.out.below HB0.out)
 generalize hW:w.alloc (.cells #[.int .i64 ((5:Nat):Int),.string (bs y),.int .i64 (p:Nat),.int .i64 ((0:Nat):Int),.bool false,.int .i64 ((a:Nat):Int),.int .i64 ((b:Nat):Int),.int .i64 ((0:Nat):Int)] 195)=W at HB0 NC HP0 ⊢
 have BW:Hid (Below W.heap.size W W):=Below.refl _ _
 clear hW
 refine (HHA.out _ (HP0.out.below BW.out)).mono ?_
 rintro r w1 ⟨⟨t1,z1,rfl⟩,hb⟩
 have Bw1:=hid (below_step BW.out hb)
 clear hb
 have f6:w1.cell? ⟨w.heap.size,6,none⟩=some (.int .i64 (b:Nat)):=NC.out w1 Bw1.out 6
 by_cases h1:(0:Int)<=z1
 ·have e1:((0:Int)<=z1)=True:=by simp;omega
  clear h1
  go_wp2_with fail
  all_goals go_ret2
  exact⟨⟨_,_,rfl⟩,below_step HB0.out Bw1.out⟩
 have e1:((0:Int)<=z1)=False:=by simp;omega
 clear h1
 go_wp2_with fail
 clear f6
 refine (HHB.out _ (HP0.out.below Bw1.out)).mono ?_
 rintro r w2 ⟨⟨t2,z2,rfl⟩,hb⟩
 have Bw2:=hid (below_step Bw1.out hb)
 clear hb
 by_cases h2:(0:Int)<=z2
 ·have e2:((0:Int)<=z2)=True:=by simp;omega
  clear h2
  go_wp2_with fail
  all_goals go_ret2
  exact⟨⟨_,_,rfl⟩,below_step HB0.out Bw2.out⟩
 have e2:((0:Int)<=z2)=False:=by simp;omega
 clear h2
 have f1:w2.cell? ⟨w.heap.size,1,none⟩=some (.string (bs y)):=NC.out w2 Bw2.out 1
 have f0:w2.cell? ⟨w.heap.size,0,none⟩=some (.int .i64 5):=NC.out w2 Bw2.out 0
 have f2:w2.cell? ⟨w.heap.size,2,none⟩=some (.int .i64 (p:Nat)):=NC.out w2 Bw2.out 2
 go_wp2_with fail
 refine (level_any y _).mono ?_
 rintro r w3 ⟨rfl,hw⟩
 have hw':=hw.symm
 clear hw
 subst hw'
 generalize Ref.level y=lv
 rcases three ((bs y).toList==[61,61]) ((bs y).toList==[33,61]) with q1|⟨q1,q2⟩|⟨q1,q2⟩ <;> rcases three ((lv:Int)==1) ((lv:Int)==2) with l1|⟨l1,l2⟩|⟨l1,l2⟩
 all_goals go_wp2
 all_goals (first|(go_ret2;exact⟨⟨_,_,rfl⟩,below_step HB0.out Bw2.out⟩)|(go_region;all_goals go_wp2;all_goals go_ret2;all_goals exact⟨⟨_,_,rfl⟩,below_step HB0.out Bw2.out.drew⟩))
theorem yr_least (B ub g:Nat) (iv nv fv tv:Value) (ns:List Ref.Nd) (I:List Iw) (F:List Ref.Fl) (i p:Nat) (a b:Nat) (y:Mil.Bytes) (q r:Mil.E) (hn:ns[i]?=some ⟨10,y,p,0,false,a,b,0⟩) (ha:YR B ub g iv nv fv tv ns I F q a) (hb:YR B ub g iv nv fv tv ns I F r b):YR B ub g iv nv fv tv ns I F (Mil.eLeast y q r) i:=by
 intro hcl
 intro w h
 have HP:=hid h
 have hl:=(lgs hn).1
 have i1:(0:Int)<=(i:Int):=by omega
 have i2:(i:Int) < (ns.length:Int):=by omega
 obtain⟨k,cp,hv,c0,c1,c2,c3,c4,c5,c6,c7⟩:=h.pi.pm.node8 hn
 have d0:=h.cells.1
 have d1:=h.pi.pm.cells.2
 rw[hv] at d1
 have HB0:=bRow w #[.int .i64 ((10:Nat):Int),.string (bs y),.int .i64 (p:Nat),.int .i64 ((0:Nat):Int),.bool false,.int .i64 ((a:Nat):Int),.int .i64 ((b:Nat):Int),.int .i64 ((0:Nat):Int)] 195
 have NC:=ncRow w #[.int .i64 ((10:Nat):Int),.string (bs y),.int .i64 (p:Nat),.int .i64 ((0:Nat):Int),.bool false,.int .i64 ((a:Nat):Int),.int .i64 ((b:Nat):Int),.int .i64 ((0:Nat):Int)] 195
 clear hv h hn hl
 have HA:=ha ((Ref.closed_two (by decide)).1 hcl).1
 have HB:=hb ((Ref.closed_two (by decide)).1 hcl).2
 have HHA:=hid HA
 have HHB:=hid HB
 clear ha hb hcl HA HB
 go_enter Tryz.func103,Tryz.ntmps103
 go_wp2_with fail
 clear c0 c1 c2 c3 c4 c5 c6 c7 d0 d1 i1 i2
 have HP0:=hid (HP.out.below HB0.out)
 generalize hW:w.alloc (.cells #[.int .i64 ((10:Nat):Int),.string (bs y),.int .i64 (p:Nat),.int .i64 ((0:Nat):Int),.bool false,.int .i64 ((a:Nat):Int),.int .i64 ((b:Nat):Int),.int .i64 ((0:Nat):Int)] 195)=W at HB0 NC HP0 ⊢
 have BW:Hid (Below W.heap.size W W):=Below.refl _ _
 clear hW
 refine (HHA.out _ (HP0.out.below BW.out)).mono ?_
 rintro r w1 ⟨⟨t1,z1,rfl⟩,hb⟩
 have Bw1:=hid (below_step BW.out hb)
 clear hb
 have f6:w1.cell? ⟨w.heap.size,6,none⟩=some (.int .i64 (b:Nat)):=NC.out w1 Bw1.out 6
 by_cases h1:(0:Int)<=z1
 ·have e1:((0:Int)<=z1)=True:=by simp;omega
  clear h1
  go_wp2_with fail
  all_goals go_ret2
  exact⟨⟨_,_,rfl⟩,below_step HB0.out Bw1.out⟩
 have e1:((0:Int)<=z1)=False:=by simp;omega
 clear h1
 go_wp2_with fail
 clear f6
 refine (HHB.out _ (HP0.out.below Bw1.out)).mono ?_
 rintro r w2 ⟨⟨t2,z2,rfl⟩,hb⟩
 have Bw2:=hid (below_step Bw1.out hb)
 clear hb
 by_cases h2:(0:Int)<=z2
 ·have e2:((0:Int)<=z2)=True:=by simp;omega
  clear h2
  go_wp2_with fail
  all_goals go_ret2
  exact⟨⟨_,_,rfl⟩,below_step HB0.out Bw2.out⟩
 have e2:((0:Int)<=z2)=False:=by simp;omega
 clear h2
 have f1:w2.cell? ⟨w.heap.size,1,none⟩=some (.string (bs y)):=NC.out w2 Bw2.out 1
 have f0:w2.cell? ⟨w.heap.size,0,none⟩=some (.int .i64 10):=NC.out w2 Bw2.out 0
 have f2:w2.cell? ⟨w.heap.size,2,none⟩=some (.int .i64 (p:Nat)):=NC.out w2 Bw2.out 2
 go_wp2_with fail
 refine (level_any y _).mono ?_
 rintro r w3 ⟨rfl,hw⟩
 have hw':=hw.symm
 clear hw
 subst hw'
 generalize Ref.level y=lv
 rcases three ((bs y).toList==[61,61]) ((bs y).toList==[33,61]) with q1|⟨q1,q2⟩|⟨q1,q2⟩
 all_goals go_wp2
 all_goals (first|(go_ret2;exact⟨⟨_,_,rfl⟩,below_step HB0.out Bw2.out⟩)|(go_region;all_goals go_wp2;all_goals go_ret2;all_goals exact⟨⟨_,_,rfl⟩,below_step HB0.out Bw2.out.drew⟩))
theorem yr_fby (B ub g:Nat) (iv nv fv tv:Value) (ns:List Ref.Nd) (I:List Iw) (F:List Ref.Fl) (i p:Nat) (a b:Nat) (q r:Mil.E) (hn:ns[i]?=some ⟨7,Mil.wFby,p,0,false,a,b,0⟩) (ha:YR B ub g iv nv fv tv ns I F q a) (hb:YR B ub g iv nv fv tv ns I F r b):YR B ub g iv nv fv tv ns I F (Mil.eFby q r) i:=by
 intro hcl
 intro w h
 have HP:=hid h
 have hl:=(lgs hn).1
 have i1:(0:Int)<=(i:Int):=by omega
 have i2:(i:Int) < (ns.length:Int):=by omega
 obtain⟨k,cp,hv,c0,c1,c2,c3,c4,c5,c6,c7⟩:=h.pi.pm.node8 hn
 have d0:=h.cells.1
 have d1:=h.pi.pm.cells.2
 rw[hv] at d1
 have HB0:=bRow w #[.int .i64 ((7:Nat):Int),.string (bs Mil.wFby),.int .i64 (p:Nat),.int .i64 ((0:Nat):Int),.bool false,.int .i64 ((a:Nat):Int),.int .i64 ((b:Nat):Int),.int .i64 ((0:Nat):Int)] 195
 have NC:=ncRow w #[.int .i64 ((7:Nat):Int),.string (bs Mil.wFby),.int .i64 (p:Nat),.int .i64 ((0:Nat):Int),.bool false,.int .i64 ((a:Nat):Int),.int .i64 ((b:Nat):Int),.int .i64 ((0:Nat):Int)] 195
 clear hv h hn hl
 have HA:=ha ((Ref.closed_two (by decide)).1 hcl).1
 have HB:=hb ((Ref.closed_two (by decide)).1 hcl).2
 have HHA:=hid HA
 have HHB:=hid HB
 clear ha hb hcl HA HB
 go_enter Tryz.func103,Tryz.ntmps103
 go_wp2_with fail
 clear c0 c1 c2 c3 c4 c5 c6 c7 d0 d1 i1 i2
 have HP0:=hid (HP.out.below HB0.out)
 generalize hW:w.alloc (.cells #[.int .i64 ((7:Nat):Int),.string (bs Mil.wFby),.int .i64 (p:Nat),.int .i64 ((0:Nat):Int),.bool false,.int .i64 ((a:Nat):Int),.int .i64 ((b:Nat):Int),.int .i64 ((0:Nat):Int)] 195)=W at HB0 NC HP0 ⊢
 have BW:Hid (Below W.heap.size W W):=Below.refl _ _
 clear hW
 refine (HHA.out _ (HP0.out.below BW.out)).mono ?_
 rintro r w1 ⟨⟨t1,z1,rfl⟩,hb⟩
 have Bw1:=hid (below_step BW.out hb)
 clear hb
 have f6:w1.cell? ⟨w.heap.size,6,none⟩=some (.int .i64 (b:Nat)):=NC.out w1 Bw1.out 6
 by_cases h1:(0:Int)<=z1
 ·have e1:((0:Int)<=z1)=True:=by simp;omega
  clear h1
  go_wp2_with fail
  all_goals go_ret2
  exact⟨⟨_,_,rfl⟩,below_step HB0.out Bw1.out⟩
 have e1:((0:Int)<=z1)=False:=by simp;omega
 clear h1
 go_wp2_with fail
 clear f6
 refine (HHB.out _ (HP0.out.below Bw1.out)).mono ?_
 rintro r w2 ⟨⟨t2,z2,rfl⟩,hb⟩
 have Bw2:=hid (below_step Bw1.out hb)
 clear hb
 by_cases h2:(0:Int)<=z2
 ·have e2:((0:Int)<=z2)=True:=by simp;omega
  clear h2
  go_wp2_with fail
  all_goals go_ret2
  exact⟨⟨_,_,rfl⟩,below_step HB0.out Bw2.out⟩
 have e2:((0:Int)<=z2)=False:=by simp;omega
 clear h2
 have f1:w2.cell? ⟨w.heap.size,1,none⟩=some (.string (bs Mil.wFby)):=NC.out w2 Bw2.out 1
 have f0:w2.cell? ⟨w.heap.size,0,none⟩=some (.int .i64 7):=NC.out w2 Bw2.out 0
 have f2:w2.cell? ⟨w.heap.size,2,none⟩=some (.int .i64 (p:Nat)):=NC.out w2 Bw2.out 2
 go_wp2_with fail
 refine (level_any Mil.wFby _).mono ?_
 rintro r w3 ⟨rfl,hw⟩
 have hw':=hw.symm
 clear hw
 subst hw'
 generalize Ref.level Mil.wFby=lv
 rcases three ((bs Mil.wFby).toList==[61,61]) ((bs Mil.wFby).toList==[33,61]) with q1|⟨q1,q2⟩|⟨q1,q2⟩
 all_goals go_wp2
 all_goals (first|(go_ret2;exact⟨⟨_,_,rfl⟩,below_step HB0.out Bw2.out⟩)|(go_region;all_goals go_wp2;all_goals go_ret2;all_goals exact⟨⟨_,_,rfl⟩,below_step HB0.out Bw2.out.drew⟩))
theorem yr_hold (B ub g:Nat) (iv nv fv tv:Value) (ns:List Ref.Nd) (I:List Iw) (F:List Ref.Fl) (i p:Nat) (v a b:Nat) (q r:Mil.E) (hn:ns[i]?=some ⟨9,Mil.wHold,p,v,false,a,b,0⟩) (ha:YR B ub g iv nv fv tv ns I F q a) (hb:YR B ub g iv nv fv tv ns I F r b):YR B ub g iv nv fv tv ns I F (Mil.eHold q r v) i:=by
 intro hcl
 intro w h
 have HP:=hid h
 have hl:=(lgs hn).1
 have i1:(0:Int)<=(i:Int):=by omega
 have i2:(i:Int) < (ns.length:Int):=by omega
 obtain⟨k,cp,hv,c0,c1,c2,c3,c4,c5,c6,c7⟩:=h.pi.pm.node8 hn
 have d0:=h.cells.1
 have d1:=h.pi.pm.cells.2
 rw[hv] at d1
 have HB0:=bRow w #[.int .i64 ((9:Nat):Int),.string (bs Mil.wHold),.int .i64 (p:Nat),.int .i64 ((v:Nat):Int),.bool false,.int .i64 ((a:Nat):Int),.int .i64 ((b:Nat):Int),.int .i64 ((0:Nat):Int)] 195
 have NC:=ncRow w #[.int .i64 ((9:Nat):Int),.string (bs Mil.wHold),.int .i64 (p:Nat),.int .i64 ((v:Nat):Int),.bool false,.int .i64 ((a:Nat):Int),.int .i64 ((b:Nat):Int),.int .i64 ((0:Nat):Int)] 195
 clear hv h hn hl
 have HA:=ha ((Ref.closed_two (by decide)).1 hcl).1
 have HB:=hb ((Ref.closed_two (by decide)).1 hcl).2
 have HHA:=hid HA
 have HHB:=hid HB
 clear ha hb hcl HA HB
 go_enter Tryz.func103,Tryz.ntmps103
 go_wp2_with fail
 clear c0 c1 c2 c3 c4 c5 c6 c7 d0 d1 i1 i2
 have HP0:=hid (HP.out.below HB0.out)
 generalize hW:w.alloc (.cells #[.int .i64 ((9:Nat):Int),.string (bs Mil.wHold),.int .i64 (p:Nat),.int .i64 ((v:Nat):Int),.bool false,.int .i64 ((a:Nat):Int),.int .i64 ((b:Nat):Int),.int .i64 ((0:Nat):Int)] 195)=W at HB0 NC HP0 ⊢
 have BW:Hid (Below W.heap.size W W):=Below.refl _ _
 clear hW
 refine (HHA.out _ (HP0.out.below BW.out)).mono ?_
 rintro r w1 ⟨⟨t1,z1,rfl⟩,hb⟩
 have Bw1:=hid (below_step BW.out hb)
 clear hb
 have f6:w1.cell? ⟨w.heap.size,6,none⟩=some (.int .i64 (b:Nat)):=NC.out w1 Bw1.out 6
 by_cases h1:(0:Int)<=z1
 ·have e1:((0:Int)<=z1)=True:=by simp;omega
  clear h1
  go_wp2_with fail
  all_goals go_ret2
  exact⟨⟨_,_,rfl⟩,below_step HB0.out Bw1.out⟩
 have e1:((0:Int)<=z1)=False:=by simp;omega
 clear h1
 go_wp2_with fail
 clear f6
 refine (HHB.out _ (HP0.out.below Bw1.out)).mono ?_
 rintro r w2 ⟨⟨t2,z2,rfl⟩,hb⟩
 have Bw2:=hid (below_step Bw1.out hb)
 clear hb
 by_cases h2:(0:Int)<=z2
 ·have e2:((0:Int)<=z2)=True:=by simp;omega
  clear h2
  go_wp2_with fail
  all_goals go_ret2
  exact⟨⟨_,_,rfl⟩,below_step HB0.out Bw2.out⟩
 have e2:((0:Int)<=z2)=False:=by simp;omega
 clear h2
 have f1:w2.cell? ⟨w.heap.size,1,none⟩=some (.string (bs Mil.wHold)):=NC.out w2 Bw2.out 1
 have f0:w2.cell? ⟨w.heap.size,0,none⟩=some (.int .i64 9):=NC.out w2 Bw2.out 0
 have f2:w2.cell? ⟨w.heap.size,2,none⟩=some (.int .i64 (p:Nat)):=NC.out w2 Bw2.out 2
 go_wp2_with fail
 refine (level_any Mil.wHold _).mono ?_
 rintro r w3 ⟨rfl,hw⟩
 have hw':=hw.symm
 clear hw
 subst hw'
 generalize Ref.level Mil.wHold=lv
 rcases three ((bs Mil.wHold).toList==[61,61]) ((bs Mil.wHold).toList==[33,61]) with q1|⟨q1,q2⟩|⟨q1,q2⟩
 all_goals go_wp2
 all_goals (first|(go_ret2;exact⟨⟨_,_,rfl⟩,below_step HB0.out Bw2.out⟩)|(go_region;all_goals go_wp2;all_goals go_ret2;all_goals exact⟨⟨_,_,rfl⟩,below_step HB0.out Bw2.out.drew⟩))
theorem yr_if (B ub g:Nat) (iv nv fv tv:Value) (ns:List Ref.Nd) (I:List Iw) (F:List Ref.Fl) (i p:Nat) (a b c:Nat) (q r u:Mil.E) (hn:ns[i]?=some ⟨6,Mil.wIf,p,0,false,a,b,c⟩) (ha:YR B ub g iv nv fv tv ns I F q a) (hb:YR B ub g iv nv fv tv ns I F r b) (hc:YR B ub g iv nv fv tv ns I F u c):YR B ub g iv nv fv tv ns I F (Mil.eIf q r u) i:=by
 intro hcl
 intro w h
 have HP:=hid h
 have hl:=(lgs hn).1
 have i1:(0:Int)<=(i:Int):=by omega
 have i2:(i:Int) < (ns.length:Int):=by omega
 obtain⟨k,cp,hv,c0,c1,c2,c3,c4,c5,c6,c7⟩:=h.pi.pm.node8 hn
 have d0:=h.cells.1
 have d1:=h.pi.pm.cells.2
 rw[hv] at d1
 have HB0:=bRow w #[.int .i64 ((6:Nat):Int),.string (bs Mil.wIf),.int .i64 (p:Nat),.int .i64 ((0:Nat):Int),.bool false,.int .i64 ((a:Nat):Int),.int .i64 ((b:Nat):Int),.int .i64 ((c:Nat):Int)] 195
 have NC:=ncRow w #[.int .i64 ((6:Nat):Int),.string (bs Mil.wIf),.int .i64 (p:Nat),.int .i64 ((0:Nat):Int),.bool false,.int .i64 ((a:Nat):Int),.int .i64 ((b:Nat):Int),.int .i64 ((c:Nat):Int)] 195
 clear hv h hn hl
 have H2:=(Ref.closed_two (by decide)).1 hcl
 have H3:=(Ref.closed_two (by decide)).1 H2.2
 have HHA:Hid (∀w,UM B ub g iv nv fv tv ns I F w->_):=ha H2.1
 have HHB:Hid (∀w,UM B ub g iv nv fv tv ns I F w->_):=hb H3.1
 have HHC:Hid (∀w,UM B ub g iv nv fv tv ns I F w->_):=hc H3.2
 clear ha hb hc hcl H2 H3
 go_enter Tryz.func103,Tryz.ntmps103
 go_wp2_with fail
 clear c0 c1 c2 c3 c4 c5 c6 c7 d0 d1 i1 i2
 have HP0:=hid (HP.out.below HB0.out)
 generalize hW:w.alloc (.cells #[.int .i64 ((6:Nat):Int),.string (bs Mil.wIf),.int .i64 (p:Nat),.int .i64 ((0:Nat):Int),.bool false,.int .i64 ((a:Nat):Int),.int .i64 ((b:Nat):Int),.int .i64 ((c:Nat):Int)] 195)=W at HB0 NC HP0 ⊢
 have BW:Hid (Below W.heap.size W W):=Below.refl _ _
 clear hW
 refine (HHA.out _ (HP0.out.below BW.out)).mono ?_
 rintro r w1 ⟨⟨t1,z1,rfl⟩,hb⟩
 have Bw1:=hid (below_step BW.out hb)
 clear hb
 have f6:w1.cell? ⟨w.heap.size,6,none⟩=some (.int .i64 (b:Nat)):=NC.out w1 Bw1.out 6
 by_cases h1:(0:Int)<=z1
 ·have e1:((0:Int)<=z1)=True:=by simp;omega
  clear h1
  go_wp2_with fail
  all_goals go_ret2
  exact⟨⟨_,_,rfl⟩,below_step HB0.out Bw1.out⟩
 have e1:((0:Int)<=z1)=False:=by simp;omega
 clear h1
 go_wp2_with fail
 clear f6
 refine (HHB.out _ (HP0.out.below Bw1.out)).mono ?_
 rintro r w2 ⟨⟨t2,z2,rfl⟩,hb⟩
 have Bw2:=hid (below_step Bw1.out hb)
 clear hb
 by_cases h2:(0:Int)<=z2
 ·have e2:((0:Int)<=z2)=True:=by simp;omega
  clear h2
  go_wp2_with fail
  all_goals go_ret2
  exact⟨⟨_,_,rfl⟩,below_step HB0.out Bw2.out⟩
 have e2:((0:Int)<=z2)=False:=by simp;omega
 clear h2
 have f1:w2.cell? ⟨w.heap.size,1,none⟩=some (.string (bs Mil.wIf)):=NC.out w2 Bw2.out 1
 have f0:w2.cell? ⟨w.heap.size,0,none⟩=some (.int .i64 6):=NC.out w2 Bw2.out 0
 have f7:w2.cell? ⟨w.heap.size,7,none⟩=some (.int .i64 (c:Nat)):=NC.out w2 Bw2.out 7
 go_wp2_with fail
 refine (level_any Mil.wIf _).mono ?_
 rintro r w3 ⟨rfl,hw⟩
 have hw':=hw.symm
 clear hw
 subst hw'
 generalize Ref.level Mil.wIf=lv
 go_wp2_with fail
 clear f0 f1 f7
 refine (HHC.out _ (HP0.out.below Bw2.out)).mono ?_
 rintro r w3 ⟨⟨t3,z3,rfl⟩,hb⟩
 have Bw3:=hid (below_step Bw2.out hb)
 clear hb
 have f2:w3.cell? ⟨w.heap.size,2,none⟩=some (.int .i64 (p:Nat)):=NC.out w3 Bw3.out 2
 rcases three (t1 != 1) (t2 != t3) with q1|⟨q1,q2⟩|⟨q1,q2⟩
 all_goals go_wp2
 all_goals (first|(go_ret2;exact⟨⟨_,_,rfl⟩,below_step HB0.out Bw3.out⟩)|(go_region;all_goals go_wp2;all_goals go_ret2;all_goals exact⟨⟨_,_,rfl⟩,below_step HB0.out Bw3.out.drew⟩))
theorem typed_all (B ub g:Nat) (iv nv fv tv:Value) (ns:List Ref.Nd) (I:List Iw) (F:List Ref.Fl) (hF:F.length<=4000):∀e,Mil.wf e false->∀i,Ref.Has ns e i->YR B ub g iv nv fv tv ns I F e i:=
 Ref.tree_induct (fun e i p v ng hn _=>yr_num B ub g iv nv fv tv ns I F i p v ng e hn) (fun i p v hn=>yr_bool B ub g iv nv fv tv ns I F i p v hn) (fun i p x hn=>yr_name B ub g iv nv fv tv ns I F i p x hn hF)
  (fun i p y a a' hn _ ha=>yr_pre B ub g iv nv fv tv ns I F i p a' y a hn ha) (fun i p v a a' hn _ _ ha=>yr_under B ub g iv nv fv tv ns I F i p v a' a hn ha)
  (fun i p a b a' b' hn _ ha hb=>yr_fby B ub g iv nv fv tv ns I F i p a' b' a b hn ha hb) (fun i p v a b a' b' hn _ _ _ ha hb=>yr_hold B ub g iv nv fv tv ns I F i p v a' b' a b hn ha hb)
  (fun i p y a b a' b' hn _ ha hb=>yr_two B ub g iv nv fv tv ns I F i p a' b' y a b hn ha hb) (fun i p y a b a' b' hn _ ha hb=>yr_least B ub g iv nv fv tv ns I F i p a' b' y a b hn ha hb)
  (fun i p a b c a' b' c' hn ha hb hc=>yr_if B ub g iv nv fv tv ns I F i p a' b' c' a b c hn ha hb hc)
end
end Go.Proofs.YtoiajojadihpbaaGreatDoor
