import Derived.Test.YtoiajojadihpbaaGreatDoorQt41
namespace Go.Proofs.YtoiajojadihpbaaGreatDoor
set_option maxHeartbeats 8000000
set_option maxRecDepth 100000
section
open Go.RowKit
def NR (B ub g:Nat) (iv nv fv tv:Value) (ns:List Ref.Nd) (I:List Iw) (F:List Ref.Fl) (e:Mil.E) (i:Nat):Prop:=∀w,UM B ub g iv nv fv tv ns I F w->Calls Tryz.prog 102 #[.pointer (some ⟨ub,0,none⟩),.int .i64 (i:Nat)] w fun r w'=>(∃z:Int,r=.returned (.int .i64 z)/\(z < 0->Ref.Closed F e))/\Below w.heap.size w w'
theorem nr_num (B ub g:Nat) (iv nv fv tv:Value) (ns:List Ref.Nd) (I:List Iw) (F:List Ref.Fl) (i p:Nat) (v:Nat) (ng:Bool) (e:Mil.E) (hn:ns[i]?=some ⟨1,[],p,v,ng,0,0,0⟩) (he:Ref.Closed F e):NR B ub g iv nv fv tv ns I F e i:=by
 intro w h
 have HP:=hid h
 have hl:=(lgs hn).1
 have i1:(0:Int)<=(i:Int):=by omega
 have i2:(i:Int) < (ns.length:Int):=by omega
 obtain⟨k,cp,hv,c0,c1,c2,c3,c4,c5,c6,c7⟩:=h.pi.pm.node8 hn
 have d0:=h.cells.1
 have d1:=h.pi.pm.cells.2
 rw[hv] at d1
 have HB0:=bRow w #[.int .i64 ((1:Nat):Int),.string (bs []),.int .i64 (p:Nat),.int .i64 ((v:Nat):Int),.bool ng,.int .i64 ((0:Nat):Int),.int .i64 ((0:Nat):Int),.int .i64 ((0:Nat):Int)] 195
 have NC:=ncRow w #[.int .i64 ((1:Nat):Int),.string (bs []),.int .i64 (p:Nat),.int .i64 ((v:Nat):Int),.bool ng,.int .i64 ((0:Nat):Int),.int .i64 ((0:Nat):Int),.int .i64 ((0:Nat):Int)] 195
 clear hv h hn hl
 go_enter Tryz.func102,Tryz.ntmps102
 go_wp2_with fail
 all_goals go_ret
 exact⟨⟨-1,rfl,fun _=>he⟩,HB0.out⟩
theorem nr_bool (B ub g:Nat) (iv nv fv tv:Value) (ns:List Ref.Nd) (I:List Iw) (F:List Ref.Fl) (i p:Nat) (v:Nat) (hn:ns[i]?=some ⟨2,[],p,v,false,0,0,0⟩):NR B ub g iv nv fv tv ns I F (Mil.eBool v) i:=by
 intro w h
 have HP:=hid h
 have hl:=(lgs hn).1
 have i1:(0:Int)<=(i:Int):=by omega
 have i2:(i:Int) < (ns.length:Int):=by omega
 obtain⟨k,cp,hv,c0,c1,c2,c3,c4,c5,c6,c7⟩:=h.pi.pm.node8 hn
 have d0:=h.cells.1
 have d1:=h.pi.pm.cells.2
 rw[hv] at d1
 have HB0:=bRow w #[.int .i64 ((2:Nat):Int),.string (bs []),.int .i64 (p:Nat),.int .i64 ((v:Nat):Int),.bool false,.int .i64 ((0:Nat):Int),.int .i64 ((0:Nat):Int),.int .i64 ((0:Nat):Int)] 195
 have NC:=ncRow w #[.int .i64 ((2:Nat):Int),.string (bs []),.int .i64 (p:Nat),.int .i64 ((v:Nat):Int),.bool false,.int .i64 ((0:Nat):Int),.int .i64 ((0:Nat):Int),.int .i64 ((0:Nat):Int)] 195
 clear hv h hn hl
 go_enter Tryz.func102,Tryz.ntmps102
 go_wp2_with fail
 all_goals go_ret
 exact⟨⟨-1,rfl,fun _=>(by intro x hx;simp[Ref.namesIn,Mil.eBool] at hx)⟩,HB0.out⟩
theorem nr_name (B ub g:Nat) (iv nv fv tv:Value) (ns:List Ref.Nd) (I:List Iw) (F:List Ref.Fl) (i p:Nat) (x:Mil.Bytes) (hn:ns[i]?=some ⟨3,x,p,0,false,0,0,0⟩) (hF:F.length<=4000):NR B ub g iv nv fv tv ns I F (Mil.eName x) i:=by
 intro w h
 have HP:=hid h
 have hl:=(lgs hn).1
 have i1:(0:Int)<=(i:Int):=by omega
 have i2:(i:Int) < (ns.length:Int):=by omega
 obtain⟨k,cp,hv,c0,c1,c2,c3,c4,c5,c6,c7⟩:=h.pi.pm.node8 hn
 have d0:=h.cells.1
 have d1:=h.pi.pm.cells.2
 rw[hv] at d1
 have HB0:=bRow w #[.int .i64 ((3:Nat):Int),.string (bs x),.int .i64 (p:Nat),.int .i64 ((0:Nat):Int),.bool false,.int .i64 ((0:Nat):Int),.int .i64 ((0:Nat):Int),.int .i64 ((0:Nat):Int)] 195
 have NC:=ncRow w #[.int .i64 ((3:Nat):Int),.string (bs x),.int .i64 (p:Nat),.int .i64 ((0:Nat):Int),.bool false,.int .i64 ((0:Nat):Int),.int .i64 ((0:Nat):Int),.int .i64 ((0:Nat):Int)] 195
 clear hv h hn hl
 go_enter Tryz.func102,Tryz.ntmps102
 go_wp2_with fail
 clear c0 c1 c2 c3 c4 c5 c6 c7 d0 d1 i1 i2
 have HP0:=hid (HP.out.below HB0.out)
 generalize hW:w.alloc (.cells #[.int .i64 ((3:Nat):Int),.string (bs x),.int .i64 (p:Nat),.int .i64 ((0:Nat):Int),.bool false,.int .i64 ((0:Nat):Int),.int .i64 ((0:Nat):Int),.int .i64 ((0:Nat):Int)] 195)=W at HB0 NC HP0 ⊢
 have BW:Hid (Below W.heap.size W W):=Below.refl _ _
 clear hW
 refine (find_any B ub g iv nv fv tv ns I F hF x _ HP0.out).mono ?_
 rintro r w1 ⟨rfl,hb⟩
 have Bw1:=hid hb
 clear hb
 have f2:w1.cell? ⟨w.heap.size,2,none⟩=some (.int .i64 (p:Nat)):=NC.out w1 Bw1.out 2
 cases hf:Ref.fnd F x with
 | none=>
  have e:Ref.fndI F x=-1:=by unfold Ref.fndI;rw[hf]
  rw[e]
  go_wp2_with fail
  all_goals go_ret
  exact⟨⟨(p:Nat),rfl,fun h=>by omega⟩,below_step HB0.out Bw1.out⟩
 | some j=>
  have e:Ref.fndI F x=(j:Int):=by unfold Ref.fndI;rw[hf]
  have q:((j:Int) < 0)=False:=by simp
  have HF:=hid hf
  rw[e]
  clear hf e
  go_wp2_with fail
  all_goals go_ret
  refine⟨⟨-1,rfl,fun _=>?_⟩,below_step HB0.out Bw1.out⟩
  intro y hy
  have:y=x:=by simpa [Ref.namesIn,Mil.eName] using hy
  rw[this,HF.out];exact fun h=>by cases h
theorem nr_pre (B ub g:Nat) (iv nv fv tv:Value) (ns:List Ref.Nd) (I:List Iw) (F:List Ref.Fl) (i p:Nat) (a:Nat) (y:Mil.Bytes) (q:Mil.E) (hn:ns[i]?=some ⟨4,y,p,0,false,a,0,0⟩) (ha:NR B ub g iv nv fv tv ns I F q a):NR B ub g iv nv fv tv ns I F (Mil.ePre y q) i:=by
 intro w h
 have HP:=hid h
 have hl:=(lgs hn).1
 have i1:(0:Int)<=(i:Int):=by omega
 have i2:(i:Int) < (ns.length:Int):=by omega
 obtain⟨k,cp,hv,c0,c1,c2,c3,c4,c5,c6,c7⟩:=h.pi.pm.node8 hn
 have d0:=h.cells.1
 have d1:=h.pi.pm.cells.2
 rw[hv] at d1
 have HB0:=bRow w #[.int .i64 ((4:Nat):Int),.string (bs y),.int .i64 (p:Nat),.int .i64 ((0:Nat):Int),.bool false,.int .i64 ((a:Nat):Int),.int .i64 ((0:Nat):Int),.int .i64 ((0:Nat):Int)] 195
 have NC:=ncRow w #[.int .i64 ((4:Nat):Int),.string (bs y),.int .i64 (p:Nat),.int .i64 ((0:Nat):Int),.bool false,.int .i64 ((a:Nat):Int),.int .i64 ((0:Nat):Int),.int .i64 ((0:Nat):Int)] 195
 clear hv h hn hl
 have HA:=hid ha
 clear ha
 go_enter Tryz.func102,Tryz.ntmps102
 go_wp2_with fail
 clear c0 c1 c2 c3 c4 c5 c6 c7 d0 d1 i1 i2
 have HP0:=hid (HP.out.below HB0.out)
 generalize hW:w.alloc (.cells #[.int .i64 ((4:Nat):Int),.string (bs y),.int .i64 (p:Nat),.int .i64 ((0:Nat):Int),.bool false,.int .i64 ((a:Nat):Int),.int .i64 ((0:Nat):Int),.int .i64 ((0:Nat):Int)] 195)=W at HB0 NC HP0 ⊢
 have BW:Hid (Below W.heap.size W W):=Below.refl _ _
 clear hW
 refine (HA.out _ (HP0.out.below BW.out)).mono ?_
 rintro r w1 ⟨⟨z1,rfl,hz1⟩,hb⟩
 have Bw1:=hid (below_step BW.out hb)
 have Hz1:=hid hz1
 clear hb hz1
 go_wp2_with fail
 all_goals go_ret
 exact⟨⟨z1,rfl,fun h=>(Ref.closed_two (by decide)).2 ⟨Hz1.out h,Ref.closed_nil⟩⟩,below_step HB0.out Bw1.out⟩
theorem nr_under (B ub g:Nat) (iv nv fv tv:Value) (ns:List Ref.Nd) (I:List Iw) (F:List Ref.Fl) (i p:Nat) (v a:Nat) (q:Mil.E) (hn:ns[i]?=some ⟨8,Mil.wUnder,p,v,false,a,0,0⟩) (ha:NR B ub g iv nv fv tv ns I F q a):NR B ub g iv nv fv tv ns I F (Mil.eUnder q v) i:=by
 intro w h
 have HP:=hid h
 have hl:=(lgs hn).1
 have i1:(0:Int)<=(i:Int):=by omega
 have i2:(i:Int) < (ns.length:Int):=by omega
 obtain⟨k,cp,hv,c0,c1,c2,c3,c4,c5,c6,c7⟩:=h.pi.pm.node8 hn
 have d0:=h.cells.1
 have d1:=h.pi.pm.cells.2
 rw[hv] at d1
 have HB0:=bRow w #[.int .i64 ((8:Nat):Int),.string (bs Mil.wUnder),.int .i64 (p:Nat),.int .i64 ((v:Nat):Int),.bool false,.int .i64 ((a:Nat):Int),.int .i64 ((0:Nat):Int),.int .i64 ((0:Nat):Int)] 195
 have NC:=ncRow w #[.int .i64 ((8:Nat):Int),.string (bs Mil.wUnder),.int .i64 (p:Nat),.int .i64 ((v:Nat):Int),.bool false,.int .i64 ((a:Nat):Int),.int .i64 ((0:Nat):Int),.int .i64 ((0:Nat):Int)] 195
 clear hv h hn hl
 have HA:=hid ha
 clear ha
 go_enter Tryz.func102,Tryz.ntmps102
 go_wp2_with fail
 clear c0 c1 c2 c3 c4 c5 c6 c7 d0 d1 i1 i2
 have HP0:=hid (HP.out.below HB0.out)
 generalize hW:w.alloc (.cells #[.int .i64 ((8:Nat):Int),.string (bs Mil.wUnder),.int .i64 (p:Nat),.int .i64 ((v:Nat):Int),.bool false,.int .i64 ((a:Nat):Int),.int .i64 ((0:Nat):Int),.int .i64 ((0:Nat):Int)] 195)=W at HB0 NC HP0 ⊢
 have BW:Hid (Below W.heap.size W W):=Below.refl _ _
 clear hW
 refine (HA.out _ (HP0.out.below BW.out)).mono ?_
 rintro r w1 ⟨⟨z1,rfl,hz1⟩,hb⟩
 have Bw1:=hid (below_step BW.out hb)
 have Hz1:=hid hz1
 clear hb hz1
 go_wp2_with fail
 all_goals go_ret
 exact⟨⟨z1,rfl,fun h=>(Ref.closed_two (by decide)).2 ⟨Hz1.out h,Ref.closed_nil⟩⟩,below_step HB0.out Bw1.out⟩
theorem nr_fby (B ub g:Nat) (iv nv fv tv:Value) (ns:List Ref.Nd) (I:List Iw) (F:List Ref.Fl) (i p:Nat) (a b:Nat) (q r:Mil.E) (hn:ns[i]?=some ⟨7,Mil.wFby,p,0,false,a,b,0⟩) (hc:Mil.isConst q) (ha:NR B ub g iv nv fv tv ns I F r b):NR B ub g iv nv fv tv ns I F (Mil.eFby q r) i:=by
 intro w h
 have HP:=hid h
 have hl:=(lgs hn).1
 have i1:(0:Int)<=(i:Int):=by omega
 have i2:(i:Int) < (ns.length:Int):=by omega
 obtain⟨k,cp,hv,c0,c1,c2,c3,c4,c5,c6,c7⟩:=h.pi.pm.node8 hn
 have d0:=h.cells.1
 have d1:=h.pi.pm.cells.2
 rw[hv] at d1
 have HB0:=bRow w #[.int .i64 ((7:Nat):Int),.string (bs Mil.wFby),.int .i64 (p:Nat),.int .i64 ((0:Nat):Int),.bool false,.int .i64 ((a:Nat):Int),.int .i64 ((b:Nat):Int),.int .i64 ((0:Nat):Int)] 195
 have NC:=ncRow w #[.int .i64 ((7:Nat):Int),.string (bs Mil.wFby),.int .i64 (p:Nat),.int .i64 ((0:Nat):Int),.bool false,.int .i64 ((a:Nat):Int),.int .i64 ((b:Nat):Int),.int .i64 ((0:Nat):Int)] 195
 clear hv h hn hl
 have HA:=hid ha
 have HC:=hid hc
 clear ha hc
 go_enter Tryz.func102,Tryz.ntmps102
 go_wp2_with fail
 clear c0 c1 c2 c3 c4 c5 c6 c7 d0 d1 i1 i2
 have HP0:=hid (HP.out.below HB0.out)
 generalize hW:w.alloc (.cells #[.int .i64 ((7:Nat):Int),.string (bs Mil.wFby),.int .i64 (p:Nat),.int .i64 ((0:Nat):Int),.bool false,.int .i64 ((a:Nat):Int),.int .i64 ((b:Nat):Int),.int .i64 ((0:Nat):Int)] 195)=W at HB0 NC HP0 ⊢
 have BW:Hid (Below W.heap.size W W):=Below.refl _ _
 clear hW
 refine (HA.out _ (HP0.out.below BW.out)).mono ?_
 rintro r w1 ⟨⟨z1,rfl,hz1⟩,hb⟩
 have Bw1:=hid (below_step BW.out hb)
 have Hz1:=hid hz1
 clear hb hz1
 go_wp2_with fail
 all_goals go_ret
 exact⟨⟨z1,rfl,fun h=>(Ref.closed_two (by decide)).2 ⟨Ref.closed_const HC.out,Hz1.out h⟩⟩,below_step HB0.out Bw1.out⟩
theorem nr_hold (B ub g:Nat) (iv nv fv tv:Value) (ns:List Ref.Nd) (I:List Iw) (F:List Ref.Fl) (i p:Nat) (v a b:Nat) (q r:Mil.E) (hn:ns[i]?=some ⟨9,Mil.wHold,p,v,false,a,b,0⟩) (hc:Mil.isConst q) (ha:NR B ub g iv nv fv tv ns I F r b):NR B ub g iv nv fv tv ns I F (Mil.eHold q r v) i:=by
 intro w h
 have HP:=hid h
 have hl:=(lgs hn).1
 have i1:(0:Int)<=(i:Int):=by omega
 have i2:(i:Int) < (ns.length:Int):=by omega
 obtain⟨k,cp,hv,c0,c1,c2,c3,c4,c5,c6,c7⟩:=h.pi.pm.node8 hn
 have d0:=h.cells.1
 have d1:=h.pi.pm.cells.2
 rw[hv] at d1
 have HB0:=bRow w #[.int .i64 ((9:Nat):Int),.string (bs Mil.wHold),.int .i64 (p:Nat),.int .i64 ((v:Nat):Int),.bool false,.int .i64 ((a:Nat):Int),.int .i64 ((b:Nat):Int),.int .i64 ((0:Nat):Int)] 195
 have NC:=ncRow w #[.int .i64 ((9:Nat):Int),.string (bs Mil.wHold),.int .i64 (p:Nat),.int .i64 ((v:Nat):Int),.bool false,.int .i64 ((a:Nat):Int),.int .i64 ((b:Nat):Int),.int .i64 ((0:Nat):Int)] 195
 clear hv h hn hl
 have HA:=hid ha
 have HC:=hid hc
 clear ha hc
 go_enter Tryz.func102,Tryz.ntmps102
 go_wp2_with fail
 clear c0 c1 c2 c3 c4 c5 c6 c7 d0 d1 i1 i2
 have HP0:=hid (HP.out.below HB0.out)
 generalize hW:w.alloc (.cells #[.int .i64 ((9:Nat):Int),.string (bs Mil.wHold),.int .i64 (p:Nat),.int .i64 ((v:Nat):Int),.bool false,.int .i64 ((a:Nat):Int),.int .i64 ((b:Nat):Int),.int .i64 ((0:Nat):Int)] 195)=W at HB0 NC HP0 ⊢
 have BW:Hid (Below W.heap.size W W):=Below.refl _ _
 clear hW
 refine (HA.out _ (HP0.out.below BW.out)).mono ?_
 rintro r w1 ⟨⟨z1,rfl,hz1⟩,hb⟩
 have Bw1:=hid (below_step BW.out hb)
 have Hz1:=hid hz1
 clear hb hz1
 go_wp2_with fail
 all_goals go_ret
 exact⟨⟨z1,rfl,fun h=>(Ref.closed_two (by decide)).2 ⟨Ref.closed_const HC.out,Hz1.out h⟩⟩,below_step HB0.out Bw1.out⟩
theorem nr_two (B ub g:Nat) (iv nv fv tv:Value) (ns:List Ref.Nd) (I:List Iw) (F:List Ref.Fl) (i p:Nat) (a b:Nat) (y:Mil.Bytes) (q r:Mil.E) (hn:ns[i]?=some ⟨5,y,p,0,false,a,b,0⟩) (ha:NR B ub g iv nv fv tv ns I F q a) (hb:NR B ub g iv nv fv tv ns I F r b):NR B ub g iv nv fv tv ns I F (Mil.eTwo y q r) i:=by
 intro w h
 have HP:=hid h
 have hl:=(lgs hn).1
 have i1:(0:Int)<=(i:Int):=by omega
 have i2:(i:Int) < (ns.length:Int):=by omega
 obtain⟨k,cp,hv,c0,c1,c2,c3,c4,c5,c6,c7⟩:=h.pi.pm.node8 hn
 have d0:=h.cells.1
 have d1:=h.pi.pm.cells.2
 rw[hv] at d1
 have HB0:=bRow w #[.int .i64 ((5:Nat):Int),.string (bs y),.int .i64 (p:Nat),.int .i64 ((0:Nat):Int),.bool false,.int .i64 ((a:Nat):Int),.int .i64 ((b:Nat):Int),.int .i64 ((0:Nat):Int)] 195
 have NC:=ncRow w #[.int .i64 ((5:Nat):Int),.string (bs y),.int .i64 (p:Nat),.int .i64 ((0:Nat):Int),.bool false,.int .i64 ((a:Nat):Int),.int .i64 ((b:Nat):Int),.int .i64 ((0:Nat):Int)] 195
 clear hv h hn hl
 have HA:=hid ha
 have HB:=hid hb
 clear ha hb
 go_enter Tryz.func102,Tryz.ntmps102
 go_wp2_with fail
 clear c0 c1 c2 c3 c4 c5 c6 c7 d0 d1 i1 i2
 have HP0:=hid (HP.out.below HB0.out)
 generalize hW:w.alloc (.cells #[.int .i64 ((5:Nat):Int),.string (bs y),.int .i64 (p:Nat),.int .i64 ((0:Nat):Int),.bool false,.int .i64 ((a:Nat):Int),.int .i64 ((b:Nat):Int),.int .i64 ((0:Nat):Int)] 195)=W at HB0 NC HP0 ⊢
 have BW:Hid (Below W.heap.size W W):=Below.refl _ _
 clear hW
 refine (HA.out _ (HP0.out.below BW.out)).mono ?_
 rintro r w1 ⟨⟨z1,rfl,hz1⟩,hb⟩
 have Bw1:=hid (below_step BW.out hb)
 have Hz1:=hid hz1
 clear hb hz1
 have f6:w1.cell? ⟨w.heap.size,6,none⟩=some (.int .i64 (b:Nat)):=NC.out w1 Bw1.out 6
 go_wp2_with fail
 clear f6
 refine (HB.out _ (HP0.out.below Bw1.out)).mono ?_
 rintro r w2 ⟨⟨z2,rfl,hz2⟩,hb⟩
 have Bw2:=hid (below_step Bw1.out hb)
 have Hz2:=hid hz2
 clear hb hz2
 have f0:w2.cell? ⟨w.heap.size,0,none⟩=some (.int .i64 5):=NC.out w2 Bw2.out 0
 by_cases h1:(0:Int)<=z1
 ·have q1:((0:Int)<=z1)=True:=by simp;omega
  have H1:=hid h1
  clear h1
  go_wp2_with fail
  all_goals go_ret
  exact⟨⟨z1,rfl,fun h=>by have:=H1.out;omega⟩,below_step HB0.out Bw2.out⟩
 ·have q1:((0:Int)<=z1)=False:=by simp;omega
  have H1:Hid (z1 < 0):=Int.not_le.1 h1
  clear h1
  by_cases h2:(0:Int)<=z2
  ·have q2:((0:Int)<=z2)=True:=by simp;omega
   have H2:=hid h2
   clear h2
   go_wp2_with fail
   all_goals go_ret
   exact⟨⟨z2,rfl,fun h=>by have:=H2.out;omega⟩,below_step HB0.out Bw2.out⟩
  ·have q2:((0:Int)<=z2)=False:=by simp;omega
   have H2:Hid (z2 < 0):=Int.not_le.1 h2
   clear h2
   go_wp2_with fail
   all_goals go_ret
   exact⟨⟨-1,rfl,fun _=>(Ref.closed_two (by decide)).2 ⟨Hz1.out H1.out,Hz2.out H2.out⟩⟩,below_step HB0.out Bw2.out⟩
theorem nr_least (B ub g:Nat) (iv nv fv tv:Value) (ns:List Ref.Nd) (I:List Iw) (F:List Ref.Fl) (i p:Nat) (a b:Nat) (y:Mil.Bytes) (q r:Mil.E) (hn:ns[i]?=some ⟨10,y,p,0,false,a,b,0⟩) (ha:NR B ub g iv nv fv tv ns I F q a) (hb:NR B ub g iv nv fv tv ns I F r b):NR B ub g iv nv fv tv ns I F (Mil.eLeast y q r) i:=by
 intro w h
 have HP:=hid h
 have hl:=(lgs hn).1
 have i1:(0:Int)<=(i:Int):=by omega
 have i2:(i:Int) < (ns.length:Int):=by omega
 obtain⟨k,cp,hv,c0,c1,c2,c3,c4,c5,c6,c7⟩:=h.pi.pm.node8 hn
 have d0:=h.cells.1
 have d1:=h.pi.pm.cells.2
 rw[hv] at d1
 have HB0:=bRow w #[.int .i64 ((10:Nat):Int),.string (bs y),.int .i64 (p:Nat),.int .i64 ((0:Nat):Int),.bool false,.int .i64 ((a:Nat):Int),.int .i64 ((b:Nat):Int),.int .i64 ((0:Nat):Int)] 195
 have NC:=ncRow w #[.int .i64 ((10:Nat):Int),.string (bs y),.int .i64 (p:Nat),.int .i64 ((0:Nat):Int),.bool false,.int .i64 ((a:Nat):Int),.int .i64 ((b:Nat):Int),.int .i64 ((0:Nat):Int)] 195
 clear hv h hn hl
 have HA:=hid ha
 have HB:=hid hb
 clear ha hb
 go_enter Tryz.func102,Tryz.ntmps102
 go_wp2_with fail
 clear c0 c1 c2 c3 c4 c5 c6 c7 d0 d1 i1 i2
 have HP0:=hid (HP.out.below HB0.out)
 generalize hW:w.alloc (.cells #[.int .i64 ((10:Nat):Int),.string (bs y),.int .i64 (p:Nat),.int .i64 ((0:Nat):Int),.bool false,.int .i64 ((a:Nat):Int),.int .i64 ((b:Nat):Int),.int .i64 ((0:Nat):Int)] 195)=W at HB0 NC HP0 ⊢
 have BW:Hid (Below W.heap.size W W):=Below.refl _ _
 clear hW
 refine (HA.out _ (HP0.out.below BW.out)).mono ?_
 rintro r w1 ⟨⟨z1,rfl,hz1⟩,hb⟩
 have Bw1:=hid (below_step BW.out hb)
 have Hz1:=hid hz1
 clear hb hz1
 have f6:w1.cell? ⟨w.heap.size,6,none⟩=some (.int .i64 (b:Nat)):=NC.out w1 Bw1.out 6
 go_wp2_with fail
 clear f6
 refine (HB.out _ (HP0.out.below Bw1.out)).mono ?_
 rintro r w2 ⟨⟨z2,rfl,hz2⟩,hb⟩
 have Bw2:=hid (below_step Bw1.out hb)
 have Hz2:=hid hz2
 clear hb hz2
 have f0:w2.cell? ⟨w.heap.size,0,none⟩=some (.int .i64 10):=NC.out w2 Bw2.out 0
 by_cases h1:(0:Int)<=z1
 ·have q1:((0:Int)<=z1)=True:=by simp;omega
  have H1:=hid h1
  clear h1
  go_wp2_with fail
  all_goals go_ret
  exact⟨⟨z1,rfl,fun h=>by have:=H1.out;omega⟩,below_step HB0.out Bw2.out⟩
 ·have q1:((0:Int)<=z1)=False:=by simp;omega
  have H1:Hid (z1 < 0):=Int.not_le.1 h1
  clear h1
  by_cases h2:(0:Int)<=z2
  ·have q2:((0:Int)<=z2)=True:=by simp;omega
   have H2:=hid h2
   clear h2
   go_wp2_with fail
   all_goals go_ret
   exact⟨⟨z2,rfl,fun h=>by have:=H2.out;omega⟩,below_step HB0.out Bw2.out⟩
  ·have q2:((0:Int)<=z2)=False:=by simp;omega
   have H2:Hid (z2 < 0):=Int.not_le.1 h2
   clear h2
   go_wp2_with fail
   all_goals go_ret
   exact⟨⟨-1,rfl,fun _=>(Ref.closed_two (by decide)).2 ⟨Hz1.out H1.out,Hz2.out H2.out⟩⟩,below_step HB0.out Bw2.out⟩
theorem nr_if (B ub g:Nat) (iv nv fv tv:Value) (ns:List Ref.Nd) (I:List Iw) (F:List Ref.Fl) (i p:Nat) (a b c:Nat) (q r u:Mil.E) (hn:ns[i]?=some ⟨6,Mil.wIf,p,0,false,a,b,c⟩) (ha:NR B ub g iv nv fv tv ns I F q a) (hb:NR B ub g iv nv fv tv ns I F r b) (hc:NR B ub g iv nv fv tv ns I F u c):NR B ub g iv nv fv tv ns I F (Mil.eIf q r u) i:=by
 intro w h
 have HP:=hid h
 have hl:=(lgs hn).1
 have i1:(0:Int)<=(i:Int):=by omega
 have i2:(i:Int) < (ns.length:Int):=by omega
 obtain⟨k,cp,hv,c0,c1,c2,c3,c4,c5,c6,c7⟩:=h.pi.pm.node8 hn
 have d0:=h.cells.1
 have d1:=h.pi.pm.cells.2
 rw[hv] at d1
 have HB0:=bRow w #[.int .i64 ((6:Nat):Int),.string (bs Mil.wIf),.int .i64 (p:Nat),.int .i64 ((0:Nat):Int),.bool false,.int .i64 ((a:Nat):Int),.int .i64 ((b:Nat):Int),.int .i64 ((c:Nat):Int)] 195
 have NC:=ncRow w #[.int .i64 ((6:Nat):Int),.string (bs Mil.wIf),.int .i64 (p:Nat),.int .i64 ((0:Nat):Int),.bool false,.int .i64 ((a:Nat):Int),.int .i64 ((b:Nat):Int),.int .i64 ((c:Nat):Int)] 195
 clear hv h hn hl
 have HA:=hid ha
 have HB:=hid hb
 have HC:=hid hc
 clear ha hb hc
 go_enter Tryz.func102,Tryz.ntmps102
 go_wp2_with fail
 clear c0 c1 c2 c3 c4 c5 c6 c7 d0 d1 i1 i2
 have HP0:=hid (HP.out.below HB0.out)
 generalize hW:w.alloc (.cells #[.int .i64 ((6:Nat):Int),.string (bs Mil.wIf),.int .i64 (p:Nat),.int .i64 ((0:Nat):Int),.bool false,.int .i64 ((a:Nat):Int),.int .i64 ((b:Nat):Int),.int .i64 ((c:Nat):Int)] 195)=W at HB0 NC HP0 ⊢
 have BW:Hid (Below W.heap.size W W):=Below.refl _ _
 clear hW
 refine (HA.out _ (HP0.out.below BW.out)).mono ?_
 rintro r w1 ⟨⟨z1,rfl,hz1⟩,hb⟩
 have Bw1:=hid (below_step BW.out hb)
 have Hz1:=hid hz1
 clear hb hz1
 have f6:w1.cell? ⟨w.heap.size,6,none⟩=some (.int .i64 (b:Nat)):=NC.out w1 Bw1.out 6
 go_wp2_with fail
 clear f6
 refine (HB.out _ (HP0.out.below Bw1.out)).mono ?_
 rintro r w2 ⟨⟨z2,rfl,hz2⟩,hb⟩
 have Bw2:=hid (below_step Bw1.out hb)
 have Hz2:=hid hz2
 clear hb hz2
 have f0:w2.cell? ⟨w.heap.size,0,none⟩=some (.int .i64 6):=NC.out w2 Bw2.out 0
 have f7:w2.cell? ⟨w.heap.size,7,none⟩=some (.int .i64 (c:Nat)):=NC.out w2 Bw2.out 7
 go_wp2_with fail
 clear f0 f7
 refine (HC.out _ (HP0.out.below Bw2.out)).mono ?_
 rintro r w3 ⟨⟨z3,rfl,hz3⟩,hb⟩
 have Bw3:=hid (below_step Bw2.out hb)
 have Hz3:=hid hz3
 clear hb hz3
 by_cases h1:(0:Int)<=z1
 ·have q1:((0:Int)<=z1)=True:=by simp;omega
  have H1:=hid h1
  clear h1
  go_wp2_with fail
  all_goals go_ret
  exact⟨⟨z1,rfl,fun h=>by have:=H1.out;omega⟩,below_step HB0.out Bw3.out⟩
 ·have q1:((0:Int)<=z1)=False:=by simp;omega
  have H1:Hid (z1 < 0):=Int.not_le.1 h1
  clear h1
  by_cases h2:(0:Int)<=z2
  ·have q2:((0:Int)<=z2)=True:=by simp;omega
   have H2:=hid h2
   clear h2
   go_wp2_with fail
   all_goals go_ret
   exact⟨⟨z2,rfl,fun h=>by have:=H2.out;omega⟩,below_step HB0.out Bw3.out⟩
  ·have q2:((0:Int)<=z2)=False:=by simp;omega
   have H2:Hid (z2 < 0):=Int.not_le.1 h2
   clear h2
   go_wp2_with fail
   all_goals go_ret
   exact⟨⟨z3,rfl,fun h=>(Ref.closed_two (by decide)).2 ⟨Hz1.out H1.out,(Ref.closed_two (by decide)).2 ⟨Hz2.out H2.out,Hz3.out h⟩⟩⟩,below_step HB0.out Bw3.out⟩
theorem named_all (B ub g:Nat) (iv nv fv tv:Value) (ns:List Ref.Nd) (I:List Iw) (F:List Ref.Fl) (hF:F.length<=4000):∀e,Mil.wf e false->∀i,Ref.Has ns e i->NR B ub g iv nv fv tv ns I F e i:=
 Ref.tree_induct (fun e i p v ng hn he=>nr_num B ub g iv nv fv tv ns I F i p v ng e hn (by
   rcases he with rfl|rfl
   ·intro x hx;simp[Ref.namesIn,Mil.eInt] at hx
   ·intro x hx;simp[Ref.namesIn,Mil.eInt,Mil.ePre] at hx)) (fun i p v hn=>nr_bool B ub g iv nv fv tv ns I F i p v hn) (fun i p x hn=>nr_name B ub g iv nv fv tv ns I F i p x hn hF)
  (fun i p y a a' hn _ ha=>nr_pre B ub g iv nv fv tv ns I F i p a' y a hn ha) (fun i p v a a' hn _ _ ha=>nr_under B ub g iv nv fv tv ns I F i p v a' a hn ha)
  (fun i p a b a' b' hn hc _ hb=>nr_fby B ub g iv nv fv tv ns I F i p a' b' a b hn hc hb) (fun i p v a b a' b' hn _ _ hc _ hb=>nr_hold B ub g iv nv fv tv ns I F i p v a' b' a b hn hc hb)
  (fun i p y a b a' b' hn _ ha hb=>nr_two B ub g iv nv fv tv ns I F i p a' b' y a b hn ha hb) (fun i p y a b a' b' hn _ ha hb=>nr_least B ub g iv nv fv tv ns I F i p a' b' y a b hn ha hb)
  (fun i p a b c a' b' c' hn ha hb hc=>nr_if B ub g iv nv fv tv ns I F i p a' b' c' a b c hn ha hb hc)
end
end Go.Proofs.YtoiajojadihpbaaGreatDoor
