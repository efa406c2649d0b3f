import Derived.Test.YtoiajojadihpbaaGreatDoorQt43
namespace Go.Proofs.YtoiajojadihpbaaGreatDoor
set_option maxHeartbeats 8000000
set_option maxRecDepth 100000
section
open Go.RowKit
def RR (B ub g:Nat) (iv nv fv tv:Value) (ns:List Ref.Nd) (I:List Iw) (F:List Ref.Fl) (e:Mil.E) (i:Nat):Prop:=Ref.Closed F e->(∀f,f∈F->f.pe<=1000000)->∀w,UM B ub g iv nv fv tv ns I F w->Calls Tryz.prog 104 #[.pointer (some ⟨ub,0,none⟩),.int .i64 (i:Nat)] w fun r w'=>(∃(q:Nat) (a:Int),q<=1000000/\r=.returned (.tuple #[.int .i64 (q:Nat),.int .i64 a]))/\Below w.heap.size w w'
theorem scaled_under (p v a b m:Nat) (hv1:2<=v/\v<=1000) (hm:m<=1000000) (w:World):Calls Tryz.prog 134 #[.agg #[.int .i64 8,.string (bs Mil.wUnder),.int .i64 (p:Nat),.int .i64 (v:Nat),.bool false,.int .i64 (a:Nat),.int .i64 (b:Nat),.int .i64 0],.int .i64 (m:Nat)] w fun r w'=>(∃(q:Nat) (ok:Bool),q<=1000000/\r=.returned (.tuple #[.int .i64 (q:Nat),.bool ok]))/\Below w.heap.size w w':=by
 obtain⟨hv1,hv2⟩:=hv1
 have HB0:=bRow w #[.int .i64 8,.string (bs Mil.wUnder),.int .i64 (p:Nat),.int .i64 (v:Nat),.bool false,.int .i64 (a:Nat),.int .i64 (b:Nat),.int .i64 0] 195
 have hmul:m*v<=1000000000:=Nat.le_trans (Nat.mul_le_mul hm hv2) (by decide)
 have HM:=hid hmul
 have hc:(m:Int)*(v:Int)=((m*v:Nat):Int):=by rw[Int.natCast_mul]
 have hw:IntKind.i64.wrap ((m:Int)*(v:Int))=(m:Int)*(v:Int):=by
  rw[hc]
  simp only[IntKind.wrap_i64];omega
 by_cases h0:m=0
 ·have q0:((m:Int)==0)=true:=by rw[beq_iff_eq];omega
  clear h0 hc
  go_enter Tryz.func134,Tryz.ntmps134
  go_wp2_with fail
  all_goals go_ret2
  exact⟨⟨0,true,by decide,rfl⟩,HB0.out⟩
 have q0:((m:Int)==0)=false:=by rw[beq_eq_false_iff_ne];omega
 by_cases h1:1000000 < m*v
 ·have q1:((1000000:Int) < (m:Int)*(v:Int))=True:=by rw[hc];simp;omega
  clear h0 h1 hc
  go_enter Tryz.func134,Tryz.ntmps134
  go_wp2_with fail
  all_goals go_ret2
  exact⟨⟨0,false,by decide,rfl⟩,HB0.out⟩
 ·have q1:((1000000:Int) < (m:Int)*(v:Int))=False:=by rw[hc];simp;omega
  have HC:=hid hc
  have H1:Hid (m*v<=1000000):=Nat.le_of_not_lt h1
  clear h0 h1 hc
  go_enter Tryz.func134,Tryz.ntmps134
  go_wp2_with fail
  all_goals go_ret2
  refine⟨⟨m*v,true,H1.out,?_⟩,HB0.out⟩
  rw[<-HC.out];rfl
theorem scaled_hold (p v a b m:Nat) (hv1:2<=v/\v<=1000) (hm:m<=1000000) (w:World):Calls Tryz.prog 134 #[.agg #[.int .i64 9,.string (bs Mil.wHold),.int .i64 (p:Nat),.int .i64 (v:Nat),.bool false,.int .i64 (a:Nat),.int .i64 (b:Nat),.int .i64 0],.int .i64 (m:Nat)] w fun r w'=>(∃(q:Nat) (ok:Bool),q<=1000000/\r=.returned (.tuple #[.int .i64 (q:Nat),.bool ok]))/\Below w.heap.size w w':=by
 obtain⟨hv1,hv2⟩:=hv1
 have HB0:=bRow w #[.int .i64 9,.string (bs Mil.wHold),.int .i64 (p:Nat),.int .i64 (v:Nat),.bool false,.int .i64 (a:Nat),.int .i64 (b:Nat),.int .i64 0] 195
 have hle:m / v<=m:=Nat.div_le_self m v
 have hlt:m % v < v:=Nat.mod_lt _ (by omega)
 have wd2:IntKind.i64.wrap ((m:Int).tdiv (v:Int))=(m:Int) / (v:Int):=by
  have e:(m:Int).tdiv (v:Int)=((m / v:Nat):Int):=by rw[Int.tdiv_eq_ediv_of_nonneg (by omega)];rfl
  have e2:(m:Int) / (v:Int)=((m / v:Nat):Int):=rfl
  rw[e,e2]
  generalize m / v=q at hle ⊢
  simp only[IntKind.wrap_i64];omega
 have wr2:IntKind.i64.wrap ((m:Int).tmod (v:Int))=(m:Int) % (v:Int):=by
  have e:(m:Int).tmod (v:Int)=((m % v:Nat):Int):=by rw[Int.tmod_eq_emod_of_nonneg (by omega)];rfl
  have e2:(m:Int) % (v:Int)=((m % v:Nat):Int):=rfl
  rw[e,e2]
  generalize m % v=q at hlt ⊢
  simp only[IntKind.wrap_i64];omega
 have wd:IntKind.i64.wrap ((m:Int) / (v:Int))=(m:Int) / (v:Int):=by
  have e2:(m:Int) / (v:Int)=((m / v:Nat):Int):=rfl
  rw[e2]
  generalize m / v=q at hle ⊢
  simp only[IntKind.wrap_i64];omega
 have wr:IntKind.i64.wrap ((m:Int) % (v:Int))=(m:Int) % (v:Int):=by
  have e2:(m:Int) % (v:Int)=((m % v:Nat):Int):=rfl
  rw[e2]
  generalize m % v=q at hlt ⊢
  simp only[IntKind.wrap_i64];omega
 have v0:((v:Int)==0)=false:=by rw[beq_eq_false_iff_ne];omega
 have v1:¬v=0:=by omega
 have v2:((v:Int)==-1)=false:=by rw[beq_eq_false_iff_ne];omega
 have HQ:Hid (m / v<=1000000):=Nat.le_trans hle hm
 clear hle hlt hv1 hv2
 by_cases h0:m=0
 ·have q0:((m:Int)==0)=true:=by rw[beq_iff_eq];omega
  clear h0
  go_enter Tryz.func134,Tryz.ntmps134
  go_wp2_with fail
  all_goals go_ret2
  exact⟨⟨0,true,by decide,rfl⟩,HB0.out⟩
 have q0:((m:Int)==0)=false:=by rw[beq_eq_false_iff_ne];omega
 clear h0 hm
 go_enter Tryz.func134,Tryz.ntmps134
 go_wp2_with fail
 all_goals go_ret2
 all_goals first|exact⟨⟨0,false,by decide,rfl⟩,HB0.out⟩|exact⟨⟨m / v,true,HQ.out,rfl⟩,HB0.out⟩
theorem rr_num (B ub g:Nat) (iv nv fv tv:Value) (ns:List Ref.Nd) (I:List Iw) (F:List Ref.Fl) (i p:Nat) (v:Nat) (ng:Bool) (e:Mil.E) (hn:ns[i]?=some ⟨1,[],p,v,ng,0,0,0⟩):RR B ub g iv nv fv tv ns I F e i:=by
 intro hcl hpe
 intro w h
 have HP:=hid h
 have hl:=(lgs hn).1
 have i1:(0:Int)<=(i:Int):=by omega
 have i2:(i:Int) < (ns.length:Int):=by omega
 obtain⟨k,cp,hv,c0,c1,c2,c3,c4,c5,c6,c7⟩:=h.pi.pm.node8 hn
 have d0:=h.cells.1
 have d1:=h.pi.pm.cells.2
 rw[hv] at d1
 have HB0:=bRow w #[.int .i64 ((1:Nat):Int),.string (bs []),.int .i64 (p:Nat),.int .i64 ((v:Nat):Int),.bool ng,.int .i64 ((0:Nat):Int),.int .i64 ((0:Nat):Int),.int .i64 ((0:Nat):Int)] 195
 have NC:=ncRow w #[.int .i64 ((1:Nat):Int),.string (bs []),.int .i64 (p:Nat),.int .i64 ((v:Nat):Int),.bool ng,.int .i64 ((0:Nat):Int),.int .i64 ((0:Nat):Int),.int .i64 ((0:Nat):Int)] 195
 clear hv h hn hl
 go_enter Tryz.func104,Tryz.ntmps104
 go_wp2_with fail
 all_goals go_ret2
 exact⟨⟨0,_,by decide,rfl⟩,HB0.out⟩
theorem rr_bool (B ub g:Nat) (iv nv fv tv:Value) (ns:List Ref.Nd) (I:List Iw) (F:List Ref.Fl) (i p:Nat) (v:Nat) (hn:ns[i]?=some ⟨2,[],p,v,false,0,0,0⟩):RR B ub g iv nv fv tv ns I F (Mil.eBool v) i:=by
 intro hcl hpe
 intro w h
 have HP:=hid h
 have hl:=(lgs hn).1
 have i1:(0:Int)<=(i:Int):=by omega
 have i2:(i:Int) < (ns.length:Int):=by omega
 obtain⟨k,cp,hv,c0,c1,c2,c3,c4,c5,c6,c7⟩:=h.pi.pm.node8 hn
 have d0:=h.cells.1
 have d1:=h.pi.pm.cells.2
 rw[hv] at d1
 have HB0:=bRow w #[.int .i64 ((2:Nat):Int),.string (bs []),.int .i64 (p:Nat),.int .i64 ((v:Nat):Int),.bool false,.int .i64 ((0:Nat):Int),.int .i64 ((0:Nat):Int),.int .i64 ((0:Nat):Int)] 195
 have NC:=ncRow w #[.int .i64 ((2:Nat):Int),.string (bs []),.int .i64 (p:Nat),.int .i64 ((v:Nat):Int),.bool false,.int .i64 ((0:Nat):Int),.int .i64 ((0:Nat):Int),.int .i64 ((0:Nat):Int)] 195
 clear hv h hn hl
 go_enter Tryz.func104,Tryz.ntmps104
 go_wp2_with fail
 all_goals go_ret2
 exact⟨⟨0,_,by decide,rfl⟩,HB0.out⟩
theorem rr_name (B ub g:Nat) (iv nv fv tv:Value) (ns:List Ref.Nd) (I:List Iw) (F:List Ref.Fl) (i p:Nat) (x:Mil.Bytes) (hn:ns[i]?=some ⟨3,x,p,0,false,0,0,0⟩) (hF:F.length<=4000):RR B ub g iv nv fv tv ns I F (Mil.eName x) i:=by
 intro hcl hpe
 intro w h
 have HP:=hid h
 have hl:=(lgs hn).1
 have i1:(0:Int)<=(i:Int):=by omega
 have i2:(i:Int) < (ns.length:Int):=by omega
 obtain⟨k,cp,hv,c0,c1,c2,c3,c4,c5,c6,c7⟩:=h.pi.pm.node8 hn
 have d0:=h.cells.1
 have d1:=h.pi.pm.cells.2
 rw[hv] at d1
 have HB0:=bRow w #[.int .i64 ((3:Nat):Int),.string (bs x),.int .i64 (p:Nat),.int .i64 ((0:Nat):Int),.bool false,.int .i64 ((0:Nat):Int),.int .i64 ((0:Nat):Int),.int .i64 ((0:Nat):Int)] 195
 have NC:=ncRow w #[.int .i64 ((3:Nat):Int),.string (bs x),.int .i64 (p:Nat),.int .i64 ((0:Nat):Int),.bool false,.int .i64 ((0:Nat):Int),.int .i64 ((0:Nat):Int),.int .i64 ((0:Nat):Int)] 195
 clear hv h hn hl
 have HCL:=hid hcl
 have HPE:=hid hpe
 clear hcl hpe
 go_enter Tryz.func104,Tryz.ntmps104
 go_wp2_with fail
 clear c0 c1 c2 c3 c4 c5 c6 c7 d0 d1 i1 i2
 have HP0:=hid (HP.out.below HB0.out)
 generalize hW:w.alloc (.cells #[.int .i64 ((3:Nat):Int),.string (bs x),.int .i64 (p:Nat),.int .i64 ((0:Nat):Int),.bool false,.int .i64 ((0:Nat):Int),.int .i64 ((0:Nat):Int),.int .i64 ((0:Nat):Int)] 195)=W at HB0 NC HP0 ⊢
 have BW:Hid (Below W.heap.size W W):=Below.refl _ _
 clear hW
 refine (find_any B ub g iv nv fv tv ns I F hF x _ HP0.out).mono ?_
 rintro r w1 ⟨rfl,hb⟩
 have Bw1:=hid hb
 clear hb
 obtain⟨j,hj⟩:=Ref.closed_name HCL.out
 have e:Ref.fndI F x=(j:Int):=by unfold Ref.fndI;rw[hj]
 have hjl:=Ref.fnd_lt hj
 have i1:(0:Int)<=(j:Int):=by omega
 have i2:(j:Int) < (F.length:Int):=by omega
 obtain⟨k,c,hv,c0,c1,c2,c3,c4,c5⟩:=(HP0.out.below Bw1.out).flow6 (List.getElem?_eq_getElem hjl)
 have HQ:Hid (F[j].pe<=1000000):=HPE.out _ (List.getElem_mem hjl)
 have d1:=(HP0.out.below Bw1.out).cells.2.1
 rw[hv] at d1
 rw[e]
 generalize F[j]=fy at c0 c1 c2 c3 c4 c5 HQ
 clear e hj hv
 go_wp2_with fail
 all_goals go_ret2
 exact⟨⟨_,_,HQ.out,rfl⟩,below_step HB0.out Bw1.out⟩
theorem rr_pre (B ub g:Nat) (iv nv fv tv:Value) (ns:List Ref.Nd) (I:List Iw) (F:List Ref.Fl) (i p:Nat) (a:Nat) (y:Mil.Bytes) (q:Mil.E) (hn:ns[i]?=some ⟨4,y,p,0,false,a,0,0⟩) (ha:RR B ub g iv nv fv tv ns I F q a):RR B ub g iv nv fv tv ns I F (Mil.ePre y q) i:=by
 intro hcl hpe
 intro w h
 have HP:=hid h
 have hl:=(lgs hn).1
 have i1:(0:Int)<=(i:Int):=by omega
 have i2:(i:Int) < (ns.length:Int):=by omega
 obtain⟨k,cp,hv,c0,c1,c2,c3,c4,c5,c6,c7⟩:=h.pi.pm.node8 hn
 have d0:=h.cells.1
 have d1:=h.pi.pm.cells.2
 rw[hv] at d1
 have HB0:=bRow w #[.int .i64 ((4:Nat):Int),.string (bs y),.int .i64 (p:Nat),.int .i64 ((0:Nat):Int),.bool false,.int .i64 ((a:Nat):Int),.int .i64 ((0:Nat):Int),.int .i64 ((0:Nat):Int)] 195
 have NC:=ncRow w #[.int .i64 ((4:Nat):Int),.string (bs y),.int .i64 (p:Nat),.int .i64 ((0:Nat):Int),.bool false,.int .i64 ((a:Nat):Int),.int .i64 ((0:Nat):Int),.int .i64 ((0:Nat):Int)] 195
 clear hv h hn hl
 have HHA:Hid (∀w,UM B ub g iv nv fv tv ns I F w->_):=ha ((Ref.closed_two (by decide)).1 hcl).1 hpe
 clear ha hcl hpe
 go_enter Tryz.func104,Tryz.ntmps104
 go_wp2_with fail
 clear c0 c1 c2 c3 c4 c5 c6 c7 d0 d1 i1 i2
 have HP0:=hid (HP.out.below HB0.out)
 generalize hW:w.alloc (.cells #[.int .i64 ((4:Nat):Int),.string (bs y),.int .i64 (p:Nat),.int .i64 ((0:Nat):Int),.bool false,.int .i64 ((a:Nat):Int),.int .i64 ((0:Nat):Int),.int .i64 ((0:Nat):Int)] 195)=W at HB0 NC HP0 ⊢
 have BW:Hid (Below W.heap.size W W):=Below.refl _ _
 clear hW
 refine (HHA.out _ (HP0.out.below BW.out)).mono ?_
 rintro r w1 ⟨⟨t1,z1,ht1,rfl⟩,hb⟩
 have Bw1:=hid (below_step BW.out hb)
 have Ht1:=hid ht1
 clear hb ht1
 go_wp2_with fail
 all_goals go_ret2
 exact⟨⟨t1,_,Ht1.out,rfl⟩,below_step HB0.out Bw1.out⟩
theorem rr_fby (B ub g:Nat) (iv nv fv tv:Value) (ns:List Ref.Nd) (I:List Iw) (F:List Ref.Fl) (i p:Nat) (a b:Nat) (q r:Mil.E) (hn:ns[i]?=some ⟨7,Mil.wFby,p,0,false,a,b,0⟩) (ha:RR B ub g iv nv fv tv ns I F r b):RR B ub g iv nv fv tv ns I F (Mil.eFby q r) i:=by
 intro hcl hpe
 intro w h
 have HP:=hid h
 have hl:=(lgs hn).1
 have i1:(0:Int)<=(i:Int):=by omega
 have i2:(i:Int) < (ns.length:Int):=by omega
 obtain⟨k,cp,hv,c0,c1,c2,c3,c4,c5,c6,c7⟩:=h.pi.pm.node8 hn
 have d0:=h.cells.1
 have d1:=h.pi.pm.cells.2
 rw[hv] at d1
 have HB0:=bRow w #[.int .i64 ((7:Nat):Int),.string (bs Mil.wFby),.int .i64 (p:Nat),.int .i64 ((0:Nat):Int),.bool false,.int .i64 ((a:Nat):Int),.int .i64 ((b:Nat):Int),.int .i64 ((0:Nat):Int)] 195
 have NC:=ncRow w #[.int .i64 ((7:Nat):Int),.string (bs Mil.wFby),.int .i64 (p:Nat),.int .i64 ((0:Nat):Int),.bool false,.int .i64 ((a:Nat):Int),.int .i64 ((b:Nat):Int),.int .i64 ((0:Nat):Int)] 195
 clear hv h hn hl
 have HHA:Hid (∀w,UM B ub g iv nv fv tv ns I F w->_):=ha ((Ref.closed_two (by decide)).1 hcl).2 hpe
 clear ha hcl hpe
 go_enter Tryz.func104,Tryz.ntmps104
 go_wp2_with fail
 clear c0 c1 c2 c3 c4 c5 c6 c7 d0 d1 i1 i2
 have HP0:=hid (HP.out.below HB0.out)
 generalize hW:w.alloc (.cells #[.int .i64 ((7:Nat):Int),.string (bs Mil.wFby),.int .i64 (p:Nat),.int .i64 ((0:Nat):Int),.bool false,.int .i64 ((a:Nat):Int),.int .i64 ((b:Nat):Int),.int .i64 ((0:Nat):Int)] 195)=W at HB0 NC HP0 ⊢
 have BW:Hid (Below W.heap.size W W):=Below.refl _ _
 clear hW
 refine (HHA.out _ (HP0.out.below BW.out)).mono ?_
 rintro r w1 ⟨⟨t1,z1,ht1,rfl⟩,hb⟩
 have Bw1:=hid (below_step BW.out hb)
 have Ht1:=hid ht1
 clear hb ht1
 go_wp2_with fail
 all_goals go_ret2
 exact⟨⟨t1,_,Ht1.out,rfl⟩,below_step HB0.out Bw1.out⟩
theorem rr_under (B ub g:Nat) (iv nv fv tv:Value) (ns:List Ref.Nd) (I:List Iw) (F:List Ref.Fl) (i p:Nat) (v a:Nat) (q:Mil.E) (hn:ns[i]?=some ⟨8,Mil.wUnder,p,v,false,a,0,0⟩) (hv12:2<=v/\v<=1000) (ha:RR B ub g iv nv fv tv ns I F q a):RR B ub g iv nv fv tv ns I F (Mil.eUnder q v) i:=by
 intro hcl hpe
 intro w h
 have HP:=hid h
 have hl:=(lgs hn).1
 have i1:(0:Int)<=(i:Int):=by omega
 have i2:(i:Int) < (ns.length:Int):=by omega
 obtain⟨k,cp,hv,c0,c1,c2,c3,c4,c5,c6,c7⟩:=h.pi.pm.node8 hn
 have d0:=h.cells.1
 have d1:=h.pi.pm.cells.2
 rw[hv] at d1
 have HB0:=bRow w #[.int .i64 ((8:Nat):Int),.string (bs Mil.wUnder),.int .i64 (p:Nat),.int .i64 ((v:Nat):Int),.bool false,.int .i64 ((a:Nat):Int),.int .i64 ((0:Nat):Int),.int .i64 ((0:Nat):Int)] 195
 have NC:=ncRow w #[.int .i64 ((8:Nat):Int),.string (bs Mil.wUnder),.int .i64 (p:Nat),.int .i64 ((v:Nat):Int),.bool false,.int .i64 ((a:Nat):Int),.int .i64 ((0:Nat):Int),.int .i64 ((0:Nat):Int)] 195
 clear hv h hn hl
 have HHA:Hid (∀w,UM B ub g iv nv fv tv ns I F w->_):=ha ((Ref.closed_two (by decide)).1 hcl).1 hpe
 have SV:Hid (∀(m:Nat),m<=1000000->∀w,Calls Tryz.prog 134 #[.agg #[.int .i64 8,.string (bs Mil.wUnder),.int .i64 (p:Nat),.int .i64 (v:Nat),.bool false,.int .i64 (a:Nat),.int .i64 0,.int .i64 0],.int .i64 (m:Nat)] w _):=fun m hm w=>scaled_under p v a 0 m hv12 hm w
 clear ha hcl hpe hv12
 go_enter Tryz.func104,Tryz.ntmps104
 go_wp2_with fail
 clear c0 c1 c2 c3 c4 c5 c6 c7 d0 d1 i1 i2
 have HP0:=hid (HP.out.below HB0.out)
 generalize hW:w.alloc (.cells #[.int .i64 ((8:Nat):Int),.string (bs Mil.wUnder),.int .i64 (p:Nat),.int .i64 ((v:Nat):Int),.bool false,.int .i64 ((a:Nat):Int),.int .i64 ((0:Nat):Int),.int .i64 ((0:Nat):Int)] 195)=W at HB0 NC HP0 ⊢
 have BW:Hid (Below W.heap.size W W):=Below.refl _ _
 clear hW
 refine (HHA.out _ (HP0.out.below BW.out)).mono ?_
 rintro r w1 ⟨⟨t1,z1,ht1,rfl⟩,hb⟩
 have Bw1:=hid (below_step BW.out hb)
 have Ht1:=hid ht1
 clear hb ht1
 have f0:w1.cell? ⟨w.heap.size,0,none⟩=some (.int .i64 8):=NC.out w1 Bw1.out 0
 have f1:w1.cell? ⟨w.heap.size,1,none⟩=some (.string (bs Mil.wUnder)):=NC.out w1 Bw1.out 1
 have f2:w1.cell? ⟨w.heap.size,2,none⟩=some (.int .i64 (p:Nat)):=NC.out w1 Bw1.out 2
 have f3:w1.cell? ⟨w.heap.size,3,none⟩=some (.int .i64 (v:Nat)):=NC.out w1 Bw1.out 3
 have f4:w1.cell? ⟨w.heap.size,4,none⟩=some (.bool false):=NC.out w1 Bw1.out 4
 have f5:w1.cell? ⟨w.heap.size,5,none⟩=some (.int .i64 (a:Nat)):=NC.out w1 Bw1.out 5
 have f6:w1.cell? ⟨w.heap.size,6,none⟩=some (.int .i64 0):=NC.out w1 Bw1.out 6
 have f7:w1.cell? ⟨w.heap.size,7,none⟩=some (.int .i64 0):=NC.out w1 Bw1.out 7
 go_wp2_with fail
 refine (SV.out t1 Ht1.out _).mono ?_
 rintro r w2 ⟨⟨t2,ok,ht2,rfl⟩,hb⟩
 have Bw2:=hid (below_step Bw1.out hb)
 have Ht2:=hid ht2
 clear hb ht2 f0 f1 f2 f3 f4 f5 f6 f7
 have f2:w2.cell? ⟨w.heap.size,2,none⟩=some (.int .i64 (p:Nat)):=NC.out w2 Bw2.out 2
 by_cases h1:z1 < 0
 ·have e1:(z1 < 0)=True:=by simp;omega
  clear h1
  cases ok
  all_goals go_wp2
  all_goals go_ret2
  all_goals exact⟨⟨t2,_,Ht2.out,rfl⟩,below_step HB0.out Bw2.out⟩
 ·have e1:(z1 < 0)=False:=by simp;omega
  clear h1
  cases ok
  all_goals go_wp2
  all_goals go_ret2
  all_goals exact⟨⟨t2,_,Ht2.out,rfl⟩,below_step HB0.out Bw2.out⟩
theorem rr_hold (B ub g:Nat) (iv nv fv tv:Value) (ns:List Ref.Nd) (I:List Iw) (F:List Ref.Fl) (i p:Nat) (v a b:Nat) (q r:Mil.E) (hn:ns[i]?=some ⟨9,Mil.wHold,p,v,false,a,b,0⟩) (hv12:2<=v/\v<=1000) (ha:RR B ub g iv nv fv tv ns I F r b):RR B ub g iv nv fv tv ns I F (Mil.eHold q r v) i:=by
 intro hcl hpe
 intro w h
 have HP:=hid h
 have hl:=(lgs hn).1
 have i1:(0:Int)<=(i:Int):=by omega
 have i2:(i:Int) < (ns.length:Int):=by omega
 obtain⟨k,cp,hv,c0,c1,c2,c3,c4,c5,c6,c7⟩:=h.pi.pm.node8 hn
 have d0:=h.cells.1
 have d1:=h.pi.pm.cells.2
 rw[hv] at d1
 have HB0:=bRow w #[.int .i64 ((9:Nat):Int),.string (bs Mil.wHold),.int .i64 (p:Nat),.int .i64 ((v:Nat):Int),.bool false,.int .i64 ((a:Nat):Int),.int .i64 ((b:Nat):Int),.int .i64 ((0:Nat):Int)] 195
 have NC:=ncRow w #[.int .i64 ((9:Nat):Int),.string (bs Mil.wHold),.int .i64 (p:Nat),.int .i64 ((v:Nat):Int),.bool false,.int .i64 ((a:Nat):Int),.int .i64 ((b:Nat):Int),.int .i64 ((0:Nat):Int)] 195
 clear hv h hn hl
 have HHA:Hid (∀w,UM B ub g iv nv fv tv ns I F w->_):=ha ((Ref.closed_two (by decide)).1 hcl).2 hpe
 have SV:Hid (∀(m:Nat),m<=1000000->∀w,Calls Tryz.prog 134 #[.agg #[.int .i64 9,.string (bs Mil.wHold),.int .i64 (p:Nat),.int .i64 (v:Nat),.bool false,.int .i64 (a:Nat),.int .i64 (b:Nat),.int .i64 0],.int .i64 (m:Nat)] w _):=fun m hm w=>scaled_hold p v a b m hv12 hm w
 clear ha hcl hpe hv12
 go_enter Tryz.func104,Tryz.ntmps104
 go_wp2_with fail
 clear c0 c1 c2 c3 c4 c5 c6 c7 d0 d1 i1 i2
 have HP0:=hid (HP.out.below HB0.out)
 generalize hW:w.alloc (.cells #[.int .i64 ((9:Nat):Int),.string (bs Mil.wHold),.int .i64 (p:Nat),.int .i64 ((v:Nat):Int),.bool false,.int .i64 ((a:Nat):Int),.int .i64 ((b:Nat):Int),.int .i64 ((0:Nat):Int)] 195)=W at HB0 NC HP0 ⊢
 have BW:Hid (Below W.heap.size W W):=Below.refl _ _
 clear hW
 refine (HHA.out _ (HP0.out.below BW.out)).mono ?_
 rintro r w1 ⟨⟨t1,z1,ht1,rfl⟩,hb⟩
 have Bw1:=hid (below_step BW.out hb)
 have Ht1:=hid ht1
 clear hb ht1
 have f0:w1.cell? ⟨w.heap.size,0,none⟩=some (.int .i64 9):=NC.out w1 Bw1.out 0
 have f1:w1.cell? ⟨w.heap.size,1,none⟩=some (.string (bs Mil.wHold)):=NC.out w1 Bw1.out 1
 have f2:w1.cell? ⟨w.heap.size,2,none⟩=some (.int .i64 (p:Nat)):=NC.out w1 Bw1.out 2
 have f3:w1.cell? ⟨w.heap.size,3,none⟩=some (.int .i64 (v:Nat)):=NC.out w1 Bw1.out 3
 have f4:w1.cell? ⟨w.heap.size,4,none⟩=some (.bool false):=NC.out w1 Bw1.out 4
 have f5:w1.cell? ⟨w.heap.size,5,none⟩=some (.int .i64 (a:Nat)):=NC.out w1 Bw1.out 5
 have f6:w1.cell? ⟨w.heap.size,6,none⟩=some (.int .i64 (b:Nat)):=NC.out w1 Bw1.out 6
 have f7:w1.cell? ⟨w.heap.size,7,none⟩=some (.int .i64 0):=NC.out w1 Bw1.out 7
 go_wp2_with fail
 refine (SV.out t1 Ht1.out _).mono ?_
 rintro r w2 ⟨⟨t2,ok,ht2,rfl⟩,hb⟩
 have Bw2:=hid (below_step Bw1.out hb)
 have Ht2:=hid ht2
 clear hb ht2 f0 f1 f2 f3 f4 f5 f6 f7
 have f2:w2.cell? ⟨w.heap.size,2,none⟩=some (.int .i64 (p:Nat)):=NC.out w2 Bw2.out 2
 by_cases h1:z1 < 0
 ·have e1:(z1 < 0)=True:=by simp;omega
  clear h1
  cases ok
  all_goals go_wp2
  all_goals go_ret2
  all_goals exact⟨⟨t2,_,Ht2.out,rfl⟩,below_step HB0.out Bw2.out⟩
 ·have e1:(z1 < 0)=False:=by simp;omega
  clear h1
  cases ok
  all_goals go_wp2
  all_goals go_ret2
  all_goals exact⟨⟨t2,_,Ht2.out,rfl⟩,below_step HB0.out Bw2.out⟩
end
end Go.Proofs.YtoiajojadihpbaaGreatDoor
