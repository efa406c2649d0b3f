import Derived.Test.YtoiajojadihpbaaGreatDoorQt11
import Derived.Test.YtoiajojadihpbaaGreatDoorQt06
import Derived.Test.YtoiajojadihpbaaGreatDoorQt01
import Derived.Test.YtoiajojadihpbaaGreatDoorQt09
import Derived.Lib.Join
import Derived.Lib.AppendIntMem
import Derived.Lib.Small
import Derived.Laws.Concat
import Derived.Deep.RegionHeld3
namespace Go.Proofs.YtoiajojadihpbaaGreatDoor
set_option maxHeartbeats 8000000
set_option maxRecDepth 100000
section
open Go.RowKit Go.Extern.Stop Go.Stop Go.Extern
abbrev hDD:Value:=.pointer (some ⟨28,185,none⟩)
abbrev hD:Value:=.pointer (some ⟨28,181,none⟩)
theorem partsDa (a:Addr) (w:World):(ReflectliteValue.parts (.agg #[hD,.pointer (some a),.int .u64 406])).run Tryz.prog w=.ok (some (181,a,406)) w:=by kernel_rfl
theorem partsD (a:Addr) (w:World):(ReflectliteValue.parts (.agg #[hD,.pointer (some a),.int .u64 150])).run Tryz.prog w=.ok (some (181,a,150)) w:=by kernel_rfl
theorem directD (w:World):(Rtype.directlyAssignable 181 181).run Tryz.prog w=.ok true w:=by kernel_rfl
theorem cSet (ta b e:Addr) (old:Value) (W:World) (hb:W.cell? b=some (.pointer (some e))) (ht:W.cell? ta=some old) (hf:W.frozen? ta=false) :
  (callFunc 146 #[.agg #[hD,.pointer (some ta),.int .u64 406],.agg #[hD,.pointer (some b),.int .u64 150]]).run Tryz.prog W=.ok (.value (.tuple #[])) (W.setCell ta (.pointer (some e))):=by
 rw[@run_callFunc_extern Tryz.prog 146 _ ReflectliteValue.set Tryz.func146 (by kernel_rfl) (by kernel_rfl) (by kernel_rfl) (by kernel_rfl)]
 show ((ReflectliteValue.parts _ >>= _).run Tryz.prog W).andThen _=_
 have e0:∀(u v:Value) (h1:(#[u,v]:Array Value).size=2) (h2:0 < 2),Array.getLit #[u,v] 0 h1 h2=u:=fun _ _ _ _=>rfl
 have e1:∀(u v:Value) (h1:(#[u,v]:Array Value).size=2) (h2:1 < 2),Array.getLit #[u,v] 1 h1 h2=v:=fun _ _ _ _=>rfl
 simp only[Sem.run_bind,e0,e1,partsDa,partsD,Result.andThen]
 simp[ReflectliteValue.flagAddr,loadVar,isAgg,underlying,Tryz.underlying181,hb,Result.andThen,directD,storeVar,Value.cells,storeCells,Addr.add]
 rw[run_store Tryz.prog W ta _ _ (by rfl)]
 simp[ht,hf]
end
section
open Go.RowKit Go.Extern.Stop Go.Stop Go.Extern
abbrev eTy:Value:=.iface 245 (.agg #[.pointer (some ⟨28,90,none⟩)])
def A2 (t:Addr) (w:World):World:=(w.alloc (.cells #[.pointer (some t)] 185)).alloc (.cells #[hDD,.pointer (some ⟨w.heap.size,0,none⟩),.int .u64 150] 225)
def A3 (t:Addr) (w:World):World:=((w.alloc (.cells #[.pointer (some t)] 185)).alloc (.cells #[hDD,.pointer (some ⟨w.heap.size,0,none⟩),.int .u64 150] 225)).alloc (.cells #[hDD,.pointer (some ⟨w.heap.size,0,none⟩),.int .u64 150] 225)
theorem as_hit (e t:Addr) (old:Value) (w:World) (hg:w.cell? ⟨6,0,none⟩=some eTy) (ht0:w.cell? t=some old) (hf0:w.frozen? t=false) :
  Calls Tryz.prog 86 #[.iface 181 (.pointer (some e)),.iface 185 (.pointer (some t))] w fun ev w'=>ev=.returned (.bool true)/\w'=((A3 t w).alloc (.cells #[.pointer (some e)] 181)).setCell t (.pointer (some e)):=by
 have a1:=cValueT
 have a2:=cValueD
 have a3:=cTypeT
 have a4:=cKindT
 have a5:=cKindD
 have a6:=mKind
 have a7:=mElem
 have a8:=mImplements
 have a9:=mAssignableTo
 have b1:=cElemT
 have b2:=cImplD
 have b3:=cTypeOfD
 have b4:=cAssignD
 have hlt:6 < w.heap.size:=lt_of_cell hg
 have htl:t.block < w.heap.size:=lt_of_cell ht0
 have n8:=cIsNil ⟨w.heap.size,0,none⟩ t (A2 t w) (by unfold A2;simp)
 have hg2:(A2 t w).cell? ⟨6,0,none⟩=some eTy:=by
  unfold A2
  rw[World.cell?_alloc_lt _ _ ⟨6,0,none⟩ (by simp;omega),World.cell?_alloc_lt _ _ ⟨6,0,none⟩ hlt];exact hg
 have el:=cElemV ⟨w.heap.size,0,none⟩ t (A3 t w) (by unfold A3;rw[World.cell?_alloc_lt _ _ ⟨w.heap.size,0,none⟩ (by simp;omega)];simp)
 have st:=cSet t ⟨w.heap.size+1+1+1,0,none⟩ e old ((A3 t w).alloc (.cells #[.pointer (some e)] 181))
  (by unfold A3;rw[World.cell?_alloc_at _ _ _ _ (by simp)];rfl)
  (by unfold A3;rw[World.cell?_alloc_lt _ _ t (by simp;omega),World.cell?_alloc_lt _ _ t (by simp;omega),World.cell?_alloc_lt _ _ t (by simp;omega),World.cell?_alloc_lt _ _ t htl];exact ht0)
  (by unfold A3;rw[World.frozen?_alloc_old _ _ t (by simp;omega),World.frozen?_alloc_old _ _ t (by simp;omega),World.frozen?_alloc_old _ _ t (by simp;omega),World.frozen?_alloc_old _ _ t (Nat.ne_of_lt htl)];exact hf0)
 unfold A3 at st el ⊢
 unfold A2 at n8 hg2
 clear hg ht0 hf0
 go_enter Tryz.func86,Tryz.ntmps86
 go_wp2
 refine wp_loop_rounds 1 ?_
 rw[rounds_succ]
 go_wp2
 go_ret
 exact⟨rfl,rfl⟩
theorem as_miss (x t:Addr) (w:World) (hg:w.cell? ⟨6,0,none⟩=some eTy) :
  Calls Tryz.prog 86 #[errV x,.iface 185 (.pointer (some t))] w fun ev w'=>ev=.returned (.bool false)/\w'=A3 t w:=by
 have a1:=cValueT
 have a3:=cTypeT
 have a4:=cKindT
 have a5:=cKindD
 have a6:=mKind
 have a7:=mElem
 have a8:=mImplements
 have a9:=mAssignableTo
 have b1:=cElemT
 have b2:=cImplD
 have b3:=cTypeOfE
 have b4:=cAssignE
 have b5:=kNoAsE
 have b6:=kNoUnwrapE
 have b7:=kNoUnwrapsE
 have hlt:6 < w.heap.size:=lt_of_cell hg
 have n8:=cIsNil ⟨w.heap.size,0,none⟩ t (A2 t w) (by unfold A2;simp)
 have hg2:(A2 t w).cell? ⟨6,0,none⟩=some eTy:=by
  unfold A2
  rw[World.cell?_alloc_lt _ _ ⟨6,0,none⟩ (by simp;omega),World.cell?_alloc_lt _ _ ⟨6,0,none⟩ hlt];exact hg
 unfold A3
 unfold A2 at n8 hg2
 clear hg
 go_enter Tryz.func86,Tryz.ntmps86
 go_wp2
 refine wp_loop_rounds 1 ?_
 rw[rounds_succ]
 go_wp2
 go_ret
 exact⟨rfl,rfl⟩
end
section
open Go.RowKit Go.Extern.Stop Go.Stop Go.Extern
structure Errs (al:Nat->Addr) (w:World):Prop where
 size:27<=w.heap.size
 c0:w.cell? ⟨0,0,none⟩=some (errV (al 0))
 c1:w.cell? ⟨7,0,none⟩=some (errV (al 1))
 c2:w.cell? ⟨8,0,none⟩=some (errV (al 2))
 c3:w.cell? ⟨5,0,none⟩=some (errV (al 3))
 c4:w.cell? ⟨9,0,none⟩=some (errV (al 4))
 c5:w.cell? ⟨10,0,none⟩=some (errV (al 5))
 c6:w.cell? ⟨11,0,none⟩=some (errV (al 6))
 c7:w.cell? ⟨12,0,none⟩=some (errV (al 7))
 c8:w.cell? ⟨13,0,none⟩=some (errV (al 8))
 c9:w.cell? ⟨14,0,none⟩=some (errV (al 9))
 c10:w.cell? ⟨15,0,none⟩=some (errV (al 10))
 c11:w.cell? ⟨16,0,none⟩=some (errV (al 11))
 c12:w.cell? ⟨17,0,none⟩=some (errV (al 12))
 row:∀i,i < 13->∃c t,w.heap[(al i).block]?=some (.cells c t (0,0))
 et:w.cell? ⟨6,0,none⟩=some eTy
theorem Errs.below {al:Nat->Addr} {w w':World} (h:Errs al w) (hb:Below w.heap.size w w'):Errs al w':=by
 have hs:=h.size
 have up:∀{g:Nat} {v:Value},w.cell? ⟨g,0,none⟩=some v->w'.cell? ⟨g,0,none⟩=some v:=fun hc=>(hb.cell (lt_of_cell hc)).trans hc
 refine⟨Nat.le_trans hs hb.size,up h.c0,up h.c1,up h.c2,up h.c3,up h.c4,up h.c5,up h.c6,up h.c7,up h.c8,up h.c9,up h.c10,up h.c11,up h.c12,fun i hi=>?_,up h.et⟩
 obtain⟨c,t,hr⟩:=h.row i hi
 exact⟨c,t,(hb.block _ (ags hr).1).trans hr⟩
def allRow (al:Nat->Addr):Array Value:=#[errV (al 0),errV (al 1),errV (al 2),errV (al 3),errV (al 4),errV (al 5),errV (al 6),errV (al 7),errV (al 8),errV (al 9),errV (al 10),errV (al 11),errV (al 12)]
theorem allRow_at (al:Nat->Addr) (j:Nat) (h:j < 13):(allRow al)[j]?=some (errV (al j)):=by
 have:j=0\/j=1\/j=2\/j=3\/j=4\/j=5\/j=6\/j=7\/j=8\/j=9\/j=10\/j=11\/j=12:=by omega
 rcases this with rfl|rfl|rfl|rfl|rfl|rfl|rfl|rfl|rfl|rfl|rfl|rfl|rfl <;> rfl
theorem errs_any (al:Nat->Addr) (w:World) (h:Errs al w) :
  Calls Tryz.prog 88 #[] w fun e w'=>e=.returned (.slice (some ⟨w.heap.size,0,none⟩) 13 13)/\w'=w.alloc (.cells (allRow al) 90):=by
 have q0:=h.c0
 have q1:=h.c1
 have q2:=h.c2
 have q3:=h.c3
 have q4:=h.c4
 have q5:=h.c5
 have q6:=h.c6
 have q7:=h.c7
 have q8:=h.c8
 have q9:=h.c9
 have q10:=h.c10
 have q11:=h.c11
 have q12:=h.c12
 clear h
 go_enter Tryz.func88,Tryz.ntmps88
 go_wp2
 go_ret
 exact⟨rfl,rfl⟩
theorem unwrap_any (d:Nat) (at_:Int) (x:Addr) (w:World) (hd:w.heap[d]?=some (.cells #[.int .i64 at_,errV x] 187 (0,0))) :
  Calls Tryz.prog 87 #[.pointer (some ⟨d,0,none⟩)] w fun e w'=>e=.returned (errV x)/\w'=w:=by
 have hc1:w.cell? ⟨d,1,none⟩=some (errV x):=by rw[cor w d 1 _ _ _ hd];rfl
 clear hd
 go_enter Tryz.func87,Tryz.ntmps87
 go_wp2
 go_ret
 exact⟨rfl,rfl⟩
theorem kCompD:(Tryz.prog.info? 181).map (·.comparable)=some true:=by kernel_rfl
theorem kSizeD:(Tryz.prog.info? 187).map (·.size)=some 2:=by kernel_rfl
theorem neq_err (x:Addr) (w:World):(binOp BinOp.neq 90 (errV x) (errV x)).run Tryz.prog w=.ok (.bool false) w:=by
 obtain⟨i,hi,hcmp⟩:=oms kCompE
 obtain⟨j,hj,hjs⟩:=oms kSizeE
 simp only[binOp]
 simp[Op.equal,Op.maxDepth,run_equalIn_iface_ptr_same w 9998 x Tryz.underlying90 Tryz.underlying312 hi hcmp hj]
theorem neq_diag (x:Addr) (w:World):(binOp BinOp.neq 90 (.iface 181 (.pointer (some x))) (.iface 181 (.pointer (some x)))).run Tryz.prog w=.ok (.bool false) w:=by
 obtain⟨i,hi,hcmp⟩:=oms kCompD
 obtain⟨j,hj,hjs⟩:=oms kSizeD
 simp only[binOp]
 simp[Op.equal,Op.maxDepth,run_equalIn_iface_ptr_same w 9998 x Tryz.underlying90 Tryz.underlying181 hi hcmp hj]
theorem fault_nil (w:World):Calls Tryz.prog 46 #[.nilIface] w fun e w'=>e=.returned (.agg #[.int .i64 0,.int .i64 0])/\Below w.heap.size w w':=by
 go_enter Tryz.func46,Tryz.ntmps46
 go_wp2
 exact bodyPost_ret (v:=.agg #[.int .i64 0,.int .i64 0]) (by simp[results,Tryz.results46,go_sem]) rfl ⟨rfl,brf.alloc nlr _⟩
structure Fb (w W:World) (E T:Int) (p:Option Addr):Prop where
 b0:W.heap[w.heap.size]?=some (.cells #[.int .i64 0,.int .i64 0] 40 (0,0))
 b1:W.heap[w.heap.size+1]?=some (.cells #[.int .i64 E,.int .i64 T] 40 (0,0))
 b2:W.heap[w.heap.size+1+1]?=some (.cells #[.pointer p] 181 (0,0))
 bl:Below w.heap.size w W
theorem Fb.keep {w W W':World} {E T:Int} {p:Option Addr} (h:Fb w W E T p) (k:Below W.heap.size W W'):Fb w W' E T p:=
 ⟨(k.block _ (ags h.b0).1).trans h.b0,(k.block _ (ags h.b1).1).trans h.b1,(k.block _ (ags h.b2).1).trans h.b2,h.bl.trans (k.mono h.bl.size)⟩
theorem Fb.setE {w W:World} {E T:Int} {p:Option Addr} (h:Fb w W E T p) (E':Int):Fb w (W.setCell ⟨w.heap.size+1,0,none⟩ (.int .i64 E')) E' T p:=by
 refine⟨(bhs _ _ _ _ (by simp)).trans h.b0,?_,(bhs _ _ _ _ (by simp)).trans h.b2,h.bl.setCell (p:=⟨w.heap.size+1,0,none⟩) (Nat.le_succ _) _⟩
 show (W.heap.modify (w.heap.size+1) _)[w.heap.size+1]?=_
 rw[Array.getElem?_modify,if_pos rfl,h.b1];rfl
theorem Fb.setT {w W:World} {E T:Int} {p:Option Addr} (h:Fb w W E T p) (T':Int):Fb w (W.setCell ⟨w.heap.size+1,1,none⟩ (.int .i64 T')) E T' p:=by
 refine⟨(bhs _ _ _ _ (by simp)).trans h.b0,?_,(bhs _ _ _ _ (by simp)).trans h.b2,h.bl.setCell (p:=⟨w.heap.size+1,1,none⟩) (Nat.le_succ _) _⟩
 show (W.heap.modify (w.heap.size+1) _)[w.heap.size+1]?=_
 rw[Array.getElem?_modify,if_pos rfl,h.b1];rfl
theorem Fb.setD {w W:World} {E T:Int} {p:Option Addr} (h:Fb w W E T p) (p':Option Addr):Fb w (W.setCell ⟨w.heap.size+1+1,0,none⟩ (.pointer p')) E T p':=by
 refine⟨(bhs _ _ _ _ (by simp;omega)).trans h.b0,(bhs _ _ _ _ (by simp)).trans h.b1,?_,h.bl.setCell (p:=⟨w.heap.size+1+1,0,none⟩) (Nat.le_add_right _ 2) _⟩
 show (W.heap.modify (w.heap.size+1+1) _)[w.heap.size+1+1]?=_
 rw[Array.getElem?_modify,if_pos rfl,h.b2];rfl
theorem below_A3 (t:Addr) (w:World):Below w.heap.size w (A3 t w):=((brf.alloc nlr _).alloc (by simp) _).alloc (by simp;omega) _
theorem Fb.cells {w W:World} {E T:Int} {p:Option Addr} (h:Fb w W E T p) :
  W.cell? ⟨w.heap.size,0,none⟩=some (.int .i64 0)/\W.cell? ⟨w.heap.size,1,none⟩=some (.int .i64 0)/\W.cell? ⟨w.heap.size+1,0,none⟩=some (.int .i64 E)/\W.cell? ⟨w.heap.size+1,1,none⟩=some (.int .i64 T)/\W.cell? ⟨w.heap.size+1+1,0,none⟩=some (.pointer p) /\
  (∀o,W.frozen? ⟨w.heap.size,o,none⟩=false)/\(∀o,W.frozen? ⟨w.heap.size+1,o,none⟩=false):=by
 refine⟨?_,?_,?_,?_,?_,fun o=>?_,fun o=>?_⟩
 ·rw[cor W _ 0 _ _ _ h.b0];rfl
 ·rw[cor W _ 1 _ _ _ h.b0];rfl
 ·rw[cor W _ 0 _ _ _ h.b1];rfl
 ·rw[cor W _ 1 _ _ _ h.b1];rfl
 ·rw[cor W _ 0 _ _ _ h.b2];rfl
 ·unfold World.frozen?;rw[h.b0];simp
 ·unfold World.frozen?;rw[h.b1];simp
def lastOf (al:Nat->Addr) (x:Addr):Nat->Int
 | 0=>14
 | j+1=>if x=al j then (j:Int)+1 else lastOf al x j
theorem fb_start (w:World):Fb w (((w.alloc (.cells #[.int .i64 0,.int .i64 0] 40)).alloc (.cells #[.int .i64 14,.int .i64 (-1)] 40)).alloc (.cells #[.pointer none] 181)) 14 (-1) none:=by
 refine⟨?_,?_,?_,((brf.alloc nlr _).alloc (by simp) _).alloc (by simp;omega) _⟩
 ·rw[Below.heap_alloc _ _ _ (by simp;omega),Below.heap_alloc _ _ _ (by simp)];exact han w _
 ·rw[Below.heap_alloc _ _ _ (by simp)]
  have:=han (w.alloc (.cells #[.int .i64 0,.int .i64 0] 40)) (.cells #[.int .i64 14,.int .i64 (-1)] 40)
  simpa using this
 ·have:=han ((w.alloc (.cells #[.int .i64 0,.int .i64 0] 40)).alloc (.cells #[.int .i64 14,.int .i64 (-1)] 40)) (.cells #[.pointer none] 181)
  simpa using this
theorem fault_diag (al:Nat->Addr) (d:Nat) (at_:Int) (x:Addr) (w:World) (HEr:Errs al w) (hd:w.heap[d]?=some (.cells #[.int .i64 at_,errV x] 187 (0,0))) (hx:∃c t,w.heap[x.block]?=some (.cells c t (0,0))) :
  Calls Tryz.prog 46 #[.iface 181 (.pointer (some ⟨d,0,none⟩))] w fun e w'=>e=.returned (.agg #[.int .i64 (lastOf al x 13),.int .i64 at_])/\Below w.heap.size w w':=by
 have HE:=hid HEr
 have HD:=hid hd
 have HX:=hid hx
 have HFS:=fb_start w
 clear HEr hd hx
 go_enter Tryz.func46,Tryz.ntmps46
 go_wp2_with fail
 generalize (((w.alloc (.cells #[.int .i64 0,.int .i64 0] 40)).alloc (.cells #[.int .i64 14,.int .i64 (-1)] 40)).alloc (.cells #[.pointer none] 181))=W3 at HFS ⊢
 have q2:=HFS.cells.2.2.2.2.1
 have fz2:W3.frozen? ⟨w.heap.size+1+1,0,none⟩=false:=by unfold World.frozen?;rw[HFS.b2];simp
 refine (as_hit ⟨d,0,none⟩ ⟨w.heap.size+1+1,0,none⟩ (.pointer none) W3 (HE.out.below HFS.bl).et q2 fz2).mono ?_
 rintro e w4 ⟨rfl,hw4⟩
 have F4:Fb w w4 14 (-1) (some ⟨d,0,none⟩):=by
  rw[hw4]
  exact (HFS.keep (((below_A3 _ W3).alloc (below_A3 _ W3).size _))).setD _
 clear hw4 HFS q2 fz2
 have cd0:w4.cell? ⟨d,0,none⟩=some (.int .i64 at_):=by rw[cor w4 d 0 _ _ _ ((F4.bl.block d (ags HD.out).1).trans HD.out)];rfl
 have cd1:w4.cell? ⟨d,1,none⟩=some (errV x):=by rw[cor w4 d 1 _ _ _ ((F4.bl.block d (ags HD.out).1).trans HD.out)];rfl
 have H4:Hid (w4.heap[d]?=some (.cells #[.int .i64 at_,errV x] 187 (0,0))):=(F4.bl.block d (ags HD.out).1).trans HD.out
 have n1:=neq_err
 have n2:=neq_diag
 obtain⟨p0,p1,p2,p3,p4,z0,z1⟩:=F4.cells
 have HF4:=hid F4
 clear F4
 go_wp2_with fail
 go_quiet ((go_at_call 87;exact Calls.quiet_of_same (unwrap_any d at_ x _ H4.out)))
 go_wp2_with fail
 have HF5:Hid (Fb w ((w4.drewN nq).setCell ⟨w.heap.size+1,1,none⟩ (.int .i64 at_)) 14 at_ (some ⟨d,0,none⟩)):=(HF4.out.keep (below_drewN brf nq)).setT at_
 generalize (w4.drewN nq).setCell ⟨w.heap.size+1,1,none⟩ (.int .i64 at_)=W5 at HF5 ⊢
 have HRow:Hid (∀i,i < 13->∃c t,w.heap[(al i).block]?=some (.cells c t (0,0))):=HE.out.row
 clear p0 p1 p2 p3 p4 z0 z1 cd0 cd1 H4 HF4 n1 n2
 have L5:=hid (HE.out.below HF5.out.bl)
 clear HE
 refine (errs_any al W5 L5.out).mono ?_
 rintro e w6 ⟨rfl,hw6⟩
 have F6:Hid (Fb w w6 14 at_ (some ⟨d,0,none⟩)):=by rw[hw6];exact HF5.out.keep (brf.alloc nlr _)
 have R6:Hid (w6.heap[W5.heap.size]?=some (.cells (allRow al) 90 (0,0))):=by rw[hw6];exact han W5 _
 clear hw6
 go_wp2_with fail
 go_loopg [35] 13 (fun g s35 wr=>∃j:Nat,j<=13/\s35=.int .i64 j/\g=13 - j/\Hid (Fb w wr (lastOf al x j) at_ (some ⟨d,0,none⟩))/\Hid (wr.heap[W5.heap.size]?=some (.cells (allRow al) 90 (0,0))))
 case atStart=>exact⟨0,by decide,rfl,rfl,F6,R6⟩
 case round=>
  obtain⟨j,hj,rfl,hg,HF,HR⟩:=hrel
  have HG:=hid hg
  clear hg F6 R6
  obtain⟨p0,p1,p2,p3,p4,z0,z1⟩:=HF.out.cells
  by_cases hlt:j < 13
  ·have hcj:wr.cell? ⟨W5.heap.size,j,none⟩=some (errV (al j)):=by rw[cor wr _ j _ _ _ HR.out];exact allRow_at al j hlt
   have HDr:Hid (wr.heap[d]?=some (.cells #[.int .i64 at_,errV x] 187 (0,0))):=(HF.out.bl.block d (ags HD.out).1).trans HD.out
   have HXr:Hid (∃c t,wr.heap[x.block]?=some (.cells c t (0,0))):=by
    obtain⟨c,t,h⟩:=HX.out
    exact⟨c,t,(HF.out.bl.block _ (ags h).1).trans h⟩
   have HRr:Hid (∃c t,wr.heap[(al j).block]?=some (.cells c t (0,0))):=by
    obtain⟨c,t,h⟩:=HRow.out j hlt
    exact⟨c,t,(HF.out.bl.block _ (ags h).1).trans h⟩
   go_wp2_with fail
   refine (is_diag d at_ x (al j) _ HDr.out HXr.out HRr.out).mono ?_
   rintro e w7 ⟨rfl,hw⟩
   rw[hw]
   clear hw w7
   by_cases hxj:x=al j
   ·rw[decide_eq_true hxj]
    have HXJ:=hid hxj
    clear hxj hcj
    go_wp2
    go_roundg (13 - (j+1))
    case measure=>have:=HG.out;omega
    case rel=>
     refine⟨j+1,by omega,by go_num,rfl,?_,(bhs _ _ _ _ (by have:=HF.out.b1;have:=HR.out;show W5.heap.size≠w.heap.size+1;have:=HF5.out.b1;have:=(ags this).1;omega)).trans HR.out⟩
     have:=HF.out.setE ((j:Int)+1)
     show Fb w _ (if x=al j then (j:Int)+1 else lastOf al x j) _ _
     rw[if_pos HXJ.out]
     exact this
   ·rw[decide_eq_false hxj]
    have HXJ:=hid hxj
    clear hxj
    go_wp2
    go_roundg (13 - (j+1))
    case measure=>have:=HG.out;omega
    case rel=>
     refine⟨j+1,by omega,by go_num,rfl,?_,HR⟩
     show Fb w _ (if x=al j then (j:Int)+1 else lastOf al x j) _ _
     rw[if_neg HXJ.out]
     exact HF.out
  ·have hj13:j=13:=by omega
   subst hj13
   go_wp2
   have r0:((wr.setCell ⟨w.heap.size,0,none⟩ (.int .i64 (lastOf al x 13))).setCell ⟨w.heap.size,1,none⟩ (.int .i64 at_)).cell? ⟨w.heap.size,0,none⟩=some (.int .i64 (lastOf al x 13)):=
    (World.cell?_setCell_other _ _ ⟨w.heap.size,0,none⟩ _ (by simp)).trans (World.cell?_setCell_same _ _ _ p0)
   have r1:((wr.setCell ⟨w.heap.size,0,none⟩ (.int .i64 (lastOf al x 13))).setCell ⟨w.heap.size,1,none⟩ (.int .i64 at_)).cell? ⟨w.heap.size,1,none⟩=some (.int .i64 at_):=
    World.cell?_setCell_same (wr.setCell ⟨w.heap.size,0,none⟩ (.int .i64 (lastOf al x 13))) _ _ ((World.cell?_setCell_other _ _ ⟨w.heap.size,1,none⟩ _ (by simp)).trans p1)
   exact bodyPost_ret (v:=.agg #[.int .i64 (lastOf al x 13),.int .i64 at_]) (by simp[results,Tryz.results46,go_sem,r0,r1]) rfl ⟨rfl,(HF.out.bl.setCell nlr _).setCell (p:=⟨w.heap.size,1,none⟩) nlr _⟩
theorem fault_err (al:Nat->Addr) (x:Addr) (w:World) (HEr:Errs al w) (hx:∃c t,w.heap[x.block]?=some (.cells c t (0,0))) :
  Calls Tryz.prog 46 #[errV x] w fun e w'=>e=.returned (.agg #[.int .i64 (lastOf al x 13),.int .i64 (-1)])/\Below w.heap.size w w':=by
 have HE:=hid HEr
 have HX:=hid hx
 have HFS:=fb_start w
 clear HEr hx
 go_enter Tryz.func46,Tryz.ntmps46
 go_wp2_with fail
 generalize (((w.alloc (.cells #[.int .i64 0,.int .i64 0] 40)).alloc (.cells #[.int .i64 14,.int .i64 (-1)] 40)).alloc (.cells #[.pointer none] 181))=W3 at HFS ⊢
 refine (as_miss x ⟨w.heap.size+1+1,0,none⟩ W3 (HE.out.below HFS.bl).et).mono ?_
 rintro e W5 ⟨rfl,hw5⟩
 have HF5:Hid (Fb w W5 14 (-1) none):=by rw[hw5];exact HFS.keep (below_A3 _ W3)
 have HRow:Hid (∀i,i < 13->∃c t,w.heap[(al i).block]?=some (.cells c t (0,0))):=HE.out.row
 clear hw5 HFS
 go_wp2_with fail
 have L5:=hid (HE.out.below HF5.out.bl)
 clear HE
 refine (errs_any al W5 L5.out).mono ?_
 rintro e w6 ⟨rfl,hw6⟩
 have F6:Hid (Fb w w6 14 (-1) none):=by rw[hw6];exact HF5.out.keep (brf.alloc nlr _)
 have R6:Hid (w6.heap[W5.heap.size]?=some (.cells (allRow al) 90 (0,0))):=by rw[hw6];exact han W5 _
 clear hw6
 go_wp2_with fail
 go_loopg [35] 13 (fun g s35 wr=>∃j:Nat,j<=13/\s35=.int .i64 j/\g=13 - j/\Hid (Fb w wr (lastOf al x j) (-1) none)/\Hid (wr.heap[W5.heap.size]?=some (.cells (allRow al) 90 (0,0))))
 case atStart=>exact⟨0,by decide,rfl,rfl,F6,R6⟩
 case round=>
  obtain⟨j,hj,rfl,hg,HF,HR⟩:=hrel
  have HG:=hid hg
  clear hg F6 R6
  obtain⟨p0,p1,p2,p3,p4,z0,z1⟩:=HF.out.cells
  by_cases hlt:j < 13
  ·have hcj:wr.cell? ⟨W5.heap.size,j,none⟩=some (errV (al j)):=by rw[cor wr _ j _ _ _ HR.out];exact allRow_at al j hlt
   have HXr:Hid (∃c t,wr.heap[x.block]?=some (.cells c t (0,0))):=by
    obtain⟨c,t,h⟩:=HX.out
    exact⟨c,t,(HF.out.bl.block _ (ags h).1).trans h⟩
   have HRr:Hid (∃c t,wr.heap[(al j).block]?=some (.cells c t (0,0))):=by
    obtain⟨c,t,h⟩:=HRow.out j hlt
    exact⟨c,t,(HF.out.bl.block _ (ags h).1).trans h⟩
   go_wp2_with fail
   refine (is_err x (al j) _ HXr.out HRr.out).mono ?_
   rintro e w7 ⟨rfl,hw⟩
   rw[hw]
   clear hw w7
   by_cases hxj:x=al j
   ·rw[decide_eq_true hxj]
    have HXJ:=hid hxj
    rw[<-hxj]
    have hn:=neq_err x
    clear hxj hcj
    go_wp2
    go_roundg (13 - (j+1))
    case measure=>have:=HG.out;omega
    case rel=>
     refine⟨j+1,by omega,by go_num,rfl,?_,(bhs _ _ _ _ (by have:=HF.out.b1;have:=HR.out;show W5.heap.size≠w.heap.size+1;have:=HF5.out.b1;have:=(ags this).1;omega)).trans HR.out⟩
     have:=HF.out.setE ((j:Int)+1)
     show Fb w _ (if x=al j then (j:Int)+1 else lastOf al x j) _ _
     rw[if_pos HXJ.out]
     exact this
   ·rw[decide_eq_false hxj]
    have HXJ:=hid hxj
    clear hxj
    go_wp2
    go_roundg (13 - (j+1))
    case measure=>have:=HG.out;omega
    case rel=>
     refine⟨j+1,by omega,by go_num,rfl,?_,HR⟩
     show Fb w _ (if x=al j then (j:Int)+1 else lastOf al x j) _ _
     rw[if_neg HXJ.out]
     exact HF.out
  ·have hj13:j=13:=by omega
   subst hj13
   go_wp2
   have r0:((wr.setCell ⟨w.heap.size,0,none⟩ (.int .i64 (lastOf al x 13))).setCell ⟨w.heap.size,1,none⟩ (.int .i64 (-1))).cell? ⟨w.heap.size,0,none⟩=some (.int .i64 (lastOf al x 13)):=
    (World.cell?_setCell_other _ _ ⟨w.heap.size,0,none⟩ _ (by simp)).trans (World.cell?_setCell_same _ _ _ p0)
   have r1:((wr.setCell ⟨w.heap.size,0,none⟩ (.int .i64 (lastOf al x 13))).setCell ⟨w.heap.size,1,none⟩ (.int .i64 (-1))).cell? ⟨w.heap.size,1,none⟩=some (.int .i64 (-1)):=
    World.cell?_setCell_same (wr.setCell ⟨w.heap.size,0,none⟩ (.int .i64 (lastOf al x 13))) _ _ ((World.cell?_setCell_other _ _ ⟨w.heap.size,1,none⟩ _ (by simp)).trans p1)
   exact bodyPost_ret (v:=.agg #[.int .i64 (lastOf al x 13),.int .i64 (-1)]) (by simp[results,Tryz.results46,go_sem,r0,r1]) rfl ⟨rfl,(HF.out.bl.setCell nlr _).setCell (p:=⟨w.heap.size,1,none⟩) nlr _⟩
end
section
open Go.RowKit
namespace Mil
theorem digits_len {k:Nat} (h:(k:Int)<=maxInt):(Lib.decDigits k).length<=20:=by
 rw[Lib.decDigits_length]
 have:∀n u:Nat,u < 10 ^ n->Lib.nDigits u<=n+1:=by
  intro n
  induction n with
  | zero=>intro u hu;rw[Lib.nDigits];simp at hu;subst hu;simp
  | succ n ih=>
   intro u hu
   rw[Lib.nDigits]
   split
   ·omega
   ·have:=ih (u / 10) (by rw[Nat.pow_succ] at hu;omega)
    omega
 exact this 19 k (by simp only[maxInt] at h;omega)
theorem brack_len {e:E} {l:Nat} (h:(txt e).length<=40*(toks e).length):(brack (tight e) l (txt e)).length<=40*(brackT (tight e) l (toks e)).length:=by
 unfold brack brackT
 split
 ·simp[sOpen,sShut];omega
 ·exact h
theorem op_len {x:Bytes} (h:tightOf x≠9):x.length<=3:=by
 unfold tightOf at h
 by_cases h1:x=wOr\/x=wXor
 ·rcases h1 with rfl|rfl <;> decide
 rw[if_neg h1] at h
 by_cases h2:x=wAnd
 ·subst h2;decide
 rw[if_neg h2] at h
 by_cases h3:x=sLt\/x=sLe\/x=sGt\/x=sGe\/x=sEq\/x=sNe
 ·rcases h3 with rfl|rfl|rfl|rfl|rfl|rfl <;> decide
 rw[if_neg h3] at h
 by_cases h4:x=sPlus\/x=sMinus
 ·rcases h4 with rfl|rfl <;> decide
 rw[if_neg h4] at h
 by_cases h5:x=sTimes\/x=sOver\/x=sRest
 ·rcases h5 with rfl|rfl|rfl <;> decide
 rw[if_neg h5] at h
 exact absurd rfl h
theorem txt_len:∀e:E,wf e false->(txt e).length<=40*(toks e).length:=by
 have hint:∀k:Nat,(k:Int)<=maxInt->(txt (eInt k)).length<=40*(toks (eInt k)).length:=fun k hk=>by
  have:=digits_len hk
  show (Lib.decDigits k).length<=40*1
  omega
 have hbool:∀k,k=0\/k=1->(txt (eBool k)).length<=40*(toks (eBool k)).length:=fun k hk=>by
  rcases hk with rfl|rfl <;> decide
 have hpre:∀x a,x=wNot\/x=sMinus->wf a false->(txt a).length<=40*(toks a).length->(txt (ePre x a)).length<=40*(toks (ePre x a)).length:=by
  intro x a hx _ ha
  rcases hx with rfl|rfl
  ·have:=brack_len (l:=3) ha
   show (if wNot=wNot then wNot++blank++brack (tight a) 3 (txt a) else _).length<=40*(fix wNot::brackT (tight a) 3 (toks a)).length
   rw[if_pos rfl]
   simp only[List.length_append,List.length_cons,wNot,blank,List.length_nil]
   omega
  ·have:=brack_len (l:=7) ha
   show (if sMinus=wNot then _ else sMinus++brack (tight a) 7 (txt a)).length<=40*(fix sMinus::brackT (tight a) 7 (toks a)).length
   rw[if_neg (by decide)]
   simp only[List.length_append,List.length_cons,sMinus,List.length_nil]
   omega
 have hcon:∀c,isConst c->(txt c).length<=40*(toks c).length:=by
  rintro c (⟨k,hk,rfl⟩|⟨k,hk,rfl⟩|⟨k,hk,rfl⟩)
  ·exact hint k hk
  ·exact hbool k hk
  ·exact hpre sMinus _ (Or.inr rfl) (wf_const (Or.inl ⟨k,hk,rfl⟩)) (hint k hk)
 refine wf_induct hint hbool ?_ hpre ?_ ?_ ?_ ?_ ?_ ?_
 ·intro x hx
  have:=hx.2.2.1
  show x.length<=40*1
  omega
 ·intro x a b hx _ _ ha hb
  have h1:=brack_len (l:=leftOf (tightOf x)) ha
  have h2:=brack_len (l:=tightOf x+1) hb
  have h3:=op_len hx
  show (brack (tight a) (leftOf (tightOf x)) (txt a)++blank++x++blank++brack (tight b) (tightOf x+1) (txt b)).length<=40*(brackT (tight a) (leftOf (tightOf x)) (toks a)++fix x::brackT (tight b) (tightOf x+1) (toks b)).length
  simp only[List.length_append,List.length_cons,blank,List.length_nil]
  omega
 ·intro a b c _ _ _ ha hb hc
  show (wIf++blank++txt a++blank++(wThen++blank++txt b++blank++wElse++blank++txt c)).length<=40*(fix wIf::(toks a++(fix wThen::(toks b++fix wElse::toks c)))).length
  simp only[List.length_append,List.length_cons,blank,wIf,wThen,wElse,List.length_nil]
  omega
 ·intro a b hca _ hb
  have ha:=hcon a hca
  show (wFby++sOpen++txt a++commaB++txt b++sShut).length<=40*(fix wFby::fix sOpen::(toks a++fix sComma::(toks b++[fix sShut]))).length
  simp only[List.length_append,List.length_cons,wFby,sOpen,sShut,commaB,List.length_nil]
  omega
 ·intro a k h2 h1000 _ ha
  have hk:=digits_len (k:=k) (by simp only[maxInt];omega)
  show (wUnder++sOpen++txt a++commaB++Lib.decDigits k++sShut).length<=40*(fix wUnder::fix sOpen::(toks a++[fix sComma,num k,fix sShut])).length
  simp only[List.length_append,List.length_cons,wUnder,sOpen,sShut,commaB,List.length_nil]
  omega
 ·intro a b k h2 h1000 hca _ hb
  have ha:=hcon a hca
  have hk:=digits_len (k:=k) (by simp only[maxInt];omega)
  show (wHold++sOpen++txt a++commaB++txt b++commaB++Lib.decDigits k++sShut).length<=40*(fix wHold::fix sOpen::(toks a++fix sComma::(toks b++[fix sComma,num k,fix sShut]))).length
  simp only[List.length_append,List.length_cons,wHold,sOpen,sShut,commaB,List.length_nil]
  omega
 ·intro x a b hx _ _ ha hb
  have h3:x.length=3:=by rcases hx with rfl|rfl <;> rfl
  show (x++sOpen++txt a++commaB++txt b++sShut).length<=40*(fix x::fix sOpen::(toks a++fix sComma::(toks b++[fix sShut]))).length
  simp only[List.length_append,List.length_cons,sOpen,sShut,commaB,List.length_nil]
  omega
end Mil
theorem below_step {W u v:World} (h:Below W.heap.size W u) (k:Below u.heap.size u v):Below W.heap.size W v:=h.trans (k.mono h.size)
theorem bs_add (x y:Mil.Bytes):bs x++bs y=bs (x++y):=ByteArray.mk_append_mk x y
theorem bs_size (x:Mil.Bytes):(bs x).size=x.length:=by simp[bs,ByteArray.size]
def TxPost (x:Mil.Bytes) (w:World) (e:Ending) (w':World):Prop:=e=.returned (.string (bs x))/\Below w.heap.size w w'
end
section
open Go.RowKit
structure Pl (a:Nat->Addr) (w:World):Prop where
 l:Laid a w
 tab : Lib.TabIs Tryz.prog w "internal/strconv.uint64pow10" .u64 Lib.pow10Tab
theorem Pl.below {a:Nat->Addr} {w w':World} (h:Pl a w) (hb:Below w.heap.size w w'):Pl a w':=
 ⟨h.l.kept (Kp.of_below (b:=w.heap.size) hb) h.l.size,Lib.tabBelow_of_tabIs h.tab w' hb⟩
theorem formatInt_any (a:Nat->Addr) (k:Nat) (hk:(k:Int)<=Mil.maxInt) (w:World) (h:Pl a w) :
  Calls Tryz.prog 236 #[.int .i64 (k:Nat),.int .i64 10] w (TxPost (Lib.decDigits k) w):=by
 refine (Tryz.strconv_FormatInt_10 (k:Nat) (by omega) hk w h.tab).mono ?_
 rintro e w' ⟨rfl,n,os,rfl⟩
 refine⟨?_,Lib.below_grow _ _ nlr _ _⟩
 have:Lib.itoa (k:Nat)=Lib.decDigits k:=by
  unfold Lib.itoa
  rw[if_neg (by omega)];rfl
 rw[this];rfl
theorem formatBool_any (k:Nat) (w:World):Calls Tryz.prog 244 #[.bool (k==1)] w (TxPost (if k=1 then Mil.wTrue else Mil.wFalse) w):=by
 refine (Tryz.strconv_FormatBool (k==1) w).mono ?_
 rintro e w' ⟨rfl,rfl⟩
 refine⟨?_,Below.refl _ _⟩
 by_cases h:k=1
 ·subst h;rfl
 ·have:(k==1)=false:=by simpa using h
  rw[this,if_neg h];rfl
theorem callText_any (m:Mil.Bytes) (hm:m.length<=5) (xs:List Mil.Bytes) (hx:xs≠[]) (hn:xs.length<=3) (hl:∀x,x∈xs->x.length<=24000) (b:Nat) (w:World) (hb:w.heap[b]?=some (.cells (strCells xs) 9 (0,0))) :
  Calls Tryz.prog 247 #[.string (bs m),.slice (some ⟨b,0,none⟩) xs.length xs.length] w (TxPost (m++Mil.sOpen++Lib.join xs Mil.commaB++Mil.sShut) w):=by
 have hjl:(Lib.join xs Mil.commaB).length<=80000:=by
  match xs,hx,hn,hl with
  | [x],_,_,hl=>rw[Lib.join_one];have:=hl x (by simp);omega
  | [x,y],_,_,hl=>
   have h1:=hl x (by simp)
   have h2:=hl y (by simp)
   simp[Lib.join,List.intercalate,Mil.commaB]
   omega
  | [x,y,z],_,_,hl=>
   have h1:=hl x (by simp)
   have h2:=hl y (by simp)
   have h3:=hl z (by simp)
   simp[Lib.join,List.intercalate,Mil.commaB]
   omega
 have hJ:Hid (∀w',Below w.heap.size w w'->Calls Tryz.prog 238 #[.slice (some ⟨b,0,none⟩) xs.length xs.length,.string (bs Mil.commaB)] w' (TxPost (Lib.join xs Mil.commaB) w')):=by
  intro w' hw
  have hb':w'.heap[b]?=some (.cells (strCells xs) 9 (0,0)):=(hw.block b (ags hb).1).trans hb
  have e1:((xs.map bs).map (fun x:ByteArray=>x.data.toList))=xs:=by
   rw[List.map_map]
   exact List.map_id xs
  have hj:=Tryz.strings_Join b 0 xs.length (xs.map bs) (bs Mil.commaB) w' (by
   intro j x hj
   rw[cor w' b (0+j) _ _ _ hb',Nat.zero_add]
   unfold strCells
   rw[List.getElem?_map] at hj
   obtain⟨y,hy,rfl⟩:=oms hj
   simp[hy]) (ags hb').1 (by simp;omega) (by simp) (by rw[e1];exact Nat.le_trans hjl (by decide))
  rw[e1,List.length_map] at hj
  exact hj
 have hs1:(bs m).size<=5:=by rw[bs_size];exact hm
 have hs2:(bs (Lib.join xs Mil.commaB)).size<=80000:=by rw[bs_size];exact hjl
 clear hb hx hn hl hjl
 go_enter Tryz.func247,Tryz.ntmps247
 go_wp2_with fail
 refine (hJ.out _ brf).mono ?_
 rintro e w1 ⟨rfl,hb1⟩
 go_wp2
 go_ret
 refine⟨?_,hb1⟩
 show Ending.returned (.string (bs m++bs Mil.sOpen++bs (Lib.join xs Mil.commaB)++bs Mil.sShut))=_
 rw[bs_add,bs_add,bs_add]
end
end Go.Proofs.YtoiajojadihpbaaGreatDoor
