import Derived.Test.YtoiajojadihpbaaGreatDoorPt08
import Derived.Test.YtoiajojadihpbaaGreatDoorPt06
namespace Go.Proofs.YtoiajojadihpbaaGreatDoor
set_option maxHeartbeats 8000000
section
open Go.RowKit Go.Extern.Stop Go.Stop Go.Extern
abbrev hDD:Value:=.pointer (some ⟨28,185,none⟩)
abbrev hD:Value:=.pointer (some ⟨28,181,none⟩)
theorem partsDa (a:Addr) (w:World):(ReflectliteValue.parts (.agg #[hD,.pointer (some a),.int .u64 406])).run Tryz.prog w=.ok (some (181,a,406)) w:=by kernel_rfl
theorem partsD (a:Addr) (w:World):(ReflectliteValue.parts (.agg #[hD,.pointer (some a),.int .u64 150])).run Tryz.prog w=.ok (some (181,a,150)) w:=by kernel_rfl
theorem directD (w:World):(Rtype.directlyAssignable 181 181).run Tryz.prog w=.ok true w:=by kernel_rfl
theorem cSet (ta b e:Addr) (old:Value) (W:World) (hb:W.cell? b=some (.pointer (some e))) (ht:W.cell? ta=some old) (hf:W.frozen? ta=false) :
  (callFunc 146 #[.agg #[hD,.pointer (some ta),.int .u64 406],.agg #[hD,.pointer (some b),.int .u64 150]]).run Tryz.prog W=.ok (.value (.tuple #[])) (W.setCell ta (.pointer (some e))):=by
 rw [@run_callFunc_extern Tryz.prog 146 _ ReflectliteValue.set Tryz.func146 (by kernel_rfl) (by kernel_rfl) (by kernel_rfl) (by kernel_rfl)]
 show ((ReflectliteValue.parts _ >>= _).run Tryz.prog W).andThen _=_
 have e0:∀(u v:Value) (h1:(#[u,v]:Array Value).size=2) (h2:0 < 2),Array.getLit #[u,v] 0 h1 h2=u:=fun _ _ _ _=>rfl
 have e1:∀(u v:Value) (h1:(#[u,v]:Array Value).size=2) (h2:1 < 2),Array.getLit #[u,v] 1 h1 h2=v:=fun _ _ _ _=>rfl
 simp only [Sem.run_bind,e0,e1,partsDa,partsD,Result.andThen]
 simp [ReflectliteValue.flagAddr,loadVar,isAgg,underlying,Tryz.underlying181,hb,Result.andThen,directD,storeVar,Value.cells,storeCells,Addr.add]
 rw [run_store Tryz.prog W ta _ _ (by rfl)]
 simp [ht,hf]
end
section
open Go.RowKit Go.Extern.Stop Go.Stop Go.Extern
abbrev eTy:Value:=.iface 245 (.agg #[.pointer (some ⟨28,90,none⟩)])
def A2 (t:Addr) (w:World):World:=(w.alloc (.cells #[.pointer (some t)] 185)).alloc (.cells #[hDD,.pointer (some ⟨w.heap.size,0,none⟩),.int .u64 150] 225)
def A3 (t:Addr) (w:World):World:=((w.alloc (.cells #[.pointer (some t)] 185)).alloc (.cells #[hDD,.pointer (some ⟨w.heap.size,0,none⟩),.int .u64 150] 225)).alloc (.cells #[hDD,.pointer (some ⟨w.heap.size,0,none⟩),.int .u64 150] 225)
theorem as_hit (e t:Addr) (old:Value) (w:World) (hg:w.cell? ⟨6,0,none⟩=some eTy) (ht0:w.cell? t=some old) (hf0:w.frozen? t=false) :
  Calls Tryz.prog 86 #[.iface 181 (.pointer (some e)),.iface 185 (.pointer (some t))] w fun ev w'=>ev=.returned (.bool true)∧w'=((A3 t w).alloc (.cells #[.pointer (some e)] 181)).setCell t (.pointer (some e)):=by
 have a1:=cValueT
 have a2:=cValueD
 have a3:=cTypeT
 have a4:=cKindT
 have a5:=cKindD
 have a6:=mKind
 have a7:=mElem
 have a8:=mImplements
 have a9:=mAssignableTo
 have b1:=cElemT
 have b2:=cImplD
 have b3:=cTypeOfD
 have b4:=cAssignD
 have hlt:6 < w.heap.size:=lt_of_cell hg
 have htl:t.block < w.heap.size:=lt_of_cell ht0
 have n8:=cIsNil ⟨w.heap.size,0,none⟩ t (A2 t w) (by unfold A2;simp)
 have hg2:(A2 t w).cell? ⟨6,0,none⟩=some eTy:=by
  unfold A2
  rw [World.cell?_alloc_lt _ _ ⟨6,0,none⟩ (by simp;omega),World.cell?_alloc_lt _ _ ⟨6,0,none⟩ hlt];exact hg
 have el:=cElemV ⟨w.heap.size,0,none⟩ t (A3 t w) (by unfold A3;rw [World.cell?_alloc_lt _ _ ⟨w.heap.size,0,none⟩ (by simp;omega)];simp)
 have st:=cSet t ⟨w.heap.size+1+1+1,0,none⟩ e old ((A3 t w).alloc (.cells #[.pointer (some e)] 181))
  (by unfold A3;rw [World.cell?_alloc_at _ _ _ _ (by simp)];rfl)
  (by unfold A3;rw [World.cell?_alloc_lt _ _ t (by simp;omega),World.cell?_alloc_lt _ _ t (by simp;omega),World.cell?_alloc_lt _ _ t (by simp;omega),World.cell?_alloc_lt _ _ t htl];exact ht0)
  (by unfold A3;rw [World.frozen?_alloc_old _ _ t (by simp;omega),World.frozen?_alloc_old _ _ t (by simp;omega),World.frozen?_alloc_old _ _ t (by simp;omega),World.frozen?_alloc_old _ _ t (Nat.ne_of_lt htl)];exact hf0)
 unfold A3 at st el ⊢
 unfold A2 at n8 hg2
 clear hg ht0 hf0
 go_enter Tryz.func86,Tryz.ntmps86
 go_wp2
 refine wp_loop_rounds 1 ?_
 rw [rounds_succ]
 go_wp2
 go_ret
 exact ⟨rfl,rfl⟩
theorem as_miss (x t:Addr) (w:World) (hg:w.cell? ⟨6,0,none⟩=some eTy) :
  Calls Tryz.prog 86 #[errV x,.iface 185 (.pointer (some t))] w fun ev w'=>ev=.returned (.bool false)∧w'=A3 t w:=by
 have a1:=cValueT
 have a3:=cTypeT
 have a4:=cKindT
 have a5:=cKindD
 have a6:=mKind
 have a7:=mElem
 have a8:=mImplements
 have a9:=mAssignableTo
 have b1:=cElemT
 have b2:=cImplD
 have b3:=cTypeOfE
 have b4:=cAssignE
 have b5:=kNoAsE
 have b6:=kNoUnwrapE
 have b7:=kNoUnwrapsE
 have hlt:6 < w.heap.size:=lt_of_cell hg
 have n8:=cIsNil ⟨w.heap.size,0,none⟩ t (A2 t w) (by unfold A2;simp)
 have hg2:(A2 t w).cell? ⟨6,0,none⟩=some eTy:=by
  unfold A2
  rw [World.cell?_alloc_lt _ _ ⟨6,0,none⟩ (by simp;omega),World.cell?_alloc_lt _ _ ⟨6,0,none⟩ hlt];exact hg
 unfold A3
 unfold A2 at n8 hg2
 clear hg
 go_enter Tryz.func86,Tryz.ntmps86
 go_wp2
 refine wp_loop_rounds 1 ?_
 rw [rounds_succ]
 go_wp2
 go_ret
 exact ⟨rfl,rfl⟩
end
section
open Go.RowKit Go.Extern.Stop Go.Stop Go.Extern
structure Errs (al:Nat→Addr) (w:World):Prop where
 size:27≤w.heap.size
 c0:w.cell? ⟨0,0,none⟩=some (errV (al 0))
 c1:w.cell? ⟨7,0,none⟩=some (errV (al 1))
 c2:w.cell? ⟨8,0,none⟩=some (errV (al 2))
 c3:w.cell? ⟨5,0,none⟩=some (errV (al 3))
 c4:w.cell? ⟨9,0,none⟩=some (errV (al 4))
 c5:w.cell? ⟨10,0,none⟩=some (errV (al 5))
 c6:w.cell? ⟨11,0,none⟩=some (errV (al 6))
 c7:w.cell? ⟨12,0,none⟩=some (errV (al 7))
 c8:w.cell? ⟨13,0,none⟩=some (errV (al 8))
 c9:w.cell? ⟨14,0,none⟩=some (errV (al 9))
 c10:w.cell? ⟨15,0,none⟩=some (errV (al 10))
 c11:w.cell? ⟨16,0,none⟩=some (errV (al 11))
 c12:w.cell? ⟨17,0,none⟩=some (errV (al 12))
 row:∀i,i < 13→∃c t,w.heap[(al i).block]?=some (.cells c t (0,0))
 et:w.cell? ⟨6,0,none⟩=some eTy
theorem Errs.below {al:Nat→Addr} {w w':World} (h:Errs al w) (hb:Below w.heap.size w w'):Errs al w':=by
 have hs:=h.size
 have up:∀{g:Nat} {v:Value},w.cell? ⟨g,0,none⟩=some v→w'.cell? ⟨g,0,none⟩=some v:=fun hc=>(hb.cell (lt_of_cell hc)).trans hc
 refine ⟨Nat.le_trans hs hb.size,up h.c0,up h.c1,up h.c2,up h.c3,up h.c4,up h.c5,up h.c6,up h.c7,up h.c8,up h.c9,up h.c10,up h.c11,up h.c12,fun i hi=>?_,up h.et⟩
 obtain ⟨c,t,hr⟩:=h.row i hi
 exact ⟨c,t,(hb.block _ (Array.getElem?_eq_some_iff.1 hr).1).trans hr⟩
def allRow (al:Nat→Addr):Array Value:=#[errV (al 0),errV (al 1),errV (al 2),errV (al 3),errV (al 4),errV (al 5),errV (al 6),errV (al 7),errV (al 8),errV (al 9),errV (al 10),errV (al 11),errV (al 12)]
theorem allRow_at (al:Nat→Addr) (j:Nat) (h:j < 13):(allRow al)[j]?=some (errV (al j)):=by
 have:j=0∨j=1∨j=2∨j=3∨j=4∨j=5∨j=6∨j=7∨j=8∨j=9∨j=10∨j=11∨j=12:=by omega
 rcases this with rfl | rfl | rfl | rfl | rfl | rfl | rfl | rfl | rfl | rfl | rfl | rfl | rfl <;> rfl
theorem errs_any (al:Nat→Addr) (w:World) (h:Errs al w) :
  Calls Tryz.prog 88 #[] w fun e w'=>e=.returned (.slice (some ⟨w.heap.size,0,none⟩) 13 13)∧w'=w.alloc (.cells (allRow al) 90):=by
 have q0:=h.c0
 have q1:=h.c1
 have q2:=h.c2
 have q3:=h.c3
 have q4:=h.c4
 have q5:=h.c5
 have q6:=h.c6
 have q7:=h.c7
 have q8:=h.c8
 have q9:=h.c9
 have q10:=h.c10
 have q11:=h.c11
 have q12:=h.c12
 clear h
 go_enter Tryz.func88,Tryz.ntmps88
 go_wp2
 go_ret
 exact ⟨rfl,rfl⟩
theorem unwrap_any (d:Nat) (at_:Int) (x:Addr) (w:World) (hd:w.heap[d]?=some (.cells #[.int .i64 at_,errV x] 187 (0,0))) :
  Calls Tryz.prog 87 #[.pointer (some ⟨d,0,none⟩)] w fun e w'=>e=.returned (errV x)∧w'=w:=by
 have hc1:w.cell? ⟨d,1,none⟩=some (errV x):=by rw [cell_of_row w d 1 _ _ _ hd];rfl
 clear hd
 go_enter Tryz.func87,Tryz.ntmps87
 go_wp2
 go_ret
 exact ⟨rfl,rfl⟩
theorem kCompD:(Tryz.prog.info? 181).map (·.comparable)=some true:=by kernel_rfl
theorem kSizeD:(Tryz.prog.info? 187).map (·.size)=some 2:=by kernel_rfl
theorem neq_err (x:Addr) (w:World):(binOp BinOp.neq 90 (errV x) (errV x)).run Tryz.prog w=.ok (.bool false) w:=by
 obtain ⟨i,hi,hcmp⟩:=Option.map_eq_some_iff.1 kCompE
 obtain ⟨j,hj,hjs⟩:=Option.map_eq_some_iff.1 kSizeE
 simp only [binOp]
 simp [Op.equal,Op.maxDepth,run_equalIn_iface_ptr_same w 9998 x Tryz.underlying90 Tryz.underlying312 hi hcmp hj]
theorem neq_diag (x:Addr) (w:World):(binOp BinOp.neq 90 (.iface 181 (.pointer (some x))) (.iface 181 (.pointer (some x)))).run Tryz.prog w=.ok (.bool false) w:=by
 obtain ⟨i,hi,hcmp⟩:=Option.map_eq_some_iff.1 kCompD
 obtain ⟨j,hj,hjs⟩:=Option.map_eq_some_iff.1 kSizeD
 simp only [binOp]
 simp [Op.equal,Op.maxDepth,run_equalIn_iface_ptr_same w 9998 x Tryz.underlying90 Tryz.underlying181 hi hcmp hj]
theorem fault_nil (w:World):Calls Tryz.prog 46 #[.nilIface] w fun e w'=>e=.returned (.agg #[.int .i64 0,.int .i64 0])∧Below w.heap.size w w':=by
 go_enter Tryz.func46,Tryz.ntmps46
 go_wp2
 exact bodyPost_ret (v:=.agg #[.int .i64 0,.int .i64 0]) (by simp [results,Tryz.results46,go_sem]) rfl ⟨rfl,(Below.refl _ _).alloc (Nat.le_refl _) _⟩
structure Fb (w W:World) (E T:Int) (p:Option Addr):Prop where
 b0:W.heap[w.heap.size]?=some (.cells #[.int .i64 0,.int .i64 0] 40 (0,0))
 b1:W.heap[w.heap.size+1]?=some (.cells #[.int .i64 E,.int .i64 T] 40 (0,0))
 b2:W.heap[w.heap.size+1+1]?=some (.cells #[.pointer p] 181 (0,0))
 bl:Below w.heap.size w W
theorem Fb.keep {w W W':World} {E T:Int} {p:Option Addr} (h:Fb w W E T p) (k:Below W.heap.size W W'):Fb w W' E T p:=
 ⟨(k.block _ (Array.getElem?_eq_some_iff.1 h.b0).1).trans h.b0,(k.block _ (Array.getElem?_eq_some_iff.1 h.b1).1).trans h.b1,(k.block _ (Array.getElem?_eq_some_iff.1 h.b2).1).trans h.b2,h.bl.trans (k.mono h.bl.size)⟩
theorem Fb.setE {w W:World} {E T:Int} {p:Option Addr} (h:Fb w W E T p) (E':Int):Fb w (W.setCell ⟨w.heap.size+1,0,none⟩ (.int .i64 E')) E' T p:=by
 refine ⟨(Below.heap_setCell _ _ _ _ (by simp)).trans h.b0,?_,(Below.heap_setCell _ _ _ _ (by simp)).trans h.b2,h.bl.setCell (p:=⟨w.heap.size+1,0,none⟩) (Nat.le_succ _) _⟩
 show (W.heap.modify (w.heap.size+1) _)[w.heap.size+1]?=_
 rw [Array.getElem?_modify,if_pos rfl,h.b1];rfl
theorem Fb.setT {w W:World} {E T:Int} {p:Option Addr} (h:Fb w W E T p) (T':Int):Fb w (W.setCell ⟨w.heap.size+1,1,none⟩ (.int .i64 T')) E T' p:=by
 refine ⟨(Below.heap_setCell _ _ _ _ (by simp)).trans h.b0,?_,(Below.heap_setCell _ _ _ _ (by simp)).trans h.b2,h.bl.setCell (p:=⟨w.heap.size+1,1,none⟩) (Nat.le_succ _) _⟩
 show (W.heap.modify (w.heap.size+1) _)[w.heap.size+1]?=_
 rw [Array.getElem?_modify,if_pos rfl,h.b1];rfl
theorem Fb.setD {w W:World} {E T:Int} {p:Option Addr} (h:Fb w W E T p) (p':Option Addr):Fb w (W.setCell ⟨w.heap.size+1+1,0,none⟩ (.pointer p')) E T p':=by
 refine ⟨(Below.heap_setCell _ _ _ _ (by simp;omega)).trans h.b0,(Below.heap_setCell _ _ _ _ (by simp)).trans h.b1,?_,h.bl.setCell (p:=⟨w.heap.size+1+1,0,none⟩) (Nat.le_add_right _ 2) _⟩
 show (W.heap.modify (w.heap.size+1+1) _)[w.heap.size+1+1]?=_
 rw [Array.getElem?_modify,if_pos rfl,h.b2];rfl
theorem below_A3 (t:Addr) (w:World):Below w.heap.size w (A3 t w):=(((Below.refl _ _).alloc (Nat.le_refl _) _).alloc (by simp) _).alloc (by simp;omega) _
theorem Fb.cells {w W:World} {E T:Int} {p:Option Addr} (h:Fb w W E T p) :
  W.cell? ⟨w.heap.size,0,none⟩=some (.int .i64 0)∧W.cell? ⟨w.heap.size,1,none⟩=some (.int .i64 0)∧W.cell? ⟨w.heap.size+1,0,none⟩=some (.int .i64 E)∧W.cell? ⟨w.heap.size+1,1,none⟩=some (.int .i64 T)∧W.cell? ⟨w.heap.size+1+1,0,none⟩=some (.pointer p) ∧
  (∀o,W.frozen? ⟨w.heap.size,o,none⟩=false)∧(∀o,W.frozen? ⟨w.heap.size+1,o,none⟩=false):=by
 refine ⟨?_,?_,?_,?_,?_,fun o=>?_,fun o=>?_⟩
 ·rw [cell_of_row W _ 0 _ _ _ h.b0];rfl
 ·rw [cell_of_row W _ 1 _ _ _ h.b0];rfl
 ·rw [cell_of_row W _ 0 _ _ _ h.b1];rfl
 ·rw [cell_of_row W _ 1 _ _ _ h.b1];rfl
 ·rw [cell_of_row W _ 0 _ _ _ h.b2];rfl
 ·unfold World.frozen?;rw [h.b0];simp
 ·unfold World.frozen?;rw [h.b1];simp
def lastOf (al:Nat→Addr) (x:Addr):Nat→Int
 | 0=>14
 | j+1=>if x=al j then (j:Int)+1 else lastOf al x j
theorem fb_start (w:World):Fb w (((w.alloc (.cells #[.int .i64 0,.int .i64 0] 40)).alloc (.cells #[.int .i64 14,.int .i64 (-1)] 40)).alloc (.cells #[.pointer none] 181)) 14 (-1) none:=by
 refine ⟨?_,?_,?_,(((Below.refl _ _).alloc (Nat.le_refl _) _).alloc (by simp) _).alloc (by simp;omega) _⟩
 ·rw [Below.heap_alloc _ _ _ (by simp;omega),Below.heap_alloc _ _ _ (by simp)];exact heap_alloc_new w _
 ·rw [Below.heap_alloc _ _ _ (by simp)]
  have:=heap_alloc_new (w.alloc (.cells #[.int .i64 0,.int .i64 0] 40)) (.cells #[.int .i64 14,.int .i64 (-1)] 40)
  simpa using this
 ·have:=heap_alloc_new ((w.alloc (.cells #[.int .i64 0,.int .i64 0] 40)).alloc (.cells #[.int .i64 14,.int .i64 (-1)] 40)) (.cells #[.pointer none] 181)
  simpa using this
set_option maxRecDepth 100000 in
theorem fault_diag (al:Nat→Addr) (d:Nat) (at_:Int) (x:Addr) (w:World) (HEr:Errs al w) (hd:w.heap[d]?=some (.cells #[.int .i64 at_,errV x] 187 (0,0))) (hx:∃c t,w.heap[x.block]?=some (.cells c t (0,0))) :
  Calls Tryz.prog 46 #[.iface 181 (.pointer (some ⟨d,0,none⟩))] w fun e w'=>e=.returned (.agg #[.int .i64 (lastOf al x 13),.int .i64 at_])∧Below w.heap.size w w':=by
 have HE:=hid HEr
 have HD:=hid hd
 have HX:=hid hx
 have HFS:=fb_start w
 clear HEr hd hx
 go_enter Tryz.func46,Tryz.ntmps46
 go_wp2_with fail
 generalize (((w.alloc (.cells #[.int .i64 0,.int .i64 0] 40)).alloc (.cells #[.int .i64 14,.int .i64 (-1)] 40)).alloc (.cells #[.pointer none] 181))=W3 at HFS ⊢
 have q2:=HFS.cells.2.2.2.2.1
 have fz2:W3.frozen? ⟨w.heap.size+1+1,0,none⟩=false:=by unfold World.frozen?;rw [HFS.b2];simp
 refine (as_hit ⟨d,0,none⟩ ⟨w.heap.size+1+1,0,none⟩ (.pointer none) W3 (HE.out.below HFS.bl).et q2 fz2).mono ?_
 rintro e w4 ⟨rfl,hw4⟩
 have F4:Fb w w4 14 (-1) (some ⟨d,0,none⟩):=by
  rw [hw4]
  exact (HFS.keep (((below_A3 _ W3).alloc (below_A3 _ W3).size _))).setD _
 clear hw4 HFS q2 fz2
 have cd0:w4.cell? ⟨d,0,none⟩=some (.int .i64 at_):=by rw [cell_of_row w4 d 0 _ _ _ ((F4.bl.block d (Array.getElem?_eq_some_iff.1 HD.out).1).trans HD.out)];rfl
 have cd1:w4.cell? ⟨d,1,none⟩=some (errV x):=by rw [cell_of_row w4 d 1 _ _ _ ((F4.bl.block d (Array.getElem?_eq_some_iff.1 HD.out).1).trans HD.out)];rfl
 have H4:Hid (w4.heap[d]?=some (.cells #[.int .i64 at_,errV x] 187 (0,0))):=(F4.bl.block d (Array.getElem?_eq_some_iff.1 HD.out).1).trans HD.out
 have n1:=neq_err
 have n2:=neq_diag
 obtain ⟨p0,p1,p2,p3,p4,z0,z1⟩:=F4.cells
 have HF4:=hid F4
 clear F4
 go_wp2_with fail
 go_quiet ((go_at_call 87;exact Calls.quiet_of_same (unwrap_any d at_ x _ H4.out)))
 go_wp2_with fail
 have HF5:Hid (Fb w ((w4.drewN nq).setCell ⟨w.heap.size+1,1,none⟩ (.int .i64 at_)) 14 at_ (some ⟨d,0,none⟩)):=(HF4.out.keep (below_drewN (Below.refl _ _) nq)).setT at_
 generalize (w4.drewN nq).setCell ⟨w.heap.size+1,1,none⟩ (.int .i64 at_)=W5 at HF5 ⊢
 have HRow:Hid (∀i,i < 13→∃c t,w.heap[(al i).block]?=some (.cells c t (0,0))):=HE.out.row
 clear p0 p1 p2 p3 p4 z0 z1 cd0 cd1 H4 HF4 n1 n2
 have L5:=hid (HE.out.below HF5.out.bl)
 clear HE
 refine (errs_any al W5 L5.out).mono ?_
 rintro e w6 ⟨rfl,hw6⟩
 have F6:Hid (Fb w w6 14 at_ (some ⟨d,0,none⟩)):=by rw [hw6];exact HF5.out.keep ((Below.refl _ _).alloc (Nat.le_refl _) _)
 have R6:Hid (w6.heap[W5.heap.size]?=some (.cells (allRow al) 90 (0,0))):=by rw [hw6];exact heap_alloc_new W5 _
 clear hw6
 go_wp2_with fail
 go_loopg [35] 13 (fun g s35 wr=>∃j:Nat,j≤13∧s35=.int .i64 j∧g=13 - j∧Hid (Fb w wr (lastOf al x j) at_ (some ⟨d,0,none⟩))∧Hid (wr.heap[W5.heap.size]?=some (.cells (allRow al) 90 (0,0))))
 case atStart=>exact ⟨0,by decide,rfl,rfl,F6,R6⟩
 case round=>
  obtain ⟨j,hj,rfl,hg,HF,HR⟩:=hrel
  have HG:=hid hg
  clear hg F6 R6
  obtain ⟨p0,p1,p2,p3,p4,z0,z1⟩:=HF.out.cells
  by_cases hlt:j < 13
  ·have hcj:wr.cell? ⟨W5.heap.size,j,none⟩=some (errV (al j)):=by rw [cell_of_row wr _ j _ _ _ HR.out];exact allRow_at al j hlt
   have HDr:Hid (wr.heap[d]?=some (.cells #[.int .i64 at_,errV x] 187 (0,0))):=(HF.out.bl.block d (Array.getElem?_eq_some_iff.1 HD.out).1).trans HD.out
   have HXr:Hid (∃c t,wr.heap[x.block]?=some (.cells c t (0,0))):=by
    obtain ⟨c,t,h⟩:=HX.out
    exact ⟨c,t,(HF.out.bl.block _ (Array.getElem?_eq_some_iff.1 h).1).trans h⟩
   have HRr:Hid (∃c t,wr.heap[(al j).block]?=some (.cells c t (0,0))):=by
    obtain ⟨c,t,h⟩:=HRow.out j hlt
    exact ⟨c,t,(HF.out.bl.block _ (Array.getElem?_eq_some_iff.1 h).1).trans h⟩
   go_wp2_with fail
   refine (is_diag d at_ x (al j) _ HDr.out HXr.out HRr.out).mono ?_
   rintro e w7 ⟨rfl,hw⟩
   rw [hw]
   clear hw w7
   by_cases hxj:x=al j
   ·rw [decide_eq_true hxj]
    have HXJ:=hid hxj
    clear hxj hcj
    go_wp2
    go_roundg (13 - (j+1))
    case measure=>have:=HG.out;omega
    case rel=>
     refine ⟨j+1,by omega,by go_num,rfl,?_,(Below.heap_setCell _ _ _ _ (by have:=HF.out.b1;have:=HR.out;show W5.heap.size≠w.heap.size+1;have:=HF5.out.b1;have:=(Array.getElem?_eq_some_iff.1 this).1;omega)).trans HR.out⟩
     have:=HF.out.setE ((j:Int)+1)
     show Fb w _ (if x=al j then (j:Int)+1 else lastOf al x j) _ _
     rw [if_pos HXJ.out]
     exact this
   ·rw [decide_eq_false hxj]
    have HXJ:=hid hxj
    clear hxj
    go_wp2
    go_roundg (13 - (j+1))
    case measure=>have:=HG.out;omega
    case rel=>
     refine ⟨j+1,by omega,by go_num,rfl,?_,HR⟩
     show Fb w _ (if x=al j then (j:Int)+1 else lastOf al x j) _ _
     rw [if_neg HXJ.out]
     exact HF.out
  ·have hj13:j=13:=by omega
   subst hj13
   go_wp2
   have r0:((wr.setCell ⟨w.heap.size,0,none⟩ (.int .i64 (lastOf al x 13))).setCell ⟨w.heap.size,1,none⟩ (.int .i64 at_)).cell? ⟨w.heap.size,0,none⟩=some (.int .i64 (lastOf al x 13)):=
    (World.cell?_setCell_other _ _ ⟨w.heap.size,0,none⟩ _ (by simp)).trans (World.cell?_setCell_same _ _ _ p0)
   have r1:((wr.setCell ⟨w.heap.size,0,none⟩ (.int .i64 (lastOf al x 13))).setCell ⟨w.heap.size,1,none⟩ (.int .i64 at_)).cell? ⟨w.heap.size,1,none⟩=some (.int .i64 at_):=
    World.cell?_setCell_same (wr.setCell ⟨w.heap.size,0,none⟩ (.int .i64 (lastOf al x 13))) _ _ ((World.cell?_setCell_other _ _ ⟨w.heap.size,1,none⟩ _ (by simp)).trans p1)
   exact bodyPost_ret (v:=.agg #[.int .i64 (lastOf al x 13),.int .i64 at_]) (by simp [results,Tryz.results46,go_sem,r0,r1]) rfl ⟨rfl,(HF.out.bl.setCell (Nat.le_refl _) _).setCell (p:=⟨w.heap.size,1,none⟩) (Nat.le_refl _) _⟩
set_option maxRecDepth 100000 in
theorem fault_err (al:Nat→Addr) (x:Addr) (w:World) (HEr:Errs al w) (hx:∃c t,w.heap[x.block]?=some (.cells c t (0,0))) :
  Calls Tryz.prog 46 #[errV x] w fun e w'=>e=.returned (.agg #[.int .i64 (lastOf al x 13),.int .i64 (-1)])∧Below w.heap.size w w':=by
 have HE:=hid HEr
 have HX:=hid hx
 have HFS:=fb_start w
 clear HEr hx
 go_enter Tryz.func46,Tryz.ntmps46
 go_wp2_with fail
 generalize (((w.alloc (.cells #[.int .i64 0,.int .i64 0] 40)).alloc (.cells #[.int .i64 14,.int .i64 (-1)] 40)).alloc (.cells #[.pointer none] 181))=W3 at HFS ⊢
 refine (as_miss x ⟨w.heap.size+1+1,0,none⟩ W3 (HE.out.below HFS.bl).et).mono ?_
 rintro e W5 ⟨rfl,hw5⟩
 have HF5:Hid (Fb w W5 14 (-1) none):=by rw [hw5];exact HFS.keep (below_A3 _ W3)
 have HRow:Hid (∀i,i < 13→∃c t,w.heap[(al i).block]?=some (.cells c t (0,0))):=HE.out.row
 clear hw5 HFS
 go_wp2_with fail
 have L5:=hid (HE.out.below HF5.out.bl)
 clear HE
 refine (errs_any al W5 L5.out).mono ?_
 rintro e w6 ⟨rfl,hw6⟩
 have F6:Hid (Fb w w6 14 (-1) none):=by rw [hw6];exact HF5.out.keep ((Below.refl _ _).alloc (Nat.le_refl _) _)
 have R6:Hid (w6.heap[W5.heap.size]?=some (.cells (allRow al) 90 (0,0))):=by rw [hw6];exact heap_alloc_new W5 _
 clear hw6
 go_wp2_with fail
 go_loopg [35] 13 (fun g s35 wr=>∃j:Nat,j≤13∧s35=.int .i64 j∧g=13 - j∧Hid (Fb w wr (lastOf al x j) (-1) none)∧Hid (wr.heap[W5.heap.size]?=some (.cells (allRow al) 90 (0,0))))
 case atStart=>exact ⟨0,by decide,rfl,rfl,F6,R6⟩
 case round=>
  obtain ⟨j,hj,rfl,hg,HF,HR⟩:=hrel
  have HG:=hid hg
  clear hg F6 R6
  obtain ⟨p0,p1,p2,p3,p4,z0,z1⟩:=HF.out.cells
  by_cases hlt:j < 13
  ·have hcj:wr.cell? ⟨W5.heap.size,j,none⟩=some (errV (al j)):=by rw [cell_of_row wr _ j _ _ _ HR.out];exact allRow_at al j hlt
   have HXr:Hid (∃c t,wr.heap[x.block]?=some (.cells c t (0,0))):=by
    obtain ⟨c,t,h⟩:=HX.out
    exact ⟨c,t,(HF.out.bl.block _ (Array.getElem?_eq_some_iff.1 h).1).trans h⟩
   have HRr:Hid (∃c t,wr.heap[(al j).block]?=some (.cells c t (0,0))):=by
    obtain ⟨c,t,h⟩:=HRow.out j hlt
    exact ⟨c,t,(HF.out.bl.block _ (Array.getElem?_eq_some_iff.1 h).1).trans h⟩
   go_wp2_with fail
   refine (is_err x (al j) _ HXr.out HRr.out).mono ?_
   rintro e w7 ⟨rfl,hw⟩
   rw [hw]
   clear hw w7
   by_cases hxj:x=al j
   ·rw [decide_eq_true hxj]
    have HXJ:=hid hxj
    rw [←hxj]
    have hn:=neq_err x
    clear hxj hcj
    go_wp2
    go_roundg (13 - (j+1))
    case measure=>have:=HG.out;omega
    case rel=>
     refine ⟨j+1,by omega,by go_num,rfl,?_,(Below.heap_setCell _ _ _ _ (by have:=HF.out.b1;have:=HR.out;show W5.heap.size≠w.heap.size+1;have:=HF5.out.b1;have:=(Array.getElem?_eq_some_iff.1 this).1;omega)).trans HR.out⟩
     have:=HF.out.setE ((j:Int)+1)
     show Fb w _ (if x=al j then (j:Int)+1 else lastOf al x j) _ _
     rw [if_pos HXJ.out]
     exact this
   ·rw [decide_eq_false hxj]
    have HXJ:=hid hxj
    clear hxj
    go_wp2
    go_roundg (13 - (j+1))
    case measure=>have:=HG.out;omega
    case rel=>
     refine ⟨j+1,by omega,by go_num,rfl,?_,HR⟩
     show Fb w _ (if x=al j then (j:Int)+1 else lastOf al x j) _ _
     rw [if_neg HXJ.out]
     exact HF.out
  ·have hj13:j=13:=by omega
   subst hj13
   go_wp2
   have r0:((wr.setCell ⟨w.heap.size,0,none⟩ (.int .i64 (lastOf al x 13))).setCell ⟨w.heap.size,1,none⟩ (.int .i64 (-1))).cell? ⟨w.heap.size,0,none⟩=some (.int .i64 (lastOf al x 13)):=
    (World.cell?_setCell_other _ _ ⟨w.heap.size,0,none⟩ _ (by simp)).trans (World.cell?_setCell_same _ _ _ p0)
   have r1:((wr.setCell ⟨w.heap.size,0,none⟩ (.int .i64 (lastOf al x 13))).setCell ⟨w.heap.size,1,none⟩ (.int .i64 (-1))).cell? ⟨w.heap.size,1,none⟩=some (.int .i64 (-1)):=
    World.cell?_setCell_same (wr.setCell ⟨w.heap.size,0,none⟩ (.int .i64 (lastOf al x 13))) _ _ ((World.cell?_setCell_other _ _ ⟨w.heap.size,1,none⟩ _ (by simp)).trans p1)
   exact bodyPost_ret (v:=.agg #[.int .i64 (lastOf al x 13),.int .i64 (-1)]) (by simp [results,Tryz.results46,go_sem,r0,r1]) rfl ⟨rfl,(HF.out.bl.setCell (Nat.le_refl _) _).setCell (p:=⟨w.heap.size,1,none⟩) (Nat.le_refl _) _⟩
end
section
namespace Mil
theorem sees_other {s:St} {x y:Bytes} (h:sees s x=true) (hxy:(x==y)=false):sees s y=false:=by
 obtain ⟨h1,h2⟩:=sees_kind3 h
 unfold sees
 rw [h2,hxy];simp
theorem sees_no1 {s:St} {x:Bytes} (h:sees s x=true):¬s.tok.kind=1:=by
 rw [(sees_kind3 h).1];decide
def Rfby (s:St) (x:E) (t:St):Prop:=∃s2 c s4 y,want s sOpen=some s2∧constant s2=some c∧want c.2 sComma=some s4∧Ok 0 eNil s4 y∧want y.2 sShut=some t∧x=eFby c.1 y.1
def Runder (s:St) (x:E) (t:St):Prop:=∃s2 y s4 k,want s sOpen=some s2∧Ok 0 eNil s2 y∧want y.2 sComma=some s4∧number 2 1000 s4=some k∧want k.2 sShut=some t∧x=eUnder y.1 k.1
def Rhold (s:St) (x:E) (t:St):Prop:=∃s2 c s4 y s6 k,want s sOpen=some s2∧constant s2=some c∧want c.2 sComma=some s4∧Ok 0 eNil s4 y∧want y.2 sComma=some s6∧number 2 1000 s6=some k∧want k.2 sShut=some t∧x=eHold c.1 y.1 k.1
def Rleast (m:Bytes) (s:St) (x:E) (t:St):Prop:=∃s2 y s4 z,want s sOpen=some s2∧Ok 0 eNil s2 y∧want y.2 sComma=some s4∧Ok 0 eNil s4 z∧want z.2 sShut=some t∧x=eLeast m y.1 z.1
theorem atom_name {s:St} (h:s.tok.kind=1) (x:E×St):Ok 8 eNil s x↔(name s).map (fun y=>(eName y.1,y.2))=some x:=by
 constructor
 ·intro kk
  obtain ⟨n,hn⟩:=inv_atom kk
  unfold atom at hn
  rw [if_pos h] at hn
  exact hn
 ·intro kk
  refine ok_atom0 fun f=>?_
  unfold atom
  rw [if_pos h]
  exact kk
theorem atom_open {s:St} (h:sees s sOpen=true) (x:E×St):Ok 8 eNil s x↔∃s1 y s3,adv s=some s1∧Ok 0 eNil s1 y∧want y.2 sShut=some s3∧x=(y.1,s3):=by
 constructor
 ·intro kk
  obtain ⟨n,hn⟩:=inv_atom kk
  unfold atom at hn
  rw [if_neg (sees_no1 h),if_pos h] at hn
  obtain ⟨s1,h1,hn⟩:=Option.bind_eq_some_iff.1 hn
  obtain ⟨y,h2,hn⟩:=Option.bind_eq_some_iff.1 hn
  obtain ⟨s3,h3,hn⟩:=Option.map_eq_some_iff.1 hn
  exact ⟨s1,y,s3,h1,⟨n,h2⟩,h3,hn.symm⟩
 ·rintro ⟨s1,y,s3,h1,⟨n,h2⟩,h3,rfl⟩
  refine ok_atom (n:=n) ?_
  unfold atom
  rw [if_neg (sees_no1 h),if_pos h,h1,Option.bind_some,h2,Option.bind_some,h3];rfl
theorem atom_fby {s:St} (h:sees s wFby=true) (x:E×St):Ok 8 eNil s x↔∃s1,adv s=some s1∧Rfby s1 x.1 x.2:=by
 have o1:=sees_other h (y:=sOpen) (by decide)
 constructor
 ·intro kk
  obtain ⟨n,hn⟩:=inv_atom kk
  unfold atom at hn
  rw [if_neg (sees_no1 h),o1,if_neg (by decide),if_pos h] at hn
  obtain ⟨s1,h1,hn⟩:=Option.bind_eq_some_iff.1 hn
  obtain ⟨s2,h2,hn⟩:=Option.bind_eq_some_iff.1 hn
  obtain ⟨c,h3,hn⟩:=Option.bind_eq_some_iff.1 hn
  obtain ⟨s4,h4,hn⟩:=Option.bind_eq_some_iff.1 hn
  obtain ⟨y,h5,hn⟩:=Option.bind_eq_some_iff.1 hn
  obtain ⟨s6,h6,rfl⟩:=Option.map_eq_some_iff.1 hn
  exact ⟨s1,h1,s2,c,s4,y,h2,h3,h4,⟨n,h5⟩,h6,rfl⟩
 ·rintro ⟨s1,h1,s2,c,s4,y,h2,h3,h4,⟨n,h5⟩,h6,h7⟩
  refine ok_atom (n:=n) ?_
  unfold atom
  rw [if_neg (sees_no1 h),o1,if_neg (by decide),if_pos h,h1,Option.bind_some,h2,Option.bind_some,h3,Option.bind_some,h4,Option.bind_some,h5,Option.bind_some,h6,←h7];rfl
theorem atom_under {s:St} (h:sees s wUnder=true) (x:E×St):Ok 8 eNil s x↔∃s1,adv s=some s1∧Runder s1 x.1 x.2:=by
 have o1:=sees_other h (y:=sOpen) (by decide)
 have o2:=sees_other h (y:=wFby) (by decide)
 constructor
 ·intro kk
  obtain ⟨n,hn⟩:=inv_atom kk
  unfold atom at hn
  rw [if_neg (sees_no1 h),o1,if_neg (by decide),o2,if_neg (by decide),if_pos h] at hn
  obtain ⟨s1,h1,hn⟩:=Option.bind_eq_some_iff.1 hn
  obtain ⟨s2,h2,hn⟩:=Option.bind_eq_some_iff.1 hn
  obtain ⟨y,h3,hn⟩:=Option.bind_eq_some_iff.1 hn
  obtain ⟨s4,h4,hn⟩:=Option.bind_eq_some_iff.1 hn
  obtain ⟨k,h5,hn⟩:=Option.bind_eq_some_iff.1 hn
  obtain ⟨s6,h6,rfl⟩:=Option.map_eq_some_iff.1 hn
  exact ⟨s1,h1,s2,y,s4,k,h2,⟨n,h3⟩,h4,h5,h6,rfl⟩
 ·rintro ⟨s1,h1,s2,y,s4,k,h2,⟨n,h3⟩,h4,h5,h6,h7⟩
  refine ok_atom (n:=n) ?_
  unfold atom
  rw [if_neg (sees_no1 h),o1,if_neg (by decide),o2,if_neg (by decide),if_pos h,h1,Option.bind_some,h2,Option.bind_some,h3,Option.bind_some,h4,Option.bind_some,h5,Option.bind_some,h6,←h7];rfl
theorem atom_hold {s:St} (h:sees s wHold=true) (x:E×St):Ok 8 eNil s x↔∃s1,adv s=some s1∧Rhold s1 x.1 x.2:=by
 have o1:=sees_other h (y:=sOpen) (by decide)
 have o2:=sees_other h (y:=wFby) (by decide)
 have o3:=sees_other h (y:=wUnder) (by decide)
 constructor
 ·intro kk
  obtain ⟨n,hn⟩:=inv_atom kk
  unfold atom at hn
  rw [if_neg (sees_no1 h),o1,if_neg (by decide),o2,if_neg (by decide),o3,if_neg (by decide),if_pos h] at hn
  obtain ⟨s1,h1,hn⟩:=Option.bind_eq_some_iff.1 hn
  obtain ⟨s2,h2,hn⟩:=Option.bind_eq_some_iff.1 hn
  obtain ⟨c,h3,hn⟩:=Option.bind_eq_some_iff.1 hn
  obtain ⟨s4,h4,hn⟩:=Option.bind_eq_some_iff.1 hn
  obtain ⟨y,h5,hn⟩:=Option.bind_eq_some_iff.1 hn
  obtain ⟨s6,h6,hn⟩:=Option.bind_eq_some_iff.1 hn
  obtain ⟨k,h7,hn⟩:=Option.bind_eq_some_iff.1 hn
  obtain ⟨s8,h8,rfl⟩:=Option.map_eq_some_iff.1 hn
  exact ⟨s1,h1,s2,c,s4,y,s6,k,h2,h3,h4,⟨n,h5⟩,h6,h7,h8,rfl⟩
 ·rintro ⟨s1,h1,s2,c,s4,y,s6,k,h2,h3,h4,⟨n,h5⟩,h6,h7,h8,h9⟩
  refine ok_atom (n:=n) ?_
  unfold atom
  rw [if_neg (sees_no1 h),o1,if_neg (by decide),o2,if_neg (by decide),o3,if_neg (by decide),if_pos h,h1,Option.bind_some,h2,Option.bind_some,h3,Option.bind_some,h4,Option.bind_some,h5,Option.bind_some,h6,Option.bind_some,h7,Option.bind_some,h8,←h9];rfl
theorem atom_least {s:St} {m:Bytes} (hm:m=wMin∨m=wMax) (h:sees s m=true) (x:E×St):Ok 8 eNil s x↔∃s1,adv s=some s1∧Rleast m s1 x.1 x.2:=by
 have o1:sees s sOpen=false:=sees_other h (by rcases hm with rfl | rfl <;> decide)
 have o2:sees s wFby=false:=sees_other h (by rcases hm with rfl | rfl <;> decide)
 have o3:sees s wUnder=false:=sees_other h (by rcases hm with rfl | rfl <;> decide)
 have o4:sees s wHold=false:=sees_other h (by rcases hm with rfl | rfl <;> decide)
 have o5:(sees s wMin || sees s wMax)=true:=by
  rcases hm with rfl | rfl
  ·rw [h];rfl
  ·rw [h];simp
 have ht:=(sees_kind3 h).2
 constructor
 ·intro kk
  obtain ⟨n,hn⟩:=inv_atom kk
  unfold atom at hn
  rw [if_neg (sees_no1 h),o1,if_neg (by decide),o2,if_neg (by decide),o3,if_neg (by decide),o4,if_neg (by decide),if_pos o5] at hn
  obtain ⟨s1,h1,hn⟩:=Option.bind_eq_some_iff.1 hn
  obtain ⟨s2,h2,hn⟩:=Option.bind_eq_some_iff.1 hn
  obtain ⟨y,h3,hn⟩:=Option.bind_eq_some_iff.1 hn
  obtain ⟨s4,h4,hn⟩:=Option.bind_eq_some_iff.1 hn
  obtain ⟨z,h5,hn⟩:=Option.bind_eq_some_iff.1 hn
  obtain ⟨s6,h6,rfl⟩:=Option.map_eq_some_iff.1 hn
  exact ⟨s1,h1,s2,y,s4,z,h2,⟨n,h3⟩,h4,⟨n,h5⟩,h6,by rw [ht]⟩
 ·rintro ⟨s1,h1,s2,y,s4,z,h2,⟨n,h3⟩,h4,⟨n2,h5⟩,h6,h7⟩
  have f3:=px_le (show n≤n+n2 by omega) h3
  have f5:=px_le (show n2≤n+n2 by omega) h5
  refine ok_atom (n:=n+n2) ?_
  unfold atom
  rw [if_neg (sees_no1 h),o1,if_neg (by decide),o2,if_neg (by decide),o3,if_neg (by decide),o4,if_neg (by decide),if_pos o5,h1,Option.bind_some,h2,Option.bind_some,f3,Option.bind_some,h4,Option.bind_some,f5,Option.bind_some,h6,ht,←h7];rfl
theorem atom_lit {s:St} (h0:s.tok.kind≠1) (o1:sees s sOpen=false) (o2:sees s wFby=false) (o3:sees s wUnder=false) (o4:sees s wHold=false) (o5:sees s wMin=false) (o6:sees s wMax=false) (x:E×St) :
  Ok 8 eNil s x↔literal s=some x:=by
 constructor
 ·intro kk
  obtain ⟨n,hn⟩:=inv_atom kk
  unfold atom at hn
  rw [if_neg h0,o1,if_neg (by decide),o2,if_neg (by decide),o3,if_neg (by decide),o4,if_neg (by decide),o5,o6,if_neg (by decide)] at hn
  exact hn
 ·intro kk
  refine ok_atom0 fun f=>?_
  unfold atom
  rw [if_neg h0,o1,if_neg (by decide),o2,if_neg (by decide),o3,if_neg (by decide),o4,if_neg (by decide),o5,o6,if_neg (by decide)]
  exact kk
end Mil
end
end Go.Proofs.YtoiajojadihpbaaGreatDoor
