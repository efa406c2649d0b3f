import Derived.Test.YticbokabjhnagaaGreatDoorW30
import Derived.Test.YticbokabjhnagaaGreatDoorW28
import Derived.Test.YticbokabjhnagaaGreatDoorW19
namespace Go.Proofs.YticbokabjhnagaaGreatDoor
set_option maxHeartbeats 32000000
section
open Go.RowKit Go.Extern.Stop Go.Stop Go.Extern
structure Errs (al:Nat→Addr) (w:World):Prop where
 size:23≤w.heap.size
 c0:w.cell? ⟨2,0,none⟩=some (errV (al 0))
 c1:w.cell? ⟨4,0,none⟩=some (errV (al 1))
 c2:w.cell? ⟨5,0,none⟩=some (errV (al 2))
 c3:w.cell? ⟨6,0,none⟩=some (errV (al 3))
 c4:w.cell? ⟨7,0,none⟩=some (errV (al 4))
 c5:w.cell? ⟨8,0,none⟩=some (errV (al 5))
 c6:w.cell? ⟨9,0,none⟩=some (errV (al 6))
 c7:w.cell? ⟨10,0,none⟩=some (errV (al 7))
 c8:w.cell? ⟨11,0,none⟩=some (errV (al 8))
 c9:w.cell? ⟨12,0,none⟩=some (errV (al 9))
 c10:w.cell? ⟨0,0,none⟩=some (errV (al 10))
 c11:w.cell? ⟨1,0,none⟩=some (errV (al 11))
 c12:w.cell? ⟨13,0,none⟩=some (errV (al 12))
 row:∀i,i < 13→∃c t,w.heap[(al i).block]?=some (.cells c t (0,0))
 et:w.cell? ⟨3,0,none⟩=some eTy
theorem Errs.below {al:Nat→Addr} {w w':World} (h:Errs al w) (hb:Below w.heap.size w w'):Errs al w':=by
 have hs:=h.size
 have up:∀{g:Nat} {v:Value},w.cell? ⟨g,0,none⟩=some v→w'.cell? ⟨g,0,none⟩=some v:=fun hc=>(hb.cell (lt_of_cell hc)).trans hc
 refine ⟨Nat.le_trans hs hb.size,up h.c0,up h.c1,up h.c2,up h.c3,up h.c4,up h.c5,up h.c6,up h.c7,up h.c8,up h.c9,up h.c10,up h.c11,up h.c12,fun i hi=>?_,up h.et⟩
 obtain ⟨c,t,hr⟩:=h.row i hi
 exact ⟨c,t,(hb.block _ (Array.getElem?_eq_some_iff.1 hr).1).trans hr⟩
def allRow (al:Nat→Addr):Array Value:=#[errV (al 0),errV (al 1),errV (al 2),errV (al 3),errV (al 4),errV (al 5),errV (al 6),errV (al 7),errV (al 8),errV (al 9),errV (al 10),errV (al 11),errV (al 12)]
theorem allRow_at (al:Nat→Addr) (j:Nat) (h:j < 13):(allRow al)[j]?=some (errV (al j)):=by
 have:j=0∨j=1∨j=2∨j=3∨j=4∨j=5∨j=6∨j=7∨j=8∨j=9∨j=10∨j=11∨j=12:=by omega
 rcases this with rfl | rfl | rfl | rfl | rfl | rfl | rfl | rfl | rfl | rfl | rfl | rfl | rfl <;> rfl
theorem errs_any (al:Nat→Addr) (w:World) (h:Errs al w) :
  Calls Tryz.prog 26 #[] w fun e w'=>e=.returned (.slice (some ⟨w.heap.size,0,none⟩) 13 13)∧w'=w.alloc (.cells (allRow al) 51):=by
 have q0:=h.c0
 have q1:=h.c1
 have q2:=h.c2
 have q3:=h.c3
 have q4:=h.c4
 have q5:=h.c5
 have q6:=h.c6
 have q7:=h.c7
 have q8:=h.c8
 have q9:=h.c9
 have q10:=h.c10
 have q11:=h.c11
 have q12:=h.c12
 clear h
 go_enter Tryz.func26,Tryz.ntmps26
 go_wp2
 go_ret
 exact ⟨rfl,rfl⟩
theorem unwrap_any (d:Nat) (at_:Int) (x:Addr) (w:World) (hd:w.heap[d]?=some (.cells #[.int .i64 at_,errV x] 81 (0,0))) :
  Calls Tryz.prog 25 #[.pointer (some ⟨d,0,none⟩)] w fun e w'=>e=.returned (errV x)∧w'=w:=by
 have hc1:w.cell? ⟨d,1,none⟩=some (errV x):=by rw [cell_of_row w d 1 _ _ _ hd];rfl
 clear hd
 go_enter Tryz.func25,Tryz.ntmps25
 go_wp2
 go_ret
 exact ⟨rfl,rfl⟩
theorem kCompD:(Tryz.prog.info? 69).map (·.comparable)=some true:=by kernel_rfl
theorem kSizeD:(Tryz.prog.info? 81).map (·.size)=some 2:=by kernel_rfl
theorem neq_err (x:Addr) (w:World):(binOp BinOp.neq 51 (errV x) (errV x)).run Tryz.prog w=.ok (.bool false) w:=by
 obtain ⟨i,hi,hcmp⟩:=Option.map_eq_some_iff.1 kCompE
 obtain ⟨j,hj,hjs⟩:=Option.map_eq_some_iff.1 kSizeE
 simp only [binOp]
 simp [Op.equal,Op.maxDepth,run_equalIn_iface_ptr_same w 9998 x Tryz.underlying51 Tryz.underlying285 hi hcmp hj]
theorem neq_diag (x:Addr) (w:World):(binOp BinOp.neq 51 (.iface 69 (.pointer (some x))) (.iface 69 (.pointer (some x)))).run Tryz.prog w=.ok (.bool false) w:=by
 obtain ⟨i,hi,hcmp⟩:=Option.map_eq_some_iff.1 kCompD
 obtain ⟨j,hj,hjs⟩:=Option.map_eq_some_iff.1 kSizeD
 simp only [binOp]
 simp [Op.equal,Op.maxDepth,run_equalIn_iface_ptr_same w 9998 x Tryz.underlying51 Tryz.underlying69 hi hcmp hj]
theorem fault_nil (w:World):Calls Tryz.prog 13 #[.nilIface] w fun e w'=>e=.returned (.agg #[.int .i64 0,.int .i64 0])∧Below w.heap.size w w':=by
 go_enter Tryz.func13,Tryz.ntmps13
 go_wp2
 exact bodyPost_ret (v:=.agg #[.int .i64 0,.int .i64 0]) (by simp [results,Tryz.results13,go_sem]) rfl ⟨rfl,(Below.refl _ _).alloc (Nat.le_refl _) _⟩
structure Fb (w W:World) (E T:Int) (p:Option Addr):Prop where
 b0:W.heap[w.heap.size]?=some (.cells #[.int .i64 0,.int .i64 0] 27 (0,0))
 b1:W.heap[w.heap.size+1]?=some (.cells #[.int .i64 E,.int .i64 T] 27 (0,0))
 b2:W.heap[w.heap.size+1+1]?=some (.cells #[.pointer p] 69 (0,0))
 bl:Below w.heap.size w W
theorem Fb.keep {w W W':World} {E T:Int} {p:Option Addr} (h:Fb w W E T p) (k:Below W.heap.size W W'):Fb w W' E T p:=
 ⟨(k.block _ (Array.getElem?_eq_some_iff.1 h.b0).1).trans h.b0,(k.block _ (Array.getElem?_eq_some_iff.1 h.b1).1).trans h.b1,(k.block _ (Array.getElem?_eq_some_iff.1 h.b2).1).trans h.b2,h.bl.trans (k.mono h.bl.size)⟩
theorem Fb.setE {w W:World} {E T:Int} {p:Option Addr} (h:Fb w W E T p) (E':Int):Fb w (W.setCell ⟨w.heap.size+1,0,none⟩ (.int .i64 E')) E' T p:=by
 refine ⟨(Below.heap_setCell _ _ _ _ (by simp)).trans h.b0,?_,(Below.heap_setCell _ _ _ _ (by simp)).trans h.b2,h.bl.setCell (p:=⟨w.heap.size+1,0,none⟩) (Nat.le_succ _) _⟩
 show (W.heap.modify (w.heap.size+1) _)[w.heap.size+1]?=_
 rw [Array.getElem?_modify,if_pos rfl,h.b1];rfl
theorem Fb.setT {w W:World} {E T:Int} {p:Option Addr} (h:Fb w W E T p) (T':Int):Fb w (W.setCell ⟨w.heap.size+1,1,none⟩ (.int .i64 T')) E T' p:=by
 refine ⟨(Below.heap_setCell _ _ _ _ (by simp)).trans h.b0,?_,(Below.heap_setCell _ _ _ _ (by simp)).trans h.b2,h.bl.setCell (p:=⟨w.heap.size+1,1,none⟩) (Nat.le_succ _) _⟩
 show (W.heap.modify (w.heap.size+1) _)[w.heap.size+1]?=_
 rw [Array.getElem?_modify,if_pos rfl,h.b1];rfl
theorem Fb.setD {w W:World} {E T:Int} {p:Option Addr} (h:Fb w W E T p) (p':Option Addr):Fb w (W.setCell ⟨w.heap.size+1+1,0,none⟩ (.pointer p')) E T p':=by
 refine ⟨(Below.heap_setCell _ _ _ _ (by simp;omega)).trans h.b0,(Below.heap_setCell _ _ _ _ (by simp)).trans h.b1,?_,h.bl.setCell (p:=⟨w.heap.size+1+1,0,none⟩) (Nat.le_add_right _ 2) _⟩
 show (W.heap.modify (w.heap.size+1+1) _)[w.heap.size+1+1]?=_
 rw [Array.getElem?_modify,if_pos rfl,h.b2];rfl
theorem below_A3 (t:Addr) (w:World):Below w.heap.size w (A3 t w):=(((Below.refl _ _).alloc (Nat.le_refl _) _).alloc (by simp) _).alloc (by simp;omega) _
theorem Fb.cells {w W:World} {E T:Int} {p:Option Addr} (h:Fb w W E T p) :
  W.cell? ⟨w.heap.size,0,none⟩=some (.int .i64 0)∧W.cell? ⟨w.heap.size,1,none⟩=some (.int .i64 0)∧W.cell? ⟨w.heap.size+1,0,none⟩=some (.int .i64 E)∧W.cell? ⟨w.heap.size+1,1,none⟩=some (.int .i64 T)∧W.cell? ⟨w.heap.size+1+1,0,none⟩=some (.pointer p) ∧
  (∀o,W.frozen? ⟨w.heap.size,o,none⟩=false)∧(∀o,W.frozen? ⟨w.heap.size+1,o,none⟩=false):=by
 refine ⟨?_,?_,?_,?_,?_,fun o=>?_,fun o=>?_⟩
 ·rw [cell_of_row W _ 0 _ _ _ h.b0];rfl
 ·rw [cell_of_row W _ 1 _ _ _ h.b0];rfl
 ·rw [cell_of_row W _ 0 _ _ _ h.b1];rfl
 ·rw [cell_of_row W _ 1 _ _ _ h.b1];rfl
 ·rw [cell_of_row W _ 0 _ _ _ h.b2];rfl
 ·unfold World.frozen?;rw [h.b0];simp
 ·unfold World.frozen?;rw [h.b1];simp
def lastOf (al:Nat→Addr) (x:Addr):Nat→Int
 | 0=>14
 | j+1=>if x=al j then (j:Int)+1 else lastOf al x j
theorem fb_start (w:World):Fb w (((w.alloc (.cells #[.int .i64 0,.int .i64 0] 27)).alloc (.cells #[.int .i64 14,.int .i64 (-1)] 27)).alloc (.cells #[.pointer none] 69)) 14 (-1) none:=by
 refine ⟨?_,?_,?_,(((Below.refl _ _).alloc (Nat.le_refl _) _).alloc (by simp) _).alloc (by simp;omega) _⟩
 ·rw [Below.heap_alloc _ _ _ (by simp;omega),Below.heap_alloc _ _ _ (by simp)];exact heap_alloc_new w _
 ·rw [Below.heap_alloc _ _ _ (by simp)]
  have:=heap_alloc_new (w.alloc (.cells #[.int .i64 0,.int .i64 0] 27)) (.cells #[.int .i64 14,.int .i64 (-1)] 27)
  simpa using this
 ·have:=heap_alloc_new ((w.alloc (.cells #[.int .i64 0,.int .i64 0] 27)).alloc (.cells #[.int .i64 14,.int .i64 (-1)] 27)) (.cells #[.pointer none] 69)
  simpa using this
set_option maxRecDepth 100000 in
theorem fault_diag (al:Nat→Addr) (d:Nat) (at_:Int) (x:Addr) (w:World) (HEr:Errs al w) (hd:w.heap[d]?=some (.cells #[.int .i64 at_,errV x] 81 (0,0))) (hx:∃c t,w.heap[x.block]?=some (.cells c t (0,0))) :
  Calls Tryz.prog 13 #[.iface 69 (.pointer (some ⟨d,0,none⟩))] w fun e w'=>e=.returned (.agg #[.int .i64 (lastOf al x 13),.int .i64 at_])∧Below w.heap.size w w':=by
 have HE:Hid (Errs al w):=HEr
 have HD:Hid (w.heap[d]?=some (.cells #[.int .i64 at_,errV x] 81 (0,0))):=hd
 have HX:Hid (∃c t,w.heap[x.block]?=some (.cells c t (0,0))):=hx
 have HFS:=fb_start w
 clear HEr hd hx
 go_enter Tryz.func13,Tryz.ntmps13
 go_wp2_with fail
 generalize (((w.alloc (.cells #[.int .i64 0,.int .i64 0] 27)).alloc (.cells #[.int .i64 14,.int .i64 (-1)] 27)).alloc (.cells #[.pointer none] 69))=W3 at HFS ⊢
 have q2:=HFS.cells.2.2.2.2.1
 have fz2:W3.frozen? ⟨w.heap.size+1+1,0,none⟩=false:=by unfold World.frozen?;rw [HFS.b2];simp
 refine (as_hit ⟨d,0,none⟩ ⟨w.heap.size+1+1,0,none⟩ (.pointer none) W3 (HE.out.below HFS.bl).et q2 fz2).mono ?_
 rintro e w4 ⟨rfl,hw4⟩
 have F4:Fb w w4 14 (-1) (some ⟨d,0,none⟩):=by
  rw [hw4]
  exact (HFS.keep (((below_A3 _ W3).alloc (below_A3 _ W3).size _))).setD _
 clear hw4 HFS q2 fz2
 have cd0:w4.cell? ⟨d,0,none⟩=some (.int .i64 at_):=by rw [cell_of_row w4 d 0 _ _ _ ((F4.bl.block d (Array.getElem?_eq_some_iff.1 HD.out).1).trans HD.out)];rfl
 have cd1:w4.cell? ⟨d,1,none⟩=some (errV x):=by rw [cell_of_row w4 d 1 _ _ _ ((F4.bl.block d (Array.getElem?_eq_some_iff.1 HD.out).1).trans HD.out)];rfl
 have H4:Hid (w4.heap[d]?=some (.cells #[.int .i64 at_,errV x] 81 (0,0))):=(F4.bl.block d (Array.getElem?_eq_some_iff.1 HD.out).1).trans HD.out
 have n1:=neq_err
 have n2:=neq_diag
 obtain ⟨p0,p1,p2,p3,p4,z0,z1⟩:=F4.cells
 have HF4:Hid (Fb w w4 14 (-1) (some ⟨d,0,none⟩)):=F4
 clear F4
 go_wp2_with fail
 go_quiet ((go_at_call 25;exact Calls.quiet_of_same (unwrap_any d at_ x _ H4.out)))
 go_wp2_with fail
 have HF5:Hid (Fb w ((w4.drewN nq).setCell ⟨w.heap.size+1,1,none⟩ (.int .i64 at_)) 14 at_ (some ⟨d,0,none⟩)):=(HF4.out.keep (below_drewN (Below.refl _ _) nq)).setT at_
 generalize (w4.drewN nq).setCell ⟨w.heap.size+1,1,none⟩ (.int .i64 at_)=W5 at HF5 ⊢
 have HRow:Hid (∀i,i < 13→∃c t,w.heap[(al i).block]?=some (.cells c t (0,0))):=HE.out.row
 clear p0 p1 p2 p3 p4 z0 z1 cd0 cd1 H4 HF4 n1 n2
 have L5:Hid (Errs al W5):=HE.out.below HF5.out.bl
 clear HE
 refine (errs_any al W5 L5.out).mono ?_
 rintro e w6 ⟨rfl,hw6⟩
 have F6:Hid (Fb w w6 14 at_ (some ⟨d,0,none⟩)):=by rw [hw6];exact HF5.out.keep ((Below.refl _ _).alloc (Nat.le_refl _) _)
 have R6:Hid (w6.heap[W5.heap.size]?=some (.cells (allRow al) 51 (0,0))):=by rw [hw6];exact heap_alloc_new W5 _
 clear hw6
 go_wp2_with fail
 go_loopg [35] 13 (fun g s35 wr=>∃j:Nat,j≤13∧s35=.int .i64 j∧g=13 - j∧Hid (Fb w wr (lastOf al x j) at_ (some ⟨d,0,none⟩))∧Hid (wr.heap[W5.heap.size]?=some (.cells (allRow al) 51 (0,0))))
 case atStart=>exact ⟨0,by decide,rfl,rfl,F6,R6⟩
 case round=>
  obtain ⟨j,hj,rfl,hg,HF,HR⟩:=hrel
  have HG:Hid (gk=13 - j):=hg
  clear hg F6 R6
  obtain ⟨p0,p1,p2,p3,p4,z0,z1⟩:=HF.out.cells
  by_cases hlt:j < 13
  ·have hcj:wr.cell? ⟨W5.heap.size,j,none⟩=some (errV (al j)):=by rw [cell_of_row wr _ j _ _ _ HR.out];exact allRow_at al j hlt
   have HDr:Hid (wr.heap[d]?=some (.cells #[.int .i64 at_,errV x] 81 (0,0))):=(HF.out.bl.block d (Array.getElem?_eq_some_iff.1 HD.out).1).trans HD.out
   have HXr:Hid (∃c t,wr.heap[x.block]?=some (.cells c t (0,0))):=by
    obtain ⟨c,t,h⟩:=HX.out
    exact ⟨c,t,(HF.out.bl.block _ (Array.getElem?_eq_some_iff.1 h).1).trans h⟩
   have HRr:Hid (∃c t,wr.heap[(al j).block]?=some (.cells c t (0,0))):=by
    obtain ⟨c,t,h⟩:=HRow.out j hlt
    exact ⟨c,t,(HF.out.bl.block _ (Array.getElem?_eq_some_iff.1 h).1).trans h⟩
   go_wp2_with fail
   refine (is_diag d at_ x (al j) _ HDr.out HXr.out HRr.out).mono ?_
   rintro e w7 ⟨rfl,hw⟩
   rw [hw]
   clear hw w7
   by_cases hxj:x=al j
   ·rw [decide_eq_true hxj]
    have HXJ:Hid (x=al j):=hxj
    clear hxj hcj
    go_wp2
    go_roundg (13 - (j+1))
    case measure=>have:=HG.out;omega
    case rel=>
     refine ⟨j+1,by omega,by go_num,rfl,?_,(Below.heap_setCell _ _ _ _ (by have:=HF.out.b1;have:=HR.out;show W5.heap.size≠w.heap.size+1;have:=HF5.out.b1;have:=(Array.getElem?_eq_some_iff.1 this).1;omega)).trans HR.out⟩
     have:=HF.out.setE ((j:Int)+1)
     show Fb w _ (if x=al j then (j:Int)+1 else lastOf al x j) _ _
     rw [if_pos HXJ.out]
     exact this
   ·rw [decide_eq_false hxj]
    have HXJ:Hid (x≠al j):=hxj
    clear hxj
    go_wp2
    go_roundg (13 - (j+1))
    case measure=>have:=HG.out;omega
    case rel=>
     refine ⟨j+1,by omega,by go_num,rfl,?_,HR⟩
     show Fb w _ (if x=al j then (j:Int)+1 else lastOf al x j) _ _
     rw [if_neg HXJ.out]
     exact HF.out
  ·have hj13:j=13:=by omega
   subst hj13
   go_wp2
   have r0:((wr.setCell ⟨w.heap.size,0,none⟩ (.int .i64 (lastOf al x 13))).setCell ⟨w.heap.size,1,none⟩ (.int .i64 at_)).cell? ⟨w.heap.size,0,none⟩=some (.int .i64 (lastOf al x 13)):=
    (World.cell?_setCell_other _ _ ⟨w.heap.size,0,none⟩ _ (by simp)).trans (World.cell?_setCell_same _ _ _ p0)
   have r1:((wr.setCell ⟨w.heap.size,0,none⟩ (.int .i64 (lastOf al x 13))).setCell ⟨w.heap.size,1,none⟩ (.int .i64 at_)).cell? ⟨w.heap.size,1,none⟩=some (.int .i64 at_):=
    World.cell?_setCell_same (wr.setCell ⟨w.heap.size,0,none⟩ (.int .i64 (lastOf al x 13))) _ _ ((World.cell?_setCell_other _ _ ⟨w.heap.size,1,none⟩ _ (by simp)).trans p1)
   exact bodyPost_ret (v:=.agg #[.int .i64 (lastOf al x 13),.int .i64 at_]) (by simp [results,Tryz.results13,go_sem,r0,r1]) rfl ⟨rfl,(HF.out.bl.setCell (Nat.le_refl _) _).setCell (p:=⟨w.heap.size,1,none⟩) (Nat.le_refl _) _⟩
set_option maxRecDepth 100000 in
theorem fault_err (al:Nat→Addr) (x:Addr) (w:World) (HEr:Errs al w) (hx:∃c t,w.heap[x.block]?=some (.cells c t (0,0))) :
  Calls Tryz.prog 13 #[errV x] w fun e w'=>e=.returned (.agg #[.int .i64 (lastOf al x 13),.int .i64 (-1)])∧Below w.heap.size w w':=by
 have HE:Hid (Errs al w):=HEr
 have HX:Hid (∃c t,w.heap[x.block]?=some (.cells c t (0,0))):=hx
 have HFS:=fb_start w
 clear HEr hx
 go_enter Tryz.func13,Tryz.ntmps13
 go_wp2_with fail
 generalize (((w.alloc (.cells #[.int .i64 0,.int .i64 0] 27)).alloc (.cells #[.int .i64 14,.int .i64 (-1)] 27)).alloc (.cells #[.pointer none] 69))=W3 at HFS ⊢
 refine (as_miss x ⟨w.heap.size+1+1,0,none⟩ W3 (HE.out.below HFS.bl).et).mono ?_
 rintro e W5 ⟨rfl,hw5⟩
 have HF5:Hid (Fb w W5 14 (-1) none):=by rw [hw5];exact HFS.keep (below_A3 _ W3)
 have HRow:Hid (∀i,i < 13→∃c t,w.heap[(al i).block]?=some (.cells c t (0,0))):=HE.out.row
 clear hw5 HFS
 go_wp2_with fail
 have L5:Hid (Errs al W5):=HE.out.below HF5.out.bl
 clear HE
 refine (errs_any al W5 L5.out).mono ?_
 rintro e w6 ⟨rfl,hw6⟩
 have F6:Hid (Fb w w6 14 (-1) none):=by rw [hw6];exact HF5.out.keep ((Below.refl _ _).alloc (Nat.le_refl _) _)
 have R6:Hid (w6.heap[W5.heap.size]?=some (.cells (allRow al) 51 (0,0))):=by rw [hw6];exact heap_alloc_new W5 _
 clear hw6
 go_wp2_with fail
 go_loopg [35] 13 (fun g s35 wr=>∃j:Nat,j≤13∧s35=.int .i64 j∧g=13 - j∧Hid (Fb w wr (lastOf al x j) (-1) none)∧Hid (wr.heap[W5.heap.size]?=some (.cells (allRow al) 51 (0,0))))
 case atStart=>exact ⟨0,by decide,rfl,rfl,F6,R6⟩
 case round=>
  obtain ⟨j,hj,rfl,hg,HF,HR⟩:=hrel
  have HG:Hid (gk=13 - j):=hg
  clear hg F6 R6
  obtain ⟨p0,p1,p2,p3,p4,z0,z1⟩:=HF.out.cells
  by_cases hlt:j < 13
  ·have hcj:wr.cell? ⟨W5.heap.size,j,none⟩=some (errV (al j)):=by rw [cell_of_row wr _ j _ _ _ HR.out];exact allRow_at al j hlt
   have HXr:Hid (∃c t,wr.heap[x.block]?=some (.cells c t (0,0))):=by
    obtain ⟨c,t,h⟩:=HX.out
    exact ⟨c,t,(HF.out.bl.block _ (Array.getElem?_eq_some_iff.1 h).1).trans h⟩
   have HRr:Hid (∃c t,wr.heap[(al j).block]?=some (.cells c t (0,0))):=by
    obtain ⟨c,t,h⟩:=HRow.out j hlt
    exact ⟨c,t,(HF.out.bl.block _ (Array.getElem?_eq_some_iff.1 h).1).trans h⟩
   go_wp2_with fail
   refine (is_err x (al j) _ HXr.out HRr.out).mono ?_
   rintro e w7 ⟨rfl,hw⟩
   rw [hw]
   clear hw w7
   by_cases hxj:x=al j
   ·rw [decide_eq_true hxj]
    have HXJ:Hid (x=al j):=hxj
    rw [←hxj]
    have hn:=neq_err x
    clear hxj hcj
    go_wp2
    go_roundg (13 - (j+1))
    case measure=>have:=HG.out;omega
    case rel=>
     refine ⟨j+1,by omega,by go_num,rfl,?_,(Below.heap_setCell _ _ _ _ (by have:=HF.out.b1;have:=HR.out;show W5.heap.size≠w.heap.size+1;have:=HF5.out.b1;have:=(Array.getElem?_eq_some_iff.1 this).1;omega)).trans HR.out⟩
     have:=HF.out.setE ((j:Int)+1)
     show Fb w _ (if x=al j then (j:Int)+1 else lastOf al x j) _ _
     rw [if_pos HXJ.out]
     exact this
   ·rw [decide_eq_false hxj]
    have HXJ:Hid (x≠al j):=hxj
    clear hxj
    go_wp2
    go_roundg (13 - (j+1))
    case measure=>have:=HG.out;omega
    case rel=>
     refine ⟨j+1,by omega,by go_num,rfl,?_,HR⟩
     show Fb w _ (if x=al j then (j:Int)+1 else lastOf al x j) _ _
     rw [if_neg HXJ.out]
     exact HF.out
  ·have hj13:j=13:=by omega
   subst hj13
   go_wp2
   have r0:((wr.setCell ⟨w.heap.size,0,none⟩ (.int .i64 (lastOf al x 13))).setCell ⟨w.heap.size,1,none⟩ (.int .i64 (-1))).cell? ⟨w.heap.size,0,none⟩=some (.int .i64 (lastOf al x 13)):=
    (World.cell?_setCell_other _ _ ⟨w.heap.size,0,none⟩ _ (by simp)).trans (World.cell?_setCell_same _ _ _ p0)
   have r1:((wr.setCell ⟨w.heap.size,0,none⟩ (.int .i64 (lastOf al x 13))).setCell ⟨w.heap.size,1,none⟩ (.int .i64 (-1))).cell? ⟨w.heap.size,1,none⟩=some (.int .i64 (-1)):=
    World.cell?_setCell_same (wr.setCell ⟨w.heap.size,0,none⟩ (.int .i64 (lastOf al x 13))) _ _ ((World.cell?_setCell_other _ _ ⟨w.heap.size,1,none⟩ _ (by simp)).trans p1)
   exact bodyPost_ret (v:=.agg #[.int .i64 (lastOf al x 13),.int .i64 (-1)]) (by simp [results,Tryz.results13,go_sem,r0,r1]) rfl ⟨rfl,(HF.out.bl.setCell (Nat.le_refl _) _).setCell (p:=⟨w.heap.size,1,none⟩) (Nat.le_refl _) _⟩
end
section
open Go.RowKit
section
variable {P:Program} (w:World)
theorem run_append_none (t ty e:TypeId) (i:TypeInfo) (ht:P.underlying t=some (.slice e)) (hi:P.info? e=some i) (o:Option Addr) (n c:Nat) (h:n≤c):(Builtin.append_ #[t,t] ty #[.slice o n c,.slice none 0 0]).run P w=.ok (.slice o n c) w:=by
 cases o <;> simp [Builtin.append_,run_underlying ht,sizeOf,typeInfo,hi,Builtin.lenOf,h,run_firstCells_none,storeCells]
theorem wpList_append_none {ops:Array Oper} {rest:List Oper} {o:Oper} {a:Act} {Q:Exit→Act→World→Prop} (hgd:o.guard=none) (s x:Operand) (t:TypeId)
  (ho:o.op=.call { callee:=.builtin .append,args:=#[s,x],argTypes:=#[t,t] }) (e:TypeId) (i:TypeInfo) (ht:P.underlying t=some (.slice e)) (hi:P.info? e=some i) (q:Option Addr) (n c:Nat) (hnc:n≤c) (hs:a.eval s=.slice q n c) (hx:a.eval x=.slice none 0 0)
  (h:wpList P ops Q rest (a.put o.dst (.slice q n c)) w):wpList P ops Q (o::rest) a w:=
 wpList_plain hgd fun _ hK=>by
  have hr:=run_append_none (P:=P) w t o.type e i ht hi q n c hnc
  unfold Oper.wp execOp
  simp only [ho,resolve,invoke,builtin,Sem.run_bind,Sem.run_pure,Result.andThen_ok,List.map_toArray,List.map_cons,List.map_nil,hs,hx,hr]
  exact hK _ _ h
end
theorem own_cap {w:World} {base:Nat} {e:TypeId} {size:Nat} {o:Option Addr} {n c:Nat} {xs:List Value} (ho:w.ownsRow base e size (.slice o n c) n xs):n≤c:=by
 rcases ho.2 with ⟨h,h0⟩ | ⟨g,cap,cur,h,_,_,hc,_⟩
 ·omega
 ·injection h with h1 h2 h3
  omega
abbrev encN (k:Nat):Value:=.int .i64 (k:Nat)
def Ndr (w:World) (B:Nat) (v:Value) (L:List Nat):Prop:=w.ownsRow B 3 1 v L.length (L.map encN)∧(L=[]→v=.slice none 0 0)
theorem Ndr.below {w w':World} {B:Nat} {v:Value} {L:List Nat} (h:Ndr w B v L) (k:Below w.heap.size w w'):Ndr w' B v L:=⟨own_kept h.1 (fun q hq=>k.block q (lt_of_heap (own_lt h.1 q hq).2.choose_spec)),h.2⟩
theorem Ndr.base {w:World} {B B':Nat} {v:Value} {L:List Nat} (h:Ndr w B v L) (k:B'≤B):Ndr w B' v L:=⟨owns_from k h.1,h.2⟩
theorem Ndr.some {w:World} {B:Nat} {v:Value} {L:List Nat} (h:Ndr w B v L) (hL:L≠[]):∃g cap,v=.slice (some ⟨g,0,none⟩) L.length cap∧B≤g∧(∃cur,w.heap[g]?=some (.cells cur 3 (0,0)))∧∀j x,L[j]?=some x→w.cell? ⟨g,j,none⟩=some (encN x):=by
 have ho:=h.1
 rcases h.1.2 with ⟨_,h'⟩ | ⟨g,cap,cur,e,hb,hg,_⟩
 ·exact absurd (List.length_eq_zero_iff.1 h') hL
 ·rw [e] at ho
  exact ⟨g,cap,e,hb,⟨cur,hg⟩,fun j x hx=>own_cell ho (by rw [List.getElem?_map,hx];rfl)⟩
def NdPost (L:List Nat) (w:World) (E:Ending) (w':World):Prop:=Below w.heap.size w w'∧∃v,E=.returned v∧Ndr w' w.heap.size v L
def NC (N:Nat) (a:Nat→Addr) (c b n:Nat) (m:Mil.Bytes→Option Int) (e:Mip.E):Prop:=
 Mip.unres m e=none→∀w,Nm a c b n m w→Calls Tryz.prog 63 #[.pointer (some ⟨c,0,none⟩),ev N e] w (NdPost (Mip.nds m e) w)
theorem needs_name (N:Nat) (a:Nat→Addr) (c b n:Nat) (m:Mil.Bytes→Option Int) (F:List Flo) (hfit:Fit' m F) (p:Nat) (x:Mil.Bytes) (hx:Mil.NameOk x):NC N a c b n m (Mip.eName p x):=by
 intro hu w hN
 have HB:Hid (Below w.heap.size w (w.alloc (.cells #[.int .i64 ((N:Int) - (p:Nat)),.string (bs x)] 103))):=(Below.refl _ _).alloc (Nat.le_refl _) _
 have hta:=ta_name_name (.agg #[.int .i64 ((N:Int) - (p:Nat)),.string (bs x)])
 have hs:(m x).isSome=true:=by
  simp [Mip.unres,Mip.eName] at hu
  exact Option.isSome_iff_ne_none.2 hu
 obtain ⟨i,hi⟩:=Option.isSome_iff_exists.1 hs
 obtain ⟨i,rfl,_⟩:=hfit x i hi
 have h2:=hN.below HB.out
 have hl:=h2.mp.drew.at_ x (by have:=hx.2.2.1;omega)
 rw [hi] at hl
 have hl':(Instr.lookup 72 (.map (some b)) (.string (bs x)) false).run Tryz.prog (w.alloc (.cells #[.int .i64 ((N:Int) - (p:Nat)),.string (bs x)] 103)).drew=.ok (.int .i64 (i:Nat)) (w.alloc (.cells #[.int .i64 ((N:Int) - (p:Nat)),.string (bs x)] 103)).drew:=hl
 have hc2:=h2.c2
 have HND:Hid (Mip.nds m (Mip.eName p x)=[i]):=by
  show [((m x).getD 0).toNat]=_
  rw [hi];rfl
 clear hN hx hu hs hi h2 hl hfit
 show Calls Tryz.prog 63 #[.pointer (some ⟨c,0,none⟩),.iface 103 (.agg #[.int .i64 ((N:Int) - (p:Nat)),.string (bs x)])] w _
 go_enter Tryz.func63,Tryz.ntmps63
 go_wp2_with fail
 go_region
 go_wp2
 go_ret
 refine ⟨below_step HB.out (((Below.refl _ _).alloc (Nat.le_refl _) _)).drew,_,rfl,?_⟩
 rw [HND.out]
 have e:=heap_alloc_new (w.alloc (.cells #[.int .i64 ((N:Int) - (p:Nat)),.string (bs x)] 103)) (.cells #[.int .i64 (i:Nat)] 3)
 rw [World.size_alloc] at e
 exact ⟨⟨rfl,.inr ⟨_,1,#[.int .i64 (i:Nat)],rfl,Nat.le_succ _,e,Nat.le_refl _,by decide,rfl,rfl⟩⟩,fun e=>by cases e⟩
theorem needs_fby (N:Nat) (a:Nat→Addr) (c b n:Nat) (m:Mil.Bytes→Option Int) (p:Nat) (x0 x1:Mip.E) (h0:∃T y,ev N x0=.iface T y) (h1:∃T y,ev N x1=.iface T y):NC N a c b n m (Mip.eFby p x0 x1):=by
 intro _ w _
 obtain ⟨ta,ya,ea⟩:=h0
 obtain ⟨tb,yb,eb⟩:=h1
 have e0:ev N (Mip.eFby p x0 x1)=.iface 185 (.agg #[.int .i64 ((N:Int) - (p:Nat)),.iface ta ya,.iface tb yb]):=by
  show Value.iface 185 (.agg #[.int .i64 ((N:Int) - (p:Nat)),ev N x0,ev N x1])=_
  rw [ea,eb]
 have t1:=ta_fby_name (.agg #[.int .i64 ((N:Int) - (p:Nat)),.iface ta ya,.iface tb yb])
 have t2:=ta_fby_fby (.agg #[.int .i64 ((N:Int) - (p:Nat)),.iface ta ya,.iface tb yb])
 have t3:=ta_fby_hold (.agg #[.int .i64 ((N:Int) - (p:Nat)),.iface ta ya,.iface tb yb])
 clear ea eb
 show Calls Tryz.prog 63 #[.pointer (some ⟨c,0,none⟩),ev N (Mip.eFby p x0 x1)] w _
 rw [e0]
 clear e0
 go_enter Tryz.func63,Tryz.ntmps63
 go_wp2
 go_ret
 exact ⟨Below.refl _ _,_,rfl,World.ownsRow_nil _ _ _ _,fun _=>rfl⟩
theorem needs_hold (N:Nat) (a:Nat→Addr) (c b n:Nat) (m:Mil.Bytes→Option Int) (p:Nat) (x0 x1:Mip.E) (k:Nat) (h0:∃T y,ev N x0=.iface T y) (h1:∃T y,ev N x1=.iface T y):NC N a c b n m (Mip.eHold p x0 x1 k):=by
 intro _ w _
 obtain ⟨ta,ya,ea⟩:=h0
 obtain ⟨tb,yb,eb⟩:=h1
 have e0:ev N (Mip.eHold p x0 x1 k)=.iface 191 (.agg #[.int .i64 ((N:Int) - (p:Nat)),.iface ta ya,.iface tb yb,.int .i64 (k:Nat)]):=by
  show Value.iface 191 (.agg #[.int .i64 ((N:Int) - (p:Nat)),ev N x0,ev N x1,.int .i64 (k:Nat)])=_
  rw [ea,eb]
 have t1:=ta_hold_name (.agg #[.int .i64 ((N:Int) - (p:Nat)),.iface ta ya,.iface tb yb,.int .i64 (k:Nat)])
 have t2:=ta_hold_fby (.agg #[.int .i64 ((N:Int) - (p:Nat)),.iface ta ya,.iface tb yb,.int .i64 (k:Nat)])
 have t3:=ta_hold_hold (.agg #[.int .i64 ((N:Int) - (p:Nat)),.iface ta ya,.iface tb yb,.int .i64 (k:Nat)])
 clear ea eb
 show Calls Tryz.prog 63 #[.pointer (some ⟨c,0,none⟩),ev N (Mip.eHold p x0 x1 k)] w _
 rw [e0]
 clear e0
 go_enter Tryz.func63,Tryz.ntmps63
 go_wp2
 go_ret
 exact ⟨Below.refl _ _,_,rfl,World.ownsRow_nil _ _ _ _,fun _=>rfl⟩
def handsOn (e:Mip.E):Prop:=Mip.tg e≠3∧Mip.tg e≠7∧Mip.tg e≠9
theorem plain_node (N:Nat):∀e:Mip.E,Mil.wf (Mip.er e) false→handsOn e→∃T y,ev N e=.iface T y∧(∀w,(Instr.typeAssert (.iface T y) 105 103 true).run Tryz.prog w=.ok (.tuple #[.agg #[.int .i64 0,.string ⟨#[]⟩],.bool false]) w)∧(∀w,(Instr.typeAssert (.iface T y) 105 185 true).run Tryz.prog w=.ok (.tuple #[.agg #[.int .i64 0,.nilIface,.nilIface],.bool false]) w)∧(∀w,(Instr.typeAssert (.iface T y) 105 191 true).run Tryz.prog w=.ok (.tuple #[.agg #[.int .i64 0,.nilIface,.nilIface,.int .i64 0],.bool false]) w):=by
 refine Mip.tree_induct ?_ ?_ ?_ ?_ ?_ ?_ ?_ ?_ ?_ ?_
 ·intro p k _ _;exact ⟨_,_,rfl,ta_int_name _,ta_int_fby _,ta_int_hold _⟩
 ·intro p k _ _;exact ⟨_,_,rfl,ta_bool_name _,ta_bool_fby _,ta_bool_hold _⟩
 ·intro p x _ h;exact absurd rfl h.1
 ·intro p x a _ _ _;exact ⟨_,_,rfl,ta_pre_name _,ta_pre_fby _,ta_pre_hold _⟩
 ·intro p x a b _ _ _ _;exact ⟨_,_,rfl,ta_two_name _,ta_two_fby _,ta_two_hold _⟩
 ·intro p y a b d _ _ _ _;exact ⟨_,_,rfl,ta_if_name _,ta_if_fby _,ta_if_hold _⟩
 ·intro p a b _ _ h;exact absurd rfl h.2.1
 ·intro p a k _ _ _ _;exact ⟨_,_,rfl,ta_under_name _,ta_under_fby _,ta_under_hold _⟩
 ·intro p a b k _ _ _ _ h;exact absurd rfl h.2.2
 ·intro p x a b _ _ _ _;exact ⟨_,_,rfl,ta_least_name _,ta_least_fby _,ta_least_hold _⟩
theorem nds_kids (m:Mil.Bytes→Option Int):∀e:Mip.E,Mil.wf (Mip.er e) false→handsOn e→Mip.nds m e=(Mip.kids e).flatMap (Mip.nds m):=by
 refine Mip.tree_induct ?_ ?_ ?_ ?_ ?_ ?_ ?_ ?_ ?_ ?_
 ·intro p k _ _;rfl
 ·intro p k _ _;rfl
 ·intro p x _ h;exact absurd rfl h.1
 ·intro p x a _ _ _;simp [Mip.nds,Mip.kids,Mip.ePre]
 ·intro p x a b _ _ _ _;simp [Mip.nds,Mip.kids,Mip.eTwo]
 ·intro p y a b d _ _ _ _;simp [Mip.nds,Mip.kids]
 ·intro p a b _ _ h;exact absurd rfl h.2.1
 ·intro p a k _ _ _ _;simp [Mip.nds,Mip.kids,Mip.eUnder]
 ·intro p a b k _ _ _ _ h;exact absurd rfl h.2.2
 ·intro p x a b _ _ _ _;simp [Mip.nds,Mip.kids,Mip.eLeast]
set_option maxRecDepth 100000 in
theorem needs_node (N:Nat) (a:Nat→Addr) (c b n:Nat) (m:Mil.Bytes→Option Int) (e:Mip.E) (hw:Mil.wf (Mip.er e) false) (ho:handsOn e) (hku:Mip.unres m e=none→∀q∈Mip.kids e,Mip.unres m q=none) (ih:∀q∈Mip.kids e,Mil.wf (Mip.er q) false∧NC N a c b n m q) (hsz:∀q∈Mip.kids e,(Mip.nds m q).length≤100000):NC N a c b n m e:=by
 intro hu w hN
 have HN:Hid (Nm a c b n m w):=hN
 have IH:Hid (∀q∈Mip.kids e,∀w,Nm a c b n m w→Calls Tryz.prog 63 #[.pointer (some ⟨c,0,none⟩),ev N q] w (NdPost (Mip.nds m q) w)):=fun q hq=>(ih q hq).2 (hku hu q hq)
 have HV:Hid (∀q∈Mip.kids e,(∃T y,ev N q=.iface T y)∧(Mip.nds m q).length≤100000):=fun q hq=>⟨ev_iface N q (ih q hq).1,hsz q hq⟩
 have HND:Hid (Mip.nds m e=(Mip.kids e).flatMap (Mip.nds m)):=nds_kids m e hw ho
 obtain ⟨T,y,he,t1,t2,t3⟩:=plain_node N e hw ho
 have HO:=operands_any N e hw
 rw [he] at HO
 have HO':Hid (∀w,Calls Tryz.prog 89 #[.iface T y] w (OpPost N e w)):=HO
 obtain ⟨i0,hi0,jz0,jz1,jz2⟩:=info_parts Tryz.infoI
 clear hN hu hku ih hw HO ho hsz
 show Calls Tryz.prog 63 #[.pointer (some ⟨c,0,none⟩),ev N e] w _
 rw [he]
 clear he
 go_enter Tryz.func63,Tryz.ntmps63
 go_wp2_with fail
 refine (HO'.out _).mono ?_
 rintro E w1 ⟨hb1,v,rfl,hK⟩
 obtain ⟨o,cap,rfl,hK2⟩:=kids_list hK
 have HB1:Hid (Below w.heap.size w w1):=hb1
 have hl3:=Mip.kids_le e
 generalize hl:Mip.kids e=l at hK hK2 IH HV HND hl3
 have HK2:Hid (∀(j:Nat) (q:Mip.E),l[j]?=some q→∃g,o=some ⟨g,0,none⟩∧w1.cell? ⟨g,j,none⟩=some (ev N q)):=hK2
 have HL3:Hid (l.length≤3):=hl3
 clear hl hK hK2 hb1 t1 t2 t3
 go_wp2_with fail
 go_loopg [7,32] l.length (fun gk s7 s32 wr=>∃(j:Nat) (acc:List Nat) (v:Value),s7=v∧j≤l.length∧s32=.int .i64 (j:Nat)∧gk=l.length - j∧Hid (acc=(l.take j).flatMap (Mip.nds m)∧acc.length≤100000*j)∧Hid (Below w1.heap.size w1 wr)∧Hid (Ndr wr w1.heap.size v acc))
 case atStart=>exact ⟨0,[],.slice none 0 0,rfl,Nat.zero_le _,rfl,rfl,⟨rfl,Nat.zero_le _⟩,Below.refl _ _,⟨World.ownsRow_nil _ _ _ _,fun _=>rfl⟩⟩
 case round=>
  obtain ⟨j,acc,v,hs7,hj,rfl,hg,HA,HW1,HR⟩:=hrel
  have HG:Hid (gk=l.length - j):=hg
  have HWW:Hid (Below w.heap.size w wr):=below_step HB1.out HW1.out
  obtain ⟨ov,cv,hv⟩:=own_shape HR.out.1
  have hs7':=hs7.trans hv
  subst hs7'
  have HVV:Hid (v=.slice ov acc.length cv):=hv
  clear hg hs7 hv
  by_cases hlt:j < l.length
  ·have HLT:Hid (j < l.length):=hlt
   obtain ⟨q,hq⟩:∃q,l[j]?=some q:=⟨_,List.getElem?_eq_getElem hlt⟩
   obtain ⟨gk2,rfl,hcell⟩:=HK2.out j q hq
   have HQ:Hid (l[j]?=some q):=hq
   have hmem:q∈l:=List.mem_of_getElem? hq
   obtain ⟨⟨Tq,yq,hev⟩,hlq⟩:=HV.out q hmem
   have HLQ:Hid ((Mip.nds m q).length≤100000):=hlq
   have hcq:=(HW1.out.cell (lt_of_cell hcell)).trans hcell
   rw [hev] at hcq
   have IQ:=IH.out q hmem
   rw [hev] at IQ
   have IQ':Hid (∀w,Nm a c b n m w→Calls Tryz.prog 63 #[.pointer (some ⟨c,0,none⟩),.iface Tq yq] w (NdPost (Mip.nds m q) w)):=IQ
   have h0:(0:Int)≤(j:Int):=by omega
   have h1:(j:Int) < (l.length:Int):=by omega
   clear hq hmem hev IQ hcell hlq
   go_wp2_with fail
   refine (IQ'.out _ (HN.out.below HWW.out)).mono ?_
   rintro E w2 ⟨hb2,v2,rfl,hN2⟩
   have HW2:Hid (Below w1.heap.size w1 w2):=below_step HW1.out hb2
   have HR2:Hid (Ndr w2 w1.heap.size v acc):=HR.out.below hb2
   have HN2:Hid (Ndr w2 wr.heap.size v2 (Mip.nds m q)):=hN2
   have HA2:Hid (acc++Mip.nds m q=(l.take (j+1)).flatMap (Mip.nds m)):=by
    show _=_
    rw [List.take_add_one,HQ.out,List.flatMap_append,←HA.out.1]
    simp
   clear hb2 hN2 hcq
   generalize Mip.nds m q=L2 at HN2 HA2 HLQ
   by_cases hL2:L2=[]
   ·subst hL2
    obtain rfl:=HN2.out.2 rfl
    have hcap:acc.length≤cv:=own_cap (by have h:=HR2.out.1;rw [HVV.out] at h;exact h)
    go_wp2_with (at_builtin;refine wpList_append_none _ rfl _ _ 36 rfl 3 i0 Tryz.underlying36 hi0 ov acc.length cv hcap rfl rfl ?_)
    go_roundg (l.length - (j+1))
    case measure=>have:=HG.out;have:=HLT.out;omega
    case rel=>exact ⟨j+1,acc,v,HVV.out.symm,HLT.out,by go_num,rfl,⟨by have h:=HA2.out;rw [List.append_nil] at h;exact h,by have:=HA.out.2;omega⟩,HW2,HR2⟩
   ·obtain ⟨g2,cap2,rfl,hg2,⟨cur2,hcur2⟩,hcs⟩:=HN2.out.some hL2
    have OW:Hid (w2.ownsRow w1.heap.size 3 1 (.slice ov acc.length cv) acc.length (acc.map encN)):=by
     show World.ownsRow _ _ _ _ _ _ _
     rw [←HVV.out]
     exact HR2.out.1
    have NW:Hid (∀(i:Nat) (u:Value),(L2.map encN)[i]?=some u→w2.cell? ((⟨g2,0,none⟩:Addr).add i)=some u):=fun i u hu=>by
     rw [List.getElem?_map] at hu
     obtain ⟨x,hx,rfl⟩:=Option.map_eq_some_iff.1 hu
     rw [Addr.add_lit,Nat.zero_add]
     exact hcs i x hx
    have HPOS:Hid (0 < L2.length∧acc.length+L2.length≤400000):=⟨List.length_pos_iff.2 hL2,by have:=HA.out.2;have:=HLQ.out;have:=HL3.out;have:=HLT.out;omega⟩
    clear hcs hL2 hcur2 hg2
    go_wp2_with (at_builtin;refine wpList_append_lies _ rfl _ _ 36 rfl w1.heap.size 3 i0 (.int .i64 0) 1 8 Tryz.underlying36 hi0 jz0 jz1 jz2 rfl (by decide) (.slice ov acc.length cv) acc.length (acc.map encN) rfl OW.out ⟨g2,0,none⟩ L2.length cap2 (L2.map encN) rfl (by simp) NW.out (by intro u hu;obtain ⟨x,_,rfl⟩:=List.mem_map.1 hu;rfl) HPOS.out.1 (by unfold maxLen;have:=HPOS.out.2;omega) (by have:=HPOS.out.2;omega) HW2.out.size _ rfl ?_;intro k9 c9 w9 O9 hg9 hat9 hlt9)
    have HR9:Hid (Ndr w9 w1.heap.size (.slice (some ⟨k9,0,none⟩) (acc.length+L2.length) c9) (acc++L2)):=by
     refine ⟨?_,fun e=>?_⟩
     ·rw [List.map_append,List.length_append];exact O9
     ·have:=congrArg List.length e
      have h1:=HPOS.out.1
      rw [List.length_append] at this
      simp at this
      rw [this.2] at h1
      simp at h1
    have HW9:Hid (Below w1.heap.size w1 w9):=by
     have hr:=HR2.out.1
     rw [HVV.out] at hr
     exact below_grown HW2.out HW2.out.size hg9 (fun k e=>(own_lt hr k e).1)
    clear O9 hg9 hat9 hlt9
    go_roundg (l.length - (j+1))
    case measure=>have:=HG.out;have:=HLT.out;omega
    case rel=>exact ⟨j+1,acc++L2,_,rfl,HLT.out,by go_num,rfl,⟨HA2.out,by have:=HA.out.2;have:=HLQ.out;rw [List.length_append];omega⟩,HW9,HR9⟩
  ·have hle:(l.length:Int)≤(j:Int):=by omega
   have HJ:Hid (j=l.length):=by show _=_;omega
   go_wp2
   go_ret
   refine ⟨HWW.out,_,rfl,?_⟩
   have e1:Mip.nds m e=acc:=by rw [HND.out,HA.out.1,HJ.out,List.take_length]
   rw [e1]
   have h:=HR.out.base HB1.out.size
   rw [HVV.out] at h
   exact h
def nodes:Mip.E→Nat
 | .nil=>0
 | .node _ _ _ a b=>1+nodes a+nodes b
theorem nds_len (m:Mil.Bytes→Option Int):∀e:Mip.E,(Mip.nds m e).length≤nodes e
 | .nil=>Nat.zero_le _
 | .node t k x a b=>by
  have h1:=nds_len m a
  have h2:=nds_len m b
  unfold Mip.nds nodes
  split
  ·simp;omega
  ·split
   ·exact Nat.zero_le _
   ·rw [List.length_append];omega
end
end Go.Proofs.YticbokabjhnagaaGreatDoor
