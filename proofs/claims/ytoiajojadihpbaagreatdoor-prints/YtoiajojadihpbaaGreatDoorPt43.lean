import Derived.Test.YtoiajojadihpbaaGreatDoorPt42
namespace Go.Proofs.YtoiajojadihpbaaGreatDoor
set_option maxHeartbeats 8000000
section
open Go.RowKit
set_option maxRecDepth 100000 in
theorem rr_two (B ub g:Nat) (iv nv fv tv:Value) (ns:List Ref.Nd) (I:List Iw) (F:List Ref.Fl) (i p:Nat) (a b:Nat) (y:Mil.Bytes) (q r:Mil.E) (hn:ns[i]?=some ⟨5,y,p,0,false,a,b,0⟩) (ha:RR B ub g iv nv fv tv ns I F q a) (hb:RR B ub g iv nv fv tv ns I F r b):RR B ub g iv nv fv tv ns I F (Mil.eTwo y q r) i:=by
 intro hcl hpe
 intro w h
 have HP:=hid h
 have hl:=(List.getElem?_eq_some_iff.1 hn).1
 have i1:(0:Int)≤(i:Int):=by omega
 have i2:(i:Int) < (ns.length:Int):=by omega
 obtain ⟨k,cp,hv,c0,c1,c2,c3,c4,c5,c6,c7⟩:=h.pi.pm.node8 hn
 have d0:=h.cells.1
 have d1:=h.pi.pm.cells.2
 rw [hv] at d1
 have HB0:Hid (Below w.heap.size w (w.alloc (.cells #[.int .i64 ((5:Nat):Int),.string (bs y),.int .i64 (p:Nat),.int .i64 ((0:Nat):Int),.bool false,.int .i64 ((a:Nat):Int),.int .i64 ((b:Nat):Int),.int .i64 ((0:Nat):Int)] 195))):=(Below.refl _ _).alloc (Nat.le_refl _) _
 have NC:=ncRow w #[.int .i64 ((5:Nat):Int),.string (bs y),.int .i64 (p:Nat),.int .i64 ((0:Nat):Int),.bool false,.int .i64 ((a:Nat):Int),.int .i64 ((b:Nat):Int),.int .i64 ((0:Nat):Int)] 195
 clear hv h hn hl
 have HHA:Hid (∀w,UM B ub g iv nv fv tv ns I F w→Calls Tryz.prog 104 #[.pointer (some ⟨ub,0,none⟩),.int .i64 (a:Nat)] w (fun r w'=>(∃(q:Nat) (a:Int),q≤1000000∧r=.returned (.tuple #[.int .i64 (q:Nat),.int .i64 a]))∧Below w.heap.size w w')):=ha ((Ref.closed_two (by decide)).1 hcl).1 hpe
 have HHB:Hid (∀w,UM B ub g iv nv fv tv ns I F w→Calls Tryz.prog 104 #[.pointer (some ⟨ub,0,none⟩),.int .i64 (b:Nat)] w (fun r w'=>(∃(q:Nat) (a:Int),q≤1000000∧r=.returned (.tuple #[.int .i64 (q:Nat),.int .i64 a]))∧Below w.heap.size w w')):=hb ((Ref.closed_two (by decide)).1 hcl).2 hpe
 have sz:(w.alloc (.cells #[.int .i64 ((5:Nat):Int),.string (bs y),.int .i64 (p:Nat),.int .i64 ((0:Nat):Int),.bool false,.int .i64 ((a:Nat):Int),.int .i64 ((b:Nat):Int),.int .i64 ((0:Nat):Int)] 195)).heap.size=w.heap.size+1:=by simp
 have HB1:Hid (Below (w.alloc (.cells #[.int .i64 ((5:Nat):Int),.string (bs y),.int .i64 (p:Nat),.int .i64 ((0:Nat):Int),.bool false,.int .i64 ((a:Nat):Int),.int .i64 ((b:Nat):Int),.int .i64 ((0:Nat):Int)] 195)).heap.size (w.alloc (.cells #[.int .i64 ((5:Nat):Int),.string (bs y),.int .i64 (p:Nat),.int .i64 ((0:Nat):Int),.bool false,.int .i64 ((a:Nat):Int),.int .i64 ((b:Nat):Int),.int .i64 ((0:Nat):Int)] 195)) ((w.alloc (.cells #[.int .i64 ((5:Nat):Int),.string (bs y),.int .i64 (p:Nat),.int .i64 ((0:Nat):Int),.bool false,.int .i64 ((a:Nat):Int),.int .i64 ((b:Nat):Int),.int .i64 ((0:Nat):Int)] 195)).alloc (.cells #[.int .i64 (a:Nat),.int .i64 (b:Nat)] 3))):=(Below.refl _ _).alloc (Nat.le_refl _) _
 have HBW:Hid (Below w.heap.size w ((w.alloc (.cells #[.int .i64 ((5:Nat):Int),.string (bs y),.int .i64 (p:Nat),.int .i64 ((0:Nat):Int),.bool false,.int .i64 ((a:Nat):Int),.int .i64 ((b:Nat):Int),.int .i64 ((0:Nat):Int)] 195)).alloc (.cells #[.int .i64 (a:Nat),.int .i64 (b:Nat)] 3))):=HB0.out.trans (HB1.out.mono HB0.out.size)
 have HP0:=hid (HP.out.below HBW.out)
 have LN:Hid (((w.alloc (.cells #[.int .i64 ((5:Nat):Int),.string (bs y),.int .i64 (p:Nat),.int .i64 ((0:Nat):Int),.bool false,.int .i64 ((a:Nat):Int),.int .i64 ((b:Nat):Int),.int .i64 ((0:Nat):Int)] 195)).alloc (.cells #[.int .i64 (a:Nat),.int .i64 (b:Nat)] 3)).heap[w.heap.size+1]?=some (.cells #[.int .i64 (a:Nat),.int .i64 (b:Nat)] 3 (0,0))):=by
  have:=heap_alloc_new (w.alloc (.cells #[.int .i64 ((5:Nat):Int),.string (bs y),.int .i64 (p:Nat),.int .i64 ((0:Nat):Int),.bool false,.int .i64 ((a:Nat):Int),.int .i64 ((b:Nat):Int),.int .i64 ((0:Nat):Int)] 195)) (.cells #[.int .i64 (a:Nat),.int .i64 (b:Nat)] 3)
  rw [sz] at this
  exact this
 have NC2:Hid (∀w',Below ((w.alloc (.cells #[.int .i64 ((5:Nat):Int),.string (bs y),.int .i64 (p:Nat),.int .i64 ((0:Nat):Int),.bool false,.int .i64 ((a:Nat):Int),.int .i64 ((b:Nat):Int),.int .i64 ((0:Nat):Int)] 195)).alloc (.cells #[.int .i64 (a:Nat),.int .i64 (b:Nat)] 3)).heap.size ((w.alloc (.cells #[.int .i64 ((5:Nat):Int),.string (bs y),.int .i64 (p:Nat),.int .i64 ((0:Nat):Int),.bool false,.int .i64 ((a:Nat):Int),.int .i64 ((b:Nat):Int),.int .i64 ((0:Nat):Int)] 195)).alloc (.cells #[.int .i64 (a:Nat),.int .i64 (b:Nat)] 3)) w'→∀j,w'.cell? ⟨w.heap.size,j,none⟩=(#[.int .i64 ((5:Nat):Int),.string (bs y),.int .i64 (p:Nat),.int .i64 ((0:Nat):Int),.bool false,.int .i64 ((a:Nat):Int),.int .i64 ((b:Nat):Int),.int .i64 ((0:Nat):Int)]:Array Value)[j]?):=fun w' hb j=>NC.out w' (below_step HB1.out hb) j
 have CH:Hid (∀j,j < 2→∃cj:Nat,(∀w',Below ((w.alloc (.cells #[.int .i64 ((5:Nat):Int),.string (bs y),.int .i64 (p:Nat),.int .i64 ((0:Nat):Int),.bool false,.int .i64 ((a:Nat):Int),.int .i64 ((b:Nat):Int),.int .i64 ((0:Nat):Int)] 195)).alloc (.cells #[.int .i64 (a:Nat),.int .i64 (b:Nat)] 3)).heap.size ((w.alloc (.cells #[.int .i64 ((5:Nat):Int),.string (bs y),.int .i64 (p:Nat),.int .i64 ((0:Nat):Int),.bool false,.int .i64 ((a:Nat):Int),.int .i64 ((b:Nat):Int),.int .i64 ((0:Nat):Int)] 195)).alloc (.cells #[.int .i64 (a:Nat),.int .i64 (b:Nat)] 3)) w'→w'.cell? ⟨w.heap.size+1,j,none⟩=some (.int .i64 (cj:Nat)))∧(∀w,UM B ub g iv nv fv tv ns I F w→Calls Tryz.prog 104 #[.pointer (some ⟨ub,0,none⟩),.int .i64 (cj:Nat)] w (fun r w'=>(∃(q:Nat) (a:Int),q≤1000000∧r=.returned (.tuple #[.int .i64 (q:Nat),.int .i64 a]))∧Below w.heap.size w w'))):=by
  have lt:=(Array.getElem?_eq_some_iff.1 LN.out).1
  intro j hj
  obtain rfl | rfl:j=0∨j=1:=by omega
  ·exact ⟨a,fun w' hb=>(cell_of_row w' _ 0 _ _ _ ((hb.block _ lt).trans LN.out)).trans rfl,HHA.out⟩
  ·exact ⟨b,fun w' hb=>(cell_of_row w' _ 1 _ _ _ ((hb.block _ lt).trans LN.out)).trans rfl,HHB.out⟩
 clear ha hb hcl hpe sz
 go_enter Tryz.func104,Tryz.ntmps104
 go_wp2_with fail
 clear c0 c1 c2 c3 c4 c5 c6 c7 d0 d1 i1 i2 NC HB1 HHA HHB LN HB0
 have NC:=NC2
 clear NC2
 generalize ((w.alloc (.cells #[.int .i64 ((5:Nat):Int),.string (bs y),.int .i64 (p:Nat),.int .i64 ((0:Nat):Int),.bool false,.int .i64 ((a:Nat):Int),.int .i64 ((b:Nat):Int),.int .i64 ((0:Nat):Int)] 195)).alloc (.cells #[.int .i64 (a:Nat),.int .i64 (b:Nat)] 3))=W at HBW HP0 NC CH ⊢
 go_loopg [14,15,16,17] 2 (fun gk s14 s15 s16 s17 wr=>∃(q0:Nat) (a1:Int) (ot:Bool) (j:Nat),s14=.int .i64 (q0:Nat)∧s15=.int .i64 a1∧s16=.bool ot∧s17=.int .i64 (j:Nat)∧Hid (q0≤1000000)∧j≤2∧gk=2 - j∧Hid (Below W.heap.size W wr))
 case atStart=>exact ⟨0,-1,false,0,rfl,rfl,rfl,rfl,by show (0:Nat)≤_;decide,by decide,rfl,Below.refl _ _⟩
 case round=>
  obtain ⟨q0,a1,ot,j,rfl,rfl,rfl,rfl,HQ,hj,hg,HB⟩:=hrel
  have HG:=hid hg
  have HJ:=hid hj
  clear hg
  by_cases hlt:j < 2
  ·have b0:((j:Int) < 2)=True:=by simp;omega
   have i1:(0:Int)≤(j:Int):=by omega
   have i2:(j:Int) < 2:=by omega
   obtain ⟨cj,hcell,hcall⟩:=CH.out j hlt
   have HC:=hid hcall
   have cc:=hcell _ HB.out
   have HLT:=hid hlt
   have hw:IntKind.i64.wrap ((j:Int)+1)=(j:Int)+1:=by
    simp only [IntKind.wrap_i64];omega
   clear hcell hcall hlt hj
   go_wp2_with fail
   refine (HC.out _ (HP0.out.below HB.out)).mono ?_
   rintro r w2 ⟨⟨t2,z2,ht2,rfl⟩,hb2⟩
   have B2:=hid (below_step HB.out hb2)
   have HT2:=hid ht2
   clear hb2 ht2 cc
   by_cases e2:t2=0
   ·have k2:((t2:Int) != 0)=false:=by rw [bne_eq_false_iff_eq];omega
    clear e2
    cases ot
    all_goals go_wp2
    all_goals go_roundg (2 - (j+1))
    all_goals first
     | (have h1:=HG.out;have h2:=HLT.out;omega)
     | exact ⟨_,_,_,j+1,rfl,rfl,rfl,rfl,HQ,HLT.out,rfl,B2⟩
     | exact ⟨_,_,_,j+1,rfl,rfl,rfl,rfl,HT2,HLT.out,rfl,B2⟩
   ·have k2:((t2:Int) != 0)=true:=by rw [bne_iff_ne];omega
    clear e2
    cases ot
    all_goals go_wp2
    all_goals go_roundg (2 - (j+1))
    all_goals first
     | (have h1:=HG.out;have h2:=HLT.out;omega)
     | exact ⟨_,_,_,j+1,rfl,rfl,rfl,rfl,HQ,HLT.out,rfl,B2⟩
     | exact ⟨_,_,_,j+1,rfl,rfl,rfl,rfl,HT2,HLT.out,rfl,B2⟩
  ·have b0:((j:Int) < 2)=False:=by simp;omega
   have f2:wr.cell? ⟨w.heap.size,2,none⟩=some (.int .i64 (p:Nat)):=NC.out wr HB.out 2
   clear hlt hj
   by_cases h1:a1 < 0
   ·have e1:(a1 < 0)=True:=by simp;omega
    clear h1
    cases ot
    all_goals go_wp2
    all_goals go_ret2
    all_goals exact ⟨⟨q0,_,HQ.out,rfl⟩,HBW.out.trans (HB.out.mono HBW.out.size)⟩
   ·have e1:(a1 < 0)=False:=by simp;omega
    clear h1
    cases ot
    all_goals go_wp2
    all_goals go_ret2
    all_goals exact ⟨⟨q0,_,HQ.out,rfl⟩,HBW.out.trans (HB.out.mono HBW.out.size)⟩
set_option maxRecDepth 100000 in
theorem rr_least (B ub g:Nat) (iv nv fv tv:Value) (ns:List Ref.Nd) (I:List Iw) (F:List Ref.Fl) (i p:Nat) (a b:Nat) (y:Mil.Bytes) (q r:Mil.E) (hn:ns[i]?=some ⟨10,y,p,0,false,a,b,0⟩) (ha:RR B ub g iv nv fv tv ns I F q a) (hb:RR B ub g iv nv fv tv ns I F r b):RR B ub g iv nv fv tv ns I F (Mil.eLeast y q r) i:=by
 intro hcl hpe
 intro w h
 have HP:=hid h
 have hl:=(List.getElem?_eq_some_iff.1 hn).1
 have i1:(0:Int)≤(i:Int):=by omega
 have i2:(i:Int) < (ns.length:Int):=by omega
 obtain ⟨k,cp,hv,c0,c1,c2,c3,c4,c5,c6,c7⟩:=h.pi.pm.node8 hn
 have d0:=h.cells.1
 have d1:=h.pi.pm.cells.2
 rw [hv] at d1
 have HB0:Hid (Below w.heap.size w (w.alloc (.cells #[.int .i64 ((10:Nat):Int),.string (bs y),.int .i64 (p:Nat),.int .i64 ((0:Nat):Int),.bool false,.int .i64 ((a:Nat):Int),.int .i64 ((b:Nat):Int),.int .i64 ((0:Nat):Int)] 195))):=(Below.refl _ _).alloc (Nat.le_refl _) _
 have NC:=ncRow w #[.int .i64 ((10:Nat):Int),.string (bs y),.int .i64 (p:Nat),.int .i64 ((0:Nat):Int),.bool false,.int .i64 ((a:Nat):Int),.int .i64 ((b:Nat):Int),.int .i64 ((0:Nat):Int)] 195
 clear hv h hn hl
 have HHA:Hid (∀w,UM B ub g iv nv fv tv ns I F w→Calls Tryz.prog 104 #[.pointer (some ⟨ub,0,none⟩),.int .i64 (a:Nat)] w (fun r w'=>(∃(q:Nat) (a:Int),q≤1000000∧r=.returned (.tuple #[.int .i64 (q:Nat),.int .i64 a]))∧Below w.heap.size w w')):=ha ((Ref.closed_two (by decide)).1 hcl).1 hpe
 have HHB:Hid (∀w,UM B ub g iv nv fv tv ns I F w→Calls Tryz.prog 104 #[.pointer (some ⟨ub,0,none⟩),.int .i64 (b:Nat)] w (fun r w'=>(∃(q:Nat) (a:Int),q≤1000000∧r=.returned (.tuple #[.int .i64 (q:Nat),.int .i64 a]))∧Below w.heap.size w w')):=hb ((Ref.closed_two (by decide)).1 hcl).2 hpe
 have sz:(w.alloc (.cells #[.int .i64 ((10:Nat):Int),.string (bs y),.int .i64 (p:Nat),.int .i64 ((0:Nat):Int),.bool false,.int .i64 ((a:Nat):Int),.int .i64 ((b:Nat):Int),.int .i64 ((0:Nat):Int)] 195)).heap.size=w.heap.size+1:=by simp
 have HB1:Hid (Below (w.alloc (.cells #[.int .i64 ((10:Nat):Int),.string (bs y),.int .i64 (p:Nat),.int .i64 ((0:Nat):Int),.bool false,.int .i64 ((a:Nat):Int),.int .i64 ((b:Nat):Int),.int .i64 ((0:Nat):Int)] 195)).heap.size (w.alloc (.cells #[.int .i64 ((10:Nat):Int),.string (bs y),.int .i64 (p:Nat),.int .i64 ((0:Nat):Int),.bool false,.int .i64 ((a:Nat):Int),.int .i64 ((b:Nat):Int),.int .i64 ((0:Nat):Int)] 195)) ((w.alloc (.cells #[.int .i64 ((10:Nat):Int),.string (bs y),.int .i64 (p:Nat),.int .i64 ((0:Nat):Int),.bool false,.int .i64 ((a:Nat):Int),.int .i64 ((b:Nat):Int),.int .i64 ((0:Nat):Int)] 195)).alloc (.cells #[.int .i64 (a:Nat),.int .i64 (b:Nat)] 3))):=(Below.refl _ _).alloc (Nat.le_refl _) _
 have HBW:Hid (Below w.heap.size w ((w.alloc (.cells #[.int .i64 ((10:Nat):Int),.string (bs y),.int .i64 (p:Nat),.int .i64 ((0:Nat):Int),.bool false,.int .i64 ((a:Nat):Int),.int .i64 ((b:Nat):Int),.int .i64 ((0:Nat):Int)] 195)).alloc (.cells #[.int .i64 (a:Nat),.int .i64 (b:Nat)] 3))):=HB0.out.trans (HB1.out.mono HB0.out.size)
 have HP0:=hid (HP.out.below HBW.out)
 have LN:Hid (((w.alloc (.cells #[.int .i64 ((10:Nat):Int),.string (bs y),.int .i64 (p:Nat),.int .i64 ((0:Nat):Int),.bool false,.int .i64 ((a:Nat):Int),.int .i64 ((b:Nat):Int),.int .i64 ((0:Nat):Int)] 195)).alloc (.cells #[.int .i64 (a:Nat),.int .i64 (b:Nat)] 3)).heap[w.heap.size+1]?=some (.cells #[.int .i64 (a:Nat),.int .i64 (b:Nat)] 3 (0,0))):=by
  have:=heap_alloc_new (w.alloc (.cells #[.int .i64 ((10:Nat):Int),.string (bs y),.int .i64 (p:Nat),.int .i64 ((0:Nat):Int),.bool false,.int .i64 ((a:Nat):Int),.int .i64 ((b:Nat):Int),.int .i64 ((0:Nat):Int)] 195)) (.cells #[.int .i64 (a:Nat),.int .i64 (b:Nat)] 3)
  rw [sz] at this
  exact this
 have NC2:Hid (∀w',Below ((w.alloc (.cells #[.int .i64 ((10:Nat):Int),.string (bs y),.int .i64 (p:Nat),.int .i64 ((0:Nat):Int),.bool false,.int .i64 ((a:Nat):Int),.int .i64 ((b:Nat):Int),.int .i64 ((0:Nat):Int)] 195)).alloc (.cells #[.int .i64 (a:Nat),.int .i64 (b:Nat)] 3)).heap.size ((w.alloc (.cells #[.int .i64 ((10:Nat):Int),.string (bs y),.int .i64 (p:Nat),.int .i64 ((0:Nat):Int),.bool false,.int .i64 ((a:Nat):Int),.int .i64 ((b:Nat):Int),.int .i64 ((0:Nat):Int)] 195)).alloc (.cells #[.int .i64 (a:Nat),.int .i64 (b:Nat)] 3)) w'→∀j,w'.cell? ⟨w.heap.size,j,none⟩=(#[.int .i64 ((10:Nat):Int),.string (bs y),.int .i64 (p:Nat),.int .i64 ((0:Nat):Int),.bool false,.int .i64 ((a:Nat):Int),.int .i64 ((b:Nat):Int),.int .i64 ((0:Nat):Int)]:Array Value)[j]?):=fun w' hb j=>NC.out w' (below_step HB1.out hb) j
 have CH:Hid (∀j,j < 2→∃cj:Nat,(∀w',Below ((w.alloc (.cells #[.int .i64 ((10:Nat):Int),.string (bs y),.int .i64 (p:Nat),.int .i64 ((0:Nat):Int),.bool false,.int .i64 ((a:Nat):Int),.int .i64 ((b:Nat):Int),.int .i64 ((0:Nat):Int)] 195)).alloc (.cells #[.int .i64 (a:Nat),.int .i64 (b:Nat)] 3)).heap.size ((w.alloc (.cells #[.int .i64 ((10:Nat):Int),.string (bs y),.int .i64 (p:Nat),.int .i64 ((0:Nat):Int),.bool false,.int .i64 ((a:Nat):Int),.int .i64 ((b:Nat):Int),.int .i64 ((0:Nat):Int)] 195)).alloc (.cells #[.int .i64 (a:Nat),.int .i64 (b:Nat)] 3)) w'→w'.cell? ⟨w.heap.size+1,j,none⟩=some (.int .i64 (cj:Nat)))∧(∀w,UM B ub g iv nv fv tv ns I F w→Calls Tryz.prog 104 #[.pointer (some ⟨ub,0,none⟩),.int .i64 (cj:Nat)] w (fun r w'=>(∃(q:Nat) (a:Int),q≤1000000∧r=.returned (.tuple #[.int .i64 (q:Nat),.int .i64 a]))∧Below w.heap.size w w'))):=by
  have lt:=(Array.getElem?_eq_some_iff.1 LN.out).1
  intro j hj
  obtain rfl | rfl:j=0∨j=1:=by omega
  ·exact ⟨a,fun w' hb=>(cell_of_row w' _ 0 _ _ _ ((hb.block _ lt).trans LN.out)).trans rfl,HHA.out⟩
  ·exact ⟨b,fun w' hb=>(cell_of_row w' _ 1 _ _ _ ((hb.block _ lt).trans LN.out)).trans rfl,HHB.out⟩
 clear ha hb hcl hpe sz
 go_enter Tryz.func104,Tryz.ntmps104
 go_wp2_with fail
 clear c0 c1 c2 c3 c4 c5 c6 c7 d0 d1 i1 i2 NC HB1 HHA HHB LN HB0
 have NC:=NC2
 clear NC2
 generalize ((w.alloc (.cells #[.int .i64 ((10:Nat):Int),.string (bs y),.int .i64 (p:Nat),.int .i64 ((0:Nat):Int),.bool false,.int .i64 ((a:Nat):Int),.int .i64 ((b:Nat):Int),.int .i64 ((0:Nat):Int)] 195)).alloc (.cells #[.int .i64 (a:Nat),.int .i64 (b:Nat)] 3))=W at HBW HP0 NC CH ⊢
 go_loopg [14,15,16,17] 2 (fun gk s14 s15 s16 s17 wr=>∃(q0:Nat) (a1:Int) (ot:Bool) (j:Nat),s14=.int .i64 (q0:Nat)∧s15=.int .i64 a1∧s16=.bool ot∧s17=.int .i64 (j:Nat)∧Hid (q0≤1000000)∧j≤2∧gk=2 - j∧Hid (Below W.heap.size W wr))
 case atStart=>exact ⟨0,-1,false,0,rfl,rfl,rfl,rfl,by show (0:Nat)≤_;decide,by decide,rfl,Below.refl _ _⟩
 case round=>
  obtain ⟨q0,a1,ot,j,rfl,rfl,rfl,rfl,HQ,hj,hg,HB⟩:=hrel
  have HG:=hid hg
  have HJ:=hid hj
  clear hg
  by_cases hlt:j < 2
  ·have b0:((j:Int) < 2)=True:=by simp;omega
   have i1:(0:Int)≤(j:Int):=by omega
   have i2:(j:Int) < 2:=by omega
   obtain ⟨cj,hcell,hcall⟩:=CH.out j hlt
   have HC:=hid hcall
   have cc:=hcell _ HB.out
   have HLT:=hid hlt
   have hw:IntKind.i64.wrap ((j:Int)+1)=(j:Int)+1:=by
    simp only [IntKind.wrap_i64];omega
   clear hcell hcall hlt hj
   go_wp2_with fail
   refine (HC.out _ (HP0.out.below HB.out)).mono ?_
   rintro r w2 ⟨⟨t2,z2,ht2,rfl⟩,hb2⟩
   have B2:=hid (below_step HB.out hb2)
   have HT2:=hid ht2
   clear hb2 ht2 cc
   by_cases e2:t2=0
   ·have k2:((t2:Int) != 0)=false:=by rw [bne_eq_false_iff_eq];omega
    clear e2
    cases ot
    all_goals go_wp2
    all_goals go_roundg (2 - (j+1))
    all_goals first
     | (have h1:=HG.out;have h2:=HLT.out;omega)
     | exact ⟨_,_,_,j+1,rfl,rfl,rfl,rfl,HQ,HLT.out,rfl,B2⟩
     | exact ⟨_,_,_,j+1,rfl,rfl,rfl,rfl,HT2,HLT.out,rfl,B2⟩
   ·have k2:((t2:Int) != 0)=true:=by rw [bne_iff_ne];omega
    clear e2
    cases ot
    all_goals go_wp2
    all_goals go_roundg (2 - (j+1))
    all_goals first
     | (have h1:=HG.out;have h2:=HLT.out;omega)
     | exact ⟨_,_,_,j+1,rfl,rfl,rfl,rfl,HQ,HLT.out,rfl,B2⟩
     | exact ⟨_,_,_,j+1,rfl,rfl,rfl,rfl,HT2,HLT.out,rfl,B2⟩
  ·have b0:((j:Int) < 2)=False:=by simp;omega
   have f2:wr.cell? ⟨w.heap.size,2,none⟩=some (.int .i64 (p:Nat)):=NC.out wr HB.out 2
   clear hlt hj
   by_cases h1:a1 < 0
   ·have e1:(a1 < 0)=True:=by simp;omega
    clear h1
    cases ot
    all_goals go_wp2
    all_goals go_ret2
    all_goals exact ⟨⟨q0,_,HQ.out,rfl⟩,HBW.out.trans (HB.out.mono HBW.out.size)⟩
   ·have e1:(a1 < 0)=False:=by simp;omega
    clear h1
    cases ot
    all_goals go_wp2
    all_goals go_ret2
    all_goals exact ⟨⟨q0,_,HQ.out,rfl⟩,HBW.out.trans (HB.out.mono HBW.out.size)⟩
set_option maxRecDepth 100000 in
theorem rr_if (B ub g:Nat) (iv nv fv tv:Value) (ns:List Ref.Nd) (I:List Iw) (F:List Ref.Fl) (i p:Nat) (a b c:Nat) (q r u:Mil.E) (hn:ns[i]?=some ⟨6,Mil.wIf,p,0,false,a,b,c⟩) (ha:RR B ub g iv nv fv tv ns I F q a) (hb:RR B ub g iv nv fv tv ns I F r b) (hc:RR B ub g iv nv fv tv ns I F u c):RR B ub g iv nv fv tv ns I F (Mil.eIf q r u) i:=by
 intro hcl hpe
 intro w h
 have HP:=hid h
 have hl:=(List.getElem?_eq_some_iff.1 hn).1
 have i1:(0:Int)≤(i:Int):=by omega
 have i2:(i:Int) < (ns.length:Int):=by omega
 obtain ⟨k,cp,hv,c0,c1,c2,c3,c4,c5,c6,c7⟩:=h.pi.pm.node8 hn
 have d0:=h.cells.1
 have d1:=h.pi.pm.cells.2
 rw [hv] at d1
 have HB0:Hid (Below w.heap.size w (w.alloc (.cells #[.int .i64 ((6:Nat):Int),.string (bs Mil.wIf),.int .i64 (p:Nat),.int .i64 ((0:Nat):Int),.bool false,.int .i64 ((a:Nat):Int),.int .i64 ((b:Nat):Int),.int .i64 ((c:Nat):Int)] 195))):=(Below.refl _ _).alloc (Nat.le_refl _) _
 have NC:=ncRow w #[.int .i64 ((6:Nat):Int),.string (bs Mil.wIf),.int .i64 (p:Nat),.int .i64 ((0:Nat):Int),.bool false,.int .i64 ((a:Nat):Int),.int .i64 ((b:Nat):Int),.int .i64 ((c:Nat):Int)] 195
 clear hv h hn hl
 have H2:=(Ref.closed_two (by decide)).1 hcl
 have H3:=(Ref.closed_two (by decide)).1 H2.2
 have HHA:Hid (∀w,UM B ub g iv nv fv tv ns I F w→Calls Tryz.prog 104 #[.pointer (some ⟨ub,0,none⟩),.int .i64 (a:Nat)] w (fun r w'=>(∃(q:Nat) (a:Int),q≤1000000∧r=.returned (.tuple #[.int .i64 (q:Nat),.int .i64 a]))∧Below w.heap.size w w')):=ha H2.1 hpe
 have HHB:Hid (∀w,UM B ub g iv nv fv tv ns I F w→Calls Tryz.prog 104 #[.pointer (some ⟨ub,0,none⟩),.int .i64 (b:Nat)] w (fun r w'=>(∃(q:Nat) (a:Int),q≤1000000∧r=.returned (.tuple #[.int .i64 (q:Nat),.int .i64 a]))∧Below w.heap.size w w')):=hb H3.1 hpe
 have HHC:Hid (∀w,UM B ub g iv nv fv tv ns I F w→Calls Tryz.prog 104 #[.pointer (some ⟨ub,0,none⟩),.int .i64 (c:Nat)] w (fun r w'=>(∃(q:Nat) (a:Int),q≤1000000∧r=.returned (.tuple #[.int .i64 (q:Nat),.int .i64 a]))∧Below w.heap.size w w')):=hc H3.2 hpe
 clear ha hb hc hcl hpe H2 H3
 go_enter Tryz.func104,Tryz.ntmps104
 go_wp2_with fail
 generalize Builtin.zeroCells #[Value.int IntKind.i64 0] ((Question.appendCap 3 2 3).cut (w.tape w.drawn (Question.appendCap 3 2 3)) - 3)=Z
 generalize (Question.appendCap 3 2 3).cut (w.tape w.drawn (Question.appendCap 3 2 3))=cap
 clear c0 c1 c2 c3 c4 c5 c6 c7 d0 d1 i1 i2
 have sz:(((w.alloc (.cells #[.int .i64 ((6:Nat):Int),.string (bs Mil.wIf),.int .i64 (p:Nat),.int .i64 ((0:Nat):Int),.bool false,.int .i64 ((a:Nat):Int),.int .i64 ((b:Nat):Int),.int .i64 ((c:Nat):Int)] 195)).alloc (.cells #[.int .i64 (a:Nat),.int .i64 (b:Nat)] 3)).alloc (.cells #[.int .i64 (c:Nat)] 3)).heap.size=w.heap.size+1+1+1:=by simp
 have HB1:Hid (Below (w.alloc (.cells #[.int .i64 ((6:Nat):Int),.string (bs Mil.wIf),.int .i64 (p:Nat),.int .i64 ((0:Nat):Int),.bool false,.int .i64 ((a:Nat):Int),.int .i64 ((b:Nat):Int),.int .i64 ((c:Nat):Int)] 195)).heap.size (w.alloc (.cells #[.int .i64 ((6:Nat):Int),.string (bs Mil.wIf),.int .i64 (p:Nat),.int .i64 ((0:Nat):Int),.bool false,.int .i64 ((a:Nat):Int),.int .i64 ((b:Nat):Int),.int .i64 ((c:Nat):Int)] 195)) ((((w.alloc (.cells #[.int .i64 ((6:Nat):Int),.string (bs Mil.wIf),.int .i64 (p:Nat),.int .i64 ((0:Nat):Int),.bool false,.int .i64 ((a:Nat):Int),.int .i64 ((b:Nat):Int),.int .i64 ((c:Nat):Int)] 195)).alloc (.cells #[.int .i64 (a:Nat),.int .i64 (b:Nat)] 3)).alloc (.cells #[.int .i64 (c:Nat)] 3)).alloc (.cells (#[.int .i64 (a:Nat),.int .i64 (b:Nat),.int .i64 (c:Nat)]++Z) 3)).drew):=by
  refine Below.drew ?_
  refine ((((Below.refl _ _).alloc (Nat.le_refl _) _).alloc ?_ _).alloc ?_ _)
  ·simp
  ·simp
 have HBW:Hid (Below w.heap.size w ((((w.alloc (.cells #[.int .i64 ((6:Nat):Int),.string (bs Mil.wIf),.int .i64 (p:Nat),.int .i64 ((0:Nat):Int),.bool false,.int .i64 ((a:Nat):Int),.int .i64 ((b:Nat):Int),.int .i64 ((c:Nat):Int)] 195)).alloc (.cells #[.int .i64 (a:Nat),.int .i64 (b:Nat)] 3)).alloc (.cells #[.int .i64 (c:Nat)] 3)).alloc (.cells (#[.int .i64 (a:Nat),.int .i64 (b:Nat),.int .i64 (c:Nat)]++Z) 3)).drew):=HB0.out.trans (HB1.out.mono HB0.out.size)
 have HP0:=hid (HP.out.below HBW.out)
 have LN:Hid ((((((w.alloc (.cells #[.int .i64 ((6:Nat):Int),.string (bs Mil.wIf),.int .i64 (p:Nat),.int .i64 ((0:Nat):Int),.bool false,.int .i64 ((a:Nat):Int),.int .i64 ((b:Nat):Int),.int .i64 ((c:Nat):Int)] 195)).alloc (.cells #[.int .i64 (a:Nat),.int .i64 (b:Nat)] 3)).alloc (.cells #[.int .i64 (c:Nat)] 3)).alloc (.cells (#[.int .i64 (a:Nat),.int .i64 (b:Nat),.int .i64 (c:Nat)]++Z) 3)).drew).heap[w.heap.size+1+1+1]?=some (.cells (#[.int .i64 (a:Nat),.int .i64 (b:Nat),.int .i64 (c:Nat)]++Z) 3 (0,0))):=by
  have:=heap_alloc_new (((w.alloc (.cells #[.int .i64 ((6:Nat):Int),.string (bs Mil.wIf),.int .i64 (p:Nat),.int .i64 ((0:Nat):Int),.bool false,.int .i64 ((a:Nat):Int),.int .i64 ((b:Nat):Int),.int .i64 ((c:Nat):Int)] 195)).alloc (.cells #[.int .i64 (a:Nat),.int .i64 (b:Nat)] 3)).alloc (.cells #[.int .i64 (c:Nat)] 3)) (.cells (#[.int .i64 (a:Nat),.int .i64 (b:Nat),.int .i64 (c:Nat)]++Z) 3)
  rw [sz] at this
  exact this
 have NC2:Hid (∀w',Below (((((w.alloc (.cells #[.int .i64 ((6:Nat):Int),.string (bs Mil.wIf),.int .i64 (p:Nat),.int .i64 ((0:Nat):Int),.bool false,.int .i64 ((a:Nat):Int),.int .i64 ((b:Nat):Int),.int .i64 ((c:Nat):Int)] 195)).alloc (.cells #[.int .i64 (a:Nat),.int .i64 (b:Nat)] 3)).alloc (.cells #[.int .i64 (c:Nat)] 3)).alloc (.cells (#[.int .i64 (a:Nat),.int .i64 (b:Nat),.int .i64 (c:Nat)]++Z) 3)).drew).heap.size (((((w.alloc (.cells #[.int .i64 ((6:Nat):Int),.string (bs Mil.wIf),.int .i64 (p:Nat),.int .i64 ((0:Nat):Int),.bool false,.int .i64 ((a:Nat):Int),.int .i64 ((b:Nat):Int),.int .i64 ((c:Nat):Int)] 195)).alloc (.cells #[.int .i64 (a:Nat),.int .i64 (b:Nat)] 3)).alloc (.cells #[.int .i64 (c:Nat)] 3)).alloc (.cells (#[.int .i64 (a:Nat),.int .i64 (b:Nat),.int .i64 (c:Nat)]++Z) 3)).drew) w'→∀j,w'.cell? ⟨w.heap.size,j,none⟩=(#[.int .i64 ((6:Nat):Int),.string (bs Mil.wIf),.int .i64 (p:Nat),.int .i64 ((0:Nat):Int),.bool false,.int .i64 ((a:Nat):Int),.int .i64 ((b:Nat):Int),.int .i64 ((c:Nat):Int)]:Array Value)[j]?):=fun w' hb j=>NC.out w' (below_step HB1.out hb) j
 have CH:Hid (∀j,j < 3→∃cj:Nat,(∀w',Below (((((w.alloc (.cells #[.int .i64 ((6:Nat):Int),.string (bs Mil.wIf),.int .i64 (p:Nat),.int .i64 ((0:Nat):Int),.bool false,.int .i64 ((a:Nat):Int),.int .i64 ((b:Nat):Int),.int .i64 ((c:Nat):Int)] 195)).alloc (.cells #[.int .i64 (a:Nat),.int .i64 (b:Nat)] 3)).alloc (.cells #[.int .i64 (c:Nat)] 3)).alloc (.cells (#[.int .i64 (a:Nat),.int .i64 (b:Nat),.int .i64 (c:Nat)]++Z) 3)).drew).heap.size (((((w.alloc (.cells #[.int .i64 ((6:Nat):Int),.string (bs Mil.wIf),.int .i64 (p:Nat),.int .i64 ((0:Nat):Int),.bool false,.int .i64 ((a:Nat):Int),.int .i64 ((b:Nat):Int),.int .i64 ((c:Nat):Int)] 195)).alloc (.cells #[.int .i64 (a:Nat),.int .i64 (b:Nat)] 3)).alloc (.cells #[.int .i64 (c:Nat)] 3)).alloc (.cells (#[.int .i64 (a:Nat),.int .i64 (b:Nat),.int .i64 (c:Nat)]++Z) 3)).drew) w'→w'.cell? ⟨w.heap.size+1+1+1,j,none⟩=some (.int .i64 (cj:Nat)))∧(∀w,UM B ub g iv nv fv tv ns I F w→Calls Tryz.prog 104 #[.pointer (some ⟨ub,0,none⟩),.int .i64 (cj:Nat)] w (fun r w'=>(∃(q:Nat) (a:Int),q≤1000000∧r=.returned (.tuple #[.int .i64 (q:Nat),.int .i64 a]))∧Below w.heap.size w w'))):=by
  have lt:=(Array.getElem?_eq_some_iff.1 LN.out).1
  intro j hj
  have z0:(#[.int .i64 (a:Nat),.int .i64 (b:Nat),.int .i64 (c:Nat)]++Z:Array Value)[0]?=some (.int .i64 (a:Nat)):=by rw [Array.getElem?_append_left (by simp)];rfl
  have z1:(#[.int .i64 (a:Nat),.int .i64 (b:Nat),.int .i64 (c:Nat)]++Z:Array Value)[1]?=some (.int .i64 (b:Nat)):=by rw [Array.getElem?_append_left (by simp)];rfl
  have z2:(#[.int .i64 (a:Nat),.int .i64 (b:Nat),.int .i64 (c:Nat)]++Z:Array Value)[2]?=some (.int .i64 (c:Nat)):=by rw [Array.getElem?_append_left (by simp)];rfl
  obtain rfl | rfl | rfl:j=0∨j=1∨j=2:=by omega
  ·exact ⟨a,fun w' hb=>(cell_of_row w' _ 0 _ _ _ ((hb.block _ lt).trans LN.out)).trans z0,HHA.out⟩
  ·exact ⟨b,fun w' hb=>(cell_of_row w' _ 1 _ _ _ ((hb.block _ lt).trans LN.out)).trans z1,HHB.out⟩
  ·exact ⟨c,fun w' hb=>(cell_of_row w' _ 2 _ _ _ ((hb.block _ lt).trans LN.out)).trans z2,HHC.out⟩
 clear NC HB1 HHA HHB HHC LN HB0 sz
 have NC:=NC2
 clear NC2
 generalize ((((w.alloc (.cells #[.int .i64 ((6:Nat):Int),.string (bs Mil.wIf),.int .i64 (p:Nat),.int .i64 ((0:Nat):Int),.bool false,.int .i64 ((a:Nat):Int),.int .i64 ((b:Nat):Int),.int .i64 ((c:Nat):Int)] 195)).alloc (.cells #[.int .i64 (a:Nat),.int .i64 (b:Nat)] 3)).alloc (.cells #[.int .i64 (c:Nat)] 3)).alloc (.cells (#[.int .i64 (a:Nat),.int .i64 (b:Nat),.int .i64 (c:Nat)]++Z) 3)).drew=W at HBW HP0 NC CH ⊢
 go_loopg [14,15,16,17] 3 (fun gk s14 s15 s16 s17 wr=>∃(q0:Nat) (a1:Int) (ot:Bool) (j:Nat),s14=.int .i64 (q0:Nat)∧s15=.int .i64 a1∧s16=.bool ot∧s17=.int .i64 (j:Nat)∧Hid (q0≤1000000)∧j≤3∧gk=3 - j∧Hid (Below W.heap.size W wr))
 case atStart=>exact ⟨0,-1,false,0,rfl,rfl,rfl,rfl,by show (0:Nat)≤_;decide,by decide,rfl,Below.refl _ _⟩
 case round=>
  obtain ⟨q0,a1,ot,j,rfl,rfl,rfl,rfl,HQ,hj,hg,HB⟩:=hrel
  have HG:=hid hg
  have HJ:=hid hj
  clear hg
  by_cases hlt:j < 3
  ·have b0:((j:Int) < 3)=True:=by simp;omega
   have i1:(0:Int)≤(j:Int):=by omega
   have i2:(j:Int) < 3:=by omega
   obtain ⟨cj,hcell,hcall⟩:=CH.out j hlt
   have HC:=hid hcall
   have cc:=hcell _ HB.out
   have HLT:=hid hlt
   have hw:IntKind.i64.wrap ((j:Int)+1)=(j:Int)+1:=by
    simp only [IntKind.wrap_i64];omega
   clear hcell hcall hlt hj
   go_wp2_with fail
   refine (HC.out _ (HP0.out.below HB.out)).mono ?_
   rintro r w2 ⟨⟨t2,z2,ht2,rfl⟩,hb2⟩
   have B2:=hid (below_step HB.out hb2)
   have HT2:=hid ht2
   clear hb2 ht2 cc
   by_cases e2:t2=0
   ·have k2:((t2:Int) != 0)=false:=by rw [bne_eq_false_iff_eq];omega
    clear e2
    cases ot
    all_goals go_wp2
    all_goals go_roundg (3 - (j+1))
    all_goals first
     | (have h1:=HG.out;have h2:=HLT.out;omega)
     | exact ⟨_,_,_,j+1,rfl,rfl,rfl,rfl,HQ,HLT.out,rfl,B2⟩
     | exact ⟨_,_,_,j+1,rfl,rfl,rfl,rfl,HT2,HLT.out,rfl,B2⟩
   ·have k2:((t2:Int) != 0)=true:=by rw [bne_iff_ne];omega
    clear e2
    cases ot
    all_goals go_wp2
    all_goals go_roundg (3 - (j+1))
    all_goals first
     | (have h1:=HG.out;have h2:=HLT.out;omega)
     | exact ⟨_,_,_,j+1,rfl,rfl,rfl,rfl,HQ,HLT.out,rfl,B2⟩
     | exact ⟨_,_,_,j+1,rfl,rfl,rfl,rfl,HT2,HLT.out,rfl,B2⟩
  ·have b0:((j:Int) < 3)=False:=by simp;omega
   have f2:wr.cell? ⟨w.heap.size,2,none⟩=some (.int .i64 (p:Nat)):=NC.out wr HB.out 2
   clear hlt hj
   by_cases h1:a1 < 0
   ·have e1:(a1 < 0)=True:=by simp;omega
    clear h1
    cases ot
    all_goals go_wp2
    all_goals go_ret2
    all_goals exact ⟨⟨q0,_,HQ.out,rfl⟩,HBW.out.trans (HB.out.mono HBW.out.size)⟩
   ·have e1:(a1 < 0)=False:=by simp;omega
    clear h1
    cases ot
    all_goals go_wp2
    all_goals go_ret2
    all_goals exact ⟨⟨q0,_,HQ.out,rfl⟩,HBW.out.trans (HB.out.mono HBW.out.size)⟩
theorem rate_all (B ub g:Nat) (iv nv fv tv:Value) (ns:List Ref.Nd) (I:List Iw) (F:List Ref.Fl) (hF:F.length≤4000):∀e,Mil.wf e false→∀i,Ref.Has ns e i→RR B ub g iv nv fv tv ns I F e i:=
 Ref.tree_induct (fun e i p v ng hn _=>rr_num B ub g iv nv fv tv ns I F i p v ng e hn) (fun i p v hn=>rr_bool B ub g iv nv fv tv ns I F i p v hn) (fun i p x hn=>rr_name B ub g iv nv fv tv ns I F i p x hn hF)
  (fun i p y a a' hn _ ha=>rr_pre B ub g iv nv fv tv ns I F i p a' y a hn ha) (fun i p v a a' hn h2 h1000 ha=>rr_under B ub g iv nv fv tv ns I F i p v a' a hn ⟨h2,h1000⟩ ha)
  (fun i p a b a' b' hn _ _ hb=>rr_fby B ub g iv nv fv tv ns I F i p a' b' a b hn hb) (fun i p v a b a' b' hn h2 h1000 _ _ hb=>rr_hold B ub g iv nv fv tv ns I F i p v a' b' a b hn ⟨h2,h1000⟩ hb)
  (fun i p y a b a' b' hn _ ha hb=>rr_two B ub g iv nv fv tv ns I F i p a' b' y a b hn ha hb) (fun i p y a b a' b' hn _ ha hb=>rr_least B ub g iv nv fv tv ns I F i p a' b' y a b hn ha hb)
  (fun i p a b c a' b' c' hn ha hb hc=>rr_if B ub g iv nv fv tv ns I F i p a' b' c' a b c hn ha hb hc)
end
end Go.Proofs.YtoiajojadihpbaaGreatDoor
