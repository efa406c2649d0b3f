import Derived.Test.YtoiajojadihpbaaGreatDoorPt35
import Derived.Deep.LoopGhost
import Derived.Deep.Cut
import Derived.Deep.RegionHeld3
import Derived.Test.YtoiajojadihpbaaGreatDoorPt01
import Derived.OwnWalk
import Derived.Laws.CopyOwn
import Derived.Maps.AppendAt
import Derived.Lib.SliceRun
import Derived.Test.YtoiajojadihpbaaGreatDoorPt15
import Derived.Test.YtoiajojadihpbaaGreatDoorPt18
namespace Go.Proofs.YtoiajojadihpbaaGreatDoor
set_option maxHeartbeats 8000000
section
open Go.RowKit
set_option maxRecDepth 100000 in
theorem rprint_any (B g:Nat) (iv nv:Value) (ns:List Ref.Nd) (I:List Iw) (l:List Mil.It) (hR:Ref.Reps ns (I.map Iw.im) l) (hok:∀i,i∈l→Mil.ItOk i) (hln:l.length≤60) (ht:(Mil.allToks l).length≤600) (w:World) (h:PI B g iv nv ns I w) :
  Calls Tryz.prog 19 #[.pointer (some ⟨g,0,none⟩)] w (TxPost (Mil.print l) w):=by
 have HP:=hid h
 have HR:=hid hR
 have HK:Hid (∀i,i∈l→Mil.ItOk i∧(Mil.itemToks i).length≤600):=fun i hi=>⟨hok i hi,Ref.toks_mem hi ht⟩
 have HL:Hid (I.length=l.length∧l.length≤60):=by
  have:=hR.len
  rw [List.length_map] at this
  exact ⟨this,hln⟩
 clear h hR hok ht hln
 go_enter Tryz.func19,Tryz.ntmps19
 go_wp2_with fail
 have iv1:Hid (∀w',Below w.heap.size w w'→∃o c,iv=.slice o I.length c∧w'.cell? ⟨g,0,none⟩=some (.slice o I.length c)):=fun w' hb=>by
  obtain ⟨o,c,e⟩:=own_shape HP.out.own
  exact ⟨o,c,e,e ▸ (HP.out.below hb).pm.cells.1⟩
 go_loopg [3,4] l.length (fun gk s3 s4 wr=>∃(i:Nat),s3=.string (bs (Mil.print (l.take i)))∧s4=.int .i64 (i:Nat)∧i≤l.length∧gk=l.length - i∧Hid (Below w.heap.size w wr))
 case atStart=>exact ⟨0,rfl,rfl,Nat.zero_le _,rfl,Below.refl _ _⟩
 case round=>
  obtain ⟨i,rfl,rfl,hi,hg,HB⟩:=hrel
  have HG:=hid hg
  clear hg
  obtain ⟨o,c,hiv,d0⟩:=iv1.out wr HB.out
  have HIV:=hid hiv
  clear hiv
  have HI:=hid hi
  by_cases hlt:i < I.length
  ·have b0:((i:Int) < (I.length:Int))=True:=by simp;omega
   have i1:(0:Int)≤(i:Int):=by omega
   have i2:(i:Int) < (I.length:Int):=by omega
   have hll:i < l.length:=by have:=HL.out;omega
   have hy:I[i]?=some I[i]:=List.getElem?_eq_getElem hlt
   generalize I[i]=y at hy
   obtain ⟨it,hit,hrep⟩:=HR.out.get (k:=i) (x:=y.im) (by rw [List.getElem?_map,hy];rfl)
   obtain ⟨k,cc,hv2,c0,c1,c2,c3,c4,c5,c6,c7⟩:=(HP.out.below HB.out).item8 hy
   obtain ⟨ho,hcc⟩:o=some ⟨k,0,none⟩∧c=cc:=by
    rw [HIV.out] at hv2
    injection hv2 with h1 h2 h3
    exact ⟨h1,h3⟩
   subst ho
   subst hcc
   have HOK:=HK.out it (List.mem_of_getElem? hit)
   have HX:Hid (Mil.print (l.take (i+1))=Mil.print (l.take i)++Mil.itemText it):=by
    show _=_
    rw [List.take_add_one,hit]
    exact Ref.print_snoc _ _
   have HPL:Hid ((Mil.print (l.take i)).length≤2000000):=by
    have h1:=Ref.printLen (l.take i) (fun j hj=>HK.out j (List.mem_of_mem_take hj))
    have h2:=HL.out
    rw [List.length_take] at h1
    show _≤2000000
    have h3:min i l.length≤60:=by omega
    have h4:30010*min i l.length≤30010*60:=Nat.mul_le_mul_left _ h3
    omega
   have HRW:Hid (wr.ownsRow B 9 1 y.nv y.im.names.length (nms y.im.names)):=((HP.out.below HB.out).rows y (List.mem_of_getElem? hy)).1
   obtain ⟨on,cn,hyn⟩:=own_shape HRW.out
   obtain ⟨op,cp,hyp⟩:=own_shape ((HP.out.below HB.out).rows y (List.mem_of_getElem? hy)).2
   have HPW:=hid (HP.out.below HB.out)
   have HLT:=hid hll
   obtain ⟨⟨ykd,a0,ynm,yty,ype,yns,ye⟩,yn,yp⟩:=y
   simp only [] at c0 c1 c2 c3 c4 c5 c6 c7 hrep HRW hyn hyp
   subst hyn hyp
   obtain ⟨r1,r2,r3,r4,r5,r6,r7⟩:=hrep
   simp only [] at r1 r2 r3 r4 r5 r6
   subst r1 r2 r3 r4
   clear hv2 hy hit hlt hll r7 HP
   rcases HOK with ⟨⟨x,t,kk,rfl,hx,hty,_,hk⟩ | ⟨x,r,rfl,hx,hr⟩ | ⟨x,t,e,rfl,hx,hty,he⟩,htk⟩
   ·simp only [] at c0 c2 c3 c4
    have s0:(bs (Mil.print (l.take i))).size≤2000000:=by rw [bs_size];exact HPL.out
    have s1:(bs x).size≤12:=by rw [bs_size];exact hx.2.2.1
    have s2:(bs (Mil.tyText t)).size≤4:=by rw [bs_size];exact Ref.tyLen t
    have s3:(bs (Lib.decDigits kk)).size≤20:=by rw [bs_size];exact Mil.digits_len (by unfold Mil.maxInt;omega)
    have n0:¬9223372036854775807 < (bs (Mil.print (l.take i))).size+6:=by omega
    have n1:¬9223372036854775807 < (bs (Mil.print (l.take i))).size+6+(bs x).size:=by omega
    have n2:¬9223372036854775807 < (bs (Mil.print (l.take i))).size+6+(bs x).size+3:=by omega
    have n3:¬9223372036854775807 < (bs (Mil.print (l.take i))).size+6+(bs x).size+3+(bs (Mil.tyText t)).size:=by omega
    have n4:¬9223372036854775807 < (bs (Mil.print (l.take i))).size+6+(bs x).size+3+(bs (Mil.tyText t)).size+7:=by omega
    have n5:¬9223372036854775807 < (bs (Mil.print (l.take i))).size+6+(bs x).size+3+(bs (Mil.tyText t)).size+7+(bs (Lib.decDigits kk)).size:=by omega
    have n6:¬9223372036854775807 < (bs (Mil.print (l.take i))).size+6+(bs x).size+3+(bs (Mil.tyText t)).size+7+(bs (Lib.decDigits kk)).size+2:=by omega
    have HGG:Hid ((bs (Mil.print (l.take i)))++bs (Mil.wInput++Mil.blank)++bs x++bs Mil.colonB++bs (Mil.tyText t)++bs (Mil.blank++Mil.wEvery++Mil.blank)++bs (Lib.decDigits kk)++bs Mil.endB=bs (Mil.print (l.take (i+1)))):=by
     show _=_
     rw [HX.out,bs_add,bs_add,bs_add,bs_add,bs_add,bs_add,bs_add]
     show bs _=bs (_++(Mil.wInput++Mil.blank++x++Mil.colonB++Mil.tyText t++Mil.blank++Mil.wEvery++Mil.blank++Lib.decDigits kk++Mil.endB))
     simp only [List.append_assoc]
    have hw:IntKind.i64.wrap ((i:Int)+1)=(i:Int)+1:=by
     have:=HL.out
     have:=HI.out
     simp only [IntKind.wrap_i64];omega
    have TY:Hid (t≤1):=by
     show t≤1
     rcases hty with rfl | rfl <;> omega
    have DG:Hid (kk≤9223372036854775807):=by show kk≤_;omega
    have HB0:Hid (Below wr.heap.size wr (wr.alloc (.cells #[.int .i64 1,.int .i64 (a0:Nat),.string (bs x),.int .i64 (t:Nat),.int .i64 (kk:Nat),.slice on yns.length cn,.slice op yns.length cp,.int .i64 (ye:Nat)] 122))):=(Below.refl _ _).alloc (Nat.le_refl _) _
    have NC:Hid (∀w',Below (wr.alloc (.cells #[.int .i64 1,.int .i64 (a0:Nat),.string (bs x),.int .i64 (t:Nat),.int .i64 (kk:Nat),.slice on yns.length cn,.slice op yns.length cp,.int .i64 (ye:Nat)] 122)).heap.size (wr.alloc (.cells #[.int .i64 1,.int .i64 (a0:Nat),.string (bs x),.int .i64 (t:Nat),.int .i64 (kk:Nat),.slice on yns.length cn,.slice op yns.length cp,.int .i64 (ye:Nat)] 122)) w'→∀j,w'.cell? ⟨wr.heap.size,j,none⟩=(#[.int .i64 1,.int .i64 (a0:Nat),.string (bs x),.int .i64 (t:Nat),.int .i64 (kk:Nat),.slice on yns.length cn,.slice op yns.length cp,.int .i64 (ye:Nat)]:Array Value)[j]?):=fun w' hb j=>(hb.cell (by simp)).trans (cell_of_row _ _ j _ _ _ (heap_alloc_new wr _))
    have HPW0:=hid (HPW.out.below HB0.out)
    have HBW:Hid (Below w.heap.size w (wr.alloc (.cells #[.int .i64 1,.int .i64 (a0:Nat),.string (bs x),.int .i64 (t:Nat),.int .i64 (kk:Nat),.slice on yns.length cn,.slice op yns.length cp,.int .i64 (ye:Nat)] 122))):=HB.out.trans (HB0.out.mono HB.out.size)
    clear hx hty hk htk r5 r6 s0 s1 s2 s3
    go_wp2_with fail
    generalize wr.alloc (.cells #[.int .i64 1,.int .i64 (a0:Nat),.string (bs x),.int .i64 (t:Nat),.int .i64 (kk:Nat),.slice on yns.length cn,.slice op yns.length cp,.int .i64 (ye:Nat)] 122)=W at HB0 NC HPW0 HBW ⊢
    refine (rdigits_any kk DG.out _).mono ?_
    rintro r w1 ⟨rfl,hb1⟩
    have B1:=hid hb1
    clear hb1 c0 c1 c2 c3 c4 c5 c6 c7 d0 HPW
    have j2:∀w',Below W.heap.size W w'→w'.cell? ⟨wr.heap.size,2,none⟩=some (.string (bs x)):=fun w' h=>NC.out w' h 2
    have j3:∀w',Below W.heap.size W w'→w'.cell? ⟨wr.heap.size,3,none⟩=some (.int .i64 (t:Nat)):=fun w' h=>NC.out w' h 3
    go_wp2_with fail
    go_region_held3 (fun w'=>Below W.heap.size W w') (first | assumption | exact B1.out.drew | exact Below.alloc (by assumption) (Below.size (by assumption)) _) (first
     | (go_at_call 54;(with_reducible refine (typeName_any t TY.out _).mono ?_);rintro r w2 ⟨rfl,hb2⟩;have hB2:Below W.heap.size W w2:=below_step (by assumption) hb2))
    generalize (bs (Mil.print (l.take i)))=XP at HGG n0 n1 n2 n3 n4 n5 n6 ⊢
    generalize bs (Mil.tyText t)=XT at HGG n3 n4 n5 n6 ⊢
    generalize bs (Lib.decDigits kk)=XD at HGG n5 n6 ⊢
    go_wp2_with fail
    go_roundg (l.length - (i+1))
    case measure=>
     have h1:=HG.out
     have h2:=HLT.out
     omega
    case rel=>
     refine ⟨i+1,?_,rfl,HLT.out,rfl,?_⟩
     ·rw [←HGG.out];rfl
     ·refine HBW.out.trans (Below.mono (B:=W.heap.size) ?_ HBW.out.size)
      assumption
   ·simp only [] at c0 c2 c3 c4 r5
    have s0:(bs (Mil.print (l.take i))).size≤2000000:=by rw [bs_size];exact HPL.out
    have n0:¬9223372036854775807 < (bs (Mil.print (l.take i))).size+7:=by omega
    have hw:IntKind.i64.wrap ((i:Int)+1)=(i:Int)+1:=by
     have:=HL.out
     have:=HI.out
     simp only [IntKind.wrap_i64];omega
    have R5:=hid r5
    have NL:Hid (yns.length≤601):=by
     have h1:=Ref.outToks htk
     have h2:=congrArg List.length r5
     rw [List.length_map,List.length_cons] at h2
     show yns.length≤601
     omega
    have NN:Hid (∀y,y∈yns.map Prod.fst→y.length≤12):=by
     rw [r5]
     intro y hy
     rcases List.mem_cons.1 hy with rfl | hy
     ·exact hx.2.2.1
     ·exact (hr y hy).2.2.1
    have HTX:Hid (Mil.print (l.take (i+1))=Mil.print (l.take i)++(Mil.wOutput++Mil.blank++Mil.namesText (yns.map Prod.fst)++Mil.endB)):=by
     show _=_
     rw [HX.out,r5];rfl
    have HB0:Hid (Below wr.heap.size wr (wr.alloc (.cells #[.int .i64 2,.int .i64 (a0:Nat),.string (bs []),.int .i64 0,.int .i64 0,.slice on yns.length cn,.slice op yns.length cp,.int .i64 (ye:Nat)] 122))):=(Below.refl _ _).alloc (Nat.le_refl _) _
    have NC:Hid (∀w',Below (wr.alloc (.cells #[.int .i64 2,.int .i64 (a0:Nat),.string (bs []),.int .i64 0,.int .i64 0,.slice on yns.length cn,.slice op yns.length cp,.int .i64 (ye:Nat)] 122)).heap.size (wr.alloc (.cells #[.int .i64 2,.int .i64 (a0:Nat),.string (bs []),.int .i64 0,.int .i64 0,.slice on yns.length cn,.slice op yns.length cp,.int .i64 (ye:Nat)] 122)) w'→∀j,w'.cell? ⟨wr.heap.size,j,none⟩=(#[.int .i64 2,.int .i64 (a0:Nat),.string (bs []),.int .i64 0,.int .i64 0,.slice on yns.length cn,.slice op yns.length cp,.int .i64 (ye:Nat)]:Array Value)[j]?):=fun w' hb j=>(hb.cell (by simp)).trans (cell_of_row _ _ j _ _ _ (heap_alloc_new wr _))
    have HPW0:=hid (HPW.out.below HB0.out)
    have HBW:Hid (Below w.heap.size w (wr.alloc (.cells #[.int .i64 2,.int .i64 (a0:Nat),.string (bs []),.int .i64 0,.int .i64 0,.slice on yns.length cn,.slice op yns.length cp,.int .i64 (ye:Nat)] 122))):=HB.out.trans (HB0.out.mono HB.out.size)
    have HRW0:Hid ((wr.alloc (.cells #[.int .i64 2,.int .i64 (a0:Nat),.string (bs []),.int .i64 0,.int .i64 0,.slice on yns.length cn,.slice op yns.length cp,.int .i64 (ye:Nat)] 122)).ownsRow B 9 1 (.slice on yns.length cn) yns.length (nms yns)):=own_kept HRW.out (fun k hk=>HB0.out.block k (HRW.out.lt k hk).2)
    clear hx hr htk r5 r6 s0 HRW
    go_wp2_with fail
    generalize wr.alloc (.cells #[.int .i64 2,.int .i64 (a0:Nat),.string (bs []),.int .i64 0,.int .i64 0,.slice on yns.length cn,.slice op yns.length cp,.int .i64 (ye:Nat)] 122)=W at HB0 NC HPW0 HBW HRW0 ⊢
    clear c0 c1 c2 c3 c4 c5 c6 c7 d0 HPW n0
    have J5:Hid (∀w',Below W.heap.size W w'→w'.cell? ⟨wr.heap.size,5,none⟩=some (.slice on yns.length cn)):=fun w' h=>NC.out w' h 5
    clear NC HB0 HB
    generalize wr.heap.size=q5 at J5 ⊢
    go_loopg [3,7] yns.length (fun gj s3 s7 wj=>∃(j:Nat),s3=.string (bs (Mil.print (l.take i)++Mil.wOutput++Mil.blank++Mil.namesText ((yns.map Prod.fst).take j)))∧s7=.int .i64 (j:Nat)∧j≤yns.length∧gj=yns.length - j∧Hid (Below W.heap.size W wj))
    case atStart=>
     refine ⟨0,?_,rfl,Nat.zero_le _,rfl,Below.refl _ _⟩
     show Value.string _=Value.string (bs (Mil.print (l.take i)++Mil.wOutput++Mil.blank++[]))
     rw [List.append_nil,List.append_assoc,←bs_add];rfl
    case round=>
     obtain ⟨j,rfl,rfl,hj,hgj,HBJ⟩:=hrel
     have HGJ:=hid hgj
     have HJ:=hid hj
     clear hgj
     have j5:=J5.out _ HBJ.out
     have hsj:(bs (Mil.print (l.take i)++Mil.wOutput++Mil.blank++Mil.namesText ((yns.map Prod.fst).take j))).size≤2020000:=by
      rw [bs_size]
      have h1:=Ref.namesLen ((yns.map Prod.fst).take j) (fun y hy=>NN.out y (List.mem_of_mem_take hy))
      have h2:=HPL.out
      have h3:=NL.out
      rw [List.length_take,List.length_map] at h1
      have h4:min j yns.length≤601:=by omega
      have h5:14*min j yns.length≤14*601:=Nat.mul_le_mul_left _ h4
      simp only [List.length_append,Mil.wOutput,Mil.blank,List.length_cons,List.length_nil]
      omega
     by_cases hlj:j < yns.length
     ·have b0:((j:Int) < (yns.length:Int))=True:=by simp;omega
      have i1:(0:Int)≤(j:Int):=by omega
      have i2:(j:Int) < (yns.length:Int):=by omega
      have hz:yns[j]?=some yns[j]:=List.getElem?_eq_getElem hlj
      generalize yns[j]=z at hz
      obtain ⟨z1,z2⟩:=z
      obtain ⟨kn,hon,cz⟩:=row_name (own_kept HRW0.out (fun k hk=>HBJ.out.block k (HRW0.out.lt k hk).2)) hz
      have hz1:(yns.map Prod.fst)[j]?=some z1:=by rw [List.getElem?_map,hz];rfl
      have hz2:(bs z1).size≤12:=by
       rw [bs_size];exact NN.out z1 (List.mem_of_getElem? hz1)
      have HST:Hid (Mil.namesText ((yns.map Prod.fst).take (j+1))=(if j=0 then [] else Mil.namesText ((yns.map Prod.fst).take j)++Mil.commaB)++z1):=Ref.names_step hz1
      have hwj:IntKind.i64.wrap ((j:Int)+1)=(j:Int)+1:=by
       have:=NL.out
       simp only [IntKind.wrap_i64];omega
      have HLJ:=hid hlj
      rw [hon] at j5
      have HON:=hid hon
      clear hz hz1 hlj hj hon
      by_cases hj0:j=0
      ·have b1:((0:Int) < (j:Int))=False:=by simp;omega
       have b2:(0 < j)=False:=by simp;omega
       have HGJ2:Hid ((bs (Mil.print (l.take i)++Mil.wOutput++Mil.blank++Mil.namesText ((yns.map Prod.fst).take j)))++bs z1=bs (Mil.print (l.take i)++Mil.wOutput++Mil.blank++Mil.namesText ((yns.map Prod.fst).take (j+1)))):=by
        show _=_
        rw [HST.out,if_pos hj0,bs_add,hj0]
        simp only [List.append_assoc]
        rfl
       generalize (bs (Mil.print (l.take i)++Mil.wOutput++Mil.blank++Mil.namesText ((yns.map Prod.fst).take j)))=SJ at hsj HGJ2 ⊢
       have n1:¬9223372036854775807 < SJ.size+(bs z1).size:=by omega
       clear hj0 hsj hz2
       go_wp2_with fail
       go_roundg (yns.length - (j+1))
       case measure=>
        have h1:=HGJ.out
        have h2:=HLJ.out
        omega
       case rel=>
        exact ⟨j+1,by rw [←HGJ2.out],rfl,HLJ.out,rfl,HBJ⟩
      ·have b1:((0:Int) < (j:Int))=True:=by simp;omega
       have b2:(0 < j)=True:=by simp;omega
       have HGJ2:Hid ((bs (Mil.print (l.take i)++Mil.wOutput++Mil.blank++Mil.namesText ((yns.map Prod.fst).take j)))++bs Mil.commaB++bs z1=bs (Mil.print (l.take i)++Mil.wOutput++Mil.blank++Mil.namesText ((yns.map Prod.fst).take (j+1)))):=by
        show _=_
        rw [HST.out,if_neg hj0,bs_add,bs_add]
        simp only [List.append_assoc]
       generalize (bs (Mil.print (l.take i)++Mil.wOutput++Mil.blank++Mil.namesText ((yns.map Prod.fst).take j)))=SJ at hsj HGJ2 ⊢
       have n0:¬9223372036854775807 < SJ.size+2:=by omega
       have n1:¬9223372036854775807 < SJ.size+2+(bs z1).size:=by omega
       clear hj0 hsj hz2
       go_wp2_with fail
       go_roundg (yns.length - (j+1))
       case measure=>
        have h1:=HGJ.out
        have h2:=HLJ.out
        omega
       case rel=>
        exact ⟨j+1,by rw [←HGJ2.out];rfl,rfl,HLJ.out,rfl,HBJ⟩
     ·have b0:((j:Int) < (yns.length:Int))=False:=by simp;omega
      have HEE:Hid ((bs (Mil.print (l.take i)++Mil.wOutput++Mil.blank++Mil.namesText ((yns.map Prod.fst).take j)))++bs Mil.endB=bs (Mil.print (l.take (i+1)))):=by
       show _=_
       have ej:(yns.map Prod.fst).take j=yns.map Prod.fst:=List.take_of_length_le (by rw [List.length_map];omega)
       rw [HTX.out,bs_add,ej]
       simp only [List.append_assoc]
      generalize (bs (Mil.print (l.take i)++Mil.wOutput++Mil.blank++Mil.namesText ((yns.map Prod.fst).take j)))=SJ at hsj HEE ⊢
      have n0:¬9223372036854775807 < SJ.size+2:=by omega
      clear hlj hsj hj
      go_wp2_with fail
      go_roundg (l.length - (i+1))
      case measure=>
       have h1:=HG.out
       have h2:=HLT.out
       omega
      case rel=>
       exact ⟨i+1,by rw [←HEE.out];rfl,rfl,HLT.out,rfl,HBW.out.trans (HBJ.out.mono HBW.out.size)⟩
   ·simp only [] at c0 c2 c3 c4 r6
    have htk':=Ref.eqToks htk
    have s0:(bs (Mil.print (l.take i))).size≤2000000:=by rw [bs_size];exact HPL.out
    have s1:(bs x).size≤12:=by rw [bs_size];exact hx.2.2.1
    have s2:(bs (Mil.tyText t)).size≤4:=by rw [bs_size];exact Ref.tyLen t
    have s3:(bs (Mil.txt e)).size≤24000:=by rw [bs_size];exact rx_short he htk'
    have n0:¬9223372036854775807 < (bs (Mil.print (l.take i))).size+(bs x).size:=by omega
    have n1:¬9223372036854775807 < (bs (Mil.print (l.take i))).size+(bs x).size+3:=by omega
    have n2:¬9223372036854775807 < (bs (Mil.print (l.take i))).size+(bs x).size+3+(bs (Mil.tyText t)).size:=by omega
    have n3:¬9223372036854775807 < (bs (Mil.print (l.take i))).size+(bs x).size+3+(bs (Mil.tyText t)).size+3:=by omega
    have n4:¬9223372036854775807 < (bs (Mil.print (l.take i))).size+(bs x).size+3+(bs (Mil.tyText t)).size+3+(bs (Mil.txt e)).size:=by omega
    have n5:¬9223372036854775807 < (bs (Mil.print (l.take i))).size+(bs x).size+3+(bs (Mil.tyText t)).size+3+(bs (Mil.txt e)).size+2:=by omega
    have HGG:Hid ((bs (Mil.print (l.take i)))++bs x++bs Mil.colonB++bs (Mil.tyText t)++bs Mil.isB++bs (Mil.txt e)++bs Mil.endB=bs (Mil.print (l.take (i+1)))):=by
     show _=_
     rw [HX.out,bs_add,bs_add,bs_add,bs_add,bs_add,bs_add]
     show bs _=bs (_++(x++Mil.colonB++Mil.tyText t++Mil.isB++Mil.txt e++Mil.endB))
     simp only [List.append_assoc]
    have hw:IntKind.i64.wrap ((i:Int)+1)=(i:Int)+1:=by
     have:=HL.out
     have:=HI.out
     simp only [IntKind.wrap_i64];omega
    have TY:Hid (t≤1):=by
     show t≤1
     rcases hty with rfl | rfl <;> omega
    have TX:Hid (TR B g iv nv ns e ye):=(px_all B g iv nv ns e he ye (by simpa using r6) htk').1
    have HB0:Hid (Below wr.heap.size wr (wr.alloc (.cells #[.int .i64 3,.int .i64 (a0:Nat),.string (bs x),.int .i64 (t:Nat),.int .i64 0,.slice on yns.length cn,.slice op yns.length cp,.int .i64 (ye:Nat)] 122))):=(Below.refl _ _).alloc (Nat.le_refl _) _
    have NC:Hid (∀w',Below (wr.alloc (.cells #[.int .i64 3,.int .i64 (a0:Nat),.string (bs x),.int .i64 (t:Nat),.int .i64 0,.slice on yns.length cn,.slice op yns.length cp,.int .i64 (ye:Nat)] 122)).heap.size (wr.alloc (.cells #[.int .i64 3,.int .i64 (a0:Nat),.string (bs x),.int .i64 (t:Nat),.int .i64 0,.slice on yns.length cn,.slice op yns.length cp,.int .i64 (ye:Nat)] 122)) w'→∀j,w'.cell? ⟨wr.heap.size,j,none⟩=(#[.int .i64 3,.int .i64 (a0:Nat),.string (bs x),.int .i64 (t:Nat),.int .i64 0,.slice on yns.length cn,.slice op yns.length cp,.int .i64 (ye:Nat)]:Array Value)[j]?):=fun w' hb j=>(hb.cell (by simp)).trans (cell_of_row _ _ j _ _ _ (heap_alloc_new wr _))
    have HPW0:=hid (HPW.out.below HB0.out)
    have HBW:Hid (Below w.heap.size w (wr.alloc (.cells #[.int .i64 3,.int .i64 (a0:Nat),.string (bs x),.int .i64 (t:Nat),.int .i64 0,.slice on yns.length cn,.slice op yns.length cp,.int .i64 (ye:Nat)] 122))):=HB.out.trans (HB0.out.mono HB.out.size)
    clear hx hty he htk htk' r5 r6 s0 s1 s2 s3
    go_wp2_with fail
    generalize wr.alloc (.cells #[.int .i64 3,.int .i64 (a0:Nat),.string (bs x),.int .i64 (t:Nat),.int .i64 0,.slice on yns.length cn,.slice op yns.length cp,.int .i64 (ye:Nat)] 122)=W at HB0 NC HPW0 HBW ⊢
    refine (TX.out _ HPW0.out.pm).mono ?_
    rintro r w1 ⟨rfl,hb1⟩
    have B1:=hid hb1
    clear hb1 c0 c1 c2 c3 c4 c5 c6 c7 d0 HPW
    have j2:∀w',Below W.heap.size W w'→w'.cell? ⟨wr.heap.size,2,none⟩=some (.string (bs x)):=fun w' h=>NC.out w' h 2
    have j3:∀w',Below W.heap.size W w'→w'.cell? ⟨wr.heap.size,3,none⟩=some (.int .i64 (t:Nat)):=fun w' h=>NC.out w' h 3
    go_wp2_with fail
    go_region_held3 (fun w'=>Below W.heap.size W w') (first | assumption | exact B1.out.drew | exact Below.alloc (by assumption) (Below.size (by assumption)) _) (first
     | (go_at_call 54;(with_reducible refine (typeName_any t TY.out _).mono ?_);rintro r w2 ⟨rfl,hb2⟩;have hB2:Below W.heap.size W w2:=below_step (by assumption) hb2))
    generalize (bs (Mil.print (l.take i)))=XP at HGG n0 n1 n2 n3 n4 n5 ⊢
    generalize bs (Mil.tyText t)=XT at HGG n2 n3 n4 n5 ⊢
    generalize bs (Mil.txt e)=XD at HGG n4 n5 ⊢
    go_wp2_with fail
    go_roundg (l.length - (i+1))
    case measure=>
     have h1:=HG.out
     have h2:=HLT.out
     omega
    case rel=>
     refine ⟨i+1,?_,rfl,HLT.out,rfl,?_⟩
     ·rw [←HGG.out];rfl
     ·refine HBW.out.trans (Below.mono (B:=W.heap.size) ?_ HBW.out.size)
      assumption
  ·have b0:((i:Int) < (I.length:Int))=False:=by simp;omega
   have HE:Hid (l.take i=l):=by
    show l.take i=l
    have h1:=HL.out
    exact List.take_of_length_le (by omega)
   clear hlt
   go_wp2_with fail
   all_goals go_ret
   exact ⟨by rw [HE.out];rfl,HB.out⟩
end
section
open Go.RowKit
def Us (w:World) (v:Value):Prop:=∃(a:Option Addr) (n c:Nat),v=.slice a n c∧n*8≤140737488355328∧(n=0∨∃b off,a=some ⟨b,off,none⟩∧∃U:List Int,U.length=n∧∀j x,U[j]?=some x→w.cell? ⟨b,off+j,none⟩=some (.int .u64 x))
abbrev uv (U:List Int):List Value:=U.map (Value.int .u64)
theorem Us.below {w w':World} {v:Value} (h:Us w v) (hb:Below w.heap.size w w'):Us w' v:=by
 obtain ⟨a,n,c,rfl,h1,h2 | ⟨b,off,rfl,U,h3,h4⟩⟩:=h
 ·exact ⟨a,n,c,rfl,h1,Or.inl h2⟩
 ·refine ⟨_,n,c,rfl,h1,Or.inr ⟨b,off,rfl,U,h3,fun j x hx=>?_⟩⟩
  have:=h4 j x hx
  exact (hb.cell (lt_of_cell this)).trans this
theorem Tryz.infoWord:(Tryz.prog.info? 177).map (fun i=>(i.zero,i.size,i.bytes))=some (some (.int .u64 0),1,8):=by kernel_rfl
theorem wpList_append_first {w:World} {ops:Array Oper} {rest:List Oper} {o:Oper} {a:Act} {Q:Exit→Act→World→Prop} (hgd:o.guard=none) (s x:Operand)
  (ho:o.op=.call { callee:=.builtin .append,args:=#[s,x],argTypes:=#[27,27] }) (hs:a.eval s=.slice none 0 0) (v:Value) (hx:a.eval x=v) (hv:Us w v)
  (h:∀v' w' U,w'.ownsRow w.heap.size 177 1 v' (List.length U) (uv U)→w.grownBy w' none→wpList Tryz.prog ops Q rest (a.put o.dst v') w'):wpList Tryz.prog ops Q (o::rest) a w:=by
 obtain ⟨k0,hk,kz0,kz1,kz2⟩:=info_parts Tryz.infoWord
 obtain ⟨p,n,c,rfl,h1,h2⟩:=hv
 by_cases hn:n=0
 ·subst hn
  refine wpList_plain hgd fun K hK'=>?_
  unfold Oper.wp
  have e:(Builtin.append_ #[27,27] o.type #[.slice none 0 0,.slice p 0 c]).run Tryz.prog w=.ok (.slice none 0 0) w:=by
   cases p <;> simp [Builtin.append_,run_underlying Tryz.underlying27,sizeOf,typeInfo,hk,Builtin.lenOf,Builtin.firstCells,loadCells,loadCellsFrom]
  simp [execOp,ho,resolve,invoke,builtin,hs,hx,e,Result.andThen]
  exact hK' _ _ (h (.slice none 0 0) w [] (World.ownsRow_nil _ _ _ _) (World.grownBy.refl _ _))
 ·obtain ⟨b,off,rfl,U,h3,h4⟩:=h2.resolve_left hn
  have hc:∀j u,(uv U)[j]?=some u→w.cell? ((⟨b,off,none⟩:Addr).add j)=some u:=fun j u hu=>by
   rw [show (uv U)[j]?=(U[j]?).map (Value.int .u64) from List.getElem?_map ..] at hu
   obtain ⟨y,hy,rfl⟩:=Option.map_eq_some_iff.1 hu
   rw [Addr.add_lit]
   exact h4 j y hy
  refine wpList_append_own_at w hgd s x 27 ho w.heap.size 177 k0 (.int .u64 0) 1 8 Tryz.underlying27 hk kz0 kz1 kz2 rfl (by decide) (.slice none 0 0) 0 [] hs (World.ownsRow_nil _ _ _ _) ⟨b,off,none⟩ n c (uv U) hx (by simp [uv,h3]) hc (by intro u hu;obtain ⟨_,_,rfl⟩:=List.mem_map.1 hu;rfl) (by unfold maxLen;omega) (by omega) (Nat.le_refl _) ?_
  intro v' w' ho' hg' _ _
  rw [Nat.zero_add,List.nil_append,←h3] at ho'
  exact h v' w' U ho' hg'
theorem below_setCells {B b:Nat} (hB:B≤b):∀(vs:List Value) (o:Nat) {w0 w:World},Below B w0 w→Below B w0 (w.setCells b o vs)
 | [],_,_,_,h=>h
 | v::r,o,_,_,h=>by
  rw [World.setCells]
  exact below_setCells hB r (o+1) (h.setCell hB v)
theorem wpList_clear_own {w:World} {ops:Array Oper} {rest:List Oper} {o:Oper} {a:Act} {Q:Exit→Act→World→Prop} (hgd:o.guard=none) (s:Operand)
  (ho:o.op=.call { callee:=.builtin .clear,args:=#[s],argTypes:=#[27] }) (base:Nat) (v:Value) (U:List Int) (hs:a.eval s=v) (hv:w.ownsRow base 177 1 v U.length (uv U))
  (h:∀w',Below base w w'→wpList Tryz.prog ops Q rest (a.put o.dst (.tuple #[])) w'):wpList Tryz.prog ops Q (o::rest) a w:=by
 obtain ⟨k0,hk,kz0,kz1,kz2⟩:=info_parts Tryz.infoWord
 refine wpList_plain hgd fun K hK'=>?_
 have hz:∀w,(zeroValue 177).run Tryz.prog w=.ok (.int .u64 0) w:=fun w=>by simp [zeroValue,typeInfo,hk,kz0]
 have e:∃w',(Builtin.clear_ #[27] o.type #[v]).run Tryz.prog w=.ok (.tuple #[]) w'∧Below base w w':=by
  rcases hv.2 with ⟨rfl,_⟩ | ⟨k,cap,cur,rfl,hbk,hkk,hcap,hmx,hsz,htk⟩
  ·exact ⟨w,by simp [Builtin.clear_,run_underlying Tryz.underlying27],Below.refl _ _⟩
  ·by_cases h0:U.length=0
   ·rw [h0]
    exact ⟨w,by simp [Builtin.clear_,run_underlying Tryz.underlying27],Below.refl _ _⟩
   ·refine ⟨_,Lib.run_clear_slice w 27 177 o.type (.int .u64 0) Tryz.underlying27 hz rfl rfl k 0 U.length cap (by omega) (fun j hj=>?_) (fun j hj=>?_),below_setCells hbk _ _ (Below.refl _ _)⟩
    ·rw [cell_of_row w k _ _ _ _ hkk]
     simp
     omega
    ·unfold World.frozen?;rw [hkk];simp
 obtain ⟨w',hr,hb⟩:=e
 unfold Oper.wp
 simp [execOp,ho,resolve,invoke,builtin,hs,hr,Result.andThen]
 exact hK' _ _ (h w' hb)
theorem regNew_any (k:Int) (v:Value) (w:World):Calls Tryz.prog 79 #[.int .i64 k,v] w fun r w'=>r=.returned (.tuple #[.pointer none,.nilIface])∧w'=w:=by
 go_enter Tryz.func79,Tryz.ntmps79
 go_wp2_with fail
 all_goals go_ret2
 all_goals exact ⟨rfl,rfl⟩
theorem number_nil (w:World):Calls Tryz.prog 80 #[.nilIface] w fun r w'=>r=.returned (.int .i64 0)∧w'=w:=by
 go_enter Tryz.func80,Tryz.ntmps80
 go_wp2_with fail
 all_goals go_ret
 all_goals exact ⟨rfl,rfl⟩
set_option maxRecDepth 100000 in
theorem register_any (k:Int) (v:Value) (w:World) (hv:Us w v):Calls Tryz.prog 34 #[.int .i64 k,v] w fun r w'=>r=.returned (.tuple #[.pointer none,.int .i64 0])∧Below w.heap.size w w':=by
 have HV:=hid hv
 clear hv
 go_enter Tryz.func34,Tryz.ntmps34
 go_wp2_with (at_builtin;refine wpList_append_first rfl _ _ rfl rfl v rfl HV.out ?_;intro v1 w1 U ho1 hg1)
 have HO1:=hid ho1
 have HB1:Hid (Below w.heap.size w w1):=⟨hg1.os,hg1.tape,hg1.output,hg1.size,fun k hk=>hg1.block k hk (by simp)⟩
 clear ho1 hg1
 refine (regNew_any _ _ _).mono ?_
 rintro r w2 ⟨rfl,rfl⟩
 go_wp2_with (refine wpList_clear_own rfl (.tmp 17) rfl w.heap.size v1 U rfl HO1.out ?_;intro w3 hb3)
 have HB3:=hid (HB1.out.trans hb3)
 clear hb3
 refine (number_nil _).mono ?_
 rintro r w4 ⟨rfl,rfl⟩
 go_wp2_with fail
 all_goals go_ret2
 all_goals exact ⟨rfl,HB3.out⟩
end
section
open Go.RowKit
set_option maxRecDepth 100000 in
theorem told_any (e1 a1 e2 a2:Int) (w:World):Calls Tryz.prog 17 #[.agg #[.int .i64 e1,.int .i64 a1],.agg #[.int .i64 e2,.int .i64 a2]] w fun r w'=>(∃z:Bool,r=.returned (.bool z)∧(e1≠e2→z=false))∧Below w.heap.size w w':=by
 have hb:Hid (Below w.heap.size w ((w.alloc (.cells #[.int .i64 e1,.int .i64 a1] 40)).alloc (.cells #[.int .i64 e2,.int .i64 a2] 44))):=((Below.refl _ _).alloc (Nat.le_refl _) _).alloc (by simp) _
 by_cases h1:e1=e2
 ·have q1:(e1==e2)=true:=by rw [beq_iff_eq];exact h1
  have H1:=hid h1
  clear h1
  obtain ⟨q2,h2⟩:∃q,(e1==0)=q:=⟨_,rfl⟩
  cases q2
  all_goals (
   go_enter Tryz.func17,Tryz.ntmps17
   go_wp2_with fail
   all_goals go_ret
   all_goals exact ⟨⟨_,rfl,fun h=>absurd H1.out h⟩,hb.out⟩)
 ·have q1:(e1==e2)=false:=by rw [beq_eq_false_iff_ne];exact h1
  clear h1
  go_enter Tryz.func17,Tryz.ntmps17
  go_wp2_with fail
  all_goals go_ret
  all_goals exact ⟨⟨_,rfl,fun _=>rfl⟩,hb.out⟩
theorem below_stepL {W u v:World} (h:Below W.heap.size W u) (k:Below u.heap.size u v):Below W.heap.size W v:=h.trans (k.mono h.size)
theorem millCompile_any (s:ByteArray) (w:World):Calls Tryz.prog 56 #[.string s] w fun r w'=>r=.returned (.tuple #[.pointer none,.nilIface])∧w'=w:=by
 go_enter Tryz.func56,Tryz.ntmps56
 go_wp2_with fail
 all_goals go_ret2
 all_goals exact ⟨rfl,rfl⟩
set_option maxRecDepth 100000 in
theorem faultNil (w:World):Calls Tryz.prog 46 #[.nilIface] w fun r w'=>r=.returned (.agg #[.int .i64 0,.int .i64 0])∧Below w.heap.size w w':=by
 go_enter Tryz.func46,Tryz.ntmps46
 go_wp2
 exact bodyPost_ret (v:=.agg #[.int .i64 0,.int .i64 0]) (by simp [results,Tryz.results46,go_sem]) rfl ⟨rfl,(Below.refl _ _).alloc (Nat.le_refl _) _⟩
theorem two_setL {w:World} {F:Nat} {x y u v:Value} {e:TypeId} (h:w.heap[F]?=some (.cells #[x,y] e (0,0))):(w.setCell ⟨F,0,none⟩ u).cell? ⟨F,0,none⟩=some u∧((w.setCell ⟨F,0,none⟩ u).setCell ⟨F,1,none⟩ v).cell? ⟨F,1,none⟩=some v∧((w.setCell ⟨F,0,none⟩ u).setCell ⟨F,1,none⟩ v).heap[F]?=some (.cells #[u,v] e (0,0)):=by
 have e1:(w.setCell ⟨F,0,none⟩ u).heap[F]?=some (.cells #[u,y] e (0,0)):=by
  show (w.heap.modify F _)[F]?=_
  rw [Array.getElem?_modify,if_pos rfl,h];rfl
 have e2:((w.setCell ⟨F,0,none⟩ u).setCell ⟨F,1,none⟩ v).heap[F]?=some (.cells #[u,v] e (0,0)):=by
  show ((w.setCell ⟨F,0,none⟩ u).heap.modify F _)[F]?=_
  rw [Array.getElem?_modify,if_pos rfl,e1];rfl
 exact ⟨(cell_of_row _ _ 0 _ _ _ e1).trans rfl,(cell_of_row _ _ 1 _ _ _ e2).trans rfl,e2⟩
theorem two_at {w:World} {q:Nat} {e:TypeId} {x y:Value} (h:w.heap[q]?=some (.cells #[x,y] e (0,0))):w.cell? ⟨q,0,none⟩=some x∧w.cell? ⟨q,1,none⟩=some y∧∀k,w.frozen? ⟨q,k,none⟩=false:=by
 refine ⟨(cell_of_row w _ 0 _ _ _ h).trans rfl,(cell_of_row w _ 1 _ _ _ h).trans rfl,fun k=>?_⟩
 unfold World.frozen?;rw [h];simp
set_option maxRecDepth 100000 in
theorem plainCompile_any (s:ByteArray) (w:World):Calls Tryz.prog 20 #[.string s] w fun r w'=>r=.returned (.tuple #[.pointer none,.agg #[.int .i64 0,.int .i64 0]])∧Below w.heap.size w w':=by
 go_enter Tryz.func20,Tryz.ntmps20
 go_wp2_with fail
 refine (millCompile_any _ _).mono ?_
 rintro r w1 ⟨rfl,rfl⟩
 go_wp2_with fail
 refine (faultNil _).mono ?_
 rintro r w2 ⟨rfl,hb⟩
 have HB:Hid (Below w.heap.size w w2):=below_stepL ((Below.refl _ _).alloc (Nat.le_refl _) _) hb
 have hf:w2.heap[w.heap.size]?=some (.cells #[.int .i64 0,.int .i64 0] 40 (0,0)):=(hb.block _ (by simp)).trans (heap_alloc_new w _)
 have HF:=hid hf
 obtain ⟨c0,c1,cz⟩:=two_at hf
 clear hb hf
 go_wp2_with fail
 obtain ⟨a2,a3,_⟩:=two_setL (u:=.int .i64 0) (v:=.int .i64 0) HF.out
 refine bodyPost_ret (v:=.tuple #[.pointer none,.agg #[.int .i64 0,.int .i64 0]]) (by simp [results,Tryz.results20,a2,a3,go_sem]) rfl ?_
 exact ⟨rfl,(HB.out.setCell (Nat.le_refl _) _).setCell (Nat.le_refl _) _⟩
def CpP (w:World) (r:Ending) (w':World):Prop:=(∃(p:Value) (fe fa:Int),r=.returned (.tuple #[p,.agg #[.int .i64 fe,.int .i64 fa]]))∧Below w.heap.size w w'
end
section
open Go.RowKit
namespace Mil
theorem Parsed.one {b:Bytes} {x y:List It} (h:Parsed b x) (k:Parsed b y):x=y:=by
 obtain ⟨n,h⟩:=h
 obtain ⟨m,k⟩:=k
 unfold parse at h k
 by_cases c:4000 < b.length
 ·rw [if_pos c] at h;cases h
 ·rw [if_neg c] at h k
  obtain ⟨s,h1,h2⟩:=Option.bind_eq_some_iff.1 h
  obtain ⟨s',k1,k2⟩:=Option.bind_eq_some_iff.1 k
  obtain rfl:=Option.some.inj (h1.symm.trans k1)
  exact Rprog.unique ⟨n,h2⟩ ⟨m,k2⟩
end Mil
structure All (al a:Nat→Addr) (w:World):Prop where
 p:Pl a w
 e:Errs al w
 s:Same al a
 d:∀i k,k < i→i < 13→al k≠al i
theorem All.below {al a:Nat→Addr} {w w':World} (h:All al a w) (hb:Below w.heap.size w w'):All al a w':=⟨h.p.below hb,h.e.below hb,h.s,h.d⟩
theorem print_tree (al a:Nat→Addr) (l:List Mil.It) (r:Mil.Bytes) (hr:Mil.Parsed r l) (t:Nat) (w:World) (h:All al a w) (hT:TreeAt w l t) :
  Calls Tryz.prog 18 #[.pointer (some ⟨t,0,none⟩)] w (TxPost (Mil.print l) w):=by
 obtain ⟨b,o,n,c,h1,h2⟩:=hT
 exact print_any a l r hr t b o n c w h.p h1 h2
set_option maxRecDepth 100000 in
theorem parsed_any (al a:Nat→Addr) (s:ByteArray) (w:World) (h:All al a w):Calls Tryz.prog 8 #[.string s] w fun r w'=>(∃z:Bool,r=.returned (.bool z))∧Below w.heap.size w w':=by
 have H:=hid h
 clear h
 go_enter Tryz.func8,Tryz.ntmps8
 go_wp2_with fail
 refine (plainParse_any al a H.out.s s _ H.out.p.l H.out.e).mono ?_
 intro r w1 hP
 obtain ⟨pt,e1,a1,rfl,hb⟩:∃(pt:Option Addr) (e1 a1:Int),r=.returned (.tuple #[.pointer pt,.agg #[.int .i64 e1,.int .i64 a1]])∧Below w.heap.size w w1:=by
  obtain ⟨hb,⟨l,t,rfl,_⟩ | ⟨f,at_,_,rfl,_⟩⟩:=hP
  ·exact ⟨_,_,_,rfl,hb⟩
  ·exact ⟨_,_,_,rfl,hb⟩
 have B1:=hid hb
 have B2:Hid (Below w.heap.size w (w1.alloc (.cells #[.int .i64 e1,.int .i64 a1] 40))):=B1.out.alloc B1.out.size _
 have F2:Hid ((w1.alloc (.cells #[.int .i64 e1,.int .i64 a1] 40)).heap[w1.heap.size]?=some (.cells #[.int .i64 e1,.int .i64 a1] 40 (0,0))):=heap_alloc_new w1 _
 clear hb hP
 go_wp2_with fail
 refine (rparse_any s _).mono ?_
 intro r w3 hP
 obtain ⟨pr,fe,fa,rfl,hb⟩:∃(pt:Option Addr) (e1 a1:Int),r=.returned (.tuple #[.pointer pt,.agg #[.int .i64 e1,.int .i64 a1]])∧Below _ _ w3:=by
  obtain ⟨hb,⟨f,at_,_,rfl⟩ | ⟨g,iv,nv,ns,I,l,rfl,_⟩⟩:=hP
  ·exact ⟨_,_,_,rfl,hb⟩
  ·exact ⟨_,_,_,rfl,hb⟩
 have B3:=hid (below_step B2.out hb)
 have f3:w3.heap[w1.heap.size]?=some (.cells #[.int .i64 e1,.int .i64 a1] 40 (0,0)):=(hb.block _ (by simp)).trans F2.out
 have B4:Hid (Below w.heap.size w (w3.alloc (.cells #[.int .i64 fe,.int .i64 fa] 44))):=B3.out.alloc B3.out.size _
 have H4:Hid (Below w3.heap.size w3 (w3.alloc (.cells #[.int .i64 fe,.int .i64 fa] 44))):=(Below.refl _ _).alloc (Nat.le_refl _) _
 have f4:(w3.alloc (.cells #[.int .i64 fe,.int .i64 fa] 44)).heap[w3.heap.size]?=some (.cells #[.int .i64 fe,.int .i64 fa] 44 (0,0)):=heap_alloc_new w3 _
 have f5:=(H4.out.block _ (Array.getElem?_eq_some_iff.1 f3).1).trans f3
 have F4:=hid f4
 obtain ⟨c0,c1,_⟩:=two_at f4
 obtain ⟨c2,c3,_⟩:=two_at f5
 clear hb f3 f4 f5 hP
 go_upto_region 3 with (fail)
 generalize w3.alloc (.cells #[.int .i64 fe,.int .i64 fa] 44)=W at B4 F4 c0 c1 c2 c3 ⊢
 go_wp2_with fail
 refine (told_any e1 a1 fe fa _).mono ?_
 rintro r w5 ⟨⟨z,rfl,_⟩,hb⟩
 have B5:=hid (below_step B4.out hb)
 have f6:=(hb.block _ (Array.getElem?_eq_some_iff.1 F4.out).1).trans F4.out
 obtain ⟨e0,_,_⟩:=two_at f6
 clear hb f6 c0 c1 c2 c3
 cases z
 ·go_wp2_with fail
  all_goals go_ret
  all_goals exact ⟨⟨_,rfl⟩,B5.out⟩
 ·cases pt
  ·go_wp2_with fail
   all_goals go_ret
   all_goals exact ⟨⟨_,rfl⟩,B5.out⟩
  ·go_wp2_with fail
   all_goals go_ret
   all_goals exact ⟨⟨_,rfl⟩,B5.out⟩
set_option maxRecDepth 100000 in
theorem printed_any (al a:Nat→Addr) (s:ByteArray) (w:World) (h:All al a w):Calls Tryz.prog 9 #[.string s] w fun r w'=>r=.returned (.bool true)∧Below w.heap.size w w':=by
 have H:=hid h
 clear h
 go_enter Tryz.func9,Tryz.ntmps9
 go_wp2_with fail
 refine (rparse_any s _).mono ?_
 rintro r w1 ⟨hb,⟨fe,fa,hfe,rfl⟩ | ⟨g,iv,nv,ns,I,l,rfl,hp,hr,hI⟩⟩
 ·have B2:Hid (Below w.heap.size w (w1.alloc (.cells #[.int .i64 fe,.int .i64 fa] 44))):=hb.alloc hb.size _
  have q0:(fe != 0)=true:=by rw [bne_iff_ne];exact hfe
  clear hb hfe
  go_wp2_with fail
  all_goals go_ret
  all_goals exact ⟨rfl,B2.out⟩
 ·have B1:=hid hb
  have X1:Hid (Below w1.heap.size w1 (w1.alloc (.cells #[.int .i64 0,.int .i64 0] 44))):=(Below.refl _ _).alloc (Nat.le_refl _) _
  have HPa:=hid hp
  have HR:=hid hr
  have HI:=hid hI
  clear hb hp hr hI
  go_wp2_with fail
  have B2:=hid (below_step B1.out X1.out)
  refine (plainParse_any al a H.out.s s _ (H.out.below B2.out).p.l (H.out.below B2.out).e).mono ?_
  rintro r w3 ⟨hb,⟨l',t,rfl,hp,hT⟩ | ⟨f,at_,_,rfl,hno⟩⟩
  ·obtain rfl:=Mil.Parsed.one hp HPa.out
   have HI3:Hid (PI 0 g iv nv ns I w3):=(HI.out.below X1.out).below hb
   have B3:=hid (below_step B2.out hb)
   have HT:=hid hT
   have X3:Hid (Below w3.heap.size w3 (w3.alloc (.cells #[.int .i64 0,.int .i64 0] 40))):=(Below.refl _ _).alloc (Nat.le_refl _) _
   clear hb hp hT
   go_wp2_with fail
   refine (print_tree al a l' _ HPa.out t _ (H.out.below (below_step B3.out X3.out)) (HT.out.below X3.out)).mono ?_
   rintro r w4 ⟨rfl,hb⟩
   have B4:Hid (Below w.heap.size w w4):=below_step (below_step B3.out X3.out) hb
   have HI4:Hid (PI 0 g iv nv ns I w4):=(HI3.out.below X3.out).below hb
   clear hb
   go_wp2_with fail
   obtain ⟨k1,k2,k3⟩:=Mil.parsed_ok HPa.out
   refine (rprint_any 0 g iv nv ns I l' HR.out k1 k2 k3 _ HI4.out).mono ?_
   rintro r w5 ⟨rfl,hb⟩
   have B5:=hid (below_step B4.out hb)
   clear hb k1 k2 k3
   go_wp2_with fail
   all_goals go_ret
   all_goals exact ⟨by simp,B5.out⟩
  ·exact absurd HPa.out (hno _)
end
end Go.Proofs.YtoiajojadihpbaaGreatDoor
