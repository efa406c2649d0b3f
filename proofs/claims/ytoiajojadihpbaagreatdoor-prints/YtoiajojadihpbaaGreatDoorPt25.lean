import Derived.Test.YtoiajojadihpbaaGreatDoorPt23
import Derived.Test.YtoiajojadihpbaaGreatDoorPt24
namespace Go.Proofs.YtoiajojadihpbaaGreatDoor
set_option maxHeartbeats 8000000
section
open Go.RowKit
theorem level_wOr (w:World):Calls Tryz.prog 100 #[.string (bs Mil.wOr)] w fun e w'=>e=.returned (.int .i64 (Ref.level Mil.wOr:Nat))∧w'=w:=by
 have hx:(bs Mil.wOr).toList=[111,114]:=by decide +kernel
 have hl:Ref.level Mil.wOr=1:=by decide
 rw [hl]
 clear hl
 generalize bs Mil.wOr=X at hx ⊢
 go_enter Tryz.func100,Tryz.ntmps100
 go_wp2
 go_ret
 exact ⟨rfl,rfl⟩
theorem level_wXor (w:World):Calls Tryz.prog 100 #[.string (bs Mil.wXor)] w fun e w'=>e=.returned (.int .i64 (Ref.level Mil.wXor:Nat))∧w'=w:=by
 have hx:(bs Mil.wXor).toList=[120,111,114]:=by decide +kernel
 have hl:Ref.level Mil.wXor=1:=by decide
 rw [hl]
 clear hl
 generalize bs Mil.wXor=X at hx ⊢
 go_enter Tryz.func100,Tryz.ntmps100
 go_wp2
 go_ret
 exact ⟨rfl,rfl⟩
theorem level_wAnd (w:World):Calls Tryz.prog 100 #[.string (bs Mil.wAnd)] w fun e w'=>e=.returned (.int .i64 (Ref.level Mil.wAnd:Nat))∧w'=w:=by
 have hx:(bs Mil.wAnd).toList=[97,110,100]:=by decide +kernel
 have hl:Ref.level Mil.wAnd=2:=by decide
 rw [hl]
 clear hl
 generalize bs Mil.wAnd=X at hx ⊢
 go_enter Tryz.func100,Tryz.ntmps100
 go_wp2
 go_ret
 exact ⟨rfl,rfl⟩
theorem level_sLt (w:World):Calls Tryz.prog 100 #[.string (bs Mil.sLt)] w fun e w'=>e=.returned (.int .i64 (Ref.level Mil.sLt:Nat))∧w'=w:=by
 have hx:(bs Mil.sLt).toList=[60]:=by decide +kernel
 have hl:Ref.level Mil.sLt=4:=by decide
 rw [hl]
 clear hl
 generalize bs Mil.sLt=X at hx ⊢
 go_enter Tryz.func100,Tryz.ntmps100
 go_wp2
 go_ret
 exact ⟨rfl,rfl⟩
theorem level_sLe (w:World):Calls Tryz.prog 100 #[.string (bs Mil.sLe)] w fun e w'=>e=.returned (.int .i64 (Ref.level Mil.sLe:Nat))∧w'=w:=by
 have hx:(bs Mil.sLe).toList=[60,61]:=by decide +kernel
 have hl:Ref.level Mil.sLe=4:=by decide
 rw [hl]
 clear hl
 generalize bs Mil.sLe=X at hx ⊢
 go_enter Tryz.func100,Tryz.ntmps100
 go_wp2
 go_ret
 exact ⟨rfl,rfl⟩
theorem level_sGt (w:World):Calls Tryz.prog 100 #[.string (bs Mil.sGt)] w fun e w'=>e=.returned (.int .i64 (Ref.level Mil.sGt:Nat))∧w'=w:=by
 have hx:(bs Mil.sGt).toList=[62]:=by decide +kernel
 have hl:Ref.level Mil.sGt=4:=by decide
 rw [hl]
 clear hl
 generalize bs Mil.sGt=X at hx ⊢
 go_enter Tryz.func100,Tryz.ntmps100
 go_wp2
 go_ret
 exact ⟨rfl,rfl⟩
theorem level_sGe (w:World):Calls Tryz.prog 100 #[.string (bs Mil.sGe)] w fun e w'=>e=.returned (.int .i64 (Ref.level Mil.sGe:Nat))∧w'=w:=by
 have hx:(bs Mil.sGe).toList=[62,61]:=by decide +kernel
 have hl:Ref.level Mil.sGe=4:=by decide
 rw [hl]
 clear hl
 generalize bs Mil.sGe=X at hx ⊢
 go_enter Tryz.func100,Tryz.ntmps100
 go_wp2
 go_ret
 exact ⟨rfl,rfl⟩
theorem level_sEq (w:World):Calls Tryz.prog 100 #[.string (bs Mil.sEq)] w fun e w'=>e=.returned (.int .i64 (Ref.level Mil.sEq:Nat))∧w'=w:=by
 have hx:(bs Mil.sEq).toList=[61,61]:=by decide +kernel
 have hl:Ref.level Mil.sEq=4:=by decide
 rw [hl]
 clear hl
 generalize bs Mil.sEq=X at hx ⊢
 go_enter Tryz.func100,Tryz.ntmps100
 go_wp2
 go_ret
 exact ⟨rfl,rfl⟩
theorem level_sNe (w:World):Calls Tryz.prog 100 #[.string (bs Mil.sNe)] w fun e w'=>e=.returned (.int .i64 (Ref.level Mil.sNe:Nat))∧w'=w:=by
 have hx:(bs Mil.sNe).toList=[33,61]:=by decide +kernel
 have hl:Ref.level Mil.sNe=4:=by decide
 rw [hl]
 clear hl
 generalize bs Mil.sNe=X at hx ⊢
 go_enter Tryz.func100,Tryz.ntmps100
 go_wp2
 go_ret
 exact ⟨rfl,rfl⟩
theorem level_sPlus (w:World):Calls Tryz.prog 100 #[.string (bs Mil.sPlus)] w fun e w'=>e=.returned (.int .i64 (Ref.level Mil.sPlus:Nat))∧w'=w:=by
 have hx:(bs Mil.sPlus).toList=[43]:=by decide +kernel
 have hl:Ref.level Mil.sPlus=5:=by decide
 rw [hl]
 clear hl
 generalize bs Mil.sPlus=X at hx ⊢
 go_enter Tryz.func100,Tryz.ntmps100
 go_wp2
 go_ret
 exact ⟨rfl,rfl⟩
theorem level_sMinus (w:World):Calls Tryz.prog 100 #[.string (bs Mil.sMinus)] w fun e w'=>e=.returned (.int .i64 (Ref.level Mil.sMinus:Nat))∧w'=w:=by
 have hx:(bs Mil.sMinus).toList=[45]:=by decide +kernel
 have hl:Ref.level Mil.sMinus=5:=by decide
 rw [hl]
 clear hl
 generalize bs Mil.sMinus=X at hx ⊢
 go_enter Tryz.func100,Tryz.ntmps100
 go_wp2
 go_ret
 exact ⟨rfl,rfl⟩
theorem level_sTimes (w:World):Calls Tryz.prog 100 #[.string (bs Mil.sTimes)] w fun e w'=>e=.returned (.int .i64 (Ref.level Mil.sTimes:Nat))∧w'=w:=by
 have hx:(bs Mil.sTimes).toList=[42]:=by decide +kernel
 have hl:Ref.level Mil.sTimes=6:=by decide
 rw [hl]
 clear hl
 generalize bs Mil.sTimes=X at hx ⊢
 go_enter Tryz.func100,Tryz.ntmps100
 go_wp2
 go_ret
 exact ⟨rfl,rfl⟩
theorem level_sOver (w:World):Calls Tryz.prog 100 #[.string (bs Mil.sOver)] w fun e w'=>e=.returned (.int .i64 (Ref.level Mil.sOver:Nat))∧w'=w:=by
 have hx:(bs Mil.sOver).toList=[47]:=by decide +kernel
 have hl:Ref.level Mil.sOver=6:=by decide
 rw [hl]
 clear hl
 generalize bs Mil.sOver=X at hx ⊢
 go_enter Tryz.func100,Tryz.ntmps100
 go_wp2
 go_ret
 exact ⟨rfl,rfl⟩
theorem level_sRest (w:World):Calls Tryz.prog 100 #[.string (bs Mil.sRest)] w fun e w'=>e=.returned (.int .i64 (Ref.level Mil.sRest:Nat))∧w'=w:=by
 have hx:(bs Mil.sRest).toList=[37]:=by decide +kernel
 have hl:Ref.level Mil.sRest=6:=by decide
 rw [hl]
 clear hl
 generalize bs Mil.sRest=X at hx ⊢
 go_enter Tryz.func100,Tryz.ntmps100
 go_wp2
 go_ret
 exact ⟨rfl,rfl⟩
theorem level_none (x:Mil.Bytes) (h:Ref.level x=0) (n0:x≠Mil.wOr) (n1:x≠Mil.wXor) (n2:x≠Mil.wAnd) (n3:x≠Mil.sLt) (n4:x≠Mil.sLe) (n5:x≠Mil.sGt) (n6:x≠Mil.sGe) (n7:x≠Mil.sEq) (n8:x≠Mil.sNe) (n9:x≠Mil.sPlus) (n10:x≠Mil.sMinus) (n11:x≠Mil.sTimes) (n12:x≠Mil.sOver) (n13:x≠Mil.sRest) (w:World):Calls Tryz.prog 100 #[.string (bs x)] w fun e w'=>e=.returned (.int .i64 (Ref.level x:Nat))∧w'=w:=by
 rw [h]
 have q0:((bs x).toList==[111,114])=false:=by rw [Lib.toList_data,bs_list];exact beq_false_of_ne n0
 have q1:((bs x).toList==[120,111,114])=false:=by rw [Lib.toList_data,bs_list];exact beq_false_of_ne n1
 have q2:((bs x).toList==[97,110,100])=false:=by rw [Lib.toList_data,bs_list];exact beq_false_of_ne n2
 have q3:((bs x).toList==[60])=false:=by rw [Lib.toList_data,bs_list];exact beq_false_of_ne n3
 have q4:((bs x).toList==[60,61])=false:=by rw [Lib.toList_data,bs_list];exact beq_false_of_ne n4
 have q5:((bs x).toList==[62])=false:=by rw [Lib.toList_data,bs_list];exact beq_false_of_ne n5
 have q6:((bs x).toList==[62,61])=false:=by rw [Lib.toList_data,bs_list];exact beq_false_of_ne n6
 have q7:((bs x).toList==[61,61])=false:=by rw [Lib.toList_data,bs_list];exact beq_false_of_ne n7
 have q8:((bs x).toList==[33,61])=false:=by rw [Lib.toList_data,bs_list];exact beq_false_of_ne n8
 have q9:((bs x).toList==[43])=false:=by rw [Lib.toList_data,bs_list];exact beq_false_of_ne n9
 have q10:((bs x).toList==[45])=false:=by rw [Lib.toList_data,bs_list];exact beq_false_of_ne n10
 have q11:((bs x).toList==[42])=false:=by rw [Lib.toList_data,bs_list];exact beq_false_of_ne n11
 have q12:((bs x).toList==[47])=false:=by rw [Lib.toList_data,bs_list];exact beq_false_of_ne n12
 have q13:((bs x).toList==[37])=false:=by rw [Lib.toList_data,bs_list];exact beq_false_of_ne n13
 clear n0 n1 n2 n3 n4 n5 n6 n7 n8 n9 n10 n11 n12 n13
 generalize bs x=X at *
 go_enter Tryz.func100,Tryz.ntmps100
 go_wp2
 go_ret
 exact ⟨rfl,rfl⟩
theorem level_any (x:Mil.Bytes) (w:World):Calls Tryz.prog 100 #[.string (bs x)] w fun e w'=>e=.returned (.int .i64 (Ref.level x:Nat))∧w'=w:=by
 by_cases n0:x=Mil.wOr
 ·rw [n0];exact level_wOr w
 by_cases n1:x=Mil.wXor
 ·rw [n1];exact level_wXor w
 by_cases n2:x=Mil.wAnd
 ·rw [n2];exact level_wAnd w
 by_cases n3:x=Mil.sLt
 ·rw [n3];exact level_sLt w
 by_cases n4:x=Mil.sLe
 ·rw [n4];exact level_sLe w
 by_cases n5:x=Mil.sGt
 ·rw [n5];exact level_sGt w
 by_cases n6:x=Mil.sGe
 ·rw [n6];exact level_sGe w
 by_cases n7:x=Mil.sEq
 ·rw [n7];exact level_sEq w
 by_cases n8:x=Mil.sNe
 ·rw [n8];exact level_sNe w
 by_cases n9:x=Mil.sPlus
 ·rw [n9];exact level_sPlus w
 by_cases n10:x=Mil.sMinus
 ·rw [n10];exact level_sMinus w
 by_cases n11:x=Mil.sTimes
 ·rw [n11];exact level_sTimes w
 by_cases n12:x=Mil.sOver
 ·rw [n12];exact level_sOver w
 by_cases n13:x=Mil.sRest
 ·rw [n13];exact level_sRest w
 exact level_none x (by unfold Ref.level;simp [n0,n1,n2,n3,n4,n5,n6,n7,n8,n9,n10,n11,n12,n13]) n0 n1 n2 n3 n4 n5 n6 n7 n8 n9 n10 n11 n12 n13 w
end
section
open Go.RowKit
theorem OC.next {B b g:Nat} {T:List Ref.Tk} {tv iv:Value} {l:Nat} {s:Ref.Rs} (h:OC B b g T tv iv (l+1) s) (nv:Value) (w:World) (h1:RM B b g T tv iv s nv w) (h2:s.ns.length≤2*s.p) :
  Calls Tryz.prog 131 #[.pointer (some ⟨b,0,none⟩),.int .i64 ((l:Int)+1)] w (XPost B b g T tv iv nv w (l+1) s):=by
 have:=h nv w h1 h2
 rw [show ((l+1:Nat):Int)=(l:Int)+1 by omega] at this
 exact this
set_option maxRecDepth 100000 in
theorem side_go (B b g:Nat) (T:List Ref.Tk) (tv iv:Value) (hs:T.length≤4001) (l:Nat) (h0:l≠0) (h3:l≠3) (h7:l < 7) (s:Ref.Rs) (ih:∀t:Ref.Rs,T.length - t.p < T.length - s.p→OC B b g T tv iv (l+1) t) (io:OC B b g T tv iv (l+1) s):OC B b g T tv iv l s:=by
 intro nv w h hn
 have H:=hid h
 have HN:=hid hn
 have IH:=hid ih
 have IO1:=hid io
 have b7:((l:Int)==7)=false:=by simp;omega
 have b3:((l:Int)==3)=false:=by simp;omega
 have hl:l≤6:=by omega
 clear h hn ih io
 go_enter Tryz.func131,Tryz.ntmps131
 go_wp2_with fail
 refine (IO1.out.next nv _ H.out HN.out).mono ?_
 rintro r w1 ⟨⟨i1,s1⟩,g1,rfl,n1,m1,f1⟩
 have G1:=hid g1
 have M1:=hid m1
 have F1:=hid f1
 have P1:Hid (Ref.Pays s s1):=g1.pays
 clear g1 m1 f1
 go_wp2_with fail
 go_loopg [8] (T.length - s1.p) (fun gk s8 wr=>∃(i:Nat) (σ:Ref.Rs) (n:Value),s8=.int .i64 i∧gk=T.length - σ.p∧Hid (RM B b g T tv iv σ n wr)∧Hid (Fr b g w nv wr n)∧Hid (Ref.Pays s σ)∧Hid (∀z,Ref.Rx T (10+l) i σ z→Ref.Rx T (10+l) i1 s1 z))
 case atStart=>exact ⟨i1,s1,n1,rfl,rfl,M1,F1,P1,fun z h=>h⟩
 case round=>
  obtain ⟨i,σ,n,rfl,hg,HM,HF,HP,HR⟩:=hrel
  have HG:=hid hg
  have d3:=HM.out.cells.2.2.2.1
  clear hg M1 F1 P1
  by_cases c0:σ.fe=0
  ·have b0:((σ.fe:Int)==0)=true:=by simp;omega
   have C0:=hid c0
   have HWF:=HM.out.nowWf
   clear c0
   go_wp2_with fail
   refine (now_any B b g T tv iv σ n _ HM.out).mono ?_
   rintro r w2 ⟨rfl,hb2⟩
   generalize hnow:Ref.now T σ=t at HWF ⊢
   obtain ⟨tt,ta,tn,tm,tu,te⟩:=t
   have hvv:Ref.tokV ⟨tt,ta,tn,tm,tu,te⟩=.agg #[.string (bs tt),.int .i64 (ta:Nat),.bool tn,.bool tm,.int .i64 (tu:Nat),.int .i64 (te:Nat)]:=rfl
   rw [hvv]
   clear hvv d3
   by_cases c1:te=0
   ·have b1:((te:Int) != 0)=false:=by simp;omega
    have C1:=hid c1
    cases tm
    ·have HNOW:=hid hnow
     have HWt:Hid (te=0→tt≠[]→σ.p+1 < T.length):=HWF.1
     clear hnow HWF c1
     have hbW:Below wr.heap.size wr (w2.alloc (.cells #[.string (bs tt),.int .i64 (ta:Nat),.bool tn,.bool false,.int .i64 (tu:Nat),.int .i64 (te:Nat)] 104)):=hb2.alloc hb2.size _
     have HW:=hid (HM.out.below hbW)
     have FW:Hid (Fr b g w nv (w2.alloc (.cells #[.string (bs tt),.int .i64 (ta:Nat),.bool tn,.bool false,.int .i64 (tu:Nat),.int .i64 (te:Nat)] 104)) n):=HF.out.trans (Fr.of_below hbW)
     have HLW:Hid (TokL b g n w2.heap.size ⟨tt,ta,tn,false,tu,te⟩ (w2.alloc (.cells #[.string (bs tt),.int .i64 (ta:Nat),.bool tn,.bool false,.int .i64 (tu:Nat),.int .i64 (te:Nat)] 104))):=tokL_new HM.out hb2 _
     clear hbW hb2
     go_wp2_with fail
     refine (level_any tt _).mono ?_
     rintro r w3 ⟨rfl,rfl⟩
     by_cases c2:Ref.level tt=l
     ·have hlv:((Ref.level tt:Nat):Int)=(l:Int):=by omega
      have C2:=hid c2
      have HU:Hid (σ.p+1 < T.length):=HWt.out C1.out (fun e=>by rw [e] at c2;have:Ref.level []=0:=(by decide);omega)
      clear c2
      by_cases c4:l=4
      ·have b4:((l:Int)==4)=true:=by simp;omega
       have C4:=hid c4
       clear c4
       rw [hlv]
       clear hlv
       generalize w2.alloc (.cells #[.string (bs tt),.int .i64 (ta:Nat),.bool tn,.bool false,.int .i64 (tu:Nat),.int .i64 (te:Nat)] 104)=W at HW FW HLW ⊢
       generalize w2.heap.size=L at HLW ⊢
       have d1:=HW.out.cells.2.1
       have z1:=HW.out.cells.2.2.2.2.2.2.2.1
       have l1:=HW.out.lt
       have H3:Hid (RM B b g T tv iv (Ref.up σ) n (W.setCell ⟨b,1,none⟩ (.int .i64 ((σ.p:Int)+1)))):=(HW.out.setP HU.out).1
       have F3:Hid (Fr b g W n (W.setCell ⟨b,1,none⟩ (.int .i64 ((σ.p:Int)+1))) n):=(HW.out.setP HU.out).2
       obtain ⟨v0,v1,v2,v3,v4,v5⟩:=HLW.out.cells (Fr.refl b g W n)
       go_wp2_with fail
       refine ((IH.out (Ref.up σ) (by have:=HP.out.1;have:=HU.out;show T.length - (σ.p+1) < T.length - s.p;omega)).next n _ H3.out (by show σ.ns.length≤2*(σ.p+1);have:=HP.out.2;have:=HN.out;have:=HP.out.1;omega)).mono ?_
       rintro r w4 ⟨⟨i4,s4⟩,g4,rfl,n4,m4,f4⟩
       have G4:=hid g4
       have M4:=hid m4
       have F4:=hid (F3.out.trans f4)
       have P4:Hid (Ref.Paid σ s4 2):=(Ref.Paid.up σ).by g4.pays
       clear g4 m4 f4 d1 z1 v0 v1 v2 v3 v4 v5
       obtain ⟨y0,y1,y2,y3,y4,y5⟩:=HLW.out.cells F4.out
       go_wp2_with fail
       refine (node_any B b g T tv iv s4 n4 ⟨5,tt,ta,0,false,i,i4,0⟩ _ M4.out (by have:=P4.out.2;have:=HP.out.2;have:=HP.out.1;have:=HN.out;have:=M4.out.lt;omega)).mono ?_
       rintro r w5 ⟨rfl,n5,m5,f5⟩
       have M5:=hid m5
       have F5:Hid (Fr b g w nv w5 n5):=FW.out.trans (F4.out.trans f5)
       have P5:Hid (Ref.Pays s (Ref.node ⟨5,tt,ta,0,false,i,i4,0⟩ s4).2):=HP.out.trans (P4.out.node _).pays
       clear m5 f5 y0 y1 y2 y3 y4 y5
       go_wp2
       go_ret
       have R:=Ref.rx_rel (T:=T) (left:=i) (s:=σ) (y:=(i4,s4)) (by rw [HNOW.out];exact ⟨C0.out,C1.out,rfl,C2.out.trans C4.out⟩) (by have:=G4.out;rw [C4.out] at this;exact this)
       rw [HNOW.out] at R
       have R2:Ref.Rx T (10+l) i σ (Ref.node ⟨5,tt,ta,0,false,i,i4,0⟩ s4):=by rw [C4.out];exact R
       exact ⟨_,Ref.rx_level h0 h3 h7 G1.out (HR.out _ R2),rfl,_,M5.out,F5.out⟩
      ·have b4:((l:Int)==4)=false:=by simp;omega
       have C4:=hid c4
       clear c4
       rw [hlv]
       clear hlv
       generalize w2.alloc (.cells #[.string (bs tt),.int .i64 (ta:Nat),.bool tn,.bool false,.int .i64 (tu:Nat),.int .i64 (te:Nat)] 104)=W at HW FW HLW ⊢
       generalize w2.heap.size=L at HLW ⊢
       have d1:=HW.out.cells.2.1
       have z1:=HW.out.cells.2.2.2.2.2.2.2.1
       have l1:=HW.out.lt
       have H3:Hid (RM B b g T tv iv (Ref.up σ) n (W.setCell ⟨b,1,none⟩ (.int .i64 ((σ.p:Int)+1)))):=(HW.out.setP HU.out).1
       have F3:Hid (Fr b g W n (W.setCell ⟨b,1,none⟩ (.int .i64 ((σ.p:Int)+1))) n):=(HW.out.setP HU.out).2
       obtain ⟨v0,v1,v2,v3,v4,v5⟩:=HLW.out.cells (Fr.refl b g W n)
       go_wp2_with fail
       refine ((IH.out (Ref.up σ) (by have:=HP.out.1;have:=HU.out;show T.length - (σ.p+1) < T.length - s.p;omega)).next n _ H3.out (by show σ.ns.length≤2*(σ.p+1);have:=HP.out.2;have:=HN.out;have:=HP.out.1;omega)).mono ?_
       rintro r w4 ⟨⟨i4,s4⟩,g4,rfl,n4,m4,f4⟩
       have G4:=hid g4
       have M4:=hid m4
       have F4:=hid (F3.out.trans f4)
       have P4:Hid (Ref.Paid σ s4 2):=(Ref.Paid.up σ).by g4.pays
       clear g4 m4 f4 d1 z1 v0 v1 v2 v3 v4 v5
       obtain ⟨y0,y1,y2,y3,y4,y5⟩:=HLW.out.cells F4.out
       go_wp2_with fail
       refine (node_any B b g T tv iv s4 n4 ⟨5,tt,ta,0,false,i,i4,0⟩ _ M4.out (by have:=P4.out.2;have:=HP.out.2;have:=HP.out.1;have:=HN.out;have:=M4.out.lt;omega)).mono ?_
       rintro r w5 ⟨rfl,n5,m5,f5⟩
       have M5:=hid m5
       have F5:Hid (Fr b g w nv w5 n5):=FW.out.trans (F4.out.trans f5)
       have P5:Hid (Ref.Pays s (Ref.node ⟨5,tt,ta,0,false,i,i4,0⟩ s4).2):=HP.out.trans (P4.out.node _).pays
       clear m5 f5 y0 y1 y2 y3 y4 y5
       go_wp2
       go_roundg (T.length - s4.p)
       case measure=>have:=HG.out;have h8:(Ref.up σ).p≤s4.p:=G4.out.pays.1;have h9:(Ref.up σ).p=σ.p+1:=rfl;have:=HU.out;omega
       case rel=>
        refine ⟨(Ref.node ⟨5,tt,ta,0,false,i,i4,0⟩ s4).1,(Ref.node ⟨5,tt,ta,0,false,i,i4,0⟩ s4).2,n5,rfl,rfl,M5,F5,P5,fun z hz=>HR.out z ?_⟩
        have R:=Ref.rx_go (T:=T) (left:=i) (s:=σ) (y:=(i4,s4)) (z:=z) C4.out (by rw [HNOW.out];exact ⟨C0.out,C1.out,rfl,C2.out⟩) G4.out
        rw [HNOW.out] at R
        exact R hz
     ·have hlv:(((Ref.level tt:Nat):Int) != (l:Int))=true:=by simp;omega
      have HS:Hid (¬(σ.fe=0∧(Ref.now T σ).e=0∧(Ref.now T σ).name=false∧Ref.level (Ref.now T σ).t=l)):=by rw [HNOW.out];exact fun h=>c2 h.2.2.2
      clear c2
      go_wp2
      go_ret
      exact ⟨_,Ref.rx_level h0 h3 h7 G1.out (HR.out _ (Ref.rx_stop (HS.out))),rfl,_,HW.out,FW.out⟩
    ·have HNOW:=hid hnow
     clear hnow HWF c1
     have hbW:Below wr.heap.size wr (w2.alloc (.cells #[.string (bs tt),.int .i64 (ta:Nat),.bool tn,.bool true,.int .i64 (tu:Nat),.int .i64 (te:Nat)] 104)):=hb2.alloc hb2.size _
     have HW:=hid (HM.out.below hbW)
     have FW:Hid (Fr b g w nv (w2.alloc (.cells #[.string (bs tt),.int .i64 (ta:Nat),.bool tn,.bool true,.int .i64 (tu:Nat),.int .i64 (te:Nat)] 104)) n):=HF.out.trans (Fr.of_below hbW)
     have HLW:Hid (TokL b g n w2.heap.size ⟨tt,ta,tn,true,tu,te⟩ (w2.alloc (.cells #[.string (bs tt),.int .i64 (ta:Nat),.bool tn,.bool true,.int .i64 (tu:Nat),.int .i64 (te:Nat)] 104))):=tokL_new HM.out hb2 _
     clear hbW hb2
     have HS:Hid (¬(σ.fe=0∧(Ref.now T σ).e=0∧(Ref.now T σ).name=false∧Ref.level (Ref.now T σ).t=l)):=by rw [HNOW.out];exact fun h=>by have:=h.2.2.1;cases this
     go_wp2
     go_ret
     exact ⟨_,Ref.rx_level h0 h3 h7 G1.out (HR.out _ (Ref.rx_stop (HS.out))),rfl,_,HW.out,FW.out⟩
   ·have b1:((te:Int) != 0)=true:=by simp;omega
    have HNOW:=hid hnow
    clear hnow HWF
    have hbW:Below wr.heap.size wr (w2.alloc (.cells #[.string (bs tt),.int .i64 (ta:Nat),.bool tn,.bool tm,.int .i64 (tu:Nat),.int .i64 (te:Nat)] 104)):=hb2.alloc hb2.size _
    have HW:=hid (HM.out.below hbW)
    have FW:Hid (Fr b g w nv (w2.alloc (.cells #[.string (bs tt),.int .i64 (ta:Nat),.bool tn,.bool tm,.int .i64 (tu:Nat),.int .i64 (te:Nat)] 104)) n):=HF.out.trans (Fr.of_below hbW)
    have HLW:Hid (TokL b g n w2.heap.size ⟨tt,ta,tn,tm,tu,te⟩ (w2.alloc (.cells #[.string (bs tt),.int .i64 (ta:Nat),.bool tn,.bool tm,.int .i64 (tu:Nat),.int .i64 (te:Nat)] 104))):=tokL_new HM.out hb2 _
    clear hbW hb2
    have HS:Hid (¬(σ.fe=0∧(Ref.now T σ).e=0∧(Ref.now T σ).name=false∧Ref.level (Ref.now T σ).t=l)):=by rw [HNOW.out];exact fun h=>c1 h.2.1
    clear c1
    go_wp2
    go_ret
    exact ⟨_,Ref.rx_level h0 h3 h7 G1.out (HR.out _ (Ref.rx_stop (HS.out))),rfl,_,HW.out,FW.out⟩
  ·have b0:((σ.fe:Int)==0)=false:=by simp;omega
   have HS:Hid (¬(σ.fe=0∧(Ref.now T σ).e=0∧(Ref.now T σ).name=false∧Ref.level (Ref.now T σ).t=l)):=fun h=>c0 h.1
   clear c0
   go_wp2
   go_ret
   exact ⟨_,Ref.rx_level h0 h3 h7 G1.out (HR.out _ (Ref.rx_stop HS.out)),rfl,_,HM.out,HF.out⟩
end
section
open Go.RowKit
set_option maxRecDepth 100000 in
theorem atom_wTrue (B b g:Nat) (T:List Ref.Tk) (tv iv:Value) (hs:T.length≤4001) (s:Ref.Rs)  (ta tu:Nat) (c0:s.fe=0) (hnow:Ref.now T s=⟨Mil.wTrue,ta,false,false,tu,0⟩):AC B b g T tv iv s:=by
 intro nv w h hn
 have H:=hid h
 have HN:=hid hn
 have HNOW:=hid hnow
 have C0:=hid c0
 have b0:((s.fe:Int) != 0)=false:=by simp;omega
 clear h hn c0 hnow
 have hx:(bs Mil.wTrue).toList=[116,114,117,101]:=by decide +kernel
 go_enter Tryz.func159,Tryz.ntmps159
 go_wp2_with fail
 refine (now_any B b g T tv iv s nv _ H.out).mono ?_
 rintro r w1 ⟨rfl,hb1⟩
 rw [HNOW.out]
 have hvv:Ref.tokV ⟨Mil.wTrue,ta,false,false,tu,0⟩=.agg #[.string (bs Mil.wTrue),.int .i64 (ta:Nat),.bool false,.bool false,.int .i64 (tu:Nat),.int .i64 (0)]:=rfl
 rw [hvv]
 clear hvv
 have hbW:Below w.heap.size w (w1.alloc (.cells #[.string (bs Mil.wTrue),.int .i64 (ta:Nat),.bool false,.bool false,.int .i64 (tu:Nat),.int .i64 (0)] 104)):=hb1.alloc hb1.size _
 have HW:=hid (H.out.below hbW)
 have FW:Hid (Fr b g w nv (w1.alloc (.cells #[.string (bs Mil.wTrue),.int .i64 (ta:Nat),.bool false,.bool false,.int .i64 (tu:Nat),.int .i64 (0)] 104)) nv):=Fr.of_below hbW
 have HLW:Hid (TokL b g nv w1.heap.size ⟨Mil.wTrue,ta,false,false,tu,0⟩ (w1.alloc (.cells #[.string (bs Mil.wTrue),.int .i64 (ta:Nat),.bool false,.bool false,.int .i64 (tu:Nat),.int .i64 (0)] 104))):=tokL_new H.out hb1 _
 have hw1:w.heap.size≤w1.heap.size:=hb1.size
 clear hbW hb1
 have d3:=HW.out.cells.2.2.2.1
 go_wp2_with fail
 refine (const_any B b g T tv iv s nv _ HW.out (by have:=HN.out;have:=HW.out.lt;omega) hs).mono ?_
 rintro r w2 ⟨rfl,n2,m2,f2⟩
 have M2:=hid m2
 have F2:=hid (FW.out.trans f2)
 clear m2 f2
 go_wp2
 go_ret
 exact ⟨_,Ref.rx_const C0.out HNOW.out (by first | exact Or.inl rfl | exact Or.inr rfl),rfl,_,M2.out,F2.out⟩
set_option maxRecDepth 100000 in
theorem atom_wFalse (B b g:Nat) (T:List Ref.Tk) (tv iv:Value) (hs:T.length≤4001) (s:Ref.Rs)  (ta tu:Nat) (c0:s.fe=0) (hnow:Ref.now T s=⟨Mil.wFalse,ta,false,false,tu,0⟩):AC B b g T tv iv s:=by
 intro nv w h hn
 have H:=hid h
 have HN:=hid hn
 have HNOW:=hid hnow
 have C0:=hid c0
 have b0:((s.fe:Int) != 0)=false:=by simp;omega
 clear h hn c0 hnow
 have hx:(bs Mil.wFalse).toList=[102,97,108,115,101]:=by decide +kernel
 go_enter Tryz.func159,Tryz.ntmps159
 go_wp2_with fail
 refine (now_any B b g T tv iv s nv _ H.out).mono ?_
 rintro r w1 ⟨rfl,hb1⟩
 rw [HNOW.out]
 have hvv:Ref.tokV ⟨Mil.wFalse,ta,false,false,tu,0⟩=.agg #[.string (bs Mil.wFalse),.int .i64 (ta:Nat),.bool false,.bool false,.int .i64 (tu:Nat),.int .i64 (0)]:=rfl
 rw [hvv]
 clear hvv
 have hbW:Below w.heap.size w (w1.alloc (.cells #[.string (bs Mil.wFalse),.int .i64 (ta:Nat),.bool false,.bool false,.int .i64 (tu:Nat),.int .i64 (0)] 104)):=hb1.alloc hb1.size _
 have HW:=hid (H.out.below hbW)
 have FW:Hid (Fr b g w nv (w1.alloc (.cells #[.string (bs Mil.wFalse),.int .i64 (ta:Nat),.bool false,.bool false,.int .i64 (tu:Nat),.int .i64 (0)] 104)) nv):=Fr.of_below hbW
 have HLW:Hid (TokL b g nv w1.heap.size ⟨Mil.wFalse,ta,false,false,tu,0⟩ (w1.alloc (.cells #[.string (bs Mil.wFalse),.int .i64 (ta:Nat),.bool false,.bool false,.int .i64 (tu:Nat),.int .i64 (0)] 104))):=tokL_new H.out hb1 _
 have hw1:w.heap.size≤w1.heap.size:=hb1.size
 clear hbW hb1
 have d3:=HW.out.cells.2.2.2.1
 go_wp2_with fail
 refine (const_any B b g T tv iv s nv _ HW.out (by have:=HN.out;have:=HW.out.lt;omega) hs).mono ?_
 rintro r w2 ⟨rfl,n2,m2,f2⟩
 have M2:=hid m2
 have F2:=hid (FW.out.trans f2)
 clear m2 f2
 go_wp2
 go_ret
 exact ⟨_,Ref.rx_const C0.out HNOW.out (by first | exact Or.inl rfl | exact Or.inr rfl),rfl,_,M2.out,F2.out⟩
set_option maxRecDepth 100000 in
theorem atom_num (B b g:Nat) (T:List Ref.Tk) (tv iv:Value) (hs:T.length≤4001) (s:Ref.Rs) (tt:Mil.Bytes) (tm:Bool) (ta tu:Nat) (c0:s.fe=0) (hnow:Ref.now T s=⟨tt,ta,true,tm,tu,0⟩):AC B b g T tv iv s:=by
 intro nv w h hn
 have H:=hid h
 have HN:=hid hn
 have HNOW:=hid hnow
 have C0:=hid c0
 have b0:((s.fe:Int) != 0)=false:=by simp;omega
 have HU:Hid (s.p+1 < T.length):=by have:=h.nowWf;rw [hnow] at this;exact this.1 rfl (this.2.2 rfl)
 have hbw:b < w.heap.size:=(Array.getElem?_eq_some_iff.1 h.rd).1
 clear h hn c0 hnow
 go_enter Tryz.func159,Tryz.ntmps159
 go_wp2_with fail
 refine (now_any B b g T tv iv s nv _ H.out).mono ?_
 rintro r w1 ⟨rfl,hb1⟩
 rw [HNOW.out]
 have hvv:Ref.tokV ⟨tt,ta,true,tm,tu,0⟩=.agg #[.string (bs tt),.int .i64 (ta:Nat),.bool true,.bool tm,.int .i64 (tu:Nat),.int .i64 (0)]:=rfl
 rw [hvv]
 clear hvv
 have hbW:Below w.heap.size w (w1.alloc (.cells #[.string (bs tt),.int .i64 (ta:Nat),.bool true,.bool tm,.int .i64 (tu:Nat),.int .i64 (0)] 104)):=hb1.alloc hb1.size _
 have HW:=hid (H.out.below hbW)
 have FW:Hid (Fr b g w nv (w1.alloc (.cells #[.string (bs tt),.int .i64 (ta:Nat),.bool true,.bool tm,.int .i64 (tu:Nat),.int .i64 (0)] 104)) nv):=Fr.of_below hbW
 have HLW:Hid (TokL b g nv w1.heap.size ⟨tt,ta,true,tm,tu,0⟩ (w1.alloc (.cells #[.string (bs tt),.int .i64 (ta:Nat),.bool true,.bool tm,.int .i64 (tu:Nat),.int .i64 (0)] 104))):=tokL_new H.out hb1 _
 have hw1:w.heap.size≤w1.heap.size:=hb1.size
 clear hbW hb1
 have d3:=HW.out.cells.2.2.2.1
 have d102:=HW.out.cells.2.1
 have z102:=HW.out.cells.2.2.2.2.2.2.2.1
 have l102:=HW.out.lt
 go_wp2_with fail
 have HW2:=HW.out
 have HLW2:=HLW.out
 clear d3 d102 z102 hw1
 generalize (w1.alloc (.cells #[.string (bs tt),.int .i64 (ta:Nat),.bool true,.bool tm,.int .i64 (tu:Nat),.int .i64 (0)] 104))=W at HW FW HLW HW2 HLW2 ⊢
 generalize w1.heap.size=L at HLW HLW2 ⊢
 have H2:Hid (RM B b g T tv iv (Ref.up s) nv (W.setCell ⟨b,1,none⟩ (.int .i64 ((s.p:Int)+1)))):=(HW.out.setP HU.out).1
 have F2:Hid (Fr b g W nv (W.setCell ⟨b,1,none⟩ (.int .i64 ((s.p:Int)+1))) nv):=(HW.out.setP HU.out).2
 clear HW2 HLW2
 refine (node_any B b g T tv iv (Ref.up s) nv ⟨1,[],ta,tu,false,0,0,0⟩ _ (H2.out) (by show s.ns.length≤_;have:=HN.out;have:=HW.out.lt;omega)).mono ?_
 rintro r w4 ⟨rfl,n4,m4,f4⟩
 have M4:=hid m4
 have F4:=hid (F2.out.trans f4)
 clear m4 f4
 go_wp2
 go_ret
 exact ⟨_,Ref.rx_num C0.out HNOW.out rfl rfl,rfl,_,M4.out,FW.out.trans F4.out⟩
set_option maxRecDepth 100000 in
theorem atom_name (B b g:Nat) (T:List Ref.Tk) (tv iv:Value) (hs:T.length≤4001) (s:Ref.Rs) (tt:Mil.Bytes) (ta tu:Nat) (c0:s.fe=0) (hnow:Ref.now T s=⟨tt,ta,false,true,tu,0⟩):AC B b g T tv iv s:=by
 intro nv w h hn
 have H:=hid h
 have HN:=hid hn
 have HNOW:=hid hnow
 have C0:=hid c0
 have b0:((s.fe:Int) != 0)=false:=by simp;omega
 have HU:Hid (s.p+1 < T.length):=by have:=h.nowWf;rw [hnow] at this;exact this.1 rfl (this.2.1 rfl)
 have hbw:b < w.heap.size:=(Array.getElem?_eq_some_iff.1 h.rd).1
 clear h hn c0 hnow
 go_enter Tryz.func159,Tryz.ntmps159
 go_wp2_with fail
 refine (now_any B b g T tv iv s nv _ H.out).mono ?_
 rintro r w1 ⟨rfl,hb1⟩
 rw [HNOW.out]
 have hvv:Ref.tokV ⟨tt,ta,false,true,tu,0⟩=.agg #[.string (bs tt),.int .i64 (ta:Nat),.bool false,.bool true,.int .i64 (tu:Nat),.int .i64 (0)]:=rfl
 rw [hvv]
 clear hvv
 have hbW:Below w.heap.size w (w1.alloc (.cells #[.string (bs tt),.int .i64 (ta:Nat),.bool false,.bool true,.int .i64 (tu:Nat),.int .i64 (0)] 104)):=hb1.alloc hb1.size _
 have HW:=hid (H.out.below hbW)
 have FW:Hid (Fr b g w nv (w1.alloc (.cells #[.string (bs tt),.int .i64 (ta:Nat),.bool false,.bool true,.int .i64 (tu:Nat),.int .i64 (0)] 104)) nv):=Fr.of_below hbW
 have HLW:Hid (TokL b g nv w1.heap.size ⟨tt,ta,false,true,tu,0⟩ (w1.alloc (.cells #[.string (bs tt),.int .i64 (ta:Nat),.bool false,.bool true,.int .i64 (tu:Nat),.int .i64 (0)] 104))):=tokL_new H.out hb1 _
 have hw1:w.heap.size≤w1.heap.size:=hb1.size
 clear hbW hb1
 have d3:=HW.out.cells.2.2.2.1
 have d102:=HW.out.cells.2.1
 have z102:=HW.out.cells.2.2.2.2.2.2.2.1
 have l102:=HW.out.lt
 go_wp2_with fail
 have HW2:=HW.out
 have HLW2:=HLW.out
 clear d3 d102 z102 hw1
 generalize (w1.alloc (.cells #[.string (bs tt),.int .i64 (ta:Nat),.bool false,.bool true,.int .i64 (tu:Nat),.int .i64 (0)] 104))=W at HW FW HLW HW2 HLW2 ⊢
 generalize w1.heap.size=L at HLW HLW2 ⊢
 have H2:Hid (RM B b g T tv iv (Ref.up s) nv (W.setCell ⟨b,1,none⟩ (.int .i64 ((s.p:Int)+1)))):=(HW.out.setP HU.out).1
 have F2:Hid (Fr b g W nv (W.setCell ⟨b,1,none⟩ (.int .i64 ((s.p:Int)+1))) nv):=(HW.out.setP HU.out).2
 clear HW2 HLW2
 refine (node_any B b g T tv iv (Ref.up s) nv ⟨3,tt,ta,0,false,0,0,0⟩ _ (H2.out) (by show s.ns.length≤_;have:=HN.out;have:=HW.out.lt;omega)).mono ?_
 rintro r w4 ⟨rfl,n4,m4,f4⟩
 have M4:=hid m4
 have F4:=hid (F2.out.trans f4)
 clear m4 f4
 go_wp2
 go_ret
 exact ⟨_,Ref.rx_name C0.out HNOW.out rfl rfl rfl,rfl,_,M4.out,FW.out.trans F4.out⟩
set_option maxRecDepth 100000 in
theorem atom_none (B b g:Nat) (T:List Ref.Tk) (tv iv:Value) (s:Ref.Rs) (tt:Mil.Bytes) (tn tm:Bool) (te:Nat) (c1:te≠0) (ta tu:Nat) (c0:s.fe=0) (hnow:Ref.now T s=⟨tt,ta,tn,tm,tu,te⟩):AC B b g T tv iv s:=by
 intro nv w h hn
 have H:=hid h
 have HN:=hid hn
 have HNOW:=hid hnow
 have C0:=hid c0
 have b0:((s.fe:Int) != 0)=false:=by simp;omega
 have b1:((te:Int)==0)=false:=by simp;omega
 have b2:((te:Int) != 0)=true:=by simp;omega
 have C1:=hid c1
 clear h hn c0 hnow c1
 go_enter Tryz.func159,Tryz.ntmps159
 go_wp2_with fail
 refine (now_any B b g T tv iv s nv _ H.out).mono ?_
 rintro r w1 ⟨rfl,hb1⟩
 rw [HNOW.out]
 have hvv:Ref.tokV ⟨tt,ta,tn,tm,tu,te⟩=.agg #[.string (bs tt),.int .i64 (ta:Nat),.bool tn,.bool tm,.int .i64 (tu:Nat),.int .i64 (te:Nat)]:=rfl
 rw [hvv]
 clear hvv
 have hbW:Below w.heap.size w (w1.alloc (.cells #[.string (bs tt),.int .i64 (ta:Nat),.bool tn,.bool tm,.int .i64 (tu:Nat),.int .i64 (te:Nat)] 104)):=hb1.alloc hb1.size _
 have HW:=hid (H.out.below hbW)
 have FW:Hid (Fr b g w nv (w1.alloc (.cells #[.string (bs tt),.int .i64 (ta:Nat),.bool tn,.bool tm,.int .i64 (tu:Nat),.int .i64 (te:Nat)] 104)) nv):=Fr.of_below hbW
 have HLW:Hid (TokL b g nv w1.heap.size ⟨tt,ta,tn,tm,tu,te⟩ (w1.alloc (.cells #[.string (bs tt),.int .i64 (ta:Nat),.bool tn,.bool tm,.int .i64 (tu:Nat),.int .i64 (te:Nat)] 104))):=tokL_new H.out hb1 _
 have hw1:w.heap.size≤w1.heap.size:=hb1.size
 clear hbW hb1
 have d3:=HW.out.cells.2.2.2.1
 go_wp2_with fail
 refine (fail_any B b g T tv iv s nv 3 _ HW.out).mono ?_
 rintro r w2 ⟨rfl,m2,f2⟩
 have M2:=hid m2
 have F2:=hid (FW.out.trans f2)
 clear m2 f2
 go_wp2
 go_ret
 exact ⟨_,Ref.rx_none C0.out HNOW.out C1.out,rfl,_,M2.out,F2.out⟩
set_option maxRecDepth 100000 in
theorem atom_other (B b g:Nat) (T:List Ref.Tk) (tv iv:Value) (s:Ref.Rs) (tt:Mil.Bytes) (n0:tt≠Mil.wTrue) (n1:tt≠Mil.wFalse) (n2:tt≠Mil.sOpen) (n3:tt≠Mil.wFby) (n4:tt≠Mil.wHold) (n5:tt≠Mil.wUnder) (n6:tt≠Mil.wMin) (n7:tt≠Mil.wMax) (ta tu:Nat) (c0:s.fe=0) (hnow:Ref.now T s=⟨tt,ta,false,false,tu,0⟩):AC B b g T tv iv s:=by
 intro nv w h hn
 have H:=hid h
 have HN:=hid hn
 have HNOW:=hid hnow
 have C0:=hid c0
 have b0:((s.fe:Int) != 0)=false:=by simp;omega
 have q0:((bs tt).toList==[116,114,117,101])=false:=by rw [Lib.toList_data,bs_list];exact beq_false_of_ne n0
 have q1:((bs tt).toList==[102,97,108,115,101])=false:=by rw [Lib.toList_data,bs_list];exact beq_false_of_ne n1
 have q2:((bs tt).toList==[40])=false:=by rw [Lib.toList_data,bs_list];exact beq_false_of_ne n2
 have q3:((bs tt).toList==[102,98,121])=false:=by rw [Lib.toList_data,bs_list];exact beq_false_of_ne n3
 have q4:((bs tt).toList==[104,111,108,100])=false:=by rw [Lib.toList_data,bs_list];exact beq_false_of_ne n4
 have q5:((bs tt).toList==[117,110,100,101,114])=false:=by rw [Lib.toList_data,bs_list];exact beq_false_of_ne n5
 have q6:((bs tt).toList==[109,105,110])=false:=by rw [Lib.toList_data,bs_list];exact beq_false_of_ne n6
 have q7:((bs tt).toList==[109,97,120])=false:=by rw [Lib.toList_data,bs_list];exact beq_false_of_ne n7
 have HO:Hid (Ref.Rx T 8 0 s (0,Ref.fail T 3 s)):=Ref.rx_other c0 hnow (fun h=>h.elim n0 n1) n2 n3 n4 n5 (fun h=>h.elim n6 n7)
 clear h hn c0 hnow n0 n1 n2 n3 n4 n5 n6 n7
 go_enter Tryz.func159,Tryz.ntmps159
 go_wp2_with fail
 refine (now_any B b g T tv iv s nv _ H.out).mono ?_
 rintro r w1 ⟨rfl,hb1⟩
 rw [HNOW.out]
 have hvv:Ref.tokV ⟨tt,ta,false,false,tu,0⟩=.agg #[.string (bs tt),.int .i64 (ta:Nat),.bool false,.bool false,.int .i64 (tu:Nat),.int .i64 (0)]:=rfl
 rw [hvv]
 clear hvv
 have hbW:Below w.heap.size w (w1.alloc (.cells #[.string (bs tt),.int .i64 (ta:Nat),.bool false,.bool false,.int .i64 (tu:Nat),.int .i64 (0)] 104)):=hb1.alloc hb1.size _
 have HW:=hid (H.out.below hbW)
 have FW:Hid (Fr b g w nv (w1.alloc (.cells #[.string (bs tt),.int .i64 (ta:Nat),.bool false,.bool false,.int .i64 (tu:Nat),.int .i64 (0)] 104)) nv):=Fr.of_below hbW
 have HLW:Hid (TokL b g nv w1.heap.size ⟨tt,ta,false,false,tu,0⟩ (w1.alloc (.cells #[.string (bs tt),.int .i64 (ta:Nat),.bool false,.bool false,.int .i64 (tu:Nat),.int .i64 (0)] 104))):=tokL_new H.out hb1 _
 have hw1:w.heap.size≤w1.heap.size:=hb1.size
 clear hbW hb1
 have d3:=HW.out.cells.2.2.2.1
 go_wp2_with fail
 refine (fail_any B b g T tv iv s nv 3 _ HW.out).mono ?_
 rintro r w2 ⟨rfl,m2,f2⟩
 have M2:=hid m2
 have F2:=hid (FW.out.trans f2)
 clear m2 f2
 go_wp2
 go_ret
 exact ⟨_,HO.out,rfl,_,M2.out,F2.out⟩
set_option maxRecDepth 100000 in
theorem atom_failed (B b g:Nat) (T:List Ref.Tk) (tv iv:Value) (s:Ref.Rs) (c0:s.fe≠0):AC B b g T tv iv s:=by
 intro nv w h _
 have H:=hid h
 have C0:=hid c0
 have b0:((s.fe:Int) != 0)=true:=by simp;omega
 clear h c0
 go_enter Tryz.func159,Tryz.ntmps159
 go_wp2_with fail
 refine (now_any B b g T tv iv s nv _ H.out).mono ?_
 rintro r w1 ⟨rfl,hb1⟩
 generalize Ref.now T s=t
 obtain ⟨tt,ta,tn,tm,tu,te⟩:=t
 have hvv:Ref.tokV ⟨tt,ta,tn,tm,tu,te⟩=.agg #[.string (bs tt),.int .i64 (ta:Nat),.bool tn,.bool tm,.int .i64 (tu:Nat),.int .i64 (te:Nat)]:=rfl
 rw [hvv]
 clear hvv
 have hbW:Below w.heap.size w (w1.alloc (.cells #[.string (bs tt),.int .i64 (ta:Nat),.bool tn,.bool tm,.int .i64 (tu:Nat),.int .i64 (te:Nat)] 104)):=hb1.alloc hb1.size _
 have HW:=hid (H.out.below hbW)
 have FW:Hid (Fr b g w nv (w1.alloc (.cells #[.string (bs tt),.int .i64 (ta:Nat),.bool tn,.bool tm,.int .i64 (tu:Nat),.int .i64 (te:Nat)] 104)) nv):=Fr.of_below hbW
 have d3:=HW.out.cells.2.2.2.1
 clear hbW hb1
 go_wp2
 go_ret
 exact ⟨_,Ref.rx_failed C0.out,rfl,_,HW.out,FW.out⟩
theorem atom_any (B b g:Nat) (T:List Ref.Tk) (tv iv:Value) (hs:T.length≤4001) (s:Ref.Rs) (ih:∀t:Ref.Rs,T.length - t.p < T.length - s.p→EC B b g T tv iv t):AC B b g T tv iv s:=by
 by_cases c0:s.fe=0
 ·obtain ⟨t,hnow⟩:∃t,Ref.now T s=t:=⟨_,rfl⟩
  obtain ⟨tt,ta,tn,tm,tu,te⟩:=t
  by_cases c1:te=0
  ·subst c1
   cases tn
   ·cases tm
    ·by_cases n0:tt=Mil.wTrue
     ·subst n0;exact atom_wTrue B b g T tv iv hs s ta tu c0 hnow
     by_cases n1:tt=Mil.wFalse
     ·subst n1;exact atom_wFalse B b g T tv iv hs s ta tu c0 hnow
     by_cases n2:tt=Mil.sOpen
     ·subst n2;exact atom_sOpen B b g T tv iv hs s ih ta tu c0 hnow
     by_cases n3:tt=Mil.wFby
     ·subst n3;exact atom_wFby B b g T tv iv hs s ih ta tu c0 hnow
     by_cases n4:tt=Mil.wHold
     ·subst n4;exact atom_wHold B b g T tv iv hs s ih ta tu c0 hnow
     by_cases n5:tt=Mil.wUnder
     ·subst n5;exact atom_wUnder B b g T tv iv hs s ih ta tu c0 hnow
     by_cases n6:tt=Mil.wMin
     ·subst n6;exact atom_wMin B b g T tv iv hs s ih ta tu c0 hnow
     by_cases n7:tt=Mil.wMax
     ·subst n7;exact atom_wMax B b g T tv iv hs s ih ta tu c0 hnow
     exact atom_other B b g T tv iv s tt n0 n1 n2 n3 n4 n5 n6 n7 ta tu c0 hnow
    ·exact atom_name B b g T tv iv hs s tt ta tu c0 hnow
   ·exact atom_num B b g T tv iv hs s tt tm ta tu c0 hnow
  ·exact atom_none B b g T tv iv s tt tn tm te c1 ta tu c0 hnow
 ·exact atom_failed B b g T tv iv s c0
structure AllC (B b g:Nat) (T:List Ref.Tk) (tv iv:Value) (s:Ref.Rs):Prop where
 e:EC B b g T tv iv s
 f:FC B b g T tv iv s
 o:∀l,1≤l→l≤7→OC B b g T tv iv l s
theorem all_c (B b g:Nat) (T:List Ref.Tk) (tv iv:Value) (hs:T.length≤4001):∀(n:Nat) (s:Ref.Rs),T.length - s.p < n→AllC B b g T tv iv s
 | 0,_,h=>by omega
 | n+1,s,h=>by
  have ih:∀t:Ref.Rs,T.length - t.p < T.length - s.p→AllC B b g T tv iv t:=fun t ht=>all_c B b g T tv iv hs n t (by omega)
  have ha:=atom_any B b g T tv iv hs s (fun t ht=>(ih t ht).e)
  have hf:FC B b g T tv iv s:=by
   cases hi:Ref.is T Mil.sMinus s
   ·exact fact_no B b g T tv iv s ha hi
   ·exact fact_neg B b g T tv iv hs s (fun t ht=>(ih t ht).f) hi
  have o7:=side7 B b g T tv iv s hf
  have lo:∀l,l≠0→l≠3→l < 7→OC B b g T tv iv (l+1) s→OC B b g T tv iv l s:=fun l h0 h3 h7 h8=>side_go B b g T tv iv hs l h0 h3 h7 s (fun t ht=>(ih t ht).o (l+1) (by omega) (by omega)) h8
  have o6:=lo 6 (by decide) (by decide) (by decide) o7
  have o5:=lo 5 (by decide) (by decide) (by decide) o6
  have o4:=lo 4 (by decide) (by decide) (by decide) o5
  have o3:OC B b g T tv iv 3 s:=by
   cases hi:Ref.is T Mil.wNot s
   ·exact side3_no B b g T tv iv s o4 hi
   ·exact side3_not B b g T tv iv hs s (fun t ht=>(ih t ht).o 3 (by decide) (by decide)) hi
  have o2:=lo 2 (by decide) (by decide) (by decide) o3
  have o1:=lo 1 (by decide) (by decide) (by decide) o2
  have he:EC B b g T tv iv s:=by
   cases hi:Ref.is T Mil.wIf s
   ·exact expr_no B b g T tv iv s o1 hi
   ·exact expr_if B b g T tv iv hs s (fun t ht=>(ih t ht).e) hi
  refine ⟨he,hf,fun l h1 h7=>?_⟩
  have:l=1∨l=2∨l=3∨l=4∨l=5∨l=6∨l=7:=by omega
  rcases this with rfl | rfl | rfl | rfl | rfl | rfl | rfl
  ·exact o1
  ·exact o2
  ·exact o3
  ·exact o4
  ·exact o5
  ·exact o6
  ·exact o7
theorem expr_all (B b g:Nat) (T:List Ref.Tk) (tv iv:Value) (hs:T.length≤4001) (s:Ref.Rs):EC B b g T tv iv s:=(all_c B b g T tv iv hs _ s (Nat.lt_succ_self _)).e
end
end Go.Proofs.YtoiajojadihpbaaGreatDoor
