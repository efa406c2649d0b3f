import Derived.Test.YtoiajojadihpbaaGreatDoorPt12
import Derived.Test.YtoiajojadihpbaaGreatDoorPt10
import Derived.Laws.AppendOwn
namespace Go.Proofs.YtoiajojadihpbaaGreatDoor
set_option maxHeartbeats 8000000
section
open Go.RowKit
theorem MOC.next {a:Nat→Addr} {b:Nat} {s:ByteArray} {l:Nat} {st:Mil.St} (h:MOC a b s (l+1) st) (w:World) (L:Laid a w) (r:RdS w b s st) :
  Calls Tryz.prog 165 #[.pointer (some ⟨b,0,none⟩),.int .i64 ((l:Int)+1)] w (ExPost (fun x t=>Mil.Ok (l+1) Mil.eNil st (x,t)) a b s w):=h w L r
theorem operand_level (a:Nat→Addr) (b:Nat) (s:ByteArray) (hb:27≤b) (hs:s.size≤4000) (l:Nat) (h1:1≤l) (h8:l < 8) (st:Mil.St) (ih:∀t,Mil.mu t < Mil.mu st→MOC a b s (l+1) t) (io:MOC a b s (l+1) st)
  (h3:l≠3) (h7:l≠7):MOC a b s l st:=by
 intro w L h
 have H:=hid h
 have HL:=hid L
 have IH:=hid ih
 have HIO:=hid io
 have i3:((l:Int)==3)=false:=by simp;omega
 have i7:((l:Int)==7)=false:=by simp;omega
 have i8:((l:Int)==8)=false:=by simp;omega
 have HP:Hid (¬((l=3∧Mil.sees st Mil.wNot=true)∨(l=7∧Mil.sees st Mil.sMinus=true))):=by show ¬_;omega
 clear h L ih io h3 h7
 go_enter Tryz.func165,Tryz.ntmps165
 go_wp2_with fail
 refine (HIO.out.next _ HL.out H.out).mono ?_
 rintro e w1 ⟨hk1,(⟨x1,s1,ty1,y1,rfl,e1,g1,r1⟩ | ⟨⟨k,at_,hkk,d,rfl,hd⟩,hno⟩)⟩
 ·have G1:=hid g1
  have E1:=hid e1
  clear g1 e1
  go_wp2_with fail
  go_loopg [5] (Mil.mu s1) (fun g s5 wr=>∃x t ty y,s5=.iface ty y∧g=Mil.mu t∧Hid (ev x=.iface ty y)∧Hid (∀z,Mil.Ok (10+l) x t z↔Mil.Ok l Mil.eNil st z)∧Hid (RdS wr b s t)∧Hid (Kp b w wr)∧Hid (Mil.mu t≤Mil.mu st))
  case atStart=>
   refine ⟨x1,s1,ty1,y1,rfl,rfl,E1,fun z=>⟨fun h=>Mil.ok_level h1 h8 HP.out G1.out h,fun h=>?_⟩,r1,hk1,Mil.ok_mu G1.out⟩
   obtain ⟨y,q1,q2⟩:=Mil.inv_level h1 h8 HP.out h
   obtain rfl:=Mil.Ok.unique q1 G1.out
   exact q2
  case round=>
   clear r1 hk1 G1 E1
   obtain ⟨x,t,ty,y,rfl,hg,EX,HI,HR,HK,HM⟩:=hrel
   have HG:=hid hg
   clear hg
   by_cases ho:Mil.opAt t=l
   ·have HO:=hid ho
    have hdec:decide (Mil.opAt t=l)=true:=decide_eq_true ho
    have HK3:Hid (t.tok.kind≠0):=by
     show _≠_;intro h0;unfold Mil.opAt at ho;rw [h0] at ho;simp at ho;omega
    clear ho
    go_wp2_with fail
    refine (seesOperator_any a b s t l h1 (by omega) _ (HL.out.kept HK.out hb) HR.out).mono ?_
    rintro e w2 ⟨rfl,hb2⟩
    rw [hdec]
    have HR2:Hid (RdS w2 b s t):=HR.out.kept (Kp.of_below (b:=b+1) hb2) (by omega)
    have HK2:Hid (Kp b w w2):=HK.out.trans (Kp.of_below hb2)
    obtain ⟨p,tp,xs,hp,hR,hr,hx,hn⟩:=HR2.out
    have c5:=hR.c5
    have HX:Hid (xs=bs t.tok.txt):=by rw [←hx];exact (bs_of xs).symm
    clear hR hr hx hn hp hb2
    go_wp2_with fail
    refine (advance_any a b s t _ (HL.out.kept HK2.out hb) hb HR2.out hs).mono ?_
    rintro e w3 ⟨kk3,(⟨t1,rfl,g3,r3⟩ | ⟨⟨k,at_,hkk,d,rfl,hd⟩,hno⟩)⟩
    ·have G3:=hid g3
     have M3:Hid (Mil.mu t1 < Mil.mu t):=Mil.adv_mu g3 HK3.out
     have hk3:=HK2.out.trans kk3
     clear g3 kk3
     go_wp2_with fail
     refine ((IH.out t1 (Nat.lt_of_lt_of_le M3.out HM.out)).next _ (HL.out.kept hk3 hb) r3).mono ?_
     rintro e w4 ⟨kk4,(⟨x4,t4,ty4,y4,rfl,e4,g4,r4⟩ | ⟨⟨k,at_,hkk,d,rfl,hd⟩,hno⟩)⟩
     ·have G4:=hid g4
      have E4:=hid e4
      have hk4:=hk3.trans kk4
      have M4:Hid (Mil.mu t4 < Mil.mu t):=Nat.lt_of_le_of_lt (Mil.ok_mu g4) M3.out
      have HE:Hid (ev (Mil.eTwo t.tok.txt x x4)=.iface 281 (.agg #[.string xs,.iface ty y,.iface ty4 y4])):=by
       show Value.iface _ (.agg #[.string (bs t.tok.txt),ev x,ev x4])=_
       rw [EX.out,E4.out,HX.out]
      clear g4 e4 kk4
      by_cases h4:l=4
      ·have i4:((l:Int)==4)=true:=by simp;omega
       have H4:=hid h4
       clear h4
       go_wp2
       go_ret
       refine ⟨hk4,Or.inl ⟨Mil.eTwo t.tok.txt x x4,t4,_,_,rfl,HE.out,(HI.out _).1 ?_,r4⟩⟩
       have:=H4.out
       subst this
       exact Mil.ok_rel HO.out G3.out G4.out
      ·have i4:((l:Int)==4)=false:=by simp;omega
       have H4:=hid h4
       clear h4
       go_wp2
       go_roundg (Mil.mu t4)
       case measure=>have:=HG.out;have:=M4.out;omega
       case rel=>
        refine ⟨Mil.eTwo t.tok.txt x x4,t4,_,_,rfl,rfl,HE,fun z=>⟨fun h=>(HI.out z).1 (Mil.ok_go H4.out HO.out G3.out G4.out h),fun h=>?_⟩,r4,hk4,by have:=M4.out;have:=HM.out;show _≤_;omega⟩
        obtain ⟨t1',b',q1,q2,q3⟩:=Mil.inv_go HO.out ((HI.out z).2 h)
        obtain rfl:=Option.some.inj (G3.out.symm.trans q1)
        obtain rfl:=Mil.Ok.unique q2 G4.out
        rcases q3 with ⟨q3,_⟩ | ⟨_,q3⟩
        ·exact absurd q3 H4.out
        ·exact q3
     ·have HNO:=hid hno
      clear hno
      go_wp2
      refine ⟨rfl,hk3.trans kk4,Or.inr ⟨⟨k,at_,hkk,d,rfl,hd⟩,fun x t hx=>?_⟩⟩
      obtain ⟨t1',b',q1,q2,q3⟩:=Mil.inv_go HO.out ((HI.out _).2 hx)
      obtain rfl:=Option.some.inj (G3.out.symm.trans q1)
      exact HNO.out b'.1 b'.2 q2
    ·have HNO:=hid hno
     clear hno
     go_wp2
     refine ⟨rfl,HK2.out.trans kk3,Or.inr ⟨⟨k,at_,hkk,d,rfl,hd⟩,fun x t hx=>?_⟩⟩
     obtain ⟨t1',b',q1,q2,q3⟩:=Mil.inv_go HO.out ((HI.out _).2 hx)
     have hh:=HNO.out.symm.trans q1
     cases hh
   ·have HO:=hid ho
    have hdec:decide (Mil.opAt t=l)=false:=decide_eq_false ho
    clear ho
    go_wp2_with fail
    refine (seesOperator_any a b s t l h1 (by omega) _ (HL.out.kept HK.out hb) HR.out).mono ?_
    rintro e w2 ⟨rfl,hb2⟩
    rw [hdec]
    go_wp2
    go_ret
    exact ⟨HK.out.trans (Kp.of_below hb2),Or.inl ⟨x,t,ty,y,rfl,EX.out,(HI.out _).1 (Mil.ok_stop HO.out),HR.out.kept (Kp.of_below (b:=b+1) hb2) (by omega)⟩⟩
 ·have HNO:=hid hno
  clear hno
  go_wp2
  refine ⟨rfl,hk1,Or.inr ⟨⟨k,at_,hkk,d,rfl,hd⟩,fun x t hx=>?_⟩⟩
  obtain ⟨y,q1,q2⟩:=Mil.inv_level h1 h8 HP.out hx
  exact HNO.out y.1 y.2 q1
theorem operand_not (a:Nat→Addr) (b:Nat) (s:ByteArray) (hb:27≤b) (hs:s.size≤4000) (l:Nat) (h1:1≤l) (h8:l < 8) (st:Mil.St) (ih:∀t,Mil.mu t < Mil.mu st→MOC a b s (l+1) t) (io:MOC a b s (l+1) st)
  (hl:l=3) (hn:Mil.sees st Mil.wNot=false):MOC a b s l st:=by
 intro w L h
 have H:=hid h
 have HL:=hid L
 have IH:=hid ih
 have HIO:=hid io
 have i3:((l:Int)==3)=true:=by simp;omega
 have i7:((l:Int)==7)=false:=by simp;omega
 have i8:((l:Int)==8)=false:=by simp;omega
 have HP:Hid (¬((l=3∧Mil.sees st Mil.wNot=true)∨(l=7∧Mil.sees st Mil.sMinus=true))):=by
  show ¬_
  rintro (⟨h,h'⟩ | ⟨h,h'⟩)
  ·rw [hn] at h';cases h'
  ·omega
 have HN:=hid hn
 clear h L ih io hl hn
 go_enter Tryz.func165,Tryz.ntmps165
 go_wp2_with fail
 refine (takes_no b s st (bs Mil.wNot) _ H.out HN.out).mono ?_
 rintro e w0 ⟨rfl,hw⟩
 rw [hw]
 clear hw w0
 go_wp2_with fail
 refine (HIO.out.next _ HL.out H.out).mono ?_
 rintro e w1 ⟨hk1,(⟨x1,s1,ty1,y1,rfl,e1,g1,r1⟩ | ⟨⟨k,at_,hkk,d,rfl,hd⟩,hno⟩)⟩
 ·have G1:=hid g1
  have E1:=hid e1
  clear g1 e1
  go_wp2_with fail
  go_loopg [5] (Mil.mu s1) (fun g s5 wr=>∃x t ty y,s5=.iface ty y∧g=Mil.mu t∧Hid (ev x=.iface ty y)∧Hid (∀z,Mil.Ok (10+l) x t z↔Mil.Ok l Mil.eNil st z)∧Hid (RdS wr b s t)∧Hid (Kp b w wr)∧Hid (Mil.mu t≤Mil.mu st))
  case atStart=>
   refine ⟨x1,s1,ty1,y1,rfl,rfl,E1,fun z=>⟨fun h=>Mil.ok_level h1 h8 HP.out G1.out h,fun h=>?_⟩,r1,hk1,Mil.ok_mu G1.out⟩
   obtain ⟨y,q1,q2⟩:=Mil.inv_level h1 h8 HP.out h
   obtain rfl:=Mil.Ok.unique q1 G1.out
   exact q2
  case round=>
   clear r1 hk1 G1 E1
   obtain ⟨x,t,ty,y,rfl,hg,EX,HI,HR,HK,HM⟩:=hrel
   have HG:=hid hg
   clear hg
   by_cases ho:Mil.opAt t=l
   ·have HO:=hid ho
    have hdec:decide (Mil.opAt t=l)=true:=decide_eq_true ho
    have HK3:Hid (t.tok.kind≠0):=by
     show _≠_;intro h0;unfold Mil.opAt at ho;rw [h0] at ho;simp at ho;omega
    clear ho
    go_wp2_with fail
    refine (seesOperator_any a b s t l h1 (by omega) _ (HL.out.kept HK.out hb) HR.out).mono ?_
    rintro e w2 ⟨rfl,hb2⟩
    rw [hdec]
    have HR2:Hid (RdS w2 b s t):=HR.out.kept (Kp.of_below (b:=b+1) hb2) (by omega)
    have HK2:Hid (Kp b w w2):=HK.out.trans (Kp.of_below hb2)
    obtain ⟨p,tp,xs,hp,hR,hr,hx,hn⟩:=HR2.out
    have c5:=hR.c5
    have HX:Hid (xs=bs t.tok.txt):=by rw [←hx];exact (bs_of xs).symm
    clear hR hr hx hn hp hb2
    go_wp2_with fail
    refine (advance_any a b s t _ (HL.out.kept HK2.out hb) hb HR2.out hs).mono ?_
    rintro e w3 ⟨kk3,(⟨t1,rfl,g3,r3⟩ | ⟨⟨k,at_,hkk,d,rfl,hd⟩,hno⟩)⟩
    ·have G3:=hid g3
     have M3:Hid (Mil.mu t1 < Mil.mu t):=Mil.adv_mu g3 HK3.out
     have hk3:=HK2.out.trans kk3
     clear g3 kk3
     go_wp2_with fail
     refine ((IH.out t1 (Nat.lt_of_lt_of_le M3.out HM.out)).next _ (HL.out.kept hk3 hb) r3).mono ?_
     rintro e w4 ⟨kk4,(⟨x4,t4,ty4,y4,rfl,e4,g4,r4⟩ | ⟨⟨k,at_,hkk,d,rfl,hd⟩,hno⟩)⟩
     ·have G4:=hid g4
      have E4:=hid e4
      have hk4:=hk3.trans kk4
      have M4:Hid (Mil.mu t4 < Mil.mu t):=Nat.lt_of_le_of_lt (Mil.ok_mu g4) M3.out
      have HE:Hid (ev (Mil.eTwo t.tok.txt x x4)=.iface 281 (.agg #[.string xs,.iface ty y,.iface ty4 y4])):=by
       show Value.iface _ (.agg #[.string (bs t.tok.txt),ev x,ev x4])=_
       rw [EX.out,E4.out,HX.out]
      clear g4 e4 kk4
      by_cases h4:l=4
      ·have i4:((l:Int)==4)=true:=by simp;omega
       have H4:=hid h4
       clear h4
       go_wp2
       go_ret
       refine ⟨hk4,Or.inl ⟨Mil.eTwo t.tok.txt x x4,t4,_,_,rfl,HE.out,(HI.out _).1 ?_,r4⟩⟩
       have:=H4.out
       subst this
       exact Mil.ok_rel HO.out G3.out G4.out
      ·have i4:((l:Int)==4)=false:=by simp;omega
       have H4:=hid h4
       clear h4
       go_wp2
       go_roundg (Mil.mu t4)
       case measure=>have:=HG.out;have:=M4.out;omega
       case rel=>
        refine ⟨Mil.eTwo t.tok.txt x x4,t4,_,_,rfl,rfl,HE,fun z=>⟨fun h=>(HI.out z).1 (Mil.ok_go H4.out HO.out G3.out G4.out h),fun h=>?_⟩,r4,hk4,by have:=M4.out;have:=HM.out;show _≤_;omega⟩
        obtain ⟨t1',b',q1,q2,q3⟩:=Mil.inv_go HO.out ((HI.out z).2 h)
        obtain rfl:=Option.some.inj (G3.out.symm.trans q1)
        obtain rfl:=Mil.Ok.unique q2 G4.out
        rcases q3 with ⟨q3,_⟩ | ⟨_,q3⟩
        ·exact absurd q3 H4.out
        ·exact q3
     ·have HNO:=hid hno
      clear hno
      go_wp2
      refine ⟨rfl,hk3.trans kk4,Or.inr ⟨⟨k,at_,hkk,d,rfl,hd⟩,fun x t hx=>?_⟩⟩
      obtain ⟨t1',b',q1,q2,q3⟩:=Mil.inv_go HO.out ((HI.out _).2 hx)
      obtain rfl:=Option.some.inj (G3.out.symm.trans q1)
      exact HNO.out b'.1 b'.2 q2
    ·have HNO:=hid hno
     clear hno
     go_wp2
     refine ⟨rfl,HK2.out.trans kk3,Or.inr ⟨⟨k,at_,hkk,d,rfl,hd⟩,fun x t hx=>?_⟩⟩
     obtain ⟨t1',b',q1,q2,q3⟩:=Mil.inv_go HO.out ((HI.out _).2 hx)
     have hh:=HNO.out.symm.trans q1
     cases hh
   ·have HO:=hid ho
    have hdec:decide (Mil.opAt t=l)=false:=decide_eq_false ho
    clear ho
    go_wp2_with fail
    refine (seesOperator_any a b s t l h1 (by omega) _ (HL.out.kept HK.out hb) HR.out).mono ?_
    rintro e w2 ⟨rfl,hb2⟩
    rw [hdec]
    go_wp2
    go_ret
    exact ⟨HK.out.trans (Kp.of_below hb2),Or.inl ⟨x,t,ty,y,rfl,EX.out,(HI.out _).1 (Mil.ok_stop HO.out),HR.out.kept (Kp.of_below (b:=b+1) hb2) (by omega)⟩⟩
 ·have HNO:=hid hno
  clear hno
  go_wp2
  refine ⟨rfl,hk1,Or.inr ⟨⟨k,at_,hkk,d,rfl,hd⟩,fun x t hx=>?_⟩⟩
  obtain ⟨y,q1,q2⟩:=Mil.inv_level h1 h8 HP.out hx
  exact HNO.out y.1 y.2 q1
theorem operand_minus (a:Nat→Addr) (b:Nat) (s:ByteArray) (hb:27≤b) (hs:s.size≤4000) (l:Nat) (h1:1≤l) (h8:l < 8) (st:Mil.St) (ih:∀t,Mil.mu t < Mil.mu st→MOC a b s (l+1) t) (io:MOC a b s (l+1) st)
  (hl:l=7) (hn:Mil.sees st Mil.sMinus=false):MOC a b s l st:=by
 intro w L h
 have H:=hid h
 have HL:=hid L
 have IH:=hid ih
 have HIO:=hid io
 have i3:((l:Int)==3)=false:=by simp;omega
 have i7:((l:Int)==7)=true:=by simp;omega
 have i8:((l:Int)==8)=false:=by simp;omega
 have HP:Hid (¬((l=3∧Mil.sees st Mil.wNot=true)∨(l=7∧Mil.sees st Mil.sMinus=true))):=by
  show ¬_
  rintro (⟨h,h'⟩ | ⟨h,h'⟩)
  ·omega
  ·rw [hn] at h';cases h'
 have HN:=hid hn
 clear h L ih io hl hn
 go_enter Tryz.func165,Tryz.ntmps165
 go_wp2_with fail
 refine (takes_no b s st (bs Mil.sMinus) _ H.out HN.out).mono ?_
 rintro e w0 ⟨rfl,hw⟩
 rw [hw]
 clear hw w0
 go_wp2_with fail
 refine (HIO.out.next _ HL.out H.out).mono ?_
 rintro e w1 ⟨hk1,(⟨x1,s1,ty1,y1,rfl,e1,g1,r1⟩ | ⟨⟨k,at_,hkk,d,rfl,hd⟩,hno⟩)⟩
 ·have G1:=hid g1
  have E1:=hid e1
  clear g1 e1
  go_wp2_with fail
  go_loopg [5] (Mil.mu s1) (fun g s5 wr=>∃x t ty y,s5=.iface ty y∧g=Mil.mu t∧Hid (ev x=.iface ty y)∧Hid (∀z,Mil.Ok (10+l) x t z↔Mil.Ok l Mil.eNil st z)∧Hid (RdS wr b s t)∧Hid (Kp b w wr)∧Hid (Mil.mu t≤Mil.mu st))
  case atStart=>
   refine ⟨x1,s1,ty1,y1,rfl,rfl,E1,fun z=>⟨fun h=>Mil.ok_level h1 h8 HP.out G1.out h,fun h=>?_⟩,r1,hk1,Mil.ok_mu G1.out⟩
   obtain ⟨y,q1,q2⟩:=Mil.inv_level h1 h8 HP.out h
   obtain rfl:=Mil.Ok.unique q1 G1.out
   exact q2
  case round=>
   clear r1 hk1 G1 E1
   obtain ⟨x,t,ty,y,rfl,hg,EX,HI,HR,HK,HM⟩:=hrel
   have HG:=hid hg
   clear hg
   by_cases ho:Mil.opAt t=l
   ·have HO:=hid ho
    have hdec:decide (Mil.opAt t=l)=true:=decide_eq_true ho
    have HK3:Hid (t.tok.kind≠0):=by
     show _≠_;intro h0;unfold Mil.opAt at ho;rw [h0] at ho;simp at ho;omega
    clear ho
    go_wp2_with fail
    refine (seesOperator_any a b s t l h1 (by omega) _ (HL.out.kept HK.out hb) HR.out).mono ?_
    rintro e w2 ⟨rfl,hb2⟩
    rw [hdec]
    have HR2:Hid (RdS w2 b s t):=HR.out.kept (Kp.of_below (b:=b+1) hb2) (by omega)
    have HK2:Hid (Kp b w w2):=HK.out.trans (Kp.of_below hb2)
    obtain ⟨p,tp,xs,hp,hR,hr,hx,hn⟩:=HR2.out
    have c5:=hR.c5
    have HX:Hid (xs=bs t.tok.txt):=by rw [←hx];exact (bs_of xs).symm
    clear hR hr hx hn hp hb2
    go_wp2_with fail
    refine (advance_any a b s t _ (HL.out.kept HK2.out hb) hb HR2.out hs).mono ?_
    rintro e w3 ⟨kk3,(⟨t1,rfl,g3,r3⟩ | ⟨⟨k,at_,hkk,d,rfl,hd⟩,hno⟩)⟩
    ·have G3:=hid g3
     have M3:Hid (Mil.mu t1 < Mil.mu t):=Mil.adv_mu g3 HK3.out
     have hk3:=HK2.out.trans kk3
     clear g3 kk3
     go_wp2_with fail
     refine ((IH.out t1 (Nat.lt_of_lt_of_le M3.out HM.out)).next _ (HL.out.kept hk3 hb) r3).mono ?_
     rintro e w4 ⟨kk4,(⟨x4,t4,ty4,y4,rfl,e4,g4,r4⟩ | ⟨⟨k,at_,hkk,d,rfl,hd⟩,hno⟩)⟩
     ·have G4:=hid g4
      have E4:=hid e4
      have hk4:=hk3.trans kk4
      have M4:Hid (Mil.mu t4 < Mil.mu t):=Nat.lt_of_le_of_lt (Mil.ok_mu g4) M3.out
      have HE:Hid (ev (Mil.eTwo t.tok.txt x x4)=.iface 281 (.agg #[.string xs,.iface ty y,.iface ty4 y4])):=by
       show Value.iface _ (.agg #[.string (bs t.tok.txt),ev x,ev x4])=_
       rw [EX.out,E4.out,HX.out]
      clear g4 e4 kk4
      by_cases h4:l=4
      ·have i4:((l:Int)==4)=true:=by simp;omega
       have H4:=hid h4
       clear h4
       go_wp2
       go_ret
       refine ⟨hk4,Or.inl ⟨Mil.eTwo t.tok.txt x x4,t4,_,_,rfl,HE.out,(HI.out _).1 ?_,r4⟩⟩
       have:=H4.out
       subst this
       exact Mil.ok_rel HO.out G3.out G4.out
      ·have i4:((l:Int)==4)=false:=by simp;omega
       have H4:=hid h4
       clear h4
       go_wp2
       go_roundg (Mil.mu t4)
       case measure=>have:=HG.out;have:=M4.out;omega
       case rel=>
        refine ⟨Mil.eTwo t.tok.txt x x4,t4,_,_,rfl,rfl,HE,fun z=>⟨fun h=>(HI.out z).1 (Mil.ok_go H4.out HO.out G3.out G4.out h),fun h=>?_⟩,r4,hk4,by have:=M4.out;have:=HM.out;show _≤_;omega⟩
        obtain ⟨t1',b',q1,q2,q3⟩:=Mil.inv_go HO.out ((HI.out z).2 h)
        obtain rfl:=Option.some.inj (G3.out.symm.trans q1)
        obtain rfl:=Mil.Ok.unique q2 G4.out
        rcases q3 with ⟨q3,_⟩ | ⟨_,q3⟩
        ·exact absurd q3 H4.out
        ·exact q3
     ·have HNO:=hid hno
      clear hno
      go_wp2
      refine ⟨rfl,hk3.trans kk4,Or.inr ⟨⟨k,at_,hkk,d,rfl,hd⟩,fun x t hx=>?_⟩⟩
      obtain ⟨t1',b',q1,q2,q3⟩:=Mil.inv_go HO.out ((HI.out _).2 hx)
      obtain rfl:=Option.some.inj (G3.out.symm.trans q1)
      exact HNO.out b'.1 b'.2 q2
    ·have HNO:=hid hno
     clear hno
     go_wp2
     refine ⟨rfl,HK2.out.trans kk3,Or.inr ⟨⟨k,at_,hkk,d,rfl,hd⟩,fun x t hx=>?_⟩⟩
     obtain ⟨t1',b',q1,q2,q3⟩:=Mil.inv_go HO.out ((HI.out _).2 hx)
     have hh:=HNO.out.symm.trans q1
     cases hh
   ·have HO:=hid ho
    have hdec:decide (Mil.opAt t=l)=false:=decide_eq_false ho
    clear ho
    go_wp2_with fail
    refine (seesOperator_any a b s t l h1 (by omega) _ (HL.out.kept HK.out hb) HR.out).mono ?_
    rintro e w2 ⟨rfl,hb2⟩
    rw [hdec]
    go_wp2
    go_ret
    exact ⟨HK.out.trans (Kp.of_below hb2),Or.inl ⟨x,t,ty,y,rfl,EX.out,(HI.out _).1 (Mil.ok_stop HO.out),HR.out.kept (Kp.of_below (b:=b+1) hb2) (by omega)⟩⟩
 ·have HNO:=hid hno
  clear hno
  go_wp2
  refine ⟨rfl,hk1,Or.inr ⟨⟨k,at_,hkk,d,rfl,hd⟩,fun x t hx=>?_⟩⟩
  obtain ⟨y,q1,q2⟩:=Mil.inv_level h1 h8 HP.out hx
  exact HNO.out y.1 y.2 q1
theorem operand_pre3 (a:Nat→Addr) (b:Nat) (s:ByteArray) (hb:27≤b) (hs:s.size≤4000) (st:Mil.St) (ih:∀t,Mil.mu t < Mil.mu st→MOC a b s 3 t) (hy:Mil.sees st Mil.wNot=true):MOC a b s 3 st:=by
 intro w L h
 have H:=hid h
 have HL:=hid L
 have IH:=hid ih
 have HK3:Hid (st.tok.kind≠0):=by show _≠_;rw [(Mil.sees_kind3 hy).1];decide
 have HT:Hid (st.tok.txt=Mil.wNot):=(Mil.sees_kind3 hy).2
 have HI:=hid hy
 clear h L ih hy
 go_enter Tryz.func165,Tryz.ntmps165
 go_wp2_with fail
 refine (takes_yes a b s st (bs Mil.wNot) _ HL.out hb H.out hs HI.out).mono ?_
 rintro e w1 ⟨hk1,(⟨s1,rfl,g1,r1⟩ | ⟨⟨k,at_,hkk,d,rfl,hd⟩,hno⟩)⟩
 ·have G1:=hid g1
  have M1:Hid (Mil.mu s1 < Mil.mu st):=Mil.adv_mu g1 HK3.out
  clear g1
  go_wp2_with fail
  refine (IH.out s1 M1.out _ (HL.out.kept hk1 hb) r1).mono ?_
  rintro e w2 ⟨hk2,(⟨x,s2,ty,y,rfl,ea,g2,r2⟩ | ⟨⟨k,at_,hkk,d,rfl,hd⟩,hno⟩)⟩
  ·have EA:=hid ea
   have G2:=hid g2
   clear ea g2
   go_wp2
   go_ret
   refine ⟨hk1.trans hk2,Or.inl ⟨Mil.ePre st.tok.txt x,s2,_,_,rfl,?_,Mil.ok_pre (Or.inl ⟨rfl,HI.out⟩) G1.out G2.out,r2⟩⟩
   show Value.iface _ (.agg #[.string (bs st.tok.txt),ev x])=_
   rw [EA.out,HT.out];rfl
  ·have HNO:=hid hno
   clear hno
   go_wp2
   refine ⟨rfl,hk1.trans hk2,Or.inr ⟨⟨k,at_,hkk,d,rfl,hd⟩,fun x t hx=>?_⟩⟩
   obtain ⟨t1,q,q1,q2,_⟩:=Mil.inv_pre (Or.inl ⟨rfl,HI.out⟩) hx
   obtain rfl:=Option.some.inj (G1.out.symm.trans q1)
   exact HNO.out q.1 q.2 q2
 ·have HNO:=hid hno
  clear hno
  go_wp2
  refine ⟨rfl,hk1,Or.inr ⟨⟨k,at_,hkk,d,rfl,hd⟩,fun x t hx=>?_⟩⟩
  obtain ⟨t1,q,q1,q2,_⟩:=Mil.inv_pre (Or.inl ⟨rfl,HI.out⟩) hx
  have hh:=HNO.out.symm.trans q1
  cases hh
theorem operand_pre7 (a:Nat→Addr) (b:Nat) (s:ByteArray) (hb:27≤b) (hs:s.size≤4000) (st:Mil.St) (ih:∀t,Mil.mu t < Mil.mu st→MOC a b s 7 t) (hy:Mil.sees st Mil.sMinus=true):MOC a b s 7 st:=by
 intro w L h
 have H:=hid h
 have HL:=hid L
 have IH:=hid ih
 have HK3:Hid (st.tok.kind≠0):=by show _≠_;rw [(Mil.sees_kind3 hy).1];decide
 have HT:Hid (st.tok.txt=Mil.sMinus):=(Mil.sees_kind3 hy).2
 have HI:=hid hy
 clear h L ih hy
 go_enter Tryz.func165,Tryz.ntmps165
 go_wp2_with fail
 refine (takes_yes a b s st (bs Mil.sMinus) _ HL.out hb H.out hs HI.out).mono ?_
 rintro e w1 ⟨hk1,(⟨s1,rfl,g1,r1⟩ | ⟨⟨k,at_,hkk,d,rfl,hd⟩,hno⟩)⟩
 ·have G1:=hid g1
  have M1:Hid (Mil.mu s1 < Mil.mu st):=Mil.adv_mu g1 HK3.out
  clear g1
  go_wp2_with fail
  refine (IH.out s1 M1.out _ (HL.out.kept hk1 hb) r1).mono ?_
  rintro e w2 ⟨hk2,(⟨x,s2,ty,y,rfl,ea,g2,r2⟩ | ⟨⟨k,at_,hkk,d,rfl,hd⟩,hno⟩)⟩
  ·have EA:=hid ea
   have G2:=hid g2
   clear ea g2
   go_wp2
   go_ret
   refine ⟨hk1.trans hk2,Or.inl ⟨Mil.ePre st.tok.txt x,s2,_,_,rfl,?_,Mil.ok_pre (Or.inr ⟨rfl,HI.out⟩) G1.out G2.out,r2⟩⟩
   show Value.iface _ (.agg #[.string (bs st.tok.txt),ev x])=_
   rw [EA.out,HT.out];rfl
  ·have HNO:=hid hno
   clear hno
   go_wp2
   refine ⟨rfl,hk1.trans hk2,Or.inr ⟨⟨k,at_,hkk,d,rfl,hd⟩,fun x t hx=>?_⟩⟩
   obtain ⟨t1,q,q1,q2,_⟩:=Mil.inv_pre (Or.inr ⟨rfl,HI.out⟩) hx
   obtain rfl:=Option.some.inj (G1.out.symm.trans q1)
   exact HNO.out q.1 q.2 q2
 ·have HNO:=hid hno
  clear hno
  go_wp2
  refine ⟨rfl,hk1,Or.inr ⟨⟨k,at_,hkk,d,rfl,hd⟩,fun x t hx=>?_⟩⟩
  obtain ⟨t1,q,q1,q2,_⟩:=Mil.inv_pre (Or.inr ⟨rfl,HI.out⟩) hx
  have hh:=HNO.out.symm.trans q1
  cases hh
theorem operand_atom (a:Nat→Addr) (b:Nat) (s:ByteArray) (st:Mil.St) (ia:MAC a b s st):MOC a b s 8 st:=by
 intro w L h
 have H:=hid h
 have HL:=hid L
 have IA:=hid ia
 clear h L ia
 go_enter Tryz.func165,Tryz.ntmps165
 go_wp2_with fail
 refine (IA.out _ HL.out H.out).mono ?_
 rintro e w2 ⟨hk2,(⟨x,s2,ty,y,rfl,ea,g2,r2⟩ | ⟨⟨k,at_,hkk,d,rfl,hd⟩,hno⟩)⟩
 ·have EA:=hid ea
  have G2:=hid g2
  clear ea g2
  go_wp2
  go_ret
  exact ⟨hk2,Or.inl ⟨x,s2,ty,y,rfl,EA.out,G2.out,r2⟩⟩
 ·have HNO:=hid hno
  clear hno
  go_wp2
  exact ⟨rfl,hk2,Or.inr ⟨⟨k,at_,hkk,d,rfl,hd⟩,HNO.out⟩⟩
theorem levels (a:Nat→Addr) (b:Nat) (s:ByteArray) (hb:27≤b) (hs:s.size≤4000) (st:Mil.St) (iol:∀t,Mil.mu t < Mil.mu st→∀l,1≤l→l≤8→MOC a b s l t) (ia:MAC a b s st):∀l,1≤l→l≤8→MOC a b s l st:=by
 have down:∀k l,l+k=8→1≤l→MOC a b s l st:=by
  intro k
  induction k with
  | zero=>
   intro l hl _
   have:l=8:=by omega
   subst this
   exact operand_atom a b s st ia
  | succ k ihk=>
   intro l hl h1
   have h8:l < 8:=by omega
   have up:=ihk (l+1) (by omega) (by omega)
   have ihl:∀t,Mil.mu t < Mil.mu st→MOC a b s (l+1) t:=fun t ht=>iol t ht (l+1) (by omega) (by omega)
   by_cases h3:l=3
   ·by_cases hn:Mil.sees st Mil.wNot=true
    ·subst h3
     exact operand_pre3 a b s hb hs st (fun t ht=>iol t ht 3 (by omega) (by omega)) hn
    ·exact operand_not a b s hb hs l h1 h8 st ihl up h3 (Bool.eq_false_iff.2 hn)
   ·by_cases h7:l=7
    ·by_cases hn:Mil.sees st Mil.sMinus=true
     ·subst h7
      exact operand_pre7 a b s hb hs st (fun t ht=>iol t ht 7 (by omega) (by omega)) hn
     ·exact operand_minus a b s hb hs l h1 h8 st ihl up h7 (Bool.eq_false_iff.2 hn)
    ·exact operand_level a b s hb hs l h1 h8 st ihl up h3 h7
 intro l h1 h8
 exact down (8 - l) l (by omega) h1
theorem all_any (a:Nat→Addr) (b:Nat) (s:ByteArray) (hb:27≤b) (hs:s.size≤4000):∀(n:Nat) (st:Mil.St),Mil.mu st≤n→MEC a b s st∧∀l,1≤l→l≤8→MOC a b s l st:=by
 intro n
 induction n with
 | zero=>
  intro st hm
  have none:∀t,¬Mil.mu t < Mil.mu st:=fun t h=>by omega
  have ia:=matom_any a b s hb hs st (fun t ht=>absurd ht (none t))
  have io:=levels a b s hb hs st (fun t ht=>absurd ht (none t)) ia
  exact ⟨expression_any a b s hb hs st (fun t ht=>absurd ht (none t)) (io 1 (by omega) (by omega)),io⟩
 | succ n ih=>
  intro st hm
  have ie:∀t,Mil.mu t < Mil.mu st→MEC a b s t:=fun t ht=>(ih t (by omega)).1
  have iol:∀t,Mil.mu t < Mil.mu st→∀l,1≤l→l≤8→MOC a b s l t:=fun t ht=>(ih t (by omega)).2
  have ia:=matom_any a b s hb hs st ie
  have io:=levels a b s hb hs st iol ia
  exact ⟨expression_any a b s hb hs st ie (io 1 (by omega) (by omega)),io⟩
theorem expression_all (a:Nat→Addr) (b:Nat) (s:ByteArray) (hb:27≤b) (hs:s.size≤4000) (st:Mil.St):MEC a b s st:=(all_any a b s hb hs _ st (Nat.le_refl _)).1
end
section
open Go.RowKit
def Iv (w:World) (b:Nat) (i:Mil.It) (v:Value):Prop:=
 (i.kind=1∧v=.iface 259 (.agg #[.string (bs i.nm),.int .i64 (i.ty:Nat),.int .i64 (i.every:Nat)])) ∨
 (i.kind=2∧∃r,v=.iface 261 (.agg #[r])∧w.ownsRow (b+1) 9 1 r i.names.length (i.names.map fun x=>Value.string (bs x))) ∨
 (i.kind=3∧v=.iface 266 (.agg #[.string (bs i.nm),.int .i64 (i.ty:Nat),ev i.body]))
def ItPost (R:Mil.It→Mil.St→Prop) (a:Nat→Addr) (b:Nat) (s:ByteArray) (w:World) (e:Ending) (w':World):Prop:=
 Kp b w w'∧((∃i st ty y,e=.returned (.iface ty y)∧Iv w' b i (.iface ty y)∧R i st∧RdS w' b s st)∨(Threw a e w'∧∀i st,¬R i st))
theorem input_any (a:Nat→Addr) (b:Nat) (s:ByteArray) (hb:27≤b) (hs:s.size≤4000) (st:Mil.St) (w:World) (L:Laid a w) (h:RdS w b s st) :
  Calls Tryz.prog 142 #[.pointer (some ⟨b,0,none⟩)] w (ItPost (Mil.Rin st) a b s w):=by
 have H:=hid h
 have HL:=hid L
 clear h L
 go_enter Tryz.func142,Tryz.ntmps142
 go_wp2_with fail
 refine (name_any a b s st _ HL.out hb H.out hs).mono ?_
 rintro e w1 ⟨kk1,(⟨x1,s1,rfl,g1,r1⟩ | ⟨⟨k,at_,hkk,d,rfl,hd⟩,hno⟩)⟩
 ·have hk1:=kk1
  have G1:=hid g1
  clear g1 kk1
  go_wp2_with fail
  refine (want_any a b s s1 (bs Mil.sColon) _ (HL.out.kept hk1 hb) hb r1 hs).mono ?_
  rintro e w2 ⟨kk2,(⟨s2,rfl,g2,r2⟩ | ⟨⟨k,at_,hkk,d,rfl,hd⟩,hno⟩)⟩
  ·have hk2:=hk1.trans kk2
   have G2:=hid g2
   clear g2 kk2
   go_wp2_with fail
   refine (flowType_any a b s s2 _ (HL.out.kept hk2 hb) hb r2 hs).mono ?_
   rintro e w3 ⟨kk3,(⟨x3,s3,rfl,g3,r3⟩ | ⟨⟨k,at_,hkk,d,rfl,hd⟩,hno⟩)⟩
   ·have hk3:=hk2.trans kk3
    have G3:=hid g3
    clear g3 kk3
    go_wp2_with fail
    refine (want_any a b s s3 (bs Mil.wEvery) _ (HL.out.kept hk3 hb) hb r3 hs).mono ?_
    rintro e w4 ⟨kk4,(⟨s4,rfl,g4,r4⟩ | ⟨⟨k,at_,hkk,d,rfl,hd⟩,hno⟩)⟩
    ·have hk4:=hk3.trans kk4
     have G4:=hid g4
     clear g4 kk4
     go_wp2_with fail
     refine (number_any a b s s4 1 1000000 (by decide) _ (HL.out.kept hk4 hb) hb r4 hs).mono ?_
     rintro e w5 ⟨kk5,(⟨x5,s5,rfl,g5,r5⟩ | ⟨⟨k,at_,hkk,d,rfl,hd⟩,hno⟩)⟩
     ·have hk5:=hk4.trans kk5
      have G5:=hid g5
      clear g5 kk5
      go_wp2_with fail
      refine (want_any a b s s5 (bs Mil.sSemi) _ (HL.out.kept hk5 hb) hb r5 hs).mono ?_
      rintro e w6 ⟨kk6,(⟨s6,rfl,g6,r6⟩ | ⟨⟨k,at_,hkk,d,rfl,hd⟩,hno⟩)⟩
      ·have hk6:=hk5.trans kk6
       have G6:=hid g6
       clear g6 kk6
       go_wp2
       go_ret
       exact ⟨hk6,Or.inl ⟨⟨1,x1,x3,x5,[],Mil.eNil⟩,s6,_,_,rfl,Or.inl ⟨rfl,rfl⟩,⟨_,_,_,_,_,G1.out,G2.out,G3.out,G4.out,G5.out,G6.out,rfl⟩,r6⟩⟩
      ·go_wp2
       refine ⟨rfl,hk5.trans kk6,Or.inr ⟨⟨k,at_,hkk,d,rfl,hd⟩,fun x t hx=>?_⟩⟩
       obtain ⟨v1,v2,v3,v4,v5,q1,q2,q3,q4,q5,q6,_⟩:=hx
       obtain rfl:=Option.some.inj (G1.out.symm.trans q1)
       obtain rfl:=Option.some.inj (G2.out.symm.trans q2)
       obtain rfl:=Option.some.inj (G3.out.symm.trans q3)
       obtain rfl:=Option.some.inj (G4.out.symm.trans q4)
       obtain rfl:=Option.some.inj (G5.out.symm.trans q5)
       have hh:=hno.symm.trans q6
       cases hh
     ·go_wp2
      refine ⟨rfl,hk4.trans kk5,Or.inr ⟨⟨k,at_,hkk,d,rfl,hd⟩,fun x t hx=>?_⟩⟩
      obtain ⟨v1,v2,v3,v4,v5,q1,q2,q3,q4,q5,q6,_⟩:=hx
      obtain rfl:=Option.some.inj (G1.out.symm.trans q1)
      obtain rfl:=Option.some.inj (G2.out.symm.trans q2)
      obtain rfl:=Option.some.inj (G3.out.symm.trans q3)
      obtain rfl:=Option.some.inj (G4.out.symm.trans q4)
      have hh:=hno.symm.trans q5
      cases hh
    ·go_wp2
     refine ⟨rfl,hk3.trans kk4,Or.inr ⟨⟨k,at_,hkk,d,rfl,hd⟩,fun x t hx=>?_⟩⟩
     obtain ⟨v1,v2,v3,v4,v5,q1,q2,q3,q4,q5,q6,_⟩:=hx
     obtain rfl:=Option.some.inj (G1.out.symm.trans q1)
     obtain rfl:=Option.some.inj (G2.out.symm.trans q2)
     obtain rfl:=Option.some.inj (G3.out.symm.trans q3)
     have hh:=hno.symm.trans q4
     cases hh
   ·go_wp2
    refine ⟨rfl,hk2.trans kk3,Or.inr ⟨⟨k,at_,hkk,d,rfl,hd⟩,fun x t hx=>?_⟩⟩
    obtain ⟨v1,v2,v3,v4,v5,q1,q2,q3,q4,q5,q6,_⟩:=hx
    obtain rfl:=Option.some.inj (G1.out.symm.trans q1)
    obtain rfl:=Option.some.inj (G2.out.symm.trans q2)
    have hh:=hno.symm.trans q3
    cases hh
  ·go_wp2
   refine ⟨rfl,hk1.trans kk2,Or.inr ⟨⟨k,at_,hkk,d,rfl,hd⟩,fun x t hx=>?_⟩⟩
   obtain ⟨v1,v2,v3,v4,v5,q1,q2,q3,q4,q5,q6,_⟩:=hx
   obtain rfl:=Option.some.inj (G1.out.symm.trans q1)
   have hh:=hno.symm.trans q2
   cases hh
 ·go_wp2
  refine ⟨rfl,kk1,Or.inr ⟨⟨k,at_,hkk,d,rfl,hd⟩,fun x t hx=>?_⟩⟩
  obtain ⟨v1,v2,v3,v4,v5,q1,q2,q3,q4,q5,q6,_⟩:=hx
  have hh:=hno.symm.trans q1
  cases hh
theorem equation_any (a:Nat→Addr) (b:Nat) (s:ByteArray) (hb:27≤b) (hs:s.size≤4000) (st:Mil.St) (w:World) (L:Laid a w) (h:RdS w b s st) :
  Calls Tryz.prog 144 #[.pointer (some ⟨b,0,none⟩)] w (ItPost (Mil.Req st) a b s w):=by
 have H:=hid h
 have HL:=hid L
 clear h L
 go_enter Tryz.func144,Tryz.ntmps144
 go_wp2_with fail
 refine (name_any a b s st _ HL.out hb H.out hs).mono ?_
 rintro e w1 ⟨kk1,(⟨x1,s1,rfl,g1,r1⟩ | ⟨⟨k,at_,hkk,d,rfl,hd⟩,hno⟩)⟩
 ·have hk1:=kk1
  have G1:=hid g1
  clear g1 kk1
  go_wp2_with fail
  refine (want_any a b s s1 (bs Mil.sColon) _ (HL.out.kept hk1 hb) hb r1 hs).mono ?_
  rintro e w2 ⟨kk2,(⟨s2,rfl,g2,r2⟩ | ⟨⟨k,at_,hkk,d,rfl,hd⟩,hno⟩)⟩
  ·have hk2:=hk1.trans kk2
   have G2:=hid g2
   clear g2 kk2
   go_wp2_with fail
   refine (flowType_any a b s s2 _ (HL.out.kept hk2 hb) hb r2 hs).mono ?_
   rintro e w3 ⟨kk3,(⟨x3,s3,rfl,g3,r3⟩ | ⟨⟨k,at_,hkk,d,rfl,hd⟩,hno⟩)⟩
   ·have hk3:=hk2.trans kk3
    have G3:=hid g3
    clear g3 kk3
    go_wp2_with fail
    refine (want_any a b s s3 (bs Mil.sIs) _ (HL.out.kept hk3 hb) hb r3 hs).mono ?_
    rintro e w4 ⟨kk4,(⟨s4,rfl,g4,r4⟩ | ⟨⟨k,at_,hkk,d,rfl,hd⟩,hno⟩)⟩
    ·have hk4:=hk3.trans kk4
     have G4:=hid g4
     clear g4 kk4
     go_wp2_with fail
     refine (expression_all a b s hb hs s4 _ (HL.out.kept hk4 hb) r4).mono ?_
     rintro e w5 ⟨kk5,(⟨x5,s5,ty5,y5,rfl,e5,g5,r5⟩ | ⟨⟨k,at_,hkk,d,rfl,hd⟩,hno⟩)⟩
     ·have hk5:=hk4.trans kk5
      have G5:=hid g5
      have E5:=hid e5
      clear g5 kk5 e5
      go_wp2_with fail
      refine (want_any a b s s5 (bs Mil.sSemi) _ (HL.out.kept hk5 hb) hb r5 hs).mono ?_
      rintro e w6 ⟨kk6,(⟨s6,rfl,g6,r6⟩ | ⟨⟨k,at_,hkk,d,rfl,hd⟩,hno⟩)⟩
      ·have hk6:=hk5.trans kk6
       have G6:=hid g6
       clear g6 kk6
       go_wp2
       go_ret
       refine ⟨hk6,Or.inl ⟨⟨3,x1,x3,0,[],x5⟩,s6,_,_,rfl,Or.inr (Or.inr ⟨rfl,?_⟩),⟨_,_,_,_,_,G1.out,G2.out,G3.out,G4.out,G5.out,G6.out,rfl⟩,r6⟩⟩
       show _=Value.iface _ (.agg #[_,_,ev x5])
       rw [E5.out]
      ·go_wp2
       refine ⟨rfl,hk5.trans kk6,Or.inr ⟨⟨k,at_,hkk,d,rfl,hd⟩,fun x t hx=>?_⟩⟩
       obtain ⟨v1,v2,v3,v4,v5,q1,q2,q3,q4,q5,q6,_⟩:=hx
       obtain rfl:=Option.some.inj (G1.out.symm.trans q1)
       obtain rfl:=Option.some.inj (G2.out.symm.trans q2)
       obtain rfl:=Option.some.inj (G3.out.symm.trans q3)
       obtain rfl:=Option.some.inj (G4.out.symm.trans q4)
       obtain rfl:=Mil.Ok.unique q5 G5.out
       have hh:=hno.symm.trans q6
       cases hh
     ·go_wp2
      refine ⟨rfl,hk4.trans kk5,Or.inr ⟨⟨k,at_,hkk,d,rfl,hd⟩,fun x t hx=>?_⟩⟩
      obtain ⟨v1,v2,v3,v4,v5,q1,q2,q3,q4,q5,q6,_⟩:=hx
      obtain rfl:=Option.some.inj (G1.out.symm.trans q1)
      obtain rfl:=Option.some.inj (G2.out.symm.trans q2)
      obtain rfl:=Option.some.inj (G3.out.symm.trans q3)
      obtain rfl:=Option.some.inj (G4.out.symm.trans q4)
      exact hno v5.1 v5.2 q5
    ·go_wp2
     refine ⟨rfl,hk3.trans kk4,Or.inr ⟨⟨k,at_,hkk,d,rfl,hd⟩,fun x t hx=>?_⟩⟩
     obtain ⟨v1,v2,v3,v4,v5,q1,q2,q3,q4,q5,q6,_⟩:=hx
     obtain rfl:=Option.some.inj (G1.out.symm.trans q1)
     obtain rfl:=Option.some.inj (G2.out.symm.trans q2)
     obtain rfl:=Option.some.inj (G3.out.symm.trans q3)
     have hh:=hno.symm.trans q4
     cases hh
   ·go_wp2
    refine ⟨rfl,hk2.trans kk3,Or.inr ⟨⟨k,at_,hkk,d,rfl,hd⟩,fun x t hx=>?_⟩⟩
    obtain ⟨v1,v2,v3,v4,v5,q1,q2,q3,q4,q5,q6,_⟩:=hx
    obtain rfl:=Option.some.inj (G1.out.symm.trans q1)
    obtain rfl:=Option.some.inj (G2.out.symm.trans q2)
    have hh:=hno.symm.trans q3
    cases hh
  ·go_wp2
   refine ⟨rfl,hk1.trans kk2,Or.inr ⟨⟨k,at_,hkk,d,rfl,hd⟩,fun x t hx=>?_⟩⟩
   obtain ⟨v1,v2,v3,v4,v5,q1,q2,q3,q4,q5,q6,_⟩:=hx
   obtain rfl:=Option.some.inj (G1.out.symm.trans q1)
   have hh:=hno.symm.trans q2
   cases hh
 ·go_wp2
  refine ⟨rfl,kk1,Or.inr ⟨⟨k,at_,hkk,d,rfl,hd⟩,fun x t hx=>?_⟩⟩
  obtain ⟨v1,v2,v3,v4,v5,q1,q2,q3,q4,q5,q6,_⟩:=hx
  have hh:=hno.symm.trans q1
  cases hh
end
end Go.Proofs.YtoiajojadihpbaaGreatDoor
