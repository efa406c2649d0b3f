import Derived.Test.YtoiajojadihpbaaGreatDoorQt14
import Derived.OwnWalk
import Derived.Defers
import Derived.Recover
namespace Go.Proofs.YtoiajojadihpbaaGreatDoor
set_option maxHeartbeats 8000000
set_option maxRecDepth 100000
section
open Go.RowKit
theorem Tryz.infoStr:(Tryz.prog.info? 9).map (fun i=>(i.zero,i.size,i.bytes))=some (some (.string ⟨#[]⟩),1,16):=by kernel_rfl
theorem Kp.grown {b:Nat} {u w w':World} (h:Kp b u w) {row:Option Nat} (hg:w.grownBy w' row) (hr:∀k,row=some k->u.heap.size<=k):Kp b u w':=
 ⟨hg.os.trans h.os,hg.tape.trans h.tape,hg.output.trans h.output,Nat.le_trans h.size hg.size,fun k h1 h2=>(hg.block k (Nat.lt_of_lt_of_le h1 h.size) (fun e=>by have:=hr k e.symm;omega)).trans (h.block k h1 h2)⟩
theorem Kp.owns {b base:Nat} {w w':World} (h:Kp b w w') {e:TypeId} {size:Nat} {v:Value} {n:Nat} {xs:List Value} (ho:w.ownsRow base e size v n xs) (hb:b < base):w'.ownsRow base e size v n xs:=by
 refine⟨ho.1,?_⟩
 rcases ho.2 with hn|⟨g,cap,cur,rfl,hbg,hgg,rest⟩
 ·exact .inl hn
 ·exact .inr ⟨g,cap,cur,rfl,hbg,(h.block g (ags hgg).1 (by omega)).trans hgg,rest⟩
theorem owns_from {base base':Nat} (hb:base'<=base) {w:World} {e:TypeId} {size:Nat} {v:Value} {n:Nat} {xs:List Value} (ho:w.ownsRow base e size v n xs):w.ownsRow base' e size v n xs:=by
 refine⟨ho.1,?_⟩
 rcases ho.2 with hn|⟨g,cap,cur,rfl,hbg,rest⟩
 ·exact .inl hn
 ·exact .inr ⟨g,cap,cur,rfl,by omega,rest⟩
theorem RdS.mu_le {w:World} {b:Nat} {s:ByteArray} {st:Mil.St} (h:RdS w b s st) (hs:s.size<=4000):Mil.mu st<=4001:=by
 obtain⟨p,tp,x,hp,hR,hr,hx,hn⟩:=h
 unfold Mil.mu
 rw[hr]
 have:(s.data.toList.drop p).length<=4000:=by simp;omega
 split <;> omega
theorem owns_shape {w:World} {base:Nat} {e:TypeId} {size:Nat} {v:Value} {n:Nat} {xs:List Value} (ho:w.ownsRow base e size v n xs):∃o k c,v=.slice o k c:=by
 rcases ho.2 with ⟨h,_⟩|⟨g,cap,cur,h,_⟩
 ·exact⟨_,_,_,h⟩
 ·exact⟨_,_,_,h⟩
theorem news_one (w:World) (v:Value) (e:TypeId):∀(j:Nat) (u:Value),[v][j]?=some u->(w.alloc (.cells #[v] e)).cell? ((⟨w.heap.size,0,none⟩:Addr).add j)=some u:=by
 intro j u hj
 match j,hj with
 | 0,hj=>simp at hj;subst hj;simp[Addr.add]
theorem RdS.grown {w w':World} {b:Nat} {s:ByteArray} {st:Mil.St} (h:RdS w b s st) {row:Option Nat} (hg:w.grownBy w' row) (hr:∀k,row=some k->k≠b):RdS w' b s st:=by
 cases row with
 | none=>exact h.kept (c:=b+1) ⟨hg.os,hg.tape,hg.output,hg.size,fun k h1 _=>hg.block k h1 (fun e=>by cases e)⟩ (by omega)
 | some k=>exact h.kept (c:=k) ⟨hg.os,hg.tape,hg.output,hg.size,fun i h1 h2=>hg.block i h1 (fun e=>h2 (osi e))⟩ (fun e=>hr k rfl e.symm)
theorem owns_one {w:World} {base:Nat} (hb:base<=w.heap.size) (x:Mil.Bytes):(w.alloc (.cells #[.string (bs x)] 9)).ownsRow base 9 1 (.slice (some ⟨w.heap.size,0,none⟩) 1 1) 1 (strs [x]):=
 ⟨rfl,.inr ⟨w.heap.size,1,#[.string (bs x)],rfl,hb,han w _,Nat.le_refl _,by decide,rfl,rfl⟩⟩
theorem output_any (a:Nat->Addr) (b:Nat) (s:ByteArray) (hb:27<=b) (hs:s.size<=4000) (st:Mil.St) (w:World) (L:Laid a w) (h:RdS w b s st) :
  Calls Tryz.prog 143 #[.pointer (some ⟨b,0,none⟩)] w (ItPost (Mil.Rout st) (Mil.Bout s.size st) a b s w):=by
 have H:=hid h
 have HL:=hid L
 have hbw:Hid (b < w.heap.size):=by
  obtain⟨p,tp,x,hp,hR,_⟩:=h
  exact lt_of_cell hR.c0
 clear h L
 obtain⟨i0,hi,hz0,hz1,hz2⟩:=info_parts Tryz.infoStr
 go_enter Tryz.func143,Tryz.ntmps143
 go_wp2_with fail
 refine (name_any a b s st _ HL.out hb H.out hs).mono ?_
 rintro e w1 ⟨hk1,(⟨x1,s1,rfl,g1,r1⟩|⟨k,at_,hkk,d,rfl,hd,hno⟩)⟩
 ·have G1:=hid g1
  have R1:=hid r1
  clear g1 r1
  go_wp2_with fail
  go_loopg [3] (Mil.mu s1) (fun g s3 wr=>∃acc t,g=Mil.mu t/\Hid (wr.ownsRow w.heap.size 9 1 s3 acc.length (strs acc))/\Hid ((∀z,Mil.Rname acc t z↔Mil.Rname [x1] s1 z)/\∀k p,Mil.BadN s.size acc t k p->Mil.BadN s.size [x1] s1 k p)/\Hid (RdS wr b s t)/\Hid (Kp b w wr)/\Hid (acc.length+Mil.mu t<=4002))
  case atStart=>
   refine⟨[x1],s1,rfl,owns_one hk1.size x1,⟨fun z=>Iff.rfl,fun _ _ h=>h⟩,R1.out.kept ((Kp.refl (b+1) w1).alloc _) (by omega),hk1.alloc _,?_⟩
   have:=R1.out.mu_le hs
   show 1+_<=4002
   omega
  case round=>
   obtain⟨acc,t,hg,HO,HI,HR,HK,HM⟩:=hrel
   have HG:=hid hg
   clear hg R1 hk1
   by_cases hc:Mil.sees t Mil.sComma=true
   ·have HC:=hid hc
    have HK3:Hid (t.tok.kind≠0):=by show _≠_;rw[(Mil.sees_kind3 hc).1];decide
    clear hc
    go_wp2_with fail
    refine (takes_yes a b s t (bs Mil.sComma) _ (HL.out.kept HK.out hb) hb HR.out hs HC.out).mono ?_
    rintro e w2 ⟨kk2,(⟨s2,rfl,g2,r2⟩|⟨k,at_,hkk,d,rfl,hd,hno⟩)⟩
    ·have hk2:=HK.out.trans kk2
     have G2:=hid g2
     have M2:Hid (Mil.mu s2 < Mil.mu t):=Mil.adv_mu g2 HK3.out
     have O2:Hid (w2.ownsRow w.heap.size 9 1 u3 acc.length (strs acc)):=kk2.owns HO.out hbw.out
     clear g2 kk2
     go_wp2_with fail
     refine (name_any a b s s2 _ (HL.out.kept hk2 hb) hb r2 hs).mono ?_
     rintro e w3 ⟨kk3,(⟨x3,s3,rfl,g3,r3⟩|⟨k,at_,hkk,d,rfl,hd,hno⟩)⟩
     ·have hk3:=hk2.trans kk3
      have G3:=hid g3
      have M3:Hid (Mil.mu s3 < Mil.mu t):=Nat.lt_trans (Mil.name_mu g3) M2.out
      have O3:Hid (w3.ownsRow w.heap.size 9 1 u3 acc.length (strs acc)):=kk3.owns O2.out hbw.out
      clear g3 kk3 O2
      have hlen:acc.length+1<=4003:=by have:=HM.out;omega
      have c4:(acc.length+1)*16<=140737488355328:=by omega
      have c5:w.heap.size<=(w3.alloc (.cells #[.string (bs x3)] 9)).heap.size:=Nat.le_trans hk3.size (by simp)
      go_wp2_with (at_builtin;refine wpList_append_own _ rfl _ _ 119 rfl w.heap.size 9 i0 (.string ⟨#[]⟩) 1 16 Tryz.underlying119 hi hz0 hz1 hz2 rfl (by decide) u3 acc.length (strs acc) rfl (O3.out.alloc _) ⟨w3.heap.size,0,none⟩ 1 1 [.string (bs x3)] rfl rfl (news_one w3 _ _) (by intro u hu;simp at hu;subst hu;rfl) (by unfold maxLen;omega) c4 c5 ?_;intro v4 w4 O4 hg4 hn4)
      go_roundg (Mil.mu s3)
      case measure=>have:=HG.out;have:=M3.out;omega
      case rel=>
       have hlt:=O3.out.lt
       refine⟨acc++[x3],s3,rfl,?_,⟨fun z=>Iff.trans (Mil.name_go HC.out G2.out G3.out).symm (HI.out.1 z),fun k p h=>HI.out.2 k p (Mil.badN_go HC.out (Or.inr ⟨_,G2.out,Or.inr ⟨_,G3.out,h⟩⟩))⟩,(r3.kept ((Kp.refl (b+1) w3).alloc _) (by omega)).grown hg4 ?_,(hk3.alloc _).grown hg4 (fun k hk=>(hlt k hk).1),?_⟩
       ·show w4.ownsRow _ _ _ _ (acc++[x3]).length (strs (acc++[x3]))
        rw[List.length_append,show strs (acc++[x3])=strs acc++[.string (bs x3)] from by simp[strs]]
        exact O4
       ·intro k hk
        have:=(hlt k hk).1
        have:=hbw.out
        omega
       ·show (acc++[x3]).length+_<=_
        rw[List.length_append]
        have:=HM.out
        have:=M3.out
        simp only[List.length_singleton]
        omega
     ·have HNO:=hid hno
      clear hno
      go_wp2
      exact⟨rfl,hk2.trans kk3,Or.inr ⟨k,at_,hkk,d,rfl,hd,Or.inr ⟨_,G1.out,Or.inl (HI.out.2 _ _ (Mil.badN_go HC.out (Or.inr ⟨_,G2.out,Or.inl HNO.out⟩)))⟩⟩⟩
    ·have HNO:=hid hno
     clear hno
     go_wp2
     exact⟨rfl,HK.out.trans kk2,Or.inr ⟨k,at_,hkk,d,rfl,hd,Or.inr ⟨_,G1.out,Or.inl (HI.out.2 _ _ (Mil.badN_go HC.out (Or.inl HNO.out)))⟩⟩⟩
   ·have HC:Hid (Mil.sees t (bs Mil.sComma).data.toList=false):=Bool.eq_false_iff.2 hc
    clear hc
    go_wp2_with fail
    refine (takes_no b s t (bs Mil.sComma) _ HR.out HC.out).mono ?_
    rintro e w2 ⟨rfl,hw⟩
    rw[hw]
    clear hw w2
    go_wp2_with fail
    refine (want_any a b s t (bs Mil.sSemi) _ (HL.out.kept HK.out hb) hb HR.out hs).mono ?_
    rintro e w3 ⟨kk3,(⟨s3,rfl,g3,r3⟩|⟨k,at_,hkk,d,rfl,hd,hno⟩)⟩
    ·have G3:=hid g3
     clear g3
     obtain⟨o3,n3,c3,rfl⟩:=owns_shape HO.out
     go_wp2
     go_ret
     refine⟨HK.out.trans kk3,Or.inl ⟨⟨2,[],0,0,acc,Mil.eNil⟩,s3,_,_,rfl,Or.inr (Or.inl ⟨rfl,_,rfl,?_⟩),⟨_,_,G1.out,(HI.out.1 _).1 (Mil.name_stop HC.out),G3.out,rfl⟩,r3⟩⟩
     exact owns_from hbw.out (kk3.owns HO.out hbw.out)
    ·have HNO:=hid hno
     clear hno
     go_wp2
     exact⟨rfl,HK.out.trans kk3,Or.inr ⟨k,at_,hkk,d,rfl,hd,Or.inr ⟨_,G1.out,Or.inr ⟨_,(HI.out.1 _).1 (Mil.name_stop HC.out),HNO.out⟩⟩⟩⟩
 ·go_wp2
  exact⟨rfl,hk1,Or.inr ⟨k,at_,hkk,d,rfl,hd,Or.inl hno⟩⟩
theorem iv_kept {w w':World} {b:Nat} {i:Mil.It} {v:Value} (h:Iv w b i v) (k:Kp b w w'):Iv w' b i v:=by
 rcases h with h|⟨h1,r,h2,h3⟩|h
 ·exact Or.inl h
 ·exact Or.inr (Or.inl ⟨h1,r,h2,k.owns h3 (by omega)⟩)
 ·exact Or.inr (Or.inr h)
theorem mitem_in (a:Nat->Addr) (b:Nat) (s:ByteArray) (hb:27<=b) (hs:s.size<=4000) (st:Mil.St) (w:World) (L:Laid a w) (h:RdS w b s st) (hy:Mil.sees st Mil.wInput=true) :
  Calls Tryz.prog 119 #[.pointer (some ⟨b,0,none⟩)] w (ItPost (Mil.Rit st) (Mil.BadI s.size st) a b s w):=by
 have H:=hid h
 have HL:=hid L
 have HI:=hid hy
 clear h L hy
 go_enter Tryz.func119,Tryz.ntmps119
 go_wp2_with fail
 refine (takes_yes a b s st (bs Mil.wInput) _ HL.out hb H.out hs HI.out).mono ?_
 rintro e w1 ⟨hk1,(⟨s1,rfl,g1,r1⟩|⟨k,at_,hkk,d,rfl,hd,hno⟩)⟩
 ·have G1:=hid g1
  clear g1
  go_wp2_with fail
  refine (input_any a b s hb hs s1 _ (HL.out.kept hk1 hb) r1).mono ?_
  rintro e w2 ⟨hk2,(⟨x,s2,ty,y,rfl,ea,g2,r2⟩|⟨k,at_,hkk,d,rfl,hd,hno⟩)⟩
  ·have EA:=hid ea
   have G2:=hid g2
   clear ea g2
   go_wp2
   go_ret
   exact⟨hk1.trans hk2,Or.inl ⟨x,s2,ty,y,rfl,EA.out,(Mil.it_in HI.out _ _).2 ⟨s1,G1.out,G2.out⟩,r2⟩⟩
  ·have HNO:=hid hno
   clear hno
   go_wp2
   exact⟨rfl,hk1.trans hk2,Or.inr ⟨k,at_,hkk,d,rfl,hd,Mil.badI_in HI.out (Or.inr ⟨_,G1.out,HNO.out⟩)⟩⟩
 ·have HNO:=hid hno
  clear hno
  go_wp2
  exact⟨rfl,hk1,Or.inr ⟨k,at_,hkk,d,rfl,hd,Mil.badI_in HI.out (Or.inl HNO.out)⟩⟩
theorem mitem_out (a:Nat->Addr) (b:Nat) (s:ByteArray) (hb:27<=b) (hs:s.size<=4000) (st:Mil.St) (w:World) (L:Laid a w) (h:RdS w b s st) (hy:Mil.sees st Mil.wOutput=true) :
  Calls Tryz.prog 119 #[.pointer (some ⟨b,0,none⟩)] w (ItPost (Mil.Rit st) (Mil.BadI s.size st) a b s w):=by
 have H:=hid h
 have HL:=hid L
 have HI:=hid hy
 have N0:Hid (Mil.sees st (bs Mil.wInput).data.toList=false):=Mil.sees_other hy (by decide)
 clear h L hy
 go_enter Tryz.func119,Tryz.ntmps119
 go_wp2_with fail
 refine (takes_no b s st (bs Mil.wInput) _ H.out N0.out).mono ?_
 rintro e w1 ⟨rfl,hw⟩
 rw[hw]
 clear hw w1
 go_wp2_with fail
 refine (takes_yes a b s st (bs Mil.wOutput) _ HL.out hb H.out hs HI.out).mono ?_
 rintro e w1 ⟨hk1,(⟨s1,rfl,g1,r1⟩|⟨k,at_,hkk,d,rfl,hd,hno⟩)⟩
 ·have G1:=hid g1
  clear g1
  go_wp2_with fail
  refine (output_any a b s hb hs s1 _ (HL.out.kept hk1 hb) r1).mono ?_
  rintro e w2 ⟨hk2,(⟨x,s2,ty,y,rfl,ea,g2,r2⟩|⟨k,at_,hkk,d,rfl,hd,hno⟩)⟩
  ·have EA:=hid ea
   have G2:=hid g2
   clear ea g2
   go_wp2
   go_ret
   exact⟨hk1.trans hk2,Or.inl ⟨x,s2,ty,y,rfl,EA.out,(Mil.it_out HI.out _ _).2 ⟨s1,G1.out,G2.out⟩,r2⟩⟩
  ·have HNO:=hid hno
   clear hno
   go_wp2
   exact⟨rfl,hk1.trans hk2,Or.inr ⟨k,at_,hkk,d,rfl,hd,Mil.badI_out HI.out (Or.inr ⟨_,G1.out,HNO.out⟩)⟩⟩
 ·have HNO:=hid hno
  clear hno
  go_wp2
  exact⟨rfl,hk1,Or.inr ⟨k,at_,hkk,d,rfl,hd,Mil.badI_out HI.out (Or.inl HNO.out)⟩⟩
theorem mitem_eq (a:Nat->Addr) (b:Nat) (s:ByteArray) (hb:27<=b) (hs:s.size<=4000) (st:Mil.St) (w:World) (L:Laid a w) (h:RdS w b s st) (n0:Mil.sees st Mil.wInput=false) (n1:Mil.sees st Mil.wOutput=false) :
  Calls Tryz.prog 119 #[.pointer (some ⟨b,0,none⟩)] w (ItPost (Mil.Rit st) (Mil.BadI s.size st) a b s w):=by
 have H:=hid h
 have HL:=hid L
 have N0:=hid n0
 have N1:=hid n1
 clear h L n0 n1
 go_enter Tryz.func119,Tryz.ntmps119
 go_wp2_with fail
 refine (takes_no b s st (bs Mil.wInput) _ H.out N0.out).mono ?_
 rintro e w1 ⟨rfl,hw⟩
 rw[hw]
 clear hw w1
 go_wp2_with fail
 refine (takes_no b s st (bs Mil.wOutput) _ H.out N1.out).mono ?_
 rintro e w1 ⟨rfl,hw⟩
 rw[hw]
 clear hw w1
 go_wp2_with fail
 refine (equation_any a b s hb hs st _ HL.out H.out).mono ?_
 rintro e w2 ⟨hk2,(⟨x,s2,ty,y,rfl,ea,g2,r2⟩|⟨k,at_,hkk,d,rfl,hd,hno⟩)⟩
 ·have EA:=hid ea
  have G2:=hid g2
  clear ea g2
  go_wp2
  go_ret
  exact⟨hk2,Or.inl ⟨x,s2,ty,y,rfl,EA.out,(Mil.it_eq N0.out N1.out _ _).2 G2.out,r2⟩⟩
 ·have HNO:=hid hno
  clear hno
  go_wp2
  exact⟨rfl,hk2,Or.inr ⟨k,at_,hkk,d,rfl,hd,Mil.badI_eq N0.out N1.out HNO.out⟩⟩
theorem mitem_any (a:Nat->Addr) (b:Nat) (s:ByteArray) (hb:27<=b) (hs:s.size<=4000) (st:Mil.St) (w:World) (L:Laid a w) (h:RdS w b s st) :
  Calls Tryz.prog 119 #[.pointer (some ⟨b,0,none⟩)] w (ItPost (Mil.Rit st) (Mil.BadI s.size st) a b s w):=by
 by_cases n0:Mil.sees st Mil.wInput=true
 ·exact mitem_in a b s hb hs st w L h n0
 by_cases n1:Mil.sees st Mil.wOutput=true
 ·exact mitem_out a b s hb hs st w L h n1
 exact mitem_eq a b s hb hs st w L h (Bool.eq_false_iff.2 n0) (Bool.eq_false_iff.2 n1)
end
section
open Go.RowKit
theorem as_diag (v:Value) (w:World):(Instr.typeAssert (.iface 181 v) 20 181 true).run Tryz.prog w=.ok (.tuple #[v,.bool true]) w:=by kernel_rfl
theorem diag_not_nil (v:Value) (w:World):(binOp BinOp.eql 20 (.iface 181 v) .nilIface).run Tryz.prog w=.ok (.bool false) w:=by kernel_rfl
theorem catch_idle (p q:Addr) (w:World) :
  CallsD Tryz.prog 117 #[.pointer (some p),.pointer (some q)] .returning w fun e u' w'=>e=.returned (.tuple #[])/\u'=.returning/\w'=w:=by
 refine callsD_of_wpS Tryz.func117 rfl fun c₀ cs hu=>?_
 apply wpS_seq
 apply wpS_region
 simp[wpOpsS,go_sem,recoverD,hu,Tryz.ntmps117,Exit.thenS]
 refine wpS_of_wp ?_
 go_wp2
 cases c₀
 simp_all [bodyPostS,results,Tryz.results117]
theorem catch_hit (p q:Addr) (v0 v1:Value) (d:Nat) (w:World) (hp:w.cell? p=some v0) (hq:w.cell? q=some v1) (hfp:w.frozen? p=false) (hfq:w.frozen? q=false) (hpq:p≠q) :
  CallsD Tryz.prog 117 #[.pointer (some p),.pointer (some q)] (.panicking [{ v:=.iface 181 (.pointer (some ⟨d,0,none⟩)),recovered:=false }]) w fun e u' w'=>
   e=.returned (.tuple #[])/\u'=.panicking [{ v:=.iface 181 (.pointer (some ⟨d,0,none⟩)),recovered:=true }]/\w'=(w.setCell p (.slice none 0 0)).setCell q (.pointer (some ⟨d,0,none⟩)):=by
 have h1:=as_diag
 have h2:=diag_not_nil
 refine callsD_of_wpS Tryz.func117 rfl fun c₀ cs hu=>?_
 apply wpS_seq
 apply wpS_region
 simp[wpOpsS,go_sem,recoverD,hu,Tryz.ntmps117,Exit.thenS]
 refine wpS_of_wp ?_
 change Code.wp _ _ _ { tmps:=#[.pointer (some p),.pointer (some q),undef,undef,undef,.iface 181 (.pointer (some ⟨d,0,none⟩)),undef,undef,undef,undef,undef,undef],defers:=[] } w
 go_wp2
 simp[bodyPostS,results,Tryz.results117]
end
section
open Go.RowKit
namespace Mil
theorem names_mu:∀(n:Nat) (acc:List Bytes) (s:St) (x:List Bytes×St),pnames n acc s=some x->mu x.2<=mu s
 | 0,_,_,_,h=>by cases h
 | n+1,acc,s,x,h=>by
  rw[pnames] at h
  split at h
  ·obtain⟨s1,h1,h⟩:=obs h
   obtain⟨y,h2,h⟩:=obs h
   have:=names_mu n _ _ _ h
   have:=adv_le h1
   have:=name_mu h2
   omega
  ·obtain rfl:=osi h
   exact Nat.le_refl _
theorem rit_mu {s:St} {i:It} {t:St} (h:Rit s i t):mu t < mu s:=by
 by_cases n0:sees s wInput=true
 ·obtain⟨s1,h1,x,s3,y,s5,k,h2,h3,h4,h5,h6,h7,_⟩:=(it_in n0 i t).1 h
  have a1:=adv_mu h1 (by rw[(sees_kind3 n0).1];decide)
  have a2:=name_mu h2
  have a3:=want_mu h3
  have a5:=want_mu h5
  have a6:=number_mu h6
  have a7:=want_mu h7
  have a4:mu y.2<=mu s3:=by
   unfold ftype at h4
   split at h4
   ·obtain⟨q,hq,rfl⟩:=oms h4;exact adv_le hq
   ·split at h4
    ·obtain⟨q,hq,rfl⟩:=oms h4;exact adv_le hq
    ·cases h4
  omega
 ·by_cases n1:sees s wOutput=true
  ·obtain⟨s1,h1,x,l,h2,h3,h7,_⟩:=(it_out n1 i t).1 h
   have a1:=adv_mu h1 (by rw[(sees_kind3 n1).1];decide)
   have a2:=name_mu h2
   have a7:=want_mu h7
   have a3:mu l.2<=mu x.2:=by
    obtain⟨n,hn⟩:=h3
    exact names_mu n _ _ _ hn
   omega
  ·obtain⟨x,s3,y,s5,k,h2,h3,h4,h5,h6,h7,_⟩:=(it_eq (Bool.eq_false_iff.2 n0) (Bool.eq_false_iff.2 n1) i t).1 h
   have a2:=name_mu h2
   have a3:=want_mu h3
   have a5:=want_mu h5
   have a6:=ok_mu h6
   have a7:=want_mu h7
   have a4:mu y.2<=mu s3:=by
    unfold ftype at h4
    split at h4
    ·obtain⟨q,hq,rfl⟩:=oms h4;exact adv_le hq
    ·split at h4
     ·obtain⟨q,hq,rfl⟩:=oms h4;exact adv_le hq
     ·cases h4
   omega
def Rprog' (b:Bytes) (l:List It):Prop:=∃s,adv' b 0=some s/\∃n,pprog n [] s=some l
def Rprog (acc:List It) (s:St) (l:List It):Prop:=∃n,pprog n acc s=some l
theorem Rprog.unique {acc:List It} {s:St} {x y:List It} (h:Rprog acc s x) (k:Rprog acc s y):x=y:=by
 obtain⟨n,hn⟩:=h
 obtain⟨m,hm⟩:=k
 have h1:=pprog_le n (n+m) acc s x (by omega) hn
 have h2:=pprog_le m (n+m) acc s y (by omega) hm
 exact osi (h1.symm.trans h2)
theorem prog_stop {acc:List It} {s:St} (h:s.tok.kind=0):Rprog acc s acc:=⟨1,by rw[pprog,if_pos h]⟩
theorem prog_go {acc:List It} {s t:St} {i:It} (h:s.tok.kind≠0) (h6:acc.length≠60) (hi:Rit s i t) (l:List It):Rprog acc s l↔Rprog (acc++[i]) t l:=by
 constructor
 ·rintro ⟨n,hn⟩
  cases n with
  | zero=>cases hn
  | succ n=>
   rw[pprog,if_neg h,if_neg h6] at hn
   obtain⟨x,h1,h2⟩:=obs hn
   have:=Rit.unique ⟨n,h1⟩ hi
   obtain⟨e1,e2⟩:=Prod.mk.inj this
   subst e1 e2
   exact⟨n,h2⟩
 ·rintro ⟨n,hn⟩
  obtain⟨m,hm⟩:=hi
  refine⟨n+m+1,?_⟩
  rw[pprog,if_neg h,if_neg h6,pitem_le (show m<=n+m by omega) hm,Option.bind_some]
  exact pprog_le n (n+m) _ _ _ (by omega) hn
theorem fault_size {s:ByteArray} {k:Nat} {p:Int} (h:advZ' s.size s.data.toList 0=.bad k p\/∃st,adv' s.data.toList 0=some st/\BadP s.size [] st k p):Fault s.data.toList k p:=by
 unfold Fault
 rw[show s.data.toList.length=s.size from by simp]
 exact h
theorem fault_no {b:Bytes} {k:Nat} {p:Int} (h:Fault b k p) (l:List It):¬Rprog' b l:=by
 rintro ⟨s,h1,n,h2⟩
 rcases h with h|⟨s',h3,m,h4⟩
 ·have:=imz_adv' b.length _ _ _ h1
  rw[this] at h;cases h
 ·obtain rfl:=osi (h1.symm.trans h3)
  have h5:=imz_pprog b.length (n+m) [] s l (pprog_le n (n+m) _ _ _ (by omega) h2)
  have h6:=h4 (n+m) (by omega)
  have h7:pprogZ b.length (n+m) [] s=.bad k p:=h6
  rw[h5] at h7;cases h7
end Mil
theorem Tryz.infoItemM:(Tryz.prog.info? 115).map (fun i=>(i.zero,i.size,i.bytes))=some (some .nilIface,1,16):=by kernel_rfl
def Ivs (w:World) (b:Nat) (l:List Mil.It) (vs:List Value):Prop:=l.length=vs.length/\∀(k:Nat) (i:Mil.It) (v:Value),l[k]?=some i->vs[k]?=some v->Iv w b i v
def Row (w:World) (b:Nat) (l:List Mil.It) (v:Value):Prop:=∃vs,w.ownsRow (b+1) 115 1 v l.length vs/\Ivs w b l vs
def RiPost (r:Mil.Bytes) (a:Nat->Addr) (w:World) (e:Ending) (w':World):Prop:=
 Below w.heap.size w w' /\
 ((∃l b o n c,w.heap.size<=b/\e=.returned (.tuple #[.slice o n c,.pointer none])/\Mil.Rprog' r l/\Row w' b l (.slice o n c)) \/
  (∃k at_ d,(k=1\/k=2\/k=3\/k=4)/\e=.returned (.tuple #[.slice none 0 0,.pointer (some ⟨d,0,none⟩)])/\w'.heap[d]?=some (.cells #[.int .i64 at_,errV (a k)] 187 (0,0))/\Mil.Fault r k at_))
abbrev D0 (B:Nat):List Deferred:=[{ target:=.fn (.func 117) #[.pointer (some ⟨B,0,none⟩),.pointer (some ⟨B+1,0,none⟩)],args:=#[] }]
structure Vars (w:World) (B:Nat) (v0 v1:Value):Prop where
 b0:w.heap[B]?=some (.cells #[v0] 111 (0,0))
 b1:w.heap[B+1]?=some (.cells #[v1] 181 (0,0))
theorem Vars.c0 {w:World} {B:Nat} {v0 v1:Value} (h:Vars w B v0 v1):w.cell? ⟨B,0,none⟩=some v0:=by
 rw[cor w B 0 _ _ _ h.b0];rfl
theorem Vars.c1 {w:World} {B:Nat} {v0 v1:Value} (h:Vars w B v0 v1):w.cell? ⟨B+1,0,none⟩=some v1:=by
 rw[cor w (B+1) 0 _ _ _ h.b1];rfl
theorem Vars.f0 {w:World} {B:Nat} {v0 v1:Value} (h:Vars w B v0 v1):w.frozen? ⟨B,0,none⟩=false:=by
 simp[World.frozen?,h.b0]
theorem Vars.f1 {w:World} {B:Nat} {v0 v1:Value} (h:Vars w B v0 v1):w.frozen? ⟨B+1,0,none⟩=false:=by
 simp[World.frozen?,h.b1]
theorem Vars.kept {w w':World} {B b:Nat} {v0 v1:Value} (h:Vars w B v0 v1) (k:Kp b w w') (hb:B+2<=b):Vars w' B v0 v1:=
 ⟨(k.block B (ags h.b0).1 (by omega)).trans h.b0,(k.block (B+1) (ags h.b1).1 (by omega)).trans h.b1⟩
theorem leaves_thrown (r:Mil.Bytes) (a:Nat->Addr) (w w1:World) (tm:Array Value) (h2:tm[2]?=some (.pointer (some ⟨w.heap.size,0,none⟩))) (h3:tm[3]?=some (.pointer (some ⟨w.heap.size+1,0,none⟩))) (v0 v1:Value)
  (V:Vars w1 w.heap.size v0 v1) (hb:Below w.heap.size w w1) (k:Nat) (at_:Int) (d:Nat) (hkk:k=1\/k=2\/k=3\/k=4) (hd:w1.heap[d]?=some (.cells #[.int .i64 at_,errV (a k)] 187 (0,0))) (hno:Mil.Fault r k at_) :
  bodyPostD Tryz.prog Tryz.f85 (RiPost r a w) (Exit.panic [{ v:=.iface 181 (.pointer (some ⟨d,0,none⟩)),recovered:=false }]) { tmps:=tm,defers:=D0 w.heap.size } w1:=by
 refine leaves_cons (f:=117) (args:=#[.pointer (some ⟨w.heap.size,0,none⟩),.pointer (some ⟨w.heap.size+1,0,none⟩)]) (by simp) (by simp[go_sem]) ?_
 refine (catch_hit ⟨w.heap.size,0,none⟩ ⟨w.heap.size+1,0,none⟩ v0 v1 d w1 V.c0 V.c1 V.f0 V.f1 (by simp)).mono ?_
 rintro e u' w'' ⟨rfl,rfl,rfl⟩
 have hd0:d≠w.heap.size:=by
  rintro rfl
  rw[V.b0] at hd
  cases hd
 have hd1:d≠w.heap.size+1:=by
  rintro rfl
  rw[V.b1] at hd
  cases hd
 have e0:(w1.setCell ⟨w.heap.size,0,none⟩ (.slice none 0 0)).cell? ⟨w.heap.size,0,none⟩=some (.slice none 0 0):=World.cell?_setCell_same _ _ _ V.c0
 have e1:((w1.setCell ⟨w.heap.size,0,none⟩ (.slice none 0 0)).setCell ⟨w.heap.size+1,0,none⟩ (.pointer (some ⟨d,0,none⟩))).cell? ⟨w.heap.size+1,0,none⟩=some (.pointer (some ⟨d,0,none⟩)):=
  World.cell?_setCell_same (w1.setCell ⟨w.heap.size,0,none⟩ (.slice none 0 0)) _ _ ((World.cell?_setCell_other _ _ ⟨w.heap.size+1,0,none⟩ _ (by simp)).trans V.c1)
 simp[Leaves,settle,results,Tryz.results85,go_sem,h2,h3,e0,e1]
 refine⟨(hb.setCell nlr _).setCell (p:=⟨w.heap.size+1,0,none⟩) (Nat.le_succ _) _,Or.inr ⟨k,at_,d,hkk,rfl,?_,hno⟩⟩
 rw[bhs _ _ _ d hd1,bhs _ _ _ d hd0]
 exact hd
theorem leaves_done (r:Mil.Bytes) (a:Nat->Addr) (w w1:World) (tm:Array Value) (h2:tm[2]?=some (.pointer (some ⟨w.heap.size,0,none⟩))) (h3:tm[3]?=some (.pointer (some ⟨w.heap.size+1,0,none⟩))) (o:Option Addr) (n c:Nat)
  (V:Vars w1 w.heap.size (.slice o n c) (.pointer none)) (hb:Below w.heap.size w w1) (l:List Mil.It) (b:Nat) (hwb:w.heap.size<=b) (hl:Mil.Rprog' r l) (hR:Row w1 b l (.slice o n c)) :
  Leaves Tryz.prog Tryz.f85 tm (RiPost r a w) (D0 w.heap.size) .returning w1:=by
 refine leaves_cons (f:=117) (args:=#[.pointer (some ⟨w.heap.size,0,none⟩),.pointer (some ⟨w.heap.size+1,0,none⟩)]) (by simp) (by simp[go_sem]) ?_
 refine (catch_idle ⟨w.heap.size,0,none⟩ ⟨w.heap.size+1,0,none⟩ w1).mono ?_
 rintro e u' w'' ⟨rfl,rfl,rfl⟩
 have e0:=V.c0
 have e1:=V.c1
 simp[Leaves,settle,results,Tryz.results85,go_sem,h2,h3,e0,e1]
 exact⟨hb,Or.inl ⟨l,b,o,n,c,hwb,rfl,hl,hR⟩⟩
theorem leaves_tm {fn:Func} {tm tm':Array Value} {R:Ending->World->Prop} (h:results fn tm=results fn tm'):∀(ds:List Deferred) (u:FrameMode) (w:World),Leaves Tryz.prog fn tm R ds u w->Leaves Tryz.prog fn tm' R ds u w:=by
 intro ds
 induction ds with
 | nil=>
  intro u w hl
  cases u with
  | returning=>obtain⟨v,h1,h2⟩:=hl;exact⟨v,by rw[<-h];exact h1,h2⟩
  | panicking c=>exact hl
  | run=>exact hl
 | cons d ds ih=>
  rintro u w ⟨hu,fv,cap,f,args,h1,h2,h3⟩
  refine⟨hu,fv,cap,f,args,h1,h2,h3.mono ?_⟩
  intro e u' w' hr
  cases e with
  | returned v=>exact ih _ _ hr
  | panicked c=>exact ih _ _ hr
  | outgrown=>exact hr
theorem bp_put {R:Ending->World->Prop} {c:List PanicEntry} {a:Act} {i:Nat} {v:Value} {w:World} (h2:i≠2) (h3:i≠3) (h:bodyPostD Tryz.prog Tryz.f85 R (.panic c) (a.put (some i) v) w) :
  bodyPostD Tryz.prog Tryz.f85 R (.panic c) a w:=by
 refine leaves_tm ?_ _ _ _ h
 show results _ (a.tmps.setIfInBounds i v)=_
 simp[results,Tryz.results85,Array.getElem?_setIfInBounds,h2,h3]
theorem Vars.set0 {w:World} {B:Nat} {v0 v1:Value} (h:Vars w B v0 v1) (v:Value):Vars (w.setCell ⟨B,0,none⟩ v) B v v1:=by
 refine⟨?_,(bhs _ _ _ (B+1) (by simp)).trans h.b1⟩
 show (w.heap.modify B _)[B]?=_
 rw[Array.getElem?_modify,if_pos rfl,h.b0];rfl
theorem Vars.set1 {w:World} {B:Nat} {v0 v1:Value} (h:Vars w B v0 v1) (v:Value):Vars (w.setCell ⟨B+1,0,none⟩ v) B v0 v:=by
 refine⟨(bhs _ _ _ B (by simp)).trans h.b0,?_⟩
 show (w.heap.modify (B+1) _)[B+1]?=_
 rw[Array.getElem?_modify,if_pos rfl,h.b1];rfl
theorem Row.kept {w w':World} {b c:Nat} {l:List Mil.It} {v:Value} (h:Row w b l v) (hk:Kp c w w') (hc:c<=b):Row w' b l v:=by
 obtain⟨vs,h1,h2,h3⟩:=h
 refine⟨vs,hk.owns h1 (by omega),h2,fun k i u e1 e2=>?_⟩
 rcases h3 k i u e1 e2 with h|⟨g1,r,g2,g3⟩|h
 ·exact Or.inl h
 ·exact Or.inr (Or.inl ⟨g1,r,g2,hk.owns g3 (by omega)⟩)
 ·exact Or.inr (Or.inr h)
theorem Row.shape {w:World} {b:Nat} {l:List Mil.It} {v:Value} (h:Row w b l v):∃o c,v=.slice o l.length c:=by
 obtain⟨vs,h1,_⟩:=h
 rcases h1.2 with ⟨h,h'⟩|⟨g,cap,cur,h,_⟩
 ·exact⟨none,0,by rw[h,h']⟩
 ·exact⟨_,_,h⟩
theorem Row.nil (w:World) (b:Nat):Row w b [] (.slice none 0 0):=⟨[],World.ownsRow_nil _ _ _ _,rfl,fun k i v h=>by simp at h⟩
theorem iv_grown {w6 w7:World} {b:Nat} {i:Mil.It} {v:Value} (h:Iv w6 b i v) {row:Option Nat} (hg:w6.grownBy w7 row) (hrow:∀k,row=some k->∃cur,w6.heap[k]?=some (.cells cur 115 (0,0))):Iv w7 b i v:=by
 rcases h with h|⟨h1,r,h2,h3⟩|h
 ·exact Or.inl h
 ·refine Or.inr (Or.inl ⟨h1,r,h2,h3.1,?_⟩)
  rcases h3.2 with hn|⟨g,cap,cur,rfl,hbg,hgg,rest⟩
  ·exact .inl hn
  ·refine .inr ⟨g,cap,cur,rfl,hbg,(hg.block g (ags hgg).1 (fun e=>?_)).trans hgg,rest⟩
   obtain⟨cur',hc⟩:=hrow g e.symm
   rw[hgg] at hc
   cases hc
 ·exact Or.inr (Or.inr h)
theorem Row.more {w5 w7:World} {b:Nat} {acc:List Mil.It} {v7 x:Value} {vs:List Value} {i:Mil.It} (hv:Ivs w5 b acc vs) (iv:Iv w5 b i x) (k:∀i v,Iv w5 b i v->Iv w7 b i v)
  (O:w7.ownsRow (b+1) 115 1 v7 (acc.length+1) (vs++[x])):Row w7 b (acc++[i]) v7:=by
 refine⟨vs++[x],by rw[List.length_append];exact O,by rw[List.length_append,List.length_append,hv.1];rfl,fun j i' u e1 e2=>?_⟩
 refine k _ _ ?_
 rcases Nat.lt_or_ge j acc.length with h|h
 ·rw[List.getElem?_append_left h] at e1
  rw[List.getElem?_append_left (by rw[<-hv.1];exact h)] at e2
  exact hv.2 j i' u e1 e2
 ·rw[List.getElem?_append_right h] at e1
  rw[List.getElem?_append_right (by rw[<-hv.1];exact h)] at e2
  have h0:j - acc.length=0:=by
   rcases Nat.eq_zero_or_pos (j - acc.length) with h'|h'
   ·exact h'
   ·rw[List.getElem?_eq_none (by simp;omega)] at e1;cases e1
  rw[h0] at e1
  rw[<-hv.1,h0] at e2
  obtain rfl:=osi e1
  obtain rfl:=osi e2
  exact iv
theorem grown_kp {w6 w7:World} {row:Option Nat} {m:Nat} (hg:w6.grownBy w7 row) (hr:∀k,row=some k->m<=k):∃c,m<=c/\Kp c w6 w7:=by
 cases row with
 | none=>exact⟨m,Nat.le_refl _,hg.os,hg.tape,hg.output,hg.size,fun k h1 _=>hg.block k h1 (fun e=>by cases e)⟩
 | some k=>exact⟨k,hr k rfl,hg.os,hg.tape,hg.output,hg.size,fun j h1 h2=>hg.block j h1 (fun e=>h2 (osi e))⟩
structure Round (a:Nat->Addr) (s:ByteArray) (w:World) (acc:List Mil.It) (t:Mil.St) (u:Value) (w8:World):Prop where
 v:Vars w8 w.heap.size u (.pointer none)
 r:Row w8 (w.heap.size+1+1) acc u
 d:RdS w8 (w.heap.size+1+1) s t
 b:Below w.heap.size w w8
 l:Laid a w8
theorem round_end (a:Nat->Addr) (s:ByteArray) (w w5 w7:World) (acc:List Mil.It) (i:Mil.It) (t:Mil.St) (v0 v7 x:Value) (vs:List Value) (hG:27<=w.heap.size) (V5:Vars w5 w.heap.size v0 (.pointer none)) (B5:Below w.heap.size w w5) (L5:Laid a w5)
  (R5:RdS w5 (w.heap.size+1+1) s t) (HVS:Ivs w5 (w.heap.size+1+1) acc vs) (IV:Iv w5 (w.heap.size+1+1) i x)
  (O6:(w5.alloc (.cells #[x] 115)).ownsRow (w.heap.size+1+1+1) 115 1 v0 acc.length vs) (hg7:(w5.alloc (.cells #[x] 115)).grownBy w7 v0.ownBlock)
  (O7:w7.ownsRow (w.heap.size+1+1+1) 115 1 v7 (acc.length+1) (vs++[x])) :
  Vars w7 w.heap.size v0 (.pointer none)/\Round a s w (acc++[i]) t v7 (w7.setCell ⟨w.heap.size,0,none⟩ v7):=by
 have hlt:∀k,v0.ownBlock=some k->w.heap.size+1+1+1<=k:=fun k hk=>(O6.lt k hk).1
 obtain⟨c,hc,kc⟩:=grown_kp hg7 hlt
 have ka:Kp c w5 (w5.alloc (.cells #[x] 115)):=(Kp.refl c w5).alloc _
 have k7:=ka.trans kc
 have hV:=V5.kept k7 (by omega)
 have hrow:∀k,v0.ownBlock=some k->∃cur,(w5.alloc (.cells #[x] 115)).heap[k]?=some (.cells cur 115 (0,0)):=by
  intro k hk
  rcases O6.2 with ⟨rfl,_⟩|⟨g,cap,cur,rfl,_,hgg,_⟩
  ·cases hk
  ·obtain rfl:g=k:=osi hk
   exact⟨cur,hgg⟩
 have hR:Row w7 (w.heap.size+1+1) (acc++[i]) v7:=Row.more HVS IV (fun i v h=>iv_grown (iv_kept h ((Kp.refl _ w5).alloc _)) hg7 hrow) O7
 have kB:Kp w.heap.size w7 (w7.setCell ⟨w.heap.size,0,none⟩ v7):=(Kp.refl _ w7).setCell 0 v7
 refine⟨hV,hV.set0 v7,hR.kept kB (by omega),(R5.kept k7 (by omega)).kept kB (by omega),?_,(L5.kept k7 (by omega)).kept kB hG⟩
 exact (B5.trans ⟨k7.os,k7.tape,k7.output,k7.size,fun k hk=>k7.block k (Nat.lt_of_lt_of_le hk B5.size) (by omega)⟩).setCell nlr _
structure Start (a:Nat->Addr) (s:ByteArray) (w W:World):Prop where
 v:Vars W w.heap.size (.slice none 0 0) (.pointer none)
 r:Rd W (w.heap.size+1+1) s 0 0 0 0 ⟨#[]⟩ 0
 b:Below w.heap.size w W
 l:Laid a W
theorem start_at (a:Nat->Addr) (s:ByteArray) (w:World) (L:Laid a w):Start a s w (((w.alloc (.cells #[.slice none 0 0] 111)).alloc (.cells #[.pointer none] 181)).alloc (.cells #[.string s,.int .i64 0,.int .i64 0,.int .i64 0,.int .i64 0,.string ⟨#[]⟩,.int .i64 0] 220)):=by
 have hb:Below w.heap.size w (((w.alloc (.cells #[.slice none 0 0] 111)).alloc (.cells #[.pointer none] 181)).alloc (.cells #[.string s,.int .i64 0,.int .i64 0,.int .i64 0,.int .i64 0,.string ⟨#[]⟩,.int .i64 0] 220)):=
  ((brf.alloc nlr _).alloc (by simp) _).alloc (by simp;omega) _
 have hblk:(((w.alloc (.cells #[.slice none 0 0] 111)).alloc (.cells #[.pointer none] 181)).alloc (.cells #[.string s,.int .i64 0,.int .i64 0,.int .i64 0,.int .i64 0,.string ⟨#[]⟩,.int .i64 0] 220)).heap[w.heap.size+1+1]?=some (.cells #[.string s,.int .i64 0,.int .i64 0,.int .i64 0,.int .i64 0,.string ⟨#[]⟩,.int .i64 0] 220 (0,0)):=by
  have:=han ((w.alloc (.cells #[.slice none 0 0] 111)).alloc (.cells #[.pointer none] 181)) (.cells #[.string s,.int .i64 0,.int .i64 0,.int .i64 0,.int .i64 0,.string ⟨#[]⟩,.int .i64 0] 220)
  simpa using this
 refine⟨⟨?_,?_⟩,⟨?_,?_,?_,?_,?_,?_,?_,fun o=>by unfold World.frozen?;rw[hblk];simp⟩,hb,L.kept (Kp.of_below (b:=w.heap.size) hb) L.size⟩
 ·rw[Below.heap_alloc _ _ _ (by simp;omega),Below.heap_alloc _ _ _ (by simp)];exact han w _
 ·rw[Below.heap_alloc _ _ _ (by simp)]
  have:=han (w.alloc (.cells #[.slice none 0 0] 111)) (.cells #[.pointer none] 181)
  simpa using this
 all_goals (rw[cor _ _ _ _ _ _ hblk];rfl)
end
end Go.Proofs.YtoiajojadihpbaaGreatDoor
