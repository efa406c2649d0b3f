import Derived.Test.YticbokabjhnagaaGreatDoorW18
import Derived.Test.YticbokabjhnagaaGreatDoorW05
import Derived.Laws.AppendOwn
import Derived.OwnWalk
import Derived.Defers
import Derived.Recover
namespace Go.Proofs.YticbokabjhnagaaGreatDoor
set_option maxHeartbeats 32000000
section
open Go.RowKit
def nms (N:Nat) (l:List (Mil.Bytes×Nat)):List Value:=l.flatMap fun x=>[.int .i64 ((N:Int) - (x.2:Nat)),.string (bs x.1)]
def Iv (N:Nat) (w:World) (b:Nat) (i:Mip.It) (v:Value):Prop:=
 (i.kind=1∧v=.iface 144 (.agg #[.int .i64 ((N:Int) - (i.at_:Nat)),.string (bs i.nm),.int .i64 (i.ty:Nat),.int .i64 (i.every:Nat)])) ∨
 (i.kind=2∧∃r,v=.iface 148 (.agg #[r])∧w.ownsRow (b+1) 103 2 r i.names.length (nms N i.names)) ∨
 (i.kind=3∧v=.iface 107 (.agg #[.int .i64 ((N:Int) - (i.at_:Nat)),.string (bs i.nm),.int .i64 (i.ty:Nat),ev N i.body]))
def ItPost (R:Mip.It→Mil.St→Prop) (F:Nat→Int→Prop) (a:Nat→Addr) (b:Nat) (s:ByteArray) (w:World) (e:Ending) (w':World):Prop:=
 Kp b w w'∧((∃i st ty y,e=.returned (.iface ty y)∧Iv s.size w' b i (.iface ty y)∧R i st∧RdS w' b s st)∨Threw F a e w')
structure Hn (a:Nat→Addr) (b:Nat) (s:ByteArray) (st:Mil.St) (w v:World) (q:Int) (x:Mil.Bytes) (k:Nat):Prop where
 kp:Kp b w v
 rd:RdS v b s st
 laid:Laid a v
 c0:v.cell? ⟨k,0,none⟩=some (.int .i64 q)
 c1:v.cell? ⟨k,1,none⟩=some (.string (bs x))
 ne:k≠b
theorem name_facts {a:Nat→Addr} {b:Nat} {s:ByteArray} {st:Mil.St} {w w1:World} {q:Int} {x:Mil.Bytes} (L:Laid a w) (hb:23≤b) (hk:Kp b w w1) (h:RdS w1 b s st) :
  Hn a b s st w (w1.alloc (.cells #[.int .i64 q,.string (bs x)] 103)) q x w1.heap.size:=by
 have hlt:b < w1.heap.size:=by
  obtain ⟨p,tp,x,hp,hR,_⟩:=h
  exact lt_of_cell hR.c4
 exact ⟨hk.alloc _,h.kept ((Kp.refl (b+1) w1).alloc _) (by omega),(L.kept hk hb).kept ((Kp.refl b w1).alloc _) hb,by simp,by simp,by omega⟩
theorem input_any (a:Nat→Addr) (b:Nat) (s:ByteArray) (hb:23≤b) (hs:s.size≤4000) (st:Mil.St) (w:World) (L:Laid a w) (h:RdS w b s st) :
  Calls Tryz.prog 84 #[.pointer (some ⟨b,0,none⟩)] w (ItPost (Mip.Rin st) (Mil.Bin s.size st) a b s w):=by
 have H:Hid (RdS w b s st):=h
 have HL:Hid (Laid a w):=L
 clear h L
 go_enter Tryz.func84,Tryz.ntmps84
 go_wp2_with fail
 refine (name_any a b s st _ HL.out hb H.out hs).mono ?_
 rintro e w1 ⟨kk1,(⟨x1,s1,rfl,g1,r1⟩ | ⟨k,at_,hkk,d,rfl,hd,hno⟩)⟩
 ·have G1:Hid (Mil.name st=some (x1,s1)):=g1
  have HV:Hid (Hn a b s s1 w (w1.alloc (.cells #[.int .i64 (place s.size st),.string (bs x1)] 103)) (place s.size st) x1 w1.heap.size):=name_facts HL.out hb kk1 r1
  clear g1 kk1 r1 HL H
  go_wp2_with fail
  generalize w1.heap.size=kv at HV ⊢
  generalize w1.alloc (.cells #[.int .i64 (place s.size st),.string (bs x1)] 103)=v at HV ⊢
  have HL:Hid (Laid a v):=HV.out.laid
  have hk1:Kp b v v:=Kp.refl b v
  have r1:RdS v b s s1:=HV.out.rd
  refine (want_any a b s s1 (bs Mil.sColon) _ (HL.out.kept hk1 hb) hb r1 hs).mono ?_
  rintro e w2 ⟨kk2,(⟨s2,rfl,g2,r2⟩ | ⟨k,at_,hkk,d,rfl,hd,hno⟩)⟩
  ·have hk2:=hk1.trans kk2
   have G2:Hid _:=g2
   clear g2 kk2
   go_wp2_with fail
   refine (flowType_any a b s s2 _ (HL.out.kept hk2 hb) hb r2 hs).mono ?_
   rintro e w3 ⟨kk3,(⟨x3,s3,rfl,g3,r3⟩ | ⟨k,at_,hkk,d,rfl,hd,hno⟩)⟩
   ·have hk3:=hk2.trans kk3
    have G3:Hid _:=g3
    clear g3 kk3
    go_wp2_with fail
    refine (want_any a b s s3 (bs Mil.wEvery) _ (HL.out.kept hk3 hb) hb r3 hs).mono ?_
    rintro e w4 ⟨kk4,(⟨s4,rfl,g4,r4⟩ | ⟨k,at_,hkk,d,rfl,hd,hno⟩)⟩
    ·have hk4:=hk3.trans kk4
     have G4:Hid _:=g4
     clear g4 kk4
     go_wp2_with fail
     refine (number_any a b s s4 1 1000000 (by decide) _ (HL.out.kept hk4 hb) hb r4 hs).mono ?_
     rintro e w5 ⟨kk5,(⟨x5,s5,rfl,g5,r5⟩ | ⟨k,at_,hkk,d,rfl,hd,hno⟩)⟩
     ·have hk5:=hk4.trans kk5
      have G5:Hid _:=g5
      clear g5 kk5
      go_wp2_with fail
      refine (want_any a b s s5 (bs Mil.sSemi) _ (HL.out.kept hk5 hb) hb r5 hs).mono ?_
      rintro e w6 ⟨kk6,(⟨s6,rfl,g6,r6⟩ | ⟨k,at_,hkk,d,rfl,hd,hno⟩)⟩
      ·have hk6:=hk5.trans kk6
       have G6:Hid _:=g6
       clear g6 kk6
       have cv0:w6.cell? ⟨kv,0,none⟩=some (.int .i64 (place s.size st)):=hk6.held HV.out.c0 HV.out.ne
       have cv1:w6.cell? ⟨kv,1,none⟩=some (.string (bs x1)):=hk6.held HV.out.c1 HV.out.ne
       go_wp2
       go_ret
       exact ⟨HV.out.kp.trans hk6,Or.inl ⟨⟨1,x1,Mip.off st,x3,x5,[],Mip.eNil⟩,s6,_,_,rfl,Or.inl ⟨rfl,by rw [place_off]⟩,⟨_,_,_,_,_,G1.out,G2.out,G3.out,G4.out,G5.out,G6.out,rfl⟩,r6⟩⟩
      ·go_wp2
       refine ⟨rfl,HV.out.kp.trans (hk5.trans kk6),Or.inr ⟨k,at_,hkk,d,rfl,hd,?_⟩⟩
       exact Or.inr ⟨_,G1.out,Or.inr ⟨_,G2.out,Or.inr ⟨_,G3.out,Or.inr ⟨_,G4.out,Or.inr ⟨_,G5.out,hno⟩⟩⟩⟩⟩
     ·go_wp2
      refine ⟨rfl,HV.out.kp.trans (hk4.trans kk5),Or.inr ⟨k,at_,hkk,d,rfl,hd,?_⟩⟩
      exact Or.inr ⟨_,G1.out,Or.inr ⟨_,G2.out,Or.inr ⟨_,G3.out,Or.inr ⟨_,G4.out,Or.inl hno⟩⟩⟩⟩
    ·go_wp2
     refine ⟨rfl,HV.out.kp.trans (hk3.trans kk4),Or.inr ⟨k,at_,hkk,d,rfl,hd,?_⟩⟩
     exact Or.inr ⟨_,G1.out,Or.inr ⟨_,G2.out,Or.inr ⟨_,G3.out,Or.inl hno⟩⟩⟩
   ·go_wp2
    refine ⟨rfl,HV.out.kp.trans (hk2.trans kk3),Or.inr ⟨k,at_,hkk,d,rfl,hd,?_⟩⟩
    exact Or.inr ⟨_,G1.out,Or.inr ⟨_,G2.out,Or.inl hno⟩⟩
  ·go_wp2
   refine ⟨rfl,HV.out.kp.trans (hk1.trans kk2),Or.inr ⟨k,at_,hkk,d,rfl,hd,?_⟩⟩
   exact Or.inr ⟨_,G1.out,Or.inl hno⟩
 ·go_wp2
  refine ⟨rfl,kk1,Or.inr ⟨k,at_,hkk,d,rfl,hd,?_⟩⟩
  exact Or.inl hno
theorem equation_any (a:Nat→Addr) (b:Nat) (s:ByteArray) (hb:23≤b) (hs:s.size≤4000) (st:Mil.St) (w:World) (L:Laid a w) (h:RdS w b s st) :
  Calls Tryz.prog 86 #[.pointer (some ⟨b,0,none⟩)] w (ItPost (Mip.Req st) (Mil.Beq s.size st) a b s w):=by
 have H:Hid (RdS w b s st):=h
 have HL:Hid (Laid a w):=L
 clear h L
 go_enter Tryz.func86,Tryz.ntmps86
 go_wp2_with fail
 refine (name_any a b s st _ HL.out hb H.out hs).mono ?_
 rintro e w1 ⟨kk1,(⟨x1,s1,rfl,g1,r1⟩ | ⟨k,at_,hkk,d,rfl,hd,hno⟩)⟩
 ·have G1:Hid (Mil.name st=some (x1,s1)):=g1
  have HV:Hid (Hn a b s s1 w (w1.alloc (.cells #[.int .i64 (place s.size st),.string (bs x1)] 103)) (place s.size st) x1 w1.heap.size):=name_facts HL.out hb kk1 r1
  clear g1 kk1 r1 HL H
  go_wp2_with fail
  generalize w1.heap.size=kv at HV ⊢
  generalize w1.alloc (.cells #[.int .i64 (place s.size st),.string (bs x1)] 103)=v at HV ⊢
  have HL:Hid (Laid a v):=HV.out.laid
  have hk1:Kp b v v:=Kp.refl b v
  have r1:RdS v b s s1:=HV.out.rd
  refine (want_any a b s s1 (bs Mil.sColon) _ (HL.out.kept hk1 hb) hb r1 hs).mono ?_
  rintro e w2 ⟨kk2,(⟨s2,rfl,g2,r2⟩ | ⟨k,at_,hkk,d,rfl,hd,hno⟩)⟩
  ·have hk2:=hk1.trans kk2
   have G2:Hid _:=g2
   clear g2 kk2
   go_wp2_with fail
   refine (flowType_any a b s s2 _ (HL.out.kept hk2 hb) hb r2 hs).mono ?_
   rintro e w3 ⟨kk3,(⟨x3,s3,rfl,g3,r3⟩ | ⟨k,at_,hkk,d,rfl,hd,hno⟩)⟩
   ·have hk3:=hk2.trans kk3
    have G3:Hid _:=g3
    clear g3 kk3
    go_wp2_with fail
    refine (want_any a b s s3 (bs Mil.sIs) _ (HL.out.kept hk3 hb) hb r3 hs).mono ?_
    rintro e w4 ⟨kk4,(⟨s4,rfl,g4,r4⟩ | ⟨k,at_,hkk,d,rfl,hd,hno⟩)⟩
    ·have hk4:=hk3.trans kk4
     have G4:Hid _:=g4
     clear g4 kk4
     go_wp2_with fail
     refine (expression_all a b s hb hs s4 _ (HL.out.kept hk4 hb) r4).mono ?_
     rintro e w5 ⟨kk5,(⟨x5,s5,ty5,y5,rfl,e5,g5,r5⟩ | ⟨k,at_,hkk,d,rfl,hd,hno⟩)⟩
     ·have hk5:=hk4.trans kk5
      have G5:Hid _:=g5
      have E5:Hid _:=e5
      clear g5 kk5 e5
      go_wp2_with fail
      refine (want_any a b s s5 (bs Mil.sSemi) _ (HL.out.kept hk5 hb) hb r5 hs).mono ?_
      rintro e w6 ⟨kk6,(⟨s6,rfl,g6,r6⟩ | ⟨k,at_,hkk,d,rfl,hd,hno⟩)⟩
      ·have hk6:=hk5.trans kk6
       have G6:Hid _:=g6
       clear g6 kk6
       have cv0:w6.cell? ⟨kv,0,none⟩=some (.int .i64 (place s.size st)):=hk6.held HV.out.c0 HV.out.ne
       have cv1:w6.cell? ⟨kv,1,none⟩=some (.string (bs x1)):=hk6.held HV.out.c1 HV.out.ne
       go_wp2
       go_ret
       refine ⟨HV.out.kp.trans hk6,Or.inl ⟨⟨3,x1,Mip.off st,x3,0,[],x5⟩,s6,_,_,rfl,Or.inr (Or.inr ⟨rfl,?_⟩),⟨_,_,_,_,_,G1.out,G2.out,G3.out,G4.out,G5.out,G6.out,rfl⟩,r6⟩⟩
       show _=Value.iface _ (.agg #[_,_,_,ev s.size x5])
       rw [E5.out,place_off]
      ·go_wp2
       refine ⟨rfl,HV.out.kp.trans (hk5.trans kk6),Or.inr ⟨k,at_,hkk,d,rfl,hd,?_⟩⟩
       exact Or.inr ⟨_,G1.out,Or.inr ⟨_,G2.out,Or.inr ⟨_,G3.out,Or.inr ⟨_,G4.out,Or.inr ⟨_,Mip.Ok.er G5.out,hno⟩⟩⟩⟩⟩
     ·go_wp2
      refine ⟨rfl,HV.out.kp.trans (hk4.trans kk5),Or.inr ⟨k,at_,hkk,d,rfl,hd,?_⟩⟩
      exact Or.inr ⟨_,G1.out,Or.inr ⟨_,G2.out,Or.inr ⟨_,G3.out,Or.inr ⟨_,G4.out,Or.inl hno⟩⟩⟩⟩
    ·go_wp2
     refine ⟨rfl,HV.out.kp.trans (hk3.trans kk4),Or.inr ⟨k,at_,hkk,d,rfl,hd,?_⟩⟩
     exact Or.inr ⟨_,G1.out,Or.inr ⟨_,G2.out,Or.inr ⟨_,G3.out,Or.inl hno⟩⟩⟩
   ·go_wp2
    refine ⟨rfl,HV.out.kp.trans (hk2.trans kk3),Or.inr ⟨k,at_,hkk,d,rfl,hd,?_⟩⟩
    exact Or.inr ⟨_,G1.out,Or.inr ⟨_,G2.out,Or.inl hno⟩⟩
  ·go_wp2
   refine ⟨rfl,HV.out.kp.trans (hk1.trans kk2),Or.inr ⟨k,at_,hkk,d,rfl,hd,?_⟩⟩
   exact Or.inr ⟨_,G1.out,Or.inl hno⟩
 ·go_wp2
  refine ⟨rfl,kk1,Or.inr ⟨k,at_,hkk,d,rfl,hd,?_⟩⟩
  exact Or.inl hno
end
section
open Go.RowKit
theorem Tryz.infoNm:(Tryz.prog.info? 103).map (fun i=>(i.zero,i.size,i.bytes))=some (some (.agg #[.int .i64 0,.string ⟨#[]⟩]),2,24):=by kernel_rfl
theorem Kp.grown {b:Nat} {u w w':World} (h:Kp b u w) {row:Option Nat} (hg:w.grownBy w' row) (hr:∀k,row=some k→u.heap.size≤k):Kp b u w':=
 ⟨hg.os.trans h.os,hg.tape.trans h.tape,hg.output.trans h.output,Nat.le_trans h.size hg.size,fun k h1 h2=>(hg.block k (Nat.lt_of_lt_of_le h1 h.size) (fun e=>by have:=hr k e.symm;omega)).trans (h.block k h1 h2)⟩
theorem Kp.owns {b base:Nat} {w w':World} (h:Kp b w w') {e:TypeId} {size:Nat} {v:Value} {n:Nat} {xs:List Value} (ho:w.ownsRow base e size v n xs) (hb:b < base):w'.ownsRow base e size v n xs:=by
 refine ⟨ho.1,?_⟩
 rcases ho.2 with hn | ⟨g,cap,cur,rfl,hbg,hgg,rest⟩
 ·exact .inl hn
 ·exact .inr ⟨g,cap,cur,rfl,hbg,(h.block g (Array.getElem?_eq_some_iff.1 hgg).1 (by omega)).trans hgg,rest⟩
theorem owns_from {base base':Nat} (hb:base'≤base) {w:World} {e:TypeId} {size:Nat} {v:Value} {n:Nat} {xs:List Value} (ho:w.ownsRow base e size v n xs):w.ownsRow base' e size v n xs:=by
 refine ⟨ho.1,?_⟩
 rcases ho.2 with hn | ⟨g,cap,cur,rfl,hbg,rest⟩
 ·exact .inl hn
 ·exact .inr ⟨g,cap,cur,rfl,by omega,rest⟩
theorem RdS.mu_le {w:World} {b:Nat} {s:ByteArray} {st:Mil.St} (h:RdS w b s st) (hs:s.size≤4000):Mil.mu st≤4001:=by
 obtain ⟨p,tp,x,hp,hR,hr,hx,hn⟩:=h
 unfold Mil.mu
 rw [hr]
 have:(s.data.toList.drop p).length≤4000:=by simp;omega
 split <;> omega
theorem owns_shape {w:World} {base:Nat} {e:TypeId} {size:Nat} {v:Value} {n:Nat} {xs:List Value} (ho:w.ownsRow base e size v n xs):∃o k c,v=.slice o k c:=by
 rcases ho.2 with ⟨h,_⟩ | ⟨g,cap,cur,h,_⟩
 ·exact ⟨_,_,_,h⟩
 ·exact ⟨_,_,_,h⟩
theorem news_one (w:World) (v:Value) (e:TypeId):∀(j:Nat) (u:Value),[v][j]?=some u→(w.alloc (.cells #[v] e)).cell? ((⟨w.heap.size,0,none⟩:Addr).add j)=some u:=by
 intro j u hj
 match j,hj with
 | 0,hj=>simp at hj;subst hj;simp [Addr.add]
theorem RdS.grown {w w':World} {b:Nat} {s:ByteArray} {st:Mil.St} (h:RdS w b s st) {row:Option Nat} (hg:w.grownBy w' row) (hr:∀k,row=some k→k≠b):RdS w' b s st:=by
 cases row with
 | none=>exact h.kept (c:=b+1) ⟨hg.os,hg.tape,hg.output,hg.size,fun k h1 _=>hg.block k h1 (fun e=>by cases e)⟩ (by omega)
 | some k=>exact h.kept (c:=k) ⟨hg.os,hg.tape,hg.output,hg.size,fun i h1 h2=>hg.block i h1 (fun e=>h2 (Option.some.inj e))⟩ (fun e=>hr k rfl e.symm)
theorem owns_one {w:World} {base:Nat} (hb:base≤w.heap.size) (N:Nat) (x:Mil.Bytes×Nat):(w.alloc (.cells #[.int .i64 ((N:Int) - (x.2:Nat)),.string (bs x.1)] 103)).ownsRow base 103 2 (.slice (some ⟨w.heap.size,0,none⟩) 1 1) 1 (nms N [x]):=
 ⟨rfl,.inr ⟨w.heap.size,1,#[.int .i64 ((N:Int) - (x.2:Nat)),.string (bs x.1)],rfl,hb,heap_alloc_new w _,Nat.le_refl _,by decide,rfl,rfl⟩⟩
theorem news_two (w:World) (u v:Value) (e:TypeId):∀(j:Nat) (z:Value),[u,v][j]?=some z→(w.alloc (.cells #[u,v] e)).cell? ((⟨w.heap.size,0,none⟩:Addr).add j)=some z:=by
 intro j z hj
 match j,hj with
 | 0,hj=>simp at hj;subst hj;simp [Addr.add]
 | 1,hj=>simp at hj;subst hj;simp [Addr.add]
theorem nms_snoc (N:Nat) (l:List (Mil.Bytes×Nat)) (x:Mil.Bytes×Nat):nms N (l++[x])=nms N l++[.int .i64 ((N:Int) - (x.2:Nat)),.string (bs x.1)]:=by unfold nms;rw [List.flatMap_append];rfl
theorem output_any (a:Nat→Addr) (b:Nat) (s:ByteArray) (hb:23≤b) (hs:s.size≤4000) (st:Mil.St) (w:World) (L:Laid a w) (h:RdS w b s st) :
  Calls Tryz.prog 85 #[.pointer (some ⟨b,0,none⟩)] w (ItPost (Mip.Rout st) (Mil.Bout s.size st) a b s w):=by
 have H:Hid (RdS w b s st):=h
 have HL:Hid (Laid a w):=L
 have hbw:Hid (b < w.heap.size):=by
  obtain ⟨p,tp,x,hp,hR,_⟩:=h
  exact lt_of_cell hR.c0
 clear h L
 obtain ⟨i0,hi,hz0,hz1,hz2⟩:=info_parts Tryz.infoNm
 go_enter Tryz.func85,Tryz.ntmps85
 go_wp2_with fail
 refine (name_any a b s st _ HL.out hb H.out hs).mono ?_
 rintro e w1 ⟨hk1,(⟨x1,s1,rfl,g1,r1⟩ | ⟨k,at_,hkk,d,rfl,hd,hno⟩)⟩
 ·have G1:Hid _:=g1
  have R1:Hid (RdS w1 b s s1):=r1
  clear g1 r1
  go_wp2_with fail
  go_loopg [3] (Mil.mu s1) (fun g s3 wr=>∃(acc:List (Mil.Bytes×Nat)) (t:Mil.St),g=Mil.mu t∧Hid (wr.ownsRow w.heap.size 103 2 s3 acc.length (nms s.size acc))∧Hid ((∀z,Mip.Rname acc t z↔Mip.Rname [(x1,Mip.off st)] s1 z)∧∀k p,Mil.BadN s.size (acc.map Prod.fst) t k p→Mil.BadN s.size [x1] s1 k p)∧Hid (RdS wr b s t)∧Hid (Kp b w wr)∧Hid (acc.length+Mil.mu t≤4002))
  case atStart=>
   refine ⟨[(x1,Mip.off st)],s1,rfl,by rw [place_off];exact owns_one hk1.size s.size (x1,Mip.off st),⟨fun z=>Iff.rfl,fun _ _ h=>h⟩,R1.out.kept ((Kp.refl (b+1) w1).alloc _) (by omega),hk1.alloc _,?_⟩
   have:=R1.out.mu_le hs
   show 1+_≤4002
   omega
  case round=>
   obtain ⟨acc,t,hg,HO,HI,HR,HK,HM⟩:=hrel
   have HG:Hid (gk=Mil.mu t):=hg
   clear hg R1 hk1
   by_cases hc:Mil.sees t Mil.sComma=true
   ·have HC:Hid (Mil.sees t (bs Mil.sComma).data.toList=true):=hc
    have HK3:Hid (t.tok.kind≠0):=by show _≠_;rw [(Mil.sees_kind3 hc).1];decide
    clear hc
    go_wp2_with fail
    refine (takes_yes a b s t (bs Mil.sComma) _ (HL.out.kept HK.out hb) hb HR.out hs HC.out).mono ?_
    rintro e w2 ⟨kk2,(⟨s2,rfl,g2,r2⟩ | ⟨k,at_,hkk,d,rfl,hd,hno⟩)⟩
    ·have hk2:=HK.out.trans kk2
     have G2:Hid _:=g2
     have M2:Hid (Mil.mu s2 < Mil.mu t):=Mil.adv_mu g2 HK3.out
     have O2:Hid (w2.ownsRow w.heap.size 103 2 u3 acc.length (nms s.size acc)):=kk2.owns HO.out hbw.out
     clear g2 kk2
     go_wp2_with fail
     refine (name_any a b s s2 _ (HL.out.kept hk2 hb) hb r2 hs).mono ?_
     rintro e w3 ⟨kk3,(⟨x3,s3,rfl,g3,r3⟩ | ⟨k,at_,hkk,d,rfl,hd,hno⟩)⟩
     ·have hk3:=hk2.trans kk3
      have G3:Hid _:=g3
      have M3:Hid (Mil.mu s3 < Mil.mu t):=Nat.lt_trans (Mil.name_mu g3) M2.out
      have O3:Hid (w3.ownsRow w.heap.size 103 2 u3 acc.length (nms s.size acc)):=kk3.owns O2.out hbw.out
      clear g3 kk3 O2
      have hlen:acc.length+1≤4003:=by have:=HM.out;omega
      have c4:(acc.length+1)*24≤140737488355328:=by omega
      have c5:w.heap.size≤(w3.alloc (.cells #[.int .i64 (place s.size s2),.string (bs x3)] 103)).heap.size:=Nat.le_trans hk3.size (by simp)
      go_wp2_with (at_builtin;refine wpList_append_own _ rfl _ _ 146 rfl w.heap.size 103 i0 (.agg #[.int .i64 0,.string ⟨#[]⟩]) 2 24 Tryz.underlying146 hi hz0 hz1 hz2 rfl (by decide) u3 acc.length (nms s.size acc) rfl (O3.out.alloc _) ⟨w3.heap.size,0,none⟩ 1 1 [.int .i64 (place s.size s2),.string (bs x3)] rfl rfl (news_two w3 _ _ _) (by intro u hu;simp at hu;rcases hu with rfl | rfl <;> rfl) (by unfold maxLen;omega) c4 c5 ?_;intro v4 w4 O4 hg4 hn4)
      go_roundg (Mil.mu s3)
      case measure=>have:=HG.out;have:=M3.out;omega
      case rel=>
       have hlt:=O3.out.lt
       refine ⟨acc++[(x3,Mip.off s2)],s3,rfl,?_,⟨fun z=>Iff.trans (Mip.name_go HC.out G2.out G3.out).symm (HI.out.1 z),fun k p h=>HI.out.2 k p (Mil.badN_go HC.out (Or.inr ⟨_,G2.out,Or.inr ⟨_,G3.out,by rw [List.map_append] at h;exact h⟩⟩))⟩,(r3.kept ((Kp.refl (b+1) w3).alloc _) (by omega)).grown hg4 ?_,(hk3.alloc _).grown hg4 (fun k hk=>(hlt k hk).1),?_⟩
       ·show w4.ownsRow _ _ _ _ (acc++[(x3,Mip.off s2)]).length (nms s.size (acc++[(x3,Mip.off s2)]))
        rw [List.length_append,nms_snoc,←place_off]
        exact O4
       ·intro k hk
        have:=(hlt k hk).1
        have:=hbw.out
        omega
       ·show (acc++[(x3,Mip.off s2)]).length+_≤_
        rw [List.length_append]
        have:=HM.out
        have:=M3.out
        simp only [List.length_singleton]
        omega
     ·have HNO:Hid _:=hno
      clear hno
      go_wp2
      exact ⟨rfl,hk2.trans kk3,Or.inr ⟨k,at_,hkk,d,rfl,hd,Or.inr ⟨_,G1.out,Or.inl (HI.out.2 _ _ (Mil.badN_go HC.out (Or.inr ⟨_,G2.out,Or.inl HNO.out⟩)))⟩⟩⟩
    ·have HNO:Hid _:=hno
     clear hno
     go_wp2
     exact ⟨rfl,HK.out.trans kk2,Or.inr ⟨k,at_,hkk,d,rfl,hd,Or.inr ⟨_,G1.out,Or.inl (HI.out.2 _ _ (Mil.badN_go HC.out (Or.inl HNO.out)))⟩⟩⟩
   ·have HC:Hid (Mil.sees t (bs Mil.sComma).data.toList=false):=Bool.eq_false_iff.2 hc
    clear hc
    go_wp2_with fail
    refine (takes_no b s t (bs Mil.sComma) _ HR.out HC.out).mono ?_
    rintro e w2 ⟨rfl,hw⟩
    rw [hw]
    clear hw w2
    go_wp2_with fail
    refine (want_any a b s t (bs Mil.sSemi) _ (HL.out.kept HK.out hb) hb HR.out hs).mono ?_
    rintro e w3 ⟨kk3,(⟨s3,rfl,g3,r3⟩ | ⟨k,at_,hkk,d,rfl,hd,hno⟩)⟩
    ·have G3:Hid _:=g3
     clear g3
     obtain ⟨o3,n3,c3,rfl⟩:=owns_shape HO.out
     go_wp2
     go_ret
     refine ⟨HK.out.trans kk3,Or.inl ⟨⟨2,[],0,0,0,acc,Mip.eNil⟩,s3,_,_,rfl,Or.inr (Or.inl ⟨rfl,_,rfl,?_⟩),⟨_,_,G1.out,(HI.out.1 _).1 (Mip.name_stop HC.out),G3.out,rfl⟩,r3⟩⟩
     exact owns_from hbw.out (kk3.owns HO.out hbw.out)
    ·have HNO:Hid _:=hno
     clear hno
     go_wp2
     exact ⟨rfl,HK.out.trans kk3,Or.inr ⟨k,at_,hkk,d,rfl,hd,Or.inr ⟨_,G1.out,Or.inr ⟨_,Mip.rname_er ((HI.out.1 _).1 (Mip.name_stop HC.out)),HNO.out⟩⟩⟩⟩
 ·go_wp2
  exact ⟨rfl,hk1,Or.inr ⟨k,at_,hkk,d,rfl,hd,Or.inl hno⟩⟩
theorem iv_kept {N:Nat} {w w':World} {b:Nat} {i:Mip.It} {v:Value} (h:Iv N w b i v) (k:Kp b w w'):Iv N w' b i v:=by
 rcases h with h | ⟨h1,r,h2,h3⟩ | h
 ·exact Or.inl h
 ·exact Or.inr (Or.inl ⟨h1,r,h2,k.owns h3 (by omega)⟩)
 ·exact Or.inr (Or.inr h)
theorem mitem_in (a:Nat→Addr) (b:Nat) (s:ByteArray) (hb:23≤b) (hs:s.size≤4000) (st:Mil.St) (w:World) (L:Laid a w) (h:RdS w b s st) (hy:Mil.sees st Mil.wInput=true) :
  Calls Tryz.prog 53 #[.pointer (some ⟨b,0,none⟩)] w (ItPost (Mip.Rit st) (Mil.BadI s.size st) a b s w):=by
 have H:Hid (RdS w b s st):=h
 have HL:Hid (Laid a w):=L
 have HI:Hid (Mil.sees st (bs Mil.wInput).data.toList=true):=hy
 clear h L hy
 go_enter Tryz.func53,Tryz.ntmps53
 go_wp2_with fail
 refine (takes_yes a b s st (bs Mil.wInput) _ HL.out hb H.out hs HI.out).mono ?_
 rintro e w1 ⟨hk1,(⟨s1,rfl,g1,r1⟩ | ⟨k,at_,hkk,d,rfl,hd,hno⟩)⟩
 ·have G1:Hid (Mil.adv st=some s1):=g1
  clear g1
  go_wp2_with fail
  refine (input_any a b s hb hs s1 _ (HL.out.kept hk1 hb) r1).mono ?_
  rintro e w2 ⟨hk2,(⟨x,s2,ty,y,rfl,ea,g2,r2⟩ | ⟨k,at_,hkk,d,rfl,hd,hno⟩)⟩
  ·have EA:Hid _:=ea
   have G2:Hid _:=g2
   clear ea g2
   go_wp2
   go_ret
   exact ⟨hk1.trans hk2,Or.inl ⟨x,s2,ty,y,rfl,EA.out,(Mip.it_in HI.out _ _).2 ⟨s1,G1.out,G2.out⟩,r2⟩⟩
  ·have HNO:Hid _:=hno
   clear hno
   go_wp2
   exact ⟨rfl,hk1.trans hk2,Or.inr ⟨k,at_,hkk,d,rfl,hd,Mil.badI_in HI.out (Or.inr ⟨_,G1.out,HNO.out⟩)⟩⟩
 ·have HNO:Hid _:=hno
  clear hno
  go_wp2
  exact ⟨rfl,hk1,Or.inr ⟨k,at_,hkk,d,rfl,hd,Mil.badI_in HI.out (Or.inl HNO.out)⟩⟩
theorem mitem_out (a:Nat→Addr) (b:Nat) (s:ByteArray) (hb:23≤b) (hs:s.size≤4000) (st:Mil.St) (w:World) (L:Laid a w) (h:RdS w b s st) (hy:Mil.sees st Mil.wOutput=true) :
  Calls Tryz.prog 53 #[.pointer (some ⟨b,0,none⟩)] w (ItPost (Mip.Rit st) (Mil.BadI s.size st) a b s w):=by
 have H:Hid (RdS w b s st):=h
 have HL:Hid (Laid a w):=L
 have HI:Hid (Mil.sees st (bs Mil.wOutput).data.toList=true):=hy
 have N0:Hid (Mil.sees st (bs Mil.wInput).data.toList=false):=Mil.sees_other hy (by decide)
 clear h L hy
 go_enter Tryz.func53,Tryz.ntmps53
 go_wp2_with fail
 refine (takes_no b s st (bs Mil.wInput) _ H.out N0.out).mono ?_
 rintro e w1 ⟨rfl,hw⟩
 rw [hw]
 clear hw w1
 go_wp2_with fail
 refine (takes_yes a b s st (bs Mil.wOutput) _ HL.out hb H.out hs HI.out).mono ?_
 rintro e w1 ⟨hk1,(⟨s1,rfl,g1,r1⟩ | ⟨k,at_,hkk,d,rfl,hd,hno⟩)⟩
 ·have G1:Hid (Mil.adv st=some s1):=g1
  clear g1
  go_wp2_with fail
  refine (output_any a b s hb hs s1 _ (HL.out.kept hk1 hb) r1).mono ?_
  rintro e w2 ⟨hk2,(⟨x,s2,ty,y,rfl,ea,g2,r2⟩ | ⟨k,at_,hkk,d,rfl,hd,hno⟩)⟩
  ·have EA:Hid _:=ea
   have G2:Hid _:=g2
   clear ea g2
   go_wp2
   go_ret
   exact ⟨hk1.trans hk2,Or.inl ⟨x,s2,ty,y,rfl,EA.out,(Mip.it_out HI.out _ _).2 ⟨s1,G1.out,G2.out⟩,r2⟩⟩
  ·have HNO:Hid _:=hno
   clear hno
   go_wp2
   exact ⟨rfl,hk1.trans hk2,Or.inr ⟨k,at_,hkk,d,rfl,hd,Mil.badI_out HI.out (Or.inr ⟨_,G1.out,HNO.out⟩)⟩⟩
 ·have HNO:Hid _:=hno
  clear hno
  go_wp2
  exact ⟨rfl,hk1,Or.inr ⟨k,at_,hkk,d,rfl,hd,Mil.badI_out HI.out (Or.inl HNO.out)⟩⟩
theorem mitem_eq (a:Nat→Addr) (b:Nat) (s:ByteArray) (hb:23≤b) (hs:s.size≤4000) (st:Mil.St) (w:World) (L:Laid a w) (h:RdS w b s st) (n0:Mil.sees st Mil.wInput=false) (n1:Mil.sees st Mil.wOutput=false) :
  Calls Tryz.prog 53 #[.pointer (some ⟨b,0,none⟩)] w (ItPost (Mip.Rit st) (Mil.BadI s.size st) a b s w):=by
 have H:Hid (RdS w b s st):=h
 have HL:Hid (Laid a w):=L
 have N0:Hid (Mil.sees st (bs Mil.wInput).data.toList=false):=n0
 have N1:Hid (Mil.sees st (bs Mil.wOutput).data.toList=false):=n1
 clear h L n0 n1
 go_enter Tryz.func53,Tryz.ntmps53
 go_wp2_with fail
 refine (takes_no b s st (bs Mil.wInput) _ H.out N0.out).mono ?_
 rintro e w1 ⟨rfl,hw⟩
 rw [hw]
 clear hw w1
 go_wp2_with fail
 refine (takes_no b s st (bs Mil.wOutput) _ H.out N1.out).mono ?_
 rintro e w1 ⟨rfl,hw⟩
 rw [hw]
 clear hw w1
 go_wp2_with fail
 refine (equation_any a b s hb hs st _ HL.out H.out).mono ?_
 rintro e w2 ⟨hk2,(⟨x,s2,ty,y,rfl,ea,g2,r2⟩ | ⟨k,at_,hkk,d,rfl,hd,hno⟩)⟩
 ·have EA:Hid _:=ea
  have G2:Hid _:=g2
  clear ea g2
  go_wp2
  go_ret
  exact ⟨hk2,Or.inl ⟨x,s2,ty,y,rfl,EA.out,(Mip.it_eq N0.out N1.out _ _).2 G2.out,r2⟩⟩
 ·have HNO:Hid _:=hno
  clear hno
  go_wp2
  exact ⟨rfl,hk2,Or.inr ⟨k,at_,hkk,d,rfl,hd,Mil.badI_eq N0.out N1.out HNO.out⟩⟩
theorem mitem_any (a:Nat→Addr) (b:Nat) (s:ByteArray) (hb:23≤b) (hs:s.size≤4000) (st:Mil.St) (w:World) (L:Laid a w) (h:RdS w b s st) :
  Calls Tryz.prog 53 #[.pointer (some ⟨b,0,none⟩)] w (ItPost (Mip.Rit st) (Mil.BadI s.size st) a b s w):=by
 by_cases n0:Mil.sees st Mil.wInput=true
 ·exact mitem_in a b s hb hs st w L h n0
 by_cases n1:Mil.sees st Mil.wOutput=true
 ·exact mitem_out a b s hb hs st w L h n1
 exact mitem_eq a b s hb hs st w L h (Bool.eq_false_iff.2 n0) (Bool.eq_false_iff.2 n1)
end
section
open Go.RowKit
theorem as_diag (v:Value) (w:World):(Instr.typeAssert (.iface 69 v) 20 69 true).run Tryz.prog w=.ok (.tuple #[v,.bool true]) w:=by kernel_rfl
theorem diag_not_nil (v:Value) (w:World):(binOp BinOp.eql 20 (.iface 69 v) .nilIface).run Tryz.prog w=.ok (.bool false) w:=by kernel_rfl
theorem catch_idle (p q:Addr) (w:World) :
  CallsD Tryz.prog 51 #[.pointer (some p),.pointer (some q)] .returning w fun e u' w'=>e=.returned (.tuple #[])∧u'=.returning∧w'=w:=by
 refine callsD_of_wpS Tryz.func51 rfl fun c₀ cs hu=>?_
 apply wpS_seq
 apply wpS_region
 simp [wpOpsS,go_sem,recoverD,hu,Tryz.ntmps51,Exit.thenS]
 refine wpS_of_wp ?_
 go_wp2
 cases c₀
 simp_all [bodyPostS,results,Tryz.results51]
theorem catch_hit (p q:Addr) (v0 v1:Value) (d:Nat) (w:World) (hp:w.cell? p=some v0) (hq:w.cell? q=some v1) (hfp:w.frozen? p=false) (hfq:w.frozen? q=false) (hpq:p≠q) :
  CallsD Tryz.prog 51 #[.pointer (some p),.pointer (some q)] (.panicking [{ v:=.iface 69 (.pointer (some ⟨d,0,none⟩)),recovered:=false }]) w fun e u' w'=>
   e=.returned (.tuple #[])∧u'=.panicking [{ v:=.iface 69 (.pointer (some ⟨d,0,none⟩)),recovered:=true }]∧w'=(w.setCell p (.slice none 0 0)).setCell q (.pointer (some ⟨d,0,none⟩)):=by
 have h1:=as_diag
 have h2:=diag_not_nil
 refine callsD_of_wpS Tryz.func51 rfl fun c₀ cs hu=>?_
 apply wpS_seq
 apply wpS_region
 simp [wpOpsS,go_sem,recoverD,hu,Tryz.ntmps51,Exit.thenS]
 refine wpS_of_wp ?_
 change Code.wp _ _ _ { tmps:=#[.pointer (some p),.pointer (some q),undef,undef,undef,.iface 69 (.pointer (some ⟨d,0,none⟩)),undef,undef,undef,undef,undef,undef],defers:=[] } w
 go_wp2
 simp [bodyPostS,results,Tryz.results51]
end
end Go.Proofs.YticbokabjhnagaaGreatDoor
