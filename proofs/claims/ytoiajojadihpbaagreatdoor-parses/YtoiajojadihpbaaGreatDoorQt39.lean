import Derived.Test.YtoiajojadihpbaaGreatDoorQt37
import Derived.Test.YtoiajojadihpbaaGreatDoorQt38
namespace Go.Proofs.YtoiajojadihpbaaGreatDoor
set_option maxHeartbeats 8000000
set_option maxRecDepth 100000
section
open Go.RowKit
theorem told_true (e1 a1:Int) (w:World):Calls Tryz.prog 17 #[.agg #[.int .i64 e1,.int .i64 a1],.agg #[.int .i64 e1,.int .i64 a1]] w fun r w'=>r=.returned (.bool true)/\Below w.heap.size w w':=by
 have hb:Hid (Below w.heap.size w ((w.alloc (.cells #[.int .i64 e1,.int .i64 a1] 40)).alloc (.cells #[.int .i64 e1,.int .i64 a1] 44))):=(brf.alloc nlr _).alloc (by simp) _
 have q1:(e1==e1)=true:=by rw[beq_iff_eq]
 have q3:(a1==a1)=true:=by rw[beq_iff_eq]
 obtain⟨q2,h2⟩:∃q,(e1==0)=q:=⟨_,rfl⟩
 cases q2
 all_goals (
  go_enter Tryz.func17,Tryz.ntmps17
  go_wp2_with fail
  all_goals go_ret
  all_goals exact⟨rfl,hb.out⟩)
theorem last_eq (al:Nat->Addr) (i:Nat):∀n,i < n->(∀k,k < n->k≠i->al i≠al k)->lastOf al (al i) n=(i:Int)+1
 | 0,h,_=>by omega
 | j+1,h,hd=>by
  show (if al i=al j then (j:Int)+1 else lastOf al (al i) j)=_
  by_cases e:j=i
  ·subst e;rw[if_pos rfl]
  ·rw[if_neg (hd j (by omega) e)]
   exact last_eq al i j (by omega) (fun k hk=>hd k (by omega))
theorem All.last {al a:Nat->Addr} {w:World} (h:All al a w) {k:Nat} (hk:k=1\/k=2\/k=3\/k=4):lastOf al (a k) 13=k:=by
 have at_:∀i,i < 13->lastOf al (al i) 13=(i:Int)+1:=fun i hi=>last_eq al i 13 hi (fun j hj hne=>by
  rcases Nat.lt_or_ge j i with c|c
  ·exact Ne.symm (h.d i j c hi)
  ·exact h.d j i (by omega) hj)
 rcases hk with rfl|rfl|rfl|rfl
 ·rw[h.s.h1,at_ 0 (by decide)];rfl
 ·rw[h.s.h2,at_ 1 (by decide)];rfl
 ·rw[h.s.h3,at_ 2 (by decide)];rfl
 ·rw[h.s.h4,at_ 3 (by decide)];rfl
def Both (b:Mil.Bytes) (fe fa:Int):Prop:=((∃l,Mil.Parsed b l)->fe=0/\fa=0)/\(∀k p,b.length<=4000->Mil.Fault b k p->fe=k/\fa=p)/\(4000 < b.length->fe=1/\fa=-1)
theorem rparse_both (s:ByteArray) (w:World):Calls Tryz.prog 16 #[.string s] w fun r w'=>(∃(pt:Option Addr) (fe fa:Int),r=.returned (.tuple #[.pointer pt,.agg #[.int .i64 fe,.int .i64 fa]])/\Both s.data.toList fe fa)/\Below w.heap.size w w':=by
 have hl:s.data.toList.length=s.size:=by simp
 by_cases hs:s.size<=4000
 ·refine (rparse_short s hs w).mono ?_
  rintro r w' ⟨hb,T,ok,I,σ,hT,hR,⟨rfl,hfe,rfl⟩|⟨rfl,B,b,g,tv,iv,nv,hB,rfl,hRM,hIM⟩⟩
  ·refine⟨⟨none,σ.fe,σ.fa,rfl,fun ⟨l,hp⟩=>?_,fun k p _ hf=>?_,fun h=>by omega⟩,hb⟩
   ·have:=Ref.taken_of hT hR hp
    cases this
   ·obtain⟨_,h1,h2⟩:=Ref.fault_of hT hR hf
    exact⟨by rw[show σ.fe=k from h1],h2⟩
  ·refine⟨⟨some ⟨g,0,none⟩,0,0,rfl,fun _=>⟨rfl,rfl⟩,fun k p _ hf=>?_,fun h=>by omega⟩,hb⟩
   obtain⟨h0,_,_⟩:=Ref.fault_of hT hR hf
   cases h0
 ·refine (rparse_long s hs w).mono ?_
  rintro r w' ⟨rfl,hb⟩
  refine⟨⟨none,1,-1,rfl,fun ⟨l,n,hp⟩=>?_,fun k p h _=>by omega,fun _=>⟨rfl,rfl⟩⟩,hb⟩
  unfold Mil.parse at hp
  rw[if_pos (by omega)] at hp
  cases hp
theorem parsed_true (al a:Nat->Addr) (s:ByteArray) (w:World) (h:All al a w):Calls Tryz.prog 8 #[.string s] w fun r w'=>r=.returned (.bool true)/\Below w.heap.size w w':=by
 have H:=hid h
 clear h
 go_enter Tryz.func8,Tryz.ntmps8
 go_wp2_with fail
 refine (plainParse_any al a H.out.s s _ H.out.p.l H.out.e).mono ?_
 intro r w1 hP
 obtain⟨pt,e1,a1,rfl,hb,hcon⟩:∃(pt:Option Addr) (e1 a1:Int),r=.returned (.tuple #[.pointer pt,.agg #[.int .i64 e1,.int .i64 a1]])/\Below w.heap.size w w1/\∀fe fa,Both s.data.toList fe fa->fe=e1/\fa=a1/\(pt.isSome=true↔e1=0):=by
  obtain⟨hb,⟨l,t,rfl,hp,_⟩|⟨f,at_,_,rfl,_,hf⟩⟩:=hP
  ·exact⟨_,_,_,rfl,hb,fun fe fa hB=>⟨(hB.1 ⟨l,hp⟩).1,(hB.1 ⟨l,hp⟩).2,by simp⟩⟩
  ·refine⟨_,_,_,rfl,hb,fun fe fa hB=>?_⟩
   rcases hf with ⟨k,hk,rfl,hn,hq⟩|⟨hn,rfl,rfl⟩
   ·obtain⟨h1,h2⟩:=hB.2.1 k at_ hn hq
    have e:=H.out.last hk
    rw[e]
    exact⟨h1,h2,by simp;omega⟩
   ·obtain⟨h1,h2⟩:=hB.2.2 hn
    have e:=H.out.last (k:=1) (Or.inl rfl)
    rw[e]
    exact⟨h1,h2,by simp⟩
 have HCON:=hid hcon
 have B1:=hid hb
 have B2:Hid (Below w.heap.size w (w1.alloc (.cells #[.int .i64 e1,.int .i64 a1] 40))):=B1.out.alloc B1.out.size _
 have F2:=nRow w1 #[.int .i64 e1,.int .i64 a1] 40
 clear hb hP hcon
 go_wp2_with fail
 refine (rparse_both s _).mono ?_
 rintro r w3 ⟨⟨pr,fe,fa,rfl,hBo⟩,hb⟩
 obtain⟨h1,h2,hpt⟩:=HCON.out _ _ hBo
 rw[h1,h2]
 have HPT:=hid hpt
 clear hBo hpt HCON h1 h2 fe fa
 have B3:=hid (below_step B2.out hb)
 have f3:w3.heap[w1.heap.size]?=some (.cells #[.int .i64 e1,.int .i64 a1] 40 (0,0)):=(hb.block _ (by simp)).trans F2.out
 have B4:Hid (Below w.heap.size w (w3.alloc (.cells #[.int .i64 e1,.int .i64 a1] 44))):=B3.out.alloc B3.out.size _
 have H4:=bRow w3 #[.int .i64 e1,.int .i64 a1] 44
 have f4:(w3.alloc (.cells #[.int .i64 e1,.int .i64 a1] 44)).heap[w3.heap.size]?=some (.cells #[.int .i64 e1,.int .i64 a1] 44 (0,0)):=han w3 _
 have f5:=(H4.out.block _ (ags f3).1).trans f3
 have F4:=hid f4
 obtain⟨c0,c1,_⟩:=two_at f4
 obtain⟨c2,c3,_⟩:=two_at f5
 clear hb f3 f4 f5
 go_upto_region 3 with (fail)
 generalize w3.alloc (.cells #[.int .i64 e1,.int .i64 a1] 44)=W at B4 F4 c0 c1 c2 c3 ⊢
 go_wp2_with fail
 refine (told_true e1 a1 _).mono ?_
 rintro r w5 ⟨rfl,hb⟩
 have B5:=hid (below_step B4.out hb)
 have f6:=(hb.block _ (ags F4.out).1).trans F4.out
 obtain⟨e0,_,_⟩:=two_at f6
 clear hb f6 c0 c1 c2 c3
 cases pt
 ·have q0:(e1==0)=false:=by
   rw[beq_eq_false_iff_ne]
   intro h
   have:=HPT.out.2 h
   cases this
  go_wp2_with fail
  all_goals go_ret
  all_goals exact⟨rfl,B5.out⟩
 ·have q0:(e1==0)=true:=by
   rw[beq_iff_eq]
   exact HPT.out.1 rfl
  go_wp2_with fail
  all_goals go_ret
  all_goals exact⟨rfl,B5.out⟩
end
section
open Go.RowKit
theorem compiled_any (wb:Nat) (s:ByteArray) (w:World) (hC:∀w,Calls Tryz.prog 21 #[.string s] w (CpP w)) :
  Calls Tryz.prog 10 #[.pointer (some ⟨wb,0,none⟩),.string s] w fun r w'=>r=.returned (.bool false)/\Below w.heap.size w w':=by
 have HC:=hid hC
 clear hC
 go_enter Tryz.func10,Tryz.ntmps10
 go_wp2_with fail
 refine (plainCompile_any _ _).mono ?_
 rintro r w1 ⟨rfl,hb⟩
 have B1:=hid hb
 have B2:Hid (Below w.heap.size w (w1.alloc (.cells #[.int .i64 0,.int .i64 0] 40))):=B1.out.alloc B1.out.size _
 have F2:=nRow w1 #[.int .i64 0,.int .i64 0] 40
 clear hb
 go_wp2_with fail
 refine (HC.out _).mono ?_
 rintro r w3 ⟨⟨p,fe,fa,rfl⟩,hb⟩
 have B3:=hid (below_stepL B2.out hb)
 have f3:w3.heap[w1.heap.size]?=some (.cells #[.int .i64 0,.int .i64 0] 40 (0,0)):=(hb.block _ (by simp)).trans F2.out
 have B4:Hid (Below w.heap.size w (w3.alloc (.cells #[.int .i64 fe,.int .i64 fa] 44))):=B3.out.alloc B3.out.size _
 have H4:=bRow w3 #[.int .i64 fe,.int .i64 fa] 44
 have f4:(w3.alloc (.cells #[.int .i64 fe,.int .i64 fa] 44)).heap[w3.heap.size]?=some (.cells #[.int .i64 fe,.int .i64 fa] 44 (0,0)):=han w3 _
 have f5:=(H4.out.block _ (ags f3).1).trans f3
 have F4:=hid f4
 obtain⟨c0,c1,_⟩:=two_at f4
 obtain⟨c2,c3,_⟩:=two_at f5
 clear hb f3 f4 f5
 go_upto_region 3 with (fail)
 generalize w3.alloc (.cells #[.int .i64 fe,.int .i64 fa] 44)=W at B4 F4 c0 c1 c2 c3 ⊢
 go_wp2_with fail
 refine (told_any 0 0 fe fa _).mono ?_
 rintro r w5 ⟨⟨z,rfl,hz⟩,hb⟩
 have B5:=hid (below_stepL B4.out hb)
 have f6:=(hb.block _ (ags F4.out).1).trans F4.out
 obtain⟨e0,_,_⟩:=two_at f6
 clear hb f6 c0 c1 c2 c3
 by_cases h0:fe=0
 ·subst h0
  clear hz
  cases z
  all_goals (
   go_wp2_with fail
   all_goals go_ret
   all_goals exact⟨rfl,B5.out⟩)
 ·have hzf:=hz (Ne.symm h0)
  subst hzf
  clear hz h0
  go_wp2_with fail
  all_goals go_ret
  all_goals exact⟨rfl,B5.out⟩
end
end Go.Proofs.YtoiajojadihpbaaGreatDoor
