import Derived.Test.YtoiajojadihpbaaGreatDoorQt36
import Derived.Test.YtoiajojadihpbaaGreatDoorQt16
import Derived.Test.YtoiajojadihpbaaGreatDoorQt19
namespace Go.Proofs.YtoiajojadihpbaaGreatDoor
set_option maxHeartbeats 8000000
set_option maxRecDepth 100000
section
open Go.RowKit
theorem told_any (e1 a1 e2 a2:Int) (w:World):Calls Tryz.prog 17 #[.agg #[.int .i64 e1,.int .i64 a1],.agg #[.int .i64 e2,.int .i64 a2]] w fun r w'=>(∃z:Bool,r=.returned (.bool z)/\(e1≠e2->z=false))/\Below w.heap.size w w':=by
 have hb:Hid (Below w.heap.size w ((w.alloc (.cells #[.int .i64 e1,.int .i64 a1] 40)).alloc (.cells #[.int .i64 e2,.int .i64 a2] 44))):=(brf.alloc nlr _).alloc (by simp) _
 by_cases h1:e1=e2
 ·have q1:(e1==e2)=true:=by rw[beq_iff_eq];exact h1
  have H1:=hid h1
  clear h1
  obtain⟨q2,h2⟩:∃q,(e1==0)=q:=⟨_,rfl⟩
  cases q2
  all_goals (
   go_enter Tryz.func17,Tryz.ntmps17
   go_wp2_with fail
   all_goals go_ret
   all_goals exact⟨⟨_,rfl,fun h=>absurd H1.out h⟩,hb.out⟩)
 ·have q1:(e1==e2)=false:=by rw[beq_eq_false_iff_ne];exact h1
  clear h1
  go_enter Tryz.func17,Tryz.ntmps17
  go_wp2_with fail
  all_goals go_ret
  all_goals exact⟨⟨_,rfl,fun _=>rfl⟩,hb.out⟩
theorem below_stepL {W u v:World} (h:Below W.heap.size W u) (k:Below u.heap.size u v):Below W.heap.size W v:=h.trans (k.mono h.size)
theorem millCompile_any (s:ByteArray) (w:World):Calls Tryz.prog 56 #[.string s] w fun r w'=>r=.returned (.tuple #[.pointer none,.nilIface])/\w'=w:=by
 go_enter Tryz.func56,Tryz.ntmps56
 go_wp2_with fail
 all_goals go_ret2
 all_goals exact⟨rfl,rfl⟩
theorem faultNil (w:World):Calls Tryz.prog 46 #[.nilIface] w fun r w'=>r=.returned (.agg #[.int .i64 0,.int .i64 0])/\Below w.heap.size w w':=by
 go_enter Tryz.func46,Tryz.ntmps46
 go_wp2
 exact bodyPost_ret (v:=.agg #[.int .i64 0,.int .i64 0]) (by simp[results,Tryz.results46,go_sem]) rfl ⟨rfl,brf.alloc nlr _⟩
theorem two_setL {w:World} {F:Nat} {x y u v:Value} {e:TypeId} (h:w.heap[F]?=some (.cells #[x,y] e (0,0))):(w.setCell ⟨F,0,none⟩ u).cell? ⟨F,0,none⟩=some u/\((w.setCell ⟨F,0,none⟩ u).setCell ⟨F,1,none⟩ v).cell? ⟨F,1,none⟩=some v/\((w.setCell ⟨F,0,none⟩ u).setCell ⟨F,1,none⟩ v).heap[F]?=some (.cells #[u,v] e (0,0)):=by
 have e1:(w.setCell ⟨F,0,none⟩ u).heap[F]?=some (.cells #[u,y] e (0,0)):=by
  show (w.heap.modify F _)[F]?=_
  rw[Array.getElem?_modify,if_pos rfl,h];rfl
 have e2:((w.setCell ⟨F,0,none⟩ u).setCell ⟨F,1,none⟩ v).heap[F]?=some (.cells #[u,v] e (0,0)):=by
  show ((w.setCell ⟨F,0,none⟩ u).heap.modify F _)[F]?=_
  rw[Array.getElem?_modify,if_pos rfl,e1];rfl
 exact⟨(cor _ _ 0 _ _ _ e1).trans rfl,(cor _ _ 1 _ _ _ e2).trans rfl,e2⟩
theorem two_at {w:World} {q:Nat} {e:TypeId} {x y:Value} (h:w.heap[q]?=some (.cells #[x,y] e (0,0))):w.cell? ⟨q,0,none⟩=some x/\w.cell? ⟨q,1,none⟩=some y/\∀k,w.frozen? ⟨q,k,none⟩=false:=by
 refine⟨(cor w _ 0 _ _ _ h).trans rfl,(cor w _ 1 _ _ _ h).trans rfl,fun k=>?_⟩
 unfold World.frozen?;rw[h];simp
theorem plainCompile_any (s:ByteArray) (w:World):Calls Tryz.prog 20 #[.string s] w fun r w'=>r=.returned (.tuple #[.pointer none,.agg #[.int .i64 0,.int .i64 0]])/\Below w.heap.size w w':=by
 go_enter Tryz.func20,Tryz.ntmps20
 go_wp2_with fail
 refine (millCompile_any _ _).mono ?_
 rintro r w1 ⟨rfl,rfl⟩
 go_wp2_with fail
 refine (faultNil _).mono ?_
 rintro r w2 ⟨rfl,hb⟩
 have HB:Hid (Below w.heap.size w w2):=below_stepL (brf.alloc nlr _) hb
 have hf:w2.heap[w.heap.size]?=some (.cells #[.int .i64 0,.int .i64 0] 40 (0,0)):=(hb.block _ (by simp)).trans (han w _)
 have HF:=hid hf
 obtain⟨c0,c1,cz⟩:=two_at hf
 clear hb hf
 go_wp2_with fail
 obtain⟨a2,a3,_⟩:=two_setL (u:=.int .i64 0) (v:=.int .i64 0) HF.out
 refine bodyPost_ret (v:=.tuple #[.pointer none,.agg #[.int .i64 0,.int .i64 0]]) (by simp[results,Tryz.results20,a2,a3,go_sem]) rfl ?_
 exact⟨rfl,(HB.out.setCell nlr _).setCell nlr _⟩
def CpP (w:World) (r:Ending) (w':World):Prop:=(∃(p:Value) (fe fa:Int),r=.returned (.tuple #[p,.agg #[.int .i64 fe,.int .i64 fa]]))/\Below w.heap.size w w'
end
section
open Go.RowKit
namespace Mil
theorem Parsed.one {b:Bytes} {x y:List It} (h:Parsed b x) (k:Parsed b y):x=y:=by
 obtain⟨n,h⟩:=h
 obtain⟨m,k⟩:=k
 unfold parse at h k
 by_cases c:4000 < b.length
 ·rw[if_pos c] at h;cases h
 ·rw[if_neg c] at h k
  obtain⟨s,h1,h2⟩:=obs h
  obtain⟨s',k1,k2⟩:=obs k
  obtain rfl:=osi (h1.symm.trans k1)
  exact Rprog.unique ⟨n,h2⟩ ⟨m,k2⟩
end Mil
structure All (al a:Nat->Addr) (w:World):Prop where
 p:Pl a w
 e:Errs al w
 s:Same al a
 d:∀i k,k < i->i < 13->al k≠al i
theorem All.below {al a:Nat->Addr} {w w':World} (h:All al a w) (hb:Below w.heap.size w w'):All al a w':=⟨h.p.below hb,h.e.below hb,h.s,h.d⟩
theorem print_tree (al a:Nat->Addr) (l:List Mil.It) (r:Mil.Bytes) (hr:Mil.Parsed r l) (t:Nat) (w:World) (h:All al a w) (hT:TreeAt w l t) :
  Calls Tryz.prog 18 #[.pointer (some ⟨t,0,none⟩)] w (TxPost (Mil.print l) w):=by
 obtain⟨b,o,n,c,h1,h2⟩:=hT
 exact print_any a l r hr t b o n c w h.p h1 h2
theorem printed_any (al a:Nat->Addr) (s:ByteArray) (w:World) (h:All al a w):Calls Tryz.prog 9 #[.string s] w fun r w'=>r=.returned (.bool true)/\Below w.heap.size w w':=by
 have H:=hid h
 clear h
 go_enter Tryz.func9,Tryz.ntmps9
 go_wp2_with fail
 refine (rparse_any s _).mono ?_
 rintro r w1 ⟨hb,⟨fe,fa,hfe,rfl⟩|⟨g,iv,nv,ns,I,l,rfl,hp,hr,hI⟩⟩
 ·have B2:Hid (Below w.heap.size w (w1.alloc (.cells #[.int .i64 fe,.int .i64 fa] 44))):=hb.alloc hb.size _
  have q0:(fe != 0)=true:=by rw[bne_iff_ne];exact hfe
  clear hb hfe
  go_wp2_with fail
  all_goals go_ret
  all_goals exact⟨rfl,B2.out⟩
 ·have B1:=hid hb
  have X1:=bRow w1 #[.int .i64 0,.int .i64 0] 44
  have HPa:=hid hp
  have HR:=hid hr
  have HI:=hid hI
  clear hb hp hr hI
  go_wp2_with fail
  have B2:=hid (below_step B1.out X1.out)
  refine (plainParse_any al a H.out.s s _ (H.out.below B2.out).p.l (H.out.below B2.out).e).mono ?_
  rintro r w3 ⟨hb,⟨l',t,rfl,hp,hT⟩|⟨f,at_,_,rfl,hno⟩⟩
  ·obtain rfl:=Mil.Parsed.one hp HPa.out
   have HI3:Hid (PI 0 g iv nv ns I w3):=(HI.out.below X1.out).below hb
   have B3:=hid (below_step B2.out hb)
   have HT:=hid hT
   have X3:=bRow w3 #[.int .i64 0,.int .i64 0] 40
   clear hb hp hT
   go_wp2_with fail
   refine (print_tree al a l' _ HPa.out t _ (H.out.below (below_step B3.out X3.out)) (HT.out.below X3.out)).mono ?_
   rintro r w4 ⟨rfl,hb⟩
   have B4:Hid (Below w.heap.size w w4):=below_step (below_step B3.out X3.out) hb
   have HI4:Hid (PI 0 g iv nv ns I w4):=(HI3.out.below X3.out).below hb
   clear hb
   go_wp2_with fail
   obtain⟨k1,k2,k3⟩:=Mil.parsed_ok HPa.out
   refine (rprint_any 0 g iv nv ns I l' HR.out k1 k2 k3 _ HI4.out).mono ?_
   rintro r w5 ⟨rfl,hb⟩
   have B5:=hid (below_step B4.out hb)
   clear hb k1 k2 k3
   go_wp2_with fail
   all_goals go_ret
   all_goals exact⟨by simp,B5.out⟩
  ·exact absurd HPa.out (hno.1 _)
end
end Go.Proofs.YtoiajojadihpbaaGreatDoor
