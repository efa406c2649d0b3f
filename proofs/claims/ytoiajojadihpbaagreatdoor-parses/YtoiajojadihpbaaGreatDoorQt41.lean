import Derived.Test.YtoiajojadihpbaaGreatDoorQt37
import Derived.Test.YtoiajojadihpbaaGreatDoorQt40
import Derived.Deep.Slices
import Derived.ProofKit
import Derived.OpenShut
import Derived.Test.YtoiajojadihpbaaGreatDoorQt36
import Derived.Deep.LoopGhost
import Derived.Deep.Cut
import Derived.Deep.RegionHeld3
namespace Go.Proofs.YtoiajojadihpbaaGreatDoor
set_option maxHeartbeats 8000000
set_option maxRecDepth 100000
section
open Go.RowKit
theorem registered_any (wb:Nat) (k a b c:Int) (s:ByteArray) (lo uo:Option Addr) (ln lc un uc:Nat) (w:World) (hU:Us w (.slice uo un uc)) :
  Calls Tryz.prog 13 #[.pointer (some ⟨wb,0,none⟩),.agg #[.int .i64 k,.int .i64 a,.int .i64 b,.int .i64 c,.string s,.slice lo ln lc,.slice uo un uc]] w fun r w'=>r=.returned (.bool false)/\Below w.heap.size w w':=by
 have HU:=hid hU
 have HB0:=bRow w #[.int .i64 k,.int .i64 a,.int .i64 b,.int .i64 c,.string s,.slice lo ln lc,.slice uo un uc] 29
 have HO0:=nRow w #[.int .i64 k,.int .i64 a,.int .i64 b,.int .i64 c,.string s,.slice lo ln lc,.slice uo un uc] 29
 clear hU
 go_enter Tryz.func13,Tryz.ntmps13
 go_wp2_with fail
 refine (register_any _ _ _ (HU.out.below HB0.out)).mono ?_
 rintro r w1 ⟨rfl,hb⟩
 have HB1:=hid (below_stepL HB0.out hb)
 have ho:w1.heap[w.heap.size]?=some (.cells #[.int .i64 k,.int .i64 a,.int .i64 b,.int .i64 c,.string s,.slice lo ln lc,.slice uo un uc] 29 (0,0)):=(hb.block _ (by simp)).trans HO0.out
 have c1:w1.cell? ⟨w.heap.size,1,none⟩=some (.int .i64 a):=(cor w1 _ 1 _ _ _ ho).trans rfl
 have c6:w1.cell? ⟨w.heap.size,6,none⟩=some (.slice uo un uc):=(cor w1 _ 6 _ _ _ ho).trans rfl
 clear hb ho
 go_wp2_with fail
 refine (refNew_any _ _ _ (HU.out.below HB1.out)).mono ?_
 rintro r w2 ⟨⟨p,e,rfl⟩,hb⟩
 have HB2:=hid (below_stepL HB1.out hb)
 clear hb c1 c6
 by_cases h0:e=0
 ·subst h0
  go_wp2_with fail
  all_goals go_ret
  all_goals exact⟨rfl,HB2.out⟩
 ·have q0:((0:Int) != e)=true:=by rw[bne_iff_ne];exact Ne.symm h0
  have q1:(e==0)=false:=by rw[beq_eq_false_iff_ne];exact h0
  clear h0
  go_wp2_with fail
  all_goals go_ret
  all_goals exact⟨rfl,HB2.out⟩
end
section
open Go.RowKit
def Wn (wb:Nat) (w:World):Prop:=w.heap[wb]?=some (.cells #[.slice none 0 0,.slice none 0 0,.slice none 0 0] 35 (0,0))
theorem Wn.below {wb:Nat} {w w':World} (h:Wn wb w) (hb:Below w.heap.size w w'):Wn wb w':=(hb.block _ (ags h).1).trans h
theorem Wn.cells {wb:Nat} {w:World} (h:Wn wb w):w.cell? ⟨wb,0,none⟩=some (.slice none 0 0)/\w.cell? ⟨wb,1,none⟩=some (.slice none 0 0)/\w.cell? ⟨wb,2,none⟩=some (.slice none 0 0):=
 ⟨(cor w _ 0 _ _ _ h).trans rfl,(cor w _ 1 _ _ _ h).trans rfl,(cor w _ 2 _ _ _ h).trans rfl⟩
theorem onProgram_any (wb:Nat) (k a b c:Int) (s:ByteArray) (lo uo:Option Addr) (ln lc un uc:Nat) (w:World) (h:Wn wb w) :
  Calls Tryz.prog 11 #[.pointer (some ⟨wb,0,none⟩),.agg #[.int .i64 k,.int .i64 a,.int .i64 b,.int .i64 c,.string s,.slice lo ln lc,.slice uo un uc]] w fun r w'=>r=.returned (.bool true)/\Below w.heap.size w w':=by
 have HB0:=bRow w #[.int .i64 k,.int .i64 a,.int .i64 b,.int .i64 c,.string s,.slice lo ln lc,.slice uo un uc] 29
 obtain⟨c0,c1,c2⟩:=(h.below HB0.out).cells
 clear h
 go_enter Tryz.func11,Tryz.ntmps11
 go_wp2_with fail
 all_goals go_ret
 all_goals exact⟨rfl,HB0.out⟩
theorem onMachine_any (wb:Nat) (k a b c:Int) (s:ByteArray) (lo uo:Option Addr) (ln lc un uc:Nat) (w:World) (h:Wn wb w) :
  Calls Tryz.prog 12 #[.pointer (some ⟨wb,0,none⟩),.agg #[.int .i64 k,.int .i64 a,.int .i64 b,.int .i64 c,.string s,.slice lo ln lc,.slice uo un uc]] w fun r w'=>r=.returned (.bool true)/\Below w.heap.size w w':=by
 have HB0:=bRow w #[.int .i64 k,.int .i64 a,.int .i64 b,.int .i64 c,.string s,.slice lo ln lc,.slice uo un uc] 29
 obtain⟨c0,c1,c2⟩:=(h.below HB0.out).cells
 clear h
 go_enter Tryz.func12,Tryz.ntmps12
 go_wp2_with fail
 all_goals go_ret
 all_goals exact⟨rfl,HB0.out⟩
theorem onRegister_any (wb:Nat) (k a b c:Int) (s:ByteArray) (lo uo:Option Addr) (ln lc un uc:Nat) (w:World) (h:Wn wb w) :
  Calls Tryz.prog 14 #[.pointer (some ⟨wb,0,none⟩),.agg #[.int .i64 k,.int .i64 a,.int .i64 b,.int .i64 c,.string s,.slice lo ln lc,.slice uo un uc]] w fun r w'=>r=.returned (.bool true)/\Below w.heap.size w w':=by
 have HB0:=bRow w #[.int .i64 k,.int .i64 a,.int .i64 b,.int .i64 c,.string s,.slice lo ln lc,.slice uo un uc] 29
 obtain⟨c0,c1,c2⟩:=(h.below HB0.out).cells
 clear h
 go_enter Tryz.func14,Tryz.ntmps14
 go_wp2_with fail
 all_goals go_ret
 all_goals exact⟨rfl,HB0.out⟩
structure Said (X:World->Prop) (wb:Nat):Prop where
 keep:∀w w',X w->Below w.heap.size w w'->X w'
 parsed:∀(s:ByteArray) (w:World),X w->Calls Tryz.prog 8 #[.string s] w fun r w'=>r=.returned (.bool true)/\Below w.heap.size w w'
 printed:∀(s:ByteArray) (w:World),X w->Calls Tryz.prog 9 #[.string s] w fun r w'=>r=.returned (.bool true)/\Below w.heap.size w w'
 compiled:∀(s:ByteArray) (w:World),X w->Calls Tryz.prog 10 #[.pointer (some ⟨wb,0,none⟩),.string s] w fun r w'=>r=.returned (.bool false)/\Below w.heap.size w w'
theorem step_any {X:World->Prop} (wb:Nat) (hS:Said X wb) (k a b c:Int) (s:ByteArray) (lo uo:Option Addr) (ln lc un uc:Nat) (w:World) (h:Wn wb w) (hX:X w) (hU:Us w (.slice uo un uc)) :
  Calls Tryz.prog 7 #[.pointer (some ⟨wb,0,none⟩),.agg #[.int .i64 k,.int .i64 a,.int .i64 b,.int .i64 c,.string s,.slice lo ln lc,.slice uo un uc]] w fun r w'=>(∃z:Bool,r=.returned (.bool z)/\(k=1\/k=2->z=true))/\Below w.heap.size w w':=by
 have HB0:=bRow w #[.int .i64 k,.int .i64 a,.int .i64 b,.int .i64 c,.string s,.slice lo ln lc,.slice uo un uc] 29
 have HW0:=h.below HB0.out
 have HX0:=hS.keep _ _ hX HB0.out
 have HU0:=hU.below HB0.out
 have HP:=hS.parsed s _ HX0
 have HQ:=hS.printed s _ HX0
 have HR:=hS.compiled s _ HX0
 have H1:=onProgram_any wb k a b c s lo uo ln lc un uc _ HW0
 have H2:=onMachine_any wb k a b c s lo uo ln lc un uc _ HW0
 have H3:=onRegister_any wb k a b c s lo uo ln lc un uc _ HW0
 have H4:=registered_any wb k a b c s lo uo ln lc un uc _ HU0
 have H:Hid (Calls _ _ _ _ _/\Calls _ _ _ _ _/\Calls _ _ _ _ _/\Calls _ _ _ _ _/\Calls _ _ _ _ _/\Calls _ _ _ _ _/\Calls _ _ _ _ _):=⟨HP,HQ,HR,H1,H2,H3,H4⟩
 clear h hX hU HW0 HX0 HU0 HP HQ HR H1 H2 H3 H4 hS
 by_cases g1:k=1
 ·rcases g1 with rfl
  all_goals
   go_enter Tryz.func7,Tryz.ntmps7
   go_wp2_with fail
   refine H.out.1.mono ?_
   rintro r w1 ⟨rfl,hb⟩
   have B1:=hid (below_stepL HB0.out hb)
   clear hb
   go_wp2_with fail
   all_goals go_ret
   all_goals exact⟨⟨true,rfl,fun h=>by first|rfl|(rcases h with h|h <;> cases h)⟩,B1.out⟩
 by_cases g2:k=2
 ·rcases g2 with rfl
  all_goals
   go_enter Tryz.func7,Tryz.ntmps7
   go_wp2_with fail
   refine H.out.2.1.mono ?_
   rintro r w1 ⟨rfl,hb⟩
   have B1:=hid (below_stepL HB0.out hb)
   clear hb
   go_wp2_with fail
   all_goals go_ret
   all_goals exact⟨⟨true,rfl,fun h=>by first|rfl|(rcases h with h|h <;> cases h)⟩,B1.out⟩
 by_cases g3:k=3
 ·rcases g3 with rfl
  all_goals
   go_enter Tryz.func7,Tryz.ntmps7
   go_wp2_with fail
   refine H.out.2.2.1.mono ?_
   rintro r w1 ⟨rfl,hb⟩
   have B1:=hid (below_stepL HB0.out hb)
   clear hb
   go_wp2_with fail
   all_goals go_ret
   all_goals exact⟨⟨false,rfl,fun h=>by first|rfl|(rcases h with h|h <;> cases h)⟩,B1.out⟩
 by_cases g4:k=4\/k=5\/k=6\/k=7\/k=12
 ·rcases g4 with rfl|rfl|rfl|rfl|rfl
  all_goals
   go_enter Tryz.func7,Tryz.ntmps7
   go_wp2_with fail
   refine H.out.2.2.2.1.mono ?_
   rintro r w1 ⟨rfl,hb⟩
   have B1:=hid (below_stepL HB0.out hb)
   clear hb
   go_wp2_with fail
   all_goals go_ret
   all_goals exact⟨⟨true,rfl,fun h=>by first|rfl|(rcases h with h|h <;> cases h)⟩,B1.out⟩
 by_cases g8:k=8\/k=9\/k=10\/k=11
 ·rcases g8 with rfl|rfl|rfl|rfl
  all_goals
   go_enter Tryz.func7,Tryz.ntmps7
   go_wp2_with fail
   refine H.out.2.2.2.2.1.mono ?_
   rintro r w1 ⟨rfl,hb⟩
   have B1:=hid (below_stepL HB0.out hb)
   clear hb
   go_wp2_with fail
   all_goals go_ret
   all_goals exact⟨⟨true,rfl,fun h=>by first|rfl|(rcases h with h|h <;> cases h)⟩,B1.out⟩
 by_cases g13:k=13
 ·rcases g13 with rfl
  all_goals
   go_enter Tryz.func7,Tryz.ntmps7
   go_wp2_with fail
   refine H.out.2.2.2.2.2.2.mono ?_
   rintro r w1 ⟨rfl,hb⟩
   have B1:=hid (below_stepL HB0.out hb)
   clear hb
   go_wp2_with fail
   all_goals go_ret
   all_goals exact⟨⟨false,rfl,fun h=>by first|rfl|(rcases h with h|h <;> cases h)⟩,B1.out⟩
 by_cases g14:k=14\/k=15\/k=16\/k=17
 ·rcases g14 with rfl|rfl|rfl|rfl
  all_goals
   go_enter Tryz.func7,Tryz.ntmps7
   go_wp2_with fail
   refine H.out.2.2.2.2.2.1.mono ?_
   rintro r w1 ⟨rfl,hb⟩
   have B1:=hid (below_stepL HB0.out hb)
   clear hb
   go_wp2_with fail
   all_goals go_ret
   all_goals exact⟨⟨true,rfl,fun h=>by first|rfl|(rcases h with h|h <;> cases h)⟩,B1.out⟩
 have q:∀n,k≠n->(k==n)=false:=fun n h=>by rw[beq_eq_false_iff_ne];exact h
 have q1:=q 1 (by omega)
 have q2:=q 2 (by omega)
 have q3:=q 3 (by omega)
 have q4:=q 4 (by omega)
 have q5:=q 5 (by omega)
 have q6:=q 6 (by omega)
 have q7:=q 7 (by omega)
 have q8:=q 8 (by omega)
 have q9:=q 9 (by omega)
 have q10:=q 10 (by omega)
 have q11:=q 11 (by omega)
 have q12:=q 12 (by omega)
 have q13:=q 13 (by omega)
 have q14:=q 14 (by omega)
 have q15:=q 15 (by omega)
 have q16:=q 16 (by omega)
 have q17:=q 17 (by omega)
 clear g1 g2 g3 g4 g8 g13 g14 q
 go_enter Tryz.func7,Tryz.ntmps7
 go_wp2_with fail
 all_goals go_ret
 all_goals exact⟨⟨true,rfl,fun _=>rfl⟩,HB0.out⟩
end
section
open Go.RowKit
def StepAt (w:World) (b o:Nat) (k:Int):Prop:=∃(a b' c:Int) (s:ByteArray) (lo uo:Option Addr) (ln lc un uc:Nat),w.cell? ⟨b,o,none⟩=some (.int .i64 k)/\w.cell? ⟨b,o+1,none⟩=some (.int .i64 a)/\w.cell? ⟨b,o+2,none⟩=some (.int .i64 b')/\w.cell? ⟨b,o+3,none⟩=some (.int .i64 c)/\w.cell? ⟨b,o+4,none⟩=some (.string s)/\w.cell? ⟨b,o+5,none⟩=some (.slice lo ln lc)/\w.cell? ⟨b,o+6,none⟩=some (.slice uo un uc)/\Us w (.slice uo un uc)
theorem StepAt.below {w w':World} {b o:Nat} {k:Int} (h:StepAt w b o k) (hb:Below w.heap.size w w'):StepAt w' b o k:=by
 obtain⟨a,b',c,s,lo,uo,ln,lc,un,uc,h0,h1,h2,h3,h4,h5,h6,hU⟩:=h
 have up:∀{q:Addr} {v:Value},w.cell? q=some v->w'.cell? q=some v:=fun hq=>(hb.cell (lt_of_cell hq)).trans hq
 exact⟨a,b',c,s,lo,uo,ln,lc,un,uc,up h0,up h1,up h2,up h3,up h4,up h5,up h6,hU.below hb⟩
def Script (w:World) (b off n:Nat):Prop:=∀j,j < n->∃k,StepAt w b (off+j*7) k
theorem upTo_some {X:World->Prop} (hS:∀wb,Said X wb) (b off n c:Nat) (w:World) (hX:X w) (hc:Script w b off n) :
  Calls Tryz.prog 6 #[.slice (some ⟨b,off,none⟩) n c] w fun r w'=>(∃i:Int,r=.returned (.int .i64 i)/\(i < 0\/∃j:Nat,i=(j:Nat)/\j < n/\∃k,k≠1/\StepAt w b (off+j*7) k))/\Below w.heap.size w w':=by
 have HS:=hid hS
 have HX:=hid hX
 have HC:=hid hc
 have W0:Hid (Wn w.heap.size (w.alloc (.cells #[.slice none 0 0,.slice none 0 0,.slice none 0 0] 35))):=han w _
 have B0:=bRow w #[.slice none 0 0,.slice none 0 0,.slice none 0 0] 35
 clear hS hX hc
 go_enter Tryz.func6,Tryz.ntmps6
 go_wp2_with fail
 go_loopg [4] n (fun gk s4 wr=>∃j:Nat,j<=n/\s4=.int .i64 (j:Nat)/\gk=n - j/\Hid (Below w.heap.size w wr)/\Hid (Wn w.heap.size wr))
 case atStart=>exact⟨0,Nat.zero_le _,rfl,rfl,B0,W0⟩
 case round=>
  obtain⟨j,hj,rfl,hgk,KB,KW⟩:=hrel
  have HG:=hid hgk
  clear hgk
  by_cases hlt:j < n
  ·by_cases h60:(j:Int) < 1152921504606846976
   ·obtain⟨k,hk⟩:=HC.out j hlt
    have HST:=hid hk
    obtain⟨a,b',c',s,lo,uo,ln,lc,un,uc,h0,h1,h2,h3,h4,h5,h6,hU⟩:=hk.below KB.out
    have HU:=hid hU
    have HLT:=hid hlt
    have hw:IntKind.i64.wrap ((j:Int)+1)=(j:Int)+1:=by
     simp only[IntKind.wrap_i64];omega
    clear hU hk hj
    go_wp2_with fail
    refine (step_any w.heap.size (HS.out _) k a b' c' s lo uo ln lc un uc _ KW.out ((HS.out 0).keep _ _ HX.out KB.out) HU.out).mono ?_
    rintro r w1 ⟨⟨z,rfl,hz⟩,hb⟩
    have B1:=hid (below_stepL KB.out hb)
    have W1:=hid (KW.out.below hb)
    have HZ:=hid hz
    clear h0 h1 h2 h3 h4 h5 h6 hb hz
    cases z
    ·go_wp2_with fail
     all_goals go_ret
     all_goals exact⟨⟨_,rfl,Or.inr ⟨j,rfl,HLT.out,k,(fun e=>by have:=HZ.out (Or.inl e);cases this),HST.out⟩⟩,B1.out⟩
    ·go_wp2_with fail
     go_roundg (n - (j+1))
     case measure=>
      have h1:=HG.out
      have h2:=HLT.out
      omega
     case rel=>exact⟨j+1,HLT.out,rfl,rfl,B1,W1⟩
   ·have q1:((j:Int) < 1152921504606846976)=False:=by simp;omega
    have q0:((j:Int) < (n:Int))=True:=by simp;omega
    clear hj
    go_wp2_with fail
    all_goals go_ret
    all_goals exact⟨⟨_,rfl,Or.inl (by decide)⟩,KB.out⟩
  ·have q0:((j:Int) < (n:Int))=False:=by simp;omega
   clear hj hlt
   go_wp2_with fail
   all_goals go_ret
   all_goals exact⟨⟨_,rfl,Or.inl (by decide)⟩,KB.out⟩
theorem upTo_zero (o:Option Addr) (c:Nat) (w:World) :
  Calls Tryz.prog 6 #[.slice o 0 c] w fun r w'=>r=.returned (.int .i64 (-1))/\Below w.heap.size w w':=by
 have B0:=bRow w #[.slice none 0 0,.slice none 0 0,.slice none 0 0] 35
 go_enter Tryz.func6,Tryz.ntmps6
 go_wp2_with fail
 go_loopg [4] 0 (fun gk s4 wr=>s4=.int .i64 0/\gk=0/\Hid (Below w.heap.size w wr))
 case atStart=>exact⟨rfl,rfl,B0⟩
 case round=>
  obtain⟨rfl,rfl,KB⟩:=hrel
  go_wp2_with fail
  all_goals go_ret
  all_goals exact⟨rfl,KB.out⟩
theorem parses_some {X:World->Prop} (hS:∀wb,Said X wb) (b off n c:Nat) (w:World) (hX:X w) (hc:Script w b off n) :
  Calls Tryz.prog 3 #[.slice (some ⟨b,off,none⟩) n c] w fun r w'=>r=.returned (.bool true)/\Below w.heap.size w w':=by
 have first:Calls Tryz.prog 5 #[.slice (some ⟨b,off,none⟩) n c,.int .i64 1,.int .i64 1,.int .i64 1] w fun r w'=>r=.returned (.bool true)/\Below w.heap.size w w':=by
  have HU:=upTo_some hS b off n c w hX hc
  have H:=hid HU
  clear hS hX hc HU
  go_enter Tryz.func5,Tryz.ntmps5
  go_wp2_with fail
  refine H.out.mono ?_
  rintro r w1 ⟨⟨i,rfl,hi⟩,hb⟩
  have B1:=hid hb
  rcases hi with hi|⟨j,rfl,hj,k,hk,hs⟩
  ·have q0:(i < 0)=True:=by simp;omega
   clear hi hb
   go_wp2_with fail
   all_goals go_ret
   all_goals exact⟨rfl,B1.out⟩
  ·obtain⟨_,_,_,_,_,_,_,_,_,_,h0,_⟩:=hs.below hb
   have q0:(((j:Nat):Int) < 0)=False:=by simp
   have i1:(0:Int)<=(j:Int):=by omega
   have i2:(j:Int) < (n:Int):=by omega
   have q1:(k != 1)=true:=by rw[bne_iff_ne];exact hk
   clear hs hb hk
   go_wp2_with fail
   all_goals go_ret
   all_goals exact⟨rfl,B1.out⟩
 have H:=hid first
 clear first hS hX hc
 go_enter Tryz.func3,Tryz.ntmps3
 go_wp2_with fail
 refine H.out.mono ?_
 rintro r w1 ⟨rfl,hb⟩
 have B1:=hid hb
 clear hb
 go_wp2_with fail
 all_goals go_ret
 all_goals exact⟨rfl,B1.out⟩
theorem parses_zero (o:Option Addr) (c:Nat) (w:World) :
  Calls Tryz.prog 3 #[.slice o 0 c] w fun r w'=>r=.returned (.bool true)/\Below w.heap.size w w':=by
 have first:Calls Tryz.prog 5 #[.slice o 0 c,.int .i64 1,.int .i64 1,.int .i64 1] w fun r w'=>r=.returned (.bool true)/\Below w.heap.size w w':=by
  have H:Hid (Calls _ _ _ _ _):=upTo_zero o c w
  go_enter Tryz.func5,Tryz.ntmps5
  go_wp2_with fail
  refine H.out.mono ?_
  rintro r w1 ⟨rfl,hb⟩
  have B1:=hid hb
  clear hb
  go_wp2_with fail
  all_goals go_ret
  all_goals exact⟨rfl,B1.out⟩
 have H:=hid first
 clear first
 go_enter Tryz.func3,Tryz.ntmps3
 go_wp2_with fail
 refine H.out.mono ?_
 rintro r w1 ⟨rfl,hb⟩
 have B1:=hid hb
 clear hb
 go_wp2_with fail
 all_goals go_ret
 all_goals exact⟨rfl,B1.out⟩
end
section
open Go.ChangeShapes Go.WideShapes Go.ChangeAt Go.RowKit Go.Deep
theorem cellsOp:Tryz.prog.cellsOf 29=7:=by kernel_rfl
theorem cellsWord:Tryz.prog.cellsOf 177=1:=by kernel_rfl
theorem bytesWord:Tryz.prog.bytesOf 177=8:=by kernel_rfl
theorem weightsAll_mem {H:Type} {P:Program} {e:TypeId} {x:Nat} {d:DataW H} (hx:x∈d.weights P e):∀{l:List (DataW H)},d∈l->x∈DataW.weightsAll P e l
 | [],h=>by cases h
 | y::r,h=>by
  rw[DataW.weightsAll]
  rcases List.mem_cons.1 h with rfl|h
  ·exact List.mem_append_left _ hx
  ·exact List.mem_append_right _ (weightsAll_mem hx h)
theorem weightsEach_at {H:Type} {P:Program} {x:Nat} {d:DataW H} {t:TypeId} (hx:x∈d.weights P t):∀{ts:List TypeId} {ds:List (DataW H)} {i:Nat},ts[i]?=some t->ds[i]?=some d->x∈DataW.weightsEach P ts ds
 | [],_,_,h,_=>by cases h
 | _::_,[],_,_,h=>by cases h
 | u::ts,y::r,0,h1,h2=>by
  rw[DataW.weightsEach]
  have e1:u=t:=by simpa using h1
  have e2:y=d:=by simpa using h2
  subst e1 e2
  exact List.mem_append_left _ hx
 | u::ts,y::r,i+1,h1,h2=>by
  rw[DataW.weightsEach]
  exact List.mem_append_right _ (weightsEach_at hx (ts:=ts) (ds:=r) (i:=i) (by simpa using h1) (by simpa using h2))
theorem head_of {cs:List Value} {o n:Nat} {v:Value} (e:(cs.drop o).take n=[v]) (hn:n=1):cs[o]?=some v:=by
 have:=congrArg (·[0]?) e
 simpa [List.getElem?_take,List.getElem?_drop,hn] using this
theorem open_words {H:Type} {enc:TypeId×Value->H} {W:World} {fuel:Nat} {v:Value} {x:DataW H×List MemPlace} (h:DataW.trod enc Tryz.prog W 0 (fun _=>true) true fuel 27 [v]=some x) (hw:∀y,y∈x.1.weights Tryz.prog 27->y<=reachBytes) :
  ∃o n c,v=.slice o n c/\Us W (.slice o n c):=by
 rcases open_slice Tryz.underlying27 h with ⟨e,_⟩|⟨a,len,cap,m,n,D,Pl,e,_,hl,_,hm,hxx,hx⟩
 ·have e':v=.slice none 0 0:=by simpa using e
  exact⟨_,_,_,e',none,0,0,rfl,by decide,Or.inl rfl⟩
 ·have hm':m=cap:=by simpa using hm
  have e':v=.slice (some a) len cap:=by simpa using e
  have hby:len*8<=140737488355328:=by
   have:=hw ((len+(m - len))*8) (by
    rw[hxx]
    show _∈DataW.weights Tryz.prog 27 (.slice _ _)
    rw[DataW.weights,Tryz.underlying27]
    show _∈_*Tryz.prog.bytesOf 177::_
    rw[bytesWord]
    simp)
   have r:reachBytes=140737488351232:=by decide
   rw[r] at this
   omega
  refine⟨_,_,_,e',some a,len,cap,rfl,hby,?_⟩
  by_cases h0:len=0
  ·exact Or.inl h0
  ·right
   obtain⟨b,off,spot⟩:=a
   have each:∀j,j < len->∃y:Int,W.cell? ((⟨b,off,spot⟩:Addr).add j)=some (.int .u64 y):=fun j hj=>by
    obtain⟨cs',h1,h2⟩:=hx j (by omega)
    rw[cellsWord] at h1
    obtain⟨_,hlen,hcell⟩:=World.cells?_some h1
    obtain⟨y,e1,_,_⟩:=DataW.trod_int Tryz.underlying177 h2
    have h4:=hcell 0 (by decide)
    rw[add_add,e1] at h4
    exact⟨y,by simpa using h4⟩
   have hspot:spot=none:=by
    obtain⟨y,hy⟩:=each 0 (by omega)
    simpa [Addr.add] using World.cell?_spot hy
   subst hspot
   have each':∀j,j < len->∃y:Int,W.cell? ⟨b,off+j,none⟩=some (.int .u64 y):=fun j hj=>by
    obtain⟨y,hy⟩:=each j hj
    rw[Addr.add_lit] at hy
    exact⟨y,hy⟩
   let f:Nat->Int:=fun j=>if h:j < len then (each' j h).choose else 0
   refine⟨b,off,rfl,(List.range len).map f,by simp,fun j y hy=>?_⟩
   rw[List.getElem?_map] at hy
   obtain⟨q,hq,rfl⟩:=oms hy
   have hq2:=lgs hq
   have hj:j < len:=by simpa using hq2.1
   have hqj:q=j:=by rw[<-hq2.2];simp
   subst hqj
   rw[(each' q hj).choose_spec]
   simp only[f,dif_pos hj]
theorem open_script {H:Type} {enc:TypeId×Value->H} {W:World} {fuel:Nat} {cs:List Value} {x:DataW H×List MemPlace} (h:DataW.trod enc Tryz.prog W 0 (fun _=>true) true fuel 22 cs=some x) (hw:∀y,y∈x.1.weights Tryz.prog 22->y<=reachBytes) :
  (∃o c,cs=[.slice o 0 c])\/∃b off n c,cs=[.slice (some ⟨b,off,none⟩) n c]/\Script W b off n:=by
 rcases open_slice Tryz.underlying22 h with ⟨rfl,_⟩|⟨a,len,cap,m,n,D,P,rfl,_,hl,_,hm,hxx,hx⟩
 ·exact Or.inl ⟨_,_,rfl⟩
 ·have hm':m=cap:=by simpa using hm
  by_cases h0:len=0
  ·subst h0
   exact Or.inl ⟨_,_,rfl⟩
  ·right
   obtain⟨b,off,spot⟩:=a
   have hspot:spot=none:=by
    obtain⟨z,hz⟩:∃z:Nat,z=0:=⟨0,rfl⟩
    obtain⟨cs',h1,h2⟩:=hx z (by omega)
    rw[cellsOp] at h1
    clear hx h2
    subst hz
    obtain⟨_,hlen,hcell⟩:=World.cells?_some h1
    have g0:=hcell 0 (by decide)
    obtain⟨c0,hc0⟩:∃c0,cs'[0]?=some c0:=⟨_,List.getElem?_eq_getElem (by omega)⟩
    rw[hc0] at g0
    simpa [Addr.add] using World.cell?_spot g0
   subst hspot
   refine⟨b,off,len,cap,rfl,fun j hj=>?_⟩
   obtain⟨cs',h1,h2⟩:=hx j (by omega)
   rw[cellsOp] at h1
   obtain⟨_,hlen,hcell⟩:=World.cells?_some h1
   obtain⟨xs,k,_,hDj,_,hxl,hf⟩:=DataW.trod_struct Tryz.underlying29 h2
   have hxl':xs.length=7:=hxl
   have fld:∀i,i < 7->∃y,xs[i]?=some y:=fun i hi=>⟨_,List.getElem?_eq_getElem (by omega)⟩
   have cell:∀(i:Nat) (v:Value),i < 7->cs'[i]?=some v->W.cell? ⟨b,off+j*7+i,none⟩=some v:=fun i v hi hv=>by
    have h4:=hcell i hi
    rw[add_add,hv,Addr.add_lit,<-Nat.add_assoc] at h4
    exact h4
   obtain⟨y0,hy0⟩:=fld 0 (by decide)
   obtain⟨y1,hy1⟩:=fld 1 (by decide)
   obtain⟨y2,hy2⟩:=fld 2 (by decide)
   obtain⟨y3,hy3⟩:=fld 3 (by decide)
   obtain⟨y4,hy4⟩:=fld 4 (by decide)
   obtain⟨y5,hy5⟩:=fld 5 (by decide)
   obtain⟨y6,hy6⟩:=fld 6 (by decide)
   have g0:=hf 0 _ rfl
   rw[hy0] at g0
   have g1:=hf 1 _ rfl
   rw[hy1] at g1
   have g2:=hf 2 _ rfl
   rw[hy2] at g2
   have g3:=hf 3 _ rfl
   rw[hy3] at g3
   have g4:=hf 4 _ rfl
   rw[hy4] at g4
   have g5:=hf 5 _ rfl
   rw[hy5] at g5
   have g6:=hf 6 _ rfl
   rw[hy6] at g6
   have ci:Tryz.prog.cellsOf 3=1:=by kernel_rfl
   have cst:Tryz.prog.cellsOf 9=1:=by kernel_rfl
   have cl:Tryz.prog.cellsOf 26=1:=by kernel_rfl
   have cu:Tryz.prog.cellsOf 27=1:=by kernel_rfl
   obtain⟨z0,e0,_,_⟩:=DataW.trod_int Tryz.underlying3 g0
   obtain⟨z1,e1,_,_⟩:=DataW.trod_int Tryz.underlying3 g1
   obtain⟨z2,e2,_,_⟩:=DataW.trod_int Tryz.underlying3 g2
   obtain⟨z3,e3,_,_⟩:=DataW.trod_int Tryz.underlying3 g3
   obtain⟨s,e4,_,_⟩:=DataW.trod_string Tryz.underlying9 g4
   obtain⟨lo,ln,lc,e5⟩:∃lo ln lc,(cs'.drop 5).take 1=[.slice lo ln lc]:=by
    rcases open_slice Tryz.underlying26 g5 with ⟨e,_⟩|⟨_,_,_,_,_,_,_,e,_⟩
    ·exact⟨_,_,_,by rw[<-cl];exact e⟩
    ·exact⟨_,_,_,by rw[<-cl];exact e⟩
   obtain⟨v6,hv6⟩:∃v,cs'[6]?=some v:=⟨_,List.getElem?_eq_getElem (by omega)⟩
   have d6:(cs'.drop 6).take (Tryz.prog.cellsOf 27)=[v6]:=by
    rw[cu]
    obtain⟨hi,rfl⟩:=lgs hv6
    rw[List.drop_eq_getElem_cons hi]
    rfl
   have g6':DataW.trod enc Tryz.prog W 0 (fun _=>true) true k 27 [v6]=some y6:=by
    rw[<-d6]
    exact g6
   obtain⟨uo,un,uc,e6,hU⟩:=open_words g6' (fun y hy=>hw y (by
    rw[hxx]
    show _∈DataW.weights Tryz.prog 22 (.slice _ _)
    rw[DataW.weights,Tryz.underlying22]
    refine List.mem_cons_of_mem _ (List.mem_append_left _ (weightsAll_mem (d:=D j) ?_ (List.mem_map_of_mem (List.mem_range.2 hj))))
    have hD:D j=.agg (xs.map (·.1)):=congrArg Prod.fst hDj
    rw[hD,DataW.weights,Tryz.underlying29]
    exact weightsEach_at (i:=6) hy rfl (by rw[List.getElem?_map,hy6];rfl)))
   refine⟨z0,z1,z2,z3,s,lo,uo,ln,lc,un,uc,?_,cell 1 _ (by decide) (head_of e1 ci),cell 2 _ (by decide) (head_of e2 ci),cell 3 _ (by decide) (head_of e3 ci),cell 4 _ (by decide) (head_of e4 cst),cell 5 _ (by decide) (head_of e5 rfl),cell 6 _ (by decide) (by rw[hv6,e6]),hU⟩
   exact cell 0 _ (by decide) (head_of e0 ci)
end
section
open Go.RowKit
namespace Ref
open Mil
structure Fl where
 name:Bytes
 ty:Nat
 pe:Nat
 inp:Bool
 outp:Bool
 item:Nat
def flCells (f:Fl):List Value:=[.string (bs f.name),.int .i64 (f.ty:Nat),.int .i64 (f.pe:Nat),.bool f.inp,.bool f.outp,.int .i64 (f.item:Nat)]
def fnd (F:List Fl) (x:Bytes):Option Nat:=F.findIdx? (fun f=>f.name==x)
def fndI (F:List Fl) (x:Bytes):Int:=match fnd F x with|some k=>(k:Int)|none=>-1
theorem fnd_lt {F:List Fl} {x:Bytes} {k:Nat} (h:fnd F x=some k):k < F.length:=(List.findIdx?_eq_some_iff_getElem.1 h).1
theorem fnd_names {F G:List Fl} (h:F.map Fl.name=G.map Fl.name) (x:Bytes):fnd F x=fnd G x:=by
 have e:∀H:List Fl,fnd H x=(H.map Fl.name).findIdx? (fun n=>n==x):=fun H=>by
  unfold fnd
  rw[List.findIdx?_map];rfl
 rw[e F,e G,h]
end Ref
abbrev fls (F:List Ref.Fl):List Value:=F.flatMap Ref.flCells
structure UM (B ub g:Nat) (iv nv fv tv:Value) (ns:List Ref.Nd) (I:List Iw) (F:List Ref.Fl) (w:World):Prop where
 un:w.heap[ub]?=some (.cells #[.pointer (some ⟨g,0,none⟩),fv,tv] 129 (0,0))
 pi:PI 0 g iv nv ns I w
 fl:w.ownsRow B 136 6 fv F.length (fls F)
theorem UM.below {B ub g:Nat} {iv nv fv tv:Value} {ns:List Ref.Nd} {I:List Iw} {F:List Ref.Fl} {w w':World} (h:UM B ub g iv nv fv tv ns I F w) (hb:Below w.heap.size w w'):UM B ub g iv nv fv tv ns I F w':=
 ⟨(hb.block _ (ags h.un).1).trans h.un,h.pi.below hb,own_kept h.fl (fun k hk=>hb.block k (h.fl.lt k hk).2)⟩
theorem UM.cells {B ub g:Nat} {iv nv fv tv:Value} {ns:List Ref.Nd} {I:List Iw} {F:List Ref.Fl} {w:World} (h:UM B ub g iv nv fv tv ns I F w):w.cell? ⟨ub,0,none⟩=some (.pointer (some ⟨g,0,none⟩))/\w.cell? ⟨ub,1,none⟩=some fv/\w.cell? ⟨ub,2,none⟩=some tv:=by
 refine⟨?_,?_,?_⟩
 ·rw[cor w _ 0 _ _ _ h.un];rfl
 ·rw[cor w _ 1 _ _ _ h.un];rfl
 ·rw[cor w _ 2 _ _ _ h.un];rfl
theorem UM.flow6 {B ub g:Nat} {iv nv fv tv:Value} {ns:List Ref.Nd} {I:List Iw} {F:List Ref.Fl} {w:World} (h:UM B ub g iv nv fv tv ns I F w) {i:Nat} {y:Ref.Fl} (hy:F[i]?=some y) :
  ∃k c,fv=.slice (some ⟨k,0,none⟩) F.length c/\w.cell? ⟨k,i*6,none⟩=some (.string (bs y.name))/\w.cell? ⟨k,i*6+1,none⟩=some (.int .i64 (y.ty:Nat))/\w.cell? ⟨k,i*6+2,none⟩=some (.int .i64 (y.pe:Nat))/\w.cell? ⟨k,i*6+3,none⟩=some (.bool y.inp)/\w.cell? ⟨k,i*6+4,none⟩=some (.bool y.outp)/\w.cell? ⟨k,i*6+5,none⟩=some (.int .i64 (y.item:Nat)):=by
 have hl:=(lgs hy).1
 have all:∃k c,fv=.slice (some ⟨k,0,none⟩) F.length c/\∀j,j < 6->w.cell? ⟨k,i*6+j,none⟩=(Ref.flCells y)[j]?:=by
  obtain⟨h1,⟨h2,h3⟩|⟨k,cap,cur,rfl,hbk,hk,hcap,hmx,hsz,htk⟩⟩:=h.fl
  ·omega
  ·refine⟨k,cap,rfl,fun j hj=>?_⟩
   have e1:=flat_at (f:=Ref.flCells) (c:=6) (fun _=>rfl) F i j _ hy hj
   have e2:(fls F)[i*6+j]?=(Ref.flCells y)[j]?:=e1
   rw[cor w k _ _ _ _ hk,<-e2,<-htk,List.getElem?_take]
   rw[if_pos (by omega)]
   simp
 obtain⟨k,c,hv,hc⟩:=all
 exact⟨k,c,hv,hc 0 (by decide),hc 1 (by decide),hc 2 (by decide),hc 3 (by decide),hc 4 (by decide),hc 5 (by decide)⟩
theorem find_any (B ub g:Nat) (iv nv fv tv:Value) (ns:List Ref.Nd) (I:List Iw) (F:List Ref.Fl) (hF:F.length<=4000) (x:Mil.Bytes) (w:World) (h:UM B ub g iv nv fv tv ns I F w) :
  Calls Tryz.prog 101 #[.pointer (some ⟨ub,0,none⟩),.string (bs x)] w fun e w'=>e=.returned (.int .i64 (Ref.fndI F x))/\Below w.heap.size w w':=by
 have H:=hid h
 obtain⟨o,c,hfv⟩:=own_shape h.fl
 have d1:=h.cells.2.1
 rw[hfv] at d1
 have HFV:=hid hfv
 have HL:=hid hF
 clear h hfv hF
 go_enter Tryz.func101,Tryz.ntmps101
 go_wp2_with fail
 go_loopg [5] F.length (fun gk s5 wr=>∃(i:Nat),s5=.int .i64 (i:Nat)/\i<=F.length/\gk=F.length - i/\wr=w/\Hid (∀j f,j < i->F[j]?=some f->f.name≠x))
 case atStart=>exact⟨0,rfl,Nat.zero_le _,rfl,rfl,fun j f h=>by omega⟩
 case round=>
  obtain⟨i,rfl,hi,hg,rfl,HN⟩:=hrel
  have HG:=hid hg
  clear hg
  by_cases hlt:i < F.length
  ·have b0:((i:Int) < (F.length:Int))=True:=by simp;omega
   have i1:(0:Int)<=(i:Int):=by omega
   have i2:(i:Int) < (F.length:Int):=by omega
   have hy:F[i]?=some F[i]:=List.getElem?_eq_getElem hlt
   generalize F[i]=y at hy
   obtain⟨k,cc,hv2,c0,c1,c2,c3,c4,c5⟩:=H.out.flow6 hy
   obtain⟨ho,hcc⟩:o=some ⟨k,0,none⟩/\c=cc:=by
    rw[HFV.out] at hv2
    injection hv2 with h1 h2 h3
    exact⟨h1,h3⟩
   subst ho
   subst hcc
   have HY:=hid hy
   have HLT:=hid hlt
   have hw:IntKind.i64.wrap ((i:Int)+1)=(i:Int)+1:=by
    have:=HL.out
    simp only[IntKind.wrap_i64];omega
   clear hv2 hy hlt hi
   by_cases hn:y.name=x
   ·have q:((bs y.name).toList==(bs x).toList)=true:=by rw[hn];simp
    have HN2:=hid hn
    clear hn
    go_wp2_with fail
    all_goals go_ret
    refine⟨?_,Below.refl _ _⟩
    have e:Ref.fnd F x=some i:=by
     unfold Ref.fnd
     rw[List.findIdx?_eq_some_iff_getElem]
     have h1:=lgs HY.out
     refine⟨h1.1,?_,fun j hj=>?_⟩
     ·rw[h1.2];simpa using HN2.out
     ·have hjl:j < F.length:=by have:=h1.1;omega
      have:=HN.out j F[j] hj (List.getElem?_eq_getElem hjl)
      simpa using this
    unfold Ref.fndI
    rw[e];rfl
   ·have q:((bs y.name).toList==(bs x).toList)=false:=by
     rw[beq_eq_false_iff_ne]
     rw[Lib.toList_data,bs_list,Lib.toList_data,bs_list]
     exact hn
    have HN2:=hid hn
    clear hn
    go_wp2_with fail
    go_roundg (F.length - (i+1))
    case measure=>
     have h1:=HG.out
     have h2:=HLT.out
     omega
    case rel=>
     refine⟨i+1,rfl,HLT.out,rfl,rfl,fun j f hj hf=>?_⟩
     by_cases hji:j=i
     ·subst hji
      rw[HY.out] at hf
      obtain rfl:=osi hf
      exact HN2.out
     ·exact HN.out j f (by omega) hf
  ·have b0:((i:Int) < (F.length:Int))=False:=by simp;omega
   have HE:Hid (F.length<=i):=by
    show F.length<=i
    omega
   clear hlt hi
   go_wp2_with fail
   all_goals go_ret
   refine⟨?_,Below.refl _ _⟩
   have e:Ref.fnd F x=none:=by
    unfold Ref.fnd
    rw[List.findIdx?_eq_none_iff]
    intro f hf
    obtain⟨j,hj⟩:=List.mem_iff_getElem?.1 hf
    have hjl:=(lgs hj).1
    have:=HN.out j f (by have:=HE.out;omega) hj
    simpa using this
   unfold Ref.fndI
   rw[e];rfl
end
section
open Go.RowKit
namespace Ref
open Mil
theorem tree_induct {ns:List Nd} {Q:E->Nat->Prop}
  (hN:∀e i p v ng,ns[i]?=some ⟨1,[],p,v,ng,0,0,0⟩->(e=eInt v\/e=ePre sMinus (eInt v))->Q e i) (hB:∀i p v,ns[i]?=some ⟨2,[],p,v,false,0,0,0⟩->Q (eBool v) i)
  (hX:∀i p x,ns[i]?=some ⟨3,x,p,0,false,0,0,0⟩->Q (eName x) i)
  (hU:∀i p y a a',ns[i]?=some ⟨4,y,p,0,false,a',0,0⟩->(y=wNot\/y=sMinus)->Q a a'->Q (ePre y a) i)
  (hS:∀i p v a a',ns[i]?=some ⟨8,wUnder,p,v,false,a',0,0⟩->2<=v->v<=1000->Q a a'->Q (eUnder a v) i)
  (hF:∀i p a b a' b',ns[i]?=some ⟨7,wFby,p,0,false,a',b',0⟩->isConst a->Q a a'->Q b b'->Q (eFby a b) i)
  (hH:∀i p v a b a' b',ns[i]?=some ⟨9,wHold,p,v,false,a',b',0⟩->2<=v->v<=1000->isConst a->Q a a'->Q b b'->Q (eHold a b v) i)
  (hT:∀i p y a b a' b',ns[i]?=some ⟨5,y,p,0,false,a',b',0⟩->tightOf y≠9->Q a a'->Q b b'->Q (eTwo y a b) i)
  (hL:∀i p y a b a' b',ns[i]?=some ⟨10,y,p,0,false,a',b',0⟩->(y=wMin\/y=wMax)->Q a a'->Q b b'->Q (eLeast y a b) i)
  (hI:∀i p a b c a' b' c',ns[i]?=some ⟨6,wIf,p,0,false,a',b',c'⟩->Q a a'->Q b b'->Q c c'->Q (eIf a b c) i) :
  ∀e,wf e false->∀i,Has ns e i->Q e i:=by
 have kInt:∀k:Nat,∀i,Has ns (eInt k) i->Q (eInt k) i:=fun k i hi=>by
  have hr:=hi.2
  rcases hr with ⟨c,_⟩|⟨_,p,d⟩|⟨c,_⟩|⟨c,_⟩|⟨c,_⟩|⟨c,_⟩|⟨c,_⟩|⟨c,_⟩|⟨_,_,_,_,_,c,_⟩
  case inr.inl=>exact hN _ _ _ _ _ d (Or.inl rfl)
  all_goals first|exact absurd c (by decide)|(rcases c with ⟨c,_⟩|⟨c,_⟩|⟨c,_⟩|⟨c,_⟩ <;> exact absurd c (by decide))
 have kBool:∀k:Nat,∀i,Has ns (eBool k) i->Q (eBool k) i:=fun k i hi=>by
  have hr:=hi.2
  rcases hr with ⟨c,_⟩|⟨c,_⟩|⟨_,p,d⟩|⟨c,_⟩|⟨c,_⟩|⟨c,_⟩|⟨c,_⟩|⟨c,_⟩|⟨_,_,_,_,_,c,_⟩
  case inr.inr.inl=>exact hB _ _ _ d
  all_goals first|exact absurd c (by decide)|(rcases c with ⟨c,_⟩|⟨c,_⟩|⟨c,_⟩|⟨c,_⟩ <;> exact absurd c (by decide))
 have kPre:∀x a,(x=wNot\/x=sMinus)->(∀i,Has ns a i->Q a i)->∀i,Has ns (ePre x a) i->Q (ePre x a) i:=fun x a hx ha i hi=>by
  have hr:=hi.2
  rcases hr with ⟨c,_⟩|⟨c,_⟩|⟨c,_⟩|⟨c,_⟩|⟨_,c2,p,v,d1,d2⟩|⟨_,p,a',d1,d2,d3⟩|⟨c,_⟩|⟨c,_⟩|⟨_,_,_,_,_,c,_⟩
  case inr.inr.inr.inr.inl=>exact hN _ _ _ _ _ d2 (Or.inr (by rw[c2,d1]))
  case inr.inr.inr.inr.inr.inl=>exact hU _ _ _ _ _ d1 hx (ha a' ⟨by have:=hi.1;omega,d3⟩)
  all_goals first|exact absurd c (by decide)|(rcases c with ⟨c,_⟩|⟨c,_⟩|⟨c,_⟩|⟨c,_⟩ <;> exact absurd c (by decide))
 have kConst:∀a,isConst a->∀i,Has ns a i->Q a i:=fun a h=>by
  rcases h with ⟨k,_,rfl⟩|⟨k,_,rfl⟩|⟨k,_,rfl⟩
  ·exact kInt k
  ·exact kBool k
  ·exact kPre _ _ (Or.inr rfl) (kInt k)
 refine wf_induct (P:=fun e=>∀i,Has ns e i->Q e i) (fun k _=>kInt k) (fun k _=>kBool k) ?_ (fun x a hx _ ha=>kPre x a hx ha) ?_ ?_ ?_ ?_ ?_ ?_
 ·intro x hx i hi
  have hr:=hi.2
  rcases hr with ⟨c,_⟩|⟨c,_⟩|⟨c,_⟩|⟨_,p,d⟩|⟨c,_⟩|⟨c,_⟩|⟨c,_⟩|⟨c,_⟩|⟨_,_,_,_,_,c,_⟩
  case inr.inr.inr.inl=>exact hX _ _ _ d
  all_goals first|exact absurd c (by decide)|(rcases c with ⟨c,_⟩|⟨c,_⟩|⟨c,_⟩|⟨c,_⟩ <;> exact absurd c (by decide))
 ·intro x a b hx _ _ ha hb i hi
  obtain⟨p,a',b',y,v,c,d1,d2,d3⟩:=two_parts (Or.inl rfl) hi
  rcases c with ⟨_,rfl,rfl⟩|⟨c,_⟩|⟨c,_⟩|⟨c,_⟩
  ·exact hT _ _ _ _ _ _ _ d1 hx (ha a' d2) (hb b' d3)
  ·cases c
  ·cases c
  ·cases c
 ·intro a b c _ _ _ ha hb hc i hi
  have hl:=hi.1
  have hr:=hi.2
  rcases hr with ⟨c,_⟩|⟨c,_⟩|⟨c,_⟩|⟨c,_⟩|⟨c,_⟩|⟨c,_⟩|⟨c,_⟩|⟨_,p,a',b',c',d1,d2,d3,d4,d5,d6⟩|⟨_,_,_,_,_,c,_⟩
  case inr.inr.inr.inr.inr.inr.inr.inl=>
   have d67:Ref.Rep ns b b' 0/\Ref.Rep ns c c' 0:=by
    rcases d6 with ⟨_,e1,e2⟩|⟨c,_⟩|⟨c,_⟩|⟨c,_⟩|⟨c,_⟩|⟨c,_⟩|⟨c,_⟩|⟨c,_⟩|⟨_,_,_,_,_,c,_⟩
    case inl=>exact⟨e1,e2⟩
    all_goals first|exact absurd c (by decide)|(rcases c with ⟨c,_⟩|⟨c,_⟩|⟨c,_⟩|⟨c,_⟩ <;> exact absurd c (by decide))
   exact hI _ _ _ _ _ _ _ _ d1 (ha a' ⟨by omega,d5⟩) (hb b' ⟨by omega,d67.1⟩) (hc c' ⟨by omega,d67.2⟩)
  all_goals first|exact absurd c (by decide)|(rcases c with ⟨c,_⟩|⟨c,_⟩|⟨c,_⟩|⟨c,_⟩ <;> exact absurd c (by decide))
 ·intro a b hca _ hb i hi
  obtain⟨p,a',b',y,v,c,d1,d2,d3⟩:=two_parts (Or.inr (Or.inl rfl)) hi
  rcases c with ⟨c,_⟩|⟨_,rfl,rfl⟩|⟨c,_⟩|⟨c,_⟩
  ·cases c
  ·exact hF _ _ _ _ _ _ d1 hca (kConst a hca a' d2) (hb b' d3)
  ·cases c
  ·cases c
 ·intro a k h2 h1000 _ ha i hi
  have hl:=hi.1
  have hr:=hi.2
  rcases hr with ⟨c,_⟩|⟨c,_⟩|⟨c,_⟩|⟨c,_⟩|⟨c,_⟩|⟨c,_⟩|⟨_,p,a',d1,d2,d3⟩|⟨c,_⟩|⟨_,_,_,_,_,c,_⟩
  case inr.inr.inr.inr.inr.inr.inl=>exact hS _ _ _ _ _ d1 h2 h1000 (ha a' ⟨by omega,d3⟩)
  all_goals first|exact absurd c (by decide)|(rcases c with ⟨c,_⟩|⟨c,_⟩|⟨c,_⟩|⟨c,_⟩ <;> exact absurd c (by decide))
 ·intro a b k h2 h1000 hca _ hb i hi
  obtain⟨p,a',b',y,v,c,d1,d2,d3⟩:=two_parts (Or.inr (Or.inr (Or.inl rfl))) hi
  rcases c with ⟨c,_⟩|⟨c,_⟩|⟨_,rfl,rfl⟩|⟨c,_⟩
  ·cases c
  ·cases c
  ·exact hH _ _ _ _ _ _ _ d1 h2 h1000 hca (kConst a hca a' d2) (hb b' d3)
  ·cases c
 ·intro x a b hx _ _ ha hb i hi
  obtain⟨p,a',b',y,v,c,d1,d2,d3⟩:=two_parts (Or.inr (Or.inr (Or.inr rfl))) hi
  rcases c with ⟨c,_⟩|⟨c,_⟩|⟨c,_⟩|⟨_,rfl,rfl⟩
  ·cases c
  ·cases c
  ·cases c
  ·exact hL _ _ _ _ _ _ _ d1 hx (ha a' d2) (hb b' d3)
def namesIn:E->List Bytes
 | .nil=>[]
 | .node t _ x a b=>(if t=3 then [x] else [])++namesIn a++namesIn b
def Closed (F:List Fl) (e:E):Prop:=∀x,x∈namesIn e->fnd F x≠none
theorem closed_const {F:List Fl} {c:E} (h:isConst c):Closed F c:=by
 rcases h with ⟨k,_,rfl⟩|⟨k,_,rfl⟩|⟨k,_,rfl⟩ <;> (intro x hx;simp[namesIn,eInt,eBool,ePre] at hx)
theorem closed_two {F:List Fl} {t k:Nat} {x:Bytes} {a b:E} (ht:t≠3):Closed F (.node t k x a b)↔Closed F a/\Closed F b:=by
 unfold Closed
 have e:namesIn (.node t k x a b)=namesIn a++namesIn b:=by
  show (if t=3 then [x] else [])++namesIn a++namesIn b=_
  rw[if_neg ht];rfl
 rw[e]
 constructor
 ·intro h
  exact⟨fun y hy=>h y (List.mem_append_left _ hy),fun y hy=>h y (List.mem_append_right _ hy)⟩
 ·rintro ⟨h1,h2⟩ y hy
  rcases List.mem_append.1 hy with hy|hy
  ·exact h1 y hy
  ·exact h2 y hy
theorem closed_nil {F:List Fl}:Closed F .nil:=fun x hx=>by cases hx
theorem closed_name {F:List Fl} {x:Bytes} (h:Closed F (eName x)):∃k,fnd F x=some k:=by
 have:=h x (by simp[namesIn,eName])
 cases hf:fnd F x with
 | none=>exact absurd hf this
 | some k=>exact⟨k,rfl⟩
end Ref
end
end Go.Proofs.YtoiajojadihpbaaGreatDoor
