import Derived.Test.YtoiajojadihpbaaGreatDoorPt36
namespace Go.Proofs.YtoiajojadihpbaaGreatDoor
set_option maxHeartbeats 8000000
section
open Go.RowKit
set_option maxRecDepth 100000 in
theorem compiled_any (wb:Nat) (s:ByteArray) (w:World) (hC:∀w,Calls Tryz.prog 21 #[.string s] w (CpP w)) :
  Calls Tryz.prog 10 #[.pointer (some ⟨wb,0,none⟩),.string s] w fun r w'=>r=.returned (.bool false)∧Below w.heap.size w w':=by
 have HC:=hid hC
 clear hC
 go_enter Tryz.func10,Tryz.ntmps10
 go_wp2_with fail
 refine (plainCompile_any _ _).mono ?_
 rintro r w1 ⟨rfl,hb⟩
 have B1:=hid hb
 have B2:Hid (Below w.heap.size w (w1.alloc (.cells #[.int .i64 0,.int .i64 0] 40))):=B1.out.alloc B1.out.size _
 have F2:Hid ((w1.alloc (.cells #[.int .i64 0,.int .i64 0] 40)).heap[w1.heap.size]?=some (.cells #[.int .i64 0,.int .i64 0] 40 (0,0))):=heap_alloc_new w1 _
 clear hb
 go_wp2_with fail
 refine (HC.out _).mono ?_
 rintro r w3 ⟨⟨p,fe,fa,rfl⟩,hb⟩
 have B3:=hid (below_stepL B2.out hb)
 have f3:w3.heap[w1.heap.size]?=some (.cells #[.int .i64 0,.int .i64 0] 40 (0,0)):=(hb.block _ (by simp)).trans F2.out
 have B4:Hid (Below w.heap.size w (w3.alloc (.cells #[.int .i64 fe,.int .i64 fa] 44))):=B3.out.alloc B3.out.size _
 have H4:Hid (Below w3.heap.size w3 (w3.alloc (.cells #[.int .i64 fe,.int .i64 fa] 44))):=(Below.refl _ _).alloc (Nat.le_refl _) _
 have f4:(w3.alloc (.cells #[.int .i64 fe,.int .i64 fa] 44)).heap[w3.heap.size]?=some (.cells #[.int .i64 fe,.int .i64 fa] 44 (0,0)):=heap_alloc_new w3 _
 have f5:=(H4.out.block _ (Array.getElem?_eq_some_iff.1 f3).1).trans f3
 have F4:=hid f4
 obtain ⟨c0,c1,_⟩:=two_at f4
 obtain ⟨c2,c3,_⟩:=two_at f5
 clear hb f3 f4 f5
 go_upto_region 3 with (fail)
 generalize w3.alloc (.cells #[.int .i64 fe,.int .i64 fa] 44)=W at B4 F4 c0 c1 c2 c3 ⊢
 go_wp2_with fail
 refine (told_any 0 0 fe fa _).mono ?_
 rintro r w5 ⟨⟨z,rfl,hz⟩,hb⟩
 have B5:=hid (below_stepL B4.out hb)
 have f6:=(hb.block _ (Array.getElem?_eq_some_iff.1 F4.out).1).trans F4.out
 obtain ⟨e0,_,_⟩:=two_at f6
 clear hb f6 c0 c1 c2 c3
 by_cases h0:fe=0
 ·subst h0
  clear hz
  cases z
  all_goals (
   go_wp2_with fail
   all_goals go_ret
   all_goals exact ⟨rfl,B5.out⟩)
 ·have hzf:=hz (Ne.symm h0)
  subst hzf
  clear hz h0
  go_wp2_with fail
  all_goals go_ret
  all_goals exact ⟨rfl,B5.out⟩
end
end Go.Proofs.YtoiajojadihpbaaGreatDoor
