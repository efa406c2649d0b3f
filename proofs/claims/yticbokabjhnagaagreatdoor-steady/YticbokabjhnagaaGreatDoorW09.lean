import Derived.Test.YticbokabjhnagaaGreatDoorW07
import Derived.Test.YticbokabjhnagaaGreatDoorW08
import Derived.Deep.RegionHeld3
import Derived.Test.YticbokabjhnagaaGreatDoorW03
namespace Go.Proofs.YticbokabjhnagaaGreatDoor
set_option maxHeartbeats 32000000
section
open Go.RowKit
theorem here_any (b:Nat) (s:ByteArray) (st:Mil.St) (w:World) (h:RdS w b s st) :
  Calls Tryz.prog 155 #[.pointer (some ⟨b,0,none⟩)] w fun e w'=>e=.returned (.agg #[.int .i64 (place s.size st)])∧Below w.heap.size w w':=by
 obtain ⟨p,tp,x,hp,hR,hr,hx,hn⟩:=h
 have HB:Hid (Below w.heap.size w (w.alloc (.cells #[.int .i64 tp] 99))):=(Below.refl _ _).alloc (Nat.le_refl _) _
 have c4:=hR.c4
 have hlt:b < w.heap.size:=lt_of_cell hR.c4
 have c4':(w.alloc (.cells #[.int .i64 0] 99)).cell? ⟨b,4,none⟩=some (.int .i64 tp):=(((Below.refl w.heap.size w).alloc (Nat.le_refl _) _).cell hlt).trans c4
 have HT:Hid (tp=place s.size st):=hn.2.2
 clear hR hn hx hr
 go_enter Tryz.func155,Tryz.ntmps155
 go_wp2
 exact bodyPost_ret (v:=.agg #[.int .i64 tp]) (by simp [results,Tryz.results155,go_sem]) rfl ⟨by rw [HT.out],HB.out⟩
theorem atomHere_any (b:Nat) (s:ByteArray) (st:Mil.St) (w:World) (h:RdS w b s st) :
  Calls Tryz.prog 153 #[.pointer (some ⟨b,0,none⟩)] w fun e w'=>e=.returned (.agg #[.int .i64 (place s.size st)])∧Below w.heap.size w w':=by
 have hlt:b < w.heap.size:=by
  obtain ⟨p,tp,x,hp,hR,_⟩:=h
  exact lt_of_cell hR.c4
 have HB:Hid (Below w.heap.size w (w.alloc (.cells #[.int .i64 0] 101))):=(Below.refl _ _).alloc (Nat.le_refl _) _
 have H:Hid (RdS (w.alloc (.cells #[.int .i64 0] 101)) b s st):=h.kept (Kp.of_below (b:=b+1) HB.out) (by omega)
 have HN:Hid ((w.alloc (.cells #[.int .i64 0] 101)).heap[w.heap.size]?=some (.cells #[.int .i64 0] 101 (0,0))):=heap_alloc_new w _
 clear h
 go_enter Tryz.func153,Tryz.ntmps153
 go_wp2_with fail
 refine (here_any b s st _ H.out).mono ?_
 rintro e w1 ⟨rfl,hb1⟩
 have B1:Hid (Below w.heap.size w w1):=HB.out.trans (hb1.mono HB.out.size)
 have hn:w1.heap[w.heap.size]?=some (.cells #[.int .i64 0] 101 (0,0)):=(hb1.block _ (Array.getElem?_eq_some_iff.1 HN.out).1).trans HN.out
 have r0:w1.cell? ⟨w.heap.size,0,none⟩=some (.int .i64 0):=(cell_of_row _ _ 0 _ _ _ hn).trans rfl
 have z0:w1.frozen? ⟨w.heap.size,0,none⟩=false:=by unfold World.frozen?;rw [hn];simp
 clear hb1 hn
 go_wp2
 have r1:(w1.setCell ⟨w.heap.size,0,none⟩ (.int .i64 (place s.size st))).cell? ⟨w.heap.size,0,none⟩=some (.int .i64 (place s.size st)):=World.cell?_setCell_same _ _ _ r0
 exact bodyPost_ret (v:=.agg #[.int .i64 (place s.size st)]) (by simp [results,Tryz.results153,go_sem,r1]) rfl ⟨rfl,B1.out.setCell (p:=⟨w.heap.size,0,none⟩) (Nat.le_refl _) _⟩
structure Hd (a:Nat→Addr) (b:Nat) (s:ByteArray) (st:Mil.St) (w v:World) (q:Int) (k:Nat):Prop where
 kp:Kp b w v
 rd:RdS v b s st
 laid:Laid a v
 cell:v.cell? ⟨k,0,none⟩=some (.int .i64 q)
 ne:k≠b
theorem head_facts {a:Nat→Addr} {b:Nat} {s:ByteArray} {st:Mil.St} {w w0:World} {ty:TypeId} {q:Int} (L:Laid a w) (hb:23≤b) (h:RdS w b s st) (hw:Below w.heap.size w w0) :
  Hd a b s st w (w0.alloc (.cells #[.int .i64 q] ty)) q w0.heap.size:=by
 have hlt:b < w.heap.size:=by
  obtain ⟨p,tp,x,hp,hR,_⟩:=h
  exact lt_of_cell hR.c4
 have B1:Below w.heap.size w (w0.alloc (.cells #[.int .i64 q] ty)):=hw.alloc hw.size _
 have:=hw.size
 exact ⟨Kp.of_below B1,h.kept (Kp.of_below (b:=b+1) B1) (by omega),L.kept (Kp.of_below (b:=b) B1) hb,by simp,by omega⟩
theorem place_off (n:Nat) (st:Mil.St):place n st=(n:Int) - (Mip.off st:Nat):=by
 unfold place Mip.off;omega
end
section
open Go
section
variable {P:Program} {ops:Array Oper} {Q:Exit→Act→World→Prop} {md:Region.Mode} {S:World→Prop}
theorem at_list {i:Nat} {o:Oper} (h:ops.toList[i]?=some o):ops[i]?=some o:=by rw [←Array.getElem?_toList];exact h
theorem held_take (i:Nat) {oi:Oper} {v:Value} {fuel:Nat} {listed:Array Bool} {a:Act} {w:World} (hi:ops.toList[i]?=some oi)
  (hs:Region.noSelect ops=true) (hf:Region.free md ops listed i=true) (hr:(Region.ready md ops listed).contains i=true)
  (hQ:∀c a w,Q (.panic c) (a.put oi.dst v) w→Q (.panic c) a w) (hy:YieldsIf P ops S oi v a) (hS:S w)
  (h:wpAnyH P md ops Q S fuel (listed.setIfInBounds i true) (a.put oi.dst v) w):wpAnyH P md ops Q S (fuel+1) listed a w:=
 wpAnyH_take (at_list hi) hs hf hr hQ hy hS h
theorem held_one (i:Nat) {o:Oper} {fuel:Nat} {listed:Array Bool} {a:Act} {w:World} (hr:Region.ready md ops listed=[i]) (ho:ops.toList[i]?=some o)
  (h:∀K':Act→World→Prop,Shut (∀a w,S w→(S w→wpAnyH P md ops Q S fuel (listed.setIfInBounds i true) a w)→K' a w)→if Region.wanted o (yielded ops a.tmps)=true then Oper.wp P o a w K' Q else K' (a.put o.dst undef) w) :
  wpAnyH P md ops Q S (fuel+1) listed a w:=
 wpAnyH_all hr (by simp) (AllReadyH.cons (at_list ho) h AllReadyH.nil)
theorem held_two (i j:Nat) {o o':Oper} {fuel:Nat} {listed:Array Bool} {a:Act} {w:World} (hr:Region.ready md ops listed=[i,j]) (ho:ops.toList[i]?=some o) (ho':ops.toList[j]?=some o')
  (h:∀K':Act→World→Prop,Shut (∀a w,S w→(S w→wpAnyH P md ops Q S fuel (listed.setIfInBounds i true) a w)→K' a w)→if Region.wanted o (yielded ops a.tmps)=true then Oper.wp P o a w K' Q else K' (a.put o.dst undef) w)
  (h':∀K':Act→World→Prop,Shut (∀a w,S w→(S w→wpAnyH P md ops Q S fuel (listed.setIfInBounds j true) a w)→K' a w)→if Region.wanted o' (yielded ops a.tmps)=true then Oper.wp P o' a w K' Q else K' (a.put o'.dst undef) w) :
  wpAnyH P md ops Q S (fuel+1) listed a w:=
 wpAnyH_all hr (by simp) (AllReadyH.cons (at_list ho) h (AllReadyH.cons (at_list ho') h' AllReadyH.nil))
theorem region_held {id:Nat} {a:Act} {w:World} (S:World→Prop) (hm:P.follows .mixedOrders=true) (hS:S w.drew)
  (h:S w.drew→wpAnyH P .any ops Q S ops.size (Array.replicate ops.size false) a w.drew):(Code.region id ops true).wp P Q a w:=
 wp_region_held hm (h hS)
end
end
section
open Go.RowKit
theorem clone_any (x:ByteArray) (hx:x.size≤4000) (w:World):Calls Tryz.prog 154 #[.string x] w fun e w'=>e=.returned (.string x)∧Below w.heap.size w w':=by
 go_enter Tryz.func154,Tryz.ntmps154
 go_wp2_with fail
 refine (Tryz.stringslite_Clone x w (by omega)).mono ?_
 rintro e w1 ⟨rfl,hb⟩
 go_wp2
 go_ret
 exact ⟨rfl,hb⟩
theorem below_more {W u v:World} (h:Below W.heap.size W u) (k:Below u.heap.size u v):Below W.heap.size W v:=h.trans (k.mono h.size)
def NewTwo (w:World) (k:Nat):Prop:=w.cell? ⟨k,0,none⟩=some (.int .i64 0)∧w.cell? ⟨k,1,none⟩=some (.string ⟨#[]⟩)∧w.frozen? ⟨k,0,none⟩=false∧w.frozen? ⟨k,1,none⟩=false
theorem new_at (u:World):NewTwo (u.alloc (.cells #[.int .i64 0,.string ⟨#[]⟩] 103)) u.heap.size:=by
 have hn:=heap_alloc_new u (.cells #[.int .i64 0,.string ⟨#[]⟩] 103)
 refine ⟨(cell_of_row _ _ 0 _ _ _ hn).trans rfl,(cell_of_row _ _ 1 _ _ _ hn).trans rfl,?_,?_⟩
 ·unfold World.frozen?;rw [hn];simp
 ·unfold World.frozen?;rw [hn];simp
theorem new_row {w:World} {k:Nat} (hn:w.heap[k]?=some (.cells #[.int .i64 0,.string ⟨#[]⟩] 103 (0,0))):NewTwo w k:=by
 refine ⟨(cell_of_row _ _ 0 _ _ _ hn).trans rfl,(cell_of_row _ _ 1 _ _ _ hn).trans rfl,?_,?_⟩
 ·unfold World.frozen?;rw [hn];simp
 ·unfold World.frozen?;rw [hn];simp
theorem same_cell {w:World} {k o:Nat} {u v:Value} (h:w.cell? ⟨k,o,none⟩=some u):(w.setCell ⟨k,o,none⟩ v).cell? ⟨k,o,none⟩=some v:=World.cell?_setCell_same _ _ _ h
theorem other_cell {w:World} {k o q:Nat} {u v:Value} (h:w.cell? ⟨k,o,none⟩=some u) (hn:q≠o):(w.setCell ⟨k,q,none⟩ v).cell? ⟨k,o,none⟩=some u:=(World.cell?_setCell_other _ ⟨k,q,none⟩ ⟨k,o,none⟩ _ (fun e=>hn (by cases e;rfl))).trans h
theorem old_kept {u v:World} {k:Nat} (h:Below u.heap.size u v) (q:NewTwo u k):NewTwo v k:=by
 have hk:=lt_of_cell q.1
 exact ⟨(h.cell (p:=⟨k,0,none⟩) hk).trans q.1,(h.cell (p:=⟨k,1,none⟩) hk).trans q.2.1,(h.frozen (p:=⟨k,0,none⟩) hk).trans q.2.2.1,(h.frozen (p:=⟨k,1,none⟩) hk).trans q.2.2.2⟩
theorem alloc_done {W u:World} {q:Int} {x:ByteArray} {ty:TypeId} (h:Below W.heap.size W u):Below W.heap.size W (u.alloc (.cells #[.int .i64 q,.string x] ty))∧(u.alloc (.cells #[.int .i64 q,.string x] ty)).cell? ⟨u.heap.size,0,none⟩=some (.int .i64 q)∧(u.alloc (.cells #[.int .i64 q,.string x] ty)).cell? ⟨u.heap.size,1,none⟩=some (.string x)∧W.heap.size≤u.heap.size:=
 ⟨h.alloc h.size _,by simp,by simp,h.size⟩
theorem two_done {W u:World} {k:Nat} {q:Int} {x:ByteArray} (h:Below W.heap.size W u) (hk:W.heap.size≤k) (n:NewTwo u k) :
  Below W.heap.size W ((u.setCell ⟨k,0,none⟩ (.int .i64 q)).setCell ⟨k,1,none⟩ (.string x))∧((u.setCell ⟨k,0,none⟩ (.int .i64 q)).setCell ⟨k,1,none⟩ (.string x)).cell? ⟨k,0,none⟩=some (.int .i64 q)∧((u.setCell ⟨k,0,none⟩ (.int .i64 q)).setCell ⟨k,1,none⟩ (.string x)).cell? ⟨k,1,none⟩=some (.string x)∧W.heap.size≤k:=by
 have e0:=World.cell?_setCell_same u ⟨k,0,none⟩ (.int .i64 q) n.1
 have e1:=(World.cell?_setCell_other u ⟨k,0,none⟩ ⟨k,1,none⟩ (.int .i64 q) (fun e=>by cases e)).trans n.2.1
 refine ⟨(h.setCell (p:=⟨k,0,none⟩) hk _).setCell (p:=⟨k,1,none⟩) hk _,(World.cell?_setCell_other _ ⟨k,1,none⟩ ⟨k,0,none⟩ _ (fun e=>by cases e)).trans e0,World.cell?_setCell_same _ _ _ e1,hk⟩
def NmPost (r:Option (Mil.Bytes×Mil.St)) (z:Mil.Rz (Mil.Bytes×Mil.St)) (q:Int) (a:Nat→Addr) (b:Nat) (s:ByteArray) (w:World) (e:Ending) (w':World):Prop:=
 Kp b w w'∧((∃x st,e=.returned (.agg #[.int .i64 q,.string (bs x)])∧r=some (x,st)∧RdS w' b s st)∨Threw (fun k p=>z=.bad k p) a e w')
theorem name_any (a:Nat→Addr) (b:Nat) (s:ByteArray) (st:Mil.St) (w:World) (L:Laid a w) (hb:23≤b) (h:RdS w b s st) (hs:s.size≤4000) :
  Calls Tryz.prog 123 #[.pointer (some ⟨b,0,none⟩)] w (NmPost (Mil.name st) (Mil.nameZ s.size st) (place s.size st) a b s w):=by
 have HBW:Hid (Below w.heap.size w (w.alloc (.cells #[.int .i64 0,.string ⟨#[]⟩] 103))):=(Below.refl _ _).alloc (Nat.le_refl _) _
 have HNW:Hid ((w.alloc (.cells #[.int .i64 0,.string ⟨#[]⟩] 103)).heap[w.heap.size]?=some (.cells #[.int .i64 0,.string ⟨#[]⟩] 103 (0,0))):=heap_alloc_new w _
 have hbw:b < w.heap.size:=by
  obtain ⟨p,tp,x,hp,hR,_⟩:=h
  exact lt_of_cell hR.c0
 have H:Hid (RdS (w.alloc (.cells #[.int .i64 0,.string ⟨#[]⟩] 103)) b s st):=h.kept (Kp.of_below (b:=b+1) HBW.out) (by omega)
 have HL:Hid (Laid a (w.alloc (.cells #[.int .i64 0,.string ⟨#[]⟩] 103))):=L.kept (Kp.of_below (b:=b) HBW.out) hb
 obtain ⟨p,tp,x,hp,hR,hr,hx,hn⟩:=H.out
 have c3:=hR.c3
 have hxs:x.size≤4000:=by
  have e:x.size=x.data.toList.length:=by simp
  rw [e,hx];exact hn.2.1
 have HX:Hid (x=bs st.tok.txt):=by rw [←hx];exact (bs_of x).symm
 have C5:Hid ((w.alloc (.cells #[.int .i64 0,.string ⟨#[]⟩] 103)).cell? ⟨b,5,none⟩=some (.string x)):=hR.c5
 clear hR hr hx L h hn hp
 by_cases h1:st.tok.kind=1
 ·have hk1:(((st.tok.kind:Nat):Int) != 1)=false:=by simp;omega
  have HZ:Hid (Mil.nameZ s.size st=(Mil.advZ s.size st).map fun s1=>(st.tok.txt,s1)):=by unfold Mil.nameZ;rw [if_pos h1];rfl
  have HM:Hid (Mil.name st=(Mil.adv st).map fun s1=>(st.tok.txt,s1)):=by unfold Mil.name;rw [if_pos h1];rfl
  clear h1
  go_enter Tryz.func123,Tryz.ntmps123
  go_wp2_with fail
  have HBL:Hid (b < w.heap.size):=hbw
  have HW:Hid (w.heap.size < (w.alloc (.cells #[.int .i64 0,.string ⟨#[]⟩] 103)).heap.size):=by show _ < _;simp
  generalize w.alloc (.cells #[.int .i64 0,.string ⟨#[]⟩] 103)=W at HBW HNW H HL c3 C5 HW ⊢
  have KR:Hid (∀w',Below W.heap.size W w'→RdS w' b s st):=fun w' hb'=>H.out.kept (Kp.of_below (b:=b+1) hb') (by omega)
  have k5:∀w',Below W.heap.size W w'→w'.cell? ⟨b,5,none⟩=some (.string x):=fun w' hb'=>(hb'.cell (lt_of_cell C5.out)).trans C5.out
  have B0:Hid (Below W.heap.size W W.drew):=(Below.refl _ _).drew
  clear c3
  refine region_held (fun w'=>w'.cell? ⟨b,5,none⟩=some (.string x)∧Below W.heap.size W w') (by kernel_rfl) ⟨k5 _ B0.out,B0.out⟩ (fun hS=>?_)
  refine held_take 0 (v:=?_) rfl (by kernel_rfl) (by kernel_rfl) (by kernel_rfl) (fun _ _ _ h=>h) (Or.inl ⟨by rfl,?_⟩) (by assumption) ?_
  rotate_left 1
  ·(intro w' hSw;(try dsimp only at hSw);go_simp <;> with_reducible rfl)
  try simp only [Act.put,List.setIfInBounds_toArray,List.set_cons_zero,List.set_cons_succ]
  refine held_take 2 (v:=?_) rfl (by kernel_rfl) (by kernel_rfl) (by kernel_rfl) (fun _ _ _ h=>h) (Or.inl ⟨by rfl,?_⟩) (by assumption) ?_
  rotate_left 1
  ·(intro w' hSw;(try dsimp only at hSw);go_simp <;> with_reducible rfl)
  try simp only [Act.put,List.setIfInBounds_toArray,List.set_cons_zero,List.set_cons_succ]
  refine held_take 3 (v:=?_) rfl (by kernel_rfl) (by kernel_rfl) (by kernel_rfl) (fun _ _ _ h=>h) (Or.inl ⟨by rfl,?_⟩) (by assumption) ?_
  rotate_left 1
  ·(intro w' hSw;(try dsimp only at hSw);go_simp <;> with_reducible rfl)
  try simp only [Act.put,List.setIfInBounds_toArray,List.set_cons_zero,List.set_cons_succ]
  refine held_take 4 (v:=?_) rfl (by kernel_rfl) (by kernel_rfl) (by kernel_rfl) (fun _ _ _ h=>h) (Or.inl ⟨by rfl,?_⟩) (by assumption) ?_
  rotate_left 1
  ·(intro w' hSw;(try dsimp only at hSw);go_simp <;> with_reducible rfl)
  try simp only [Act.put,List.setIfInBounds_toArray,List.set_cons_zero,List.set_cons_succ]
  refine held_take 5 (v:=?_) rfl (by kernel_rfl) (by kernel_rfl) (by kernel_rfl) (fun _ _ _ h=>h) (Or.inl ⟨by rfl,?_⟩) (by assumption) ?_
  rotate_left 1
  ·(intro w' hSw;(try dsimp only at hSw);go_simp <;> with_reducible rfl)
  try simp only [Act.put,List.setIfInBounds_toArray,List.set_cons_zero,List.set_cons_succ]
  refine held_take 6 (v:=?_) rfl (by kernel_rfl) (by kernel_rfl) (by kernel_rfl) (fun _ _ _ h=>h) (Or.inl ⟨by rfl,?_⟩) (by assumption) ?_
  rotate_left 1
  ·(intro w' hSw;(try dsimp only at hSw);go_simp <;> with_reducible rfl)
  try simp only [Act.put,List.setIfInBounds_toArray,List.set_cons_zero,List.set_cons_succ]
  refine held_two 1 9 (by kernel_rfl) rfl rfl (fun K hK=>?_) (fun K hK=>?_)
  ·go_simp
   refine (atomHere_any b s st _ (KR.out _ B0.out)).mono ?_
   rintro e w1 ⟨rfl,qw1⟩
   have Bw1:Hid (Below W.heap.size W w1):=below_more B0.out qw1
   refine hK.out _ _ ⟨k5 _ Bw1.out,Bw1.out⟩ (fun hS=>?_)
   clear hK K
   try simp only [Act.put,List.setIfInBounds_toArray,List.set_cons_zero,List.set_cons_succ]
   refine held_two 7 9 (by kernel_rfl) rfl rfl (fun K hK=>?_) (fun K hK=>?_)
   ·go_simp
    refine (clone_any x hxs _).mono ?_
    rintro e w2 ⟨rfl,qw2⟩
    have Bw2:Hid (Below W.heap.size W w2):=below_more Bw1.out qw2
    refine hK.out _ _ ⟨k5 _ Bw2.out,Bw2.out⟩ (fun hS=>?_)
    clear hK K
    try simp only [Act.put,List.setIfInBounds_toArray,List.set_cons_zero,List.set_cons_succ]
    refine held_take 8 (v:=?_) rfl (by kernel_rfl) (by kernel_rfl) (by kernel_rfl) (fun _ _ _ h=>h) (Or.inl ⟨by rfl,?_⟩) (by assumption) ?_
    rotate_left 1
    ·(intro w' hSw;(try dsimp only at hSw);go_simp <;> with_reducible rfl)
    try simp only [Act.put,List.setIfInBounds_toArray,List.set_cons_zero,List.set_cons_succ]
    refine held_one 9 (by kernel_rfl) rfl (fun K hK=>?_)
    go_simp
    have Bn:Hid (Below W.heap.size W (w2.alloc (.cells #[.int .i64 0,.string ⟨#[]⟩] 103))):=Bw2.out.alloc Bw2.out.size _
    refine hK.out _ _ ⟨k5 _ Bn.out,Bn.out⟩ (fun hS=>?_)
    clear hK K
    try simp only [Act.put,List.setIfInBounds_toArray,List.set_cons_zero,List.set_cons_succ]
    have HT:=alloc_done (x:=x) (q:=place s.size st) (ty:=103) Bw2.out
    refine held_one 10 (by kernel_rfl) rfl (fun K hK=>?_)
    go_simp
    refine hK.out _ _ ⟨k5 _ HT.1,HT.1⟩ (fun hS=>?_)
    clear hK K
    try simp only [Act.put,List.setIfInBounds_toArray,List.set_cons_zero,List.set_cons_succ]
    refine wpAnyH_done (by kernel_rfl) ?_ _
    have HF:Hid _:=HT
    clear HT hS Bn Bw2 qw2 Bw1 qw1
    generalize w2.heap.size=n at HF ⊢
    generalize w2.alloc (.cells #[.int .i64 (place s.size st),.string x] 103)=w5 at HF ⊢
    clear k5
    have HLn:Hid (W.heap.size≤n):=HF.out.2.2.2
    clear hbw hxs
    go_wp2_with fail
    refine (advance_any a b s st w5 (HL.out.kept (Kp.of_below (b:=b) HF.out.1) hb) hb (KR.out _ HF.out.1) hs).mono ?_
    rintro e w6 ⟨hk,(⟨st',rfl,g1,g2⟩ | ⟨k,at_,hkk,d,rfl,hd,hno⟩)⟩
    ·have HNB:Hid (n≠b):=by have:=HW.out;have:=HLn.out;have:=HBL.out;show _≠_;omega
     have c0:w6.cell? ⟨n,0,none⟩=some (.int .i64 (place s.size st)):=hk.held HF.out.2.1 HNB.out
     have c1:w6.cell? ⟨n,1,none⟩=some (.string x):=hk.held HF.out.2.2.1 HNB.out
     have HRB:Hid (w.heap.size≠b):=by have:=HBL.out;show _≠_;omega
     have HN5:w5.heap[w.heap.size]?=some (.cells #[.int .i64 0,.string ⟨#[]⟩] 103 (0,0)):=(HF.out.1.block _ (Array.getElem?_eq_some_iff.1 HNW.out).1).trans HNW.out
     have HN6:w6.heap[w.heap.size]?=some (.cells #[.int .i64 0,.string ⟨#[]⟩] 103 (0,0)):=(hk.block _ (Array.getElem?_eq_some_iff.1 HN5).1 HRB.out).trans HN5
     obtain ⟨u0,u1,u2,u3⟩:=new_row HN6
     have HK:Hid (Kp b w w6):=(Kp.of_below HBW.out).trans ((Kp.of_below HF.out.1).trans hk)
     have G1:Hid (Mil.adv st=some st'):=g1
     have G2:Hid (RdS w6 b s st'):=g2
     clear HN5 HN6 hk g1 g2
     go_wp2
     have e0:=other_cell (v:=.string x) (same_cell (v:=.int .i64 (place s.size st)) u0) (by decide:1≠0)
     have e1:=same_cell (v:=.string x) (other_cell (v:=.int .i64 (place s.size st)) u1 (by decide:0≠1))
     refine bodyPost_ret (v:=.agg #[.int .i64 (place s.size st),.string x]) (by simp [results,Tryz.results123,go_sem,e0,e1]) rfl ⟨(HK.out.setNew (Nat.le_refl _) 0 _).setNew (Nat.le_refl _) 1 _,Or.inl ⟨st.tok.txt,st',by rw [HX.out],by rw [HM.out,G1.out];rfl,?_⟩⟩
     exact G2.out.kept (((Kp.refl w.heap.size w6).setCell 0 _).setCell 1 _) (fun e=>HRB.out e.symm)
    ·go_wp2
     exact ⟨rfl,(Kp.of_below HBW.out).trans ((Kp.of_below HF.out.1).trans hk),Or.inr ⟨k,at_,hkk,d,rfl,hd,by rw [HZ.out,hno];rfl⟩⟩
   ·go_simp
    have Bn:Hid (Below W.heap.size W (w1.alloc (.cells #[.int .i64 0,.string ⟨#[]⟩] 103))):=Bw1.out.alloc Bw1.out.size _
    refine hK.out _ _ ⟨k5 _ Bn.out,Bn.out⟩ (fun hS=>?_)
    clear hK K
    try simp only [Act.put,List.setIfInBounds_toArray,List.set_cons_zero,List.set_cons_succ]
    refine held_one 7 (by kernel_rfl) rfl (fun K hK=>?_)
    go_simp
    refine (clone_any x hxs _).mono ?_
    rintro e w2 ⟨rfl,qw2⟩
    have Bw2:Hid (Below W.heap.size W w2):=below_more Bn.out qw2
    refine hK.out _ _ ⟨k5 _ Bw2.out,Bw2.out⟩ (fun hS=>?_)
    clear hK K
    try simp only [Act.put,List.setIfInBounds_toArray,List.set_cons_zero,List.set_cons_succ]
    refine held_take 8 (v:=?_) rfl (by kernel_rfl) (by kernel_rfl) (by kernel_rfl) (fun _ _ _ h=>h) (Or.inl ⟨by rfl,?_⟩) (by assumption) ?_
    rotate_left 1
    ·(intro w' hSw;(try dsimp only at hSw);go_simp <;> with_reducible rfl)
    try simp only [Act.put,List.setIfInBounds_toArray,List.set_cons_zero,List.set_cons_succ]
    have HT:=two_done (x:=x) (q:=place s.size st) Bw2.out Bw1.out.size (old_kept qw2 (new_at w1))
    obtain ⟨u0,u1,u2,u3⟩:=old_kept qw2 (new_at w1)
    refine held_one 10 (by kernel_rfl) rfl (fun K hK=>?_)
    go_simp
    refine hK.out _ _ ⟨k5 _ HT.1,HT.1⟩ (fun hS=>?_)
    clear hK K
    try simp only [Act.put,List.setIfInBounds_toArray,List.set_cons_zero,List.set_cons_succ]
    refine wpAnyH_done (by kernel_rfl) ?_ _
    have HF:Hid _:=HT
    clear HT hS u0 u1 u2 u3 Bn Bw2 qw2 Bw1 qw1
    generalize w1.heap.size=n at HF ⊢
    generalize (w2.setCell ⟨n,0,none⟩ (.int .i64 (place s.size st))).setCell ⟨n,1,none⟩ (.string x)=w5 at HF ⊢
    clear k5
    have HLn:Hid (W.heap.size≤n):=HF.out.2.2.2
    clear hbw hxs
    go_wp2_with fail
    refine (advance_any a b s st w5 (HL.out.kept (Kp.of_below (b:=b) HF.out.1) hb) hb (KR.out _ HF.out.1) hs).mono ?_
    rintro e w6 ⟨hk,(⟨st',rfl,g1,g2⟩ | ⟨k,at_,hkk,d,rfl,hd,hno⟩)⟩
    ·have HNB:Hid (n≠b):=by have:=HW.out;have:=HLn.out;have:=HBL.out;show _≠_;omega
     have c0:w6.cell? ⟨n,0,none⟩=some (.int .i64 (place s.size st)):=hk.held HF.out.2.1 HNB.out
     have c1:w6.cell? ⟨n,1,none⟩=some (.string x):=hk.held HF.out.2.2.1 HNB.out
     have HRB:Hid (w.heap.size≠b):=by have:=HBL.out;show _≠_;omega
     have HN5:w5.heap[w.heap.size]?=some (.cells #[.int .i64 0,.string ⟨#[]⟩] 103 (0,0)):=(HF.out.1.block _ (Array.getElem?_eq_some_iff.1 HNW.out).1).trans HNW.out
     have HN6:w6.heap[w.heap.size]?=some (.cells #[.int .i64 0,.string ⟨#[]⟩] 103 (0,0)):=(hk.block _ (Array.getElem?_eq_some_iff.1 HN5).1 HRB.out).trans HN5
     obtain ⟨u0,u1,u2,u3⟩:=new_row HN6
     have HK:Hid (Kp b w w6):=(Kp.of_below HBW.out).trans ((Kp.of_below HF.out.1).trans hk)
     have G1:Hid (Mil.adv st=some st'):=g1
     have G2:Hid (RdS w6 b s st'):=g2
     clear HN5 HN6 hk g1 g2
     go_wp2
     have e0:=other_cell (v:=.string x) (same_cell (v:=.int .i64 (place s.size st)) u0) (by decide:1≠0)
     have e1:=same_cell (v:=.string x) (other_cell (v:=.int .i64 (place s.size st)) u1 (by decide:0≠1))
     refine bodyPost_ret (v:=.agg #[.int .i64 (place s.size st),.string x]) (by simp [results,Tryz.results123,go_sem,e0,e1]) rfl ⟨(HK.out.setNew (Nat.le_refl _) 0 _).setNew (Nat.le_refl _) 1 _,Or.inl ⟨st.tok.txt,st',by rw [HX.out],by rw [HM.out,G1.out];rfl,?_⟩⟩
     exact G2.out.kept (((Kp.refl w.heap.size w6).setCell 0 _).setCell 1 _) (fun e=>HRB.out e.symm)
    ·go_wp2
     exact ⟨rfl,(Kp.of_below HBW.out).trans ((Kp.of_below HF.out.1).trans hk),Or.inr ⟨k,at_,hkk,d,rfl,hd,by rw [HZ.out,hno];rfl⟩⟩
  ·go_simp
   have Bn:Hid (Below W.heap.size W (W.drew.alloc (.cells #[.int .i64 0,.string ⟨#[]⟩] 103))):=B0.out.alloc B0.out.size _
   refine hK.out _ _ ⟨k5 _ Bn.out,Bn.out⟩ (fun hS=>?_)
   clear hK K
   try simp only [Act.put,List.setIfInBounds_toArray,List.set_cons_zero,List.set_cons_succ]
   refine held_one 1 (by kernel_rfl) rfl (fun K hK=>?_)
   go_simp
   refine (atomHere_any b s st _ (KR.out _ Bn.out)).mono ?_
   rintro e w1 ⟨rfl,qw1⟩
   have Bw1:Hid (Below W.heap.size W w1):=below_more Bn.out qw1
   refine hK.out _ _ ⟨k5 _ Bw1.out,Bw1.out⟩ (fun hS=>?_)
   clear hK K
   try simp only [Act.put,List.setIfInBounds_toArray,List.set_cons_zero,List.set_cons_succ]
   refine held_one 7 (by kernel_rfl) rfl (fun K hK=>?_)
   go_simp
   refine (clone_any x hxs _).mono ?_
   rintro e w2 ⟨rfl,qw2⟩
   have Bw2:Hid (Below W.heap.size W w2):=below_more Bw1.out qw2
   refine hK.out _ _ ⟨k5 _ Bw2.out,Bw2.out⟩ (fun hS=>?_)
   clear hK K
   try simp only [Act.put,List.setIfInBounds_toArray,List.set_cons_zero,List.set_cons_succ]
   refine held_take 8 (v:=?_) rfl (by kernel_rfl) (by kernel_rfl) (by kernel_rfl) (fun _ _ _ h=>h) (Or.inl ⟨by rfl,?_⟩) (by assumption) ?_
   rotate_left 1
   ·(intro w' hSw;(try dsimp only at hSw);go_simp <;> with_reducible rfl)
   try simp only [Act.put,List.setIfInBounds_toArray,List.set_cons_zero,List.set_cons_succ]
   have NK:NewTwo w2 W.heap.size:=old_kept qw2 (old_kept qw1 (new_at W.drew))
   have HT:=two_done (x:=x) (q:=place s.size st) Bw2.out (Nat.le_refl W.heap.size) (NK)
   obtain ⟨u0,u1,u2,u3⟩:=NK
   refine held_one 10 (by kernel_rfl) rfl (fun K hK=>?_)
   go_simp
   refine hK.out _ _ ⟨k5 _ HT.1,HT.1⟩ (fun hS=>?_)
   clear hK K
   try simp only [Act.put,List.setIfInBounds_toArray,List.set_cons_zero,List.set_cons_succ]
   refine wpAnyH_done (by kernel_rfl) ?_ _
   have HF:Hid _:=HT
   clear HT hS u0 u1 u2 u3 Bn Bw2 qw2 Bw1 qw1
   generalize (w2.setCell ⟨W.heap.size,0,none⟩ (.int .i64 (place s.size st))).setCell ⟨W.heap.size,1,none⟩ (.string x)=w5 at HF ⊢
   clear k5
   have HLn:Hid (W.heap.size≤W.heap.size):=HF.out.2.2.2
   clear hbw hxs
   go_wp2_with fail
   refine (advance_any a b s st w5 (HL.out.kept (Kp.of_below (b:=b) HF.out.1) hb) hb (KR.out _ HF.out.1) hs).mono ?_
   rintro e w6 ⟨hk,(⟨st',rfl,g1,g2⟩ | ⟨k,at_,hkk,d,rfl,hd,hno⟩)⟩
   ·have HNB:Hid (W.heap.size≠b):=by have:=HW.out;have:=HLn.out;have:=HBL.out;show _≠_;omega
    have c0:w6.cell? ⟨W.heap.size,0,none⟩=some (.int .i64 (place s.size st)):=hk.held HF.out.2.1 HNB.out
    have c1:w6.cell? ⟨W.heap.size,1,none⟩=some (.string x):=hk.held HF.out.2.2.1 HNB.out
    have HRB:Hid (w.heap.size≠b):=by have:=HBL.out;show _≠_;omega
    have HN5:w5.heap[w.heap.size]?=some (.cells #[.int .i64 0,.string ⟨#[]⟩] 103 (0,0)):=(HF.out.1.block _ (Array.getElem?_eq_some_iff.1 HNW.out).1).trans HNW.out
    have HN6:w6.heap[w.heap.size]?=some (.cells #[.int .i64 0,.string ⟨#[]⟩] 103 (0,0)):=(hk.block _ (Array.getElem?_eq_some_iff.1 HN5).1 HRB.out).trans HN5
    obtain ⟨u0,u1,u2,u3⟩:=new_row HN6
    have HK:Hid (Kp b w w6):=(Kp.of_below HBW.out).trans ((Kp.of_below HF.out.1).trans hk)
    have G1:Hid (Mil.adv st=some st'):=g1
    have G2:Hid (RdS w6 b s st'):=g2
    clear HN5 HN6 hk g1 g2
    go_wp2
    have e0:=other_cell (v:=.string x) (same_cell (v:=.int .i64 (place s.size st)) u0) (by decide:1≠0)
    have e1:=same_cell (v:=.string x) (other_cell (v:=.int .i64 (place s.size st)) u1 (by decide:0≠1))
    refine bodyPost_ret (v:=.agg #[.int .i64 (place s.size st),.string x]) (by simp [results,Tryz.results123,go_sem,e0,e1]) rfl ⟨(HK.out.setNew (Nat.le_refl _) 0 _).setNew (Nat.le_refl _) 1 _,Or.inl ⟨st.tok.txt,st',by rw [HX.out],by rw [HM.out,G1.out];rfl,?_⟩⟩
    exact G2.out.kept (((Kp.refl w.heap.size w6).setCell 0 _).setCell 1 _) (fun e=>HRB.out e.symm)
   ·go_wp2
    exact ⟨rfl,(Kp.of_below HBW.out).trans ((Kp.of_below HF.out.1).trans hk),Or.inr ⟨k,at_,hkk,d,rfl,hd,by rw [HZ.out,hno];rfl⟩⟩
 ·have hk1:(((st.tok.kind:Nat):Int) != 1)=true:=by simp;omega
  have HZ:Hid (Mil.nameZ s.size st=.bad 3 (place s.size st)):=by unfold Mil.nameZ;rw [if_neg h1];rfl
  clear h1
  go_enter Tryz.func123,Tryz.ntmps123
  go_wp2_with fail
  refine (refused_at a b s st _ HL.out H.out).mono ?_
  rintro e w2 ⟨d,rfl,hd,hb2⟩
  go_wp2
  exact ⟨rfl,Kp.of_below (HBW.out.trans (hb2.mono HBW.out.size)),Or.inr ⟨3,_,Or.inr (Or.inr (Or.inl rfl)),d,rfl,hd,HZ.out⟩⟩
end
section
open Go.RowKit
def NuPost (r:Option (Nat×Mil.St)) (z:Mil.Rz (Nat×Mil.St)) (a:Nat→Addr) (b:Nat) (s:ByteArray) (w:World) (e:Ending) (w':World):Prop:=
 Kp b w w'∧((∃k st,e=.returned (.int .i64 (k:Nat))∧r=some (k,st)∧RdS w' b s st)∨Threw (fun k p=>z=.bad k p) a e w')
theorem number_any (a:Nat→Addr) (b:Nat) (s:ByteArray) (st:Mil.St) (lo hi:Int) (h0:0≤lo) (w:World) (L:Laid a w) (hb:23≤b) (h:RdS w b s st) (hs:s.size≤4000) :
  Calls Tryz.prog 126 #[.pointer (some ⟨b,0,none⟩),.int .i64 lo,.int .i64 hi] w (NuPost (Mil.number lo hi st) (Mil.numberZ s.size lo hi st) a b s w):=by
 have H:Hid (RdS w b s st):=h
 have HL:Hid (Laid a w):=L
 obtain ⟨p,tp,x,hp,hR,hr,hx,hn⟩:=h
 have c3:=hR.c3
 have c6:=hR.c6
 clear hR hr hx L
 by_cases hc:st.tok.kind=2∧lo≤st.tok.val∧st.tok.val≤hi
 ·have HM:Hid (Mil.number lo hi st=(Mil.adv st).map fun s1=>(st.tok.val.toNat,s1)):=by unfold Mil.number;rw [if_pos hc];rfl
  have HZ:Hid (Mil.numberZ s.size lo hi st=(Mil.advZ s.size st).map fun s1=>(st.tok.val.toNat,s1)):=by unfold Mil.numberZ;rw [if_pos hc];rfl
  obtain ⟨h2,hl,hh⟩:=hc
  have hk2:(((st.tok.kind:Nat):Int) != 2)=false:=by simp;omega
  have hl':¬st.tok.val < lo:=by omega
  have hh':¬hi < st.tok.val:=by omega
  have HV:Hid (((st.tok.val.toNat:Nat):Int)=st.tok.val):=by show _=_;omega
  clear h2 hl hh
  go_enter Tryz.func126,Tryz.ntmps126
  go_wp2_with fail
  refine (advance_any a b s st _ HL.out hb H.out hs).mono ?_
  rintro e w2 ⟨hk,(⟨st',rfl,g1,g2⟩ | ⟨k,at_,hkk,d,rfl,hd,hno⟩)⟩
  ·go_wp2
   go_ret
   refine ⟨hk,Or.inl ⟨st.tok.val.toNat,st',?_,?_,g2⟩⟩
   ·rw [HV.out];rfl
   ·rw [HM.out,g1];rfl
  ·go_wp2
   exact ⟨rfl,hk,Or.inr ⟨k,at_,hkk,d,rfl,hd,by rw [HZ.out,hno];rfl⟩⟩
 ·have HZ:Hid (Mil.numberZ s.size lo hi st=.bad 3 (place s.size st)):=by unfold Mil.numberZ;rw [if_neg hc];rfl
  have HC:Hid _:=hc
  clear hc
  have bad:∀(w2:World) (d:Nat),w2.heap[d]?=some (.cells #[.int .i64 (place s.size st),errV (a 3)] 81 (0,0))→Below w.heap.size w w2 →
    NuPost (Mil.number lo hi st) (Mil.numberZ s.size lo hi st) a b s w (.panicked [{ v:=.iface 69 (.pointer (some ⟨d,0,none⟩)),recovered:=false }]) w2:=fun w2 d hd hb2=>
   ⟨Kp.of_below hb2,Or.inr ⟨3,_,Or.inr (Or.inr (Or.inl rfl)),d,rfl,hd,HZ.out⟩⟩
  have BAD:Hid _:=bad
  clear bad
  by_cases h2:st.tok.kind=2
  ·have hk2:(((st.tok.kind:Nat):Int) != 2)=false:=by simp;omega
   by_cases hl:st.tok.val < lo
   ·clear h2
    go_enter Tryz.func126,Tryz.ntmps126
    go_wp2_with fail
    refine (refused_at a b s st _ HL.out H.out).mono ?_
    rintro e w2 ⟨d,rfl,hd,hb2⟩
    go_wp2
    exact ⟨rfl,BAD.out w2 d hd hb2⟩
   ·have hh:hi < st.tok.val:=by
     rcases Int.lt_or_le hi st.tok.val with h' | h'
     ·exact h'
     ·exact absurd ⟨h2,by omega,h'⟩ HC.out
    clear h2
    go_enter Tryz.func126,Tryz.ntmps126
    go_wp2_with fail
    refine (refused_at a b s st _ HL.out H.out).mono ?_
    rintro e w2 ⟨d,rfl,hd,hb2⟩
    go_wp2
    exact ⟨rfl,BAD.out w2 d hd hb2⟩
  ·have hk2:(((st.tok.kind:Nat):Int) != 2)=true:=by simp;omega
   clear h2
   go_enter Tryz.func126,Tryz.ntmps126
   go_wp2_with fail
   refine (refused_at a b s st _ HL.out H.out).mono ?_
   rintro e w2 ⟨d,rfl,hd,hb2⟩
   go_wp2
   exact ⟨rfl,BAD.out w2 d hd hb2⟩
end
end Go.Proofs.YticbokabjhnagaaGreatDoor
