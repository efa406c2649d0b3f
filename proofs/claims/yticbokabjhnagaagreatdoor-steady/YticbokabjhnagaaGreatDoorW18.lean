import Derived.Test.YticbokabjhnagaaGreatDoorW17
namespace Go.Proofs.YticbokabjhnagaaGreatDoor
set_option maxHeartbeats 32000000
section
open Go.RowKit
def NewOne (w:World) (k:Nat):Prop:=w.cell? ⟨k,0,none⟩=some (.int .i64 0)∧w.frozen? ⟨k,0,none⟩=false
theorem one_at (u:World):NewOne (u.alloc (.cells #[.int .i64 0] 99)) u.heap.size:=by
 have hn:=heap_alloc_new u (.cells #[.int .i64 0] 99)
 refine ⟨(cell_of_row _ _ 0 _ _ _ hn).trans rfl,?_⟩
 unfold World.frozen?;rw [hn];simp
theorem one_kept {u v:World} {k:Nat} (h:Below u.heap.size u v) (q:NewOne u k):NewOne v k:=by
 have hk:=lt_of_cell q.1
 exact ⟨(h.cell (p:=⟨k,0,none⟩) hk).trans q.1,(h.frozen (p:=⟨k,0,none⟩) hk).trans q.2⟩
theorem one_done {W u:World} {k:Nat} {q:Int} (h:Below W.heap.size W u) (hk:W.heap.size≤k) (n:NewOne u k):Below W.heap.size W (u.setCell ⟨k,0,none⟩ (.int .i64 q))∧(u.setCell ⟨k,0,none⟩ (.int .i64 q)).cell? ⟨k,0,none⟩=some (.int .i64 q)∧W.heap.size≤k:=
 ⟨h.setCell (p:=⟨k,0,none⟩) hk _,World.cell?_setCell_same _ _ _ n.1,hk⟩
theorem one_alloc {W u:World} {q:Int} {ty:TypeId} (h:Below W.heap.size W u):Below W.heap.size W (u.alloc (.cells #[.int .i64 q] ty))∧(u.alloc (.cells #[.int .i64 q] ty)).cell? ⟨u.heap.size,0,none⟩=some (.int .i64 q)∧W.heap.size≤u.heap.size:=
 ⟨h.alloc h.size _,by simp,h.size⟩
theorem MOC.next {a:Nat→Addr} {b:Nat} {s:ByteArray} {l:Nat} {st:Mil.St} (h:MOC a b s (l+1) st) (w:World) (L:Laid a w) (r:RdS w b s st) :
  Calls Tryz.prog 156 #[.pointer (some ⟨b,0,none⟩),.int .i64 ((l:Int)+1)] w (ExPost (fun x t=>Mip.Ok (l+1) Mip.eNil st (x,t)) (Mil.Bad s.size (l+1) Mil.eNil st) a b s w):=h w L r
theorem operand_lv (a:Nat→Addr) (b:Nat) (s:ByteArray) (hb:23≤b) (hs:s.size≤4000) (l:Nat) (h1:1≤l) (h8:l < 8) (st:Mil.St) (ih:∀t,Mil.mu t < Mil.mu st→MOC a b s (l+1) t) (io:MOC a b s (l+1) st) {q3 q7:Bool} (i3:((l:Int)==3)=q3) (i7:((l:Int)==7)=q7)
  (hc:(q3=false∧q7=false)∨(q3=true∧q7=false∧Mil.sees st Mil.wNot=false)∨(q3=false∧q7=true∧Mil.sees st Mil.sMinus=false)):MOC a b s l st:=by
 intro w L h
 have H:Hid (RdS w b s st):=h
 have HL:Hid (Laid a w):=L
 have IH:Hid (∀t,Mil.mu t < Mil.mu st→MOC a b s (l+1) t):=ih
 have HIO:Hid (MOC a b s (l+1) st):=io
 have i8:((l:Int)==8)=false:=by simp;omega
 have HP:Hid (¬((l=3∧Mil.sees st Mil.wNot=true)∨(l=7∧Mil.sees st Mil.sMinus=true))):=by
  show ¬_
  rintro (⟨p,q⟩ | ⟨p,q⟩)
  ·subst p
   rcases hc with ⟨rfl,_⟩ | ⟨_,_,hn⟩ | ⟨rfl,_,_⟩
   ·cases i3
   ·rw [hn] at q;cases q
   ·cases i3
  ·subst p
   rcases hc with ⟨_,rfl⟩ | ⟨_,rfl,_⟩ | ⟨_,_,hn⟩
   ·cases i7
   ·cases i7
   ·rw [hn] at q;cases q
 clear h L ih io
 rcases hc with ⟨rfl,rfl⟩ | ⟨rfl,rfl,hn⟩ | ⟨rfl,rfl,hn⟩
 all_goals
  try have HN:Hid (Mil.sees st Mil.wNot=false):=hn
  try have HN:Hid (Mil.sees st Mil.sMinus=false):=hn
  try clear hn
  go_enter Tryz.func156,Tryz.ntmps156
  go_wp2_with fail
  refine (here_any b s st _ H.out).mono ?_
  rintro e w0 ⟨rfl,hw0⟩
  have HV:Hid (Hd a b s st w (w0.alloc (.cells #[.int .i64 (place s.size st)] 99)) (place s.size st) w0.heap.size):=head_facts HL.out hb H.out hw0
  clear hw0
  go_wp2_with fail
  generalize w0.heap.size=kv at HV ⊢
  generalize w0.alloc (.cells #[.int .i64 (place s.size st)] 99)=v at HV ⊢
  clear H HL w0
  have H:Hid (RdS v b s st):=HV.out.rd
  have HL:Hid (Laid a v):=HV.out.laid
  try (
   first | refine (takes_no b s st (bs Mil.wNot) _ H.out HN.out).mono ?_ | refine (takes_no b s st (bs Mil.sMinus) _ H.out HN.out).mono ?_
   rintro e w0 ⟨rfl,hw⟩
   rw [hw]
   clear hw w0
   go_wp2_with fail)
  refine (HIO.out.next _ HL.out H.out).mono ?_
  rintro e w1 ⟨hk1,(⟨x1,s1,ty1,y1,rfl,e1,g1,r1⟩ | ⟨k,at_,hkk,d,rfl,hd,hno⟩)⟩
  ·have G1:Hid (Mip.Ok (l+1) Mip.eNil st (x1,s1)):=g1
   have E1:Hid _:=e1
   clear g1 e1
   go_wp2_with fail
   go_loopg [6] (Mil.mu s1) (fun g s6 wr=>∃x t ty y,s6=.iface ty y∧g=Mil.mu t∧Hid (ev s.size x=.iface ty y)∧Hid ((∀z,Mip.Ok (10+l) x t z↔Mip.Ok l Mip.eNil st z)∧∀k p,Mil.Bad s.size (10+l) (Mip.er x) t k p→Mil.Bad s.size l Mil.eNil st k p)∧Hid (RdS wr b s t)∧Hid (Kp b v wr)∧Hid (Mil.mu t≤Mil.mu st))
   case atStart=>
    refine ⟨x1,s1,ty1,y1,rfl,rfl,E1,⟨fun z=>⟨fun h=>Mip.ok_level h1 h8 HP.out G1.out h,fun h=>?_⟩,fun k p h=>Mil.bad_level h1 h8 HP.out (Or.inr ⟨_,Mip.Ok.er G1.out,h⟩)⟩,r1,hk1,Mip.ok_mu G1.out⟩
    obtain ⟨y,q1,q2⟩:=Mip.inv_level h1 h8 HP.out h
    obtain rfl:=Mip.Ok.unique q1 G1.out
    exact q2
   case round=>
    clear r1 hk1 G1 E1
    obtain ⟨x,t,ty,y,rfl,hg,EX,HI,HR,HK,HM⟩:=hrel
    have HG:Hid (gk=Mil.mu t):=hg
    clear hg
    by_cases ho:Mil.opAt t=l
    ·have HO:Hid (Mil.opAt t=l):=ho
     have hdec:decide (Mil.opAt t=l)=true:=decide_eq_true ho
     have HK3:Hid (t.tok.kind≠0):=by
      show _≠_;intro h0;unfold Mil.opAt at ho;rw [h0] at ho;simp at ho;omega
     clear ho
     go_wp2_with fail
     refine (seesOperator_any a b s t l h1 (by omega) _ (HL.out.kept HK.out hb) HR.out).mono ?_
     rintro e w2 ⟨rfl,hb2⟩
     rw [hdec]
     have HR2:Hid (RdS w2 b s t):=HR.out.kept (Kp.of_below (b:=b+1) hb2) (by omega)
     have HK2:Hid (Kp b v w2):=HK.out.trans (Kp.of_below hb2)
     obtain ⟨p,tp,xs,hp,hR,hr,hx,hn⟩:=HR2.out
     have C5:Hid (w2.cell? ⟨b,5,none⟩=some (.string xs)):=hR.c5
     have HX:Hid (xs=bs t.tok.txt):=by rw [←hx];exact (bs_of xs).symm
     clear hR hr hx hn hp hb2
     go_wp2_with fail
     have k5:∀w',Below w2.heap.size w2 w'→w'.cell? ⟨b,5,none⟩=some (.string xs):=fun w' hb'=>(hb'.cell (lt_of_cell C5.out)).trans C5.out
     have KR:Hid (∀w',Below w2.heap.size w2 w'→RdS w' b s t):=fun w' hb'=>HR2.out.kept (Kp.of_below (b:=b+1) hb') (by omega)
     have B0:Hid (Below w2.heap.size w2 w2.drew):=(Below.refl _ _).drew
     refine region_held (fun w'=>w'.cell? ⟨b,5,none⟩=some (.string xs)∧Below w2.heap.size w2 w') (by kernel_rfl) ⟨k5 _ B0.out,B0.out⟩ (fun hS=>?_)
     refine held_take 0 (v:=?_) rfl (by kernel_rfl) (by kernel_rfl) (by kernel_rfl) (fun _ _ _ h=>h) (Or.inl ⟨by rfl,?_⟩) (by assumption) ?_
     rotate_left 1
     ·(intro w' hSw;(try dsimp only at hSw);go_simp <;> with_reducible rfl)
     try simp only [Act.put,List.setIfInBounds_toArray,List.set_cons_zero,List.set_cons_succ]
     refine held_take 2 (v:=?_) rfl (by kernel_rfl) (by kernel_rfl) (by kernel_rfl) (fun _ _ _ h=>h) (Or.inl ⟨by rfl,?_⟩) (by assumption) ?_
     rotate_left 1
     ·(intro w' hSw;(try dsimp only at hSw);go_simp <;> with_reducible rfl)
     try simp only [Act.put,List.setIfInBounds_toArray,List.set_cons_zero,List.set_cons_succ]
     refine held_take 3 (v:=?_) rfl (by kernel_rfl) (by kernel_rfl) (by kernel_rfl) (fun _ _ _ h=>h) (Or.inl ⟨by rfl,?_⟩) (by assumption) ?_
     rotate_left 1
     ·(intro w' hSw;(try dsimp only at hSw);go_simp <;> with_reducible rfl)
     try simp only [Act.put,List.setIfInBounds_toArray,List.set_cons_zero,List.set_cons_succ]
     refine held_take 4 (v:=?_) rfl (by kernel_rfl) (by kernel_rfl) (by kernel_rfl) (fun _ _ _ h=>h) (Or.inl ⟨by rfl,?_⟩) (by assumption) ?_
     rotate_left 1
     ·(intro w' hSw;(try dsimp only at hSw);go_simp <;> with_reducible rfl)
     try simp only [Act.put,List.setIfInBounds_toArray,List.set_cons_zero,List.set_cons_succ]
     refine held_take 5 (v:=?_) rfl (by kernel_rfl) (by kernel_rfl) (by kernel_rfl) (fun _ _ _ h=>h) (Or.inl ⟨by rfl,?_⟩) (by assumption) ?_
     rotate_left 1
     ·(intro w' hSw;(try dsimp only at hSw);go_simp <;> with_reducible rfl)
     try simp only [Act.put,List.setIfInBounds_toArray,List.set_cons_zero,List.set_cons_succ]
     refine held_take 6 (v:=?_) rfl (by kernel_rfl) (by kernel_rfl) (by kernel_rfl) (fun _ _ _ h=>h) (Or.inl ⟨by rfl,?_⟩) (by assumption) ?_
     rotate_left 1
     ·(intro w' hSw;(try dsimp only at hSw);go_simp <;> with_reducible rfl)
     try simp only [Act.put,List.setIfInBounds_toArray,List.set_cons_zero,List.set_cons_succ]
     refine held_two 1 7 (by kernel_rfl) rfl rfl (fun K hK=>?_) (fun K hK=>?_)
     ·go_simp
      refine (here_any b s t _ (KR.out _ B0.out)).mono ?_
      rintro e w3 ⟨rfl,q3⟩
      have B3:Hid (Below w2.heap.size w2 w3):=below_more B0.out q3
      refine hK.out _ _ ⟨k5 _ B3.out,B3.out⟩ (fun hS=>?_)
      clear hK K
      try simp only [Act.put,List.setIfInBounds_toArray,List.set_cons_zero,List.set_cons_succ]
      refine held_one 7 (by kernel_rfl) rfl (fun K hK=>?_)
      go_simp
      have Bn:Hid (Below w2.heap.size w2 (w3.alloc (.cells #[.int .i64 0] 99))):=B3.out.alloc B3.out.size _
      refine hK.out _ _ ⟨k5 _ Bn.out,Bn.out⟩ (fun hS=>?_)
      clear hK K
      try simp only [Act.put,List.setIfInBounds_toArray,List.set_cons_zero,List.set_cons_succ]
      have HT:=one_alloc (q:=place s.size t) (ty:=99) B3.out
      refine held_one 8 (by kernel_rfl) rfl (fun K hK=>?_)
      go_simp
      refine hK.out _ _ ⟨k5 _ HT.1,HT.1⟩ (fun hS=>?_)
      clear hK K
      try simp only [Act.put,List.setIfInBounds_toArray,List.set_cons_zero,List.set_cons_succ]
      refine held_take 9 (v:=?_) rfl (by kernel_rfl) (by kernel_rfl) (by kernel_rfl) (fun _ _ _ h=>h) (Or.inl ⟨by rfl,?_⟩) (by assumption) ?_
      rotate_left 1
      ·(intro w' hSw;(try dsimp only at hSw);go_simp <;> with_reducible rfl)
      try simp only [Act.put,List.setIfInBounds_toArray,List.set_cons_zero,List.set_cons_succ]
      refine wpAnyH_done (by kernel_rfl) ?_ _
      have HF:Hid _:=HT
      clear HT hS Bn B3 q3 k5 B0
      generalize w3.heap.size=nv at HF ⊢
      generalize w3.alloc (.cells #[.int .i64 (place s.size t)] 99)=w4 at HF ⊢
      have HNB:Hid (nv≠b):=by have:=HF.out.2.2;have:=lt_of_cell C5.out;show _≠_;dsimp only at this;omega
      have HK4:Hid (Kp b v w4):=HK2.out.trans (Kp.of_below HF.out.1)
      go_wp2_with fail
      refine (advance_any a b s t _ (HL.out.kept HK4.out hb) hb (KR.out _ HF.out.1) hs).mono ?_
      rintro e w5 ⟨kk5,(⟨t1,rfl,g3,r3⟩ | ⟨k,at_,hkk,d,rfl,hd,hno⟩)⟩
      ·have G3:Hid _:=g3
       have M3:Hid (Mil.mu t1 < Mil.mu t):=Mil.adv_mu g3 HK3.out
       have HK5:Hid (Kp b v w5):=HK4.out.trans kk5
       have R5:Hid (RdS w5 b s t1):=r3
       have C5n:Hid (w5.cell? ⟨nv,0,none⟩=some (.int .i64 (place s.size t))):=kk5.held HF.out.2.1 HNB.out
       clear g3 kk5 r3
       go_wp2_with fail
       refine region_held (fun w'=>w'.cell? ⟨nv,0,none⟩=some (.int .i64 (place s.size t))) (by kernel_rfl) C5n.out (fun hS=>?_)
       refine held_take 0 (v:=?_) rfl (by kernel_rfl) (by kernel_rfl) (by kernel_rfl) (fun _ _ _ h=>h) (Or.inl ⟨by rfl,?_⟩) (by assumption) ?_
       rotate_left 1
       ·(intro w' hSw;(try dsimp only at hSw);go_simp <;> with_reducible rfl)
       try simp only [Act.put,List.setIfInBounds_toArray,List.set_cons_zero,List.set_cons_succ]
       refine held_take 1 (v:=?_) rfl (by kernel_rfl) (by kernel_rfl) (by kernel_rfl) (fun _ _ _ h=>h) (Or.inl ⟨by rfl,?_⟩) (by assumption) ?_
       rotate_left 1
       ·(intro w' hSw;(try dsimp only at hSw);go_simp <;> with_reducible rfl)
       try simp only [Act.put,List.setIfInBounds_toArray,List.set_cons_zero,List.set_cons_succ]
       refine held_take 2 (v:=?_) rfl (by kernel_rfl) (by kernel_rfl) (by kernel_rfl) (fun _ _ _ h=>h) (Or.inl ⟨by rfl,?_⟩) (by assumption) ?_
       rotate_left 1
       ·(intro w' hSw;(try dsimp only at hSw);go_simp <;> with_reducible rfl)
       try simp only [Act.put,List.setIfInBounds_toArray,List.set_cons_zero,List.set_cons_succ]
       refine held_take 3 (v:=?_) rfl (by kernel_rfl) (by kernel_rfl) (by kernel_rfl) (fun _ _ _ h=>h) (Or.inl ⟨by rfl,?_⟩) (by assumption) ?_
       rotate_left 1
       ·(intro w' hSw;(try dsimp only at hSw);go_simp <;> with_reducible rfl)
       try simp only [Act.put,List.setIfInBounds_toArray,List.set_cons_zero,List.set_cons_succ]
       refine held_take 4 (v:=?_) rfl (by kernel_rfl) (by kernel_rfl) (by kernel_rfl) (fun _ _ _ h=>h) (Or.inl ⟨by rfl,?_⟩) (by assumption) ?_
       rotate_left 1
       ·(intro w' hSw;(try dsimp only at hSw);go_simp <;> with_reducible rfl)
       try simp only [Act.put,List.setIfInBounds_toArray,List.set_cons_zero,List.set_cons_succ]
       refine held_take 5 (v:=?_) rfl (by kernel_rfl) (by kernel_rfl) (by kernel_rfl) (fun _ _ _ h=>h) (Or.inl ⟨by rfl,?_⟩) (by assumption) ?_
       rotate_left 1
       ·(intro w' hSw;(try dsimp only at hSw);go_simp <;> with_reducible rfl)
       try simp only [Act.put,List.setIfInBounds_toArray,List.set_cons_zero,List.set_cons_succ]
       refine held_one 6 (by kernel_rfl) rfl (fun K hK=>?_)
       go_simp
       rw [IntWalk.i64_in ((l:Int)+1) ⟨by omega,by omega⟩]
       refine ((IH.out t1 (Nat.lt_of_lt_of_le M3.out HM.out)).next _ ((HL.out.kept HK5.out hb).kept (Kp.refl b w5).drew hb) (R5.out.kept (Kp.refl (b+1) w5).drew (by omega))).mono ?_
       rintro e w6 ⟨kk6,(⟨x4,t4,ty4,y4,rfl,e4,g4,r4⟩ | ⟨k,at_,hkk,d,rfl,hd,hno⟩)⟩
       ·have G4:Hid (Mip.Ok (l+1) Mip.eNil t1 (x4,t4)):=g4
        have E4:Hid _:=e4
        have HK6:Hid (Kp b v w6):=HK5.out.drew.trans kk6
        have R6:Hid (RdS w6 b s t4):=r4
        have M4:Hid (Mil.mu t4 < Mil.mu t):=Nat.lt_of_le_of_lt (Mip.ok_mu g4) M3.out
        have C6n:Hid (w6.cell? ⟨nv,0,none⟩=some (.int .i64 (place s.size t))):=((Kp.refl b w5).drew.trans kk6).held C5n.out HNB.out
        have HE:Hid (ev s.size (Mip.eTwo (Mip.off t) t.tok.txt x x4)=.iface 175 (.agg #[.int .i64 (place s.size t),.string xs,.iface ty y,.iface ty4 y4])):=by
         show Value.iface _ (.agg #[.int .i64 ((s.size:Int) - (Mip.off t:Nat)),.string (bs t.tok.txt),ev s.size x,ev s.size x4])=_
         rw [EX.out,E4.out,HX.out,place_off]
        clear g4 e4 kk6 r4 hS
        refine hK.out _ _ C6n.out (fun hS=>?_)
        clear hK K
        try simp only [Act.put,List.setIfInBounds_toArray,List.set_cons_zero,List.set_cons_succ]
        refine held_take 7 (v:=?_) rfl (by kernel_rfl) (by kernel_rfl) (by kernel_rfl) (fun _ _ _ h=>h) (Or.inl ⟨by rfl,?_⟩) (by assumption) ?_
        rotate_left 1
        ·(intro w' hSw;(try dsimp only at hSw);go_simp <;> with_reducible rfl)
        try simp only [Act.put,List.setIfInBounds_toArray,List.set_cons_zero,List.set_cons_succ]
        refine held_take 8 (v:=?_) rfl (by kernel_rfl) (by kernel_rfl) (by kernel_rfl) (fun _ _ _ h=>h) (Or.inl ⟨by rfl,?_⟩) (by assumption) ?_
        rotate_left 1
        ·(intro w' hSw;(try dsimp only at hSw);go_simp <;> with_reducible rfl)
        try simp only [Act.put,List.setIfInBounds_toArray,List.set_cons_zero,List.set_cons_succ]
        refine held_take 9 (v:=?_) rfl (by kernel_rfl) (by kernel_rfl) (by kernel_rfl) (fun _ _ _ h=>h) (Or.inl ⟨by rfl,?_⟩) (by assumption) ?_
        rotate_left 1
        ·(intro w' hSw;(try dsimp only at hSw);go_simp <;> with_reducible rfl)
        try simp only [Act.put,List.setIfInBounds_toArray,List.set_cons_zero,List.set_cons_succ]
        refine wpAnyH_done (by kernel_rfl) ?_ _
        clear hS
        by_cases h4:l=4
        ·have i4:((l:Int)==4)=true:=by simp;omega
         have H4:Hid (l=4):=h4
         clear h4
         go_wp2
         go_ret
         refine ⟨HV.out.kp.trans HK6.out,Or.inl ⟨Mip.eTwo (Mip.off t) t.tok.txt x x4,t4,_,_,rfl,HE.out,(HI.out.1 _).1 ?_,R6.out⟩⟩
         have:=H4.out
         subst this
         exact Mip.ok_rel HO.out G3.out G4.out
        ·have i4:((l:Int)==4)=false:=by simp;omega
         have H4:Hid (l≠4):=h4
         clear h4
         go_wp2
         go_roundg (Mil.mu t4)
         case measure=>have:=HG.out;have:=M4.out;omega
         case rel=>
          refine ⟨Mip.eTwo (Mip.off t) t.tok.txt x x4,t4,_,_,rfl,rfl,HE,⟨fun z=>⟨fun h=>(HI.out.1 z).1 (Mip.ok_go H4.out HO.out G3.out G4.out h),fun h=>?_⟩,fun k p h=>HI.out.2 k p (Mil.bad_go HO.out (Or.inr ⟨_,G3.out,Or.inr ⟨_,Mip.Ok.er G4.out,H4.out,h⟩⟩))⟩,R6,HK6,by have:=M4.out;have:=HM.out;show _≤_;omega⟩
          obtain ⟨t1',b',q1,q2,q3⟩:=Mip.inv_go HO.out ((HI.out.1 z).2 h)
          obtain rfl:=Option.some.inj (G3.out.symm.trans q1)
          obtain rfl:=Mip.Ok.unique q2 G4.out
          rcases q3 with ⟨q3,_⟩ | ⟨_,q3⟩
          ·exact absurd q3 H4.out
          ·exact q3
       ·exact ⟨rfl,HV.out.kp.trans (HK5.out.drew.trans kk6),Or.inr ⟨k,at_,hkk,d,rfl,hd,HI.out.2 _ _ (Mil.bad_go HO.out (Or.inr ⟨_,G3.out,Or.inl hno⟩))⟩⟩
      ·have HNO:Hid _:=hno
       clear hno
       go_wp2
       exact ⟨rfl,HV.out.kp.trans (HK4.out.trans kk5),Or.inr ⟨k,at_,hkk,d,rfl,hd,HI.out.2 _ _ (Mil.bad_go HO.out (Or.inl HNO.out))⟩⟩
     ·go_simp
      have Bn:Hid (Below w2.heap.size w2 (w2.drew.alloc (.cells #[.int .i64 0] 99))):=B0.out.alloc B0.out.size _
      refine hK.out _ _ ⟨k5 _ Bn.out,Bn.out⟩ (fun hS=>?_)
      clear hK K
      try simp only [Act.put,List.setIfInBounds_toArray,List.set_cons_zero,List.set_cons_succ]
      refine held_one 1 (by kernel_rfl) rfl (fun K hK=>?_)
      go_simp
      refine (here_any b s t _ (KR.out _ Bn.out)).mono ?_
      rintro e w3 ⟨rfl,q3⟩
      have B3:Hid (Below w2.heap.size w2 w3):=below_more Bn.out q3
      refine hK.out _ _ ⟨k5 _ B3.out,B3.out⟩ (fun hS=>?_)
      clear hK K
      try simp only [Act.put,List.setIfInBounds_toArray,List.set_cons_zero,List.set_cons_succ]
      have NK:NewOne w3 w2.heap.size:=one_kept q3 (one_at w2.drew)
      have HT:=one_done (q:=place s.size t) B3.out (Nat.le_refl w2.heap.size) NK
      obtain ⟨u0,u1⟩:=NK
      refine held_one 8 (by kernel_rfl) rfl (fun K hK=>?_)
      go_simp
      refine hK.out _ _ ⟨k5 _ HT.1,HT.1⟩ (fun hS=>?_)
      clear hK K
      try simp only [Act.put,List.setIfInBounds_toArray,List.set_cons_zero,List.set_cons_succ]
      refine held_take 9 (v:=?_) rfl (by kernel_rfl) (by kernel_rfl) (by kernel_rfl) (fun _ _ _ h=>h) (Or.inl ⟨by rfl,?_⟩) (by assumption) ?_
      rotate_left 1
      ·(intro w' hSw;(try dsimp only at hSw);go_simp <;> with_reducible rfl)
      try simp only [Act.put,List.setIfInBounds_toArray,List.set_cons_zero,List.set_cons_succ]
      refine wpAnyH_done (by kernel_rfl) ?_ _
      have HF:Hid _:=HT
      clear HT hS Bn B3 q3 k5 B0 u0 u1
      generalize w3.setCell ⟨w2.heap.size,0,none⟩ (.int .i64 (place s.size t))=w4 at HF ⊢
      have HNB:Hid (w2.heap.size≠b):=by have:=HF.out.2.2;have:=lt_of_cell C5.out;show _≠_;dsimp only at this;omega
      have HK4:Hid (Kp b v w4):=HK2.out.trans (Kp.of_below HF.out.1)
      go_wp2_with fail
      refine (advance_any a b s t _ (HL.out.kept HK4.out hb) hb (KR.out _ HF.out.1) hs).mono ?_
      rintro e w5 ⟨kk5,(⟨t1,rfl,g3,r3⟩ | ⟨k,at_,hkk,d,rfl,hd,hno⟩)⟩
      ·have G3:Hid _:=g3
       have M3:Hid (Mil.mu t1 < Mil.mu t):=Mil.adv_mu g3 HK3.out
       have HK5:Hid (Kp b v w5):=HK4.out.trans kk5
       have R5:Hid (RdS w5 b s t1):=r3
       have C5n:Hid (w5.cell? ⟨w2.heap.size,0,none⟩=some (.int .i64 (place s.size t))):=kk5.held HF.out.2.1 HNB.out
       clear g3 kk5 r3
       go_wp2_with fail
       refine region_held (fun w'=>w'.cell? ⟨w2.heap.size,0,none⟩=some (.int .i64 (place s.size t))) (by kernel_rfl) C5n.out (fun hS=>?_)
       refine held_take 0 (v:=?_) rfl (by kernel_rfl) (by kernel_rfl) (by kernel_rfl) (fun _ _ _ h=>h) (Or.inl ⟨by rfl,?_⟩) (by assumption) ?_
       rotate_left 1
       ·(intro w' hSw;(try dsimp only at hSw);go_simp <;> with_reducible rfl)
       try simp only [Act.put,List.setIfInBounds_toArray,List.set_cons_zero,List.set_cons_succ]
       refine held_take 1 (v:=?_) rfl (by kernel_rfl) (by kernel_rfl) (by kernel_rfl) (fun _ _ _ h=>h) (Or.inl ⟨by rfl,?_⟩) (by assumption) ?_
       rotate_left 1
       ·(intro w' hSw;(try dsimp only at hSw);go_simp <;> with_reducible rfl)
       try simp only [Act.put,List.setIfInBounds_toArray,List.set_cons_zero,List.set_cons_succ]
       refine held_take 2 (v:=?_) rfl (by kernel_rfl) (by kernel_rfl) (by kernel_rfl) (fun _ _ _ h=>h) (Or.inl ⟨by rfl,?_⟩) (by assumption) ?_
       rotate_left 1
       ·(intro w' hSw;(try dsimp only at hSw);go_simp <;> with_reducible rfl)
       try simp only [Act.put,List.setIfInBounds_toArray,List.set_cons_zero,List.set_cons_succ]
       refine held_take 3 (v:=?_) rfl (by kernel_rfl) (by kernel_rfl) (by kernel_rfl) (fun _ _ _ h=>h) (Or.inl ⟨by rfl,?_⟩) (by assumption) ?_
       rotate_left 1
       ·(intro w' hSw;(try dsimp only at hSw);go_simp <;> with_reducible rfl)
       try simp only [Act.put,List.setIfInBounds_toArray,List.set_cons_zero,List.set_cons_succ]
       refine held_take 4 (v:=?_) rfl (by kernel_rfl) (by kernel_rfl) (by kernel_rfl) (fun _ _ _ h=>h) (Or.inl ⟨by rfl,?_⟩) (by assumption) ?_
       rotate_left 1
       ·(intro w' hSw;(try dsimp only at hSw);go_simp <;> with_reducible rfl)
       try simp only [Act.put,List.setIfInBounds_toArray,List.set_cons_zero,List.set_cons_succ]
       refine held_take 5 (v:=?_) rfl (by kernel_rfl) (by kernel_rfl) (by kernel_rfl) (fun _ _ _ h=>h) (Or.inl ⟨by rfl,?_⟩) (by assumption) ?_
       rotate_left 1
       ·(intro w' hSw;(try dsimp only at hSw);go_simp <;> with_reducible rfl)
       try simp only [Act.put,List.setIfInBounds_toArray,List.set_cons_zero,List.set_cons_succ]
       refine held_one 6 (by kernel_rfl) rfl (fun K hK=>?_)
       go_simp
       rw [IntWalk.i64_in ((l:Int)+1) ⟨by omega,by omega⟩]
       refine ((IH.out t1 (Nat.lt_of_lt_of_le M3.out HM.out)).next _ ((HL.out.kept HK5.out hb).kept (Kp.refl b w5).drew hb) (R5.out.kept (Kp.refl (b+1) w5).drew (by omega))).mono ?_
       rintro e w6 ⟨kk6,(⟨x4,t4,ty4,y4,rfl,e4,g4,r4⟩ | ⟨k,at_,hkk,d,rfl,hd,hno⟩)⟩
       ·have G4:Hid (Mip.Ok (l+1) Mip.eNil t1 (x4,t4)):=g4
        have E4:Hid _:=e4
        have HK6:Hid (Kp b v w6):=HK5.out.drew.trans kk6
        have R6:Hid (RdS w6 b s t4):=r4
        have M4:Hid (Mil.mu t4 < Mil.mu t):=Nat.lt_of_le_of_lt (Mip.ok_mu g4) M3.out
        have C6n:Hid (w6.cell? ⟨w2.heap.size,0,none⟩=some (.int .i64 (place s.size t))):=((Kp.refl b w5).drew.trans kk6).held C5n.out HNB.out
        have HE:Hid (ev s.size (Mip.eTwo (Mip.off t) t.tok.txt x x4)=.iface 175 (.agg #[.int .i64 (place s.size t),.string xs,.iface ty y,.iface ty4 y4])):=by
         show Value.iface _ (.agg #[.int .i64 ((s.size:Int) - (Mip.off t:Nat)),.string (bs t.tok.txt),ev s.size x,ev s.size x4])=_
         rw [EX.out,E4.out,HX.out,place_off]
        clear g4 e4 kk6 r4 hS
        refine hK.out _ _ C6n.out (fun hS=>?_)
        clear hK K
        try simp only [Act.put,List.setIfInBounds_toArray,List.set_cons_zero,List.set_cons_succ]
        refine held_take 7 (v:=?_) rfl (by kernel_rfl) (by kernel_rfl) (by kernel_rfl) (fun _ _ _ h=>h) (Or.inl ⟨by rfl,?_⟩) (by assumption) ?_
        rotate_left 1
        ·(intro w' hSw;(try dsimp only at hSw);go_simp <;> with_reducible rfl)
        try simp only [Act.put,List.setIfInBounds_toArray,List.set_cons_zero,List.set_cons_succ]
        refine held_take 8 (v:=?_) rfl (by kernel_rfl) (by kernel_rfl) (by kernel_rfl) (fun _ _ _ h=>h) (Or.inl ⟨by rfl,?_⟩) (by assumption) ?_
        rotate_left 1
        ·(intro w' hSw;(try dsimp only at hSw);go_simp <;> with_reducible rfl)
        try simp only [Act.put,List.setIfInBounds_toArray,List.set_cons_zero,List.set_cons_succ]
        refine held_take 9 (v:=?_) rfl (by kernel_rfl) (by kernel_rfl) (by kernel_rfl) (fun _ _ _ h=>h) (Or.inl ⟨by rfl,?_⟩) (by assumption) ?_
        rotate_left 1
        ·(intro w' hSw;(try dsimp only at hSw);go_simp <;> with_reducible rfl)
        try simp only [Act.put,List.setIfInBounds_toArray,List.set_cons_zero,List.set_cons_succ]
        refine wpAnyH_done (by kernel_rfl) ?_ _
        clear hS
        by_cases h4:l=4
        ·have i4:((l:Int)==4)=true:=by simp;omega
         have H4:Hid (l=4):=h4
         clear h4
         go_wp2
         go_ret
         refine ⟨HV.out.kp.trans HK6.out,Or.inl ⟨Mip.eTwo (Mip.off t) t.tok.txt x x4,t4,_,_,rfl,HE.out,(HI.out.1 _).1 ?_,R6.out⟩⟩
         have:=H4.out
         subst this
         exact Mip.ok_rel HO.out G3.out G4.out
        ·have i4:((l:Int)==4)=false:=by simp;omega
         have H4:Hid (l≠4):=h4
         clear h4
         go_wp2
         go_roundg (Mil.mu t4)
         case measure=>have:=HG.out;have:=M4.out;omega
         case rel=>
          refine ⟨Mip.eTwo (Mip.off t) t.tok.txt x x4,t4,_,_,rfl,rfl,HE,⟨fun z=>⟨fun h=>(HI.out.1 z).1 (Mip.ok_go H4.out HO.out G3.out G4.out h),fun h=>?_⟩,fun k p h=>HI.out.2 k p (Mil.bad_go HO.out (Or.inr ⟨_,G3.out,Or.inr ⟨_,Mip.Ok.er G4.out,H4.out,h⟩⟩))⟩,R6,HK6,by have:=M4.out;have:=HM.out;show _≤_;omega⟩
          obtain ⟨t1',b',q1,q2,q3⟩:=Mip.inv_go HO.out ((HI.out.1 z).2 h)
          obtain rfl:=Option.some.inj (G3.out.symm.trans q1)
          obtain rfl:=Mip.Ok.unique q2 G4.out
          rcases q3 with ⟨q3,_⟩ | ⟨_,q3⟩
          ·exact absurd q3 H4.out
          ·exact q3
       ·exact ⟨rfl,HV.out.kp.trans (HK5.out.drew.trans kk6),Or.inr ⟨k,at_,hkk,d,rfl,hd,HI.out.2 _ _ (Mil.bad_go HO.out (Or.inr ⟨_,G3.out,Or.inl hno⟩))⟩⟩
      ·have HNO:Hid _:=hno
       clear hno
       go_wp2
       exact ⟨rfl,HV.out.kp.trans (HK4.out.trans kk5),Or.inr ⟨k,at_,hkk,d,rfl,hd,HI.out.2 _ _ (Mil.bad_go HO.out (Or.inl HNO.out))⟩⟩
    ·have HO:Hid (Mil.opAt t≠l):=ho
     have hdec:decide (Mil.opAt t=l)=false:=decide_eq_false ho
     clear ho
     go_wp2_with fail
     refine (seesOperator_any a b s t l h1 (by omega) _ (HL.out.kept HK.out hb) HR.out).mono ?_
     rintro e w2 ⟨rfl,hb2⟩
     rw [hdec]
     go_wp2
     go_ret
     exact ⟨HV.out.kp.trans (HK.out.trans (Kp.of_below hb2)),Or.inl ⟨x,t,ty,y,rfl,EX.out,(HI.out.1 _).1 (Mip.ok_stop HO.out),HR.out.kept (Kp.of_below (b:=b+1) hb2) (by omega)⟩⟩
  ·have HNO:Hid _:=hno
   clear hno
   go_wp2
   exact ⟨rfl,HV.out.kp.trans hk1,Or.inr ⟨k,at_,hkk,d,rfl,hd,Mil.bad_level h1 h8 HP.out (Or.inl HNO.out)⟩⟩
theorem operand_pre3 (a:Nat→Addr) (b:Nat) (s:ByteArray) (hb:23≤b) (hs:s.size≤4000) (st:Mil.St) (ih:∀t,Mil.mu t < Mil.mu st→MOC a b s 3 t) (hy:Mil.sees st Mil.wNot=true):MOC a b s 3 st:=by
 intro w L h
 have H:Hid (RdS w b s st):=h
 have HL:Hid (Laid a w):=L
 have IH:Hid (∀t,Mil.mu t < Mil.mu st→MOC a b s 3 t):=ih
 have HK3:Hid (st.tok.kind≠0):=by show _≠_;rw [(Mil.sees_kind3 hy).1];decide
 have HT:Hid (st.tok.txt=Mil.wNot):=(Mil.sees_kind3 hy).2
 have HI:Hid (Mil.sees st (bs Mil.wNot).data.toList=true):=hy
 clear h L ih hy
 go_enter Tryz.func156,Tryz.ntmps156
 go_wp2_with fail
 refine (here_any b s st _ H.out).mono ?_
 rintro e w0 ⟨rfl,hw0⟩
 have HV:Hid (Hd a b s st w (w0.alloc (.cells #[.int .i64 (place s.size st)] 99)) (place s.size st) w0.heap.size):=head_facts HL.out hb H.out hw0
 clear hw0
 go_wp2_with fail
 generalize w0.heap.size=kv at HV ⊢
 generalize w0.alloc (.cells #[.int .i64 (place s.size st)] 99)=v at HV ⊢
 clear H HL w0
 have H:Hid (RdS v b s st):=HV.out.rd
 have HL:Hid (Laid a v):=HV.out.laid
 refine (takes_yes a b s st (bs Mil.wNot) _ HL.out hb H.out hs HI.out).mono ?_
 rintro e w1 ⟨hk1,(⟨s1,rfl,g1,r1⟩ | ⟨k,at_,hkk,d,rfl,hd,hno⟩)⟩
 ·have G1:Hid (Mil.adv st=some s1):=g1
  have M1:Hid (Mil.mu s1 < Mil.mu st):=Mil.adv_mu g1 HK3.out
  clear g1
  have HK1:Hid (Kp b v w1):=hk1
  have R1:Hid (RdS w1 b s s1):=r1
  clear hk1 r1
  go_wp2_with fail
  refine region_held (fun w'=>w'.cell? ⟨kv,0,none⟩=some (.int .i64 (place s.size st))) (by kernel_rfl) (HK1.out.held HV.out.cell HV.out.ne) (fun hS=>?_)
  refine held_take 0 (v:=?_) rfl (by kernel_rfl) (by kernel_rfl) (by kernel_rfl) (fun _ _ _ h=>h) (Or.inl ⟨by rfl,?_⟩) (by assumption) ?_
  rotate_left 1
  ·(intro w' hSw;(try dsimp only at hSw);go_simp <;> with_reducible rfl)
  try simp only [Act.put,List.setIfInBounds_toArray,List.set_cons_zero,List.set_cons_succ]
  refine held_take 1 (v:=?_) rfl (by kernel_rfl) (by kernel_rfl) (by kernel_rfl) (fun _ _ _ h=>h) (Or.inl ⟨by rfl,?_⟩) (by assumption) ?_
  rotate_left 1
  ·(intro w' hSw;(try dsimp only at hSw);go_simp <;> with_reducible rfl)
  try simp only [Act.put,List.setIfInBounds_toArray,List.set_cons_zero,List.set_cons_succ]
  refine held_one 2 (by kernel_rfl) rfl (fun K hK=>?_)
  go_simp
  refine (IH.out s1 M1.out _ ((HL.out.kept HK1.out hb).kept (Kp.refl b w1).drew hb) (R1.out.kept (Kp.refl (b+1) w1).drew (by omega))).mono ?_
  rintro e w2 ⟨hk2,(⟨x,s2,ty,y,rfl,ea,g2,r2⟩ | ⟨k,at_,hkk,d,rfl,hd,hno⟩)⟩
  ·have EA:Hid _:=ea
   have G2:Hid (Mip.Ok 3 Mip.eNil s1 (x,s2)):=g2
   have HK2:Hid (Kp b v w2):=HK1.out.drew.trans hk2
   have R2:Hid (RdS w2 b s s2):=r2
   clear ea g2 hk2 r2 hS
   refine hK.out _ _ (HK2.out.held HV.out.cell HV.out.ne) (fun hS=>?_)
   clear hK K
   try simp only [Act.put,List.setIfInBounds_toArray,List.set_cons_zero,List.set_cons_succ]
   refine held_take 3 (v:=?_) rfl (by kernel_rfl) (by kernel_rfl) (by kernel_rfl) (fun _ _ _ h=>h) (Or.inl ⟨by rfl,?_⟩) (by assumption) ?_
   rotate_left 1
   ·(intro w' hSw;(try dsimp only at hSw);go_simp <;> with_reducible rfl)
   try simp only [Act.put,List.setIfInBounds_toArray,List.set_cons_zero,List.set_cons_succ]
   refine held_take 4 (v:=?_) rfl (by kernel_rfl) (by kernel_rfl) (by kernel_rfl) (fun _ _ _ h=>h) (Or.inl ⟨by rfl,?_⟩) (by assumption) ?_
   rotate_left 1
   ·(intro w' hSw;(try dsimp only at hSw);go_simp <;> with_reducible rfl)
   try simp only [Act.put,List.setIfInBounds_toArray,List.set_cons_zero,List.set_cons_succ]
   refine held_take 5 (v:=?_) rfl (by kernel_rfl) (by kernel_rfl) (by kernel_rfl) (fun _ _ _ h=>h) (Or.inl ⟨by rfl,?_⟩) (by assumption) ?_
   rotate_left 1
   ·(intro w' hSw;(try dsimp only at hSw);go_simp <;> with_reducible rfl)
   try simp only [Act.put,List.setIfInBounds_toArray,List.set_cons_zero,List.set_cons_succ]
   refine wpAnyH_done (by kernel_rfl) ?_ _
   clear hS
   go_wp2
   go_ret
   refine ⟨HV.out.kp.trans HK2.out,Or.inl ⟨Mip.ePre (Mip.off st) st.tok.txt x,s2,_,_,rfl,?_,Mip.ok_pre (Or.inl ⟨rfl,HI.out⟩) G1.out G2.out,R2.out⟩⟩
   show Value.iface _ (.agg #[.int .i64 ((s.size:Int) - (Mip.off st:Nat)),.string (bs st.tok.txt),ev s.size x])=_
   rw [EA.out,HT.out,place_off];rfl
  ·have HNO:Hid _:=hno
   clear hno
   exact ⟨rfl,HV.out.kp.trans (HK1.out.drew.trans hk2),Or.inr ⟨k,at_,hkk,d,rfl,hd,Mil.bad_pre (Or.inl ⟨rfl,HI.out⟩) (Or.inr ⟨_,G1.out,HNO.out⟩)⟩⟩
 ·have HNO:Hid _:=hno
  clear hno
  go_wp2
  exact ⟨rfl,HV.out.kp.trans hk1,Or.inr ⟨k,at_,hkk,d,rfl,hd,Mil.bad_pre (Or.inl ⟨rfl,HI.out⟩) (Or.inl HNO.out)⟩⟩
theorem operand_pre7 (a:Nat→Addr) (b:Nat) (s:ByteArray) (hb:23≤b) (hs:s.size≤4000) (st:Mil.St) (ih:∀t,Mil.mu t < Mil.mu st→MOC a b s 7 t) (hy:Mil.sees st Mil.sMinus=true):MOC a b s 7 st:=by
 intro w L h
 have H:Hid (RdS w b s st):=h
 have HL:Hid (Laid a w):=L
 have IH:Hid (∀t,Mil.mu t < Mil.mu st→MOC a b s 7 t):=ih
 have HK3:Hid (st.tok.kind≠0):=by show _≠_;rw [(Mil.sees_kind3 hy).1];decide
 have HT:Hid (st.tok.txt=Mil.sMinus):=(Mil.sees_kind3 hy).2
 have HI:Hid (Mil.sees st (bs Mil.sMinus).data.toList=true):=hy
 clear h L ih hy
 go_enter Tryz.func156,Tryz.ntmps156
 go_wp2_with fail
 refine (here_any b s st _ H.out).mono ?_
 rintro e w0 ⟨rfl,hw0⟩
 have HV:Hid (Hd a b s st w (w0.alloc (.cells #[.int .i64 (place s.size st)] 99)) (place s.size st) w0.heap.size):=head_facts HL.out hb H.out hw0
 clear hw0
 go_wp2_with fail
 generalize w0.heap.size=kv at HV ⊢
 generalize w0.alloc (.cells #[.int .i64 (place s.size st)] 99)=v at HV ⊢
 clear H HL w0
 have H:Hid (RdS v b s st):=HV.out.rd
 have HL:Hid (Laid a v):=HV.out.laid
 refine (takes_yes a b s st (bs Mil.sMinus) _ HL.out hb H.out hs HI.out).mono ?_
 rintro e w1 ⟨hk1,(⟨s1,rfl,g1,r1⟩ | ⟨k,at_,hkk,d,rfl,hd,hno⟩)⟩
 ·have G1:Hid (Mil.adv st=some s1):=g1
  have M1:Hid (Mil.mu s1 < Mil.mu st):=Mil.adv_mu g1 HK3.out
  clear g1
  have HK1:Hid (Kp b v w1):=hk1
  have R1:Hid (RdS w1 b s s1):=r1
  clear hk1 r1
  go_wp2_with fail
  refine region_held (fun w'=>w'.cell? ⟨kv,0,none⟩=some (.int .i64 (place s.size st))) (by kernel_rfl) (HK1.out.held HV.out.cell HV.out.ne) (fun hS=>?_)
  refine held_take 0 (v:=?_) rfl (by kernel_rfl) (by kernel_rfl) (by kernel_rfl) (fun _ _ _ h=>h) (Or.inl ⟨by rfl,?_⟩) (by assumption) ?_
  rotate_left 1
  ·(intro w' hSw;(try dsimp only at hSw);go_simp <;> with_reducible rfl)
  try simp only [Act.put,List.setIfInBounds_toArray,List.set_cons_zero,List.set_cons_succ]
  refine held_take 1 (v:=?_) rfl (by kernel_rfl) (by kernel_rfl) (by kernel_rfl) (fun _ _ _ h=>h) (Or.inl ⟨by rfl,?_⟩) (by assumption) ?_
  rotate_left 1
  ·(intro w' hSw;(try dsimp only at hSw);go_simp <;> with_reducible rfl)
  try simp only [Act.put,List.setIfInBounds_toArray,List.set_cons_zero,List.set_cons_succ]
  refine held_one 2 (by kernel_rfl) rfl (fun K hK=>?_)
  go_simp
  refine (IH.out s1 M1.out _ ((HL.out.kept HK1.out hb).kept (Kp.refl b w1).drew hb) (R1.out.kept (Kp.refl (b+1) w1).drew (by omega))).mono ?_
  rintro e w2 ⟨hk2,(⟨x,s2,ty,y,rfl,ea,g2,r2⟩ | ⟨k,at_,hkk,d,rfl,hd,hno⟩)⟩
  ·have EA:Hid _:=ea
   have G2:Hid (Mip.Ok 7 Mip.eNil s1 (x,s2)):=g2
   have HK2:Hid (Kp b v w2):=HK1.out.drew.trans hk2
   have R2:Hid (RdS w2 b s s2):=r2
   clear ea g2 hk2 r2 hS
   refine hK.out _ _ (HK2.out.held HV.out.cell HV.out.ne) (fun hS=>?_)
   clear hK K
   try simp only [Act.put,List.setIfInBounds_toArray,List.set_cons_zero,List.set_cons_succ]
   refine held_take 3 (v:=?_) rfl (by kernel_rfl) (by kernel_rfl) (by kernel_rfl) (fun _ _ _ h=>h) (Or.inl ⟨by rfl,?_⟩) (by assumption) ?_
   rotate_left 1
   ·(intro w' hSw;(try dsimp only at hSw);go_simp <;> with_reducible rfl)
   try simp only [Act.put,List.setIfInBounds_toArray,List.set_cons_zero,List.set_cons_succ]
   refine held_take 4 (v:=?_) rfl (by kernel_rfl) (by kernel_rfl) (by kernel_rfl) (fun _ _ _ h=>h) (Or.inl ⟨by rfl,?_⟩) (by assumption) ?_
   rotate_left 1
   ·(intro w' hSw;(try dsimp only at hSw);go_simp <;> with_reducible rfl)
   try simp only [Act.put,List.setIfInBounds_toArray,List.set_cons_zero,List.set_cons_succ]
   refine held_take 5 (v:=?_) rfl (by kernel_rfl) (by kernel_rfl) (by kernel_rfl) (fun _ _ _ h=>h) (Or.inl ⟨by rfl,?_⟩) (by assumption) ?_
   rotate_left 1
   ·(intro w' hSw;(try dsimp only at hSw);go_simp <;> with_reducible rfl)
   try simp only [Act.put,List.setIfInBounds_toArray,List.set_cons_zero,List.set_cons_succ]
   refine wpAnyH_done (by kernel_rfl) ?_ _
   clear hS
   go_wp2
   go_ret
   refine ⟨HV.out.kp.trans HK2.out,Or.inl ⟨Mip.ePre (Mip.off st) st.tok.txt x,s2,_,_,rfl,?_,Mip.ok_pre (Or.inr ⟨rfl,HI.out⟩) G1.out G2.out,R2.out⟩⟩
   show Value.iface _ (.agg #[.int .i64 ((s.size:Int) - (Mip.off st:Nat)),.string (bs st.tok.txt),ev s.size x])=_
   rw [EA.out,HT.out,place_off];rfl
  ·have HNO:Hid _:=hno
   clear hno
   exact ⟨rfl,HV.out.kp.trans (HK1.out.drew.trans hk2),Or.inr ⟨k,at_,hkk,d,rfl,hd,Mil.bad_pre (Or.inr ⟨rfl,HI.out⟩) (Or.inr ⟨_,G1.out,HNO.out⟩)⟩⟩
 ·have HNO:Hid _:=hno
  clear hno
  go_wp2
  exact ⟨rfl,HV.out.kp.trans hk1,Or.inr ⟨k,at_,hkk,d,rfl,hd,Mil.bad_pre (Or.inr ⟨rfl,HI.out⟩) (Or.inl HNO.out)⟩⟩
theorem operand_atom (a:Nat→Addr) (b:Nat) (s:ByteArray) (hb:23≤b) (st:Mil.St) (ia:MAC a b s st):MOC a b s 8 st:=by
 intro w L h
 have H:Hid (RdS w b s st):=h
 have HL:Hid (Laid a w):=L
 have IA:Hid (MAC a b s st):=ia
 clear h L ia
 go_enter Tryz.func156,Tryz.ntmps156
 go_wp2_with fail
 refine (here_any b s st _ H.out).mono ?_
 rintro e w0 ⟨rfl,hw0⟩
 have HV:Hid (Hd a b s st w (w0.alloc (.cells #[.int .i64 (place s.size st)] 99)) (place s.size st) w0.heap.size):=head_facts HL.out hb H.out hw0
 clear hw0
 go_wp2_with fail
 generalize w0.heap.size=kv at HV ⊢
 generalize w0.alloc (.cells #[.int .i64 (place s.size st)] 99)=v at HV ⊢
 clear H HL w0
 have H:Hid (RdS v b s st):=HV.out.rd
 have HL:Hid (Laid a v):=HV.out.laid
 refine (IA.out _ HL.out H.out).mono ?_
 rintro e w2 ⟨hk2,(⟨x,s2,ty,y,rfl,ea,g2,r2⟩ | ⟨k,at_,hkk,d,rfl,hd,hno⟩)⟩
 ·have EA:Hid _:=ea
  have G2:Hid (Mip.Ok 8 Mip.eNil st (x,s2)):=g2
  clear ea g2
  go_wp2
  go_ret
  exact ⟨HV.out.kp.trans hk2,Or.inl ⟨x,s2,ty,y,rfl,EA.out,G2.out,r2⟩⟩
 ·have HNO:Hid _:=hno
  clear hno
  go_wp2
  exact ⟨rfl,HV.out.kp.trans hk2,Or.inr ⟨k,at_,hkk,d,rfl,hd,HNO.out⟩⟩
theorem levels (a:Nat→Addr) (b:Nat) (s:ByteArray) (hb:23≤b) (hs:s.size≤4000) (st:Mil.St) (iol:∀t,Mil.mu t < Mil.mu st→∀l,1≤l→l≤8→MOC a b s l t) (ia:MAC a b s st):∀l,1≤l→l≤8→MOC a b s l st:=by
 have down:∀k l,l+k=8→1≤l→MOC a b s l st:=by
  intro k
  induction k with
  | zero=>
   intro l hl _
   have:l=8:=by omega
   subst this
   exact operand_atom a b s hb st ia
  | succ k ihk=>
   intro l hl h1
   have h8:l < 8:=by omega
   have up:=ihk (l+1) (by omega) (by omega)
   have ihl:∀t,Mil.mu t < Mil.mu st→MOC a b s (l+1) t:=fun t ht=>iol t ht (l+1) (by omega) (by omega)
   by_cases h3:l=3
   ·by_cases hn:Mil.sees st Mil.wNot=true
    ·subst h3
     exact operand_pre3 a b s hb hs st (fun t ht=>iol t ht 3 (by omega) (by omega)) hn
    ·exact operand_lv a b s hb hs l h1 h8 st ihl up (q3:=true) (q7:=false) (by simp;omega) (by simp;omega) (Or.inr (Or.inl ⟨rfl,rfl,Bool.eq_false_iff.2 hn⟩))
   ·by_cases h7:l=7
    ·by_cases hn:Mil.sees st Mil.sMinus=true
     ·subst h7
      exact operand_pre7 a b s hb hs st (fun t ht=>iol t ht 7 (by omega) (by omega)) hn
     ·exact operand_lv a b s hb hs l h1 h8 st ihl up (q3:=false) (q7:=true) (by simp;omega) (by simp;omega) (Or.inr (Or.inr ⟨rfl,rfl,Bool.eq_false_iff.2 hn⟩))
    ·exact operand_lv a b s hb hs l h1 h8 st ihl up (q3:=false) (q7:=false) (by simp;omega) (by simp;omega) (Or.inl ⟨rfl,rfl⟩)
 intro l h1 h8
 exact down (8 - l) l (by omega) h1
theorem all_any (a:Nat→Addr) (b:Nat) (s:ByteArray) (hb:23≤b) (hs:s.size≤4000):∀(n:Nat) (st:Mil.St),Mil.mu st≤n→MEC a b s st∧∀l,1≤l→l≤8→MOC a b s l st:=by
 intro n
 induction n with
 | zero=>
  intro st hm
  have none:∀t,¬Mil.mu t < Mil.mu st:=fun t h=>by omega
  have ia:=matom_any a b s hb hs st (fun t ht=>absurd ht (none t))
  have io:=levels a b s hb hs st (fun t ht=>absurd ht (none t)) ia
  exact ⟨expression_any a b s hb hs st (fun t ht=>absurd ht (none t)) (io 1 (by omega) (by omega)),io⟩
 | succ n ih=>
  intro st hm
  have ie:∀t,Mil.mu t < Mil.mu st→MEC a b s t:=fun t ht=>(ih t (by omega)).1
  have iol:∀t,Mil.mu t < Mil.mu st→∀l,1≤l→l≤8→MOC a b s l t:=fun t ht=>(ih t (by omega)).2
  have ia:=matom_any a b s hb hs st ie
  have io:=levels a b s hb hs st iol ia
  exact ⟨expression_any a b s hb hs st ie (io 1 (by omega) (by omega)),io⟩
theorem expression_all (a:Nat→Addr) (b:Nat) (s:ByteArray) (hb:23≤b) (hs:s.size≤4000) (st:Mil.St):MEC a b s st:=(all_any a b s hb hs _ st (Nat.le_refl _)).1
end
end Go.Proofs.YticbokabjhnagaaGreatDoor
