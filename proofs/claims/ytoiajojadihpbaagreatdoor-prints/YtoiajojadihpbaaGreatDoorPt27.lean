import Derived.Test.YtoiajojadihpbaaGreatDoorPt26
namespace Go.Proofs.YtoiajojadihpbaaGreatDoor
set_option maxHeartbeats 8000000
section
open Go.RowKit
theorem tok_grown {b g:Nat} {nv:Value} {L:Nat} {t:Ref.Tk} {W w1 w2 w7:World} {row:Option Nat} (h:TokL b g nv L t W) {nv1:Value} (f:Fr b g W nv w1 nv1) (hb:Below w1.heap.size w1 w2) (hg:w2.grownBy w7 row) (hr:row≠some L):w7.cell? ⟨L,0,none⟩=some (.string (bs t.t))∧w7.cell? ⟨L,1,none⟩=some (.int .i64 (t.at_:Nat)):=by
 have l0:=(Array.getElem?_eq_some_iff.1 h.at_).1
 have l1:=Nat.lt_of_lt_of_le l0 f.size
 have e:w7.heap[L]?=some (.cells (tkA t) 104 (0,0)):=(hg.block L (Nat.lt_of_lt_of_le l1 hb.size) (fun e=>hr e.symm)).trans ((hb.block L l1).trans ((f.block L l0 h.lb h.lg h.ln).trans h.at_))
 refine ⟨?_,?_⟩
 ·rw [cell_of_row w7 _ 0 _ _ _ e];rfl
 ·rw [cell_of_row w7 _ 1 _ _ _ e];rfl
set_option maxRecDepth 100000 in
theorem item_in (B b g:Nat) (T:List Ref.Tk) (tv:Value) (hs:T.length≤4001) (I:List Iw) (iv nv:Value) (s:Ref.Rs) (w:World) (h:RM B b g T tv iv s nv w) (hm:IM B b g tv I iv nv w) (hl:I.length≤4000) (hi:Ref.is T Mil.wInput s=true) :
  Calls Tryz.prog 50 #[.pointer (some ⟨b,0,none⟩)] w (ItemPost B b g T tv I iv nv w s):=by
 have H:=hid h
 have HM:=hid hm
 have HU:Hid (s.p+1 < T.length):=is_up h (by decide) hi
 have HI:=hid hi
 have HO:Hid (Ref.is T Mil.wOutput s=false):=is_other hi (by decide)
 clear h hm hi
 go_enter Tryz.func50,Tryz.ntmps50
 go_wp2_with fail
 refine (now_any B b g T tv iv s nv _ H.out).mono ?_
 rintro r w1 ⟨rfl,hb1⟩
 rw [tokV_eq]
 have hf:=field_at (Ref.now T s).t (Ref.now T s).at_ (Ref.now T s).number (Ref.now T s).name (Ref.now T s).v (Ref.now T s).e
 have H1:=hid (H.out.below hb1)
 have F1:Hid (Fr b g w nv w1 nv):=Fr.of_below hb1
 clear hb1
 go_wp2_with fail
 clear hf
 refine (is_any B b g T tv iv s nv Mil.wInput _ H1.out).mono ?_
 rintro r w2 ⟨rfl,hb2⟩
 rw [HI.out]
 have H2:=hid (H1.out.below hb2)
 have F2:Hid (Fr b g w nv w2 nv):=F1.out.trans (Fr.of_below hb2)
 clear hb2
 go_wp2_with fail
 refine (is_any B b g T tv iv s nv Mil.wOutput _ H2.out).mono ?_
 rintro r w3 ⟨rfl,hb3⟩
 rw [HO.out]
 have H3:=hid (H2.out.below hb3)
 have F3:Hid (Fr b g w nv w3 nv):=F2.out.trans (Fr.of_below hb3)
 clear hb3
 have d4:=(H3.out).cells.2.1
 have z4:=(H3.out).cells.2.2.2.2.2.2.2.1
 have l4:=(H3.out).lt
 have H4:Hid (RM B b g T tv iv (Ref.up s) nv (w3.setCell ⟨b,1,none⟩ (.int .i64 ((s.p:Int)+1)))):=((H3.out).setP HU.out).1
 have F4:Hid (Fr b g w nv (w3.setCell ⟨b,1,none⟩ (.int .i64 ((s.p:Int)+1))) nv):=F3.out.trans ((H3.out).setP HU.out).2
 go_wp2_with fail
 clear d4 z4 l4
 generalize w3.setCell ⟨b,1,none⟩ (.int .i64 ((s.p:Int)+1))=w4 at H4 F4 ⊢
 refine (rname_any B b g T tv iv (Ref.up s) nv _ H4.out hs).mono ?_
 rintro r w5 ⟨rfl,m5,f5⟩
 rw [tokV_eq]
 generalize hc5:Ref.rname T (Ref.up s)=x5 at m5 ⊢
 obtain ⟨⟨tt,ta,tn,tm,tu,te⟩,s5⟩:=x5
 have C5:=hid hc5
 have hb5:Below w5.heap.size w5 (w5.alloc (.cells (tkA ⟨tt,ta,tn,tm,tu,te⟩) 104)):=(Below.refl _ _).alloc (Nat.le_refl _) _
 have H5:Hid (RM B b g T tv iv s5 nv (w5.alloc (.cells (tkA ⟨tt,ta,tn,tm,tu,te⟩) 104))):=m5.below hb5
 have F5:Hid (Fr b g w nv (w5.alloc (.cells (tkA ⟨tt,ta,tn,tm,tu,te⟩) 104)) nv):=(F4.out.trans f5).trans (Fr.of_below hb5)
 have HL:Hid (TokL b g nv w5.heap.size ⟨tt,ta,tn,tm,tu,te⟩ (w5.alloc (.cells (tkA ⟨tt,ta,tn,tm,tu,te⟩) 104))):=tokL_new m5 (Below.refl _ _) _
 have HLI:Hid (iv.ownBlock≠some w5.heap.size):=fun e=>by
  have:=((HM.out.kept (F4.out.trans f5)).own.lt _ e).2
  omega
 clear hb5 m5 f5 hc5
 simp only []
 go_wp2_with fail
 generalize w5.alloc (.cells (tkA ⟨tt,ta,tn,tm,tu,te⟩) 104)=W at H5 F5 HL ⊢
 generalize w5.heap.size=L at HL HLI ⊢
 refine (take_any B b g T tv iv s5 nv Mil.sColon (by decide) _ (H5.out) hs).mono ?_
 rintro r w6 ⟨rfl,m6,f6⟩
 generalize he6:Ref.take T Mil.sColon s5=s6 at m6
 have E6:=hid he6
 have H6:=hid m6
 have F6:=hid f6
 clear m6 f6 he6
 go_wp2_with fail
 refine (rtyped_any B b g T tv iv s6 nv _ (H6.out) hs).mono ?_
 rintro r w7 ⟨rfl,m7,f7⟩
 generalize he7:Ref.rtyped T s6=x7 at m7 ⊢
 obtain ⟨i7,s7⟩:=x7
 have E7:=hid he7
 have H7:=hid m7
 have F7:=hid (F6.out.trans f7)
 clear m7 f7 he7
 go_wp2_with fail
 refine (take_any B b g T tv iv s7 nv Mil.wEvery (by decide) _ (H7.out) hs).mono ?_
 rintro r w8 ⟨rfl,m8,f8⟩
 generalize he8:Ref.take T Mil.wEvery s7=s8 at m8
 have E8:=hid he8
 have H8:=hid m8
 have F8:=hid (F7.out.trans f8)
 clear m8 f8 he8
 go_wp2_with fail
 refine (rnumber_any B b g T tv iv s8 nv 1 1000000 _ (H8.out) hs).mono ?_
 rintro r w9 ⟨rfl,m9,f9⟩
 generalize he9:Ref.rnumber T 1 1000000 s8=x9 at m9 ⊢
 obtain ⟨i9,s9⟩:=x9
 have E9:=hid he9
 have H9:=hid m9
 have F9:=hid (F8.out.trans f9)
 clear m9 f9 he9
 go_wp2_with fail
 refine (take_any B b g T tv iv s9 nv Mil.sSemi (by decide) _ (H9.out) hs).mono ?_
 rintro r w10 ⟨rfl,m10,f10⟩
 generalize he10:Ref.take T Mil.sSemi s9=s10 at m10
 have E10:=hid he10
 have H10:=hid m10
 have F10:=hid (F9.out.trans f10)
 clear m10 f10 he10
 obtain ⟨y0,y1,_,_,_,_⟩:=HL.out.cells (F10.out)
 obtain ⟨o,c,hv⟩:=own_shape HM.out.own
 have HV:=hid hv
 have e2:=H10.out.cells.2.2.1
 have e6:=H10.out.cells.2.2.2.2.2.1
 rw [hv] at e6
 have FF:=hid (F5.out.trans F10.out)
 have M10:=hid (HM.out.kept FF.out)
 have HLEN:=hid hl
 clear hv hl
 have hb11:Below w10.heap.size w10 (w10.alloc (.cells (imA ⟨⟨1,ta,tt,i7,i9,[],0⟩,.slice none 0 0,.slice none 0 0⟩) 122)):=(Below.refl _ _).alloc (Nat.le_refl _) _
 have HB11:=hid hb11
 have H11:=hid (H10.out.below hb11)
 have M11:Hid (IM B b g tv I iv nv (w10.alloc (.cells (imA ⟨⟨1,ta,tt,i7,i9,[],0⟩,.slice none 0 0,.slice none 0 0⟩) 122))):=M10.out.kept (Fr.of_below hb11)
 have OW:Hid ((w10.alloc (.cells (imA ⟨⟨1,ta,tt,i7,i9,[],0⟩,.slice none 0 0,.slice none 0 0⟩) 122)).ownsRow B 122 8 (.slice o I.length c) I.length (ims I)):=by
  show World.ownsRow _ _ _ _ _ _ _
  rw [←HV.out]
  exact M11.out.own
 have NW:Hid (∀(j:Nat) (u:Value),(imCells ⟨⟨1,ta,tt,i7,i9,[],0⟩,.slice none 0 0,.slice none 0 0⟩)[j]?=some u→(w10.alloc (.cells (imA ⟨⟨1,ta,tt,i7,i9,[],0⟩,.slice none 0 0,.slice none 0 0⟩) 122)).cell? ((⟨w10.heap.size,0,none⟩:Addr).add j)=some u):=fun j u h=>news_cells w10 (imCells ⟨⟨1,ta,tt,i7,i9,[],0⟩,.slice none 0 0,.slice none 0 0⟩) 122 j u h
 have BW:Hid (B≤(w10.alloc (.cells (imA ⟨⟨1,ta,tt,i7,i9,[],0⟩,.slice none 0 0,.slice none 0 0⟩) 122)).heap.size):=Nat.le_trans H10.out.hb (Nat.le_trans (Nat.le_of_lt (Array.getElem?_eq_some_iff.1 H10.out.rd).1) HB11.out.size)
 clear hb11
 have f2:(w10.alloc (.cells #[.int .i64 1,.int .i64 (ta:Nat),.string (bs tt),.int .i64 (i7:Nat),.int .i64 (i9:Nat),.slice none 0 0,.slice none 0 0,.int .i64 0] 122)).cell? ⟨b,2,none⟩=some (.pointer (some ⟨g,0,none⟩)):=H11.out.cells.2.2.1
 have f6:(w10.alloc (.cells #[.int .i64 1,.int .i64 (ta:Nat),.string (bs tt),.int .i64 (i7:Nat),.int .i64 (i9:Nat),.slice none 0 0,.slice none 0 0,.int .i64 0] 122)).cell? ⟨g,0,none⟩=some (.slice o I.length c):=HV.out ▸ H11.out.cells.2.2.2.2.2.1
 obtain ⟨i0,hi,hz0,hz1,hz2⟩:=info_parts Tryz.infoItem
 go_wp2_with fail
 have HLT:Hid (TokL b g nv L ⟨tt,ta,tn,tm,tu,te⟩ W):=HL.out
 clear H HM HU HO H1 F1 H2 F2 H3 F3 H4 F4 H5 F5 HL H6 F6 H7 F7 H8 F8 H9 F9 H10 M10
 refine wp_region_L (fun w'=>w'.cell? ⟨b,2,none⟩=some (.pointer (some ⟨g,0,none⟩))∧w'.cell? ⟨g,0,none⟩=some (.slice o I.length c)∧w'.cell? ⟨L,0,none⟩=some (.string (bs tt))∧w'.cell? ⟨L,1,none⟩=some (.int .i64 (ta:Nat))) 22 (by kernel_rfl) (by (try dsimp only);go_keep) (fun hHeld=>?_)
 refine wpAnyL_take (i := 0) (oi := { dst := some 76, op := Op.move (Operand.tmp 0), type := 94, pos := "parse.go:296", after := #[], guard := none }) (v := ?v0) rfl (by kernel_rfl) (by kernel_rfl) (by kernel_rfl) (by kernel_rfl) (fun _ _ _ h => h) (Or.inl ⟨by rfl, ?y0⟩) (by assumption) ?r0
 case y0=>(intro w' hSw;(try dsimp only at hSw);go_simp <;> with_reducible rfl)
 try simp only [Act.put,List.setIfInBounds_toArray,List.set_cons_zero,List.set_cons_succ]
 refine wpAnyL_take (i := 1) (oi := { dst := some 77, op := Op.nilCheck (Operand.tmp 76), type := 0, pos := "parse.go:296", after := #[{ on := 0, ground := Ground.data }], guard := none }) (v := ?v1) rfl (by kernel_rfl) (by kernel_rfl) (by kernel_rfl) (by kernel_rfl) (fun _ _ _ h => h) (Or.inl ⟨by rfl, ?y1⟩) (by assumption) ?r1
 case y1=>(intro w' hSw;(try dsimp only at hSw);go_simp <;> with_reducible rfl)
 try simp only [Act.put,List.setIfInBounds_toArray,List.set_cons_zero,List.set_cons_succ]
 refine wpAnyL_take (i := 2) (oi := { dst := some 78, op := Op.fieldAddr 102 (Operand.tmp 77) 2, type := 0, pos := "parse.go:296", after := #[{ on := 1, ground := Ground.data }], guard := none }) (v := ?v2) rfl (by kernel_rfl) (by kernel_rfl) (by kernel_rfl) (by kernel_rfl) (fun _ _ _ h => h) (Or.inl ⟨by rfl, ?y2⟩) (by assumption) ?r2
 case y2=>(intro w' hSw;(try dsimp only at hSw);go_simp <;> with_reducible rfl)
 try simp only [Act.put,List.setIfInBounds_toArray,List.set_cons_zero,List.set_cons_succ]
 refine wpAnyL_take (i := 3) (oi := { dst := some 79, op := Op.load 43 (Operand.tmp 78), type := 43, pos := "parse.go:296", after := #[{ on := 2, ground := Ground.data }], guard := none }) (v := ?v3) rfl (by kernel_rfl) (by kernel_rfl) (by kernel_rfl) (by kernel_rfl) (fun _ _ _ h => h) (Or.inl ⟨by rfl, ?y3⟩) (by assumption) ?r3
 case y3=>(intro w' hSw;(try dsimp only at hSw);go_simp <;> with_reducible rfl)
 try simp only [Act.put,List.setIfInBounds_toArray,List.set_cons_zero,List.set_cons_succ]
 refine wpAnyL_take (i := 4) (oi := { dst := some 80, op := Op.move (Operand.tmp 0), type := 94, pos := "parse.go:296", after := #[], guard := none }) (v := ?v4) rfl (by kernel_rfl) (by kernel_rfl) (by kernel_rfl) (by kernel_rfl) (fun _ _ _ h => h) (Or.inl ⟨by rfl, ?y4⟩) (by assumption) ?r4
 case y4=>(intro w' hSw;(try dsimp only at hSw);go_simp <;> with_reducible rfl)
 try simp only [Act.put,List.setIfInBounds_toArray,List.set_cons_zero,List.set_cons_succ]
 refine wpAnyL_take (i := 5) (oi := { dst := some 81, op := Op.nilCheck (Operand.tmp 80), type := 0, pos := "parse.go:296", after := #[{ on := 4, ground := Ground.data }], guard := none }) (v := ?v5) rfl (by kernel_rfl) (by kernel_rfl) (by kernel_rfl) (by kernel_rfl) (fun _ _ _ h => h) (Or.inl ⟨by rfl, ?y5⟩) (by assumption) ?r5
 case y5=>(intro w' hSw;(try dsimp only at hSw);go_simp <;> with_reducible rfl)
 try simp only [Act.put,List.setIfInBounds_toArray,List.set_cons_zero,List.set_cons_succ]
 refine wpAnyL_take (i := 6) (oi := { dst := some 82, op := Op.fieldAddr 102 (Operand.tmp 81) 2, type := 0, pos := "parse.go:296", after := #[{ on := 5, ground := Ground.data }], guard := none }) (v := ?v6) rfl (by kernel_rfl) (by kernel_rfl) (by kernel_rfl) (by kernel_rfl) (fun _ _ _ h => h) (Or.inl ⟨by rfl, ?y6⟩) (by assumption) ?r6
 case y6=>(intro w' hSw;(try dsimp only at hSw);go_simp <;> with_reducible rfl)
 try simp only [Act.put,List.setIfInBounds_toArray,List.set_cons_zero,List.set_cons_succ]
 refine wpAnyL_take (i := 7) (oi := { dst := some 83, op := Op.load 43 (Operand.tmp 82), type := 43, pos := "parse.go:296", after := #[{ on := 6, ground := Ground.data }], guard := none }) (v := ?v7) rfl (by kernel_rfl) (by kernel_rfl) (by kernel_rfl) (by kernel_rfl) (fun _ _ _ h => h) (Or.inl ⟨by rfl, ?y7⟩) (by assumption) ?r7
 case y7=>(intro w' hSw;(try dsimp only at hSw);go_simp <;> with_reducible rfl)
 try simp only [Act.put,List.setIfInBounds_toArray,List.set_cons_zero,List.set_cons_succ]
 refine wpAnyL_take (i := 8) (oi := { dst := some 84, op := Op.nilCheck (Operand.tmp 83), type := 0, pos := "parse.go:296", after := #[{ on := 7, ground := Ground.data }], guard := none }) (v := ?v8) rfl (by kernel_rfl) (by kernel_rfl) (by kernel_rfl) (by kernel_rfl) (fun _ _ _ h => h) (Or.inl ⟨by rfl, ?y8⟩) (by assumption) ?r8
 case y8=>(intro w' hSw;(try dsimp only at hSw);go_simp <;> with_reducible rfl)
 try simp only [Act.put,List.setIfInBounds_toArray,List.set_cons_zero,List.set_cons_succ]
 refine wpAnyL_take (i := 9) (oi := { dst := some 85, op := Op.fieldAddr 100 (Operand.tmp 84) 0, type := 0, pos := "parse.go:296", after := #[{ on := 8, ground := Ground.data }], guard := none }) (v := ?v9) rfl (by kernel_rfl) (by kernel_rfl) (by kernel_rfl) (by kernel_rfl) (fun _ _ _ h => h) (Or.inl ⟨by rfl, ?y9⟩) (by assumption) ?r9
 case y9=>(intro w' hSw;(try dsimp only at hSw);go_simp <;> with_reducible rfl)
 try simp only [Act.put,List.setIfInBounds_toArray,List.set_cons_zero,List.set_cons_succ]
 refine wpAnyL_take (i := 10) (oi := { dst := some 86, op := Op.load 97 (Operand.tmp 85), type := 97, pos := "parse.go:296", after := #[{ on := 9, ground := Ground.data }], guard := none }) (v := ?v10) rfl (by kernel_rfl) (by kernel_rfl) (by kernel_rfl) (by kernel_rfl) (fun _ _ _ h => h) (Or.inl ⟨by rfl, ?y10⟩) (by assumption) ?r10
 case y10=>(intro w' hSw;(try dsimp only at hSw);go_simp <;> with_reducible rfl)
 try simp only [Act.put,List.setIfInBounds_toArray,List.set_cons_zero,List.set_cons_succ]
 refine wpAnyL_take (i := 11) (oi := { dst := some 87, op := Op.fieldAddr 104 (Operand.tmp 5) 1, type := 0, pos := "parse.go:296", after := #[], guard := none }) (v := ?v11) rfl (by kernel_rfl) (by kernel_rfl) (by kernel_rfl) (by kernel_rfl) (fun _ _ _ h => h) (Or.inl ⟨by rfl, ?y11⟩) (by assumption) ?r11
 case y11=>(intro w' hSw;(try dsimp only at hSw);go_simp <;> with_reducible rfl)
 try simp only [Act.put,List.setIfInBounds_toArray,List.set_cons_zero,List.set_cons_succ]
 refine wpAnyL_take (i := 12) (oi := { dst := some 88, op := Op.load 3 (Operand.tmp 87), type := 3, pos := "parse.go:296", after := #[{ on := 11, ground := Ground.data }], guard := none }) (v := ?v12) rfl (by kernel_rfl) (by kernel_rfl) (by kernel_rfl) (by kernel_rfl) (fun _ _ _ h => h) (Or.inl ⟨by rfl, ?y12⟩) (by assumption) ?r12
 case y12=>(intro w' hSw;(try dsimp only at hSw);go_simp <;> with_reducible rfl)
 try simp only [Act.put,List.setIfInBounds_toArray,List.set_cons_zero,List.set_cons_succ]
 refine wpAnyL_take (i := 13) (oi := { dst := some 89, op := Op.fieldAddr 104 (Operand.tmp 5) 0, type := 0, pos := "parse.go:296", after := #[], guard := none }) (v := ?v13) rfl (by kernel_rfl) (by kernel_rfl) (by kernel_rfl) (by kernel_rfl) (fun _ _ _ h => h) (Or.inl ⟨by rfl, ?y13⟩) (by assumption) ?r13
 case y13=>(intro w' hSw;(try dsimp only at hSw);go_simp <;> with_reducible rfl)
 try simp only [Act.put,List.setIfInBounds_toArray,List.set_cons_zero,List.set_cons_succ]
 refine wpAnyL_take (i := 14) (oi := { dst := some 90, op := Op.load 9 (Operand.tmp 89), type := 9, pos := "parse.go:296", after := #[{ on := 13, ground := Ground.data }], guard := none }) (v := ?v14) rfl (by kernel_rfl) (by kernel_rfl) (by kernel_rfl) (by kernel_rfl) (fun _ _ _ h => h) (Or.inl ⟨by rfl, ?y14⟩) (by assumption) ?r14
 case y14=>(intro w' hSw;(try dsimp only at hSw);go_simp <;> with_reducible rfl)
 try simp only [Act.put,List.setIfInBounds_toArray,List.set_cons_zero,List.set_cons_succ]
 refine wpAnyL_take (i := 15) (oi := { dst := some 91, op := Op.move (Operand.tmp 6), type := 3, pos := "parse.go:296", after := #[], guard := none }) (v := ?v15) rfl (by kernel_rfl) (by kernel_rfl) (by kernel_rfl) (by kernel_rfl) (fun _ _ _ h => h) (Or.inl ⟨by rfl, ?y15⟩) (by assumption) ?r15
 case y15=>(intro w' hSw;(try dsimp only at hSw);go_simp <;> with_reducible rfl)
 try simp only [Act.put,List.setIfInBounds_toArray,List.set_cons_zero,List.set_cons_succ]
 refine wpAnyL_take (i := 16) (oi := { dst := some 92, op := Op.move (Operand.tmp 7), type := 3, pos := "parse.go:296", after := #[], guard := none }) (v := ?v16) rfl (by kernel_rfl) (by kernel_rfl) (by kernel_rfl) (by kernel_rfl) (fun _ _ _ h => h) (Or.inl ⟨by rfl, ?y16⟩) (by assumption) ?r16
 case y16=>(intro w' hSw;(try dsimp only at hSw);go_simp <;> with_reducible rfl)
 try simp only [Act.put,List.setIfInBounds_toArray,List.set_cons_zero,List.set_cons_succ]
 refine wpAnyL_take (i := 17) (oi := { dst := some 93, op := Op.build 122 #[(0, Operand.const (Value.int IntKind.i64 1)), (1, Operand.tmp 88), (2, Operand.tmp 90), (3, Operand.tmp 91), (4, Operand.tmp 92)], type := 122, pos := "parse.go:296", after := #[{ on := 12, ground := Ground.data }, { on := 14, ground := Ground.data }, { on := 15, ground := Ground.data }, { on := 16, ground := Ground.data }], guard := none }) (v := ?v17) rfl (by kernel_rfl) (by kernel_rfl) (by kernel_rfl) (by kernel_rfl) (fun _ _ _ h => h) (Or.inl ⟨by rfl, ?y17⟩) (by assumption) ?r17
 case y17=>(intro w' hSw;(try dsimp only at hSw);go_simp <;> with_reducible rfl)
 try simp only [Act.put,List.setIfInBounds_toArray,List.set_cons_zero,List.set_cons_succ]
 refine wpAnyL_one (i := 18) (o := { dst := some 94, op := Op.buildSlice 97 1 #[(0, Operand.tmp 93)], type := 97, pos := "parse.go:296", after := #[{ on := 17, ground := Ground.data }], guard := none }) (by kernel_rfl) rfl (fun K hK => ?_)
 go_simp
 refine hK.out _ _ (Or.inr ?s18) (fun h18=>?r18)
 case s18=>((try dsimp only);go_keep)
 replace h18:=h18.resolve_left (by decide)
 clear hK K
 try simp only [Act.put,List.setIfInBounds_toArray,List.set_cons_zero,List.set_cons_succ]
 refine wpAnyL_one (i := 19) (o := { dst := some 95, op := Op.call { callee := Callee.builtin Builtin.append, args := #[Operand.tmp 86, Operand.tmp 94], argTypes := #[97, 97] }, type := 97, pos := "parse.go:296", after := #[{ on := 10, ground := Ground.data }, { on := 18, ground := Ground.data }], guard := none }) (by kernel_rfl) rfl (fun K hK => ?_)
 refine step_append_lies _ rfl (.tmp 86) (.tmp 94) 97 rfl B 122 i0 (.agg #[.int .i64 0,.int .i64 0,.string ⟨#[]⟩,.int .i64 0,.int .i64 0,.slice none 0 0,.slice none 0 0,.int .i64 0]) 8 104 Tryz.underlying97 hi hz0 hz1 hz2 rfl (by decide) (.slice o I.length c) I.length (ims I) rfl OW.out ⟨w10.heap.size,0,none⟩ 1 1 (imCells ⟨⟨1,ta,tt,i7,i9,[],0⟩,.slice none 0 0,.slice none 0 0⟩) rfl rfl NW.out (im_one _ rfl rfl) (by decide) (by unfold maxLen;have:=HLEN.out;omega) (by have:=HLEN.out;omega) BW.out _ rfl ?_;intro k7 c7 w7 O7 hg7 hat7 hlt7;obtain ⟨x2,x6,xz⟩:=after_items (H11.out.below (Below.refl _ _).drew) (M11.out.kept (Fr.of_below (Below.refl _ _).drew)) HV.out hg7;have HE:Hid (_∧_):=items_end (H11.out.below (Below.refl _ _).drew) (M11.out.kept (Fr.of_below (Below.refl _ _).drew)) (FF.out.trans (Fr.of_below HB11.out.drew)) HV.out (y:=⟨⟨1,ta,tt,i7,i9,[],0⟩,.slice none 0 0,.slice none 0 0⟩) ⟨⟨rfl,.inl ⟨rfl,rfl⟩⟩,⟨rfl,.inl ⟨rfl,rfl⟩⟩⟩ (fun k hk=>by rcases hk with hk | hk <;> cases hk) O7 hg7 hat7
 have xl:=tok_grown HLT.out F10.out HB11.out.drew hg7 (fun e=>HLI.out (HV.out ▸ e))
 refine hK.out _ _ (Or.inr ?s19) (fun h19=>?r19)
 case s19=>exact ⟨x2,x6,xl⟩
 replace h19:=h19.resolve_left (by decide)
 clear hK K
 try simp only [Act.put,List.setIfInBounds_toArray,List.set_cons_zero,List.set_cons_succ]
 refine wpAnyL_one (i := 20) (o := { dst := some 96, op := Op.nilCheck (Operand.tmp 79), type := 0, pos := "parse.go:296", after := #[{ on := 3, ground := Ground.data }, { on := 0, ground := Ground.phase }, { on := 1, ground := Ground.phase }, { on := 2, ground := Ground.phase }, { on := 3, ground := Ground.phase }, { on := 4, ground := Ground.phase }, { on := 5, ground := Ground.phase }, { on := 6, ground := Ground.phase }, { on := 7, ground := Ground.phase }, { on := 8, ground := Ground.phase }, { on := 9, ground := Ground.phase }, { on := 10, ground := Ground.phase }, { on := 11, ground := Ground.phase }, { on := 12, ground := Ground.phase }, { on := 13, ground := Ground.phase }, { on := 14, ground := Ground.phase }, { on := 15, ground := Ground.phase }, { on := 16, ground := Ground.phase }, { on := 17, ground := Ground.phase }, { on := 18, ground := Ground.phase }, { on := 19, ground := Ground.phase }], guard := none }) (by kernel_rfl) rfl (fun K hK => ?_)
 go_simp
 refine hK.out _ _ (Or.inr (by assumption)) (fun h20=>?r20)
 clear h20 hK K
 try simp only [Act.put,List.setIfInBounds_toArray,List.set_cons_zero,List.set_cons_succ]
 refine wpAnyL_one (i := 21) (o := { dst := some 97, op := Op.fieldAddr 100 (Operand.tmp 96) 0, type := 0, pos := "parse.go:296", after := #[{ on := 20, ground := Ground.data }, { on := 0, ground := Ground.phase }, { on := 1, ground := Ground.phase }, { on := 2, ground := Ground.phase }, { on := 3, ground := Ground.phase }, { on := 4, ground := Ground.phase }, { on := 5, ground := Ground.phase }, { on := 6, ground := Ground.phase }, { on := 7, ground := Ground.phase }, { on := 8, ground := Ground.phase }, { on := 9, ground := Ground.phase }, { on := 10, ground := Ground.phase }, { on := 11, ground := Ground.phase }, { on := 12, ground := Ground.phase }, { on := 13, ground := Ground.phase }, { on := 14, ground := Ground.phase }, { on := 15, ground := Ground.phase }, { on := 16, ground := Ground.phase }, { on := 17, ground := Ground.phase }, { on := 18, ground := Ground.phase }, { on := 19, ground := Ground.phase }], guard := none }) (by kernel_rfl) rfl (fun K hK => ?_)
 go_simp
 refine hK.out _ _ (Or.inr (by assumption)) (fun h21=>?r21)
 clear h21 hK K
 try simp only [Act.put,List.setIfInBounds_toArray,List.set_cons_zero,List.set_cons_succ]
 refine wpAnyL_one (i := 22) (o := { dst := none, op := Op.store 97 (Operand.tmp 97) (Operand.tmp 95), type := 0, pos := "parse.go:296", after := #[{ on := 21, ground := Ground.data }, { on := 19, ground := Ground.data }, { on := 19, ground := Ground.chain }, { on := 0, ground := Ground.phase }, { on := 1, ground := Ground.phase }, { on := 2, ground := Ground.phase }, { on := 3, ground := Ground.phase }, { on := 4, ground := Ground.phase }, { on := 5, ground := Ground.phase }, { on := 6, ground := Ground.phase }, { on := 7, ground := Ground.phase }, { on := 8, ground := Ground.phase }, { on := 9, ground := Ground.phase }, { on := 10, ground := Ground.phase }, { on := 11, ground := Ground.phase }, { on := 12, ground := Ground.phase }, { on := 13, ground := Ground.phase }, { on := 14, ground := Ground.phase }, { on := 15, ground := Ground.phase }, { on := 16, ground := Ground.phase }, { on := 17, ground := Ground.phase }, { on := 18, ground := Ground.phase }, { on := 19, ground := Ground.phase }], guard := none }) (by kernel_rfl) rfl (fun K hK => ?_)
 go_simp
 refine hK.out _ _ (Or.inl rfl) (fun _=>?r22)
 clear hK K
 try simp only [Act.put,List.setIfInBounds_toArray,List.set_cons_zero,List.set_cons_succ]
 refine wpAnyL_done (by kernel_rfl) ?_ _
 all_goals go_wp2
 all_goals
  refine bodyPost_ret (v:=.tuple #[]) (by simp [results,Tryz.results50,go_sem]) rfl ?_
  refine ⟨rfl,⟨⟨1,ta,tt,i7,i9,[],0⟩,.slice none 0 0,.slice none 0 0⟩,s10,_,_,?_,HE.out.1,HE.out.2.1,HE.out.2.2⟩
  have hR:=Ref.ri_in HI.out
  unfold Ref.rhead at hR
  rw [C5.out] at hR
  simp only [] at hR
  rw [E6.out,E7.out] at hR
  simp only [] at hR
  rw [E8.out,E9.out] at hR
  simp only [] at hR
  rw [E10.out] at hR
  exact hR
end
end Go.Proofs.YtoiajojadihpbaaGreatDoor
