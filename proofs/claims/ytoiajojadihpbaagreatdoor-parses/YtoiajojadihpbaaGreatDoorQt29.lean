import Derived.Test.YtoiajojadihpbaaGreatDoorQt28
namespace Go.Proofs.YtoiajojadihpbaaGreatDoor
set_option maxHeartbeats 8000000
set_option maxRecDepth 100000
section
open Go.RowKit
theorem item_eq (B b g:Nat) (T:List Ref.Tk) (tv:Value) (hs:T.length<=4001) (I:List Iw) (iv nv:Value) (s:Ref.Rs) (w:World) (h:RM B b g T tv iv s nv w) (hm:IM B b g tv I iv nv w) (hl:I.length<=4000) (hi:Ref.is T Mil.wInput s=false) (ho:Ref.is T Mil.wOutput s=false) (hn:s.ns.length<=2*s.p) :
  Calls Tryz.prog 50 #[.pointer (some ⟨b,0,none⟩)] w (ItemPost B b g T tv I iv nv w s):=by
 have H:=hid h
 have HM:=hid hm
 have HI:=hid hi
 have HO:=hid ho
 have HN:=hid hn
 clear h hm hi ho hn
 go_enter Tryz.func50,Tryz.ntmps50
 go_wp2_with fail
 refine (now_any B b g T tv iv s nv _ H.out).mono ?_
 rintro r w1 ⟨rfl,hb1⟩
 rw[tokV_eq]
 have hf:=field_at (Ref.now T s).t (Ref.now T s).at_ (Ref.now T s).number (Ref.now T s).name (Ref.now T s).v (Ref.now T s).e
 have H1:=hid (H.out.below hb1)
 have F1:Hid (Fr b g w nv w1 nv):=Fr.of_below hb1
 clear hb1
 go_wp2_with fail
 clear hf
 refine (is_any B b g T tv iv s nv Mil.wInput _ H1.out).mono ?_
 rintro r w2 ⟨rfl,hb2⟩
 rw[HI.out]
 have H2:=hid (H1.out.below hb2)
 have F2:Hid (Fr b g w nv w2 nv):=F1.out.trans (Fr.of_below hb2)
 clear hb2
 go_wp2_with fail
 refine (is_any B b g T tv iv s nv Mil.wOutput _ H2.out).mono ?_
 rintro r w3 ⟨rfl,hb3⟩
 rw[HO.out]
 have H3:=hid (H2.out.below hb3)
 have F3:Hid (Fr b g w nv w3 nv):=F2.out.trans (Fr.of_below hb3)
 clear hb3
 go_wp2_with fail
 refine (rname_any B b g T tv iv s nv _ H3.out hs).mono ?_
 rintro r w5 ⟨rfl,m5,f5⟩
 rw[tokV_eq]
 generalize hc5:Ref.rname T s=x5 at m5 ⊢
 obtain⟨⟨tt,ta,tn,tm,tu,te⟩,s5⟩:=x5
 have C5:=hid hc5
 have hb5:Below w5.heap.size w5 (w5.alloc (.cells (tkA ⟨tt,ta,tn,tm,tu,te⟩) 104)):=brf.alloc nlr _
 have H5:Hid (RM B b g T tv iv s5 nv (w5.alloc (.cells (tkA ⟨tt,ta,tn,tm,tu,te⟩) 104))):=m5.below hb5
 have F5:Hid (Fr b g w nv (w5.alloc (.cells (tkA ⟨tt,ta,tn,tm,tu,te⟩) 104)) nv):=(F3.out.trans f5).trans (Fr.of_below hb5)
 have HL:Hid (TokL b g nv w5.heap.size ⟨tt,ta,tn,tm,tu,te⟩ (w5.alloc (.cells (tkA ⟨tt,ta,tn,tm,tu,te⟩) 104))):=tokL_new m5 brf _
 have HLI:Hid (iv.ownBlock≠some w5.heap.size):=fun e=>by
  have:=((HM.out.kept (F3.out.trans f5)).own.lt _ e).2
  omega
 clear hb5 m5 f5 hc5
 simp only[]
 go_wp2_with fail
 generalize w5.alloc (.cells (tkA ⟨tt,ta,tn,tm,tu,te⟩) 104)=W at H5 F5 HL ⊢
 generalize w5.heap.size=L at HL HLI ⊢
 refine (take_any B b g T tv iv s5 nv Mil.sColon (by decide) _ (H5.out) hs).mono ?_
 rintro r w6 ⟨rfl,m6,f6⟩
 generalize he6:Ref.take T Mil.sColon s5=s6 at m6
 have E6:=hid he6
 have H6:=hid m6
 have F6:=hid f6
 clear m6 f6 he6
 go_wp2_with fail
 refine (rtyped_any B b g T tv iv s6 nv _ (H6.out) hs).mono ?_
 rintro r w7 ⟨rfl,m7,f7⟩
 generalize he7:Ref.rtyped T s6=x7 at m7 ⊢
 obtain⟨i7,s7⟩:=x7
 have E7:=hid he7
 have H7:=hid m7
 have F7:=hid (F6.out.trans f7)
 clear m7 f7 he7
 go_wp2_with fail
 refine (take_any B b g T tv iv s7 nv Mil.sIs (by decide) _ (H7.out) hs).mono ?_
 rintro r w8 ⟨rfl,m8,f8⟩
 generalize he8:Ref.take T Mil.sIs s7=s8 at m8
 have E8:=hid he8
 have H8:=hid m8
 have F8:=hid (F7.out.trans f8)
 clear m8 f8 he8
 have N8:Hid (s8.ns.length<=2*s8.p):=by
  have e:s8=Ref.take T Mil.sIs (Ref.rhead T s).2:=by
   unfold Ref.rhead
   rw[C5.out]
   show s8=Ref.take T Mil.sIs (Ref.rtyped T (Ref.take T Mil.sColon s5)).2
   rw[E6.out,E7.out,E8.out]
  have p:=(Ref.pays_head T s).trans (Ref.pays_take T Mil.sIs (Ref.rhead T s).2)
  rw[<-e] at p
  have:=p.2
  have:=HN.out
  show s8.ns.length<=2*s8.p
  omega
 go_wp2_with fail
 refine (expr_all B b g T tv iv hs s8 nv _ H8.out N8.out).mono ?_
 rintro r w9 ⟨⟨i9,s9⟩,E9,rfl,nv9,m9,f9⟩
 have X9:=hid E9
 have H9:=hid m9
 have F9:=hid (F8.out.trans f9)
 clear m9 f9 E9
 go_wp2_with fail
 refine (take_any B b g T tv iv s9 nv9 Mil.sSemi (by decide) _ (H9.out) hs).mono ?_
 rintro r w10 ⟨rfl,m10,f10⟩
 generalize he10:Ref.take T Mil.sSemi s9=s10 at m10
 have E10:=hid he10
 have H10:=hid m10
 have F10:=hid (F9.out.trans f10)
 clear m10 f10 he10
 obtain⟨y0,y1,_,_,_,_⟩:=HL.out.cells (F10.out)
 obtain⟨o,c,hv⟩:=own_shape HM.out.own
 have HV:=hid hv
 have e2:=H10.out.cells.2.2.1
 have e6:=H10.out.cells.2.2.2.2.2.1
 rw[hv] at e6
 have FF:=hid (F5.out.trans F10.out)
 have M10:=hid (HM.out.kept FF.out)
 have HLEN:=hid hl
 clear hv hl
 have hb11:Below w10.heap.size w10 (w10.alloc (.cells (imA ⟨⟨3,ta,tt,i7,0,[],i9⟩,.slice none 0 0,.slice none 0 0⟩) 122)):=brf.alloc nlr _
 have HB11:=hid hb11
 have H11:=hid (H10.out.below hb11)
 have M11:Hid (IM B b g tv I iv nv9 (w10.alloc (.cells (imA ⟨⟨3,ta,tt,i7,0,[],i9⟩,.slice none 0 0,.slice none 0 0⟩) 122))):=M10.out.kept (Fr.of_below hb11)
 have OW:Hid ((w10.alloc (.cells (imA ⟨⟨3,ta,tt,i7,0,[],i9⟩,.slice none 0 0,.slice none 0 0⟩) 122)).ownsRow B 122 8 (.slice o I.length c) I.length (ims I)):=by
  show World.ownsRow _ _ _ _ _ _ _
  rw[<-HV.out]
  exact M11.out.own
 have NW:Hid (∀(j:Nat) (u:Value),(imCells ⟨⟨3,ta,tt,i7,0,[],i9⟩,.slice none 0 0,.slice none 0 0⟩)[j]?=some u->(w10.alloc (.cells (imA ⟨⟨3,ta,tt,i7,0,[],i9⟩,.slice none 0 0,.slice none 0 0⟩) 122)).cell? ((⟨w10.heap.size,0,none⟩:Addr).add j)=some u):=fun j u h=>news_cells w10 (imCells ⟨⟨3,ta,tt,i7,0,[],i9⟩,.slice none 0 0,.slice none 0 0⟩) 122 j u h
 have BW:Hid (B<=(w10.alloc (.cells (imA ⟨⟨3,ta,tt,i7,0,[],i9⟩,.slice none 0 0,.slice none 0 0⟩) 122)).heap.size):=Nat.le_trans H10.out.hb (Nat.le_trans (Nat.le_of_lt (ags H10.out.rd).1) HB11.out.size)
 clear hb11
 have f2:(w10.alloc (.cells #[.int .i64 3,.int .i64 (ta:Nat),.string (bs tt),.int .i64 (i7:Nat),.int .i64 0,.slice none 0 0,.slice none 0 0,.int .i64 (i9:Nat)] 122)).cell? ⟨b,2,none⟩=some (.pointer (some ⟨g,0,none⟩)):=H11.out.cells.2.2.1
 have f6:(w10.alloc (.cells #[.int .i64 3,.int .i64 (ta:Nat),.string (bs tt),.int .i64 (i7:Nat),.int .i64 0,.slice none 0 0,.slice none 0 0,.int .i64 (i9:Nat)] 122)).cell? ⟨g,0,none⟩=some (.slice o I.length c):=HV.out ▸ H11.out.cells.2.2.2.2.2.1
 obtain⟨i0,hi,hz0,hz1,hz2⟩:=info_parts Tryz.infoItem
 go_wp2_with fail
 have HLT:Hid (TokL b g nv L ⟨tt,ta,tn,tm,tu,te⟩ W):=HL.out
 clear H HM H1 F1 H2 F2 H3 F3 H5 F5 HL H6 F6 H7 F7 H8 F8 H9 F9 H10 M10
 refine wp_region_L (fun w'=>w'.cell? ⟨b,2,none⟩=some (.pointer (some ⟨g,0,none⟩))/\w'.cell? ⟨g,0,none⟩=some (.slice o I.length c)/\w'.cell? ⟨L,0,none⟩=some (.string (bs tt))/\w'.cell? ⟨L,1,none⟩=some (.int .i64 (ta:Nat))) 22 (by kernel_rfl) (by (try dsimp only);go_keep) (fun hHeld=>?_)
 refine wpAnyL_take (i := 0) (oi := { dst := some 33, op := Op.move (Operand.tmp 0), type := 94, pos := "parse.go:319", after := #[], guard := none }) (v := ?v0) rfl (by kernel_rfl) (by kernel_rfl) (by kernel_rfl) (by kernel_rfl) (fun _ _ _ h => h) (Or.inl ⟨by rfl, ?y0⟩) (by assumption) ?r0
 case y0=>(intro w' hSw;(try dsimp only at hSw);go_simp <;> with_reducible rfl)
 try simp only[Act.put,List.setIfInBounds_toArray,List.set_cons_zero,List.set_cons_succ]
 refine wpAnyL_take (i := 1) (oi := { dst := some 34, op := Op.nilCheck (Operand.tmp 33), type := 0, pos := "parse.go:319", after := #[{ on := 0, ground := Ground.data }], guard := none }) (v := ?v1) rfl (by kernel_rfl) (by kernel_rfl) (by kernel_rfl) (by kernel_rfl) (fun _ _ _ h => h) (Or.inl ⟨by rfl, ?y1⟩) (by assumption) ?r1
 case y1=>(intro w' hSw;(try dsimp only at hSw);go_simp <;> with_reducible rfl)
 try simp only[Act.put,List.setIfInBounds_toArray,List.set_cons_zero,List.set_cons_succ]
 refine wpAnyL_take (i := 2) (oi := { dst := some 35, op := Op.fieldAddr 102 (Operand.tmp 34) 2, type := 0, pos := "parse.go:319", after := #[{ on := 1, ground := Ground.data }], guard := none }) (v := ?v2) rfl (by kernel_rfl) (by kernel_rfl) (by kernel_rfl) (by kernel_rfl) (fun _ _ _ h => h) (Or.inl ⟨by rfl, ?y2⟩) (by assumption) ?r2
 case y2=>(intro w' hSw;(try dsimp only at hSw);go_simp <;> with_reducible rfl)
 try simp only[Act.put,List.setIfInBounds_toArray,List.set_cons_zero,List.set_cons_succ]
 refine wpAnyL_take (i := 3) (oi := { dst := some 36, op := Op.load 43 (Operand.tmp 35), type := 43, pos := "parse.go:319", after := #[{ on := 2, ground := Ground.data }], guard := none }) (v := ?v3) rfl (by kernel_rfl) (by kernel_rfl) (by kernel_rfl) (by kernel_rfl) (fun _ _ _ h => h) (Or.inl ⟨by rfl, ?y3⟩) (by assumption) ?r3
 case y3=>(intro w' hSw;(try dsimp only at hSw);go_simp <;> with_reducible rfl)
 try simp only[Act.put,List.setIfInBounds_toArray,List.set_cons_zero,List.set_cons_succ]
 refine wpAnyL_take (i := 4) (oi := { dst := some 37, op := Op.move (Operand.tmp 0), type := 94, pos := "parse.go:319", after := #[], guard := none }) (v := ?v4) rfl (by kernel_rfl) (by kernel_rfl) (by kernel_rfl) (by kernel_rfl) (fun _ _ _ h => h) (Or.inl ⟨by rfl, ?y4⟩) (by assumption) ?r4
 case y4=>(intro w' hSw;(try dsimp only at hSw);go_simp <;> with_reducible rfl)
 try simp only[Act.put,List.setIfInBounds_toArray,List.set_cons_zero,List.set_cons_succ]
 refine wpAnyL_take (i := 5) (oi := { dst := some 38, op := Op.nilCheck (Operand.tmp 37), type := 0, pos := "parse.go:319", after := #[{ on := 4, ground := Ground.data }], guard := none }) (v := ?v5) rfl (by kernel_rfl) (by kernel_rfl) (by kernel_rfl) (by kernel_rfl) (fun _ _ _ h => h) (Or.inl ⟨by rfl, ?y5⟩) (by assumption) ?r5
 case y5=>(intro w' hSw;(try dsimp only at hSw);go_simp <;> with_reducible rfl)
 try simp only[Act.put,List.setIfInBounds_toArray,List.set_cons_zero,List.set_cons_succ]
 refine wpAnyL_take (i := 6) (oi := { dst := some 39, op := Op.fieldAddr 102 (Operand.tmp 38) 2, type := 0, pos := "parse.go:319", after := #[{ on := 5, ground := Ground.data }], guard := none }) (v := ?v6) rfl (by kernel_rfl) (by kernel_rfl) (by kernel_rfl) (by kernel_rfl) (fun _ _ _ h => h) (Or.inl ⟨by rfl, ?y6⟩) (by assumption) ?r6
 case y6=>(intro w' hSw;(try dsimp only at hSw);go_simp <;> with_reducible rfl)
 try simp only[Act.put,List.setIfInBounds_toArray,List.set_cons_zero,List.set_cons_succ]
 refine wpAnyL_take (i := 7) (oi := { dst := some 40, op := Op.load 43 (Operand.tmp 39), type := 43, pos := "parse.go:319", after := #[{ on := 6, ground := Ground.data }], guard := none }) (v := ?v7) rfl (by kernel_rfl) (by kernel_rfl) (by kernel_rfl) (by kernel_rfl) (fun _ _ _ h => h) (Or.inl ⟨by rfl, ?y7⟩) (by assumption) ?r7
 case y7=>(intro w' hSw;(try dsimp only at hSw);go_simp <;> with_reducible rfl)
 try simp only[Act.put,List.setIfInBounds_toArray,List.set_cons_zero,List.set_cons_succ]
 refine wpAnyL_take (i := 8) (oi := { dst := some 41, op := Op.nilCheck (Operand.tmp 40), type := 0, pos := "parse.go:319", after := #[{ on := 7, ground := Ground.data }], guard := none }) (v := ?v8) rfl (by kernel_rfl) (by kernel_rfl) (by kernel_rfl) (by kernel_rfl) (fun _ _ _ h => h) (Or.inl ⟨by rfl, ?y8⟩) (by assumption) ?r8
 case y8=>(intro w' hSw;(try dsimp only at hSw);go_simp <;> with_reducible rfl)
 try simp only[Act.put,List.setIfInBounds_toArray,List.set_cons_zero,List.set_cons_succ]
 refine wpAnyL_take (i := 9) (oi := { dst := some 42, op := Op.fieldAddr 100 (Operand.tmp 41) 0, type := 0, pos := "parse.go:319", after := #[{ on := 8, ground := Ground.data }], guard := none }) (v := ?v9) rfl (by kernel_rfl) (by kernel_rfl) (by kernel_rfl) (by kernel_rfl) (fun _ _ _ h => h) (Or.inl ⟨by rfl, ?y9⟩) (by assumption) ?r9
 case y9=>(intro w' hSw;(try dsimp only at hSw);go_simp <;> with_reducible rfl)
 try simp only[Act.put,List.setIfInBounds_toArray,List.set_cons_zero,List.set_cons_succ]
 refine wpAnyL_take (i := 10) (oi := { dst := some 43, op := Op.load 97 (Operand.tmp 42), type := 97, pos := "parse.go:319", after := #[{ on := 9, ground := Ground.data }], guard := none }) (v := ?v10) rfl (by kernel_rfl) (by kernel_rfl) (by kernel_rfl) (by kernel_rfl) (fun _ _ _ h => h) (Or.inl ⟨by rfl, ?y10⟩) (by assumption) ?r10
 case y10=>(intro w' hSw;(try dsimp only at hSw);go_simp <;> with_reducible rfl)
 try simp only[Act.put,List.setIfInBounds_toArray,List.set_cons_zero,List.set_cons_succ]
 refine wpAnyL_take (i := 11) (oi := { dst := some 44, op := Op.fieldAddr 104 (Operand.tmp 11) 1, type := 0, pos := "parse.go:319", after := #[], guard := none }) (v := ?v11) rfl (by kernel_rfl) (by kernel_rfl) (by kernel_rfl) (by kernel_rfl) (fun _ _ _ h => h) (Or.inl ⟨by rfl, ?y11⟩) (by assumption) ?r11
 case y11=>(intro w' hSw;(try dsimp only at hSw);go_simp <;> with_reducible rfl)
 try simp only[Act.put,List.setIfInBounds_toArray,List.set_cons_zero,List.set_cons_succ]
 refine wpAnyL_take (i := 12) (oi := { dst := some 45, op := Op.load 3 (Operand.tmp 44), type := 3, pos := "parse.go:319", after := #[{ on := 11, ground := Ground.data }], guard := none }) (v := ?v12) rfl (by kernel_rfl) (by kernel_rfl) (by kernel_rfl) (by kernel_rfl) (fun _ _ _ h => h) (Or.inl ⟨by rfl, ?y12⟩) (by assumption) ?r12
 case y12=>(intro w' hSw;(try dsimp only at hSw);go_simp <;> with_reducible rfl)
 try simp only[Act.put,List.setIfInBounds_toArray,List.set_cons_zero,List.set_cons_succ]
 refine wpAnyL_take (i := 13) (oi := { dst := some 46, op := Op.fieldAddr 104 (Operand.tmp 11) 0, type := 0, pos := "parse.go:319", after := #[], guard := none }) (v := ?v13) rfl (by kernel_rfl) (by kernel_rfl) (by kernel_rfl) (by kernel_rfl) (fun _ _ _ h => h) (Or.inl ⟨by rfl, ?y13⟩) (by assumption) ?r13
 case y13=>(intro w' hSw;(try dsimp only at hSw);go_simp <;> with_reducible rfl)
 try simp only[Act.put,List.setIfInBounds_toArray,List.set_cons_zero,List.set_cons_succ]
 refine wpAnyL_take (i := 14) (oi := { dst := some 47, op := Op.load 9 (Operand.tmp 46), type := 9, pos := "parse.go:319", after := #[{ on := 13, ground := Ground.data }], guard := none }) (v := ?v14) rfl (by kernel_rfl) (by kernel_rfl) (by kernel_rfl) (by kernel_rfl) (fun _ _ _ h => h) (Or.inl ⟨by rfl, ?y14⟩) (by assumption) ?r14
 case y14=>(intro w' hSw;(try dsimp only at hSw);go_simp <;> with_reducible rfl)
 try simp only[Act.put,List.setIfInBounds_toArray,List.set_cons_zero,List.set_cons_succ]
 refine wpAnyL_take (i := 15) (oi := { dst := some 48, op := Op.move (Operand.tmp 12), type := 3, pos := "parse.go:319", after := #[], guard := none }) (v := ?v15) rfl (by kernel_rfl) (by kernel_rfl) (by kernel_rfl) (by kernel_rfl) (fun _ _ _ h => h) (Or.inl ⟨by rfl, ?y15⟩) (by assumption) ?r15
 case y15=>(intro w' hSw;(try dsimp only at hSw);go_simp <;> with_reducible rfl)
 try simp only[Act.put,List.setIfInBounds_toArray,List.set_cons_zero,List.set_cons_succ]
 refine wpAnyL_take (i := 16) (oi := { dst := some 49, op := Op.move (Operand.tmp 13), type := 3, pos := "parse.go:319", after := #[], guard := none }) (v := ?v16) rfl (by kernel_rfl) (by kernel_rfl) (by kernel_rfl) (by kernel_rfl) (fun _ _ _ h => h) (Or.inl ⟨by rfl, ?y16⟩) (by assumption) ?r16
 case y16=>(intro w' hSw;(try dsimp only at hSw);go_simp <;> with_reducible rfl)
 try simp only[Act.put,List.setIfInBounds_toArray,List.set_cons_zero,List.set_cons_succ]
 refine wpAnyL_take (i := 17) (oi := { dst := some 50, op := Op.build 122 #[(0, Operand.const (Value.int IntKind.i64 3)), (1, Operand.tmp 45), (2, Operand.tmp 47), (3, Operand.tmp 48), (7, Operand.tmp 49)], type := 122, pos := "parse.go:319", after := #[{ on := 12, ground := Ground.data }, { on := 14, ground := Ground.data }, { on := 15, ground := Ground.data }, { on := 16, ground := Ground.data }], guard := none }) (v := ?v17) rfl (by kernel_rfl) (by kernel_rfl) (by kernel_rfl) (by kernel_rfl) (fun _ _ _ h => h) (Or.inl ⟨by rfl, ?y17⟩) (by assumption) ?r17
 case y17=>(intro w' hSw;(try dsimp only at hSw);go_simp <;> with_reducible rfl)
 try simp only[Act.put,List.setIfInBounds_toArray,List.set_cons_zero,List.set_cons_succ]
 refine wpAnyL_one (i := 18) (o := { dst := some 51, op := Op.buildSlice 97 1 #[(0, Operand.tmp 50)], type := 97, pos := "parse.go:319", after := #[{ on := 17, ground := Ground.data }], guard := none }) (by kernel_rfl) rfl (fun K hK => ?_)
 go_simp
 refine hK.out _ _ (Or.inr ?s18) (fun h18=>?r18)
 case s18=>((try dsimp only);go_keep)
 replace h18:=h18.resolve_left (by decide)
 clear hK K
 try simp only[Act.put,List.setIfInBounds_toArray,List.set_cons_zero,List.set_cons_succ]
 refine wpAnyL_one (i := 19) (o := { dst := some 52, op := Op.call { callee := Callee.builtin Builtin.append, args := #[Operand.tmp 43, Operand.tmp 51], argTypes := #[97, 97] }, type := 97, pos := "parse.go:319", after := #[{ on := 10, ground := Ground.data }, { on := 18, ground := Ground.data }], guard := none }) (by kernel_rfl) rfl (fun K hK => ?_)
 refine step_append_lies _ rfl (.tmp 43) (.tmp 51) 97 rfl B 122 i0 (.agg #[.int .i64 0,.int .i64 0,.string ⟨#[]⟩,.int .i64 0,.int .i64 0,.slice none 0 0,.slice none 0 0,.int .i64 0]) 8 104 Tryz.underlying97 hi hz0 hz1 hz2 rfl (by decide) (.slice o I.length c) I.length (ims I) rfl OW.out ⟨w10.heap.size,0,none⟩ 1 1 (imCells ⟨⟨3,ta,tt,i7,0,[],i9⟩,.slice none 0 0,.slice none 0 0⟩) rfl rfl NW.out (im_one _ rfl rfl) (by decide) (by unfold maxLen;have:=HLEN.out;omega) (by have:=HLEN.out;omega) BW.out _ rfl ?_;intro k7 c7 w7 O7 hg7 hat7 hlt7;obtain⟨x2,x6,xz⟩:=after_items (H11.out.below brf.drew) (M11.out.kept (Fr.of_below brf.drew)) HV.out hg7;have HE:Hid (_/\_):=items_end (H11.out.below brf.drew) (M11.out.kept (Fr.of_below brf.drew)) (FF.out.trans (Fr.of_below HB11.out.drew)) HV.out (y:=⟨⟨3,ta,tt,i7,0,[],i9⟩,.slice none 0 0,.slice none 0 0⟩) ⟨⟨rfl,.inl ⟨rfl,rfl⟩⟩,⟨rfl,.inl ⟨rfl,rfl⟩⟩⟩ (fun k hk=>by rcases hk with hk|hk <;> cases hk) O7 hg7 hat7
 have xl:=tok_grown HLT.out F10.out HB11.out.drew hg7 (fun e=>HLI.out (HV.out ▸ e))
 refine hK.out _ _ (Or.inr ?s19) (fun h19=>?r19)
 case s19=>exact⟨x2,x6,xl⟩
 replace h19:=h19.resolve_left (by decide)
 clear hK K
 try simp only[Act.put,List.setIfInBounds_toArray,List.set_cons_zero,List.set_cons_succ]
 refine wpAnyL_one (i := 20) (o := { dst := some 53, op := Op.nilCheck (Operand.tmp 36), type := 0, pos := "parse.go:319", after := #[{ on := 3, ground := Ground.data }, { on := 0, ground := Ground.phase }, { on := 1, ground := Ground.phase }, { on := 2, ground := Ground.phase }, { on := 3, ground := Ground.phase }, { on := 4, ground := Ground.phase }, { on := 5, ground := Ground.phase }, { on := 6, ground := Ground.phase }, { on := 7, ground := Ground.phase }, { on := 8, ground := Ground.phase }, { on := 9, ground := Ground.phase }, { on := 10, ground := Ground.phase }, { on := 11, ground := Ground.phase }, { on := 12, ground := Ground.phase }, { on := 13, ground := Ground.phase }, { on := 14, ground := Ground.phase }, { on := 15, ground := Ground.phase }, { on := 16, ground := Ground.phase }, { on := 17, ground := Ground.phase }, { on := 18, ground := Ground.phase }, { on := 19, ground := Ground.phase }], guard := none }) (by kernel_rfl) rfl (fun K hK => ?_)
 go_simp
 refine hK.out _ _ (Or.inr (by assumption)) (fun h20=>?r20)
 clear h20 hK K
 try simp only[Act.put,List.setIfInBounds_toArray,List.set_cons_zero,List.set_cons_succ]
 refine wpAnyL_one (i := 21) (o := { dst := some 54, op := Op.fieldAddr 100 (Operand.tmp 53) 0, type := 0, pos := "parse.go:319", after := #[{ on := 20, ground := Ground.data }, { on := 0, ground := Ground.phase }, { on := 1, ground := Ground.phase }, { on := 2, ground := Ground.phase }, { on := 3, ground := Ground.phase }, { on := 4, ground := Ground.phase }, { on := 5, ground := Ground.phase }, { on := 6, ground := Ground.phase }, { on := 7, ground := Ground.phase }, { on := 8, ground := Ground.phase }, { on := 9, ground := Ground.phase }, { on := 10, ground := Ground.phase }, { on := 11, ground := Ground.phase }, { on := 12, ground := Ground.phase }, { on := 13, ground := Ground.phase }, { on := 14, ground := Ground.phase }, { on := 15, ground := Ground.phase }, { on := 16, ground := Ground.phase }, { on := 17, ground := Ground.phase }, { on := 18, ground := Ground.phase }, { on := 19, ground := Ground.phase }], guard := none }) (by kernel_rfl) rfl (fun K hK => ?_)
 go_simp
 refine hK.out _ _ (Or.inr (by assumption)) (fun h21=>?r21)
 clear h21 hK K
 try simp only[Act.put,List.setIfInBounds_toArray,List.set_cons_zero,List.set_cons_succ]
 refine wpAnyL_one (i := 22) (o := { dst := none, op := Op.store 97 (Operand.tmp 54) (Operand.tmp 52), type := 0, pos := "parse.go:319", after := #[{ on := 21, ground := Ground.data }, { on := 19, ground := Ground.data }, { on := 19, ground := Ground.chain }, { on := 0, ground := Ground.phase }, { on := 1, ground := Ground.phase }, { on := 2, ground := Ground.phase }, { on := 3, ground := Ground.phase }, { on := 4, ground := Ground.phase }, { on := 5, ground := Ground.phase }, { on := 6, ground := Ground.phase }, { on := 7, ground := Ground.phase }, { on := 8, ground := Ground.phase }, { on := 9, ground := Ground.phase }, { on := 10, ground := Ground.phase }, { on := 11, ground := Ground.phase }, { on := 12, ground := Ground.phase }, { on := 13, ground := Ground.phase }, { on := 14, ground := Ground.phase }, { on := 15, ground := Ground.phase }, { on := 16, ground := Ground.phase }, { on := 17, ground := Ground.phase }, { on := 18, ground := Ground.phase }, { on := 19, ground := Ground.phase }], guard := none }) (by kernel_rfl) rfl (fun K hK => ?_)
 go_simp
 refine hK.out _ _ (Or.inl rfl) (fun _=>?r22)
 clear hK K
 try simp only[Act.put,List.setIfInBounds_toArray,List.set_cons_zero,List.set_cons_succ]
 refine wpAnyL_done (by kernel_rfl) ?_ _
 all_goals go_wp2
 all_goals
  refine bodyPost_ret (v:=.tuple #[]) (by simp[results,Tryz.results50,go_sem]) rfl ?_
  refine⟨rfl,⟨⟨3,ta,tt,i7,0,[],i9⟩,.slice none 0 0,.slice none 0 0⟩,s10,_,_,?_,HE.out.1,HE.out.2.1,HE.out.2.2⟩
  have hx:Ref.Rx T 0 0 (Ref.take T Mil.sIs (Ref.rhead T s).2) (i9,s9):=by
   unfold Ref.rhead
   rw[C5.out]
   show Ref.Rx T 0 0 (Ref.take T Mil.sIs (Ref.rtyped T (Ref.take T Mil.sColon s5)).2) (i9,s9)
   rw[E6.out,E7.out]
   show Ref.Rx T 0 0 (Ref.take T Mil.sIs s7) (i9,s9)
   rw[E8.out]
   exact X9.out
  have hR:=Ref.ri_eq HI.out HO.out hx
  unfold Ref.rhead at hR
  rw[C5.out] at hR
  simp only[] at hR
  rw[E6.out,E7.out,E10.out] at hR
  exact hR
end
section
open Go.RowKit
abbrev ilA (at_:Nat) (nn pp:Value):Array Value:=#[.int .i64 2,.int .i64 (at_:Nat),.string ⟨#[]⟩,.int .i64 0,.int .i64 0,nn,pp,.int .i64 0]
abbrev nmv (l:List Mil.Bytes):List Value:=l.map fun x=>Value.string (bs x)
abbrev plv (l:List Nat):List Value:=l.map fun x=>Value.int .i64 (x:Nat)
structure IL (N0 li at_:Nat) (la:List Mil.Bytes) (lb:List Nat) (nn pp:Value) (w:World):Prop where
 cells:w.heap[li]?=some (.cells (ilA at_ nn pp) 122 (0,0))
 nms:w.ownsRow N0 9 1 nn la.length (nmv la)
 pls:w.ownsRow N0 3 1 pp lb.length (plv lb)
 far:N0<=li
 nl:nn.ownBlock≠some li
 pl:pp.ownBlock≠some li
 np:∀k,nn.ownBlock=some k->pp.ownBlock≠some k
structure Ah (N0 b g:Nat) (tv iv nv:Value):Prop where
 b:b < N0
 g:g < N0
 t:∀k,tv.ownBlock=some k->k < N0
 i:∀k,iv.ownBlock=some k->k < N0
 n:∀k,nv.ownBlock=some k->k < N0
theorem ah_of {B b g:Nat} {T:List Ref.Tk} {tv iv:Value} {s:Ref.Rs} {nv:Value} {I:List Iw} {w:World} (h:RM B b g T tv iv s nv w) (hm:IM B b g tv I iv nv w):Ah w.heap.size b g tv iv nv:=
 ⟨(ags h.rd).1,(ags h.pr).1,fun k hk=>(h.tok.lt k hk).2,fun k hk=>(hm.own.lt k hk).2,fun k hk=>(h.nod.lt k hk).2⟩
theorem IL.kept {N0 b g li at_:Nat} {tv iv nv:Value} {la:List Mil.Bytes} {lb:List Nat} {nn pp:Value} {w w':World} (h:IL N0 li at_ la lb nn pp w) (a:Ah N0 b g tv iv nv) {nv':Value} (f:Fr b g w nv w' nv'):IL N0 li at_ la lb nn pp w':=by
 have blk:∀k,k < w.heap.size->N0<=k->w'.heap[k]?=w.heap[k]?:=fun k h1 h2=>f.block k h1 (by have:=a.b;omega) (by have:=a.g;omega) (fun e=>by have:=a.n k e;omega)
 exact⟨(blk li (ags h.cells).1 h.far).trans h.cells,own_kept h.nms (fun k hk=>blk k (h.nms.lt k hk).2 (h.nms.lt k hk).1),own_kept h.pls (fun k hk=>blk k (h.pls.lt k hk).2 (h.pls.lt k hk).1),h.far,h.nl,h.pl,h.np⟩
theorem RM.far {B b g:Nat} {T:List Ref.Tk} {tv iv:Value} {s:Ref.Rs} {nv:Value} {w w':World} {N0:Nat} (h:RM B b g T tv iv s nv w) (a:Ah N0 b g tv iv nv) (hb:Below N0 w w'):RM B b g T tv iv s nv w':=
 ⟨(hb.block _ a.b).trans h.rd,(hb.block _ a.g).trans h.pr,own_kept h.tok (fun k hk=>hb.block k (a.t k hk)),own_kept h.nod (fun k hk=>hb.block k (a.n k hk)),h.hb,h.hg,h.bg,h.tb,h.nb,h.lt,h.wf⟩
theorem Fr.far {b g:Nat} {w u v:World} {nv:Value} (f:Fr b g w nv u nv) (hb:Below w.heap.size u v):Fr b g w nv v nv:=
 ⟨hb.os.trans f.os,hb.tape.trans f.tape,hb.output.trans f.output,Nat.le_trans f.size hb.size,fun _ h=>Or.inl h,fun k h1 h2 h3 h4=>(hb.block k h1).trans (f.block k h1 h2 h3 h4)⟩
theorem own_less {w:World} {B N:Nat} {e:TypeId} {size:Nat} {v:Value} {n:Nat} {xs:List Value} (h:w.ownsRow N e size v n xs) (hB:B<=N):w.ownsRow B e size v n xs:=by
 refine⟨h.1,?_⟩
 rcases h.2 with hn|⟨g,cap,cur,h0,hbg,rest⟩
 ·exact .inl hn
 ·exact .inr ⟨g,cap,cur,h0,Nat.le_trans hB hbg,rest⟩
theorem IL.cells8 {N0 li at_:Nat} {la:List Mil.Bytes} {lb:List Nat} {nn pp:Value} {w:World} (h:IL N0 li at_ la lb nn pp w):w.cell? ⟨li,5,none⟩=some nn/\w.cell? ⟨li,6,none⟩=some pp/\∀k,w.frozen? ⟨li,k,none⟩=false:=by
 refine⟨?_,?_,fun k=>?_⟩
 ·rw[cor w _ 5 _ _ _ h.cells];rfl
 ·rw[cor w _ 6 _ _ _ h.cells];rfl
 ·unfold World.frozen?;rw[h.cells];simp
theorem IL.name {N0 li at_:Nat} {la:List Mil.Bytes} {lb:List Nat} {nn pp:Value} {W w7:World} {o:Option Addr} {c k c7:Nat} {A:Array Value} {e:TypeId} (h:IL N0 li at_ la lb nn pp W) (hv:nn=.slice o la.length c) (x:Mil.Bytes) (hN:N0<=W.heap.size)
  (O7:w7.ownsRow N0 9 1 (.slice (some ⟨k,0,none⟩) (la.length+1) c7) (la.length+1) (nmv la++[Value.string (bs x)])) (hg:(W.alloc (.cells A e)).grownBy w7 (Value.slice o la.length c).ownBlock) (hat:(Value.slice o la.length c).ownBlock=some k\/k=(W.alloc (.cells A e)).heap.size) :
  (w7.cell? ⟨li,5,none⟩=some nn/\w7.frozen? ⟨li,5,none⟩=false)/\IL N0 li at_ (la++[x]) lb (.slice (some ⟨k,0,none⟩) (la.length+1) c7) pp (w7.setCell ⟨li,5,none⟩ (.slice (some ⟨k,0,none⟩) (la.length+1) c7)) /\
  Below N0 W (w7.setCell ⟨li,5,none⟩ (.slice (some ⟨k,0,none⟩) (la.length+1) c7))/\∀j,j < W.heap.size->j≠li->nn.ownBlock≠some j->(w7.setCell ⟨li,5,none⟩ (.slice (some ⟨k,0,none⟩) (la.length+1) c7)).heap[j]?=W.heap[j]?:=by
 rw[<-hv] at hg hat
 have lli:=(ags h.cells).1
 have hsz:(W.alloc (.cells A e)).heap.size=W.heap.size+1:=by simp
 have gr:∀j,j < W.heap.size->nn.ownBlock≠some j->w7.heap[j]?=W.heap[j]?:=fun j h1 h2=>(hg.block j (by omega) (fun e=>h2 e.symm)).trans (Below.heap_alloc W _ j h1)
 have e1:w7.heap[li]?=some (.cells (ilA at_ nn pp) 122 (0,0)):=(gr li lli h.nl).trans h.cells
 have oth:∀j,j≠li->(w7.setCell ⟨li,5,none⟩ (.slice (some ⟨k,0,none⟩) (la.length+1) c7)).heap[j]?=w7.heap[j]?:=fun j hj=>bhs w7 ⟨li,5,none⟩ _ j hj
 have kl:k≠li:=by
  rcases hat with hk|hk
  ·intro e;rw[e] at hk;exact h.nl hk
  ·omega
 have kp:∀j,pp.ownBlock=some j->j≠k:=fun j hj e=>by
  rcases hat with hk|hk
  ·rw[<-e] at hk;exact h.np j hk hj
  ·have:=(h.pls.lt j hj).2
   omega
 have ky:∀j,(Value.slice (some ⟨k,0,none⟩) (la.length+1) c7).ownBlock=some j->k=j:=fun j hj=>by simpa [Value.ownBlock] using hj
 have hb:Below N0 W w7:=by
  refine ((Below.refl N0 W).alloc hN (.cells A e)).grown hg (by omega) (fun j hj=>?_)
  exact (h.nms.lt j hj).1
 refine⟨⟨?_,?_⟩,⟨?_,?_,?_,h.far,?_,?_,?_⟩,hb.setCell h.far _,fun j h1 h2 h3=>(oth j h2).trans (gr j h1 h3)⟩
 ·rw[cor w7 _ 5 _ _ _ e1];rfl
 ·unfold World.frozen?;rw[e1];simp
 ·show (w7.heap.modify li _)[li]?=_
  rw[Array.getElem?_modify,if_pos rfl,e1];rfl
 ·have e2:nmv (la++[x])=nmv la++[Value.string (bs x)]:=by simp[nmv]
  rw[e2,List.length_append]
  exact own_kept O7 (fun j hj=>by
   obtain rfl:=ky j hj
   exact oth k kl)
 ·exact own_kept h.pls (fun j hj=>(oth j (fun e=>h.pl (e ▸ hj))).trans (gr j (h.pls.lt j hj).2 (fun e=>h.np j e hj)))
 ·intro e
  exact kl (ky li e)
 ·exact h.pl
 ·intro j hj hp
  obtain rfl:=ky j hj
  exact kp k hp rfl
theorem IL.place {N0 li at_:Nat} {la:List Mil.Bytes} {lb:List Nat} {nn pp:Value} {W w7:World} {o:Option Addr} {c k c7:Nat} {A:Array Value} {e:TypeId} (h:IL N0 li at_ la lb nn pp W) (hv:pp=.slice o lb.length c) (x:Nat) (hN:N0<=W.heap.size)
  (O7:w7.ownsRow N0 3 1 (.slice (some ⟨k,0,none⟩) (lb.length+1) c7) (lb.length+1) (plv lb++[Value.int .i64 (x:Nat)])) (hg:(W.alloc (.cells A e)).grownBy w7 (Value.slice o lb.length c).ownBlock) (hat:(Value.slice o lb.length c).ownBlock=some k\/k=(W.alloc (.cells A e)).heap.size) :
  (w7.cell? ⟨li,6,none⟩=some pp/\w7.frozen? ⟨li,6,none⟩=false)/\IL N0 li at_ la (lb++[x]) nn (.slice (some ⟨k,0,none⟩) (lb.length+1) c7) (w7.setCell ⟨li,6,none⟩ (.slice (some ⟨k,0,none⟩) (lb.length+1) c7)) /\
  Below N0 W (w7.setCell ⟨li,6,none⟩ (.slice (some ⟨k,0,none⟩) (lb.length+1) c7))/\∀j,j < W.heap.size->j≠li->pp.ownBlock≠some j->(w7.setCell ⟨li,6,none⟩ (.slice (some ⟨k,0,none⟩) (lb.length+1) c7)).heap[j]?=W.heap[j]?:=by
 rw[<-hv] at hg hat
 have lli:=(ags h.cells).1
 have hsz:(W.alloc (.cells A e)).heap.size=W.heap.size+1:=by simp
 have gr:∀j,j < W.heap.size->pp.ownBlock≠some j->w7.heap[j]?=W.heap[j]?:=fun j h1 h2=>(hg.block j (by omega) (fun e=>h2 e.symm)).trans (Below.heap_alloc W _ j h1)
 have e1:w7.heap[li]?=some (.cells (ilA at_ nn pp) 122 (0,0)):=(gr li lli h.pl).trans h.cells
 have oth:∀j,j≠li->(w7.setCell ⟨li,6,none⟩ (.slice (some ⟨k,0,none⟩) (lb.length+1) c7)).heap[j]?=w7.heap[j]?:=fun j hj=>bhs w7 ⟨li,6,none⟩ _ j hj
 have kl:k≠li:=by
  rcases hat with hk|hk
  ·intro e;rw[e] at hk;exact h.pl hk
  ·omega
 have kp:∀j,nn.ownBlock=some j->j≠k:=fun j hj e=>by
  rcases hat with hk|hk
  ·rw[<-e] at hk;exact h.np j hj hk
  ·have:=(h.nms.lt j hj).2
   omega
 have ky:∀j,(Value.slice (some ⟨k,0,none⟩) (lb.length+1) c7).ownBlock=some j->k=j:=fun j hj=>by simpa [Value.ownBlock] using hj
 have hb:Below N0 W w7:=by
  refine ((Below.refl N0 W).alloc hN (.cells A e)).grown hg (by omega) (fun j hj=>?_)
  exact (h.pls.lt j hj).1
 refine⟨⟨?_,?_⟩,⟨?_,?_,?_,h.far,?_,?_,?_⟩,hb.setCell h.far _,fun j h1 h2 h3=>(oth j h2).trans (gr j h1 h3)⟩
 ·rw[cor w7 _ 6 _ _ _ e1];rfl
 ·unfold World.frozen?;rw[e1];simp
 ·show (w7.heap.modify li _)[li]?=_
  rw[Array.getElem?_modify,if_pos rfl,e1];rfl
 ·exact own_kept h.nms (fun j hj=>(oth j (fun e=>h.nl (e ▸ hj))).trans (gr j (h.nms.lt j hj).2 (fun e=>h.np j hj e)))
 ·have e2:plv (lb++[x])=plv lb++[Value.int .i64 (x:Nat)]:=by simp[plv]
  rw[e2,List.length_append]
  exact own_kept O7 (fun j hj=>by
   obtain rfl:=ky j hj
   exact oth k kl)
 ·exact h.nl
 ·intro e
  exact kl (ky li e)
 ·intro j hj hp
  obtain rfl:=ky j hp
  exact kp k hj rfl
theorem il_grown {N0 li at_:Nat} {la:List Mil.Bytes} {lb:List Nat} {nn pp:Value} {w w2 w7:World} {row:Option Nat} (h:IL N0 li at_ la lb nn pp w) (hb:Below w.heap.size w w2) (hg:w2.grownBy w7 row) (hr:row≠some li):w7.heap[li]?=some (.cells (ilA at_ nn pp) 122 (0,0)):=by
 have l:=(ags h.cells).1
 exact (hg.block li (Nat.lt_of_lt_of_le l hb.size) (fun e=>hr e.symm)).trans ((hb.block li l).trans h.cells)
theorem il_eight {li at_:Nat} {nn pp:Value} {w:World} (h:w.heap[li]?=some (.cells (ilA at_ nn pp) 122 (0,0))) :
  w.cell? ⟨li,0,none⟩=some (.int .i64 2)/\w.cell? ⟨li,1,none⟩=some (.int .i64 (at_:Nat))/\w.cell? ⟨li,2,none⟩=some (.string ⟨#[]⟩)/\w.cell? ⟨li,3,none⟩=some (.int .i64 0)/\w.cell? ⟨li,4,none⟩=some (.int .i64 0)/\w.cell? ⟨li,5,none⟩=some nn/\w.cell? ⟨li,6,none⟩=some pp/\w.cell? ⟨li,7,none⟩=some (.int .i64 0):=by
 refine⟨?_,?_,?_,?_,?_,?_,?_,?_⟩
 ·rw[cor w _ 0 _ _ _ h];rfl
 ·rw[cor w _ 1 _ _ _ h];rfl
 ·rw[cor w _ 2 _ _ _ h];rfl
 ·rw[cor w _ 3 _ _ _ h];rfl
 ·rw[cor w _ 4 _ _ _ h];rfl
 ·rw[cor w _ 5 _ _ _ h];rfl
 ·rw[cor w _ 6 _ _ _ h];rfl
 ·rw[cor w _ 7 _ _ _ h];rfl
end
end Go.Proofs.YtoiajojadihpbaaGreatDoor
