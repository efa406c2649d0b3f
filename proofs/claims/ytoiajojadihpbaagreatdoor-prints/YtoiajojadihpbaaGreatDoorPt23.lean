import Derived.Test.YtoiajojadihpbaaGreatDoorPt22
namespace Go.Proofs.YtoiajojadihpbaaGreatDoor
set_option maxHeartbeats 8000000
section
open Go.RowKit
def XPost (B b g:Nat) (T:List Ref.Tk) (tv iv:Value) (nv:Value) (w:World) (tag:Nat) (s:Ref.Rs) (r:Ending) (w':World):Prop:=∃x,Ref.Rx T tag 0 s x∧RPost B b g T tv iv nv w x r w'
def EC (B b g:Nat) (T:List Ref.Tk) (tv iv:Value) (s:Ref.Rs):Prop:=∀(nv:Value) (w:World),RM B b g T tv iv s nv w→s.ns.length≤2*s.p→Calls Tryz.prog 96 #[.pointer (some ⟨b,0,none⟩)] w (XPost B b g T tv iv nv w 0 s)
def OC (B b g:Nat) (T:List Ref.Tk) (tv iv:Value) (l:Nat) (s:Ref.Rs):Prop:=∀(nv:Value) (w:World),RM B b g T tv iv s nv w→s.ns.length≤2*s.p→Calls Tryz.prog 131 #[.pointer (some ⟨b,0,none⟩),.int .i64 (l:Nat)] w (XPost B b g T tv iv nv w l s)
def FC (B b g:Nat) (T:List Ref.Tk) (tv iv:Value) (s:Ref.Rs):Prop:=∀(nv:Value) (w:World),RM B b g T tv iv s nv w→s.ns.length≤2*s.p→Calls Tryz.prog 147 #[.pointer (some ⟨b,0,none⟩)] w (XPost B b g T tv iv nv w 7 s)
def AC (B b g:Nat) (T:List Ref.Tk) (tv iv:Value) (s:Ref.Rs):Prop:=∀(nv:Value) (w:World),RM B b g T tv iv s nv w→s.ns.length≤2*s.p→Calls Tryz.prog 159 #[.pointer (some ⟨b,0,none⟩)] w (XPost B b g T tv iv nv w 8 s)
structure TokL (b g:Nat) (nv:Value) (L:Nat) (t:Ref.Tk) (W:World):Prop where
 at_:W.heap[L]?=some (.cells (tkA t) 104 (0,0))
 lb:L≠b
 lg:L≠g
 ln:nv.ownBlock≠some L
theorem tokL_new {B b g:Nat} {T:List Ref.Tk} {tv iv:Value} {s:Ref.Rs} {nv:Value} {w w1:World} (h:RM B b g T tv iv s nv w) (hb:Below w.heap.size w w1) (t:Ref.Tk):TokL b g nv w1.heap.size t (w1.alloc (.cells (tkA t) 104)):=by
 have h1:=(Array.getElem?_eq_some_iff.1 h.rd).1
 have h2:=(Array.getElem?_eq_some_iff.1 h.pr).1
 have h3:=hb.size
 refine ⟨heap_alloc_new w1 _,by omega,by omega,fun e=>?_⟩
 have:=(h.nod.lt _ e).2
 omega
theorem TokL.cells {b g:Nat} {nv:Value} {L:Nat} {t:Ref.Tk} {W:World} (h:TokL b g nv L t W) {w':World} {nv':Value} (f:Fr b g W nv w' nv') :
  w'.cell? ⟨L,0,none⟩=some (.string (bs t.t))∧w'.cell? ⟨L,1,none⟩=some (.int .i64 (t.at_:Nat))∧w'.cell? ⟨L,2,none⟩=some (.bool t.number)∧w'.cell? ⟨L,3,none⟩=some (.bool t.name)∧w'.cell? ⟨L,4,none⟩=some (.int .i64 (t.v:Nat))∧w'.cell? ⟨L,5,none⟩=some (.int .i64 (t.e:Nat)):=by
 have e:w'.heap[L]?=some (.cells (tkA t) 104 (0,0)):=(f.block L (Array.getElem?_eq_some_iff.1 h.at_).1 h.lb h.lg h.ln).trans h.at_
 refine ⟨?_,?_,?_,?_,?_,?_⟩
 ·rw [cell_of_row w' _ 0 _ _ _ e];rfl
 ·rw [cell_of_row w' _ 1 _ _ _ e];rfl
 ·rw [cell_of_row w' _ 2 _ _ _ e];rfl
 ·rw [cell_of_row w' _ 3 _ _ _ e];rfl
 ·rw [cell_of_row w' _ 4 _ _ _ e];rfl
 ·rw [cell_of_row w' _ 5 _ _ _ e];rfl
set_option maxRecDepth 100000 in
theorem expr_if (B b g:Nat) (T:List Ref.Tk) (tv iv:Value) (hs:T.length≤4001) (s:Ref.Rs) (ih:∀t:Ref.Rs,T.length - t.p < T.length - s.p→EC B b g T tv iv t) (hi:Ref.is T Mil.wIf s=true):EC B b g T tv iv s:=by
 intro nv w h hn
 have H:=hid h
 have HN:=hid hn
 have IH:=hid ih
 have HU:Hid (s.p+1 < T.length):=is_up h (by decide) hi
 have HI:=hid hi
 have hat:(Ref.now T s).at_=(Ref.now T s).at_:=rfl
 clear h hn ih
 go_enter Tryz.func96,Tryz.ntmps96
 go_wp2_with fail
 refine (now_any B b g T tv iv s nv _ H.out).mono ?_
 rintro r w1 ⟨rfl,hb1⟩
 generalize hnow:Ref.now T s=t at hat ⊢
 obtain ⟨tt,ta,tn,tm,tu,te⟩:=t
 have hvv:Ref.tokV ⟨tt,ta,tn,tm,tu,te⟩=.agg #[.string (bs tt),.int .i64 (ta:Nat),.bool tn,.bool tm,.int .i64 (tu:Nat),.int .i64 (te:Nat)]:=rfl
 rw [hvv]
 clear hvv
 have HNOW:=hid hnow
 clear hnow
 have hbW:Below w.heap.size w (w1.alloc (.cells #[.string (bs tt),.int .i64 (ta:Nat),.bool tn,.bool tm,.int .i64 (tu:Nat),.int .i64 (te:Nat)] 104)):=hb1.alloc hb1.size _
 have HW:=hid (H.out.below hbW)
 have FW:Hid (Fr b g w nv (w1.alloc (.cells #[.string (bs tt),.int .i64 (ta:Nat),.bool tn,.bool tm,.int .i64 (tu:Nat),.int .i64 (te:Nat)] 104)) nv):=Fr.of_below hbW
 have HLW:Hid (TokL b g nv w1.heap.size ⟨tt,ta,tn,tm,tu,te⟩ (w1.alloc (.cells #[.string (bs tt),.int .i64 (ta:Nat),.bool tn,.bool tm,.int .i64 (tu:Nat),.int .i64 (te:Nat)] 104))):=tokL_new H.out hb1 _
 clear hbW hb1
 clear hat
 go_wp2_with fail
 generalize w1.alloc (.cells #[.string (bs tt),.int .i64 (ta:Nat),.bool tn,.bool tm,.int .i64 (tu:Nat),.int .i64 (te:Nat)] 104)=W at HW FW HLW ⊢
 generalize w1.heap.size=L at HLW ⊢
 refine (is_any B b g T tv iv s nv Mil.wIf _ HW.out).mono ?_
 rintro r w2 ⟨rfl,hb2⟩
 rw [hi]
 have H2:Hid (RM B b g T tv iv s nv w2):=(HW.out).below hb2
 have F2:Hid (Fr b g W nv w2 nv):=Fr.of_below hb2
 clear hb2
 clear hi
 have d3:=(H2.out).cells.2.1
 have z3:=(H2.out).cells.2.2.2.2.2.2.2.1
 have l3:=(H2.out).lt
 have H3:Hid (RM B b g T tv iv (Ref.up s) nv (w2.setCell ⟨b,1,none⟩ (.int .i64 ((s.p:Int)+1)))):=((H2.out).setP HU.out).1
 have F3:Hid (Fr b g W nv (w2.setCell ⟨b,1,none⟩ (.int .i64 ((s.p:Int)+1))) nv):=F2.out.trans (((H2.out).setP HU.out).2)
 go_wp2_with fail
 refine (IH.out (Ref.up s) (by have:=((Ref.Paid.up s)).1;have:=(H3.out).lt;have h1:s.p+1≤(Ref.up s).p:=(by have h2:(Ref.up s).p≤(Ref.up s).p:=(Ref.Pays.refl (Ref.up s)).1;have h3:(Ref.up s).p=s.p+1:=rfl;omega);omega) nv _ (H3.out) (by have:=((Ref.Paid.up s)).2;have:=HN.out;omega)).mono ?_
 rintro r w4 ⟨⟨i4,s4⟩,g4,rfl,n4,m4,f4⟩
 have G4:=hid g4
 have H4:=hid m4
 have F4:=hid (F3.out.trans (f4))
 have P4:Hid (Ref.Paid s s4 2):=((Ref.Paid.up s)).by g4.pays
 clear g4 m4 f4
 have Q4:Hid (Ref.Pays (Ref.up s) s4):=G4.out.pays
 go_wp2_with fail
 refine (take_any B b g T tv iv s4 n4 Mil.wThen (by decide) _ (H4.out) hs).mono ?_
 rintro r w5 ⟨rfl,m5,f5⟩
 have p5:=(P4.out).take T Mil.wThen
 generalize he5:Ref.take T Mil.wThen s4=s5 at m5 p5
 have E5:=hid he5
 have H5:=hid m5
 have F5:=hid (F4.out.trans (f5))
 have P5:=hid p5
 clear m5 f5 p5 he5
 have Q5:Hid (Ref.Pays (Ref.up s) s5):=by rw [←E5.out];exact Q4.out.trans (Ref.pays_take T _ _)
 go_wp2_with fail
 refine (IH.out s5 (by have:=(P5.out).1;have:=(H5.out).lt;have h1:s.p+1≤s5.p:=(by have h2:(Ref.up s).p≤s5.p:=(Q5.out).1;have h3:(Ref.up s).p=s.p+1:=rfl;omega);omega) n4 _ (H5.out) (by have:=(P5.out).2;have:=HN.out;omega)).mono ?_
 rintro r w6 ⟨⟨i6,s6⟩,g6,rfl,n6,m6,f6⟩
 have G6:=hid g6
 have H6:=hid m6
 have F6:=hid (F5.out.trans (f6))
 have P6:Hid (Ref.Paid s s6 2):=(P5.out).by g6.pays
 clear g6 m6 f6
 have Q6:=hid (Q5.out.trans G6.out.pays)
 go_wp2_with fail
 refine (take_any B b g T tv iv s6 n6 Mil.wElse (by decide) _ (H6.out) hs).mono ?_
 rintro r w7 ⟨rfl,m7,f7⟩
 have p7:=(P6.out).take T Mil.wElse
 generalize he7:Ref.take T Mil.wElse s6=s7 at m7 p7
 have E7:=hid he7
 have H7:=hid m7
 have F7:=hid (F6.out.trans (f7))
 have P7:=hid p7
 clear m7 f7 p7 he7
 have Q7:Hid (Ref.Pays (Ref.up s) s7):=by rw [←E7.out];exact Q6.out.trans (Ref.pays_take T _ _)
 go_wp2_with fail
 refine (IH.out s7 (by have:=(P7.out).1;have:=(H7.out).lt;have h1:s.p+1≤s7.p:=(by have h2:(Ref.up s).p≤s7.p:=(Q7.out).1;have h3:(Ref.up s).p=s.p+1:=rfl;omega);omega) n6 _ (H7.out) (by have:=(P7.out).2;have:=HN.out;omega)).mono ?_
 rintro r w8 ⟨⟨i8,s8⟩,g8,rfl,n8,m8,f8⟩
 have G8:=hid g8
 have H8:=hid m8
 have F8:=hid (F7.out.trans (f8))
 have P8:Hid (Ref.Paid s s8 2):=(P7.out).by g8.pays
 clear g8 m8 f8
 obtain ⟨y0,y1,y2,y3,y4,y5⟩:=HLW.out.cells (F8.out)
 go_wp2_with fail
 refine (node_any B b g T tv iv s8 n8 ⟨6,Mil.wIf,ta,0,false,i4,i6,i8⟩ _ (H8.out) (by have:=(P8.out).2;have:=HN.out;have:=(H8.out).lt;omega)).mono ?_
 rintro r w9 ⟨rfl,n9,m9,f9⟩
 have H9:=hid m9
 have F9:=hid (F8.out.trans (f9))
 clear m9 f9
 go_wp2
 go_ret
 have R:=Ref.rx_if HI.out G4.out (by rw [E5.out];exact G6.out) (by rw [E7.out];exact G8.out)
 rw [HNOW.out] at R
 exact ⟨_,R,rfl,_,H9.out,FW.out.trans F9.out⟩
set_option maxRecDepth 100000 in
theorem expr_no (B b g:Nat) (T:List Ref.Tk) (tv iv:Value) (s:Ref.Rs) (io:OC B b g T tv iv 1 s) (hi:Ref.is T Mil.wIf s=false):EC B b g T tv iv s:=by
 intro nv w h hn
 have H:=hid h
 have HN:=hid hn
 have IO1:=hid io
 have HI:=hid hi
 have hat:(Ref.now T s).at_=(Ref.now T s).at_:=rfl
 clear h hn io
 go_enter Tryz.func96,Tryz.ntmps96
 go_wp2_with fail
 refine (now_any B b g T tv iv s nv _ H.out).mono ?_
 rintro r w1 ⟨rfl,hb1⟩
 generalize hnow:Ref.now T s=t at hat ⊢
 obtain ⟨tt,ta,tn,tm,tu,te⟩:=t
 have hvv:Ref.tokV ⟨tt,ta,tn,tm,tu,te⟩=.agg #[.string (bs tt),.int .i64 (ta:Nat),.bool tn,.bool tm,.int .i64 (tu:Nat),.int .i64 (te:Nat)]:=rfl
 rw [hvv]
 clear hvv
 have HNOW:=hid hnow
 clear hnow
 have hbW:Below w.heap.size w (w1.alloc (.cells #[.string (bs tt),.int .i64 (ta:Nat),.bool tn,.bool tm,.int .i64 (tu:Nat),.int .i64 (te:Nat)] 104)):=hb1.alloc hb1.size _
 have HW:=hid (H.out.below hbW)
 have FW:Hid (Fr b g w nv (w1.alloc (.cells #[.string (bs tt),.int .i64 (ta:Nat),.bool tn,.bool tm,.int .i64 (tu:Nat),.int .i64 (te:Nat)] 104)) nv):=Fr.of_below hbW
 have HLW:Hid (TokL b g nv w1.heap.size ⟨tt,ta,tn,tm,tu,te⟩ (w1.alloc (.cells #[.string (bs tt),.int .i64 (ta:Nat),.bool tn,.bool tm,.int .i64 (tu:Nat),.int .i64 (te:Nat)] 104))):=tokL_new H.out hb1 _
 clear hbW hb1
 clear hat
 go_wp2_with fail
 generalize w1.alloc (.cells #[.string (bs tt),.int .i64 (ta:Nat),.bool tn,.bool tm,.int .i64 (tu:Nat),.int .i64 (te:Nat)] 104)=W at HW FW HLW ⊢
 generalize w1.heap.size=L at HLW ⊢
 refine (is_any B b g T tv iv s nv Mil.wIf _ HW.out).mono ?_
 rintro r w2 ⟨rfl,hb2⟩
 rw [hi]
 have H2:Hid (RM B b g T tv iv s nv w2):=(HW.out).below hb2
 have F2:Hid (Fr b g W nv w2 nv):=Fr.of_below hb2
 clear hb2
 clear hi
 go_wp2_with fail
 refine (IO1.out nv _ (H2.out) HN.out).mono ?_
 rintro r w3 ⟨⟨i3,s3⟩,g3,rfl,n3,m3,f3⟩
 have G3:=hid g3
 have H3:=hid m3
 have F3:=hid (F2.out.trans (f3))
 have P3:Hid (Ref.Paid s s3 0):=((Ref.Paid.start s)).by g3.pays
 clear g3 m3 f3
 go_wp2
 go_ret
 exact ⟨_,Ref.rx_noif HI.out G3.out,rfl,_,H3.out,FW.out.trans F3.out⟩
set_option maxRecDepth 100000 in
theorem fact_neg (B b g:Nat) (T:List Ref.Tk) (tv iv:Value) (hs:T.length≤4001) (s:Ref.Rs) (ih:∀t:Ref.Rs,T.length - t.p < T.length - s.p→FC B b g T tv iv t) (hi:Ref.is T Mil.sMinus s=true):FC B b g T tv iv s:=by
 intro nv w h hn
 have H:=hid h
 have HN:=hid hn
 have IH:=hid ih
 have HU:Hid (s.p+1 < T.length):=is_up h (by decide) hi
 have HI:=hid hi
 have hat:(Ref.now T s).at_=(Ref.now T s).at_:=rfl
 clear h hn ih
 go_enter Tryz.func147,Tryz.ntmps147
 go_wp2_with fail
 refine (now_any B b g T tv iv s nv _ H.out).mono ?_
 rintro r w1 ⟨rfl,hb1⟩
 generalize hnow:Ref.now T s=t at hat ⊢
 obtain ⟨tt,ta,tn,tm,tu,te⟩:=t
 have hvv:Ref.tokV ⟨tt,ta,tn,tm,tu,te⟩=.agg #[.string (bs tt),.int .i64 (ta:Nat),.bool tn,.bool tm,.int .i64 (tu:Nat),.int .i64 (te:Nat)]:=rfl
 rw [hvv]
 clear hvv
 have HNOW:=hid hnow
 clear hnow
 have hbW:Below w.heap.size w (w1.alloc (.cells #[.string (bs tt),.int .i64 (ta:Nat),.bool tn,.bool tm,.int .i64 (tu:Nat),.int .i64 (te:Nat)] 104)):=hb1.alloc hb1.size _
 have HW:=hid (H.out.below hbW)
 have FW:Hid (Fr b g w nv (w1.alloc (.cells #[.string (bs tt),.int .i64 (ta:Nat),.bool tn,.bool tm,.int .i64 (tu:Nat),.int .i64 (te:Nat)] 104)) nv):=Fr.of_below hbW
 have HLW:Hid (TokL b g nv w1.heap.size ⟨tt,ta,tn,tm,tu,te⟩ (w1.alloc (.cells #[.string (bs tt),.int .i64 (ta:Nat),.bool tn,.bool tm,.int .i64 (tu:Nat),.int .i64 (te:Nat)] 104))):=tokL_new H.out hb1 _
 clear hbW hb1
 clear hat
 go_wp2_with fail
 generalize w1.alloc (.cells #[.string (bs tt),.int .i64 (ta:Nat),.bool tn,.bool tm,.int .i64 (tu:Nat),.int .i64 (te:Nat)] 104)=W at HW FW HLW ⊢
 generalize w1.heap.size=L at HLW ⊢
 refine (is_any B b g T tv iv s nv Mil.sMinus _ HW.out).mono ?_
 rintro r w2 ⟨rfl,hb2⟩
 rw [hi]
 have H2:Hid (RM B b g T tv iv s nv w2):=(HW.out).below hb2
 have F2:Hid (Fr b g W nv w2 nv):=Fr.of_below hb2
 clear hb2
 clear hi
 have d3:=(H2.out).cells.2.1
 have z3:=(H2.out).cells.2.2.2.2.2.2.2.1
 have l3:=(H2.out).lt
 have H3:Hid (RM B b g T tv iv (Ref.up s) nv (w2.setCell ⟨b,1,none⟩ (.int .i64 ((s.p:Int)+1)))):=((H2.out).setP HU.out).1
 have F3:Hid (Fr b g W nv (w2.setCell ⟨b,1,none⟩ (.int .i64 ((s.p:Int)+1))) nv):=F2.out.trans (((H2.out).setP HU.out).2)
 go_wp2_with fail
 refine (IH.out (Ref.up s) (by have:=HU.out;show T.length - (s.p+1) < T.length - s.p;omega) nv _ (H3.out) (by show s.ns.length≤2*(s.p+1);have:=HN.out;omega)).mono ?_
 rintro r w4 ⟨⟨i4,s4⟩,g4,rfl,n4,m4,f4⟩
 have G4:=hid g4
 have H4:=hid m4
 have F4:=hid (F3.out.trans (f4))
 have P4:Hid (Ref.Paid s s4 2):=((Ref.Paid.up s)).by g4.pays
 clear g4 m4 f4
 obtain ⟨y0,y1,y2,y3,y4,y5⟩:=HLW.out.cells (F4.out)
 go_wp2_with fail
 refine (node_any B b g T tv iv s4 n4 ⟨4,Mil.sMinus,ta,0,false,i4,0,0⟩ _ (H4.out) (by have:=(P4.out).2;have:=HN.out;have:=(H4.out).lt;omega)).mono ?_
 rintro r w5 ⟨rfl,n5,m5,f5⟩
 have H5:=hid m5
 have F5:=hid (F4.out.trans (f5))
 clear m5 f5
 go_wp2
 go_ret
 have R:=Ref.rx_neg HI.out G4.out
 rw [HNOW.out] at R
 exact ⟨_,R,rfl,_,H5.out,FW.out.trans F5.out⟩
set_option maxRecDepth 100000 in
theorem fact_no (B b g:Nat) (T:List Ref.Tk) (tv iv:Value) (s:Ref.Rs) (io:AC B b g T tv iv s) (hi:Ref.is T Mil.sMinus s=false):FC B b g T tv iv s:=by
 intro nv w h hn
 have H:=hid h
 have HN:=hid hn
 have IO1:=hid io
 have HI:=hid hi
 have hat:(Ref.now T s).at_=(Ref.now T s).at_:=rfl
 clear h hn io
 go_enter Tryz.func147,Tryz.ntmps147
 go_wp2_with fail
 refine (now_any B b g T tv iv s nv _ H.out).mono ?_
 rintro r w1 ⟨rfl,hb1⟩
 generalize hnow:Ref.now T s=t at hat ⊢
 obtain ⟨tt,ta,tn,tm,tu,te⟩:=t
 have hvv:Ref.tokV ⟨tt,ta,tn,tm,tu,te⟩=.agg #[.string (bs tt),.int .i64 (ta:Nat),.bool tn,.bool tm,.int .i64 (tu:Nat),.int .i64 (te:Nat)]:=rfl
 rw [hvv]
 clear hvv
 have HNOW:=hid hnow
 clear hnow
 have hbW:Below w.heap.size w (w1.alloc (.cells #[.string (bs tt),.int .i64 (ta:Nat),.bool tn,.bool tm,.int .i64 (tu:Nat),.int .i64 (te:Nat)] 104)):=hb1.alloc hb1.size _
 have HW:=hid (H.out.below hbW)
 have FW:Hid (Fr b g w nv (w1.alloc (.cells #[.string (bs tt),.int .i64 (ta:Nat),.bool tn,.bool tm,.int .i64 (tu:Nat),.int .i64 (te:Nat)] 104)) nv):=Fr.of_below hbW
 have HLW:Hid (TokL b g nv w1.heap.size ⟨tt,ta,tn,tm,tu,te⟩ (w1.alloc (.cells #[.string (bs tt),.int .i64 (ta:Nat),.bool tn,.bool tm,.int .i64 (tu:Nat),.int .i64 (te:Nat)] 104))):=tokL_new H.out hb1 _
 clear hbW hb1
 clear hat
 go_wp2_with fail
 generalize w1.alloc (.cells #[.string (bs tt),.int .i64 (ta:Nat),.bool tn,.bool tm,.int .i64 (tu:Nat),.int .i64 (te:Nat)] 104)=W at HW FW HLW ⊢
 generalize w1.heap.size=L at HLW ⊢
 refine (is_any B b g T tv iv s nv Mil.sMinus _ HW.out).mono ?_
 rintro r w2 ⟨rfl,hb2⟩
 rw [hi]
 have H2:Hid (RM B b g T tv iv s nv w2):=(HW.out).below hb2
 have F2:Hid (Fr b g W nv w2 nv):=Fr.of_below hb2
 clear hb2
 clear hi
 go_wp2_with fail
 refine (IO1.out nv _ (H2.out) HN.out).mono ?_
 rintro r w3 ⟨⟨i3,s3⟩,g3,rfl,n3,m3,f3⟩
 have G3:=hid g3
 have H3:=hid m3
 have F3:=hid (F2.out.trans (f3))
 have P3:Hid (Ref.Paid s s3 0):=((Ref.Paid.start s)).by g3.pays
 clear g3 m3 f3
 go_wp2
 go_ret
 exact ⟨_,Ref.rx_fact HI.out G3.out,rfl,_,H3.out,FW.out.trans F3.out⟩
set_option maxRecDepth 100000 in
theorem side7 (B b g:Nat) (T:List Ref.Tk) (tv iv:Value) (s:Ref.Rs) (io:FC B b g T tv iv s):OC B b g T tv iv 7 s:=by
 intro nv w h hn
 have H:=hid h
 have HN:=hid hn
 have IO1:=hid io
 clear h hn io
 go_enter Tryz.func131,Tryz.ntmps131
 go_wp2_with fail
 refine (IO1.out nv _ H.out HN.out).mono ?_
 rintro r w1 ⟨⟨i1,s1⟩,g1,rfl,n1,m1,f1⟩
 have G1:=hid g1
 have M1:=hid m1
 have F1:=hid f1
 clear g1 m1 f1
 go_wp2
 go_ret
 exact ⟨_,G1.out,rfl,_,M1.out,F1.out⟩
set_option maxRecDepth 100000 in
theorem side3_not (B b g:Nat) (T:List Ref.Tk) (tv iv:Value) (hs:T.length≤4001) (s:Ref.Rs) (ih:∀t:Ref.Rs,T.length - t.p < T.length - s.p→OC B b g T tv iv 3 t) (hi:Ref.is T Mil.wNot s=true):OC B b g T tv iv 3 s:=by
 intro nv w h hn
 have H:=hid h
 have HN:=hid hn
 have IH:=hid ih
 have HU:Hid (s.p+1 < T.length):=is_up h (by decide) hi
 have HI:=hid hi
 have hat:(Ref.now T s).at_=(Ref.now T s).at_:=rfl
 clear h hn ih
 go_enter Tryz.func131,Tryz.ntmps131
 go_wp2_with fail
 refine (now_any B b g T tv iv s nv _ H.out).mono ?_
 rintro r w1 ⟨rfl,hb1⟩
 generalize hnow:Ref.now T s=t at hat ⊢
 obtain ⟨tt,ta,tn,tm,tu,te⟩:=t
 have hvv:Ref.tokV ⟨tt,ta,tn,tm,tu,te⟩=.agg #[.string (bs tt),.int .i64 (ta:Nat),.bool tn,.bool tm,.int .i64 (tu:Nat),.int .i64 (te:Nat)]:=rfl
 rw [hvv]
 clear hvv
 have HNOW:=hid hnow
 clear hnow
 have hbW:Below w.heap.size w (w1.alloc (.cells #[.string (bs tt),.int .i64 (ta:Nat),.bool tn,.bool tm,.int .i64 (tu:Nat),.int .i64 (te:Nat)] 104)):=hb1.alloc hb1.size _
 have HW:=hid (H.out.below hbW)
 have FW:Hid (Fr b g w nv (w1.alloc (.cells #[.string (bs tt),.int .i64 (ta:Nat),.bool tn,.bool tm,.int .i64 (tu:Nat),.int .i64 (te:Nat)] 104)) nv):=Fr.of_below hbW
 have HLW:Hid (TokL b g nv w1.heap.size ⟨tt,ta,tn,tm,tu,te⟩ (w1.alloc (.cells #[.string (bs tt),.int .i64 (ta:Nat),.bool tn,.bool tm,.int .i64 (tu:Nat),.int .i64 (te:Nat)] 104))):=tokL_new H.out hb1 _
 clear hbW hb1
 clear hat
 go_wp2_with fail
 generalize w1.alloc (.cells #[.string (bs tt),.int .i64 (ta:Nat),.bool tn,.bool tm,.int .i64 (tu:Nat),.int .i64 (te:Nat)] 104)=W at HW FW HLW ⊢
 generalize w1.heap.size=L at HLW ⊢
 refine (is_any B b g T tv iv s nv Mil.wNot _ HW.out).mono ?_
 rintro r w2 ⟨rfl,hb2⟩
 rw [hi]
 have H2:Hid (RM B b g T tv iv s nv w2):=(HW.out).below hb2
 have F2:Hid (Fr b g W nv w2 nv):=Fr.of_below hb2
 clear hb2
 clear hi
 have d3:=(H2.out).cells.2.1
 have z3:=(H2.out).cells.2.2.2.2.2.2.2.1
 have l3:=(H2.out).lt
 have H3:Hid (RM B b g T tv iv (Ref.up s) nv (w2.setCell ⟨b,1,none⟩ (.int .i64 ((s.p:Int)+1)))):=((H2.out).setP HU.out).1
 have F3:Hid (Fr b g W nv (w2.setCell ⟨b,1,none⟩ (.int .i64 ((s.p:Int)+1))) nv):=F2.out.trans (((H2.out).setP HU.out).2)
 go_wp2_with fail
 refine (IH.out (Ref.up s) (by have:=HU.out;show T.length - (s.p+1) < T.length - s.p;omega) nv _ (H3.out) (by show s.ns.length≤2*(s.p+1);have:=HN.out;omega)).mono ?_
 rintro r w4 ⟨⟨i4,s4⟩,g4,rfl,n4,m4,f4⟩
 have G4:=hid g4
 have H4:=hid m4
 have F4:=hid (F3.out.trans (f4))
 have P4:Hid (Ref.Paid s s4 2):=((Ref.Paid.up s)).by g4.pays
 clear g4 m4 f4
 obtain ⟨y0,y1,y2,y3,y4,y5⟩:=HLW.out.cells (F4.out)
 go_wp2_with fail
 refine (node_any B b g T tv iv s4 n4 ⟨4,Mil.wNot,ta,0,false,i4,0,0⟩ _ (H4.out) (by have:=(P4.out).2;have:=HN.out;have:=(H4.out).lt;omega)).mono ?_
 rintro r w5 ⟨rfl,n5,m5,f5⟩
 have H5:=hid m5
 have F5:=hid (F4.out.trans (f5))
 clear m5 f5
 go_wp2
 go_ret
 have R:=Ref.rx_not HI.out G4.out
 rw [HNOW.out] at R
 exact ⟨_,R,rfl,_,H5.out,FW.out.trans F5.out⟩
set_option maxRecDepth 100000 in
theorem side3_no (B b g:Nat) (T:List Ref.Tk) (tv iv:Value) (s:Ref.Rs) (io:OC B b g T tv iv 4 s) (hi:Ref.is T Mil.wNot s=false):OC B b g T tv iv 3 s:=by
 intro nv w h hn
 have H:=hid h
 have HN:=hid hn
 have IO1:=hid io
 have HI:=hid hi
 have hat:(Ref.now T s).at_=(Ref.now T s).at_:=rfl
 clear h hn io
 go_enter Tryz.func131,Tryz.ntmps131
 go_wp2_with fail
 refine (now_any B b g T tv iv s nv _ H.out).mono ?_
 rintro r w1 ⟨rfl,hb1⟩
 generalize hnow:Ref.now T s=t at hat ⊢
 obtain ⟨tt,ta,tn,tm,tu,te⟩:=t
 have hvv:Ref.tokV ⟨tt,ta,tn,tm,tu,te⟩=.agg #[.string (bs tt),.int .i64 (ta:Nat),.bool tn,.bool tm,.int .i64 (tu:Nat),.int .i64 (te:Nat)]:=rfl
 rw [hvv]
 clear hvv
 have HNOW:=hid hnow
 clear hnow
 have hbW:Below w.heap.size w (w1.alloc (.cells #[.string (bs tt),.int .i64 (ta:Nat),.bool tn,.bool tm,.int .i64 (tu:Nat),.int .i64 (te:Nat)] 104)):=hb1.alloc hb1.size _
 have HW:=hid (H.out.below hbW)
 have FW:Hid (Fr b g w nv (w1.alloc (.cells #[.string (bs tt),.int .i64 (ta:Nat),.bool tn,.bool tm,.int .i64 (tu:Nat),.int .i64 (te:Nat)] 104)) nv):=Fr.of_below hbW
 have HLW:Hid (TokL b g nv w1.heap.size ⟨tt,ta,tn,tm,tu,te⟩ (w1.alloc (.cells #[.string (bs tt),.int .i64 (ta:Nat),.bool tn,.bool tm,.int .i64 (tu:Nat),.int .i64 (te:Nat)] 104))):=tokL_new H.out hb1 _
 clear hbW hb1
 clear hat
 go_wp2_with fail
 generalize w1.alloc (.cells #[.string (bs tt),.int .i64 (ta:Nat),.bool tn,.bool tm,.int .i64 (tu:Nat),.int .i64 (te:Nat)] 104)=W at HW FW HLW ⊢
 generalize w1.heap.size=L at HLW ⊢
 refine (is_any B b g T tv iv s nv Mil.wNot _ HW.out).mono ?_
 rintro r w2 ⟨rfl,hb2⟩
 rw [hi]
 have H2:Hid (RM B b g T tv iv s nv w2):=(HW.out).below hb2
 have F2:Hid (Fr b g W nv w2 nv):=Fr.of_below hb2
 clear hb2
 clear hi
 go_wp2_with fail
 refine (IO1.out nv _ (H2.out) HN.out).mono ?_
 rintro r w3 ⟨⟨i3,s3⟩,g3,rfl,n3,m3,f3⟩
 have G3:=hid g3
 have H3:=hid m3
 have F3:=hid (F2.out.trans (f3))
 have P3:Hid (Ref.Paid s s3 0):=((Ref.Paid.start s)).by g3.pays
 clear g3 m3 f3
 go_wp2
 go_ret
 exact ⟨_,Ref.rx_nonot HI.out G3.out,rfl,_,H3.out,FW.out.trans F3.out⟩
end
end Go.Proofs.YtoiajojadihpbaaGreatDoor
