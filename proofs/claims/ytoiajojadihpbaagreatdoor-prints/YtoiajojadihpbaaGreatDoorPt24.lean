import Derived.Test.YtoiajojadihpbaaGreatDoorPt23
namespace Go.Proofs.YtoiajojadihpbaaGreatDoor
set_option maxHeartbeats 8000000
section
open Go.RowKit
namespace Ref
open Mil
theorem ratom_at {T:List Tk} {f:Nat→Nat→Rs→Option (Nat×Rs)} {s:Rs} {x:Bytes} {ta tu:Nat} (c0:s.fe=0) (hnow:now T s=⟨x,ta,false,false,tu,0⟩) :
  ratom T f s=(if x=wTrue∨x=wFalse then some (rconst T s)
   else if x=sOpen then (f 0 0 (up s)).map fun x=>(x.1,take T sShut x.2)
   else if x=wFby then (f 0 0 (take T sComma (rconst T (take T sOpen (up s))).2)).map fun x=>node ⟨7,wFby,ta,0,false,(rconst T (take T sOpen (up s))).1,x.1,0⟩ (take T sShut x.2)
   else if x=wHold then (f 0 0 (take T sComma (rconst T (take T sOpen (up s))).2)).map fun x=>
    node ⟨9,wHold,ta,(rnumber T 2 1000 (take T sComma x.2)).1,false,(rconst T (take T sOpen (up s))).1,x.1,0⟩ (take T sShut (rnumber T 2 1000 (take T sComma x.2)).2)
   else if x=wUnder then (f 0 0 (take T sOpen (up s))).map fun x=>node ⟨8,wUnder,ta,(rnumber T 2 1000 (take T sComma x.2)).1,false,x.1,0,0⟩ (take T sShut (rnumber T 2 1000 (take T sComma x.2)).2)
   else if x=wMin∨x=wMax then (f 0 0 (take T sOpen (up s))).bind fun y=>(f 0 0 (take T sComma y.2)).map fun z=>node ⟨10,x,ta,0,false,y.1,z.1,0⟩ (take T sShut z.2)
   else some (0,fail T 3 s)):=by
 unfold ratom
 rw [hnow,if_neg (fun h=>h c0),if_neg (by simp),if_neg (by simp),if_neg (by simp)]
theorem rx_const {T:List Tk} {s:Rs} {x:Bytes} {ta tu:Nat} (c0:s.fe=0) (hnow:now T s=⟨x,ta,false,false,tu,0⟩) (hx:x=wTrue∨x=wFalse):Rx T 8 0 s (rconst T s):=
 rx_atom0 fun f=>by rw [ratom_at c0 hnow,if_pos hx]
theorem rx_open {T:List Tk} {s:Rs} {ta tu:Nat} (c0:s.fe=0) (hnow:now T s=⟨sOpen,ta,false,false,tu,0⟩) {y:Nat×Rs} (h:Rx T 0 0 (up s) y):Rx T 8 0 s (y.1,take T sShut y.2):=by
 obtain ⟨n,h⟩:=h
 exact rx_atom (n:=n) (by rw [ratom_at c0 hnow,if_neg (by decide),if_pos rfl,h];rfl)
theorem rx_fby {T:List Tk} {s:Rs} {ta tu:Nat} (c0:s.fe=0) (hnow:now T s=⟨wFby,ta,false,false,tu,0⟩) {y:Nat×Rs} (h:Rx T 0 0 (take T sComma (rconst T (take T sOpen (up s))).2) y):Rx T 8 0 s (node ⟨7,wFby,ta,0,false,(rconst T (take T sOpen (up s))).1,y.1,0⟩ (take T sShut y.2)):=by
 obtain ⟨n,h⟩:=h
 exact rx_atom (n:=n) (by rw [ratom_at c0 hnow,if_neg (by decide),if_neg (by decide),if_pos rfl,h];rfl)
theorem rx_hold {T:List Tk} {s:Rs} {ta tu:Nat} (c0:s.fe=0) (hnow:now T s=⟨wHold,ta,false,false,tu,0⟩) {y:Nat×Rs} (h:Rx T 0 0 (take T sComma (rconst T (take T sOpen (up s))).2) y) :
  Rx T 8 0 s (node ⟨9,wHold,ta,(rnumber T 2 1000 (take T sComma y.2)).1,false,(rconst T (take T sOpen (up s))).1,y.1,0⟩ (take T sShut (rnumber T 2 1000 (take T sComma y.2)).2)):=by
 obtain ⟨n,h⟩:=h
 exact rx_atom (n:=n) (by rw [ratom_at c0 hnow,if_neg (by decide),if_neg (by decide),if_neg (by decide),if_pos rfl,h];rfl)
theorem rx_under {T:List Tk} {s:Rs} {ta tu:Nat} (c0:s.fe=0) (hnow:now T s=⟨wUnder,ta,false,false,tu,0⟩) {y:Nat×Rs} (h:Rx T 0 0 (take T sOpen (up s)) y) :
  Rx T 8 0 s (node ⟨8,wUnder,ta,(rnumber T 2 1000 (take T sComma y.2)).1,false,y.1,0,0⟩ (take T sShut (rnumber T 2 1000 (take T sComma y.2)).2)):=by
 obtain ⟨n,h⟩:=h
 exact rx_atom (n:=n) (by rw [ratom_at c0 hnow,if_neg (by decide),if_neg (by decide),if_neg (by decide),if_neg (by decide),if_pos rfl,h];rfl)
theorem rx_least {T:List Tk} {s:Rs} {x:Bytes} {ta tu:Nat} (c0:s.fe=0) (hx:x=wMin∨x=wMax) (hnow:now T s=⟨x,ta,false,false,tu,0⟩) {y z:Nat×Rs} (h:Rx T 0 0 (take T sOpen (up s)) y) (k:Rx T 0 0 (take T sComma y.2) z) :
  Rx T 8 0 s (node ⟨10,x,ta,0,false,y.1,z.1,0⟩ (take T sShut z.2)):=by
 obtain ⟨n,h1,h2⟩:=h.two k
 refine rx_atom (n:=n) ?_
 rw [ratom_at c0 hnow]
 rcases hx with rfl | rfl
 ·rw [if_neg (by decide),if_neg (by decide),if_neg (by decide),if_neg (by decide),if_neg (by decide),if_pos (Or.inl rfl),h1,Option.bind_some,h2];rfl
 ·rw [if_neg (by decide),if_neg (by decide),if_neg (by decide),if_neg (by decide),if_neg (by decide),if_pos (Or.inr rfl),h1,Option.bind_some,h2];rfl
theorem rx_other {T:List Tk} {s:Rs} {x:Bytes} {ta tu:Nat} (c0:s.fe=0) (hnow:now T s=⟨x,ta,false,false,tu,0⟩) (h1:¬(x=wTrue∨x=wFalse)) (h2:x≠sOpen) (h3:x≠wFby) (h4:x≠wHold) (h5:x≠wUnder) (h6:¬(x=wMin∨x=wMax)):Rx T 8 0 s (0,fail T 3 s):=
 rx_atom0 fun f=>by rw [ratom_at c0 hnow,if_neg h1,if_neg h2,if_neg h3,if_neg h4,if_neg h5,if_neg h6]
theorem rx_failed {T:List Tk} {s:Rs} (c0:s.fe≠0):Rx T 8 0 s (0,s):=rx_atom0 fun f=>by unfold ratom;rw [if_pos c0]
theorem rx_num {T:List Tk} {s:Rs} {t:Tk} (c0:s.fe=0) (hnow:now T s=t) (c1:t.e=0) (c2:t.number=true):Rx T 8 0 s (node ⟨1,[],t.at_,t.v,false,0,0,0⟩ (up s)):=rx_atom0 fun f=>by unfold ratom;rw [if_neg (fun h=>h c0),hnow,if_pos ⟨c1,c2⟩]
theorem rx_name {T:List Tk} {s:Rs} {t:Tk} (c0:s.fe=0) (hnow:now T s=t) (c1:t.e=0) (c2:t.number=false) (c3:t.name=true):Rx T 8 0 s (node ⟨3,t.t,t.at_,0,false,0,0,0⟩ (up s)):=rx_atom0 fun f=>by unfold ratom;rw [if_neg (fun h=>h c0),hnow,if_neg (by rw [c2];simp),if_pos ⟨c1,c3⟩]
theorem rx_none {T:List Tk} {s:Rs} {t:Tk} (c0:s.fe=0) (hnow:now T s=t) (c1:t.e≠0):Rx T 8 0 s (0,fail T 3 s):=rx_atom0 fun f=>by unfold ratom;rw [if_neg (fun h=>h c0),hnow,if_neg (fun h=>c1 h.1),if_neg (fun h=>c1 h.1),if_pos c1]
end Ref
set_option maxRecDepth 100000 in
theorem atom_sOpen (B b g:Nat) (T:List Ref.Tk) (tv iv:Value) (hs:T.length≤4001) (s:Ref.Rs) (ih:∀t:Ref.Rs,T.length - t.p < T.length - s.p→EC B b g T tv iv t)  (ta tu:Nat) (c0:s.fe=0) (hnow:Ref.now T s=⟨Mil.sOpen,ta,false,false,tu,0⟩):AC B b g T tv iv s:=by
 intro nv w h hn
 have H:=hid h
 have HN:=hid hn
 have IH:=hid ih
 have HNOW:=hid hnow
 have C0:=hid c0
 have b0:((s.fe:Int) != 0)=false:=by simp;omega
 have HU:Hid (s.p+1 < T.length):=by have:=h.nowWf;rw [hnow] at this;exact this.1 rfl (show Mil.sOpen≠[] by decide)
 clear h hn c0 hnow ih
 have hx:(bs Mil.sOpen).toList=[40]:=by decide +kernel
 go_enter Tryz.func159,Tryz.ntmps159
 go_wp2_with fail
 refine (now_any B b g T tv iv s nv _ H.out).mono ?_
 rintro r w1 ⟨rfl,hb1⟩
 rw [HNOW.out]
 have hvv:Ref.tokV ⟨Mil.sOpen,ta,false,false,tu,0⟩=.agg #[.string (bs Mil.sOpen),.int .i64 (ta:Nat),.bool false,.bool false,.int .i64 (tu:Nat),.int .i64 (0)]:=rfl
 rw [hvv]
 clear hvv
 have hbW:Below w.heap.size w (w1.alloc (.cells #[.string (bs Mil.sOpen),.int .i64 (ta:Nat),.bool false,.bool false,.int .i64 (tu:Nat),.int .i64 (0)] 104)):=hb1.alloc hb1.size _
 have HW:=hid (H.out.below hbW)
 have FW:Hid (Fr b g w nv (w1.alloc (.cells #[.string (bs Mil.sOpen),.int .i64 (ta:Nat),.bool false,.bool false,.int .i64 (tu:Nat),.int .i64 (0)] 104)) nv):=Fr.of_below hbW
 have HLW:Hid (TokL b g nv w1.heap.size ⟨Mil.sOpen,ta,false,false,tu,0⟩ (w1.alloc (.cells #[.string (bs Mil.sOpen),.int .i64 (ta:Nat),.bool false,.bool false,.int .i64 (tu:Nat),.int .i64 (0)] 104))):=tokL_new H.out hb1 _
 have hw1:w.heap.size≤w1.heap.size:=hb1.size
 clear hbW hb1
 have d3:=HW.out.cells.2.2.2.1
 have d102:=HW.out.cells.2.1
 have z102:=HW.out.cells.2.2.2.2.2.2.2.1
 have l102:=HW.out.lt
 go_wp2_with fail
 have HW2:=HW.out
 have HLW2:=HLW.out
 clear d3 d102 z102 hw1
 generalize (w1.alloc (.cells #[.string (bs Mil.sOpen),.int .i64 (ta:Nat),.bool false,.bool false,.int .i64 (tu:Nat),.int .i64 (0)] 104))=W at HW FW HLW HW2 HLW2 ⊢
 generalize w1.heap.size=L at HLW HLW2 ⊢
 have H2:Hid (RM B b g T tv iv (Ref.up s) nv (W.setCell ⟨b,1,none⟩ (.int .i64 ((s.p:Int)+1)))):=(HW.out.setP HU.out).1
 have F2:Hid (Fr b g W nv (W.setCell ⟨b,1,none⟩ (.int .i64 ((s.p:Int)+1))) nv):=(HW.out.setP HU.out).2
 clear HW2 HLW2
 refine (IH.out (Ref.up s) (by have:=((Ref.Paid.up s)).1;have:=(H2.out).lt;have h1:s.p+1≤(Ref.up s).p:=(by have h2:(Ref.up s).p≤(Ref.up s).p:=(Ref.Pays.refl (Ref.up s)).1;have h3:(Ref.up s).p=s.p+1:=rfl;omega);omega) nv _ (H2.out) (by have:=((Ref.Paid.up s)).2;have:=HN.out;omega)).mono ?_
 rintro r w3 ⟨⟨i3,s3⟩,g3,rfl,n3,m3,f3⟩
 have G3:=hid g3
 have H3:=hid m3
 have F3:=hid (F2.out.trans (f3))
 have P3:Hid (Ref.Paid s s3 2):=((Ref.Paid.up s)).by g3.pays
 clear g3 m3 f3
 have Q3:Hid (Ref.Pays (Ref.up s) s3):=(Ref.Pays.refl (Ref.up s)).trans G3.out.pays
 go_wp2_with fail
 refine (take_any B b g T tv iv s3 n3 Mil.sShut (by decide) _ (H3.out) hs).mono ?_
 rintro r w4 ⟨rfl,m4,f4⟩
 have p4:=(P3.out).take T Mil.sShut
 generalize he4:Ref.take T Mil.sShut s3=s4 at m4 p4
 have E4:=hid he4
 have H4:=hid m4
 have F4:=hid (F3.out.trans (f4))
 have P4:=hid p4
 clear m4 f4 p4 he4
 have Q4:Hid (Ref.Pays (Ref.up s) s4):=by rw [←E4.out];exact (Q3.out).trans (Ref.pays_take T _ _)
 go_wp2
 go_ret
 have R:=Ref.rx_open C0.out HNOW.out G3.out
 simp only [E4.out] at R
 exact ⟨_,R,rfl,_,H4.out,FW.out.trans F4.out⟩
set_option maxRecDepth 100000 in
theorem atom_wUnder (B b g:Nat) (T:List Ref.Tk) (tv iv:Value) (hs:T.length≤4001) (s:Ref.Rs) (ih:∀t:Ref.Rs,T.length - t.p < T.length - s.p→EC B b g T tv iv t)  (ta tu:Nat) (c0:s.fe=0) (hnow:Ref.now T s=⟨Mil.wUnder,ta,false,false,tu,0⟩):AC B b g T tv iv s:=by
 intro nv w h hn
 have H:=hid h
 have HN:=hid hn
 have IH:=hid ih
 have HNOW:=hid hnow
 have C0:=hid c0
 have b0:((s.fe:Int) != 0)=false:=by simp;omega
 have HU:Hid (s.p+1 < T.length):=by have:=h.nowWf;rw [hnow] at this;exact this.1 rfl (show Mil.wUnder≠[] by decide)
 clear h hn c0 hnow ih
 have hx:(bs Mil.wUnder).toList=[117,110,100,101,114]:=by decide +kernel
 go_enter Tryz.func159,Tryz.ntmps159
 go_wp2_with fail
 refine (now_any B b g T tv iv s nv _ H.out).mono ?_
 rintro r w1 ⟨rfl,hb1⟩
 rw [HNOW.out]
 have hvv:Ref.tokV ⟨Mil.wUnder,ta,false,false,tu,0⟩=.agg #[.string (bs Mil.wUnder),.int .i64 (ta:Nat),.bool false,.bool false,.int .i64 (tu:Nat),.int .i64 (0)]:=rfl
 rw [hvv]
 clear hvv
 have hbW:Below w.heap.size w (w1.alloc (.cells #[.string (bs Mil.wUnder),.int .i64 (ta:Nat),.bool false,.bool false,.int .i64 (tu:Nat),.int .i64 (0)] 104)):=hb1.alloc hb1.size _
 have HW:=hid (H.out.below hbW)
 have FW:Hid (Fr b g w nv (w1.alloc (.cells #[.string (bs Mil.wUnder),.int .i64 (ta:Nat),.bool false,.bool false,.int .i64 (tu:Nat),.int .i64 (0)] 104)) nv):=Fr.of_below hbW
 have HLW:Hid (TokL b g nv w1.heap.size ⟨Mil.wUnder,ta,false,false,tu,0⟩ (w1.alloc (.cells #[.string (bs Mil.wUnder),.int .i64 (ta:Nat),.bool false,.bool false,.int .i64 (tu:Nat),.int .i64 (0)] 104))):=tokL_new H.out hb1 _
 have hw1:w.heap.size≤w1.heap.size:=hb1.size
 clear hbW hb1
 have d3:=HW.out.cells.2.2.2.1
 have d102:=HW.out.cells.2.1
 have z102:=HW.out.cells.2.2.2.2.2.2.2.1
 have l102:=HW.out.lt
 go_wp2_with fail
 have HW2:=HW.out
 have HLW2:=HLW.out
 clear d3 d102 z102 hw1
 generalize (w1.alloc (.cells #[.string (bs Mil.wUnder),.int .i64 (ta:Nat),.bool false,.bool false,.int .i64 (tu:Nat),.int .i64 (0)] 104))=W at HW FW HLW HW2 HLW2 ⊢
 generalize w1.heap.size=L at HLW HLW2 ⊢
 have H2:Hid (RM B b g T tv iv (Ref.up s) nv (W.setCell ⟨b,1,none⟩ (.int .i64 ((s.p:Int)+1)))):=(HW.out.setP HU.out).1
 have F2:Hid (Fr b g W nv (W.setCell ⟨b,1,none⟩ (.int .i64 ((s.p:Int)+1))) nv):=(HW.out.setP HU.out).2
 clear HW2 HLW2
 refine (take_any B b g T tv iv (Ref.up s) nv Mil.sOpen (by decide) _ (H2.out) hs).mono ?_
 rintro r w3 ⟨rfl,m3,f3⟩
 have p3:=((Ref.Paid.up s)).take T Mil.sOpen
 generalize he3:Ref.take T Mil.sOpen (Ref.up s)=s3 at m3 p3
 have E3:=hid he3
 have H3:=hid m3
 have F3:=hid (F2.out.trans (f3))
 have P3:=hid p3
 clear m3 f3 p3 he3
 have Q3:Hid (Ref.Pays (Ref.up s) s3):=by rw [←E3.out];exact (Ref.Pays.refl (Ref.up s)).trans (Ref.pays_take T _ _)
 go_wp2_with fail
 refine (IH.out s3 (by have:=(P3.out).1;have:=(H3.out).lt;have h1:s.p+1≤s3.p:=(by have h2:(Ref.up s).p≤s3.p:=(Q3.out).1;have h3:(Ref.up s).p=s.p+1:=rfl;omega);omega) nv _ (H3.out) (by have:=(P3.out).2;have:=HN.out;omega)).mono ?_
 rintro r w4 ⟨⟨i4,s4⟩,g4,rfl,n4,m4,f4⟩
 have G4:=hid g4
 have H4:=hid m4
 have F4:=hid (F3.out.trans (f4))
 have P4:Hid (Ref.Paid s s4 2):=(P3.out).by g4.pays
 clear g4 m4 f4
 have Q4:Hid (Ref.Pays (Ref.up s) s4):=(Q3.out).trans G4.out.pays
 go_wp2_with fail
 refine (take_any B b g T tv iv s4 n4 Mil.sComma (by decide) _ (H4.out) hs).mono ?_
 rintro r w5 ⟨rfl,m5,f5⟩
 have p5:=(P4.out).take T Mil.sComma
 generalize he5:Ref.take T Mil.sComma s4=s5 at m5 p5
 have E5:=hid he5
 have H5:=hid m5
 have F5:=hid (F4.out.trans (f5))
 have P5:=hid p5
 clear m5 f5 p5 he5
 go_wp2_with fail
 refine (rnumber_any B b g T tv iv s5 n4 2 1000 _ (H5.out) hs).mono ?_
 rintro r w6 ⟨rfl,m6,f6⟩
 have p6:=(P5.out).number T 2 1000
 generalize hc6:Ref.rnumber T 2 1000 s5=x6 at m6 p6 ⊢
 obtain ⟨i6,s6⟩:=x6
 have C6:=hid hc6
 have H6:=hid m6
 have F6:=hid (F5.out.trans (f6))
 have P6:=hid p6
 clear m6 f6 p6 hc6
 go_wp2_with fail
 refine (take_any B b g T tv iv s6 n4 Mil.sShut (by decide) _ (H6.out) hs).mono ?_
 rintro r w7 ⟨rfl,m7,f7⟩
 have p7:=(P6.out).take T Mil.sShut
 generalize he7:Ref.take T Mil.sShut s6=s7 at m7 p7
 have E7:=hid he7
 have H7:=hid m7
 have F7:=hid (F6.out.trans (f7))
 have P7:=hid p7
 clear m7 f7 p7 he7
 obtain ⟨y0,y1,y2,y3,y4,y5⟩:=HLW.out.cells (F7.out)
 go_wp2_with fail
 refine (node_any B b g T tv iv s7 n4 ⟨8,Mil.wUnder,ta,i6,false,i4,0,0⟩ _ (H7.out) (by have:=(P7.out).2;have:=HN.out;have:=(H7.out).lt;omega)).mono ?_
 rintro r w8 ⟨rfl,n8,m8,f8⟩
 have H8:=hid m8
 have F8:=hid (F7.out.trans (f8))
 clear m8 f8
 go_wp2
 go_ret
 have R:=Ref.rx_under C0.out HNOW.out (y:=(i4,s4)) (by rw [E3.out];exact G4.out)
 simp only [E5.out,C6.out,E7.out] at R
 exact ⟨_,R,rfl,_,H8.out,FW.out.trans F8.out⟩
set_option maxRecDepth 100000 in
theorem atom_wMin (B b g:Nat) (T:List Ref.Tk) (tv iv:Value) (hs:T.length≤4001) (s:Ref.Rs) (ih:∀t:Ref.Rs,T.length - t.p < T.length - s.p→EC B b g T tv iv t)  (ta tu:Nat) (c0:s.fe=0) (hnow:Ref.now T s=⟨Mil.wMin,ta,false,false,tu,0⟩):AC B b g T tv iv s:=by
 intro nv w h hn
 have H:=hid h
 have HN:=hid hn
 have IH:=hid ih
 have HNOW:=hid hnow
 have C0:=hid c0
 have b0:((s.fe:Int) != 0)=false:=by simp;omega
 have HU:Hid (s.p+1 < T.length):=by have:=h.nowWf;rw [hnow] at this;exact this.1 rfl (show Mil.wMin≠[] by decide)
 clear h hn c0 hnow ih
 have hx:(bs Mil.wMin).toList=[109,105,110]:=by decide +kernel
 go_enter Tryz.func159,Tryz.ntmps159
 go_wp2_with fail
 refine (now_any B b g T tv iv s nv _ H.out).mono ?_
 rintro r w1 ⟨rfl,hb1⟩
 rw [HNOW.out]
 have hvv:Ref.tokV ⟨Mil.wMin,ta,false,false,tu,0⟩=.agg #[.string (bs Mil.wMin),.int .i64 (ta:Nat),.bool false,.bool false,.int .i64 (tu:Nat),.int .i64 (0)]:=rfl
 rw [hvv]
 clear hvv
 have hbW:Below w.heap.size w (w1.alloc (.cells #[.string (bs Mil.wMin),.int .i64 (ta:Nat),.bool false,.bool false,.int .i64 (tu:Nat),.int .i64 (0)] 104)):=hb1.alloc hb1.size _
 have HW:=hid (H.out.below hbW)
 have FW:Hid (Fr b g w nv (w1.alloc (.cells #[.string (bs Mil.wMin),.int .i64 (ta:Nat),.bool false,.bool false,.int .i64 (tu:Nat),.int .i64 (0)] 104)) nv):=Fr.of_below hbW
 have HLW:Hid (TokL b g nv w1.heap.size ⟨Mil.wMin,ta,false,false,tu,0⟩ (w1.alloc (.cells #[.string (bs Mil.wMin),.int .i64 (ta:Nat),.bool false,.bool false,.int .i64 (tu:Nat),.int .i64 (0)] 104))):=tokL_new H.out hb1 _
 have hw1:w.heap.size≤w1.heap.size:=hb1.size
 clear hbW hb1
 have d3:=HW.out.cells.2.2.2.1
 have d102:=HW.out.cells.2.1
 have z102:=HW.out.cells.2.2.2.2.2.2.2.1
 have l102:=HW.out.lt
 go_wp2_with fail
 have HW2:=HW.out
 have HLW2:=HLW.out
 clear d3 d102 z102 hw1
 generalize (w1.alloc (.cells #[.string (bs Mil.wMin),.int .i64 (ta:Nat),.bool false,.bool false,.int .i64 (tu:Nat),.int .i64 (0)] 104))=W at HW FW HLW HW2 HLW2 ⊢
 generalize w1.heap.size=L at HLW HLW2 ⊢
 have H2:Hid (RM B b g T tv iv (Ref.up s) nv (W.setCell ⟨b,1,none⟩ (.int .i64 ((s.p:Int)+1)))):=(HW.out.setP HU.out).1
 have F2:Hid (Fr b g W nv (W.setCell ⟨b,1,none⟩ (.int .i64 ((s.p:Int)+1))) nv):=(HW.out.setP HU.out).2
 clear HW2 HLW2
 refine (take_any B b g T tv iv (Ref.up s) nv Mil.sOpen (by decide) _ (H2.out) hs).mono ?_
 rintro r w3 ⟨rfl,m3,f3⟩
 have p3:=((Ref.Paid.up s)).take T Mil.sOpen
 generalize he3:Ref.take T Mil.sOpen (Ref.up s)=s3 at m3 p3
 have E3:=hid he3
 have H3:=hid m3
 have F3:=hid (F2.out.trans (f3))
 have P3:=hid p3
 clear m3 f3 p3 he3
 have Q3:Hid (Ref.Pays (Ref.up s) s3):=by rw [←E3.out];exact (Ref.Pays.refl (Ref.up s)).trans (Ref.pays_take T _ _)
 go_wp2_with fail
 refine (IH.out s3 (by have:=(P3.out).1;have:=(H3.out).lt;have h1:s.p+1≤s3.p:=(by have h2:(Ref.up s).p≤s3.p:=(Q3.out).1;have h3:(Ref.up s).p=s.p+1:=rfl;omega);omega) nv _ (H3.out) (by have:=(P3.out).2;have:=HN.out;omega)).mono ?_
 rintro r w4 ⟨⟨i4,s4⟩,g4,rfl,n4,m4,f4⟩
 have G4:=hid g4
 have H4:=hid m4
 have F4:=hid (F3.out.trans (f4))
 have P4:Hid (Ref.Paid s s4 2):=(P3.out).by g4.pays
 clear g4 m4 f4
 have Q4:Hid (Ref.Pays (Ref.up s) s4):=(Q3.out).trans G4.out.pays
 go_wp2_with fail
 refine (take_any B b g T tv iv s4 n4 Mil.sComma (by decide) _ (H4.out) hs).mono ?_
 rintro r w5 ⟨rfl,m5,f5⟩
 have p5:=(P4.out).take T Mil.sComma
 generalize he5:Ref.take T Mil.sComma s4=s5 at m5 p5
 have E5:=hid he5
 have H5:=hid m5
 have F5:=hid (F4.out.trans (f5))
 have P5:=hid p5
 clear m5 f5 p5 he5
 have Q5:Hid (Ref.Pays (Ref.up s) s5):=by rw [←E5.out];exact (Q4.out).trans (Ref.pays_take T _ _)
 go_wp2_with fail
 refine (IH.out s5 (by have:=(P5.out).1;have:=(H5.out).lt;have h1:s.p+1≤s5.p:=(by have h2:(Ref.up s).p≤s5.p:=(Q5.out).1;have h3:(Ref.up s).p=s.p+1:=rfl;omega);omega) n4 _ (H5.out) (by have:=(P5.out).2;have:=HN.out;omega)).mono ?_
 rintro r w6 ⟨⟨i6,s6⟩,g6,rfl,n6,m6,f6⟩
 have G6:=hid g6
 have H6:=hid m6
 have F6:=hid (F5.out.trans (f6))
 have P6:Hid (Ref.Paid s s6 2):=(P5.out).by g6.pays
 clear g6 m6 f6
 have Q6:Hid (Ref.Pays (Ref.up s) s6):=(Q5.out).trans G6.out.pays
 go_wp2_with fail
 refine (take_any B b g T tv iv s6 n6 Mil.sShut (by decide) _ (H6.out) hs).mono ?_
 rintro r w7 ⟨rfl,m7,f7⟩
 have p7:=(P6.out).take T Mil.sShut
 generalize he7:Ref.take T Mil.sShut s6=s7 at m7 p7
 have E7:=hid he7
 have H7:=hid m7
 have F7:=hid (F6.out.trans (f7))
 have P7:=hid p7
 clear m7 f7 p7 he7
 obtain ⟨y0,y1,y2,y3,y4,y5⟩:=HLW.out.cells (F7.out)
 go_wp2_with fail
 refine (node_any B b g T tv iv s7 n6 ⟨10,Mil.wMin,ta,0,false,i4,i6,0⟩ _ (H7.out) (by have:=(P7.out).2;have:=HN.out;have:=(H7.out).lt;omega)).mono ?_
 rintro r w8 ⟨rfl,n8,m8,f8⟩
 have H8:=hid m8
 have F8:=hid (F7.out.trans (f8))
 clear m8 f8
 go_wp2
 go_ret
 have R:=Ref.rx_least C0.out (by first | exact Or.inl rfl | exact Or.inr rfl) HNOW.out (y:=(i4,s4)) (z:=(i6,s6)) (by rw [E3.out];exact G4.out) (by simp only [E5.out];exact G6.out)
 simp only [E7.out] at R
 exact ⟨_,R,rfl,_,H8.out,FW.out.trans F8.out⟩
set_option maxRecDepth 100000 in
theorem atom_wMax (B b g:Nat) (T:List Ref.Tk) (tv iv:Value) (hs:T.length≤4001) (s:Ref.Rs) (ih:∀t:Ref.Rs,T.length - t.p < T.length - s.p→EC B b g T tv iv t)  (ta tu:Nat) (c0:s.fe=0) (hnow:Ref.now T s=⟨Mil.wMax,ta,false,false,tu,0⟩):AC B b g T tv iv s:=by
 intro nv w h hn
 have H:=hid h
 have HN:=hid hn
 have IH:=hid ih
 have HNOW:=hid hnow
 have C0:=hid c0
 have b0:((s.fe:Int) != 0)=false:=by simp;omega
 have HU:Hid (s.p+1 < T.length):=by have:=h.nowWf;rw [hnow] at this;exact this.1 rfl (show Mil.wMax≠[] by decide)
 clear h hn c0 hnow ih
 have hx:(bs Mil.wMax).toList=[109,97,120]:=by decide +kernel
 go_enter Tryz.func159,Tryz.ntmps159
 go_wp2_with fail
 refine (now_any B b g T tv iv s nv _ H.out).mono ?_
 rintro r w1 ⟨rfl,hb1⟩
 rw [HNOW.out]
 have hvv:Ref.tokV ⟨Mil.wMax,ta,false,false,tu,0⟩=.agg #[.string (bs Mil.wMax),.int .i64 (ta:Nat),.bool false,.bool false,.int .i64 (tu:Nat),.int .i64 (0)]:=rfl
 rw [hvv]
 clear hvv
 have hbW:Below w.heap.size w (w1.alloc (.cells #[.string (bs Mil.wMax),.int .i64 (ta:Nat),.bool false,.bool false,.int .i64 (tu:Nat),.int .i64 (0)] 104)):=hb1.alloc hb1.size _
 have HW:=hid (H.out.below hbW)
 have FW:Hid (Fr b g w nv (w1.alloc (.cells #[.string (bs Mil.wMax),.int .i64 (ta:Nat),.bool false,.bool false,.int .i64 (tu:Nat),.int .i64 (0)] 104)) nv):=Fr.of_below hbW
 have HLW:Hid (TokL b g nv w1.heap.size ⟨Mil.wMax,ta,false,false,tu,0⟩ (w1.alloc (.cells #[.string (bs Mil.wMax),.int .i64 (ta:Nat),.bool false,.bool false,.int .i64 (tu:Nat),.int .i64 (0)] 104))):=tokL_new H.out hb1 _
 have hw1:w.heap.size≤w1.heap.size:=hb1.size
 clear hbW hb1
 have d3:=HW.out.cells.2.2.2.1
 have d102:=HW.out.cells.2.1
 have z102:=HW.out.cells.2.2.2.2.2.2.2.1
 have l102:=HW.out.lt
 go_wp2_with fail
 have HW2:=HW.out
 have HLW2:=HLW.out
 clear d3 d102 z102 hw1
 generalize (w1.alloc (.cells #[.string (bs Mil.wMax),.int .i64 (ta:Nat),.bool false,.bool false,.int .i64 (tu:Nat),.int .i64 (0)] 104))=W at HW FW HLW HW2 HLW2 ⊢
 generalize w1.heap.size=L at HLW HLW2 ⊢
 have H2:Hid (RM B b g T tv iv (Ref.up s) nv (W.setCell ⟨b,1,none⟩ (.int .i64 ((s.p:Int)+1)))):=(HW.out.setP HU.out).1
 have F2:Hid (Fr b g W nv (W.setCell ⟨b,1,none⟩ (.int .i64 ((s.p:Int)+1))) nv):=(HW.out.setP HU.out).2
 clear HW2 HLW2
 refine (take_any B b g T tv iv (Ref.up s) nv Mil.sOpen (by decide) _ (H2.out) hs).mono ?_
 rintro r w3 ⟨rfl,m3,f3⟩
 have p3:=((Ref.Paid.up s)).take T Mil.sOpen
 generalize he3:Ref.take T Mil.sOpen (Ref.up s)=s3 at m3 p3
 have E3:=hid he3
 have H3:=hid m3
 have F3:=hid (F2.out.trans (f3))
 have P3:=hid p3
 clear m3 f3 p3 he3
 have Q3:Hid (Ref.Pays (Ref.up s) s3):=by rw [←E3.out];exact (Ref.Pays.refl (Ref.up s)).trans (Ref.pays_take T _ _)
 go_wp2_with fail
 refine (IH.out s3 (by have:=(P3.out).1;have:=(H3.out).lt;have h1:s.p+1≤s3.p:=(by have h2:(Ref.up s).p≤s3.p:=(Q3.out).1;have h3:(Ref.up s).p=s.p+1:=rfl;omega);omega) nv _ (H3.out) (by have:=(P3.out).2;have:=HN.out;omega)).mono ?_
 rintro r w4 ⟨⟨i4,s4⟩,g4,rfl,n4,m4,f4⟩
 have G4:=hid g4
 have H4:=hid m4
 have F4:=hid (F3.out.trans (f4))
 have P4:Hid (Ref.Paid s s4 2):=(P3.out).by g4.pays
 clear g4 m4 f4
 have Q4:Hid (Ref.Pays (Ref.up s) s4):=(Q3.out).trans G4.out.pays
 go_wp2_with fail
 refine (take_any B b g T tv iv s4 n4 Mil.sComma (by decide) _ (H4.out) hs).mono ?_
 rintro r w5 ⟨rfl,m5,f5⟩
 have p5:=(P4.out).take T Mil.sComma
 generalize he5:Ref.take T Mil.sComma s4=s5 at m5 p5
 have E5:=hid he5
 have H5:=hid m5
 have F5:=hid (F4.out.trans (f5))
 have P5:=hid p5
 clear m5 f5 p5 he5
 have Q5:Hid (Ref.Pays (Ref.up s) s5):=by rw [←E5.out];exact (Q4.out).trans (Ref.pays_take T _ _)
 go_wp2_with fail
 refine (IH.out s5 (by have:=(P5.out).1;have:=(H5.out).lt;have h1:s.p+1≤s5.p:=(by have h2:(Ref.up s).p≤s5.p:=(Q5.out).1;have h3:(Ref.up s).p=s.p+1:=rfl;omega);omega) n4 _ (H5.out) (by have:=(P5.out).2;have:=HN.out;omega)).mono ?_
 rintro r w6 ⟨⟨i6,s6⟩,g6,rfl,n6,m6,f6⟩
 have G6:=hid g6
 have H6:=hid m6
 have F6:=hid (F5.out.trans (f6))
 have P6:Hid (Ref.Paid s s6 2):=(P5.out).by g6.pays
 clear g6 m6 f6
 have Q6:Hid (Ref.Pays (Ref.up s) s6):=(Q5.out).trans G6.out.pays
 go_wp2_with fail
 refine (take_any B b g T tv iv s6 n6 Mil.sShut (by decide) _ (H6.out) hs).mono ?_
 rintro r w7 ⟨rfl,m7,f7⟩
 have p7:=(P6.out).take T Mil.sShut
 generalize he7:Ref.take T Mil.sShut s6=s7 at m7 p7
 have E7:=hid he7
 have H7:=hid m7
 have F7:=hid (F6.out.trans (f7))
 have P7:=hid p7
 clear m7 f7 p7 he7
 obtain ⟨y0,y1,y2,y3,y4,y5⟩:=HLW.out.cells (F7.out)
 go_wp2_with fail
 refine (node_any B b g T tv iv s7 n6 ⟨10,Mil.wMax,ta,0,false,i4,i6,0⟩ _ (H7.out) (by have:=(P7.out).2;have:=HN.out;have:=(H7.out).lt;omega)).mono ?_
 rintro r w8 ⟨rfl,n8,m8,f8⟩
 have H8:=hid m8
 have F8:=hid (F7.out.trans (f8))
 clear m8 f8
 go_wp2
 go_ret
 have R:=Ref.rx_least C0.out (by first | exact Or.inl rfl | exact Or.inr rfl) HNOW.out (y:=(i4,s4)) (z:=(i6,s6)) (by rw [E3.out];exact G4.out) (by simp only [E5.out];exact G6.out)
 simp only [E7.out] at R
 exact ⟨_,R,rfl,_,H8.out,FW.out.trans F8.out⟩
set_option maxRecDepth 100000 in
theorem atom_wFby (B b g:Nat) (T:List Ref.Tk) (tv iv:Value) (hs:T.length≤4001) (s:Ref.Rs) (ih:∀t:Ref.Rs,T.length - t.p < T.length - s.p→EC B b g T tv iv t)  (ta tu:Nat) (c0:s.fe=0) (hnow:Ref.now T s=⟨Mil.wFby,ta,false,false,tu,0⟩):AC B b g T tv iv s:=by
 intro nv w h hn
 have H:=hid h
 have HN:=hid hn
 have IH:=hid ih
 have HNOW:=hid hnow
 have C0:=hid c0
 have b0:((s.fe:Int) != 0)=false:=by simp;omega
 have HU:Hid (s.p+1 < T.length):=by have:=h.nowWf;rw [hnow] at this;exact this.1 rfl (show Mil.wFby≠[] by decide)
 clear h hn c0 hnow ih
 have hx:(bs Mil.wFby).toList=[102,98,121]:=by decide +kernel
 go_enter Tryz.func159,Tryz.ntmps159
 go_wp2_with fail
 refine (now_any B b g T tv iv s nv _ H.out).mono ?_
 rintro r w1 ⟨rfl,hb1⟩
 rw [HNOW.out]
 have hvv:Ref.tokV ⟨Mil.wFby,ta,false,false,tu,0⟩=.agg #[.string (bs Mil.wFby),.int .i64 (ta:Nat),.bool false,.bool false,.int .i64 (tu:Nat),.int .i64 (0)]:=rfl
 rw [hvv]
 clear hvv
 have hbW:Below w.heap.size w (w1.alloc (.cells #[.string (bs Mil.wFby),.int .i64 (ta:Nat),.bool false,.bool false,.int .i64 (tu:Nat),.int .i64 (0)] 104)):=hb1.alloc hb1.size _
 have HW:=hid (H.out.below hbW)
 have FW:Hid (Fr b g w nv (w1.alloc (.cells #[.string (bs Mil.wFby),.int .i64 (ta:Nat),.bool false,.bool false,.int .i64 (tu:Nat),.int .i64 (0)] 104)) nv):=Fr.of_below hbW
 have HLW:Hid (TokL b g nv w1.heap.size ⟨Mil.wFby,ta,false,false,tu,0⟩ (w1.alloc (.cells #[.string (bs Mil.wFby),.int .i64 (ta:Nat),.bool false,.bool false,.int .i64 (tu:Nat),.int .i64 (0)] 104))):=tokL_new H.out hb1 _
 have hw1:w.heap.size≤w1.heap.size:=hb1.size
 clear hbW hb1
 have d3:=HW.out.cells.2.2.2.1
 have d102:=HW.out.cells.2.1
 have z102:=HW.out.cells.2.2.2.2.2.2.2.1
 have l102:=HW.out.lt
 go_wp2_with fail
 have HW2:=HW.out
 have HLW2:=HLW.out
 clear d3 d102 z102 hw1
 generalize (w1.alloc (.cells #[.string (bs Mil.wFby),.int .i64 (ta:Nat),.bool false,.bool false,.int .i64 (tu:Nat),.int .i64 (0)] 104))=W at HW FW HLW HW2 HLW2 ⊢
 generalize w1.heap.size=L at HLW HLW2 ⊢
 have H2:Hid (RM B b g T tv iv (Ref.up s) nv (W.setCell ⟨b,1,none⟩ (.int .i64 ((s.p:Int)+1)))):=(HW.out.setP HU.out).1
 have F2:Hid (Fr b g W nv (W.setCell ⟨b,1,none⟩ (.int .i64 ((s.p:Int)+1))) nv):=(HW.out.setP HU.out).2
 clear HW2 HLW2
 refine (take_any B b g T tv iv (Ref.up s) nv Mil.sOpen (by decide) _ (H2.out) hs).mono ?_
 rintro r w3 ⟨rfl,m3,f3⟩
 have p3:=((Ref.Paid.up s)).take T Mil.sOpen
 generalize he3:Ref.take T Mil.sOpen (Ref.up s)=s3 at m3 p3
 have E3:=hid he3
 have H3:=hid m3
 have F3:=hid (F2.out.trans (f3))
 have P3:=hid p3
 clear m3 f3 p3 he3
 have Q3:Hid (Ref.Pays (Ref.up s) s3):=by rw [←E3.out];exact (Ref.Pays.refl (Ref.up s)).trans (Ref.pays_take T _ _)
 go_wp2_with fail
 refine (const_any B b g T tv iv s3 nv _ (H3.out) (by have:=(P3.out).2;have:=HN.out;have:=(H3.out).lt;omega) hs).mono ?_
 rintro r w4 ⟨rfl,n4,m4,f4⟩
 have p4:=(P3.out).const (k:=1) T
 have qq4:(Ref.up s).p≤(Ref.rconst T s3).2.p:=Nat.le_trans (Q3.out).1 (Ref.pays_const T s3).1
 generalize hc4:Ref.rconst T s3=x4 at m4 p4 qq4 ⊢
 obtain ⟨i4,s4⟩:=x4
 have C4:=hid hc4
 have H4:=hid m4
 have F4:=hid (F3.out.trans (f4))
 have P4:=hid p4
 have V4:=hid qq4
 clear m4 f4 p4 hc4 qq4
 go_wp2_with fail
 refine (take_any B b g T tv iv s4 n4 Mil.sComma (by decide) _ (H4.out) hs).mono ?_
 rintro r w5 ⟨rfl,m5,f5⟩
 have p5:=(P4.out).take T Mil.sComma
 generalize he5:Ref.take T Mil.sComma s4=s5 at m5 p5
 have E5:=hid he5
 have H5:=hid m5
 have F5:=hid (F4.out.trans (f5))
 have P5:=hid p5
 clear m5 f5 p5 he5
 have V5:Hid ((Ref.up s).p≤s5.p):=by show _≤_;rw [←E5.out];exact Nat.le_trans V4.out (Ref.pays_take T _ _).1
 go_wp2_with fail
 refine (IH.out s5 (by have:=(P5.out).1;have:=(H5.out).lt;have h1:s.p+1≤s5.p:=(by have h2:(Ref.up s).p≤s5.p:=((show (Ref.up s).p≤s5.p∧True from ⟨V5.out,trivial⟩)).1;have h3:(Ref.up s).p=s.p+1:=rfl;omega);omega) n4 _ (H5.out) (by have:=(P5.out).2;have:=HN.out;omega)).mono ?_
 rintro r w6 ⟨⟨i6,s6⟩,g6,rfl,n6,m6,f6⟩
 have G6:=hid g6
 have H6:=hid m6
 have F6:=hid (F5.out.trans (f6))
 have P6:Hid (Ref.Paid s s6 1):=(P5.out).by g6.pays
 clear g6 m6 f6
 have ya:=(HLW.out.cells (F6.out)).1
 go_wp2_with fail
 refine (take_any B b g T tv iv s6 n6 Mil.sShut (by decide) _ (H6.out) hs).mono ?_
 rintro r w7 ⟨rfl,m7,f7⟩
 have p7:=(P6.out).take T Mil.sShut
 generalize he7:Ref.take T Mil.sShut s6=s7 at m7 p7
 have E7:=hid he7
 have H7:=hid m7
 have F7:=hid (F6.out.trans (f7))
 have P7:=hid p7
 clear m7 f7 p7 he7
 obtain ⟨y0,y1,y2,y3,y4,y5⟩:=HLW.out.cells (F7.out)
 go_wp2_with fail
 refine (node_any B b g T tv iv s7 n6 ⟨7,Mil.wFby,ta,0,false,i4,i6,0⟩ _ (H7.out) (by have:=(P7.out).2;have:=HN.out;have:=(H7.out).lt;omega)).mono ?_
 rintro r w8 ⟨rfl,n8,m8,f8⟩
 have H8:=hid m8
 have F8:=hid (F7.out.trans (f8))
 clear m8 f8
 go_wp2
 go_ret
 have R:=Ref.rx_fby C0.out HNOW.out (y:=(i6,s6)) (by rw [E3.out,C4.out];simp only [E5.out];exact G6.out)
 simp only [E3.out,C4.out,E7.out] at R
 exact ⟨_,R,rfl,_,H8.out,FW.out.trans F8.out⟩
set_option maxRecDepth 100000 in
theorem atom_wHold (B b g:Nat) (T:List Ref.Tk) (tv iv:Value) (hs:T.length≤4001) (s:Ref.Rs) (ih:∀t:Ref.Rs,T.length - t.p < T.length - s.p→EC B b g T tv iv t)  (ta tu:Nat) (c0:s.fe=0) (hnow:Ref.now T s=⟨Mil.wHold,ta,false,false,tu,0⟩):AC B b g T tv iv s:=by
 intro nv w h hn
 have H:=hid h
 have HN:=hid hn
 have IH:=hid ih
 have HNOW:=hid hnow
 have C0:=hid c0
 have b0:((s.fe:Int) != 0)=false:=by simp;omega
 have HU:Hid (s.p+1 < T.length):=by have:=h.nowWf;rw [hnow] at this;exact this.1 rfl (show Mil.wHold≠[] by decide)
 clear h hn c0 hnow ih
 have hx:(bs Mil.wHold).toList=[104,111,108,100]:=by decide +kernel
 go_enter Tryz.func159,Tryz.ntmps159
 go_wp2_with fail
 refine (now_any B b g T tv iv s nv _ H.out).mono ?_
 rintro r w1 ⟨rfl,hb1⟩
 rw [HNOW.out]
 have hvv:Ref.tokV ⟨Mil.wHold,ta,false,false,tu,0⟩=.agg #[.string (bs Mil.wHold),.int .i64 (ta:Nat),.bool false,.bool false,.int .i64 (tu:Nat),.int .i64 (0)]:=rfl
 rw [hvv]
 clear hvv
 have hbW:Below w.heap.size w (w1.alloc (.cells #[.string (bs Mil.wHold),.int .i64 (ta:Nat),.bool false,.bool false,.int .i64 (tu:Nat),.int .i64 (0)] 104)):=hb1.alloc hb1.size _
 have HW:=hid (H.out.below hbW)
 have FW:Hid (Fr b g w nv (w1.alloc (.cells #[.string (bs Mil.wHold),.int .i64 (ta:Nat),.bool false,.bool false,.int .i64 (tu:Nat),.int .i64 (0)] 104)) nv):=Fr.of_below hbW
 have HLW:Hid (TokL b g nv w1.heap.size ⟨Mil.wHold,ta,false,false,tu,0⟩ (w1.alloc (.cells #[.string (bs Mil.wHold),.int .i64 (ta:Nat),.bool false,.bool false,.int .i64 (tu:Nat),.int .i64 (0)] 104))):=tokL_new H.out hb1 _
 have hw1:w.heap.size≤w1.heap.size:=hb1.size
 clear hbW hb1
 have d3:=HW.out.cells.2.2.2.1
 have d102:=HW.out.cells.2.1
 have z102:=HW.out.cells.2.2.2.2.2.2.2.1
 have l102:=HW.out.lt
 go_wp2_with fail
 have HW2:=HW.out
 have HLW2:=HLW.out
 clear d3 d102 z102 hw1
 generalize (w1.alloc (.cells #[.string (bs Mil.wHold),.int .i64 (ta:Nat),.bool false,.bool false,.int .i64 (tu:Nat),.int .i64 (0)] 104))=W at HW FW HLW HW2 HLW2 ⊢
 generalize w1.heap.size=L at HLW HLW2 ⊢
 have H2:Hid (RM B b g T tv iv (Ref.up s) nv (W.setCell ⟨b,1,none⟩ (.int .i64 ((s.p:Int)+1)))):=(HW.out.setP HU.out).1
 have F2:Hid (Fr b g W nv (W.setCell ⟨b,1,none⟩ (.int .i64 ((s.p:Int)+1))) nv):=(HW.out.setP HU.out).2
 clear HW2 HLW2
 refine (take_any B b g T tv iv (Ref.up s) nv Mil.sOpen (by decide) _ (H2.out) hs).mono ?_
 rintro r w3 ⟨rfl,m3,f3⟩
 have p3:=((Ref.Paid.up s)).take T Mil.sOpen
 generalize he3:Ref.take T Mil.sOpen (Ref.up s)=s3 at m3 p3
 have E3:=hid he3
 have H3:=hid m3
 have F3:=hid (F2.out.trans (f3))
 have P3:=hid p3
 clear m3 f3 p3 he3
 have Q3:Hid (Ref.Pays (Ref.up s) s3):=by rw [←E3.out];exact (Ref.Pays.refl (Ref.up s)).trans (Ref.pays_take T _ _)
 go_wp2_with fail
 refine (const_any B b g T tv iv s3 nv _ (H3.out) (by have:=(P3.out).2;have:=HN.out;have:=(H3.out).lt;omega) hs).mono ?_
 rintro r w4 ⟨rfl,n4,m4,f4⟩
 have p4:=(P3.out).const (k:=1) T
 have qq4:(Ref.up s).p≤(Ref.rconst T s3).2.p:=Nat.le_trans (Q3.out).1 (Ref.pays_const T s3).1
 generalize hc4:Ref.rconst T s3=x4 at m4 p4 qq4 ⊢
 obtain ⟨i4,s4⟩:=x4
 have C4:=hid hc4
 have H4:=hid m4
 have F4:=hid (F3.out.trans (f4))
 have P4:=hid p4
 have V4:=hid qq4
 clear m4 f4 p4 hc4 qq4
 go_wp2_with fail
 refine (take_any B b g T tv iv s4 n4 Mil.sComma (by decide) _ (H4.out) hs).mono ?_
 rintro r w5 ⟨rfl,m5,f5⟩
 have p5:=(P4.out).take T Mil.sComma
 generalize he5:Ref.take T Mil.sComma s4=s5 at m5 p5
 have E5:=hid he5
 have H5:=hid m5
 have F5:=hid (F4.out.trans (f5))
 have P5:=hid p5
 clear m5 f5 p5 he5
 have V5:Hid ((Ref.up s).p≤s5.p):=by show _≤_;rw [←E5.out];exact Nat.le_trans V4.out (Ref.pays_take T _ _).1
 go_wp2_with fail
 refine (IH.out s5 (by have:=(P5.out).1;have:=(H5.out).lt;have h1:s.p+1≤s5.p:=(by have h2:(Ref.up s).p≤s5.p:=((show (Ref.up s).p≤s5.p∧True from ⟨V5.out,trivial⟩)).1;have h3:(Ref.up s).p=s.p+1:=rfl;omega);omega) n4 _ (H5.out) (by have:=(P5.out).2;have:=HN.out;omega)).mono ?_
 rintro r w6 ⟨⟨i6,s6⟩,g6,rfl,n6,m6,f6⟩
 have G6:=hid g6
 have H6:=hid m6
 have F6:=hid (F5.out.trans (f6))
 have P6:Hid (Ref.Paid s s6 1):=(P5.out).by g6.pays
 clear g6 m6 f6
 have ya:=(HLW.out.cells (F6.out)).1
 go_wp2_with fail
 refine (take_any B b g T tv iv s6 n6 Mil.sComma (by decide) _ (H6.out) hs).mono ?_
 rintro r w7 ⟨rfl,m7,f7⟩
 have p7:=(P6.out).take T Mil.sComma
 generalize he7:Ref.take T Mil.sComma s6=s7 at m7 p7
 have E7:=hid he7
 have H7:=hid m7
 have F7:=hid (F6.out.trans (f7))
 have P7:=hid p7
 clear m7 f7 p7 he7
 go_wp2_with fail
 refine (rnumber_any B b g T tv iv s7 n6 2 1000 _ (H7.out) hs).mono ?_
 rintro r w8 ⟨rfl,m8,f8⟩
 have p8:=(P7.out).number T 2 1000
 generalize hc8:Ref.rnumber T 2 1000 s7=x8 at m8 p8 ⊢
 obtain ⟨i8,s8⟩:=x8
 have C8:=hid hc8
 have H8:=hid m8
 have F8:=hid (F7.out.trans (f8))
 have P8:=hid p8
 clear m8 f8 p8 hc8
 go_wp2_with fail
 refine (take_any B b g T tv iv s8 n6 Mil.sShut (by decide) _ (H8.out) hs).mono ?_
 rintro r w9 ⟨rfl,m9,f9⟩
 have p9:=(P8.out).take T Mil.sShut
 generalize he9:Ref.take T Mil.sShut s8=s9 at m9 p9
 have E9:=hid he9
 have H9:=hid m9
 have F9:=hid (F8.out.trans (f9))
 have P9:=hid p9
 clear m9 f9 p9 he9
 obtain ⟨y0,y1,y2,y3,y4,y5⟩:=HLW.out.cells (F9.out)
 go_wp2_with fail
 refine (node_any B b g T tv iv s9 n6 ⟨9,Mil.wHold,ta,i8,false,i4,i6,0⟩ _ (H9.out) (by have:=(P9.out).2;have:=HN.out;have:=(H9.out).lt;omega)).mono ?_
 rintro r w10 ⟨rfl,n10,m10,f10⟩
 have H10:=hid m10
 have F10:=hid (F9.out.trans (f10))
 clear m10 f10
 go_wp2
 go_ret
 have R:=Ref.rx_hold C0.out HNOW.out (y:=(i6,s6)) (by rw [E3.out,C4.out];simp only [E5.out];exact G6.out)
 simp only [E3.out,C4.out,E7.out,C8.out,E9.out] at R
 exact ⟨_,R,rfl,_,H10.out,FW.out.trans F10.out⟩
end
end Go.Proofs.YtoiajojadihpbaaGreatDoor
