import Derived.Test.YtoiajojadihpbaaGreatDoorQt22
import Derived.Test.YtoiajojadihpbaaGreatDoorQt19
import Derived.Test.YtoiajojadihpbaaGreatDoorQt02
namespace Go.Proofs.YtoiajojadihpbaaGreatDoor
set_option maxHeartbeats 8000000
set_option maxRecDepth 100000
section
open Go.RowKit
theorem field_at (tt:Mil.Bytes) (ta:Nat) (tn tm:Bool) (tu te:Nat) (w:World):(Instr.field 104 (.agg #[.string (bs tt),.int .i64 (ta:Nat),.bool tn,.bool tm,.int .i64 (tu:Nat),.int .i64 (te:Nat)]) 1).run Tryz.prog w=.ok (.int .i64 (ta:Nat)) w:=by kernel_rfl
def RPost (B b g:Nat) (T:List Ref.Tk) (tv iv:Value) (nv:Value) (w:World) (x:Nat×Ref.Rs) (r:Ending) (w':World):Prop:=
 r=.returned (.int .i64 (x.1:Nat))/\∃nv',RM B b g T tv iv x.2 nv' w'/\Fr b g w nv w' nv'
theorem number_ns (T:List Ref.Tk) (lo hi:Nat) (s:Ref.Rs):(Ref.rnumber T lo hi s).2.ns=s.ns:=by
 unfold Ref.rnumber Ref.fail Ref.up
 split
 ·rfl
 ·simp only[];split <;> rfl
theorem const_true (B b g:Nat) (T:List Ref.Tk) (tv iv:Value) (s:Ref.Rs) (nv:Value) (w:World) (h:RM B b g T tv iv s nv w) (hn:s.ns.length<=10000) (hs:T.length<=4001) (hi:Ref.is T Mil.wTrue s=true) :
  Calls Tryz.prog 166 #[.pointer (some ⟨b,0,none⟩)] w (RPost B b g T tv iv nv w (Ref.rconst T s)):=by
 have H:=hid h
 have HN:=hid hn
 have HU:Hid (s.p+1 < T.length):=is_up h (by decide) hi
 have HC:Hid (Ref.rconst T s=Ref.node ⟨2,[],(Ref.now T s).at_,1,false,0,0,0⟩ (Ref.up s)):=by show _=_;unfold Ref.rconst;rw[if_pos hi]
 clear h hn
 go_enter Tryz.func166,Tryz.ntmps166
 go_wp2_with fail
 refine (now_any B b g T tv iv s nv _ H.out).mono ?_
 rintro r w1 ⟨rfl,hb1⟩
 generalize Ref.now T s=t at HC ⊢
 obtain⟨tt,ta,tn,tm,tu,te⟩:=t
 have hvv:Ref.tokV ⟨tt,ta,tn,tm,tu,te⟩=.agg #[.string (bs tt),.int .i64 (ta:Nat),.bool tn,.bool tm,.int .i64 (tu:Nat),.int .i64 (te:Nat)]:=rfl
 rw[hvv]
 clear hvv
 have H1:Hid (RM B b g T tv iv s nv w1):=(H.out).below hb1
 have F1:Hid (Fr b g w nv w1 nv):=Fr.of_below hb1
 clear hb1
 have hf:=field_at tt ta tn tm tu te
 go_wp2_with fail
 refine (is_any B b g T tv iv s nv Mil.wTrue _ H1.out).mono ?_
 rintro r w2 ⟨rfl,hb2⟩
 rw[hi]
 have H2:Hid (RM B b g T tv iv s nv w2):=(H1.out).below hb2
 have F2:Hid (Fr b g w nv w2 nv):=F1.out.trans (Fr.of_below hb2)
 clear hb2
 go_wp2_with fail
 refine (is_any B b g T tv iv s nv Mil.wFalse _ H2.out).mono ?_
 rintro r w3 ⟨rfl,hb3⟩
 have H3:Hid (RM B b g T tv iv s nv w3):=(H2.out).below hb3
 have F3:Hid (Fr b g w nv w3 nv):=F2.out.trans (Fr.of_below hb3)
 clear hb3
 have d4:=(H3.out).cells.2.1
 have z4:=(H3.out).cells.2.2.2.2.2.2.2.1
 have l4:=(H3.out).lt
 have H4:Hid (RM B b g T tv iv (Ref.up s) nv (w3.setCell ⟨b,1,none⟩ (.int .i64 ((s.p:Int)+1)))):=((H3.out).setP HU.out).1
 have F4:Hid (Fr b g w nv (w3.setCell ⟨b,1,none⟩ (.int .i64 ((s.p:Int)+1))) nv):=F3.out.trans (((H3.out).setP HU.out).2)
 go_wp2_with fail
 refine (node_any B b g T tv iv (Ref.up s) nv ⟨2,[],ta,1,false,0,0,0⟩ _ (H4.out) (by show s.ns.length<=_;have:=HN.out;omega)).mono ?_
 rintro r w5 ⟨rfl,n5,m5,f5⟩
 have H5:=hid m5
 have F5:=hid (F4.out.trans (f5))
 clear m5 f5
 go_wp2
 go_ret
 rw[HC.out]
 exact⟨rfl,_,H5.out,F5.out⟩
theorem const_false (B b g:Nat) (T:List Ref.Tk) (tv iv:Value) (s:Ref.Rs) (nv:Value) (w:World) (h:RM B b g T tv iv s nv w) (hn:s.ns.length<=10000) (hs:T.length<=4001) (hi:Ref.is T Mil.wTrue s=false) (hj:Ref.is T Mil.wFalse s=true) :
  Calls Tryz.prog 166 #[.pointer (some ⟨b,0,none⟩)] w (RPost B b g T tv iv nv w (Ref.rconst T s)):=by
 have H:=hid h
 have HN:=hid hn
 have HU:Hid (s.p+1 < T.length):=is_up h (by decide) hj
 have HC:Hid (Ref.rconst T s=Ref.node ⟨2,[],(Ref.now T s).at_,0,false,0,0,0⟩ (Ref.up s)):=by show _=_;unfold Ref.rconst;rw[if_neg (by rw[hi];decide),if_pos hj]
 clear h hn
 go_enter Tryz.func166,Tryz.ntmps166
 go_wp2_with fail
 refine (now_any B b g T tv iv s nv _ H.out).mono ?_
 rintro r w1 ⟨rfl,hb1⟩
 generalize Ref.now T s=t at HC ⊢
 obtain⟨tt,ta,tn,tm,tu,te⟩:=t
 have hvv:Ref.tokV ⟨tt,ta,tn,tm,tu,te⟩=.agg #[.string (bs tt),.int .i64 (ta:Nat),.bool tn,.bool tm,.int .i64 (tu:Nat),.int .i64 (te:Nat)]:=rfl
 rw[hvv]
 clear hvv
 have H1:Hid (RM B b g T tv iv s nv w1):=(H.out).below hb1
 have F1:Hid (Fr b g w nv w1 nv):=Fr.of_below hb1
 clear hb1
 have hf:=field_at tt ta tn tm tu te
 go_wp2_with fail
 refine (is_any B b g T tv iv s nv Mil.wTrue _ H1.out).mono ?_
 rintro r w2 ⟨rfl,hb2⟩
 rw[hi]
 have H2:Hid (RM B b g T tv iv s nv w2):=(H1.out).below hb2
 have F2:Hid (Fr b g w nv w2 nv):=F1.out.trans (Fr.of_below hb2)
 clear hb2
 go_wp2_with fail
 refine (is_any B b g T tv iv s nv Mil.wFalse _ H2.out).mono ?_
 rintro r w3 ⟨rfl,hb3⟩
 rw[hj]
 have H3:Hid (RM B b g T tv iv s nv w3):=(H2.out).below hb3
 have F3:Hid (Fr b g w nv w3 nv):=F2.out.trans (Fr.of_below hb3)
 clear hb3
 have d4:=(H3.out).cells.2.1
 have z4:=(H3.out).cells.2.2.2.2.2.2.2.1
 have l4:=(H3.out).lt
 have H4:Hid (RM B b g T tv iv (Ref.up s) nv (w3.setCell ⟨b,1,none⟩ (.int .i64 ((s.p:Int)+1)))):=((H3.out).setP HU.out).1
 have F4:Hid (Fr b g w nv (w3.setCell ⟨b,1,none⟩ (.int .i64 ((s.p:Int)+1))) nv):=F3.out.trans (((H3.out).setP HU.out).2)
 go_wp2_with fail
 refine (node_any B b g T tv iv (Ref.up s) nv ⟨2,[],ta,0,false,0,0,0⟩ _ (H4.out) (by show s.ns.length<=_;have:=HN.out;omega)).mono ?_
 rintro r w5 ⟨rfl,n5,m5,f5⟩
 have H5:=hid m5
 have F5:=hid (F4.out.trans (f5))
 clear m5 f5
 go_wp2
 go_ret
 rw[HC.out]
 exact⟨rfl,_,H5.out,F5.out⟩
theorem const_neg (B b g:Nat) (T:List Ref.Tk) (tv iv:Value) (s:Ref.Rs) (nv:Value) (w:World) (h:RM B b g T tv iv s nv w) (hn:s.ns.length<=10000) (hs:T.length<=4001) (hi:Ref.is T Mil.wTrue s=false) (hj:Ref.is T Mil.wFalse s=false) (hm:Ref.is T Mil.sMinus s=true) :
  Calls Tryz.prog 166 #[.pointer (some ⟨b,0,none⟩)] w (RPost B b g T tv iv nv w (Ref.rconst T s)):=by
 have H:=hid h
 have HN:=hid hn
 have HU:Hid (s.p+1 < T.length):=is_up h (by decide) hm
 have HC:Hid (Ref.rconst T s=Ref.node ⟨1,[],(Ref.now T s).at_,(Ref.rnumber T 0 9223372036854775807 (Ref.up s)).1,true,0,0,0⟩ (Ref.rnumber T 0 9223372036854775807 (Ref.up s)).2):=by show _=_;unfold Ref.rconst;rw[if_neg (by rw[hi];decide),if_neg (by rw[hj];decide),if_pos hm]
 have HX:Hid ((Ref.rnumber T 0 9223372036854775807 (Ref.up s)).2.ns=s.ns):=number_ns _ _ _ _
 clear h hn
 go_enter Tryz.func166,Tryz.ntmps166
 go_wp2_with fail
 refine (now_any B b g T tv iv s nv _ H.out).mono ?_
 rintro r w1 ⟨rfl,hb1⟩
 generalize Ref.now T s=t at HC ⊢
 obtain⟨tt,ta,tn,tm,tu,te⟩:=t
 have hvv:Ref.tokV ⟨tt,ta,tn,tm,tu,te⟩=.agg #[.string (bs tt),.int .i64 (ta:Nat),.bool tn,.bool tm,.int .i64 (tu:Nat),.int .i64 (te:Nat)]:=rfl
 rw[hvv]
 clear hvv
 have H1:Hid (RM B b g T tv iv s nv w1):=(H.out).below hb1
 have F1:Hid (Fr b g w nv w1 nv):=Fr.of_below hb1
 clear hb1
 have hf:=field_at tt ta tn tm tu te
 go_wp2_with fail
 refine (is_any B b g T tv iv s nv Mil.wTrue _ H1.out).mono ?_
 rintro r w2 ⟨rfl,hb2⟩
 rw[hi]
 have H2:Hid (RM B b g T tv iv s nv w2):=(H1.out).below hb2
 have F2:Hid (Fr b g w nv w2 nv):=F1.out.trans (Fr.of_below hb2)
 clear hb2
 go_wp2_with fail
 refine (is_any B b g T tv iv s nv Mil.wFalse _ H2.out).mono ?_
 rintro r w3 ⟨rfl,hb3⟩
 rw[hj]
 have H3:Hid (RM B b g T tv iv s nv w3):=(H2.out).below hb3
 have F3:Hid (Fr b g w nv w3 nv):=F2.out.trans (Fr.of_below hb3)
 clear hb3
 go_wp2_with fail
 refine (is_any B b g T tv iv s nv Mil.sMinus _ H3.out).mono ?_
 rintro r w4 ⟨rfl,hb4⟩
 rw[hm]
 have H4:Hid (RM B b g T tv iv s nv w4):=(H3.out).below hb4
 have F4:Hid (Fr b g w nv w4 nv):=F3.out.trans (Fr.of_below hb4)
 clear hb4
 have d5:=(H4.out).cells.2.1
 have z5:=(H4.out).cells.2.2.2.2.2.2.2.1
 have l5:=(H4.out).lt
 have H5:Hid (RM B b g T tv iv (Ref.up s) nv (w4.setCell ⟨b,1,none⟩ (.int .i64 ((s.p:Int)+1)))):=((H4.out).setP HU.out).1
 have F5:Hid (Fr b g w nv (w4.setCell ⟨b,1,none⟩ (.int .i64 ((s.p:Int)+1))) nv):=F4.out.trans (((H4.out).setP HU.out).2)
 go_wp2_with fail
 refine (rnumber_any B b g T tv iv (Ref.up s) nv 0 9223372036854775807 _ (H5.out) hs).mono ?_
 rintro r w6 ⟨rfl,m6,f6⟩
 generalize Ref.rnumber T 0 9223372036854775807 (Ref.up s)=x6 at m6 HC HX ⊢
 obtain⟨v6,s6⟩:=x6
 have H6:=hid m6
 have F6:=hid (F5.out.trans (f6))
 clear m6 f6
 go_wp2_with fail
 refine (node_any B b g T tv iv s6 nv ⟨1,[],ta,v6,true,0,0,0⟩ _ (H6.out) (by have e:s6.ns=s.ns:=HX.out;rw[e];have:=HN.out;omega)).mono ?_
 rintro r w7 ⟨rfl,n7,m7,f7⟩
 have H7:=hid m7
 have F7:=hid (F6.out.trans (f7))
 clear m7 f7
 go_wp2
 go_ret
 rw[HC.out]
 exact⟨rfl,_,H7.out,F7.out⟩
theorem const_num (B b g:Nat) (T:List Ref.Tk) (tv iv:Value) (s:Ref.Rs) (nv:Value) (w:World) (h:RM B b g T tv iv s nv w) (hn:s.ns.length<=10000) (hs:T.length<=4001) (hi:Ref.is T Mil.wTrue s=false) (hj:Ref.is T Mil.wFalse s=false) (hm:Ref.is T Mil.sMinus s=false) :
  Calls Tryz.prog 166 #[.pointer (some ⟨b,0,none⟩)] w (RPost B b g T tv iv nv w (Ref.rconst T s)):=by
 have H:=hid h
 have HN:=hid hn
 have HC:Hid (Ref.rconst T s=Ref.node ⟨1,[],(Ref.now T s).at_,(Ref.rnumber T 0 9223372036854775807 s).1,false,0,0,0⟩ (Ref.rnumber T 0 9223372036854775807 s).2):=by show _=_;unfold Ref.rconst;rw[if_neg (by rw[hi];decide),if_neg (by rw[hj];decide),if_neg (by rw[hm];decide)]
 have HX:Hid ((Ref.rnumber T 0 9223372036854775807 s).2.ns=s.ns):=number_ns _ _ _ _
 clear h hn
 go_enter Tryz.func166,Tryz.ntmps166
 go_wp2_with fail
 refine (now_any B b g T tv iv s nv _ H.out).mono ?_
 rintro r w1 ⟨rfl,hb1⟩
 generalize Ref.now T s=t at HC ⊢
 obtain⟨tt,ta,tn,tm,tu,te⟩:=t
 have hvv:Ref.tokV ⟨tt,ta,tn,tm,tu,te⟩=.agg #[.string (bs tt),.int .i64 (ta:Nat),.bool tn,.bool tm,.int .i64 (tu:Nat),.int .i64 (te:Nat)]:=rfl
 rw[hvv]
 clear hvv
 have H1:Hid (RM B b g T tv iv s nv w1):=(H.out).below hb1
 have F1:Hid (Fr b g w nv w1 nv):=Fr.of_below hb1
 clear hb1
 have hf:=field_at tt ta tn tm tu te
 go_wp2_with fail
 refine (is_any B b g T tv iv s nv Mil.wTrue _ H1.out).mono ?_
 rintro r w2 ⟨rfl,hb2⟩
 rw[hi]
 have H2:Hid (RM B b g T tv iv s nv w2):=(H1.out).below hb2
 have F2:Hid (Fr b g w nv w2 nv):=F1.out.trans (Fr.of_below hb2)
 clear hb2
 go_wp2_with fail
 refine (is_any B b g T tv iv s nv Mil.wFalse _ H2.out).mono ?_
 rintro r w3 ⟨rfl,hb3⟩
 rw[hj]
 have H3:Hid (RM B b g T tv iv s nv w3):=(H2.out).below hb3
 have F3:Hid (Fr b g w nv w3 nv):=F2.out.trans (Fr.of_below hb3)
 clear hb3
 go_wp2_with fail
 refine (is_any B b g T tv iv s nv Mil.sMinus _ H3.out).mono ?_
 rintro r w4 ⟨rfl,hb4⟩
 rw[hm]
 have H4:Hid (RM B b g T tv iv s nv w4):=(H3.out).below hb4
 have F4:Hid (Fr b g w nv w4 nv):=F3.out.trans (Fr.of_below hb4)
 clear hb4
 go_wp2_with fail
 refine (rnumber_any B b g T tv iv s nv 0 9223372036854775807 _ (H4.out) hs).mono ?_
 rintro r w5 ⟨rfl,m5,f5⟩
 generalize Ref.rnumber T 0 9223372036854775807 s=x5 at m5 HC HX ⊢
 obtain⟨v5,s5⟩:=x5
 have H5:=hid m5
 have F5:=hid (F4.out.trans (f5))
 clear m5 f5
 go_wp2_with fail
 refine (node_any B b g T tv iv s5 nv ⟨1,[],ta,v5,false,0,0,0⟩ _ (H5.out) (by have e:s5.ns=s.ns:=HX.out;rw[e];have:=HN.out;omega)).mono ?_
 rintro r w6 ⟨rfl,n6,m6,f6⟩
 have H6:=hid m6
 have F6:=hid (F5.out.trans (f6))
 clear m6 f6
 go_wp2
 go_ret
 rw[HC.out]
 exact⟨rfl,_,H6.out,F6.out⟩
theorem const_any (B b g:Nat) (T:List Ref.Tk) (tv iv:Value) (s:Ref.Rs) (nv:Value) (w:World) (h:RM B b g T tv iv s nv w) (hn:s.ns.length<=10000) (hs:T.length<=4001) :
  Calls Tryz.prog 166 #[.pointer (some ⟨b,0,none⟩)] w (RPost B b g T tv iv nv w (Ref.rconst T s)):=by
 cases hi:Ref.is T Mil.wTrue s
 ·cases hj:Ref.is T Mil.wFalse s
  ·cases hm:Ref.is T Mil.sMinus s
   ·exact const_num B b g T tv iv s nv w h hn hs hi hj hm
   ·exact const_neg B b g T tv iv s nv w h hn hs hi hj hm
  ·exact const_false B b g T tv iv s nv w h hn hs hi hj
 ·exact const_true B b g T tv iv s nv w h hn hs hi
end
section
namespace Ref
open Mil
theorem rstep_le {T:List Tk} {f g:Nat->Nat->Rs->Option (Nat×Rs)} (h:∀t l s,Imp (f t l s) (g t l s)) (t l:Nat) (s:Rs):Imp (rstep T f t l s) (rstep T g t l s):=by
 unfold rstep ratom
 repeat' first|exact h _ _ _|exact Imp.refl _|refine Imp.ite ?_ ?_|refine Imp.bind ?_ (fun _=>?_)|refine Imp.map ?_
theorem rx_succ (T:List Tk) (n t l:Nat) (s:Rs):rx T (n+1) t l s=rstep T (rx T n) t l s:=rfl
theorem rx_next (T:List Tk):∀(n t l:Nat) (s:Rs),Imp (rx T n t l s) (rx T (n+1) t l s)
 | 0,_,_,_=>fun _ h=>by cases h
 | n+1,t,l,s=>by
  rw[rx_succ,rx_succ T (n+1)]
  exact rstep_le (rx_next T n) t l s
theorem rx_le {T:List Tk} {n m:Nat} (h:n<=m) {t l:Nat} {s:Rs} {x:Nat×Rs} (hx:rx T n t l s=some x):rx T m t l s=some x:=by
 induction h with
 | refl=>exact hx
 | step _ ih=>exact rx_next _ _ _ _ _ _ ih
theorem Rx.unique {T:List Tk} {t l:Nat} {s:Rs} {x y:Nat×Rs} (h:Rx T t l s x) (k:Rx T t l s y):x=y:=by
 obtain⟨n,hn⟩:=h
 obtain⟨m,hm⟩:=k
 exact osi ((rx_le (Nat.le_max_left n m) hn).symm.trans (rx_le (Nat.le_max_right n m) hm))
theorem Rx.two {T:List Tk} {t l:Nat} {s:Rs} {x:Nat×Rs} {t' l':Nat} {s':Rs} {x':Nat×Rs} (h:Rx T t l s x) (k:Rx T t' l' s' x'):∃n,rx T n t l s=some x/\rx T n t' l' s'=some x':=by
 obtain⟨n,hn⟩:=h
 obtain⟨m,hm⟩:=k
 exact⟨max n m,rx_le (Nat.le_max_left n m) hn,rx_le (Nat.le_max_right n m) hm⟩
theorem Rx.three {T:List Tk} {t l:Nat} {s:Rs} {x:Nat×Rs} {t' l':Nat} {s':Rs} {x':Nat×Rs} {t2 l2:Nat} {s2:Rs} {x2:Nat×Rs} (h:Rx T t l s x) (k:Rx T t' l' s' x') (j:Rx T t2 l2 s2 x2) :
  ∃n,rx T n t l s=some x/\rx T n t' l' s'=some x'/\rx T n t2 l2 s2=some x2:=by
 obtain⟨n,h1,h2⟩:=h.two k
 obtain⟨m,hm⟩:=j
 exact⟨max n m,rx_le (Nat.le_max_left n m) h1,rx_le (Nat.le_max_left n m) h2,rx_le (Nat.le_max_right n m) hm⟩
theorem rx_noif {T:List Tk} {s:Rs} {x:Nat×Rs} (h:is T wIf s=false) (k:Rx T 1 0 s x):Rx T 0 0 s x:=by
 obtain⟨n,hn⟩:=k
 refine⟨n+1,?_⟩
 rw[rx_succ];unfold rstep
 rw[if_pos rfl,if_neg (by rw[h];decide),hn]
theorem rx_if {T:List Tk} {s:Rs} {x y z:Nat×Rs} (h:is T wIf s=true) (hx:Rx T 0 0 (up s) x) (hy:Rx T 0 0 (take T wThen x.2) y) (hz:Rx T 0 0 (take T wElse y.2) z) :
  Rx T 0 0 s (node ⟨6,wIf,(now T s).at_,0,false,x.1,y.1,z.1⟩ z.2):=by
 obtain⟨n,h1,h2,h3⟩:=hx.three hy hz
 refine⟨n+1,?_⟩
 rw[rx_succ];unfold rstep
 rw[if_pos rfl,if_pos h,h1,Option.bind_some,h2,Option.bind_some,h3,Option.map_some]
theorem rx_neg {T:List Tk} {s:Rs} {x:Nat×Rs} (h:is T sMinus s=true) (hx:Rx T 7 0 (up s) x):Rx T 7 0 s (node ⟨4,sMinus,(now T s).at_,0,false,x.1,0,0⟩ x.2):=by
 obtain⟨n,h1⟩:=hx
 refine⟨n+1,?_⟩
 rw[rx_succ];unfold rstep
 rw[if_neg (by decide),if_neg (by decide),if_pos rfl,if_pos h,h1,Option.map_some]
theorem rx_fact {T:List Tk} {s:Rs} {x:Nat×Rs} (h:is T sMinus s=false) (hx:Rx T 8 0 s x):Rx T 7 0 s x:=by
 obtain⟨n,h1⟩:=hx
 refine⟨n+1,?_⟩
 rw[rx_succ];unfold rstep
 rw[if_neg (by decide),if_neg (by decide),if_pos rfl,if_neg (by rw[h];decide),h1]
theorem rx_not {T:List Tk} {s:Rs} {x:Nat×Rs} (h:is T wNot s=true) (hx:Rx T 3 0 (up s) x):Rx T 3 0 s (node ⟨4,wNot,(now T s).at_,0,false,x.1,0,0⟩ x.2):=by
 obtain⟨n,h1⟩:=hx
 refine⟨n+1,?_⟩
 rw[rx_succ];unfold rstep
 rw[if_neg (by decide),if_neg (by decide),if_neg (by decide),if_pos rfl,if_pos h,h1,Option.map_some]
theorem rx_nonot {T:List Tk} {s:Rs} {x:Nat×Rs} (h:is T wNot s=false) (hx:Rx T 4 0 s x):Rx T 3 0 s x:=by
 obtain⟨n,h1⟩:=hx
 refine⟨n+1,?_⟩
 rw[rx_succ];unfold rstep
 rw[if_neg (by decide),if_neg (by decide),if_neg (by decide),if_pos rfl,if_neg (by rw[h];decide),h1]
theorem rx_level {T:List Tk} {l:Nat} (h0:l≠0) (h3:l≠3) (h7:l < 7) {s:Rs} {x y:Nat×Rs} (hx:Rx T (l+1) 0 s x) (hy:Rx T (10+l) x.1 x.2 y):Rx T l 0 s y:=by
 obtain⟨n,h1,h2⟩:=hx.two hy
 refine⟨n+1,?_⟩
 rw[rx_succ];unfold rstep
 rw[if_neg h0,if_neg (by omega),if_neg (by omega),if_neg h3,if_pos (by omega),h1,Option.bind_some,h2]
theorem rx_stop {T:List Tk} {l left:Nat} {s:Rs} (h:¬(s.fe=0/\(now T s).e=0/\(now T s).name=false/\level (now T s).t=l)):Rx T (10+l) left s (left,s):=by
 refine⟨1,?_⟩
 rw[rx_succ];unfold rstep
 rw[if_neg (by omega),if_neg (by omega),if_neg (by omega),if_neg (by omega),if_neg (by omega),show 10+l - 10=l by omega,if_neg h]
theorem rx_rel {T:List Tk} {left:Nat} {s:Rs} {y:Nat×Rs} (h:s.fe=0/\(now T s).e=0/\(now T s).name=false/\level (now T s).t=4) (hy:Rx T 5 0 (up s) y):Rx T 14 left s (node ⟨5,(now T s).t,(now T s).at_,0,false,left,y.1,0⟩ y.2):=by
 obtain⟨n,h1⟩:=hy
 refine⟨n+1,?_⟩
 rw[rx_succ];unfold rstep
 rw[if_neg (by decide),if_neg (by decide),if_neg (by decide),if_neg (by decide),if_neg (by decide),if_pos h,h1,Option.bind_some,if_pos rfl]
theorem rx_go {T:List Tk} {l left:Nat} (h4:l≠4) {s:Rs} {y z:Nat×Rs} (h:s.fe=0/\(now T s).e=0/\(now T s).name=false/\level (now T s).t=l) (hy:Rx T (l+1) 0 (up s) y)
  (hz:Rx T (10+l) (node ⟨5,(now T s).t,(now T s).at_,0,false,left,y.1,0⟩ y.2).1 (node ⟨5,(now T s).t,(now T s).at_,0,false,left,y.1,0⟩ y.2).2 z):Rx T (10+l) left s z:=by
 obtain⟨n,h1,h2⟩:=hy.two hz
 refine⟨n+1,?_⟩
 rw[rx_succ];unfold rstep
 have e:10+l - 10=l:=by omega
 rw[if_neg (by omega),if_neg (by omega),if_neg (by omega),if_neg (by omega),if_neg (by omega),e,if_pos h,h1,Option.bind_some,if_neg (by omega),h2]
theorem rx_atom0 {T:List Tk} {s:Rs} {x:Nat×Rs} (h:∀f,ratom T f s=some x):Rx T 8 0 s x:=by
 refine⟨1,?_⟩
 rw[rx_succ];unfold rstep
 rw[if_neg (by decide),if_pos rfl,h]
theorem rx_atom {T:List Tk} {s:Rs} {x:Nat×Rs} {n:Nat} (h:ratom T (rx T n) s=some x):Rx T 8 0 s x:=by
 refine⟨n+1,?_⟩
 rw[rx_succ];unfold rstep
 rw[if_neg (by decide),if_pos rfl,h]
def Pays (s t:Rs):Prop:=s.p<=t.p/\2*s.p+t.ns.length<=2*t.p+s.ns.length
theorem Pays.refl (s:Rs):Pays s s:=⟨Nat.le_refl _,Nat.le_refl _⟩
theorem Pays.trans {s t u:Rs} (h:Pays s t) (k:Pays t u):Pays s u:=⟨Nat.le_trans h.1 k.1,by have:=h.2;have:=k.2;omega⟩
theorem fail_same (T:List Tk) (e:Nat) (s:Rs):(fail T e s).p=s.p/\(fail T e s).ns=s.ns:=by
 unfold fail
 split
 ·exact⟨rfl,rfl⟩
 ·exact⟨rfl,rfl⟩
theorem pays_fail (T:List Tk) (e:Nat) (s:Rs):Pays s (fail T e s):=by
 obtain⟨h1,h2⟩:=fail_same T e s
 unfold Pays
 rw[h1,h2]
 exact⟨Nat.le_refl _,Nat.le_refl _⟩
theorem pays_up (s:Rs):Pays s (up s)/\(up s).p=s.p+1/\(up s).ns=s.ns:=by
 refine⟨⟨?_,?_⟩,rfl,rfl⟩
 ·show s.p<=s.p+1;omega
 ·show 2*s.p+s.ns.length<=2*(s.p+1)+s.ns.length;omega
theorem pays_take (T:List Tk) (x:Bytes) (s:Rs):Pays s (take T x s):=by
 unfold take
 split
 ·exact (pays_up s).1
 ·exact pays_fail T 3 s
theorem pays_name (T:List Tk) (s:Rs):Pays s (rname T s).2:=by
 unfold rname
 split
 ·exact (pays_up s).1
 ·exact pays_fail T 3 s
theorem pays_number (T:List Tk) (lo hi:Nat) (s:Rs):Pays s (rnumber T lo hi s).2:=by
 unfold rnumber
 split
 ·exact (pays_up s).1
 ·exact pays_fail T 3 s
theorem pays_typed (T:List Tk) (s:Rs):Pays s (rtyped T s).2:=by
 unfold rtyped
 split
 ·exact (pays_up s).1
 ·exact pays_take T _ s
theorem pays_const (T:List Tk) (s:Rs):s.p<=(rconst T s).2.p/\2*s.p+(rconst T s).2.ns.length<=2*(rconst T s).2.p+s.ns.length+1:=by
 have nd:∀(n:Nd) (t:Rs),Pays s t->s.p<=(node n t).2.p/\2*s.p+(node n t).2.ns.length<=2*(node n t).2.p+s.ns.length+1:=by
  intro n t h
  refine⟨h.1,?_⟩
  show 2*s.p+(t.ns++[n]).length<=2*t.p+s.ns.length+1
  rw[List.length_append]
  have:=h.2
  simp only[List.length_singleton]
  omega
 unfold rconst
 split
 ·exact nd _ _ (pays_up s).1
 ·split
  ·exact nd _ _ (pays_up s).1
  ·split
   ·exact nd _ _ ((pays_up s).1.trans (pays_number T _ _ _))
   ·exact nd _ _ (pays_number T _ _ _)
end Ref
end
section
namespace Ref
open Mil
def Paid (s t:Rs) (k:Nat):Prop:=s.p<=t.p/\2*s.p+t.ns.length+k<=2*t.p+s.ns.length
theorem Paid.pays {s t:Rs} {k:Nat} (h:Paid s t k):Pays s t:=⟨h.1,by have:=h.2;omega⟩
theorem Paid.up (s:Rs):Paid s (Ref.up s) 2:=⟨(pays_up s).1.1,by rw[(pays_up s).2.1,(pays_up s).2.2];omega⟩
theorem Paid.start (s:Rs):Paid s s 0:=⟨Nat.le_refl _,Nat.le_refl _⟩
theorem Paid.by {s t u:Rs} {k:Nat} (h:Paid s t k) (p:Pays t u):Paid s u k:=⟨Nat.le_trans h.1 p.1,by have:=h.2;have:=p.2;omega⟩
theorem Paid.take {s t:Rs} {k:Nat} (h:Paid s t k) (T:List Tk) (x:Bytes):Paid s (Ref.take T x t) k:=h.by (pays_take T x t)
theorem Paid.number {s t:Rs} {k:Nat} (h:Paid s t k) (T:List Tk) (lo hi:Nat):Paid s (rnumber T lo hi t).2 k:=h.by (pays_number T lo hi t)
theorem Paid.node {s t:Rs} {k:Nat} (h:Paid s t (k+1)) (n:Nd):Paid s (Ref.node n t).2 k:=by
 refine⟨h.1,?_⟩
 show 2*s.p+(t.ns++[n]).length+k<=2*t.p+s.ns.length
 rw[List.length_append]
 have:=h.2
 simp only[List.length_singleton]
 omega
theorem Paid.const {s t:Rs} {k:Nat} (h:Paid s t (k+1)) (T:List Tk):Paid s (rconst T t).2 k:=by
 obtain⟨c1,c2⟩:=pays_const T t
 exact⟨Nat.le_trans h.1 c1,by have:=h.2;omega⟩
theorem atom_pays {T:List Tk} {f:Nat->Nat->Rs->Option (Nat×Rs)} (hf:∀t l s x,f t l s=some x->Pays s x.2) {s:Rs} {x:Nat×Rs} (h:ratom T f s=some x):Pays s x.2:=by
 unfold ratom at h
 by_cases c1:s.fe≠0
 ·rw[if_pos c1] at h
  obtain rfl:=osi h;exact Pays.refl _
 rw[if_neg c1] at h
 by_cases c2:(now T s).e=0/\(now T s).number=true
 ·rw[if_pos c2] at h
  obtain rfl:=osi h;exact ((Paid.up s).node _).pays
 rw[if_neg c2] at h
 by_cases c3:(now T s).e=0/\(now T s).name=true
 ·rw[if_pos c3] at h
  obtain rfl:=osi h;exact ((Paid.up s).node _).pays
 rw[if_neg c3] at h
 by_cases c4:(now T s).e≠0
 ·rw[if_pos c4] at h
  obtain rfl:=osi h;exact pays_fail T 3 s
 rw[if_neg c4] at h
 by_cases c5:(now T s).t=wTrue\/(now T s).t=wFalse
 ·rw[if_pos c5] at h
  obtain rfl:=osi h
  unfold rconst
  by_cases i1:is T wTrue s=true
  ·rw[if_pos i1];exact ((Paid.up s).node _).pays
  rw[if_neg i1]
  by_cases i2:is T wFalse s=true
  ·rw[if_pos i2];exact ((Paid.up s).node _).pays
  exfalso
  have h1':s.fe=0:=Decidable.not_not.1 c1
  have h4':(now T s).e=0:=Decidable.not_not.1 c4
  have h3':(now T s).name=false:=by
   cases hn:(now T s).name
   ·rfl
   ·exact absurd ⟨h4',hn⟩ c3
  rcases c5 with h5|h5
  ·exact i1 (by unfold is;rw[h1',h4',h5,h3'];rfl)
  ·exact i2 (by unfold is;rw[h1',h4',h5,h3'];rfl)
 rw[if_neg c5] at h
 by_cases c6:(now T s).t=sOpen
 ·rw[if_pos c6] at h
  obtain⟨a,ha,rfl⟩:=oms h
  exact (((Paid.up s).by (hf _ _ _ _ ha)).take T _).pays
 rw[if_neg c6] at h
 by_cases c7:(now T s).t=wFby
 ·rw[if_pos c7] at h
  obtain⟨a,ha,rfl⟩:=oms h
  exact ((((((Paid.up s).take T _).const T).take T _).by (hf _ _ _ _ ha)).take T _ |>.node _).pays
 rw[if_neg c7] at h
 by_cases c8:(now T s).t=wHold
 ·rw[if_pos c8] at h
  obtain⟨a,ha,rfl⟩:=oms h
  exact (((((((Paid.up s).take T _).const T).take T _).by (hf _ _ _ _ ha)).take T _ |>.number T _ _).take T _ |>.node _).pays
 rw[if_neg c8] at h
 by_cases c9:(now T s).t=wUnder
 ·rw[if_pos c9] at h
  obtain⟨a,ha,rfl⟩:=oms h
  exact ((((((Paid.up s).take T _).by (hf _ _ _ _ ha)).take T _).number T _ _).take T _ |>.node _).pays
 rw[if_neg c9] at h
 by_cases c10:(now T s).t=wMin\/(now T s).t=wMax
 ·rw[if_pos c10] at h
  obtain⟨a,ha,h⟩:=obs h
  obtain⟨c,hc,rfl⟩:=oms h
  exact ((((((Paid.up s).take T _).by (hf _ _ _ _ ha)).take T _).by (hf _ _ _ _ hc)).take T _ |>.node _).pays
 rw[if_neg c10] at h
 obtain rfl:=osi h
 exact pays_fail T 3 s
theorem rx_pays (T:List Tk):∀(n t l:Nat) (s:Rs) (x:Nat×Rs),rx T n t l s=some x->Pays s x.2
 | 0,_,_,_,_,h=>by cases h
 | n+1,t,l,s,x,h=>by
  have ih:=rx_pays T n
  rw[rx_succ] at h
  unfold rstep at h
  by_cases c0:t=0
  ·rw[if_pos c0] at h
   by_cases c1:is T wIf s=true
   ·rw[if_pos c1] at h
    obtain⟨a,ha,h⟩:=obs h
    obtain⟨b,hb,h⟩:=obs h
    obtain⟨c,hc,rfl⟩:=oms h
    exact ((((((Paid.up s).by (ih _ _ _ _ ha)).take T _).by (ih _ _ _ _ hb)).take T _).by (ih _ _ _ _ hc) |>.node _).pays
   ·rw[if_neg c1] at h
    exact ih _ _ _ _ h
  rw[if_neg c0] at h
  by_cases c8:t=8
  ·rw[if_pos c8] at h
   exact atom_pays ih h
  rw[if_neg c8] at h
  by_cases c7:t=7
  ·rw[if_pos c7] at h
   by_cases c1:is T sMinus s=true
   ·rw[if_pos c1] at h
    obtain⟨a,ha,rfl⟩:=oms h
    exact (((Paid.up s).by (ih _ _ _ _ ha)).node _).pays
   ·rw[if_neg c1] at h
    exact ih _ _ _ _ h
  rw[if_neg c7] at h
  by_cases c3:t=3
  ·rw[if_pos c3] at h
   by_cases c1:is T wNot s=true
   ·rw[if_pos c1] at h
    obtain⟨a,ha,rfl⟩:=oms h
    exact (((Paid.up s).by (ih _ _ _ _ ha)).node _).pays
   ·rw[if_neg c1] at h
    exact ih _ _ _ _ h
  rw[if_neg c3] at h
  by_cases c9:t < 8
  ·rw[if_pos c9] at h
   obtain⟨a,ha,h⟩:=obs h
   exact (ih _ _ _ _ ha).trans (ih _ _ _ _ h)
  rw[if_neg c9] at h
  by_cases c1:s.fe=0/\(now T s).e=0/\(now T s).name=false/\level (now T s).t=t - 10
  ·rw[if_pos c1] at h
   obtain⟨a,ha,h⟩:=obs h
   by_cases c2:t=14
   ·rw[if_pos c2] at h
    obtain rfl:=osi h
    exact (((Paid.up s).by (ih _ _ _ _ ha)).node _).pays
   ·rw[if_neg c2] at h
    exact (((Paid.up s).by (ih _ _ _ _ ha)).node _).pays.trans (ih _ _ _ _ h)
  ·rw[if_neg c1] at h
   obtain rfl:=osi h
   exact Pays.refl _
theorem Rx.pays {T:List Tk} {t l:Nat} {s:Rs} {x:Nat×Rs} (h:Rx T t l s x):Pays s x.2:=by
 obtain⟨n,hn⟩:=h
 exact rx_pays T n _ _ _ _ hn
end Ref
end
end Go.Proofs.YtoiajojadihpbaaGreatDoor
