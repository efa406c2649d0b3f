import Derived.Test.YtjehljjlcifndaaGreatDoorV31
namespace Go.Proofs.YtjehljjlcifndaaGreatDoor
set_option maxHeartbeats 32000000
set_option maxRecDepth 100000
section
open Go.RowKit
variable {lo:Nat} {w:World}
theorem Bv.conv {f:Nat} {c:Array Value} {α α':Al} {φ φ':Ph2} (h:Bv lo w f c α φ) (ha:∀d n,α' d n->α d n) (hp:∀S n,φ S n=φ' S n):Bv lo w f c α' φ':=
 ⟨h.1,fun I sv S d hE hS n w hI hd=>by rw[<-hp];exact h.2 I sv S d hE hS n w hI (ha d n hd)⟩
theorem FnP.conv {X X':World->Nat->Array Value->Prop} {E:Ending} {w':World} (h:FnP w X E w') (hx:∀f c,X w' f c->X' w' f c):FnP w X' E w':=by
 obtain⟨h1,f,c,h2,h3⟩:=h
 exact⟨h1,f,c,h2,hx f c h3⟩
abbrev Xb (lo:Nat) (α:Al) (φ:Ph2):World->Nat->Array Value->Prop:=fun w f c=>Bv lo w f c α φ
def Rall2 (ρ:Mbi):Prop:=∀x,Rf (bs x) (ρ x)
theorem ofPrefix_is {ρ:Mbi} (hr:Rall2 ρ) (s:ByteArray) {k:Int} (hk:k=if (s.toList==[110,111,116])=true then 1 else 0) {f1:Nat} {c1:Array Value} {α1:Al} {φ1:Ph2} {w:World} (hlo:lo<=w.heap.size) (h1:Bv lo w f1 c1 α1 φ1):Calls Tryz.prog 94 #[.string s,.func (.func f1) #[] c1] w (FnP w (Xb lo α1 (fun S n=>(φ1 S n).bind fun v=>some (ρ Mil.sMinus k v)))):=by
 have H1:=hid h1
 have HR:Hid (∀w,Calls Tryz.prog 96 #[.string (bs Mil.sMinus)] w (FnP w fun _ f c=>Rkn f c (ρ Mil.sMinus))):=(hr Mil.sMinus).2.2
 have HLO:=hid hlo
 clear h1 hr hlo
 go_enter Tryz.func94,Tryz.ntmps94
 by_cases hq:(s.toList==[110,111,116])=true
 rotate_left 1
 replace hq:(s.toList==[110,111,116])=false:=by simpa using hq
 rotate_left 1
 all_goals rw[hq] at hk
 all_goals have HKK:Hid (k=_):=hk
 all_goals clear hk
 all_goals (go_wp2_with fail)
 all_goals refine (HR.out _).mono ?_
 all_goals rintro e w2 ⟨hb2,f2,c2,rfl,hy2⟩
 all_goals have HB2:Hid (Below w.heap.size w w2/\Rkn f2 c2 (ρ Mil.sMinus)):=⟨hb2,hy2⟩
 all_goals clear hb2 hy2
 all_goals (go_wp2_with fail)
 all_goals refine (always_is (lo:=lo) _ _ (Nat.le_trans HLO.out HB2.out.1.size)).mono ?_
 all_goals rintro e w3 ⟨hb3,f3,c3,rfl,hy3⟩
 ·have HB3:Hid (Below w.heap.size w w3/\Bv lo w3 f3 c3 (fun _ _=>True) (fun _ _=>some 1)):=⟨zaa HB2.out.1 hb3,hy3⟩
  clear hb3 hy3
  go_wp2_with fail
  refine (ofTwo_is (Nat.le_trans HLO.out HB3.out.1.size) HB2.out.2 HB3.out.2 (H1.out.mono HB3.out.1)).mono ?_
  rintro e w4 ⟨hb4,f4,c4,rfl,hy4⟩
  have HB4:Hid (Below w.heap.size w w4/\Bv lo w4 f4 c4 _ _):=⟨zaa HB3.out.1 hb4,hy4⟩
  clear hb4 hy4
  go_wp2
  go_ret
  refine⟨HB4.out.1,_,_,rfl,HB4.out.2.conv (fun d n h=>⟨trivial,h⟩) (fun S n=>?_)⟩
  rw[HKK.out];rfl
 ·have HB3:Hid (Below w.heap.size w w3/\Bv lo w3 f3 c3 (fun _ _=>True) (fun _ _=>some 0)):=⟨zaa HB2.out.1 hb3,hy3⟩
  clear hb3 hy3
  go_wp2_with fail
  refine (ofTwo_is (Nat.le_trans HLO.out HB3.out.1.size) HB2.out.2 HB3.out.2 (H1.out.mono HB3.out.1)).mono ?_
  rintro e w4 ⟨hb4,f4,c4,rfl,hy4⟩
  have HB4:Hid (Below w.heap.size w w4/\Bv lo w4 f4 c4 _ _):=⟨zaa HB3.out.1 hb4,hy4⟩
  clear hb4 hy4
  go_wp2
  go_ret
  refine⟨HB4.out.1,_,_,rfl,HB4.out.2.conv (fun d n h=>⟨trivial,h⟩) (fun S n=>?_)⟩
  rw[HKK.out];rfl
theorem we_int (N:Nat) (a:Nat->Addr) (c b n:Nat) (m:Mbo) (p:Nat) (k:Nat) (w:World) (hN:Nm a c b n m w/\lo<=w.heap.size) :
  Calls Tryz.prog 59 #[.pointer (some ⟨c,0,none⟩),.iface 183 (.agg #[.int .i64 ((N:Int) - (p:Nat)),.int .i64 (k:Nat)])] w (FnP w (Xb lo (fun _ _=>True) (fun _ _=>some (k:Nat)))):=by
 have HN:=hid hN.1
 have HLO:=hid hN.2
 have HB:Hid (Below w.heap.size w (w.alloc (.cells #[.int .i64 ((N:Int) - (p:Nat)),.int .i64 (k:Nat)] 183))):=brf.alloc nlr _
 have t_int:=ta_int_int (.agg #[.int .i64 ((N:Int) - (p:Nat)),.int .i64 (k:Nat)])
 clear hN
 go_enter Tryz.func59,Tryz.ntmps59
 go_wp2_with fail
 refine (always_is (lo:=lo) _ _ (Nat.le_trans HLO.out HB.out.size)).mono ?_
 rintro e w2 ⟨hb2,f2,c2,rfl,hy2⟩
 have HB2:Hid (Below w.heap.size w w2/\Bv lo w2 f2 c2 _ _):=⟨zaa HB.out hb2,hy2⟩
 clear hb2 hy2
 go_wp2
 go_ret
 exact⟨HB2.out.1,_,_,rfl,HB2.out.2⟩
theorem we_bool (N:Nat) (a:Nat->Addr) (c b n:Nat) (m:Mbo) (p:Nat) (k:Nat) (w:World) (hN:Nm a c b n m w/\lo<=w.heap.size) :
  Calls Tryz.prog 59 #[.pointer (some ⟨c,0,none⟩),.iface 186 (.agg #[.int .i64 ((N:Int) - (p:Nat)),.bool (k==1)])] w (FnP w (Xb lo (fun _ _=>True) (fun _ _=>some (if (k==1)=true then 1 else 0)))):=by
 have HN:=hid hN.1
 have HLO:=hid hN.2
 have HB:Hid (Below w.heap.size w (w.alloc (.cells #[.int .i64 ((N:Int) - (p:Nat)),.bool (k==1)] 186))):=brf.alloc nlr _
 have t_int:=ta_bool_int (.agg #[.int .i64 ((N:Int) - (p:Nat)),.bool (k==1)])
 have t_bool:=ta_bool_bool (.agg #[.int .i64 ((N:Int) - (p:Nat)),.bool (k==1)])
 clear hN
 generalize hz:(if (k==1)=true then (1:Int) else 0)=z
 have HZ:=hid hz
 clear hz
 go_enter Tryz.func59,Tryz.ntmps59
 go_wp2_with fail
 refine ((zbg _ _).mono (R':=fun E w'=>E=.returned (.int .i64 z)/\_=w') (fun E w' h=>by rw[<-HZ.out];exact h)).mono ?_
 rintro e u ⟨rfl,rfl⟩
 go_wp2_with fail
 refine (always_is (lo:=lo) _ _ (Nat.le_trans HLO.out HB.out.size)).mono ?_
 rintro e w2 ⟨hb2,f2,c2,rfl,hy2⟩
 have HB2:Hid (Below w.heap.size w w2/\Bv lo w2 f2 c2 _ _):=⟨zaa HB.out hb2,hy2⟩
 clear hb2 hy2
 go_wp2
 go_ret
 exact⟨HB2.out.1,_,_,rfl,HB2.out.2⟩
theorem we_name (N:Nat) (a:Nat->Addr) (c b n:Nat) (m:Mbo) (p:Nat) (x:Mil.Bytes) (hx:x.length<=4000) (w:World) (hN:Nm a c b n m w/\lo<=w.heap.size) :
  Calls Tryz.prog 59 #[.pointer (some ⟨c,0,none⟩),.iface 119 (.agg #[.int .i64 ((N:Int) - (p:Nat)),.string (bs x)])] w (FnP w (Xb lo (fun d n=>d ((m x).getD 0) n) (fun S n=>S ((m x).getD 0) n))):=by
 have HN:=hid hN.1
 have HLO:=hid hN.2
 have HB:Hid (Below w.heap.size w (w.alloc (.cells #[.int .i64 ((N:Int) - (p:Nat)),.string (bs x)] 119))):=brf.alloc nlr _
 have t_int:=ta_name_int (.agg #[.int .i64 ((N:Int) - (p:Nat)),.string (bs x)])
 have t_bool:=ta_name_bool (.agg #[.int .i64 ((N:Int) - (p:Nat)),.string (bs x)])
 have t_name:=zbw (.agg #[.int .i64 ((N:Int) - (p:Nat)),.string (bs x)])
 clear hN
 have k1:∀w',Below (w.alloc (.cells #[.int .i64 ((N:Int) - (p:Nat)),.string (bs x)] 119)).heap.size (w.alloc (.cells #[.int .i64 ((N:Int) - (p:Nat)),.string (bs x)] 119)) w'->w'.cell? ⟨w.heap.size,1,none⟩=some (.string (bs x)):=fun w' hb=>(hb.cell (by simp)).trans (by simp)
 have N1:=HN.out.below HB.out
 have hc2:∀w',Below (w.alloc (.cells #[.int .i64 ((N:Int) - (p:Nat)),.string (bs x)] 119)).heap.size (w.alloc (.cells #[.int .i64 ((N:Int) - (p:Nat)),.string (bs x)] 119)) w'->w'.cell? ⟨c,2,none⟩=some (.map (some b)):=fun w' hb=>(N1.below hb).c2
 have hl:∀w',Below (w.alloc (.cells #[.int .i64 ((N:Int) - (p:Nat)),.string (bs x)] 119)).heap.size (w.alloc (.cells #[.int .i64 ((N:Int) - (p:Nat)),.string (bs x)] 119)) w'->(Instr.lookup 81 (.map (some b)) (.string (bs x)) false).run Tryz.prog w'=.ok (.int .i64 ((m x).getD 0)) w':=fun w' hb=>(N1.below hb).mp.at_ x hx
 clear N1 hx
 go_enter Tryz.func59,Tryz.ntmps59
 go_wp2_with fail
 have HLW:Hid (lo<=(w.alloc (.cells #[.int .i64 ((N:Int) - (p:Nat)),.string (bs x)] 119)).heap.size):=Nat.le_trans HLO.out HB.out.size
 generalize hW:(w.alloc (.cells #[.int .i64 ((N:Int) - (p:Nat)),.string (bs x)] 119))=W at HLW HB k1 hc2 hl ⊢
 clear hW t_int t_bool t_name
 go_region_held3 (fun w'=>Below W.heap.size W w') (first|assumption|exact brf.drew) (first
  | (go_at_call 93;(with_reducible refine (ofFlow_is (lo:=lo) _ _ ?_).mono ?_);exact Nat.le_trans HLW.out (Below.size (by assumption));rintro e w9 ⟨hbw9,f9,c9,rfl,hy9⟩;have HY9:Hid (Bv lo w9 f9 c9 _ _):=hy9;clear hy9;have hBw9:Below W.heap.size W w9:=zaa (by assumption) hbw9))
 all_goals go_wp2
 all_goals go_ret
 all_goals exact⟨zaa HB.out hBw9,_,_,rfl,HY9.out⟩
theorem we_pre (N:Nat) (a:Nat->Addr) (c b n:Nat) (m:Mbo) {ρ:Mbi} (hr:Rall2 ρ) (p:Nat) (x:Mil.Bytes) (ta:TypeId) (ya:Value) {αa:Al} {φa:Ph2} (iha:∀w,Nm a c b n m w/\lo<=w.heap.size->Calls Tryz.prog 59 #[.pointer (some ⟨c,0,none⟩),.iface ta ya] w (FnP w (Xb lo αa φa))) (w:World) (hN:Nm a c b n m w/\lo<=w.heap.size) :
  Calls Tryz.prog 59 #[.pointer (some ⟨c,0,none⟩),.iface 190 (.agg #[.int .i64 ((N:Int) - (p:Nat)),.string (bs x),.iface ta ya])] w (FnP w (Xb lo αa (fun S n=>(φa S n).bind fun v=>some (ρ Mil.sMinus (if ((bs x).toList==[110,111,116])=true then 1 else 0) v)))):=by
 have HN:=hid hN.1
 have HLO:=hid hN.2
 have HB:Hid (Below w.heap.size w (w.alloc (.cells #[.int .i64 ((N:Int) - (p:Nat)),.string (bs x),.iface ta ya] 190))):=brf.alloc nlr _
 have HR:=hid hr
 generalize hz:(if ((bs x).toList==[110,111,116])=true then (1:Int) else 0)=z
 have HZ:=hid hz.symm
 clear hz
 have t_int:=ta_pre_int (.agg #[.int .i64 ((N:Int) - (p:Nat)),.string (bs x),.iface ta ya])
 have t_bool:=ta_pre_bool (.agg #[.int .i64 ((N:Int) - (p:Nat)),.string (bs x),.iface ta ya])
 have t_name:=ta_pre_name (.agg #[.int .i64 ((N:Int) - (p:Nat)),.string (bs x),.iface ta ya])
 have t_pre:=ta_pre_pre (.agg #[.int .i64 ((N:Int) - (p:Nat)),.string (bs x),.iface ta ya])
 have IHa:=hid iha
 clear hN iha hr
 have k1:∀w',Below (w.alloc (.cells #[.int .i64 ((N:Int) - (p:Nat)),.string (bs x),.iface ta ya] 190)).heap.size (w.alloc (.cells #[.int .i64 ((N:Int) - (p:Nat)),.string (bs x),.iface ta ya] 190)) w'->w'.cell? ⟨w.heap.size,1,none⟩=some (.string (bs x)):=fun w' hb=>(hb.cell (by simp)).trans (by simp)
 have k2:∀w',Below (w.alloc (.cells #[.int .i64 ((N:Int) - (p:Nat)),.string (bs x),.iface ta ya] 190)).heap.size (w.alloc (.cells #[.int .i64 ((N:Int) - (p:Nat)),.string (bs x),.iface ta ya] 190)) w'->w'.cell? ⟨w.heap.size,2,none⟩=some (.iface ta ya):=fun w' hb=>(hb.cell (by simp)).trans (by simp)
 go_enter Tryz.func59,Tryz.ntmps59
 go_wp2_with fail
 have HLW:Hid (lo<=(w.alloc (.cells #[.int .i64 ((N:Int) - (p:Nat)),.string (bs x),.iface ta ya] 190)).heap.size):=Nat.le_trans HLO.out HB.out.size
 generalize hW:(w.alloc (.cells #[.int .i64 ((N:Int) - (p:Nat)),.string (bs x),.iface ta ya] 190))=W at HLW HB k1 k2 ⊢
 clear hW t_int t_bool t_name t_pre
 go_region_held3 (fun w'=>Below W.heap.size W w') (first|assumption|exact brf.drew) (first
  | (go_at_call 59;(with_reducible refine (IHa.out _ ?_).mono ?_);exact⟨(HN.out.below HB.out).below (by assumption),Nat.le_trans HLW.out (Below.size (by assumption))⟩;rintro e w4 ⟨hbw4,f4,c4,rfl,hy4⟩;have HY4:Hid (Bv lo w4 f4 c4 αa φa):=hy4;clear hy4;have hBw4:Below W.heap.size W w4:=zaa (by assumption) hbw4)
  | (go_at_call 94;refine (ofPrefix_is HR.out _ HZ.out (Nat.le_trans HLW.out (Below.size hBw4)) HY4.out).mono ?_;rintro e w9 ⟨hbw9,f9,c9,rfl,hy9⟩;have HY9:Hid (Bv lo w9 f9 c9 _ _):=hy9;clear hy9;have hBw9:Below W.heap.size W w9:=zaa (by assumption) hbw9))
 all_goals go_wp2
 all_goals go_ret
 all_goals exact⟨zaa HB.out hBw9,_,_,rfl,HY9.out⟩
theorem we_two (N:Nat) (a:Nat->Addr) (c b n:Nat) (m:Mbo) {ρ:Mbi} (hr:Rall2 ρ) (p:Nat) (x:Mil.Bytes) (ta:TypeId) (ya:Value) {αa:Al} {φa:Ph2} (tb:TypeId) (yb:Value) {αb:Al} {φb:Ph2} (iha:∀w,Nm a c b n m w/\lo<=w.heap.size->Calls Tryz.prog 59 #[.pointer (some ⟨c,0,none⟩),.iface ta ya] w (FnP w (Xb lo αa φa))) (ihb:∀w,Nm a c b n m w/\lo<=w.heap.size->Calls Tryz.prog 59 #[.pointer (some ⟨c,0,none⟩),.iface tb yb] w (FnP w (Xb lo αb φb))) (w:World) (hN:Nm a c b n m w/\lo<=w.heap.size) :
  Calls Tryz.prog 59 #[.pointer (some ⟨c,0,none⟩),.iface 193 (.agg #[.int .i64 ((N:Int) - (p:Nat)),.string (bs x),.iface ta ya,.iface tb yb])] w (FnP w (Xb lo (fun d n=>αa d n/\αb d n) (fun S n=>(φa S n).bind fun u=>(φb S n).bind fun v=>some (ρ x u v)))):=by
 have HN:=hid hN.1
 have HLO:=hid hN.2
 have HB:Hid (Below w.heap.size w (w.alloc (.cells #[.int .i64 ((N:Int) - (p:Nat)),.string (bs x),.iface ta ya,.iface tb yb] 193))):=brf.alloc nlr _
 have HRx:Hid (∀w,Calls Tryz.prog 96 #[.string (bs x)] w (FnP w fun _ f c=>Rkn f c (ρ x))):=(hr x).2.2
 have t_int:=ta_two_int (.agg #[.int .i64 ((N:Int) - (p:Nat)),.string (bs x),.iface ta ya,.iface tb yb])
 have t_bool:=ta_two_bool (.agg #[.int .i64 ((N:Int) - (p:Nat)),.string (bs x),.iface ta ya,.iface tb yb])
 have t_name:=ta_two_name (.agg #[.int .i64 ((N:Int) - (p:Nat)),.string (bs x),.iface ta ya,.iface tb yb])
 have t_pre:=ta_two_pre (.agg #[.int .i64 ((N:Int) - (p:Nat)),.string (bs x),.iface ta ya,.iface tb yb])
 have t_two:=ta_two_two (.agg #[.int .i64 ((N:Int) - (p:Nat)),.string (bs x),.iface ta ya,.iface tb yb])
 have IHa:=hid iha
 have IHb:=hid ihb
 clear hN iha ihb hr
 have k1:∀w',Below (w.alloc (.cells #[.int .i64 ((N:Int) - (p:Nat)),.string (bs x),.iface ta ya,.iface tb yb] 193)).heap.size (w.alloc (.cells #[.int .i64 ((N:Int) - (p:Nat)),.string (bs x),.iface ta ya,.iface tb yb] 193)) w'->w'.cell? ⟨w.heap.size,1,none⟩=some (.string (bs x)):=fun w' hb=>(hb.cell (by simp)).trans (by simp)
 have k2:∀w',Below (w.alloc (.cells #[.int .i64 ((N:Int) - (p:Nat)),.string (bs x),.iface ta ya,.iface tb yb] 193)).heap.size (w.alloc (.cells #[.int .i64 ((N:Int) - (p:Nat)),.string (bs x),.iface ta ya,.iface tb yb] 193)) w'->w'.cell? ⟨w.heap.size,2,none⟩=some (.iface ta ya):=fun w' hb=>(hb.cell (by simp)).trans (by simp)
 have k3:∀w',Below (w.alloc (.cells #[.int .i64 ((N:Int) - (p:Nat)),.string (bs x),.iface ta ya,.iface tb yb] 193)).heap.size (w.alloc (.cells #[.int .i64 ((N:Int) - (p:Nat)),.string (bs x),.iface ta ya,.iface tb yb] 193)) w'->w'.cell? ⟨w.heap.size,3,none⟩=some (.iface tb yb):=fun w' hb=>(hb.cell (by simp)).trans (by simp)
 go_enter Tryz.func59,Tryz.ntmps59
 go_wp2_with fail
 have HLW:Hid (lo<=(w.alloc (.cells #[.int .i64 ((N:Int) - (p:Nat)),.string (bs x),.iface ta ya,.iface tb yb] 193)).heap.size):=Nat.le_trans HLO.out HB.out.size
 generalize hW:(w.alloc (.cells #[.int .i64 ((N:Int) - (p:Nat)),.string (bs x),.iface ta ya,.iface tb yb] 193))=W at HLW HB k1 k2 k3 ⊢
 clear hW t_int t_bool t_name t_pre t_two
 go_region_held3 (fun w'=>Below W.heap.size W w') (first|assumption|exact brf.drew) (first
  | (go_at_call 96;(with_reducible refine (HRx.out _).mono ?_);rintro e w8 ⟨hbw8,f8,c8,rfl,hy8⟩;have HY8:Hid (Rkn f8 c8 (ρ x)):=hy8;clear hy8;have hBw8:Below W.heap.size W w8:=zaa (by assumption) hbw8)
  | (go_at_call 59;(with_reducible refine (IHa.out _ ?_).mono ?_);exact⟨(HN.out.below HB.out).below (by assumption),Nat.le_trans HLW.out (Below.size (by assumption))⟩;rintro e w4 ⟨hbw4,f4,c4,rfl,hy4⟩;have HY4:Hid (Bv lo w4 f4 c4 αa φa):=hy4;clear hy4;have hBw4:Below W.heap.size W w4:=zaa (by assumption) hbw4)
  | (go_at_call 59;(with_reducible refine (IHb.out _ ?_).mono ?_);exact⟨(HN.out.below HB.out).below (by assumption),Nat.le_trans HLW.out (Below.size (by assumption))⟩;rintro e w5 ⟨hbw5,f5,c5,rfl,hy5⟩;have HY5:Hid (Bv lo w5 f5 c5 αb φb):=hy5;clear hy5;have hBw5:Below W.heap.size W w5:=zaa (by assumption) hbw5)
  | (go_at_call 95;refine (ofTwo_is (Nat.le_trans HLW.out (Below.size hBw5)) HY8.out (HY4.out.mono hbw5) HY5.out).mono ?_;rintro e w9 ⟨hbw9,f9,c9,rfl,hy9⟩;have HY9:Hid (Bv lo w9 f9 c9 _ _):=hy9;clear hy9;have hBw9:Below W.heap.size W w9:=zaa (by assumption) hbw9))
 all_goals go_wp2
 all_goals go_ret
 all_goals exact⟨zaa HB.out hBw9,_,_,rfl,HY9.out⟩
theorem we_if (N:Nat) (a:Nat->Addr) (c b n:Nat) (m:Mbo) (p:Nat) (ta:TypeId) (ya:Value) {αa:Al} {φa:Ph2} (tb:TypeId) (yb:Value) {αb:Al} {φb:Ph2} (td:TypeId) (yd:Value) {αd:Al} {φd:Ph2} (iha:∀w,Nm a c b n m w/\lo<=w.heap.size->Calls Tryz.prog 59 #[.pointer (some ⟨c,0,none⟩),.iface ta ya] w (FnP w (Xb lo αa φa))) (ihb:∀w,Nm a c b n m w/\lo<=w.heap.size->Calls Tryz.prog 59 #[.pointer (some ⟨c,0,none⟩),.iface tb yb] w (FnP w (Xb lo αb φb))) (ihd:∀w,Nm a c b n m w/\lo<=w.heap.size->Calls Tryz.prog 59 #[.pointer (some ⟨c,0,none⟩),.iface td yd] w (FnP w (Xb lo αd φd))) (w:World) (hN:Nm a c b n m w/\lo<=w.heap.size) :
  Calls Tryz.prog 59 #[.pointer (some ⟨c,0,none⟩),.iface 200 (.agg #[.int .i64 ((N:Int) - (p:Nat)),.iface ta ya,.iface tb yb,.iface td yd])] w (FnP w (Xb lo (fun d n=>αa d n/\(αb d n/\αd d n)) (fun S n=>(φa S n).bind fun h=>(φb S n).bind fun u=>(φd S n).bind fun v=>some (if h=0 then v else u)))):=by
 have HN:=hid hN.1
 have HLO:=hid hN.2
 have HB:Hid (Below w.heap.size w (w.alloc (.cells #[.int .i64 ((N:Int) - (p:Nat)),.iface ta ya,.iface tb yb,.iface td yd] 200))):=brf.alloc nlr _
 have t_int:=ta_if_int (.agg #[.int .i64 ((N:Int) - (p:Nat)),.iface ta ya,.iface tb yb,.iface td yd])
 have t_bool:=ta_if_bool (.agg #[.int .i64 ((N:Int) - (p:Nat)),.iface ta ya,.iface tb yb,.iface td yd])
 have t_name:=ta_if_name (.agg #[.int .i64 ((N:Int) - (p:Nat)),.iface ta ya,.iface tb yb,.iface td yd])
 have t_pre:=ta_if_pre (.agg #[.int .i64 ((N:Int) - (p:Nat)),.iface ta ya,.iface tb yb,.iface td yd])
 have t_two:=ta_if_two (.agg #[.int .i64 ((N:Int) - (p:Nat)),.iface ta ya,.iface tb yb,.iface td yd])
 have t_least:=ta_if_least (.agg #[.int .i64 ((N:Int) - (p:Nat)),.iface ta ya,.iface tb yb,.iface td yd])
 have t_if:=ta_if_if (.agg #[.int .i64 ((N:Int) - (p:Nat)),.iface ta ya,.iface tb yb,.iface td yd])
 have IHa:=hid iha
 have IHb:=hid ihb
 have IHd:=hid ihd
 clear hN iha ihb ihd
 have k1:∀w',Below (w.alloc (.cells #[.int .i64 ((N:Int) - (p:Nat)),.iface ta ya,.iface tb yb,.iface td yd] 200)).heap.size (w.alloc (.cells #[.int .i64 ((N:Int) - (p:Nat)),.iface ta ya,.iface tb yb,.iface td yd] 200)) w'->w'.cell? ⟨w.heap.size,1,none⟩=some (.iface ta ya):=fun w' hb=>(hb.cell (by simp)).trans (by simp)
 have k2:∀w',Below (w.alloc (.cells #[.int .i64 ((N:Int) - (p:Nat)),.iface ta ya,.iface tb yb,.iface td yd] 200)).heap.size (w.alloc (.cells #[.int .i64 ((N:Int) - (p:Nat)),.iface ta ya,.iface tb yb,.iface td yd] 200)) w'->w'.cell? ⟨w.heap.size,2,none⟩=some (.iface tb yb):=fun w' hb=>(hb.cell (by simp)).trans (by simp)
 have k3:∀w',Below (w.alloc (.cells #[.int .i64 ((N:Int) - (p:Nat)),.iface ta ya,.iface tb yb,.iface td yd] 200)).heap.size (w.alloc (.cells #[.int .i64 ((N:Int) - (p:Nat)),.iface ta ya,.iface tb yb,.iface td yd] 200)) w'->w'.cell? ⟨w.heap.size,3,none⟩=some (.iface td yd):=fun w' hb=>(hb.cell (by simp)).trans (by simp)
 go_enter Tryz.func59,Tryz.ntmps59
 go_wp2_with fail
 have HLW:Hid (lo<=(w.alloc (.cells #[.int .i64 ((N:Int) - (p:Nat)),.iface ta ya,.iface tb yb,.iface td yd] 200)).heap.size):=Nat.le_trans HLO.out HB.out.size
 generalize hW:(w.alloc (.cells #[.int .i64 ((N:Int) - (p:Nat)),.iface ta ya,.iface tb yb,.iface td yd] 200))=W at HLW HB k1 k2 k3 ⊢
 clear hW t_int t_bool t_name t_pre t_two t_least t_if
 go_region_held3 (fun w'=>Below W.heap.size W w') (first|assumption|exact brf.drew) (first
  | (go_at_call 59;(with_reducible refine (IHa.out _ ?_).mono ?_);exact⟨(HN.out.below HB.out).below (by assumption),Nat.le_trans HLW.out (Below.size (by assumption))⟩;rintro e w4 ⟨hbw4,f4,c4,rfl,hy4⟩;have HY4:Hid (Bv lo w4 f4 c4 αa φa):=hy4;clear hy4;have hBw4:Below W.heap.size W w4:=zaa (by assumption) hbw4)
  | (go_at_call 59;(with_reducible refine (IHb.out _ ?_).mono ?_);exact⟨(HN.out.below HB.out).below (by assumption),Nat.le_trans HLW.out (Below.size (by assumption))⟩;rintro e w5 ⟨hbw5,f5,c5,rfl,hy5⟩;have HY5:Hid (Bv lo w5 f5 c5 αb φb):=hy5;clear hy5;have hBw5:Below W.heap.size W w5:=zaa (by assumption) hbw5)
  | (go_at_call 59;(with_reducible refine (IHd.out _ ?_).mono ?_);exact⟨(HN.out.below HB.out).below (by assumption),Nat.le_trans HLW.out (Below.size (by assumption))⟩;rintro e w6 ⟨hbw6,f6,c6,rfl,hy6⟩;have HY6:Hid (Bv lo w6 f6 c6 αd φd):=hy6;clear hy6;have hBw6:Below W.heap.size W w6:=zaa (by assumption) hbw6)
  | (go_at_call 97;refine (ofChoice_is (Nat.le_trans HLW.out (Below.size hBw6)) ((HY4.out.mono hbw5).mono hbw6) (HY5.out.mono hbw6) HY6.out).mono ?_;rintro e w9 ⟨hbw9,f9,c9,rfl,hy9⟩;have HY9:Hid (Bv lo w9 f9 c9 _ _):=hy9;clear hy9;have hBw9:Below W.heap.size W w9:=zaa (by assumption) hbw9))
 all_goals go_wp2
 all_goals go_ret
 all_goals exact⟨zaa HB.out hBw9,_,_,rfl,HY9.out⟩
theorem we_fby (N:Nat) (a:Nat->Addr) (c b n:Nat) (m:Mbo) (p:Nat) (ta:TypeId) (ya:Value) {αa:Al} {φa:Ph2} (tb:TypeId) (yb:Value) {αb:Al} {φb:Ph2} (iha:∀w,Nm a c b n m w/\lo<=w.heap.size->Calls Tryz.prog 59 #[.pointer (some ⟨c,0,none⟩),.iface ta ya] w (FnP w (Xb lo αa φa))) (ihb:∀w,Nm a c b n m w/\lo<=w.heap.size->Calls Tryz.prog 59 #[.pointer (some ⟨c,0,none⟩),.iface tb yb] w (FnP w (Xb lo αb φb))) (w:World) (hN:Nm a c b n m w/\lo<=w.heap.size) :
  Calls Tryz.prog 59 #[.pointer (some ⟨c,0,none⟩),.iface 203 (.agg #[.int .i64 ((N:Int) - (p:Nat)),.iface ta ya,.iface tb yb])] w (FnP w (Xb lo (fun d n=>if n=0 then αa d n else αb d (wrap64 (n - 1))) (fun S n=>if n=0 then φa S n else φb S (wrap64 (n - 1))))):=by
 have HN:=hid hN.1
 have HLO:=hid hN.2
 have HB:Hid (Below w.heap.size w (w.alloc (.cells #[.int .i64 ((N:Int) - (p:Nat)),.iface ta ya,.iface tb yb] 203))):=brf.alloc nlr _
 have t_int:=ta_fby_int (.agg #[.int .i64 ((N:Int) - (p:Nat)),.iface ta ya,.iface tb yb])
 have t_bool:=ta_fby_bool (.agg #[.int .i64 ((N:Int) - (p:Nat)),.iface ta ya,.iface tb yb])
 have t_name:=ta_fby_name (.agg #[.int .i64 ((N:Int) - (p:Nat)),.iface ta ya,.iface tb yb])
 have t_pre:=ta_fby_pre (.agg #[.int .i64 ((N:Int) - (p:Nat)),.iface ta ya,.iface tb yb])
 have t_two:=ta_fby_two (.agg #[.int .i64 ((N:Int) - (p:Nat)),.iface ta ya,.iface tb yb])
 have t_least:=ta_fby_least (.agg #[.int .i64 ((N:Int) - (p:Nat)),.iface ta ya,.iface tb yb])
 have t_if:=ta_fby_if (.agg #[.int .i64 ((N:Int) - (p:Nat)),.iface ta ya,.iface tb yb])
 have t_fby:=zc1 (.agg #[.int .i64 ((N:Int) - (p:Nat)),.iface ta ya,.iface tb yb])
 have IHa:=hid iha
 have IHb:=hid ihb
 clear hN iha ihb
 have k1:∀w',Below (w.alloc (.cells #[.int .i64 ((N:Int) - (p:Nat)),.iface ta ya,.iface tb yb] 203)).heap.size (w.alloc (.cells #[.int .i64 ((N:Int) - (p:Nat)),.iface ta ya,.iface tb yb] 203)) w'->w'.cell? ⟨w.heap.size,1,none⟩=some (.iface ta ya):=fun w' hb=>(hb.cell (by simp)).trans (by simp)
 have k2:∀w',Below (w.alloc (.cells #[.int .i64 ((N:Int) - (p:Nat)),.iface ta ya,.iface tb yb] 203)).heap.size (w.alloc (.cells #[.int .i64 ((N:Int) - (p:Nat)),.iface ta ya,.iface tb yb] 203)) w'->w'.cell? ⟨w.heap.size,2,none⟩=some (.iface tb yb):=fun w' hb=>(hb.cell (by simp)).trans (by simp)
 go_enter Tryz.func59,Tryz.ntmps59
 go_wp2_with fail
 have HLW:Hid (lo<=(w.alloc (.cells #[.int .i64 ((N:Int) - (p:Nat)),.iface ta ya,.iface tb yb] 203)).heap.size):=Nat.le_trans HLO.out HB.out.size
 generalize hW:(w.alloc (.cells #[.int .i64 ((N:Int) - (p:Nat)),.iface ta ya,.iface tb yb] 203))=W at HLW HB k1 k2 ⊢
 clear hW t_int t_bool t_name t_pre t_two t_least t_if t_fby
 go_region_held3 (fun w'=>Below W.heap.size W w') (first|assumption|exact brf.drew) (first
  | (go_at_call 59;(with_reducible refine (IHa.out _ ?_).mono ?_);exact⟨(HN.out.below HB.out).below (by assumption),Nat.le_trans HLW.out (Below.size (by assumption))⟩;rintro e w4 ⟨hbw4,f4,c4,rfl,hy4⟩;have HY4:Hid (Bv lo w4 f4 c4 αa φa):=hy4;clear hy4;have hBw4:Below W.heap.size W w4:=zaa (by assumption) hbw4)
  | (go_at_call 59;(with_reducible refine (IHb.out _ ?_).mono ?_);exact⟨(HN.out.below HB.out).below (by assumption),Nat.le_trans HLW.out (Below.size (by assumption))⟩;rintro e w5 ⟨hbw5,f5,c5,rfl,hy5⟩;have HY5:Hid (Bv lo w5 f5 c5 αb φb):=hy5;clear hy5;have hBw5:Below W.heap.size W w5:=zaa (by assumption) hbw5)
  | (go_at_call 98;refine (later_is (Nat.le_trans HLW.out (Below.size hBw5)) (HY4.out.mono hbw5) HY5.out).mono ?_;rintro e w9 ⟨hbw9,f9,c9,rfl,hy9⟩;have HY9:Hid (Bv lo w9 f9 c9 _ _):=hy9;clear hy9;have hBw9:Below W.heap.size W w9:=zaa (by assumption) hbw9))
 all_goals go_wp2
 all_goals go_ret
 all_goals exact⟨zaa HB.out hBw9,_,_,rfl,HY9.out⟩
theorem we_under (N:Nat) (a:Nat->Addr) (c b n:Nat) (m:Mbo) (p:Nat) (k:Nat) (ta:TypeId) (ya:Value) {αa:Al} {φa:Ph2} (iha:∀w,Nm a c b n m w/\lo<=w.heap.size->Calls Tryz.prog 59 #[.pointer (some ⟨c,0,none⟩),.iface ta ya] w (FnP w (Xb lo αa φa))) (w:World) (hN:Nm a c b n m w/\lo<=w.heap.size) :
  Calls Tryz.prog 59 #[.pointer (some ⟨c,0,none⟩),.iface 206 (.agg #[.int .i64 ((N:Int) - (p:Nat)),.iface ta ya,.int .i64 (k:Nat)])] w (FnP w (Xb lo (fun d n=>αa d (wrap64 ((k:Nat)*n))) (fun S n=>φa S (wrap64 ((k:Nat)*n))))):=by
 have HN:=hid hN.1
 have HLO:=hid hN.2
 have HB:Hid (Below w.heap.size w (w.alloc (.cells #[.int .i64 ((N:Int) - (p:Nat)),.iface ta ya,.int .i64 (k:Nat)] 206))):=brf.alloc nlr _
 have t_int:=ta_under_int (.agg #[.int .i64 ((N:Int) - (p:Nat)),.iface ta ya,.int .i64 (k:Nat)])
 have t_bool:=zdt (.agg #[.int .i64 ((N:Int) - (p:Nat)),.iface ta ya,.int .i64 (k:Nat)])
 have t_name:=ta_under_name (.agg #[.int .i64 ((N:Int) - (p:Nat)),.iface ta ya,.int .i64 (k:Nat)])
 have t_pre:=zcp (.agg #[.int .i64 ((N:Int) - (p:Nat)),.iface ta ya,.int .i64 (k:Nat)])
 have t_two:=zco (.agg #[.int .i64 ((N:Int) - (p:Nat)),.iface ta ya,.int .i64 (k:Nat)])
 have t_least:=zc6 (.agg #[.int .i64 ((N:Int) - (p:Nat)),.iface ta ya,.int .i64 (k:Nat)])
 have t_if:=zdi (.agg #[.int .i64 ((N:Int) - (p:Nat)),.iface ta ya,.int .i64 (k:Nat)])
 have t_fby:=ta_under_fby (.agg #[.int .i64 ((N:Int) - (p:Nat)),.iface ta ya,.int .i64 (k:Nat)])
 have t_under:=zbt (.agg #[.int .i64 ((N:Int) - (p:Nat)),.iface ta ya,.int .i64 (k:Nat)])
 have IHa:=hid iha
 clear hN iha
 have k1:∀w',Below (w.alloc (.cells #[.int .i64 ((N:Int) - (p:Nat)),.iface ta ya,.int .i64 (k:Nat)] 206)).heap.size (w.alloc (.cells #[.int .i64 ((N:Int) - (p:Nat)),.iface ta ya,.int .i64 (k:Nat)] 206)) w'->w'.cell? ⟨w.heap.size,1,none⟩=some (.iface ta ya):=fun w' hb=>(hb.cell (by simp)).trans (by simp)
 have k2:∀w',Below (w.alloc (.cells #[.int .i64 ((N:Int) - (p:Nat)),.iface ta ya,.int .i64 (k:Nat)] 206)).heap.size (w.alloc (.cells #[.int .i64 ((N:Int) - (p:Nat)),.iface ta ya,.int .i64 (k:Nat)] 206)) w'->w'.cell? ⟨w.heap.size,2,none⟩=some (.int .i64 (k:Nat)):=fun w' hb=>(hb.cell (by simp)).trans (by simp)
 go_enter Tryz.func59,Tryz.ntmps59
 go_wp2_with fail
 have HLW:Hid (lo<=(w.alloc (.cells #[.int .i64 ((N:Int) - (p:Nat)),.iface ta ya,.int .i64 (k:Nat)] 206)).heap.size):=Nat.le_trans HLO.out HB.out.size
 generalize hW:(w.alloc (.cells #[.int .i64 ((N:Int) - (p:Nat)),.iface ta ya,.int .i64 (k:Nat)] 206))=W at HLW HB k1 k2 ⊢
 clear hW t_int t_bool t_name t_pre t_two t_least t_if t_fby t_under
 go_region_held3 (fun w'=>Below W.heap.size W w') (first|assumption|exact brf.drew) (first
  | (go_at_call 59;(with_reducible refine (IHa.out _ ?_).mono ?_);exact⟨(HN.out.below HB.out).below (by assumption),Nat.le_trans HLW.out (Below.size (by assumption))⟩;rintro e w4 ⟨hbw4,f4,c4,rfl,hy4⟩;have HY4:Hid (Bv lo w4 f4 c4 αa φa):=hy4;clear hy4;have hBw4:Below W.heap.size W w4:=zaa (by assumption) hbw4)
  | (go_at_call 99;refine (rarer_is (Nat.le_trans HLW.out (Below.size hBw4)) _ HY4.out).mono ?_;rintro e w9 ⟨hbw9,f9,c9,rfl,hy9⟩;have HY9:Hid (Bv lo w9 f9 c9 _ _):=hy9;clear hy9;have hBw9:Below W.heap.size W w9:=zaa (by assumption) hbw9))
 all_goals go_wp2
 all_goals go_ret
 all_goals exact⟨zaa HB.out hBw9,_,_,rfl,HY9.out⟩
theorem we_hold (N:Nat) (a:Nat->Addr) (c b n:Nat) (m:Mbo) (p:Nat) (k:Nat) (ta:TypeId) (ya:Value) {αa:Al} {φa:Ph2} (tb:TypeId) (yb:Value) {αb:Al} {φb:Ph2} (iha:∀w,Nm a c b n m w/\lo<=w.heap.size->Calls Tryz.prog 59 #[.pointer (some ⟨c,0,none⟩),.iface ta ya] w (FnP w (Xb lo αa φa))) (ihb:∀w,Nm a c b n m w/\lo<=w.heap.size->Calls Tryz.prog 59 #[.pointer (some ⟨c,0,none⟩),.iface tb yb] w (FnP w (Xb lo αb φb))) (hk:((k:Nat):Int)≠0) (w:World) (hN:Nm a c b n m w/\lo<=w.heap.size) :
  Calls Tryz.prog 59 #[.pointer (some ⟨c,0,none⟩),.iface 209 (.agg #[.int .i64 ((N:Int) - (p:Nat)),.iface ta ya,.iface tb yb,.int .i64 (k:Nat)])] w (FnP w (Xb lo (fun d n=>if n < (k:Nat) then αa d n else αb d (wrap64 (n.tdiv (k:Nat) - 1))) (fun S n=>if n < (k:Nat) then φa S n else φb S (wrap64 (n.tdiv (k:Nat) - 1))))):=by
 have HN:=hid hN.1
 have HLO:=hid hN.2
 have HB:Hid (Below w.heap.size w (w.alloc (.cells #[.int .i64 ((N:Int) - (p:Nat)),.iface ta ya,.iface tb yb,.int .i64 (k:Nat)] 209))):=brf.alloc nlr _
 have HK:=hid hk
 have t_int:=ta_hold_int (.agg #[.int .i64 ((N:Int) - (p:Nat)),.iface ta ya,.iface tb yb,.int .i64 (k:Nat)])
 have t_bool:=ta_hold_bool (.agg #[.int .i64 ((N:Int) - (p:Nat)),.iface ta ya,.iface tb yb,.int .i64 (k:Nat)])
 have t_name:=ta_hold_name (.agg #[.int .i64 ((N:Int) - (p:Nat)),.iface ta ya,.iface tb yb,.int .i64 (k:Nat)])
 have t_pre:=zdk (.agg #[.int .i64 ((N:Int) - (p:Nat)),.iface ta ya,.iface tb yb,.int .i64 (k:Nat)])
 have t_two:=zdj (.agg #[.int .i64 ((N:Int) - (p:Nat)),.iface ta ya,.iface tb yb,.int .i64 (k:Nat)])
 have t_least:=zdx (.agg #[.int .i64 ((N:Int) - (p:Nat)),.iface ta ya,.iface tb yb,.int .i64 (k:Nat)])
 have t_if:=ta_hold_if (.agg #[.int .i64 ((N:Int) - (p:Nat)),.iface ta ya,.iface tb yb,.int .i64 (k:Nat)])
 have t_fby:=zch (.agg #[.int .i64 ((N:Int) - (p:Nat)),.iface ta ya,.iface tb yb,.int .i64 (k:Nat)])
 have t_under:=zbz (.agg #[.int .i64 ((N:Int) - (p:Nat)),.iface ta ya,.iface tb yb,.int .i64 (k:Nat)])
 have t_hold:=zbx (.agg #[.int .i64 ((N:Int) - (p:Nat)),.iface ta ya,.iface tb yb,.int .i64 (k:Nat)])
 have IHa:=hid iha
 have IHb:=hid ihb
 clear hN iha ihb hk
 have k1:∀w',Below (w.alloc (.cells #[.int .i64 ((N:Int) - (p:Nat)),.iface ta ya,.iface tb yb,.int .i64 (k:Nat)] 209)).heap.size (w.alloc (.cells #[.int .i64 ((N:Int) - (p:Nat)),.iface ta ya,.iface tb yb,.int .i64 (k:Nat)] 209)) w'->w'.cell? ⟨w.heap.size,1,none⟩=some (.iface ta ya):=fun w' hb=>(hb.cell (by simp)).trans (by simp)
 have k2:∀w',Below (w.alloc (.cells #[.int .i64 ((N:Int) - (p:Nat)),.iface ta ya,.iface tb yb,.int .i64 (k:Nat)] 209)).heap.size (w.alloc (.cells #[.int .i64 ((N:Int) - (p:Nat)),.iface ta ya,.iface tb yb,.int .i64 (k:Nat)] 209)) w'->w'.cell? ⟨w.heap.size,2,none⟩=some (.iface tb yb):=fun w' hb=>(hb.cell (by simp)).trans (by simp)
 have k3:∀w',Below (w.alloc (.cells #[.int .i64 ((N:Int) - (p:Nat)),.iface ta ya,.iface tb yb,.int .i64 (k:Nat)] 209)).heap.size (w.alloc (.cells #[.int .i64 ((N:Int) - (p:Nat)),.iface ta ya,.iface tb yb,.int .i64 (k:Nat)] 209)) w'->w'.cell? ⟨w.heap.size,3,none⟩=some (.int .i64 (k:Nat)):=fun w' hb=>(hb.cell (by simp)).trans (by simp)
 go_enter Tryz.func59,Tryz.ntmps59
 go_wp2_with fail
 have HLW:Hid (lo<=(w.alloc (.cells #[.int .i64 ((N:Int) - (p:Nat)),.iface ta ya,.iface tb yb,.int .i64 (k:Nat)] 209)).heap.size):=Nat.le_trans HLO.out HB.out.size
 generalize hW:(w.alloc (.cells #[.int .i64 ((N:Int) - (p:Nat)),.iface ta ya,.iface tb yb,.int .i64 (k:Nat)] 209))=W at HLW HB k1 k2 k3 ⊢
 clear hW t_int t_bool t_name t_pre t_two t_least t_if t_fby t_under t_hold
 go_region_held3 (fun w'=>Below W.heap.size W w') (first|assumption|exact brf.drew) (first
  | (go_at_call 59;(with_reducible refine (IHa.out _ ?_).mono ?_);exact⟨(HN.out.below HB.out).below (by assumption),Nat.le_trans HLW.out (Below.size (by assumption))⟩;rintro e w4 ⟨hbw4,f4,c4,rfl,hy4⟩;have HY4:Hid (Bv lo w4 f4 c4 αa φa):=hy4;clear hy4;have hBw4:Below W.heap.size W w4:=zaa (by assumption) hbw4)
  | (go_at_call 59;(with_reducible refine (IHb.out _ ?_).mono ?_);exact⟨(HN.out.below HB.out).below (by assumption),Nat.le_trans HLW.out (Below.size (by assumption))⟩;rintro e w5 ⟨hbw5,f5,c5,rfl,hy5⟩;have HY5:Hid (Bv lo w5 f5 c5 αb φb):=hy5;clear hy5;have hBw5:Below W.heap.size W w5:=zaa (by assumption) hbw5)
  | (go_at_call 100;refine (oftener_is (Nat.le_trans HLW.out (Below.size hBw5)) _ HK.out (HY4.out.mono hbw5) HY5.out).mono ?_;rintro e w9 ⟨hbw9,f9,c9,rfl,hy9⟩;have HY9:Hid (Bv lo w9 f9 c9 _ _):=hy9;clear hy9;have hBw9:Below W.heap.size W w9:=zaa (by assumption) hbw9))
 all_goals go_wp2
 all_goals go_ret
 all_goals exact⟨zaa HB.out hBw9,_,_,rfl,HY9.out⟩
theorem we_least (N:Nat) (a:Nat->Addr) (c b n:Nat) (m:Mbo) {ρ:Mbi} (hr:Rall2 ρ) (p:Nat) (x:Mil.Bytes) (ta:TypeId) (ya:Value) {αa:Al} {φa:Ph2} (tb:TypeId) (yb:Value) {αb:Al} {φb:Ph2} (iha:∀w,Nm a c b n m w/\lo<=w.heap.size->Calls Tryz.prog 59 #[.pointer (some ⟨c,0,none⟩),.iface ta ya] w (FnP w (Xb lo αa φa))) (ihb:∀w,Nm a c b n m w/\lo<=w.heap.size->Calls Tryz.prog 59 #[.pointer (some ⟨c,0,none⟩),.iface tb yb] w (FnP w (Xb lo αb φb))) (w:World) (hN:Nm a c b n m w/\lo<=w.heap.size) :
  Calls Tryz.prog 59 #[.pointer (some ⟨c,0,none⟩),.iface 198 (.agg #[.int .i64 ((N:Int) - (p:Nat)),.string (bs x),.iface ta ya,.iface tb yb])] w (FnP w (Xb lo (fun d n=>αa d n/\αb d n) (fun S n=>(φa S n).bind fun u=>(φb S n).bind fun v=>some (ρ x u v)))):=by
 have HN:=hid hN.1
 have HLO:=hid hN.2
 have HB:Hid (Below w.heap.size w (w.alloc (.cells #[.int .i64 ((N:Int) - (p:Nat)),.string (bs x),.iface ta ya,.iface tb yb] 198))):=brf.alloc nlr _
 have HRx:Hid (∀w,Calls Tryz.prog 96 #[.string (bs x)] w (FnP w fun _ f c=>Rkn f c (ρ x))):=(hr x).2.2
 have t_int:=ta_least_int (.agg #[.int .i64 ((N:Int) - (p:Nat)),.string (bs x),.iface ta ya,.iface tb yb])
 have t_bool:=zdw (.agg #[.int .i64 ((N:Int) - (p:Nat)),.string (bs x),.iface ta ya,.iface tb yb])
 have t_name:=ta_least_name (.agg #[.int .i64 ((N:Int) - (p:Nat)),.string (bs x),.iface ta ya,.iface tb yb])
 have t_pre:=zcr (.agg #[.int .i64 ((N:Int) - (p:Nat)),.string (bs x),.iface ta ya,.iface tb yb])
 have t_two:=zcq (.agg #[.int .i64 ((N:Int) - (p:Nat)),.string (bs x),.iface ta ya,.iface tb yb])
 have t_least:=zb8 (.agg #[.int .i64 ((N:Int) - (p:Nat)),.string (bs x),.iface ta ya,.iface tb yb])
 have IHa:=hid iha
 have IHb:=hid ihb
 clear hN iha ihb hr
 have k1:∀w',Below (w.alloc (.cells #[.int .i64 ((N:Int) - (p:Nat)),.string (bs x),.iface ta ya,.iface tb yb] 198)).heap.size (w.alloc (.cells #[.int .i64 ((N:Int) - (p:Nat)),.string (bs x),.iface ta ya,.iface tb yb] 198)) w'->w'.cell? ⟨w.heap.size,1,none⟩=some (.string (bs x)):=fun w' hb=>(hb.cell (by simp)).trans (by simp)
 have k2:∀w',Below (w.alloc (.cells #[.int .i64 ((N:Int) - (p:Nat)),.string (bs x),.iface ta ya,.iface tb yb] 198)).heap.size (w.alloc (.cells #[.int .i64 ((N:Int) - (p:Nat)),.string (bs x),.iface ta ya,.iface tb yb] 198)) w'->w'.cell? ⟨w.heap.size,2,none⟩=some (.iface ta ya):=fun w' hb=>(hb.cell (by simp)).trans (by simp)
 have k3:∀w',Below (w.alloc (.cells #[.int .i64 ((N:Int) - (p:Nat)),.string (bs x),.iface ta ya,.iface tb yb] 198)).heap.size (w.alloc (.cells #[.int .i64 ((N:Int) - (p:Nat)),.string (bs x),.iface ta ya,.iface tb yb] 198)) w'->w'.cell? ⟨w.heap.size,3,none⟩=some (.iface tb yb):=fun w' hb=>(hb.cell (by simp)).trans (by simp)
 go_enter Tryz.func59,Tryz.ntmps59
 go_wp2_with fail
 have HLW:Hid (lo<=(w.alloc (.cells #[.int .i64 ((N:Int) - (p:Nat)),.string (bs x),.iface ta ya,.iface tb yb] 198)).heap.size):=Nat.le_trans HLO.out HB.out.size
 generalize hW:(w.alloc (.cells #[.int .i64 ((N:Int) - (p:Nat)),.string (bs x),.iface ta ya,.iface tb yb] 198))=W at HLW HB k1 k2 k3 ⊢
 clear hW t_int t_bool t_name t_pre t_two t_least
 go_region_held3 (fun w'=>Below W.heap.size W w') (first|assumption|exact brf.drew) (first
  | (go_at_call 96;(with_reducible refine (HRx.out _).mono ?_);rintro e w8 ⟨hbw8,f8,c8,rfl,hy8⟩;have HY8:Hid (Rkn f8 c8 (ρ x)):=hy8;clear hy8;have hBw8:Below W.heap.size W w8:=zaa (by assumption) hbw8)
  | (go_at_call 59;(with_reducible refine (IHa.out _ ?_).mono ?_);exact⟨(HN.out.below HB.out).below (by assumption),Nat.le_trans HLW.out (Below.size (by assumption))⟩;rintro e w4 ⟨hbw4,f4,c4,rfl,hy4⟩;have HY4:Hid (Bv lo w4 f4 c4 αa φa):=hy4;clear hy4;have hBw4:Below W.heap.size W w4:=zaa (by assumption) hbw4)
  | (go_at_call 59;(with_reducible refine (IHb.out _ ?_).mono ?_);exact⟨(HN.out.below HB.out).below (by assumption),Nat.le_trans HLW.out (Below.size (by assumption))⟩;rintro e w5 ⟨hbw5,f5,c5,rfl,hy5⟩;have HY5:Hid (Bv lo w5 f5 c5 αb φb):=hy5;clear hy5;have hBw5:Below W.heap.size W w5:=zaa (by assumption) hbw5)
  | (go_at_call 95;refine (ofTwo_is (Nat.le_trans HLW.out (Below.size hBw5)) HY8.out (HY4.out.mono hbw5) HY5.out).mono ?_;rintro e w9 ⟨hbw9,f9,c9,rfl,hy9⟩;have HY9:Hid (Bv lo w9 f9 c9 _ _):=hy9;clear hy9;have hBw9:Below W.heap.size W w9:=zaa (by assumption) hbw9))
 all_goals go_wp2
 all_goals go_ret
 all_goals exact⟨zaa HB.out hBw9,_,_,rfl,HY9.out⟩
end
section
open Go.RowKit
theorem Tryz.infoW:(Tryz.prog.info? 132).map (fun i=>(i.zero,i.size,i.bytes))=some (some .nilFunc,1,8):=by kernel_rfl
end
end Go.Proofs.YtjehljjlcifndaaGreatDoor
