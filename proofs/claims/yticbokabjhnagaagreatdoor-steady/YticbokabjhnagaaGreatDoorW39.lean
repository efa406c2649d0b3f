import Derived.Test.YticbokabjhnagaaGreatDoorW38
namespace Go.Proofs.YticbokabjhnagaaGreatDoor
set_option maxHeartbeats 32000000
section
open Go.RowKit
theorem Bv.conv {lo:Nat} {w:World} {f:Nat} {c:Array Value} {α α':Al} {φ φ':Ph2} (h:Bv lo w f c α φ) (ha:∀d n,α' d n→α d n) (hp:∀S n,φ S n=φ' S n):Bv lo w f c α' φ':=
 ⟨h.1,fun I sv S d hE hS n w hI hd=>by rw [←hp];exact h.2 I sv S d hE hS n w hI (ha d n hd)⟩
theorem FnP.conv {w:World} {X X':World→Nat→Array Value→Prop} {E:Ending} {w':World} (h:FnP w X E w') (hx:∀f c,X w' f c→X' w' f c):FnP w X' E w':=by
 obtain ⟨h1,f,c,h2,h3⟩:=h
 exact ⟨h1,f,c,h2,hx f c h3⟩
abbrev Xb (lo:Nat) (α:Al) (φ:Ph2):World→Nat→Array Value→Prop:=fun w f c=>Bv lo w f c α φ
def Rall2 (ρ:Mil.Bytes→Int→Int→Int):Prop:=∀x,Rf (bs x) (ρ x)
set_option maxRecDepth 100000 in
theorem ofPrefix_is {lo:Nat} {ρ:Mil.Bytes→Int→Int→Int} (hr:Rall2 ρ) (s:ByteArray) {k:Int} (hk:k=if (s.toList==[110,111,116])=true then 1 else 0) {f1:Nat} {c1:Array Value} {α1:Al} {φ1:Ph2} {w:World} (hlo:lo≤w.heap.size) (h1:Bv lo w f1 c1 α1 φ1):Calls Tryz.prog 72 #[.string s,.func (.func f1) #[] c1] w (FnP w (Xb lo α1 (fun S n=>(φ1 S n).bind fun v=>some (ρ Mil.sMinus k v)))):=by
 have H1:Hid (Bv lo w f1 c1 α1 φ1):=h1
 have HR:Hid (∀w,Calls Tryz.prog 74 #[.string (bs Mil.sMinus)] w (FnP w fun _ f c=>Rkn f c (ρ Mil.sMinus))):=(hr Mil.sMinus).2.2
 have HLO:Hid (lo≤w.heap.size):=hlo
 clear h1 hr hlo
 go_enter Tryz.func72,Tryz.ntmps72
 by_cases hq:(s.toList==[110,111,116])=true
 rotate_left 1
 replace hq:(s.toList==[110,111,116])=false:=by simpa using hq
 rotate_left 1
 all_goals rw [hq] at hk
 all_goals have HKK:Hid (k=_):=hk
 all_goals clear hk
 all_goals (go_wp2_with fail)
 all_goals refine (HR.out _).mono ?_
 all_goals rintro e w2 ⟨hb2,f2,c2,rfl,hy2⟩
 all_goals have HB2:Hid (Below w.heap.size w w2∧Rkn f2 c2 (ρ Mil.sMinus)):=⟨hb2,hy2⟩
 all_goals clear hb2 hy2
 all_goals (go_wp2_with fail)
 all_goals refine (always_is (lo:=lo) _ _ (Nat.le_trans HLO.out HB2.out.1.size)).mono ?_
 all_goals rintro e w3 ⟨hb3,f3,c3,rfl,hy3⟩
 ·have HB3:Hid (Below w.heap.size w w3∧Bv lo w3 f3 c3 (fun _ _=>True) (fun _ _=>some 1)):=⟨below_step HB2.out.1 hb3,hy3⟩
  clear hb3 hy3
  go_wp2_with fail
  refine (ofTwo_is (Nat.le_trans HLO.out HB3.out.1.size) HB2.out.2 HB3.out.2 (H1.out.mono HB3.out.1)).mono ?_
  rintro e w4 ⟨hb4,f4,c4,rfl,hy4⟩
  have HB4:Hid (Below w.heap.size w w4∧Bv lo w4 f4 c4 _ _):=⟨below_step HB3.out.1 hb4,hy4⟩
  clear hb4 hy4
  go_wp2
  go_ret
  refine ⟨HB4.out.1,_,_,rfl,HB4.out.2.conv (fun d n h=>⟨trivial,h⟩) (fun S n=>?_)⟩
  rw [HKK.out];rfl
 ·have HB3:Hid (Below w.heap.size w w3∧Bv lo w3 f3 c3 (fun _ _=>True) (fun _ _=>some 0)):=⟨below_step HB2.out.1 hb3,hy3⟩
  clear hb3 hy3
  go_wp2_with fail
  refine (ofTwo_is (Nat.le_trans HLO.out HB3.out.1.size) HB2.out.2 HB3.out.2 (H1.out.mono HB3.out.1)).mono ?_
  rintro e w4 ⟨hb4,f4,c4,rfl,hy4⟩
  have HB4:Hid (Below w.heap.size w w4∧Bv lo w4 f4 c4 _ _):=⟨below_step HB3.out.1 hb4,hy4⟩
  clear hb4 hy4
  go_wp2
  go_ret
  refine ⟨HB4.out.1,_,_,rfl,HB4.out.2.conv (fun d n h=>⟨trivial,h⟩) (fun S n=>?_)⟩
  rw [HKK.out];rfl
set_option maxRecDepth 100000 in
theorem we_int {lo:Nat} (N:Nat) (a:Nat→Addr) (c b n:Nat) (m:Mil.Bytes→Option Int) (p:Nat) (k:Nat) (w:World) (hN:Nm a c b n m w∧lo≤w.heap.size) :
  Calls Tryz.prog 42 #[.pointer (some ⟨c,0,none⟩),.iface 165 (.agg #[.int .i64 ((N:Int) - (p:Nat)),.int .i64 (k:Nat)])] w (FnP w (Xb lo (fun _ _=>True) (fun _ _=>some (k:Nat)))):=by
 have HN:Hid (Nm a c b n m w):=hN.1
 have HLO:Hid (lo≤w.heap.size):=hN.2
 have HB:Hid (Below w.heap.size w (w.alloc (.cells #[.int .i64 ((N:Int) - (p:Nat)),.int .i64 (k:Nat)] 165))):=(Below.refl _ _).alloc (Nat.le_refl _) _
 have t_int:=ta_int_int (.agg #[.int .i64 ((N:Int) - (p:Nat)),.int .i64 (k:Nat)])
 clear hN
 go_enter Tryz.func42,Tryz.ntmps42
 go_wp2_with fail
 refine (always_is (lo:=lo) _ _ (Nat.le_trans HLO.out HB.out.size)).mono ?_
 rintro e w2 ⟨hb2,f2,c2,rfl,hy2⟩
 have HB2:Hid (Below w.heap.size w w2∧Bv lo w2 f2 c2 _ _):=⟨below_step HB.out hb2,hy2⟩
 clear hb2 hy2
 go_wp2
 go_ret
 exact ⟨HB2.out.1,_,_,rfl,HB2.out.2⟩
set_option maxRecDepth 100000 in
theorem we_bool {lo:Nat} (N:Nat) (a:Nat→Addr) (c b n:Nat) (m:Mil.Bytes→Option Int) (p:Nat) (k:Nat) (w:World) (hN:Nm a c b n m w∧lo≤w.heap.size) :
  Calls Tryz.prog 42 #[.pointer (some ⟨c,0,none⟩),.iface 168 (.agg #[.int .i64 ((N:Int) - (p:Nat)),.bool (k==1)])] w (FnP w (Xb lo (fun _ _=>True) (fun _ _=>some (if (k==1)=true then 1 else 0)))):=by
 have HN:Hid (Nm a c b n m w):=hN.1
 have HLO:Hid (lo≤w.heap.size):=hN.2
 have HB:Hid (Below w.heap.size w (w.alloc (.cells #[.int .i64 ((N:Int) - (p:Nat)),.bool (k==1)] 168))):=(Below.refl _ _).alloc (Nat.le_refl _) _
 have t_int:=ta_bool_int (.agg #[.int .i64 ((N:Int) - (p:Nat)),.bool (k==1)])
 have t_bool:=ta_bool_bool (.agg #[.int .i64 ((N:Int) - (p:Nat)),.bool (k==1)])
 clear hN
 generalize hz:(if (k==1)=true then (1:Int) else 0)=z
 have HZ:Hid ((if (k==1)=true then (1:Int) else 0)=z):=hz
 clear hz
 go_enter Tryz.func42,Tryz.ntmps42
 go_wp2_with fail
 refine ((asNumber_is _ _).mono (R':=fun E w'=>E=.returned (.int .i64 z)∧_=w') (fun E w' h=>by rw [←HZ.out];exact h)).mono ?_
 rintro e u ⟨rfl,rfl⟩
 go_wp2_with fail
 refine (always_is (lo:=lo) _ _ (Nat.le_trans HLO.out HB.out.size)).mono ?_
 rintro e w2 ⟨hb2,f2,c2,rfl,hy2⟩
 have HB2:Hid (Below w.heap.size w w2∧Bv lo w2 f2 c2 _ _):=⟨below_step HB.out hb2,hy2⟩
 clear hb2 hy2
 go_wp2
 go_ret
 exact ⟨HB2.out.1,_,_,rfl,HB2.out.2⟩
set_option maxRecDepth 100000 in
theorem we_name {lo:Nat} (N:Nat) (a:Nat→Addr) (c b n:Nat) (m:Mil.Bytes→Option Int) (p:Nat) (x:Mil.Bytes) (hx:x.length≤4000) (w:World) (hN:Nm a c b n m w∧lo≤w.heap.size) :
  Calls Tryz.prog 42 #[.pointer (some ⟨c,0,none⟩),.iface 103 (.agg #[.int .i64 ((N:Int) - (p:Nat)),.string (bs x)])] w (FnP w (Xb lo (fun d n=>d ((m x).getD 0) n) (fun S n=>S ((m x).getD 0) n))):=by
 have HN:Hid (Nm a c b n m w):=hN.1
 have HLO:Hid (lo≤w.heap.size):=hN.2
 have HB:Hid (Below w.heap.size w (w.alloc (.cells #[.int .i64 ((N:Int) - (p:Nat)),.string (bs x)] 103))):=(Below.refl _ _).alloc (Nat.le_refl _) _
 have t_int:=ta_name_int (.agg #[.int .i64 ((N:Int) - (p:Nat)),.string (bs x)])
 have t_bool:=ta_name_bool (.agg #[.int .i64 ((N:Int) - (p:Nat)),.string (bs x)])
 have t_name:=ta_name_name (.agg #[.int .i64 ((N:Int) - (p:Nat)),.string (bs x)])
 clear hN
 have k1:∀w',Below (w.alloc (.cells #[.int .i64 ((N:Int) - (p:Nat)),.string (bs x)] 103)).heap.size (w.alloc (.cells #[.int .i64 ((N:Int) - (p:Nat)),.string (bs x)] 103)) w'→w'.cell? ⟨w.heap.size,1,none⟩=some (.string (bs x)):=fun w' hb=>(hb.cell (by simp)).trans (by simp)
 have N1:=HN.out.below HB.out
 have hc2:∀w',Below (w.alloc (.cells #[.int .i64 ((N:Int) - (p:Nat)),.string (bs x)] 103)).heap.size (w.alloc (.cells #[.int .i64 ((N:Int) - (p:Nat)),.string (bs x)] 103)) w'→w'.cell? ⟨c,2,none⟩=some (.map (some b)):=fun w' hb=>(N1.below hb).c2
 have hl:∀w',Below (w.alloc (.cells #[.int .i64 ((N:Int) - (p:Nat)),.string (bs x)] 103)).heap.size (w.alloc (.cells #[.int .i64 ((N:Int) - (p:Nat)),.string (bs x)] 103)) w'→(Instr.lookup 72 (.map (some b)) (.string (bs x)) false).run Tryz.prog w'=.ok (.int .i64 ((m x).getD 0)) w':=fun w' hb=>(N1.below hb).mp.at_ x hx
 clear N1 hx
 go_enter Tryz.func42,Tryz.ntmps42
 go_wp2_with fail
 have HLW:Hid (lo≤(w.alloc (.cells #[.int .i64 ((N:Int) - (p:Nat)),.string (bs x)] 103)).heap.size):=Nat.le_trans HLO.out HB.out.size
 generalize hW:(w.alloc (.cells #[.int .i64 ((N:Int) - (p:Nat)),.string (bs x)] 103))=W at HLW HB k1 hc2 hl ⊢
 clear hW t_int t_bool t_name
 go_region_held3 (fun w'=>Below W.heap.size W w') (first | assumption | exact (Below.refl _ _).drew) (first
  | (go_at_call 71;(with_reducible refine (ofFlow_is (lo:=lo) _ _ ?_).mono ?_);exact Nat.le_trans HLW.out (Below.size (by assumption));rintro e w9 ⟨hbw9,f9,c9,rfl,hy9⟩;have HY9:Hid (Bv lo w9 f9 c9 _ _):=hy9;clear hy9;have hBw9:Below W.heap.size W w9:=below_step (by assumption) hbw9))
 all_goals go_wp2
 all_goals go_ret
 all_goals exact ⟨below_step HB.out hBw9,_,_,rfl,HY9.out⟩
set_option maxRecDepth 100000 in
theorem we_pre {lo:Nat} (N:Nat) (a:Nat→Addr) (c b n:Nat) (m:Mil.Bytes→Option Int) {ρ:Mil.Bytes→Int→Int→Int} (hr:Rall2 ρ) (p:Nat) (x:Mil.Bytes) (ta:TypeId) (ya:Value) {αa:Al} {φa:Ph2} (iha:∀w,Nm a c b n m w∧lo≤w.heap.size→Calls Tryz.prog 42 #[.pointer (some ⟨c,0,none⟩),.iface ta ya] w (FnP w (Xb lo αa φa))) (w:World) (hN:Nm a c b n m w∧lo≤w.heap.size) :
  Calls Tryz.prog 42 #[.pointer (some ⟨c,0,none⟩),.iface 172 (.agg #[.int .i64 ((N:Int) - (p:Nat)),.string (bs x),.iface ta ya])] w (FnP w (Xb lo αa (fun S n=>(φa S n).bind fun v=>some (ρ Mil.sMinus (if ((bs x).toList==[110,111,116])=true then 1 else 0) v)))):=by
 have HN:Hid (Nm a c b n m w):=hN.1
 have HLO:Hid (lo≤w.heap.size):=hN.2
 have HB:Hid (Below w.heap.size w (w.alloc (.cells #[.int .i64 ((N:Int) - (p:Nat)),.string (bs x),.iface ta ya] 172))):=(Below.refl _ _).alloc (Nat.le_refl _) _
 have HR:Hid (Rall2 ρ):=hr
 generalize hz:(if ((bs x).toList==[110,111,116])=true then (1:Int) else 0)=z
 have HZ:Hid (z=if ((bs x).toList==[110,111,116])=true then (1:Int) else 0):=hz.symm
 clear hz
 have t_int:=ta_pre_int (.agg #[.int .i64 ((N:Int) - (p:Nat)),.string (bs x),.iface ta ya])
 have t_bool:=ta_pre_bool (.agg #[.int .i64 ((N:Int) - (p:Nat)),.string (bs x),.iface ta ya])
 have t_name:=ta_pre_name (.agg #[.int .i64 ((N:Int) - (p:Nat)),.string (bs x),.iface ta ya])
 have t_pre:=ta_pre_pre (.agg #[.int .i64 ((N:Int) - (p:Nat)),.string (bs x),.iface ta ya])
 have IHa:Hid (∀w,Nm a c b n m w∧lo≤w.heap.size→Calls Tryz.prog 42 #[.pointer (some ⟨c,0,none⟩),.iface ta ya] w (FnP w (Xb lo αa φa))):=iha
 clear hN iha hr
 have k1:∀w',Below (w.alloc (.cells #[.int .i64 ((N:Int) - (p:Nat)),.string (bs x),.iface ta ya] 172)).heap.size (w.alloc (.cells #[.int .i64 ((N:Int) - (p:Nat)),.string (bs x),.iface ta ya] 172)) w'→w'.cell? ⟨w.heap.size,1,none⟩=some (.string (bs x)):=fun w' hb=>(hb.cell (by simp)).trans (by simp)
 have k2:∀w',Below (w.alloc (.cells #[.int .i64 ((N:Int) - (p:Nat)),.string (bs x),.iface ta ya] 172)).heap.size (w.alloc (.cells #[.int .i64 ((N:Int) - (p:Nat)),.string (bs x),.iface ta ya] 172)) w'→w'.cell? ⟨w.heap.size,2,none⟩=some (.iface ta ya):=fun w' hb=>(hb.cell (by simp)).trans (by simp)
 go_enter Tryz.func42,Tryz.ntmps42
 go_wp2_with fail
 have HLW:Hid (lo≤(w.alloc (.cells #[.int .i64 ((N:Int) - (p:Nat)),.string (bs x),.iface ta ya] 172)).heap.size):=Nat.le_trans HLO.out HB.out.size
 generalize hW:(w.alloc (.cells #[.int .i64 ((N:Int) - (p:Nat)),.string (bs x),.iface ta ya] 172))=W at HLW HB k1 k2 ⊢
 clear hW t_int t_bool t_name t_pre
 go_region_held3 (fun w'=>Below W.heap.size W w') (first | assumption | exact (Below.refl _ _).drew) (first
  | (go_at_call 42;(with_reducible refine (IHa.out _ ?_).mono ?_);exact ⟨(HN.out.below HB.out).below (by assumption),Nat.le_trans HLW.out (Below.size (by assumption))⟩;rintro e w4 ⟨hbw4,f4,c4,rfl,hy4⟩;have HY4:Hid (Bv lo w4 f4 c4 αa φa):=hy4;clear hy4;have hBw4:Below W.heap.size W w4:=below_step (by assumption) hbw4)
  | (go_at_call 72;refine (ofPrefix_is HR.out _ HZ.out (Nat.le_trans HLW.out (Below.size hBw4)) HY4.out).mono ?_;rintro e w9 ⟨hbw9,f9,c9,rfl,hy9⟩;have HY9:Hid (Bv lo w9 f9 c9 _ _):=hy9;clear hy9;have hBw9:Below W.heap.size W w9:=below_step (by assumption) hbw9))
 all_goals go_wp2
 all_goals go_ret
 all_goals exact ⟨below_step HB.out hBw9,_,_,rfl,HY9.out⟩
set_option maxRecDepth 100000 in
theorem we_two {lo:Nat} (N:Nat) (a:Nat→Addr) (c b n:Nat) (m:Mil.Bytes→Option Int) {ρ:Mil.Bytes→Int→Int→Int} (hr:Rall2 ρ) (p:Nat) (x:Mil.Bytes) (ta:TypeId) (ya:Value) {αa:Al} {φa:Ph2} (tb:TypeId) (yb:Value) {αb:Al} {φb:Ph2} (iha:∀w,Nm a c b n m w∧lo≤w.heap.size→Calls Tryz.prog 42 #[.pointer (some ⟨c,0,none⟩),.iface ta ya] w (FnP w (Xb lo αa φa))) (ihb:∀w,Nm a c b n m w∧lo≤w.heap.size→Calls Tryz.prog 42 #[.pointer (some ⟨c,0,none⟩),.iface tb yb] w (FnP w (Xb lo αb φb))) (w:World) (hN:Nm a c b n m w∧lo≤w.heap.size) :
  Calls Tryz.prog 42 #[.pointer (some ⟨c,0,none⟩),.iface 175 (.agg #[.int .i64 ((N:Int) - (p:Nat)),.string (bs x),.iface ta ya,.iface tb yb])] w (FnP w (Xb lo (fun d n=>αa d n∧αb d n) (fun S n=>(φa S n).bind fun u=>(φb S n).bind fun v=>some (ρ x u v)))):=by
 have HN:Hid (Nm a c b n m w):=hN.1
 have HLO:Hid (lo≤w.heap.size):=hN.2
 have HB:Hid (Below w.heap.size w (w.alloc (.cells #[.int .i64 ((N:Int) - (p:Nat)),.string (bs x),.iface ta ya,.iface tb yb] 175))):=(Below.refl _ _).alloc (Nat.le_refl _) _
 have HRx:Hid (∀w,Calls Tryz.prog 74 #[.string (bs x)] w (FnP w fun _ f c=>Rkn f c (ρ x))):=(hr x).2.2
 have t_int:=ta_two_int (.agg #[.int .i64 ((N:Int) - (p:Nat)),.string (bs x),.iface ta ya,.iface tb yb])
 have t_bool:=ta_two_bool (.agg #[.int .i64 ((N:Int) - (p:Nat)),.string (bs x),.iface ta ya,.iface tb yb])
 have t_name:=ta_two_name (.agg #[.int .i64 ((N:Int) - (p:Nat)),.string (bs x),.iface ta ya,.iface tb yb])
 have t_pre:=ta_two_pre (.agg #[.int .i64 ((N:Int) - (p:Nat)),.string (bs x),.iface ta ya,.iface tb yb])
 have t_two:=ta_two_two (.agg #[.int .i64 ((N:Int) - (p:Nat)),.string (bs x),.iface ta ya,.iface tb yb])
 have IHa:Hid (∀w,Nm a c b n m w∧lo≤w.heap.size→Calls Tryz.prog 42 #[.pointer (some ⟨c,0,none⟩),.iface ta ya] w (FnP w (Xb lo αa φa))):=iha
 have IHb:Hid (∀w,Nm a c b n m w∧lo≤w.heap.size→Calls Tryz.prog 42 #[.pointer (some ⟨c,0,none⟩),.iface tb yb] w (FnP w (Xb lo αb φb))):=ihb
 clear hN iha ihb hr
 have k1:∀w',Below (w.alloc (.cells #[.int .i64 ((N:Int) - (p:Nat)),.string (bs x),.iface ta ya,.iface tb yb] 175)).heap.size (w.alloc (.cells #[.int .i64 ((N:Int) - (p:Nat)),.string (bs x),.iface ta ya,.iface tb yb] 175)) w'→w'.cell? ⟨w.heap.size,1,none⟩=some (.string (bs x)):=fun w' hb=>(hb.cell (by simp)).trans (by simp)
 have k2:∀w',Below (w.alloc (.cells #[.int .i64 ((N:Int) - (p:Nat)),.string (bs x),.iface ta ya,.iface tb yb] 175)).heap.size (w.alloc (.cells #[.int .i64 ((N:Int) - (p:Nat)),.string (bs x),.iface ta ya,.iface tb yb] 175)) w'→w'.cell? ⟨w.heap.size,2,none⟩=some (.iface ta ya):=fun w' hb=>(hb.cell (by simp)).trans (by simp)
 have k3:∀w',Below (w.alloc (.cells #[.int .i64 ((N:Int) - (p:Nat)),.string (bs x),.iface ta ya,.iface tb yb] 175)).heap.size (w.alloc (.cells #[.int .i64 ((N:Int) - (p:Nat)),.string (bs x),.iface ta ya,.iface tb yb] 175)) w'→w'.cell? ⟨w.heap.size,3,none⟩=some (.iface tb yb):=fun w' hb=>(hb.cell (by simp)).trans (by simp)
 go_enter Tryz.func42,Tryz.ntmps42
 go_wp2_with fail
 have HLW:Hid (lo≤(w.alloc (.cells #[.int .i64 ((N:Int) - (p:Nat)),.string (bs x),.iface ta ya,.iface tb yb] 175)).heap.size):=Nat.le_trans HLO.out HB.out.size
 generalize hW:(w.alloc (.cells #[.int .i64 ((N:Int) - (p:Nat)),.string (bs x),.iface ta ya,.iface tb yb] 175))=W at HLW HB k1 k2 k3 ⊢
 clear hW t_int t_bool t_name t_pre t_two
 go_region_held3 (fun w'=>Below W.heap.size W w') (first | assumption | exact (Below.refl _ _).drew) (first
  | (go_at_call 74;(with_reducible refine (HRx.out _).mono ?_);rintro e w8 ⟨hbw8,f8,c8,rfl,hy8⟩;have HY8:Hid (Rkn f8 c8 (ρ x)):=hy8;clear hy8;have hBw8:Below W.heap.size W w8:=below_step (by assumption) hbw8)
  | (go_at_call 42;(with_reducible refine (IHa.out _ ?_).mono ?_);exact ⟨(HN.out.below HB.out).below (by assumption),Nat.le_trans HLW.out (Below.size (by assumption))⟩;rintro e w4 ⟨hbw4,f4,c4,rfl,hy4⟩;have HY4:Hid (Bv lo w4 f4 c4 αa φa):=hy4;clear hy4;have hBw4:Below W.heap.size W w4:=below_step (by assumption) hbw4)
  | (go_at_call 42;(with_reducible refine (IHb.out _ ?_).mono ?_);exact ⟨(HN.out.below HB.out).below (by assumption),Nat.le_trans HLW.out (Below.size (by assumption))⟩;rintro e w5 ⟨hbw5,f5,c5,rfl,hy5⟩;have HY5:Hid (Bv lo w5 f5 c5 αb φb):=hy5;clear hy5;have hBw5:Below W.heap.size W w5:=below_step (by assumption) hbw5)
  | (go_at_call 73;refine (ofTwo_is (Nat.le_trans HLW.out (Below.size hBw5)) HY8.out (HY4.out.mono hbw5) HY5.out).mono ?_;rintro e w9 ⟨hbw9,f9,c9,rfl,hy9⟩;have HY9:Hid (Bv lo w9 f9 c9 _ _):=hy9;clear hy9;have hBw9:Below W.heap.size W w9:=below_step (by assumption) hbw9))
 all_goals go_wp2
 all_goals go_ret
 all_goals exact ⟨below_step HB.out hBw9,_,_,rfl,HY9.out⟩
set_option maxRecDepth 100000 in
theorem we_if {lo:Nat} (N:Nat) (a:Nat→Addr) (c b n:Nat) (m:Mil.Bytes→Option Int) (p:Nat) (ta:TypeId) (ya:Value) {αa:Al} {φa:Ph2} (tb:TypeId) (yb:Value) {αb:Al} {φb:Ph2} (td:TypeId) (yd:Value) {αd:Al} {φd:Ph2} (iha:∀w,Nm a c b n m w∧lo≤w.heap.size→Calls Tryz.prog 42 #[.pointer (some ⟨c,0,none⟩),.iface ta ya] w (FnP w (Xb lo αa φa))) (ihb:∀w,Nm a c b n m w∧lo≤w.heap.size→Calls Tryz.prog 42 #[.pointer (some ⟨c,0,none⟩),.iface tb yb] w (FnP w (Xb lo αb φb))) (ihd:∀w,Nm a c b n m w∧lo≤w.heap.size→Calls Tryz.prog 42 #[.pointer (some ⟨c,0,none⟩),.iface td yd] w (FnP w (Xb lo αd φd))) (w:World) (hN:Nm a c b n m w∧lo≤w.heap.size) :
  Calls Tryz.prog 42 #[.pointer (some ⟨c,0,none⟩),.iface 182 (.agg #[.int .i64 ((N:Int) - (p:Nat)),.iface ta ya,.iface tb yb,.iface td yd])] w (FnP w (Xb lo (fun d n=>αa d n∧(αb d n∧αd d n)) (fun S n=>(φa S n).bind fun h=>(φb S n).bind fun u=>(φd S n).bind fun v=>some (if h=0 then v else u)))):=by
 have HN:Hid (Nm a c b n m w):=hN.1
 have HLO:Hid (lo≤w.heap.size):=hN.2
 have HB:Hid (Below w.heap.size w (w.alloc (.cells #[.int .i64 ((N:Int) - (p:Nat)),.iface ta ya,.iface tb yb,.iface td yd] 182))):=(Below.refl _ _).alloc (Nat.le_refl _) _
 have t_int:=ta_if_int (.agg #[.int .i64 ((N:Int) - (p:Nat)),.iface ta ya,.iface tb yb,.iface td yd])
 have t_bool:=ta_if_bool (.agg #[.int .i64 ((N:Int) - (p:Nat)),.iface ta ya,.iface tb yb,.iface td yd])
 have t_name:=ta_if_name (.agg #[.int .i64 ((N:Int) - (p:Nat)),.iface ta ya,.iface tb yb,.iface td yd])
 have t_pre:=ta_if_pre (.agg #[.int .i64 ((N:Int) - (p:Nat)),.iface ta ya,.iface tb yb,.iface td yd])
 have t_two:=ta_if_two (.agg #[.int .i64 ((N:Int) - (p:Nat)),.iface ta ya,.iface tb yb,.iface td yd])
 have t_least:=ta_if_least (.agg #[.int .i64 ((N:Int) - (p:Nat)),.iface ta ya,.iface tb yb,.iface td yd])
 have t_if:=ta_if_if (.agg #[.int .i64 ((N:Int) - (p:Nat)),.iface ta ya,.iface tb yb,.iface td yd])
 have IHa:Hid (∀w,Nm a c b n m w∧lo≤w.heap.size→Calls Tryz.prog 42 #[.pointer (some ⟨c,0,none⟩),.iface ta ya] w (FnP w (Xb lo αa φa))):=iha
 have IHb:Hid (∀w,Nm a c b n m w∧lo≤w.heap.size→Calls Tryz.prog 42 #[.pointer (some ⟨c,0,none⟩),.iface tb yb] w (FnP w (Xb lo αb φb))):=ihb
 have IHd:Hid (∀w,Nm a c b n m w∧lo≤w.heap.size→Calls Tryz.prog 42 #[.pointer (some ⟨c,0,none⟩),.iface td yd] w (FnP w (Xb lo αd φd))):=ihd
 clear hN iha ihb ihd
 have k1:∀w',Below (w.alloc (.cells #[.int .i64 ((N:Int) - (p:Nat)),.iface ta ya,.iface tb yb,.iface td yd] 182)).heap.size (w.alloc (.cells #[.int .i64 ((N:Int) - (p:Nat)),.iface ta ya,.iface tb yb,.iface td yd] 182)) w'→w'.cell? ⟨w.heap.size,1,none⟩=some (.iface ta ya):=fun w' hb=>(hb.cell (by simp)).trans (by simp)
 have k2:∀w',Below (w.alloc (.cells #[.int .i64 ((N:Int) - (p:Nat)),.iface ta ya,.iface tb yb,.iface td yd] 182)).heap.size (w.alloc (.cells #[.int .i64 ((N:Int) - (p:Nat)),.iface ta ya,.iface tb yb,.iface td yd] 182)) w'→w'.cell? ⟨w.heap.size,2,none⟩=some (.iface tb yb):=fun w' hb=>(hb.cell (by simp)).trans (by simp)
 have k3:∀w',Below (w.alloc (.cells #[.int .i64 ((N:Int) - (p:Nat)),.iface ta ya,.iface tb yb,.iface td yd] 182)).heap.size (w.alloc (.cells #[.int .i64 ((N:Int) - (p:Nat)),.iface ta ya,.iface tb yb,.iface td yd] 182)) w'→w'.cell? ⟨w.heap.size,3,none⟩=some (.iface td yd):=fun w' hb=>(hb.cell (by simp)).trans (by simp)
 go_enter Tryz.func42,Tryz.ntmps42
 go_wp2_with fail
 have HLW:Hid (lo≤(w.alloc (.cells #[.int .i64 ((N:Int) - (p:Nat)),.iface ta ya,.iface tb yb,.iface td yd] 182)).heap.size):=Nat.le_trans HLO.out HB.out.size
 generalize hW:(w.alloc (.cells #[.int .i64 ((N:Int) - (p:Nat)),.iface ta ya,.iface tb yb,.iface td yd] 182))=W at HLW HB k1 k2 k3 ⊢
 clear hW t_int t_bool t_name t_pre t_two t_least t_if
 go_region_held3 (fun w'=>Below W.heap.size W w') (first | assumption | exact (Below.refl _ _).drew) (first
  | (go_at_call 42;(with_reducible refine (IHa.out _ ?_).mono ?_);exact ⟨(HN.out.below HB.out).below (by assumption),Nat.le_trans HLW.out (Below.size (by assumption))⟩;rintro e w4 ⟨hbw4,f4,c4,rfl,hy4⟩;have HY4:Hid (Bv lo w4 f4 c4 αa φa):=hy4;clear hy4;have hBw4:Below W.heap.size W w4:=below_step (by assumption) hbw4)
  | (go_at_call 42;(with_reducible refine (IHb.out _ ?_).mono ?_);exact ⟨(HN.out.below HB.out).below (by assumption),Nat.le_trans HLW.out (Below.size (by assumption))⟩;rintro e w5 ⟨hbw5,f5,c5,rfl,hy5⟩;have HY5:Hid (Bv lo w5 f5 c5 αb φb):=hy5;clear hy5;have hBw5:Below W.heap.size W w5:=below_step (by assumption) hbw5)
  | (go_at_call 42;(with_reducible refine (IHd.out _ ?_).mono ?_);exact ⟨(HN.out.below HB.out).below (by assumption),Nat.le_trans HLW.out (Below.size (by assumption))⟩;rintro e w6 ⟨hbw6,f6,c6,rfl,hy6⟩;have HY6:Hid (Bv lo w6 f6 c6 αd φd):=hy6;clear hy6;have hBw6:Below W.heap.size W w6:=below_step (by assumption) hbw6)
  | (go_at_call 75;refine (ofChoice_is (Nat.le_trans HLW.out (Below.size hBw6)) ((HY4.out.mono hbw5).mono hbw6) (HY5.out.mono hbw6) HY6.out).mono ?_;rintro e w9 ⟨hbw9,f9,c9,rfl,hy9⟩;have HY9:Hid (Bv lo w9 f9 c9 _ _):=hy9;clear hy9;have hBw9:Below W.heap.size W w9:=below_step (by assumption) hbw9))
 all_goals go_wp2
 all_goals go_ret
 all_goals exact ⟨below_step HB.out hBw9,_,_,rfl,HY9.out⟩
set_option maxRecDepth 100000 in
theorem we_fby {lo:Nat} (N:Nat) (a:Nat→Addr) (c b n:Nat) (m:Mil.Bytes→Option Int) (p:Nat) (ta:TypeId) (ya:Value) {αa:Al} {φa:Ph2} (tb:TypeId) (yb:Value) {αb:Al} {φb:Ph2} (iha:∀w,Nm a c b n m w∧lo≤w.heap.size→Calls Tryz.prog 42 #[.pointer (some ⟨c,0,none⟩),.iface ta ya] w (FnP w (Xb lo αa φa))) (ihb:∀w,Nm a c b n m w∧lo≤w.heap.size→Calls Tryz.prog 42 #[.pointer (some ⟨c,0,none⟩),.iface tb yb] w (FnP w (Xb lo αb φb))) (w:World) (hN:Nm a c b n m w∧lo≤w.heap.size) :
  Calls Tryz.prog 42 #[.pointer (some ⟨c,0,none⟩),.iface 185 (.agg #[.int .i64 ((N:Int) - (p:Nat)),.iface ta ya,.iface tb yb])] w (FnP w (Xb lo (fun d n=>if n=0 then αa d n else αb d (wrap64 (n - 1))) (fun S n=>if n=0 then φa S n else φb S (wrap64 (n - 1))))):=by
 have HN:Hid (Nm a c b n m w):=hN.1
 have HLO:Hid (lo≤w.heap.size):=hN.2
 have HB:Hid (Below w.heap.size w (w.alloc (.cells #[.int .i64 ((N:Int) - (p:Nat)),.iface ta ya,.iface tb yb] 185))):=(Below.refl _ _).alloc (Nat.le_refl _) _
 have t_int:=ta_fby_int (.agg #[.int .i64 ((N:Int) - (p:Nat)),.iface ta ya,.iface tb yb])
 have t_bool:=ta_fby_bool (.agg #[.int .i64 ((N:Int) - (p:Nat)),.iface ta ya,.iface tb yb])
 have t_name:=ta_fby_name (.agg #[.int .i64 ((N:Int) - (p:Nat)),.iface ta ya,.iface tb yb])
 have t_pre:=ta_fby_pre (.agg #[.int .i64 ((N:Int) - (p:Nat)),.iface ta ya,.iface tb yb])
 have t_two:=ta_fby_two (.agg #[.int .i64 ((N:Int) - (p:Nat)),.iface ta ya,.iface tb yb])
 have t_least:=ta_fby_least (.agg #[.int .i64 ((N:Int) - (p:Nat)),.iface ta ya,.iface tb yb])
 have t_if:=ta_fby_if (.agg #[.int .i64 ((N:Int) - (p:Nat)),.iface ta ya,.iface tb yb])
 have t_fby:=ta_fby_fby (.agg #[.int .i64 ((N:Int) - (p:Nat)),.iface ta ya,.iface tb yb])
 have IHa:Hid (∀w,Nm a c b n m w∧lo≤w.heap.size→Calls Tryz.prog 42 #[.pointer (some ⟨c,0,none⟩),.iface ta ya] w (FnP w (Xb lo αa φa))):=iha
 have IHb:Hid (∀w,Nm a c b n m w∧lo≤w.heap.size→Calls Tryz.prog 42 #[.pointer (some ⟨c,0,none⟩),.iface tb yb] w (FnP w (Xb lo αb φb))):=ihb
 clear hN iha ihb
 have k1:∀w',Below (w.alloc (.cells #[.int .i64 ((N:Int) - (p:Nat)),.iface ta ya,.iface tb yb] 185)).heap.size (w.alloc (.cells #[.int .i64 ((N:Int) - (p:Nat)),.iface ta ya,.iface tb yb] 185)) w'→w'.cell? ⟨w.heap.size,1,none⟩=some (.iface ta ya):=fun w' hb=>(hb.cell (by simp)).trans (by simp)
 have k2:∀w',Below (w.alloc (.cells #[.int .i64 ((N:Int) - (p:Nat)),.iface ta ya,.iface tb yb] 185)).heap.size (w.alloc (.cells #[.int .i64 ((N:Int) - (p:Nat)),.iface ta ya,.iface tb yb] 185)) w'→w'.cell? ⟨w.heap.size,2,none⟩=some (.iface tb yb):=fun w' hb=>(hb.cell (by simp)).trans (by simp)
 go_enter Tryz.func42,Tryz.ntmps42
 go_wp2_with fail
 have HLW:Hid (lo≤(w.alloc (.cells #[.int .i64 ((N:Int) - (p:Nat)),.iface ta ya,.iface tb yb] 185)).heap.size):=Nat.le_trans HLO.out HB.out.size
 generalize hW:(w.alloc (.cells #[.int .i64 ((N:Int) - (p:Nat)),.iface ta ya,.iface tb yb] 185))=W at HLW HB k1 k2 ⊢
 clear hW t_int t_bool t_name t_pre t_two t_least t_if t_fby
 go_region_held3 (fun w'=>Below W.heap.size W w') (first | assumption | exact (Below.refl _ _).drew) (first
  | (go_at_call 42;(with_reducible refine (IHa.out _ ?_).mono ?_);exact ⟨(HN.out.below HB.out).below (by assumption),Nat.le_trans HLW.out (Below.size (by assumption))⟩;rintro e w4 ⟨hbw4,f4,c4,rfl,hy4⟩;have HY4:Hid (Bv lo w4 f4 c4 αa φa):=hy4;clear hy4;have hBw4:Below W.heap.size W w4:=below_step (by assumption) hbw4)
  | (go_at_call 42;(with_reducible refine (IHb.out _ ?_).mono ?_);exact ⟨(HN.out.below HB.out).below (by assumption),Nat.le_trans HLW.out (Below.size (by assumption))⟩;rintro e w5 ⟨hbw5,f5,c5,rfl,hy5⟩;have HY5:Hid (Bv lo w5 f5 c5 αb φb):=hy5;clear hy5;have hBw5:Below W.heap.size W w5:=below_step (by assumption) hbw5)
  | (go_at_call 76;refine (later_is (Nat.le_trans HLW.out (Below.size hBw5)) (HY4.out.mono hbw5) HY5.out).mono ?_;rintro e w9 ⟨hbw9,f9,c9,rfl,hy9⟩;have HY9:Hid (Bv lo w9 f9 c9 _ _):=hy9;clear hy9;have hBw9:Below W.heap.size W w9:=below_step (by assumption) hbw9))
 all_goals go_wp2
 all_goals go_ret
 all_goals exact ⟨below_step HB.out hBw9,_,_,rfl,HY9.out⟩
set_option maxRecDepth 100000 in
theorem we_under {lo:Nat} (N:Nat) (a:Nat→Addr) (c b n:Nat) (m:Mil.Bytes→Option Int) (p:Nat) (k:Nat) (ta:TypeId) (ya:Value) {αa:Al} {φa:Ph2} (iha:∀w,Nm a c b n m w∧lo≤w.heap.size→Calls Tryz.prog 42 #[.pointer (some ⟨c,0,none⟩),.iface ta ya] w (FnP w (Xb lo αa φa))) (w:World) (hN:Nm a c b n m w∧lo≤w.heap.size) :
  Calls Tryz.prog 42 #[.pointer (some ⟨c,0,none⟩),.iface 188 (.agg #[.int .i64 ((N:Int) - (p:Nat)),.iface ta ya,.int .i64 (k:Nat)])] w (FnP w (Xb lo (fun d n=>αa d (wrap64 ((k:Nat)*n))) (fun S n=>φa S (wrap64 ((k:Nat)*n))))):=by
 have HN:Hid (Nm a c b n m w):=hN.1
 have HLO:Hid (lo≤w.heap.size):=hN.2
 have HB:Hid (Below w.heap.size w (w.alloc (.cells #[.int .i64 ((N:Int) - (p:Nat)),.iface ta ya,.int .i64 (k:Nat)] 188))):=(Below.refl _ _).alloc (Nat.le_refl _) _
 have t_int:=ta_under_int (.agg #[.int .i64 ((N:Int) - (p:Nat)),.iface ta ya,.int .i64 (k:Nat)])
 have t_bool:=ta_under_bool (.agg #[.int .i64 ((N:Int) - (p:Nat)),.iface ta ya,.int .i64 (k:Nat)])
 have t_name:=ta_under_name (.agg #[.int .i64 ((N:Int) - (p:Nat)),.iface ta ya,.int .i64 (k:Nat)])
 have t_pre:=ta_under_pre (.agg #[.int .i64 ((N:Int) - (p:Nat)),.iface ta ya,.int .i64 (k:Nat)])
 have t_two:=ta_under_two (.agg #[.int .i64 ((N:Int) - (p:Nat)),.iface ta ya,.int .i64 (k:Nat)])
 have t_least:=ta_under_least (.agg #[.int .i64 ((N:Int) - (p:Nat)),.iface ta ya,.int .i64 (k:Nat)])
 have t_if:=ta_under_if (.agg #[.int .i64 ((N:Int) - (p:Nat)),.iface ta ya,.int .i64 (k:Nat)])
 have t_fby:=ta_under_fby (.agg #[.int .i64 ((N:Int) - (p:Nat)),.iface ta ya,.int .i64 (k:Nat)])
 have t_under:=ta_under_under (.agg #[.int .i64 ((N:Int) - (p:Nat)),.iface ta ya,.int .i64 (k:Nat)])
 have IHa:Hid (∀w,Nm a c b n m w∧lo≤w.heap.size→Calls Tryz.prog 42 #[.pointer (some ⟨c,0,none⟩),.iface ta ya] w (FnP w (Xb lo αa φa))):=iha
 clear hN iha
 have k1:∀w',Below (w.alloc (.cells #[.int .i64 ((N:Int) - (p:Nat)),.iface ta ya,.int .i64 (k:Nat)] 188)).heap.size (w.alloc (.cells #[.int .i64 ((N:Int) - (p:Nat)),.iface ta ya,.int .i64 (k:Nat)] 188)) w'→w'.cell? ⟨w.heap.size,1,none⟩=some (.iface ta ya):=fun w' hb=>(hb.cell (by simp)).trans (by simp)
 have k2:∀w',Below (w.alloc (.cells #[.int .i64 ((N:Int) - (p:Nat)),.iface ta ya,.int .i64 (k:Nat)] 188)).heap.size (w.alloc (.cells #[.int .i64 ((N:Int) - (p:Nat)),.iface ta ya,.int .i64 (k:Nat)] 188)) w'→w'.cell? ⟨w.heap.size,2,none⟩=some (.int .i64 (k:Nat)):=fun w' hb=>(hb.cell (by simp)).trans (by simp)
 go_enter Tryz.func42,Tryz.ntmps42
 go_wp2_with fail
 have HLW:Hid (lo≤(w.alloc (.cells #[.int .i64 ((N:Int) - (p:Nat)),.iface ta ya,.int .i64 (k:Nat)] 188)).heap.size):=Nat.le_trans HLO.out HB.out.size
 generalize hW:(w.alloc (.cells #[.int .i64 ((N:Int) - (p:Nat)),.iface ta ya,.int .i64 (k:Nat)] 188))=W at HLW HB k1 k2 ⊢
 clear hW t_int t_bool t_name t_pre t_two t_least t_if t_fby t_under
 go_region_held3 (fun w'=>Below W.heap.size W w') (first | assumption | exact (Below.refl _ _).drew) (first
  | (go_at_call 42;(with_reducible refine (IHa.out _ ?_).mono ?_);exact ⟨(HN.out.below HB.out).below (by assumption),Nat.le_trans HLW.out (Below.size (by assumption))⟩;rintro e w4 ⟨hbw4,f4,c4,rfl,hy4⟩;have HY4:Hid (Bv lo w4 f4 c4 αa φa):=hy4;clear hy4;have hBw4:Below W.heap.size W w4:=below_step (by assumption) hbw4)
  | (go_at_call 77;refine (rarer_is (Nat.le_trans HLW.out (Below.size hBw4)) _ HY4.out).mono ?_;rintro e w9 ⟨hbw9,f9,c9,rfl,hy9⟩;have HY9:Hid (Bv lo w9 f9 c9 _ _):=hy9;clear hy9;have hBw9:Below W.heap.size W w9:=below_step (by assumption) hbw9))
 all_goals go_wp2
 all_goals go_ret
 all_goals exact ⟨below_step HB.out hBw9,_,_,rfl,HY9.out⟩
set_option maxRecDepth 100000 in
theorem we_hold {lo:Nat} (N:Nat) (a:Nat→Addr) (c b n:Nat) (m:Mil.Bytes→Option Int) (p:Nat) (k:Nat) (ta:TypeId) (ya:Value) {αa:Al} {φa:Ph2} (tb:TypeId) (yb:Value) {αb:Al} {φb:Ph2} (iha:∀w,Nm a c b n m w∧lo≤w.heap.size→Calls Tryz.prog 42 #[.pointer (some ⟨c,0,none⟩),.iface ta ya] w (FnP w (Xb lo αa φa))) (ihb:∀w,Nm a c b n m w∧lo≤w.heap.size→Calls Tryz.prog 42 #[.pointer (some ⟨c,0,none⟩),.iface tb yb] w (FnP w (Xb lo αb φb))) (hk:((k:Nat):Int)≠0) (w:World) (hN:Nm a c b n m w∧lo≤w.heap.size) :
  Calls Tryz.prog 42 #[.pointer (some ⟨c,0,none⟩),.iface 191 (.agg #[.int .i64 ((N:Int) - (p:Nat)),.iface ta ya,.iface tb yb,.int .i64 (k:Nat)])] w (FnP w (Xb lo (fun d n=>if n < (k:Nat) then αa d n else αb d (wrap64 (n.tdiv (k:Nat) - 1))) (fun S n=>if n < (k:Nat) then φa S n else φb S (wrap64 (n.tdiv (k:Nat) - 1))))):=by
 have HN:Hid (Nm a c b n m w):=hN.1
 have HLO:Hid (lo≤w.heap.size):=hN.2
 have HB:Hid (Below w.heap.size w (w.alloc (.cells #[.int .i64 ((N:Int) - (p:Nat)),.iface ta ya,.iface tb yb,.int .i64 (k:Nat)] 191))):=(Below.refl _ _).alloc (Nat.le_refl _) _
 have HK:Hid (((k:Nat):Int)≠0):=hk
 have t_int:=ta_hold_int (.agg #[.int .i64 ((N:Int) - (p:Nat)),.iface ta ya,.iface tb yb,.int .i64 (k:Nat)])
 have t_bool:=ta_hold_bool (.agg #[.int .i64 ((N:Int) - (p:Nat)),.iface ta ya,.iface tb yb,.int .i64 (k:Nat)])
 have t_name:=ta_hold_name (.agg #[.int .i64 ((N:Int) - (p:Nat)),.iface ta ya,.iface tb yb,.int .i64 (k:Nat)])
 have t_pre:=ta_hold_pre (.agg #[.int .i64 ((N:Int) - (p:Nat)),.iface ta ya,.iface tb yb,.int .i64 (k:Nat)])
 have t_two:=ta_hold_two (.agg #[.int .i64 ((N:Int) - (p:Nat)),.iface ta ya,.iface tb yb,.int .i64 (k:Nat)])
 have t_least:=ta_hold_least (.agg #[.int .i64 ((N:Int) - (p:Nat)),.iface ta ya,.iface tb yb,.int .i64 (k:Nat)])
 have t_if:=ta_hold_if (.agg #[.int .i64 ((N:Int) - (p:Nat)),.iface ta ya,.iface tb yb,.int .i64 (k:Nat)])
 have t_fby:=ta_hold_fby (.agg #[.int .i64 ((N:Int) - (p:Nat)),.iface ta ya,.iface tb yb,.int .i64 (k:Nat)])
 have t_under:=ta_hold_under (.agg #[.int .i64 ((N:Int) - (p:Nat)),.iface ta ya,.iface tb yb,.int .i64 (k:Nat)])
 have t_hold:=ta_hold_hold (.agg #[.int .i64 ((N:Int) - (p:Nat)),.iface ta ya,.iface tb yb,.int .i64 (k:Nat)])
 have IHa:Hid (∀w,Nm a c b n m w∧lo≤w.heap.size→Calls Tryz.prog 42 #[.pointer (some ⟨c,0,none⟩),.iface ta ya] w (FnP w (Xb lo αa φa))):=iha
 have IHb:Hid (∀w,Nm a c b n m w∧lo≤w.heap.size→Calls Tryz.prog 42 #[.pointer (some ⟨c,0,none⟩),.iface tb yb] w (FnP w (Xb lo αb φb))):=ihb
 clear hN iha ihb hk
 have k1:∀w',Below (w.alloc (.cells #[.int .i64 ((N:Int) - (p:Nat)),.iface ta ya,.iface tb yb,.int .i64 (k:Nat)] 191)).heap.size (w.alloc (.cells #[.int .i64 ((N:Int) - (p:Nat)),.iface ta ya,.iface tb yb,.int .i64 (k:Nat)] 191)) w'→w'.cell? ⟨w.heap.size,1,none⟩=some (.iface ta ya):=fun w' hb=>(hb.cell (by simp)).trans (by simp)
 have k2:∀w',Below (w.alloc (.cells #[.int .i64 ((N:Int) - (p:Nat)),.iface ta ya,.iface tb yb,.int .i64 (k:Nat)] 191)).heap.size (w.alloc (.cells #[.int .i64 ((N:Int) - (p:Nat)),.iface ta ya,.iface tb yb,.int .i64 (k:Nat)] 191)) w'→w'.cell? ⟨w.heap.size,2,none⟩=some (.iface tb yb):=fun w' hb=>(hb.cell (by simp)).trans (by simp)
 have k3:∀w',Below (w.alloc (.cells #[.int .i64 ((N:Int) - (p:Nat)),.iface ta ya,.iface tb yb,.int .i64 (k:Nat)] 191)).heap.size (w.alloc (.cells #[.int .i64 ((N:Int) - (p:Nat)),.iface ta ya,.iface tb yb,.int .i64 (k:Nat)] 191)) w'→w'.cell? ⟨w.heap.size,3,none⟩=some (.int .i64 (k:Nat)):=fun w' hb=>(hb.cell (by simp)).trans (by simp)
 go_enter Tryz.func42,Tryz.ntmps42
 go_wp2_with fail
 have HLW:Hid (lo≤(w.alloc (.cells #[.int .i64 ((N:Int) - (p:Nat)),.iface ta ya,.iface tb yb,.int .i64 (k:Nat)] 191)).heap.size):=Nat.le_trans HLO.out HB.out.size
 generalize hW:(w.alloc (.cells #[.int .i64 ((N:Int) - (p:Nat)),.iface ta ya,.iface tb yb,.int .i64 (k:Nat)] 191))=W at HLW HB k1 k2 k3 ⊢
 clear hW t_int t_bool t_name t_pre t_two t_least t_if t_fby t_under t_hold
 go_region_held3 (fun w'=>Below W.heap.size W w') (first | assumption | exact (Below.refl _ _).drew) (first
  | (go_at_call 42;(with_reducible refine (IHa.out _ ?_).mono ?_);exact ⟨(HN.out.below HB.out).below (by assumption),Nat.le_trans HLW.out (Below.size (by assumption))⟩;rintro e w4 ⟨hbw4,f4,c4,rfl,hy4⟩;have HY4:Hid (Bv lo w4 f4 c4 αa φa):=hy4;clear hy4;have hBw4:Below W.heap.size W w4:=below_step (by assumption) hbw4)
  | (go_at_call 42;(with_reducible refine (IHb.out _ ?_).mono ?_);exact ⟨(HN.out.below HB.out).below (by assumption),Nat.le_trans HLW.out (Below.size (by assumption))⟩;rintro e w5 ⟨hbw5,f5,c5,rfl,hy5⟩;have HY5:Hid (Bv lo w5 f5 c5 αb φb):=hy5;clear hy5;have hBw5:Below W.heap.size W w5:=below_step (by assumption) hbw5)
  | (go_at_call 78;refine (oftener_is (Nat.le_trans HLW.out (Below.size hBw5)) _ HK.out (HY4.out.mono hbw5) HY5.out).mono ?_;rintro e w9 ⟨hbw9,f9,c9,rfl,hy9⟩;have HY9:Hid (Bv lo w9 f9 c9 _ _):=hy9;clear hy9;have hBw9:Below W.heap.size W w9:=below_step (by assumption) hbw9))
 all_goals go_wp2
 all_goals go_ret
 all_goals exact ⟨below_step HB.out hBw9,_,_,rfl,HY9.out⟩
set_option maxRecDepth 100000 in
theorem we_least {lo:Nat} (N:Nat) (a:Nat→Addr) (c b n:Nat) (m:Mil.Bytes→Option Int) {ρ:Mil.Bytes→Int→Int→Int} (hr:Rall2 ρ) (p:Nat) (x:Mil.Bytes) (ta:TypeId) (ya:Value) {αa:Al} {φa:Ph2} (tb:TypeId) (yb:Value) {αb:Al} {φb:Ph2} (iha:∀w,Nm a c b n m w∧lo≤w.heap.size→Calls Tryz.prog 42 #[.pointer (some ⟨c,0,none⟩),.iface ta ya] w (FnP w (Xb lo αa φa))) (ihb:∀w,Nm a c b n m w∧lo≤w.heap.size→Calls Tryz.prog 42 #[.pointer (some ⟨c,0,none⟩),.iface tb yb] w (FnP w (Xb lo αb φb))) (w:World) (hN:Nm a c b n m w∧lo≤w.heap.size) :
  Calls Tryz.prog 42 #[.pointer (some ⟨c,0,none⟩),.iface 180 (.agg #[.int .i64 ((N:Int) - (p:Nat)),.string (bs x),.iface ta ya,.iface tb yb])] w (FnP w (Xb lo (fun d n=>αa d n∧αb d n) (fun S n=>(φa S n).bind fun u=>(φb S n).bind fun v=>some (ρ x u v)))):=by
 have HN:Hid (Nm a c b n m w):=hN.1
 have HLO:Hid (lo≤w.heap.size):=hN.2
 have HB:Hid (Below w.heap.size w (w.alloc (.cells #[.int .i64 ((N:Int) - (p:Nat)),.string (bs x),.iface ta ya,.iface tb yb] 180))):=(Below.refl _ _).alloc (Nat.le_refl _) _
 have HRx:Hid (∀w,Calls Tryz.prog 74 #[.string (bs x)] w (FnP w fun _ f c=>Rkn f c (ρ x))):=(hr x).2.2
 have t_int:=ta_least_int (.agg #[.int .i64 ((N:Int) - (p:Nat)),.string (bs x),.iface ta ya,.iface tb yb])
 have t_bool:=ta_least_bool (.agg #[.int .i64 ((N:Int) - (p:Nat)),.string (bs x),.iface ta ya,.iface tb yb])
 have t_name:=ta_least_name (.agg #[.int .i64 ((N:Int) - (p:Nat)),.string (bs x),.iface ta ya,.iface tb yb])
 have t_pre:=ta_least_pre (.agg #[.int .i64 ((N:Int) - (p:Nat)),.string (bs x),.iface ta ya,.iface tb yb])
 have t_two:=ta_least_two (.agg #[.int .i64 ((N:Int) - (p:Nat)),.string (bs x),.iface ta ya,.iface tb yb])
 have t_least:=ta_least_least (.agg #[.int .i64 ((N:Int) - (p:Nat)),.string (bs x),.iface ta ya,.iface tb yb])
 have IHa:Hid (∀w,Nm a c b n m w∧lo≤w.heap.size→Calls Tryz.prog 42 #[.pointer (some ⟨c,0,none⟩),.iface ta ya] w (FnP w (Xb lo αa φa))):=iha
 have IHb:Hid (∀w,Nm a c b n m w∧lo≤w.heap.size→Calls Tryz.prog 42 #[.pointer (some ⟨c,0,none⟩),.iface tb yb] w (FnP w (Xb lo αb φb))):=ihb
 clear hN iha ihb hr
 have k1:∀w',Below (w.alloc (.cells #[.int .i64 ((N:Int) - (p:Nat)),.string (bs x),.iface ta ya,.iface tb yb] 180)).heap.size (w.alloc (.cells #[.int .i64 ((N:Int) - (p:Nat)),.string (bs x),.iface ta ya,.iface tb yb] 180)) w'→w'.cell? ⟨w.heap.size,1,none⟩=some (.string (bs x)):=fun w' hb=>(hb.cell (by simp)).trans (by simp)
 have k2:∀w',Below (w.alloc (.cells #[.int .i64 ((N:Int) - (p:Nat)),.string (bs x),.iface ta ya,.iface tb yb] 180)).heap.size (w.alloc (.cells #[.int .i64 ((N:Int) - (p:Nat)),.string (bs x),.iface ta ya,.iface tb yb] 180)) w'→w'.cell? ⟨w.heap.size,2,none⟩=some (.iface ta ya):=fun w' hb=>(hb.cell (by simp)).trans (by simp)
 have k3:∀w',Below (w.alloc (.cells #[.int .i64 ((N:Int) - (p:Nat)),.string (bs x),.iface ta ya,.iface tb yb] 180)).heap.size (w.alloc (.cells #[.int .i64 ((N:Int) - (p:Nat)),.string (bs x),.iface ta ya,.iface tb yb] 180)) w'→w'.cell? ⟨w.heap.size,3,none⟩=some (.iface tb yb):=fun w' hb=>(hb.cell (by simp)).trans (by simp)
 go_enter Tryz.func42,Tryz.ntmps42
 go_wp2_with fail
 have HLW:Hid (lo≤(w.alloc (.cells #[.int .i64 ((N:Int) - (p:Nat)),.string (bs x),.iface ta ya,.iface tb yb] 180)).heap.size):=Nat.le_trans HLO.out HB.out.size
 generalize hW:(w.alloc (.cells #[.int .i64 ((N:Int) - (p:Nat)),.string (bs x),.iface ta ya,.iface tb yb] 180))=W at HLW HB k1 k2 k3 ⊢
 clear hW t_int t_bool t_name t_pre t_two t_least
 go_region_held3 (fun w'=>Below W.heap.size W w') (first | assumption | exact (Below.refl _ _).drew) (first
  | (go_at_call 74;(with_reducible refine (HRx.out _).mono ?_);rintro e w8 ⟨hbw8,f8,c8,rfl,hy8⟩;have HY8:Hid (Rkn f8 c8 (ρ x)):=hy8;clear hy8;have hBw8:Below W.heap.size W w8:=below_step (by assumption) hbw8)
  | (go_at_call 42;(with_reducible refine (IHa.out _ ?_).mono ?_);exact ⟨(HN.out.below HB.out).below (by assumption),Nat.le_trans HLW.out (Below.size (by assumption))⟩;rintro e w4 ⟨hbw4,f4,c4,rfl,hy4⟩;have HY4:Hid (Bv lo w4 f4 c4 αa φa):=hy4;clear hy4;have hBw4:Below W.heap.size W w4:=below_step (by assumption) hbw4)
  | (go_at_call 42;(with_reducible refine (IHb.out _ ?_).mono ?_);exact ⟨(HN.out.below HB.out).below (by assumption),Nat.le_trans HLW.out (Below.size (by assumption))⟩;rintro e w5 ⟨hbw5,f5,c5,rfl,hy5⟩;have HY5:Hid (Bv lo w5 f5 c5 αb φb):=hy5;clear hy5;have hBw5:Below W.heap.size W w5:=below_step (by assumption) hbw5)
  | (go_at_call 73;refine (ofTwo_is (Nat.le_trans HLW.out (Below.size hBw5)) HY8.out (HY4.out.mono hbw5) HY5.out).mono ?_;rintro e w9 ⟨hbw9,f9,c9,rfl,hy9⟩;have HY9:Hid (Bv lo w9 f9 c9 _ _):=hy9;clear hy9;have hBw9:Below W.heap.size W w9:=below_step (by assumption) hbw9))
 all_goals go_wp2
 all_goals go_ret
 all_goals exact ⟨below_step HB.out hBw9,_,_,rfl,HY9.out⟩
end
end Go.Proofs.YticbokabjhnagaaGreatDoor
