import Derived.Test.YticbokabjhnagaaGreatDoorW15
import Derived.Test.YticbokabjhnagaaGreatDoorW22
namespace Go.Proofs.YticbokabjhnagaaGreatDoor
set_option maxHeartbeats 32000000
section
open Go.RowKit
theorem Laid.below {a:Nat→Addr} {w w':World} (h:Laid a w) (hH:23≤w.heap.size) (k:Below w.heap.size w w'):Laid a w':=h.kept (b:=w.heap.size) ⟨k.os,k.tape,k.output,k.size,fun i h1 _=>k.block i h1⟩ hH
def Tyc (w:World) (g:Nat) (ts:List Nat):Prop:=∀(j t:Nat),ts[j]?=some t→w.cell? ⟨g,j,none⟩=some (.int .i64 (t:Nat))
theorem Tyc.below {w w':World} {g:Nat} {ts:List Nat} (h:Tyc w g ts) (k:Below w.heap.size w w'):Tyc w' g ts:=fun j t hj=>(k.cell (lt_of_cell (h j t hj))).trans (h j t hj)
def TbPost (r:Nat×Bool) (w:World) (E:Ending) (w':World):Prop:=Below w.heap.size w w'∧E=.returned (.tuple #[.int .i64 (r.1:Nat),.bool r.2])
theorem want_at:∀k,k < 14→opWant k=((Mip.wantTy (opName k):Nat):Int):=by decide
theorem give_at:∀k,k < 14→opGive k=((Mip.giveTy (opName k):Nat):Int):=by decide
theorem prefixType_any (x:Mil.Bytes) (w:World):Calls Tryz.prog 128 #[.string (bs x)] w fun E w'=>Below w.heap.size w w'∧E=.returned (.int .i64 (Mip.preTy x:Nat)):=by
 by_cases h:x=Mil.wNot
 ·have hb:((bs x).toList==[110,111,116])=true:=by rw [Lib.toList_data,bs_list,h];rfl
  have e:Mip.preTy x=1:=if_pos h
  clear h
  go_enter Tryz.func128,Tryz.ntmps128
  go_wp2
  go_ret
  exact ⟨Below.refl _ _,by rw [e];rfl⟩
 ·have hb:((bs x).toList==[110,111,116])=false:=by rw [Lib.toList_data,bs_list];exact beq_false_of_ne h
  have e:Mip.preTy x=0:=if_neg h
  clear h
  go_enter Tryz.func128,Tryz.ntmps128
  go_wp2
  go_ret
  exact ⟨Below.refl _ _,by rw [e];rfl⟩
set_option maxRecDepth 100000 in
theorem typeBy_int (N:Nat) (a':Nat→Addr) (c b' n:Nat) (m:Mil.Bytes→Option Int) (g:Nat) (F:List Flo) (p:Nat) (k:Nat) (q:Nat) (w:World) (hC:Cw a' c b' n m g F w) (hL:Laid a' w) (hT:Tyc w q []) :
  Calls Tryz.prog 90 #[.pointer (some ⟨c,0,none⟩),.iface 165 (.agg #[.int .i64 ((N:Int) - (p:Nat)),.int .i64 (k:Nat)]),.slice (some ⟨q,0,none⟩) 0 0] w (TbPost (Mip.tyBy m F 1 [] []) w):=by
 have HC:Hid (Cw a' c b' n m g F w):=hC
 have HL:Hid (Laid a' w):=hL
 have HT:Hid (Tyc w q []):=hT
 have HH:Hid (23≤w.heap.size):=hC.nm.ce.size
 have t_int:=ta_int_int (.agg #[.int .i64 ((N:Int) - (p:Nat)),.int .i64 (k:Nat)])
 have t_bool:=ta_int_bool (.agg #[.int .i64 ((N:Int) - (p:Nat)),.int .i64 (k:Nat)])
 have t_name:=ta_int_name (.agg #[.int .i64 ((N:Int) - (p:Nat)),.int .i64 (k:Nat)])
 have t_pre:=ta_int_pre (.agg #[.int .i64 ((N:Int) - (p:Nat)),.int .i64 (k:Nat)])
 have t_two:=ta_int_two (.agg #[.int .i64 ((N:Int) - (p:Nat)),.int .i64 (k:Nat)])
 have t_if:=ta_int_if (.agg #[.int .i64 ((N:Int) - (p:Nat)),.int .i64 (k:Nat)])
 have t_fby:=ta_int_fby (.agg #[.int .i64 ((N:Int) - (p:Nat)),.int .i64 (k:Nat)])
 have t_hold:=ta_int_hold (.agg #[.int .i64 ((N:Int) - (p:Nat)),.int .i64 (k:Nat)])
 have t_least:=ta_int_least (.agg #[.int .i64 ((N:Int) - (p:Nat)),.int .i64 (k:Nat)])
 have t_under:=ta_int_under (.agg #[.int .i64 ((N:Int) - (p:Nat)),.int .i64 (k:Nat)])
 clear hC hL hT
 have HB:Hid (Below w.heap.size w (w.alloc (.cells #[.int .i64 ((N:Int) - (p:Nat)),.int .i64 (k:Nat)] 165))):=(Below.refl _ _).alloc (Nat.le_refl _) _
 have HTW:Hid (Tyc (w.alloc (.cells #[.int .i64 ((N:Int) - (p:Nat)),.int .i64 (k:Nat)] 165)) q []):=HT.out.below HB.out
 go_enter Tryz.func90,Tryz.ntmps90
 go_wp2
 go_ret2
 exact ⟨HB.out,rfl⟩
set_option maxRecDepth 100000 in
theorem typeBy_bool (N:Nat) (a':Nat→Addr) (c b' n:Nat) (m:Mil.Bytes→Option Int) (g:Nat) (F:List Flo) (p:Nat) (k:Nat) (q:Nat) (w:World) (hC:Cw a' c b' n m g F w) (hL:Laid a' w) (hT:Tyc w q []) :
  Calls Tryz.prog 90 #[.pointer (some ⟨c,0,none⟩),.iface 168 (.agg #[.int .i64 ((N:Int) - (p:Nat)),.bool (k==1)]),.slice (some ⟨q,0,none⟩) 0 0] w (TbPost (Mip.tyBy m F 2 [] []) w):=by
 have HC:Hid (Cw a' c b' n m g F w):=hC
 have HL:Hid (Laid a' w):=hL
 have HT:Hid (Tyc w q []):=hT
 have HH:Hid (23≤w.heap.size):=hC.nm.ce.size
 have t_int:=ta_bool_int (.agg #[.int .i64 ((N:Int) - (p:Nat)),.bool (k==1)])
 have t_bool:=ta_bool_bool (.agg #[.int .i64 ((N:Int) - (p:Nat)),.bool (k==1)])
 have t_name:=ta_bool_name (.agg #[.int .i64 ((N:Int) - (p:Nat)),.bool (k==1)])
 have t_pre:=ta_bool_pre (.agg #[.int .i64 ((N:Int) - (p:Nat)),.bool (k==1)])
 have t_two:=ta_bool_two (.agg #[.int .i64 ((N:Int) - (p:Nat)),.bool (k==1)])
 have t_if:=ta_bool_if (.agg #[.int .i64 ((N:Int) - (p:Nat)),.bool (k==1)])
 have t_fby:=ta_bool_fby (.agg #[.int .i64 ((N:Int) - (p:Nat)),.bool (k==1)])
 have t_hold:=ta_bool_hold (.agg #[.int .i64 ((N:Int) - (p:Nat)),.bool (k==1)])
 have t_least:=ta_bool_least (.agg #[.int .i64 ((N:Int) - (p:Nat)),.bool (k==1)])
 have t_under:=ta_bool_under (.agg #[.int .i64 ((N:Int) - (p:Nat)),.bool (k==1)])
 clear hC hL hT
 have HB:Hid (Below w.heap.size w (w.alloc (.cells #[.int .i64 ((N:Int) - (p:Nat)),.bool (k==1)] 168))):=(Below.refl _ _).alloc (Nat.le_refl _) _
 have HTW:Hid (Tyc (w.alloc (.cells #[.int .i64 ((N:Int) - (p:Nat)),.bool (k==1)] 168)) q []):=HT.out.below HB.out
 go_enter Tryz.func90,Tryz.ntmps90
 go_wp2
 go_ret2
 exact ⟨HB.out,rfl⟩
set_option maxRecDepth 100000 in
theorem typeBy_name (N:Nat) (a':Nat→Addr) (c b' n:Nat) (m:Mil.Bytes→Option Int) (g:Nat) (F:List Flo) (p:Nat) (x:Mil.Bytes) (hx:x.length≤4000) (hu:(m x).isSome=true) (hfit:Fit' m F) (q:Nat) (w:World) (hC:Cw a' c b' n m g F w) (hL:Laid a' w) (hT:Tyc w q []) :
  Calls Tryz.prog 90 #[.pointer (some ⟨c,0,none⟩),.iface 103 (.agg #[.int .i64 ((N:Int) - (p:Nat)),.string (bs x)]),.slice (some ⟨q,0,none⟩) 0 0] w (TbPost (Mip.tyBy m F 3 x []) w):=by
 have HC:Hid (Cw a' c b' n m g F w):=hC
 have HL:Hid (Laid a' w):=hL
 have HT:Hid (Tyc w q []):=hT
 have HX:Hid (x.length≤4000):=hx
 have HU:Hid ((m x).isSome=true):=hu
 have HFIT:Hid (Fit' m F):=hfit
 have HH:Hid (23≤w.heap.size):=hC.nm.ce.size
 have t_int:=ta_name_int (.agg #[.int .i64 ((N:Int) - (p:Nat)),.string (bs x)])
 have t_bool:=ta_name_bool (.agg #[.int .i64 ((N:Int) - (p:Nat)),.string (bs x)])
 have t_name:=ta_name_name (.agg #[.int .i64 ((N:Int) - (p:Nat)),.string (bs x)])
 have t_pre:=ta_name_pre (.agg #[.int .i64 ((N:Int) - (p:Nat)),.string (bs x)])
 have t_two:=ta_name_two (.agg #[.int .i64 ((N:Int) - (p:Nat)),.string (bs x)])
 have t_if:=ta_name_if (.agg #[.int .i64 ((N:Int) - (p:Nat)),.string (bs x)])
 have t_fby:=ta_name_fby (.agg #[.int .i64 ((N:Int) - (p:Nat)),.string (bs x)])
 have t_hold:=ta_name_hold (.agg #[.int .i64 ((N:Int) - (p:Nat)),.string (bs x)])
 have t_least:=ta_name_least (.agg #[.int .i64 ((N:Int) - (p:Nat)),.string (bs x)])
 have t_under:=ta_name_under (.agg #[.int .i64 ((N:Int) - (p:Nat)),.string (bs x)])
 clear hC hL hT hx hu hfit
 have HB:Hid (Below w.heap.size w (w.alloc (.cells #[.int .i64 ((N:Int) - (p:Nat)),.string (bs x)] 103))):=(Below.refl _ _).alloc (Nat.le_refl _) _
 have HTW:Hid (Tyc (w.alloc (.cells #[.int .i64 ((N:Int) - (p:Nat)),.string (bs x)] 103)) q []):=HT.out.below HB.out
 go_enter Tryz.func90,Tryz.ntmps90
 go_wp2_with fail
 obtain ⟨i,hi⟩:=Option.isSome_iff_exists.1 HU.out
 obtain ⟨i,rfl,hil⟩:=HFIT.out x i hi
 obtain ⟨f,hf⟩:∃f,F[i]?=some f:=⟨_,List.getElem?_eq_getElem hil⟩
 have HF:Hid (Mip.tyBy m F 3 x []=(f.ty,true)):=by
  show (Mip.tyFlow m F x,true)=_
  unfold Mip.tyFlow
  rw [hi]
  show ((F[i]?.map Flo.ty).getD 0,true)=_
  rw [hf];rfl
 refine (flowOf_any (HC.out.below HB.out) x HX.out _ i hi f hf).mono ?_
 rintro E w1 ⟨hb1,rfl⟩
 have HB1:Hid (Below w.heap.size w w1):=below_step HB.out hb1
 have hfd:∀w,(Instr.field 42 (floV f) 1).run Tryz.prog w=.ok (.int .i64 (f.ty:Nat)) w:=fun w=>by kernel_rfl
 clear hb1 hi hf hil
 go_wp2
 go_ret2
 exact ⟨HB1.out,by rw [HF.out];rfl⟩
set_option maxRecDepth 100000 in
theorem typeBy_pre (N:Nat) (a':Nat→Addr) (c b' n:Nat) (m:Mil.Bytes→Option Int) (g:Nat) (F:List Flo) (p:Nat) (x:Mil.Bytes) (ta:TypeId) (ya:Value) (ua:Nat) (q:Nat) (w:World) (hC:Cw a' c b' n m g F w) (hL:Laid a' w) (hT:Tyc w q [ua]) :
  Calls Tryz.prog 90 #[.pointer (some ⟨c,0,none⟩),.iface 172 (.agg #[.int .i64 ((N:Int) - (p:Nat)),.string (bs x),.iface ta ya]),.slice (some ⟨q,0,none⟩) 1 1] w (TbPost (Mip.tyBy m F 4 x [ua]) w):=by
 have HC:Hid (Cw a' c b' n m g F w):=hC
 have HL:Hid (Laid a' w):=hL
 have HT:Hid (Tyc w q [ua]):=hT
 have HH:Hid (23≤w.heap.size):=hC.nm.ce.size
 have t_int:=ta_pre_int (.agg #[.int .i64 ((N:Int) - (p:Nat)),.string (bs x),.iface ta ya])
 have t_bool:=ta_pre_bool (.agg #[.int .i64 ((N:Int) - (p:Nat)),.string (bs x),.iface ta ya])
 have t_name:=ta_pre_name (.agg #[.int .i64 ((N:Int) - (p:Nat)),.string (bs x),.iface ta ya])
 have t_pre:=ta_pre_pre (.agg #[.int .i64 ((N:Int) - (p:Nat)),.string (bs x),.iface ta ya])
 have t_two:=ta_pre_two (.agg #[.int .i64 ((N:Int) - (p:Nat)),.string (bs x),.iface ta ya])
 have t_if:=ta_pre_if (.agg #[.int .i64 ((N:Int) - (p:Nat)),.string (bs x),.iface ta ya])
 have t_fby:=ta_pre_fby (.agg #[.int .i64 ((N:Int) - (p:Nat)),.string (bs x),.iface ta ya])
 have t_hold:=ta_pre_hold (.agg #[.int .i64 ((N:Int) - (p:Nat)),.string (bs x),.iface ta ya])
 have t_least:=ta_pre_least (.agg #[.int .i64 ((N:Int) - (p:Nat)),.string (bs x),.iface ta ya])
 have t_under:=ta_pre_under (.agg #[.int .i64 ((N:Int) - (p:Nat)),.string (bs x),.iface ta ya])
 clear hC hL hT
 have HB:Hid (Below w.heap.size w (w.alloc (.cells #[.int .i64 ((N:Int) - (p:Nat)),.string (bs x),.iface ta ya] 172))):=(Below.refl _ _).alloc (Nat.le_refl _) _
 have HTW:Hid (Tyc (w.alloc (.cells #[.int .i64 ((N:Int) - (p:Nat)),.string (bs x),.iface ta ya] 172)) q [ua]):=HT.out.below HB.out
 have u0:=HTW.out 0 ua rfl
 have k0:∀w',Below (w.alloc (.cells #[.int .i64 ((N:Int) - (p:Nat)),.string (bs x),.iface ta ya] 172)).heap.size (w.alloc (.cells #[.int .i64 ((N:Int) - (p:Nat)),.string (bs x),.iface ta ya] 172)) w'→w'.cell? ⟨q,0,none⟩=some (.int .i64 (ua:Nat)):=fun w' hb=>(hb.cell (lt_of_cell u0)).trans u0
 have k1:∀w',Below (w.alloc (.cells #[.int .i64 ((N:Int) - (p:Nat)),.string (bs x),.iface ta ya] 172)).heap.size (w.alloc (.cells #[.int .i64 ((N:Int) - (p:Nat)),.string (bs x),.iface ta ya] 172)) w'→w'.cell? ⟨w.heap.size,1,none⟩=some (.string (bs x)):=fun w' hb=>(hb.cell (by simp)).trans (by simp)
 go_enter Tryz.func90,Tryz.ntmps90
 go_wp2_with fail
 generalize hW:(w.alloc (.cells #[.int .i64 ((N:Int) - (p:Nat)),.string (bs x),.iface ta ya] 172))=W at HB HTW u0 k0 k1 ⊢
 clear hW u0
 have HPT:=fun w=>prefixType_any x w
 generalize hpt:Mip.preTy x=t at HPT
 have HPE:Hid (Mip.preTy x=t):=hpt
 clear hpt t_int t_bool t_name t_pre t_two t_if t_fby t_hold t_least t_under
 by_cases he:ua=t
 ·have q1:((ua:Int)==(t:Int))=true:=by rw [beq_iff_eq];omega
  have HR:Hid ((ua==Mip.preTy x)=true):=by show _=_;rw [HPE.out,beq_iff_eq];exact he
  clear he
  go_region_held3 (fun w'=>Below W.heap.size W w') (first | assumption | exact (Below.refl _ _).drew) (first
   | (go_at_call 128;(with_reducible refine (HPT _).mono ?_);rintro e w4 ⟨hbw4,rfl⟩;have hBw4:Below W.heap.size W w4:=below_step (by assumption) hbw4))
  all_goals go_wp2
  all_goals go_ret2
  all_goals exact ⟨below_step HB.out (by assumption),by show _=Ending.returned (.tuple #[.int .i64 (ua:Nat),.bool (ua==Mip.preTy x)]);rw [HR.out];rfl⟩
 ·have q1:((ua:Int)==(t:Int))=false:=by rw [beq_eq_false_iff_ne];omega
  have HR:Hid ((ua==Mip.preTy x)=false):=by show _=_;rw [HPE.out,beq_eq_false_iff_ne];exact he
  clear he
  go_region_held3 (fun w'=>Below W.heap.size W w') (first | assumption | exact (Below.refl _ _).drew) (first
   | (go_at_call 128;(with_reducible refine (HPT _).mono ?_);rintro e w4 ⟨hbw4,rfl⟩;have hBw4:Below W.heap.size W w4:=below_step (by assumption) hbw4))
  all_goals go_wp2
  all_goals go_ret2
  all_goals exact ⟨below_step HB.out (by assumption),by show _=Ending.returned (.tuple #[.int .i64 (ua:Nat),.bool (ua==Mip.preTy x)]);rw [HR.out];rfl⟩
set_option maxRecDepth 100000 in
theorem typeBy_two (N:Nat) (a':Nat→Addr) (c b' n:Nat) (m:Mil.Bytes→Option Int) (g:Nat) (F:List Flo) (p:Nat) (x:Mil.Bytes) (ta:TypeId) (ya:Value) (ua:Nat) (tb:TypeId) (yb:Value) (ub:Nat) (hx:Mil.tightOf x≠9) (q:Nat) (w:World) (hC:Cw a' c b' n m g F w) (hL:Laid a' w) (hT:Tyc w q [ua,ub]) :
  Calls Tryz.prog 90 #[.pointer (some ⟨c,0,none⟩),.iface 175 (.agg #[.int .i64 ((N:Int) - (p:Nat)),.string (bs x),.iface ta ya,.iface tb yb]),.slice (some ⟨q,0,none⟩) 2 2] w (TbPost (Mip.tyBy m F 5 x [ua,ub]) w):=by
 have HC:Hid (Cw a' c b' n m g F w):=hC
 have HL:Hid (Laid a' w):=hL
 have HT:Hid (Tyc w q [ua,ub]):=hT
 have HX:Hid (Mil.tightOf x≠9):=hx
 have HH:Hid (23≤w.heap.size):=hC.nm.ce.size
 have t_int:=ta_two_int (.agg #[.int .i64 ((N:Int) - (p:Nat)),.string (bs x),.iface ta ya,.iface tb yb])
 have t_bool:=ta_two_bool (.agg #[.int .i64 ((N:Int) - (p:Nat)),.string (bs x),.iface ta ya,.iface tb yb])
 have t_name:=ta_two_name (.agg #[.int .i64 ((N:Int) - (p:Nat)),.string (bs x),.iface ta ya,.iface tb yb])
 have t_pre:=ta_two_pre (.agg #[.int .i64 ((N:Int) - (p:Nat)),.string (bs x),.iface ta ya,.iface tb yb])
 have t_two:=ta_two_two (.agg #[.int .i64 ((N:Int) - (p:Nat)),.string (bs x),.iface ta ya,.iface tb yb])
 have t_if:=ta_two_if (.agg #[.int .i64 ((N:Int) - (p:Nat)),.string (bs x),.iface ta ya,.iface tb yb])
 have t_fby:=ta_two_fby (.agg #[.int .i64 ((N:Int) - (p:Nat)),.string (bs x),.iface ta ya,.iface tb yb])
 have t_hold:=ta_two_hold (.agg #[.int .i64 ((N:Int) - (p:Nat)),.string (bs x),.iface ta ya,.iface tb yb])
 have t_least:=ta_two_least (.agg #[.int .i64 ((N:Int) - (p:Nat)),.string (bs x),.iface ta ya,.iface tb yb])
 have t_under:=ta_two_under (.agg #[.int .i64 ((N:Int) - (p:Nat)),.string (bs x),.iface ta ya,.iface tb yb])
 clear hC hL hT hx
 have HB:Hid (Below w.heap.size w (w.alloc (.cells #[.int .i64 ((N:Int) - (p:Nat)),.string (bs x),.iface ta ya,.iface tb yb] 175))):=(Below.refl _ _).alloc (Nat.le_refl _) _
 have HTW:Hid (Tyc (w.alloc (.cells #[.int .i64 ((N:Int) - (p:Nat)),.string (bs x),.iface ta ya,.iface tb yb] 175)) q [ua,ub]):=HT.out.below HB.out
 have u0:=HTW.out 0 ua rfl
 have u1:=HTW.out 1 ub rfl
 obtain ⟨kk,hkk,hxk⟩:=op_some HX.out
 subst hxk
 have HWG:Hid (∃G W:Nat,Mip.giveTy (opName kk)=G∧Mip.wantTy (opName kk)=W):=⟨_,_,rfl,rfl⟩
 have hop:=fun w (L:Laid a' w)=>operatorOf_at a' kk hkk w L
 have wa:=want_at kk hkk
 have ga:=give_at kk hkk
 generalize opName kk=x at *
 generalize opBind kk=bb at hop
 rw [wa,ga] at hop
 clear wa ga hkk HWG
 obtain ⟨G,hG⟩:∃G,Mip.giveTy x=G:=⟨_,rfl⟩
 obtain ⟨Z,hZ⟩:∃Z,Mip.wantTy x=Z:=⟨_,rfl⟩
 have HWG:Hid (Mip.giveTy x=G∧Mip.wantTy x=Z):=⟨hG,hZ⟩
 rw [hG,hZ] at hop
 clear hG hZ
 have HOP:Hid (∀w,Laid a' w→Calls Tryz.prog 129 #[.string (bs x)] w fun e w'=>e=.returned (.agg #[.string (bs x),.int .i64 bb,.int .i64 (Z:Nat),.int .i64 (G:Nat)])∧Below w.heap.size w w'):=hop
 clear hop
 go_enter Tryz.func90,Tryz.ntmps90
 go_wp2_with fail
 refine (HOP.out _ (HL.out.below HH.out HB.out)).mono ?_
 rintro E w1 ⟨rfl,hb1⟩
 clear t_int t_bool t_name t_pre t_two t_if t_fby t_hold t_least t_under u0 u1
 have HB1:Hid (Below w.heap.size w w1):=below_step HB.out hb1
 have HBZ:Hid (Below w.heap.size w (w1.alloc (.cells #[.string (bs x),.int .i64 bb,.int .i64 (Z:Nat),.int .i64 (G:Nat)] 235))):=HB1.out.alloc HB1.out.size _
 have HT1:Hid (Tyc (w1.alloc (.cells #[.string (bs x),.int .i64 bb,.int .i64 (Z:Nat),.int .i64 (G:Nat)] 235)) q [ua,ub]):=HT.out.below HBZ.out
 have u0:=HT1.out 0 ua rfl
 have u1:=HT1.out 1 ub rfl
 clear hb1
 by_cases h1:ua=ub
 ·have q1:((ua:Int)==(ub:Int))=true:=by rw [beq_iff_eq];omega
  have r1:(ua==ub)=true:=by rw [beq_iff_eq];exact h1
  by_cases h2:Z=2
  ·have q2:((Z:Int)==2)=true:=by rw [beq_iff_eq];omega
   have r2:(Z==2)=true:=by rw [beq_iff_eq];exact h2
   have HRS:Hid (Mip.tyBy m F 5 x [ua,ub]=(G,true)):=by show (Mip.giveTy x,ua==ub && (Mip.wantTy x==2 || Mip.wantTy x==ua))=_;rw [HWG.out.1,HWG.out.2,r1,r2];rfl
   clear h1 h2 r1 r2
   go_wp2_with fail
   go_quiet (fail)
   all_goals go_wp2
   all_goals go_ret2
   all_goals exact ⟨below_drewN HBZ.out _,by rw [HRS.out];rfl⟩
  ·have q2:((Z:Int)==2)=false:=by rw [beq_eq_false_iff_ne];omega
   have r2:(Z==2)=false:=by rw [beq_eq_false_iff_ne];exact h2
   by_cases h3:Z=ua
   ·have q3:((Z:Int)==(ua:Int))=true:=by rw [beq_iff_eq];omega
    have r3:(Z==ua)=true:=by rw [beq_iff_eq];exact h3
    have HRS:Hid (Mip.tyBy m F 5 x [ua,ub]=(G,true)):=by show (Mip.giveTy x,ua==ub && (Mip.wantTy x==2 || Mip.wantTy x==ua))=_;rw [HWG.out.1,HWG.out.2,r1,r2,r3];rfl
    clear h1 h2 h3 r1 r2 r3
    go_wp2_with fail
    go_quiet (fail)
    all_goals go_wp2
    all_goals go_ret2
    all_goals exact ⟨below_drewN HBZ.out _,by rw [HRS.out];rfl⟩
   ·have q3:((Z:Int)==(ua:Int))=false:=by rw [beq_eq_false_iff_ne];omega
    have r3:(Z==ua)=false:=by rw [beq_eq_false_iff_ne];exact h3
    have HRS:Hid (Mip.tyBy m F 5 x [ua,ub]=(G,false)):=by show (Mip.giveTy x,ua==ub && (Mip.wantTy x==2 || Mip.wantTy x==ua))=_;rw [HWG.out.1,HWG.out.2,r1,r2,r3];rfl
    clear h1 h2 h3 r1 r2 r3
    go_wp2_with fail
    go_quiet (fail)
    all_goals go_wp2
    all_goals go_ret2
    all_goals exact ⟨below_drewN HBZ.out _,by rw [HRS.out];rfl⟩
 ·have q1:((ua:Int)==(ub:Int))=false:=by rw [beq_eq_false_iff_ne];omega
  have r1:(ua==ub)=false:=by rw [beq_eq_false_iff_ne];exact h1
  have HRS:Hid (Mip.tyBy m F 5 x [ua,ub]=(G,false)):=by show (Mip.giveTy x,ua==ub && (Mip.wantTy x==2 || Mip.wantTy x==ua))=_;rw [HWG.out.1,HWG.out.2,r1];rfl
  clear h1 r1
  go_wp2_with fail
  go_quiet (fail)
  all_goals go_wp2
  all_goals go_ret2
  all_goals exact ⟨below_drewN HBZ.out _,by rw [HRS.out];rfl⟩
set_option maxRecDepth 100000 in
theorem typeBy_if (N:Nat) (a':Nat→Addr) (c b' n:Nat) (m:Mil.Bytes→Option Int) (g:Nat) (F:List Flo) (p:Nat) (ta:TypeId) (ya:Value) (ua:Nat) (tb:TypeId) (yb:Value) (ub:Nat) (td:TypeId) (yd:Value) (ud:Nat) (q:Nat) (w:World) (hC:Cw a' c b' n m g F w) (hL:Laid a' w) (hT:Tyc w q [ua,ub,ud]) :
  Calls Tryz.prog 90 #[.pointer (some ⟨c,0,none⟩),.iface 182 (.agg #[.int .i64 ((N:Int) - (p:Nat)),.iface ta ya,.iface tb yb,.iface td yd]),.slice (some ⟨q,0,none⟩) 3 3] w (TbPost (Mip.tyBy m F 6 [] [ua,ub,ud]) w):=by
 have HC:Hid (Cw a' c b' n m g F w):=hC
 have HL:Hid (Laid a' w):=hL
 have HT:Hid (Tyc w q [ua,ub,ud]):=hT
 have HH:Hid (23≤w.heap.size):=hC.nm.ce.size
 have t_int:=ta_if_int (.agg #[.int .i64 ((N:Int) - (p:Nat)),.iface ta ya,.iface tb yb,.iface td yd])
 have t_bool:=ta_if_bool (.agg #[.int .i64 ((N:Int) - (p:Nat)),.iface ta ya,.iface tb yb,.iface td yd])
 have t_name:=ta_if_name (.agg #[.int .i64 ((N:Int) - (p:Nat)),.iface ta ya,.iface tb yb,.iface td yd])
 have t_pre:=ta_if_pre (.agg #[.int .i64 ((N:Int) - (p:Nat)),.iface ta ya,.iface tb yb,.iface td yd])
 have t_two:=ta_if_two (.agg #[.int .i64 ((N:Int) - (p:Nat)),.iface ta ya,.iface tb yb,.iface td yd])
 have t_if:=ta_if_if (.agg #[.int .i64 ((N:Int) - (p:Nat)),.iface ta ya,.iface tb yb,.iface td yd])
 have t_fby:=ta_if_fby (.agg #[.int .i64 ((N:Int) - (p:Nat)),.iface ta ya,.iface tb yb,.iface td yd])
 have t_hold:=ta_if_hold (.agg #[.int .i64 ((N:Int) - (p:Nat)),.iface ta ya,.iface tb yb,.iface td yd])
 have t_least:=ta_if_least (.agg #[.int .i64 ((N:Int) - (p:Nat)),.iface ta ya,.iface tb yb,.iface td yd])
 have t_under:=ta_if_under (.agg #[.int .i64 ((N:Int) - (p:Nat)),.iface ta ya,.iface tb yb,.iface td yd])
 clear hC hL hT
 have HB:Hid (Below w.heap.size w (w.alloc (.cells #[.int .i64 ((N:Int) - (p:Nat)),.iface ta ya,.iface tb yb,.iface td yd] 182))):=(Below.refl _ _).alloc (Nat.le_refl _) _
 have HTW:Hid (Tyc (w.alloc (.cells #[.int .i64 ((N:Int) - (p:Nat)),.iface ta ya,.iface tb yb,.iface td yd] 182)) q [ua,ub,ud]):=HT.out.below HB.out
 have u0:=HTW.out 0 ua rfl
 have u1:=HTW.out 1 ub rfl
 have u2:=HTW.out 2 ud rfl
 go_enter Tryz.func90,Tryz.ntmps90
 by_cases h1:ua=1
 ·have q1:((ua:Int)==1)=true:=by rw [beq_iff_eq];omega
  have R1:Hid ((ua==1)=true):=by show _=_;rw [beq_iff_eq];exact h1
  clear h1
  by_cases h2:ub=ud
  ·have q2:((ub:Int)==(ud:Int))=true:=by rw [beq_iff_eq];omega
   have R2:Hid ((ub==ud)=true):=by show _=_;rw [beq_iff_eq];exact h2
   clear h2
   go_wp2_with fail
   go_quiet (fail)
   all_goals go_wp2
   all_goals go_ret2
   all_goals exact ⟨below_drewN HB.out _,by show _=Ending.returned (.tuple #[.int .i64 (ub:Nat),.bool ((ua==1) && (ub==ud))]);rw [R1.out,R2.out];rfl⟩
  ·have q2:((ub:Int)==(ud:Int))=false:=by rw [beq_eq_false_iff_ne];omega
   have R2:Hid ((ub==ud)=false):=by show _=_;rw [beq_eq_false_iff_ne];exact h2
   clear h2
   go_wp2_with fail
   go_quiet (fail)
   all_goals go_wp2
   all_goals go_ret2
   all_goals exact ⟨below_drewN HB.out _,by show _=Ending.returned (.tuple #[.int .i64 (ub:Nat),.bool ((ua==1) && (ub==ud))]);rw [R1.out,R2.out];rfl⟩
 ·have q1:((ua:Int)==1)=false:=by rw [beq_eq_false_iff_ne];omega
  have R1:Hid ((ua==1)=false):=by show _=_;rw [beq_eq_false_iff_ne];exact h1
  clear h1
  go_wp2_with fail
  go_quiet (fail)
  all_goals go_wp2
  all_goals go_ret2
  all_goals exact ⟨below_drewN HB.out _,by show _=Ending.returned (.tuple #[.int .i64 (ub:Nat),.bool ((ua==1) && (ub==ud))]);rw [R1.out];rfl⟩
set_option maxRecDepth 100000 in
theorem typeBy_fby (N:Nat) (a':Nat→Addr) (c b' n:Nat) (m:Mil.Bytes→Option Int) (g:Nat) (F:List Flo) (p:Nat) (ta:TypeId) (ya:Value) (ua:Nat) (tb:TypeId) (yb:Value) (ub:Nat) (q:Nat) (w:World) (hC:Cw a' c b' n m g F w) (hL:Laid a' w) (hT:Tyc w q [ua,ub]) :
  Calls Tryz.prog 90 #[.pointer (some ⟨c,0,none⟩),.iface 185 (.agg #[.int .i64 ((N:Int) - (p:Nat)),.iface ta ya,.iface tb yb]),.slice (some ⟨q,0,none⟩) 2 2] w (TbPost (Mip.tyBy m F 7 [] [ua,ub]) w):=by
 have HC:Hid (Cw a' c b' n m g F w):=hC
 have HL:Hid (Laid a' w):=hL
 have HT:Hid (Tyc w q [ua,ub]):=hT
 have HH:Hid (23≤w.heap.size):=hC.nm.ce.size
 have t_int:=ta_fby_int (.agg #[.int .i64 ((N:Int) - (p:Nat)),.iface ta ya,.iface tb yb])
 have t_bool:=ta_fby_bool (.agg #[.int .i64 ((N:Int) - (p:Nat)),.iface ta ya,.iface tb yb])
 have t_name:=ta_fby_name (.agg #[.int .i64 ((N:Int) - (p:Nat)),.iface ta ya,.iface tb yb])
 have t_pre:=ta_fby_pre (.agg #[.int .i64 ((N:Int) - (p:Nat)),.iface ta ya,.iface tb yb])
 have t_two:=ta_fby_two (.agg #[.int .i64 ((N:Int) - (p:Nat)),.iface ta ya,.iface tb yb])
 have t_if:=ta_fby_if (.agg #[.int .i64 ((N:Int) - (p:Nat)),.iface ta ya,.iface tb yb])
 have t_fby:=ta_fby_fby (.agg #[.int .i64 ((N:Int) - (p:Nat)),.iface ta ya,.iface tb yb])
 have t_hold:=ta_fby_hold (.agg #[.int .i64 ((N:Int) - (p:Nat)),.iface ta ya,.iface tb yb])
 have t_least:=ta_fby_least (.agg #[.int .i64 ((N:Int) - (p:Nat)),.iface ta ya,.iface tb yb])
 have t_under:=ta_fby_under (.agg #[.int .i64 ((N:Int) - (p:Nat)),.iface ta ya,.iface tb yb])
 clear hC hL hT
 have HB:Hid (Below w.heap.size w w):=Below.refl _ _
 have HTW:Hid (Tyc w q [ua,ub]):=HT.out
 have u0:=HTW.out 0 ua rfl
 have u1:=HTW.out 1 ub rfl
 go_enter Tryz.func90,Tryz.ntmps90
 by_cases he:ua=ub
 ·have q1:((ua:Int)==(ub:Int))=true:=by rw [beq_iff_eq];omega
  have HR:Hid ((ua==ub)=true):=by show _=_;rw [beq_iff_eq];exact he
  clear he
  go_wp2_with fail
  go_quiet (fail)
  all_goals go_wp2
  all_goals go_ret2
  all_goals exact ⟨below_drewN HB.out _,by show _=Ending.returned (.tuple #[.int .i64 (ub:Nat),.bool (ua==ub)]);rw [HR.out];rfl⟩
 ·have q1:((ua:Int)==(ub:Int))=false:=by rw [beq_eq_false_iff_ne];omega
  have HR:Hid ((ua==ub)=false):=by show _=_;rw [beq_eq_false_iff_ne];exact he
  clear he
  go_wp2_with fail
  go_quiet (fail)
  all_goals go_wp2
  all_goals go_ret2
  all_goals exact ⟨below_drewN HB.out _,by show _=Ending.returned (.tuple #[.int .i64 (ub:Nat),.bool (ua==ub)]);rw [HR.out];rfl⟩
set_option maxRecDepth 100000 in
theorem typeBy_under (N:Nat) (a':Nat→Addr) (c b' n:Nat) (m:Mil.Bytes→Option Int) (g:Nat) (F:List Flo) (p:Nat) (k:Nat) (ta:TypeId) (ya:Value) (ua:Nat) (q:Nat) (w:World) (hC:Cw a' c b' n m g F w) (hL:Laid a' w) (hT:Tyc w q [ua]) :
  Calls Tryz.prog 90 #[.pointer (some ⟨c,0,none⟩),.iface 188 (.agg #[.int .i64 ((N:Int) - (p:Nat)),.iface ta ya,.int .i64 (k:Nat)]),.slice (some ⟨q,0,none⟩) 1 1] w (TbPost (Mip.tyBy m F 8 [] [ua]) w):=by
 have HC:Hid (Cw a' c b' n m g F w):=hC
 have HL:Hid (Laid a' w):=hL
 have HT:Hid (Tyc w q [ua]):=hT
 have HH:Hid (23≤w.heap.size):=hC.nm.ce.size
 have t_int:=ta_under_int (.agg #[.int .i64 ((N:Int) - (p:Nat)),.iface ta ya,.int .i64 (k:Nat)])
 have t_bool:=ta_under_bool (.agg #[.int .i64 ((N:Int) - (p:Nat)),.iface ta ya,.int .i64 (k:Nat)])
 have t_name:=ta_under_name (.agg #[.int .i64 ((N:Int) - (p:Nat)),.iface ta ya,.int .i64 (k:Nat)])
 have t_pre:=ta_under_pre (.agg #[.int .i64 ((N:Int) - (p:Nat)),.iface ta ya,.int .i64 (k:Nat)])
 have t_two:=ta_under_two (.agg #[.int .i64 ((N:Int) - (p:Nat)),.iface ta ya,.int .i64 (k:Nat)])
 have t_if:=ta_under_if (.agg #[.int .i64 ((N:Int) - (p:Nat)),.iface ta ya,.int .i64 (k:Nat)])
 have t_fby:=ta_under_fby (.agg #[.int .i64 ((N:Int) - (p:Nat)),.iface ta ya,.int .i64 (k:Nat)])
 have t_hold:=ta_under_hold (.agg #[.int .i64 ((N:Int) - (p:Nat)),.iface ta ya,.int .i64 (k:Nat)])
 have t_least:=ta_under_least (.agg #[.int .i64 ((N:Int) - (p:Nat)),.iface ta ya,.int .i64 (k:Nat)])
 have t_under:=ta_under_under (.agg #[.int .i64 ((N:Int) - (p:Nat)),.iface ta ya,.int .i64 (k:Nat)])
 clear hC hL hT
 have HB:Hid (Below w.heap.size w (w.alloc (.cells #[.int .i64 ((N:Int) - (p:Nat)),.iface ta ya,.int .i64 (k:Nat)] 188))):=(Below.refl _ _).alloc (Nat.le_refl _) _
 have HTW:Hid (Tyc (w.alloc (.cells #[.int .i64 ((N:Int) - (p:Nat)),.iface ta ya,.int .i64 (k:Nat)] 188)) q [ua]):=HT.out.below HB.out
 have u0:=HTW.out 0 ua rfl
 go_enter Tryz.func90,Tryz.ntmps90
 go_wp2
 go_ret2
 exact ⟨HB.out,rfl⟩
set_option maxRecDepth 100000 in
theorem typeBy_hold (N:Nat) (a':Nat→Addr) (c b' n:Nat) (m:Mil.Bytes→Option Int) (g:Nat) (F:List Flo) (p:Nat) (k:Nat) (ta:TypeId) (ya:Value) (ua:Nat) (tb:TypeId) (yb:Value) (ub:Nat) (q:Nat) (w:World) (hC:Cw a' c b' n m g F w) (hL:Laid a' w) (hT:Tyc w q [ua,ub]) :
  Calls Tryz.prog 90 #[.pointer (some ⟨c,0,none⟩),.iface 191 (.agg #[.int .i64 ((N:Int) - (p:Nat)),.iface ta ya,.iface tb yb,.int .i64 (k:Nat)]),.slice (some ⟨q,0,none⟩) 2 2] w (TbPost (Mip.tyBy m F 9 [] [ua,ub]) w):=by
 have HC:Hid (Cw a' c b' n m g F w):=hC
 have HL:Hid (Laid a' w):=hL
 have HT:Hid (Tyc w q [ua,ub]):=hT
 have HH:Hid (23≤w.heap.size):=hC.nm.ce.size
 have t_int:=ta_hold_int (.agg #[.int .i64 ((N:Int) - (p:Nat)),.iface ta ya,.iface tb yb,.int .i64 (k:Nat)])
 have t_bool:=ta_hold_bool (.agg #[.int .i64 ((N:Int) - (p:Nat)),.iface ta ya,.iface tb yb,.int .i64 (k:Nat)])
 have t_name:=ta_hold_name (.agg #[.int .i64 ((N:Int) - (p:Nat)),.iface ta ya,.iface tb yb,.int .i64 (k:Nat)])
 have t_pre:=ta_hold_pre (.agg #[.int .i64 ((N:Int) - (p:Nat)),.iface ta ya,.iface tb yb,.int .i64 (k:Nat)])
 have t_two:=ta_hold_two (.agg #[.int .i64 ((N:Int) - (p:Nat)),.iface ta ya,.iface tb yb,.int .i64 (k:Nat)])
 have t_if:=ta_hold_if (.agg #[.int .i64 ((N:Int) - (p:Nat)),.iface ta ya,.iface tb yb,.int .i64 (k:Nat)])
 have t_fby:=ta_hold_fby (.agg #[.int .i64 ((N:Int) - (p:Nat)),.iface ta ya,.iface tb yb,.int .i64 (k:Nat)])
 have t_hold:=ta_hold_hold (.agg #[.int .i64 ((N:Int) - (p:Nat)),.iface ta ya,.iface tb yb,.int .i64 (k:Nat)])
 have t_least:=ta_hold_least (.agg #[.int .i64 ((N:Int) - (p:Nat)),.iface ta ya,.iface tb yb,.int .i64 (k:Nat)])
 have t_under:=ta_hold_under (.agg #[.int .i64 ((N:Int) - (p:Nat)),.iface ta ya,.iface tb yb,.int .i64 (k:Nat)])
 clear hC hL hT
 have HB:Hid (Below w.heap.size w w):=Below.refl _ _
 have HTW:Hid (Tyc w q [ua,ub]):=HT.out
 have u0:=HTW.out 0 ua rfl
 have u1:=HTW.out 1 ub rfl
 go_enter Tryz.func90,Tryz.ntmps90
 by_cases he:ua=ub
 ·have q1:((ua:Int)==(ub:Int))=true:=by rw [beq_iff_eq];omega
  have HR:Hid ((ua==ub)=true):=by show _=_;rw [beq_iff_eq];exact he
  clear he
  go_wp2_with fail
  go_quiet (fail)
  all_goals go_wp2
  all_goals go_ret2
  all_goals exact ⟨below_drewN HB.out _,by show _=Ending.returned (.tuple #[.int .i64 (ub:Nat),.bool (ua==ub)]);rw [HR.out];rfl⟩
 ·have q1:((ua:Int)==(ub:Int))=false:=by rw [beq_eq_false_iff_ne];omega
  have HR:Hid ((ua==ub)=false):=by show _=_;rw [beq_eq_false_iff_ne];exact he
  clear he
  go_wp2_with fail
  go_quiet (fail)
  all_goals go_wp2
  all_goals go_ret2
  all_goals exact ⟨below_drewN HB.out _,by show _=Ending.returned (.tuple #[.int .i64 (ub:Nat),.bool (ua==ub)]);rw [HR.out];rfl⟩
set_option maxRecDepth 100000 in
theorem typeBy_least (N:Nat) (a':Nat→Addr) (c b' n:Nat) (m:Mil.Bytes→Option Int) (g:Nat) (F:List Flo) (p:Nat) (x:Mil.Bytes) (ta:TypeId) (ya:Value) (ua:Nat) (tb:TypeId) (yb:Value) (ub:Nat) (q:Nat) (w:World) (hC:Cw a' c b' n m g F w) (hL:Laid a' w) (hT:Tyc w q [ua,ub]) :
  Calls Tryz.prog 90 #[.pointer (some ⟨c,0,none⟩),.iface 180 (.agg #[.int .i64 ((N:Int) - (p:Nat)),.string (bs x),.iface ta ya,.iface tb yb]),.slice (some ⟨q,0,none⟩) 2 2] w (TbPost (Mip.tyBy m F 10 x [ua,ub]) w):=by
 have HC:Hid (Cw a' c b' n m g F w):=hC
 have HL:Hid (Laid a' w):=hL
 have HT:Hid (Tyc w q [ua,ub]):=hT
 have HH:Hid (23≤w.heap.size):=hC.nm.ce.size
 have t_int:=ta_least_int (.agg #[.int .i64 ((N:Int) - (p:Nat)),.string (bs x),.iface ta ya,.iface tb yb])
 have t_bool:=ta_least_bool (.agg #[.int .i64 ((N:Int) - (p:Nat)),.string (bs x),.iface ta ya,.iface tb yb])
 have t_name:=ta_least_name (.agg #[.int .i64 ((N:Int) - (p:Nat)),.string (bs x),.iface ta ya,.iface tb yb])
 have t_pre:=ta_least_pre (.agg #[.int .i64 ((N:Int) - (p:Nat)),.string (bs x),.iface ta ya,.iface tb yb])
 have t_two:=ta_least_two (.agg #[.int .i64 ((N:Int) - (p:Nat)),.string (bs x),.iface ta ya,.iface tb yb])
 have t_if:=ta_least_if (.agg #[.int .i64 ((N:Int) - (p:Nat)),.string (bs x),.iface ta ya,.iface tb yb])
 have t_fby:=ta_least_fby (.agg #[.int .i64 ((N:Int) - (p:Nat)),.string (bs x),.iface ta ya,.iface tb yb])
 have t_hold:=ta_least_hold (.agg #[.int .i64 ((N:Int) - (p:Nat)),.string (bs x),.iface ta ya,.iface tb yb])
 have t_least:=ta_least_least (.agg #[.int .i64 ((N:Int) - (p:Nat)),.string (bs x),.iface ta ya,.iface tb yb])
 have t_under:=ta_least_under (.agg #[.int .i64 ((N:Int) - (p:Nat)),.string (bs x),.iface ta ya,.iface tb yb])
 clear hC hL hT
 have HB:Hid (Below w.heap.size w (w.alloc (.cells #[.int .i64 ((N:Int) - (p:Nat)),.string (bs x),.iface ta ya,.iface tb yb] 180))):=(Below.refl _ _).alloc (Nat.le_refl _) _
 have HTW:Hid (Tyc (w.alloc (.cells #[.int .i64 ((N:Int) - (p:Nat)),.string (bs x),.iface ta ya,.iface tb yb] 180)) q [ua,ub]):=HT.out.below HB.out
 have u0:=HTW.out 0 ua rfl
 have u1:=HTW.out 1 ub rfl
 go_enter Tryz.func90,Tryz.ntmps90
 by_cases h1:ua=0
 ·have q1:((ua:Int)==0)=true:=by rw [beq_iff_eq];omega
  have R1:Hid ((ua==0)=true):=by show _=_;rw [beq_iff_eq];exact h1
  clear h1
  by_cases h2:ub=0
  ·have q2:((ub:Int)==0)=true:=by rw [beq_iff_eq];omega
   have R2:Hid ((ub==0)=true):=by show _=_;rw [beq_iff_eq];exact h2
   clear h2
   go_wp2_with fail
   go_quiet (fail)
   all_goals go_wp2
   all_goals go_ret2
   all_goals exact ⟨below_drewN HB.out _,by show _=Ending.returned (.tuple #[.int .i64 (0:Nat),.bool ((ua==0) && (ub==0))]);rw [R1.out,R2.out];rfl⟩
  ·have q2:((ub:Int)==0)=false:=by rw [beq_eq_false_iff_ne];omega
   have R2:Hid ((ub==0)=false):=by show _=_;rw [beq_eq_false_iff_ne];exact h2
   clear h2
   go_wp2_with fail
   go_quiet (fail)
   all_goals go_wp2
   all_goals go_ret2
   all_goals exact ⟨below_drewN HB.out _,by show _=Ending.returned (.tuple #[.int .i64 (0:Nat),.bool ((ua==0) && (ub==0))]);rw [R1.out,R2.out];rfl⟩
 ·have q1:((ua:Int)==0)=false:=by rw [beq_eq_false_iff_ne];omega
  have R1:Hid ((ua==0)=false):=by show _=_;rw [beq_eq_false_iff_ne];exact h1
  clear h1
  go_wp2_with fail
  go_quiet (fail)
  all_goals go_wp2
  all_goals go_ret2
  all_goals exact ⟨below_drewN HB.out _,by show _=Ending.returned (.tuple #[.int .i64 (0:Nat),.bool ((ua==0) && (ub==0))]);rw [R1.out];rfl⟩
end
end Go.Proofs.YticbokabjhnagaaGreatDoor
