import Derived.Test.YticbokabjhnagaaGreatDoorW13
import Derived.Deep.RegionHeld3
namespace Go.Proofs.YticbokabjhnagaaGreatDoor
set_option maxHeartbeats 32000000
section
open Go.RowKit
namespace Mip
theorem first_each (m:Mil.Bytes→Option Int):∀l:List E,firstOf m l=none→∀q∈l,unres m q=none
 | [],_,q,h=>by cases h
 | q0::r,h,q,hq=>by
  rw [firstOf,Option.or_eq_none_iff] at h
  rcases List.mem_cons.1 hq with rfl | hq
  ·exact h.1
  ·exact first_each m r h.2 q hq
def perOf (m:Mil.Bytes→Option Int) (F:List Flo):E→Nat
 | .nil=>0
 | .node t k x a b=>
  if t=3 then ((F[((m x.1).getD 0).toNat]?).map (·.per)).getD 0
  else if t=8 then (if perOf m F a*k≤1000000 then perOf m F a*k else 0)
  else if t=9 then (if perOf m F b % k=0 then perOf m F b / k else 0)
  else if perOf m F a≠0 then perOf m F a else perOf m F b
theorem perOf_le (m:Mil.Bytes→Option Int) (F:List Flo) (h:∀f∈F,f.per≤1000000):∀e:E,perOf m F e≤1000000
 | .nil=>Nat.zero_le _
 | .node t k x a b=>by
  have ha:=perOf_le m F h a
  have hb:=perOf_le m F h b
  have hd:perOf m F b / k≤perOf m F b:=Nat.div_le_self _ _
  unfold perOf
  split
  ·cases hf:F[((m x.1).getD 0).toNat]? with
   | none=>exact Nat.zero_le _
   | some f=>exact h f (List.mem_of_getElem? hf)
  ·split
   ·split
    ·assumption
    ·exact Nat.zero_le _
   ·split
    ·split
     ·omega
     ·exact Nat.zero_le _
    ·split
     ·exact ha
     ·exact hb
def firstPer (m:Mil.Bytes→Option Int) (F:List Flo):List E→Nat
 | []=>0
 | q::r=>if perOf m F q≠0 then perOf m F q else firstPer m F r
def Plain (e:E):Prop:=(∀p x,e≠eName p x)∧(∀p a k,e≠eUnder p a k)∧(∀p a b k,e≠eHold p a b k)
theorem per_kids (m:Mil.Bytes→Option Int) (F:List Flo):∀e:E,Mil.wf (er e) false→Plain e→perOf m F e=firstPer m F (kids e):=by
 refine tree_induct ?_ ?_ ?_ ?_ ?_ ?_ ?_ ?_ ?_ ?_
 ·intro p k _ _;rfl
 ·intro p k _ _;rfl
 ·intro p x _ h;exact absurd rfl (h.1 p x)
 ·intro p x a _ _ _;simp [perOf,kids,firstPer,ePre]
 ·intro p x a b _ _ _ _;by_cases h:perOf m F b=0 <;> simp [perOf,kids,firstPer,eTwo,h]
 ·intro p y a b c _ _ _ _;by_cases h:perOf m F c=0 <;> simp [perOf,kids,firstPer,h]
 ·intro p a b _ _ _;by_cases h:perOf m F b=0 <;> simp [perOf,kids,firstPer,eFby,h]
 ·intro p a k _ _ _ h;exact absurd rfl (h.2.1 p a k)
 ·intro p a b k _ _ _ _ h;exact absurd rfl (h.2.2 p a b k)
 ·intro p x a b _ _ _ _;by_cases h:perOf m F b=0 <;> simp [perOf,kids,firstPer,eLeast,h]
theorem per_none (m:Mil.Bytes→Option Int) (F:List Flo):∀l:List E,(∀(i:Nat) (q:E),l[i]?=some q→perOf m F q=0)→firstPer m F l=0
 | [],_=>rfl
 | q::r,h=>by
  rw [firstPer,h 0 q rfl,if_neg (by simp),per_none m F r (fun i q' hq=>h (i+1) q' hq)]
theorem per_some (m:Mil.Bytes→Option Int) (F:List Flo):∀(l:List E) (j:Nat) (q:E),(∀(i:Nat) (q':E),i < j→l[i]?=some q'→perOf m F q'=0)→l[j]?=some q→perOf m F q≠0→firstPer m F l=perOf m F q
 | [],_,_,_,h,_=>by simp at h
 | q0::r,0,q,_,h,k=>by
  have e:q0=q:=by simpa using h
  rw [firstPer,e,if_pos k]
 | q0::r,j+1,q,h0,h,k=>by
  rw [firstPer,h0 0 q0 (Nat.succ_pos _) rfl,if_neg (by simp),per_some m F r j q (fun i q' hi hq=>h0 (i+1) q' (Nat.succ_lt_succ hi) hq) (by simpa using h) k]
end Mip
def Fit (m:Mil.Bytes→Option Int) (F:List Flo):Prop:=∀x k,m x=some k→∃i:Nat,k=(i:Int)∧i < F.length
def Pp (v:Nat) (w:World) (E:Ending) (w':World):Prop:=Below w.heap.size w w'∧E=.returned (.int .i64 (v:Nat))
def PC (N:Nat) (a:Nat→Addr) (c b n:Nat) (m:Mil.Bytes→Option Int) (g:Nat) (F:List Flo) (e:Mip.E):Prop:=
 Mip.unres m e=none→∀w,Cw a c b n m g F w→Calls Tryz.prog 61 #[.pointer (some ⟨c,0,none⟩),ev N e] w (Pp (Mip.perOf m F e) w)
def slow (p k:Nat):Nat:=if p*k≤1000000 then p*k else 0
def fast (p k:Nat):Nat:=if p % k=0 then p / k else 0
theorem slower_slow (p k:Nat) (hp:p≤1000000) (hk:k≤1000) (w:World):Calls Tryz.prog 92 #[.int .i64 (p:Nat),.int .i64 (k:Nat)] w (Pp (slow p k) w):=slower_any p k hp hk w
theorem faster_fast (p k:Nat) (hp:p≤1000000) (h2:2≤k) (hk:k≤1000) (w:World):Calls Tryz.prog 93 #[.int .i64 (p:Nat),.int .i64 (k:Nat)] w (Pp (fast p k) w):=faster_any p k hp h2 hk w
theorem fieldPer (f:Flo) (w:World):(Instr.field 42 (floV f) 2).run Tryz.prog w=.ok (.int .i64 (f.per:Nat)) w:=by kernel_rfl
theorem period_name (N:Nat) (a:Nat→Addr) (c b n:Nat) (m:Mil.Bytes→Option Int) (g:Nat) (F:List Flo) (hfit:Fit m F) (p:Nat) (x:Mil.Bytes) (hx:Mil.NameOk x):PC N a c b n m g F (Mip.eName p x):=by
 intro hu w hC
 have HC:Hid (Cw a c b n m g F w):=hC
 have HX:Hid (x.length≤4000):=by have:=hx.2.2.1;show _≤_;omega
 obtain ⟨i,hi,hlt⟩:∃i:Nat,m x=some (i:Int)∧i < F.length:=by
  cases hm:m x with
  | none=>simp [Mip.unres,Mip.eName,hm] at hu
  | some k=>
   obtain ⟨i,rfl,h⟩:=hfit x k hm
   exact ⟨i,rfl,h⟩
 obtain ⟨f,hf⟩:∃f,F[i]?=some f:=⟨_,List.getElem?_eq_getElem hlt⟩
 have HP:Hid (Mip.perOf m F (Mip.eName p x)=f.per):=by
  show _=_
  simp [Mip.perOf,Mip.eName,hi,hf]
 have HI:Hid (m x=some (i:Int)∧F[i]?=some f):=⟨hi,hf⟩
 have HB:Hid (Below w.heap.size w (w.alloc (.cells #[.int .i64 ((N:Int) - (p:Nat)),.string (bs x)] 103))):=(Below.refl _ _).alloc (Nat.le_refl _) _
 have hta:=ta_name_name (.agg #[.int .i64 ((N:Int) - (p:Nat)),.string (bs x)])
 have hfp:=fieldPer f
 clear hC hx hu hi hf hlt hfit
 show Calls Tryz.prog 61 #[.pointer (some ⟨c,0,none⟩),.iface 103 (.agg #[.int .i64 ((N:Int) - (p:Nat)),.string (bs x)])] w _
 go_enter Tryz.func61,Tryz.ntmps61
 go_wp2_with fail
 refine (flowOf_any (HC.out.below HB.out) x HX.out _ i HI.out.1 f HI.out.2).mono ?_
 rintro E w1 ⟨hb1,rfl⟩
 have HB1:Hid (Below w.heap.size w w1):=below_step HB.out hb1
 clear hb1 hta
 go_wp2
 go_ret
 exact ⟨HB1.out,by rw [HP.out];rfl⟩
theorem not_three (N:Nat):∀e:Mip.E,Mil.wf (Mip.er e) false→Mip.Plain e→∃T y,ev N e=.iface T y∧(∀w,(Instr.typeAssert (.iface T y) 105 103 true).run Tryz.prog w=.ok (.tuple #[.agg #[.int .i64 0,.string ⟨#[]⟩],.bool false]) w) ∧
  (∀w,(Instr.typeAssert (.iface T y) 105 188 true).run Tryz.prog w=.ok (.tuple #[.agg #[.int .i64 0,.nilIface,.int .i64 0],.bool false]) w)∧(∀w,(Instr.typeAssert (.iface T y) 105 191 true).run Tryz.prog w=.ok (.tuple #[.agg #[.int .i64 0,.nilIface,.nilIface,.int .i64 0],.bool false]) w):=by
 refine Mip.tree_induct ?_ ?_ ?_ ?_ ?_ ?_ ?_ ?_ ?_ ?_
 ·intro p k _ _;exact ⟨_,_,rfl,ta_int_name _,ta_int_under _,ta_int_hold _⟩
 ·intro p k _ _;exact ⟨_,_,rfl,ta_bool_name _,ta_bool_under _,ta_bool_hold _⟩
 ·intro p x _ h;exact absurd rfl (h.1 p x)
 ·intro p x a _ _ _;exact ⟨_,_,rfl,ta_pre_name _,ta_pre_under _,ta_pre_hold _⟩
 ·intro p x a b _ _ _ _;exact ⟨_,_,rfl,ta_two_name _,ta_two_under _,ta_two_hold _⟩
 ·intro p y a b c _ _ _ _;exact ⟨_,_,rfl,ta_if_name _,ta_if_under _,ta_if_hold _⟩
 ·intro p a b _ _ _;exact ⟨_,_,rfl,ta_fby_name _,ta_fby_under _,ta_fby_hold _⟩
 ·intro p a k _ _ _ h;exact absurd rfl (h.2.1 p a k)
 ·intro p a b k _ _ _ _ h;exact absurd rfl (h.2.2 p a b k)
 ·intro p x a b _ _ _ _;exact ⟨_,_,rfl,ta_least_name _,ta_least_under _,ta_least_hold _⟩
theorem period_plain (N:Nat) (a:Nat→Addr) (c b n:Nat) (m:Mil.Bytes→Option Int) (g:Nat) (F:List Flo) (e:Mip.E) (hw:Mil.wf (Mip.er e) false) (hp:Mip.Plain e) (ih:∀q∈Mip.kids e,PC N a c b n m g F q):PC N a c b n m g F e:=by
 intro hu w hC
 have HC:Hid (Cw a c b n m g F w):=hC
 have HP:Hid (Mip.perOf m F e=Mip.firstPer m F (Mip.kids e)):=Mip.per_kids m F e hw hp
 have IH:Hid (∀q∈Mip.kids e,∀w,Cw a c b n m g F w→Calls Tryz.prog 61 #[.pointer (some ⟨c,0,none⟩),ev N q] w (Pp (Mip.perOf m F q) w)):=fun q hq=>ih q hq (Mip.first_each m _ (by rw [←Mip.unres_kids m e hw hp.1];exact hu) q hq)
 obtain ⟨T,y,he,hta,htb,htc⟩:=not_three N e hw hp
 have HO:=operands_any N e hw
 rw [he] at HO
 have HO':Hid (∀w,Calls Tryz.prog 89 #[.iface T y] w (OpPost N e w)):=HO
 clear hC ih HO hp hw hu
 show Calls Tryz.prog 61 #[.pointer (some ⟨c,0,none⟩),ev N e] w _
 rw [he]
 clear he
 go_enter Tryz.func61,Tryz.ntmps61
 go_wp2_with fail
 refine (HO'.out _).mono ?_
 rintro E w1 ⟨hb1,v,rfl,hK⟩
 have HB1:Hid (Below w.heap.size w w1):=hb1
 have hl3:=Mip.kids_le e
 generalize hl:Mip.kids e=l at hK IH HP hl3
 clear hl
 rcases hK with ⟨rfl,rfl⟩ | ⟨gg,rfl,hcells⟩
 ·clear hb1 hta htb htc hl3
  go_wp2_with fail
  go_loopg [42] 0 (fun gk s42 wr=>s42=.int .i64 0∧wr=w1)
  case atStart=>exact ⟨rfl,rfl⟩
  case round=>
   obtain ⟨rfl,rfl⟩:=hrel
   go_wp2
   go_ret
   exact ⟨HB1.out,by rw [HP.out];rfl⟩
 ·have HCL:Hid (∀(j:Nat) (q:Mip.E),l[j]?=some q→w1.cell? ⟨gg,j,none⟩=some (ev N q)):=hcells
  have HL:Hid (l.length≤3):=hl3
  clear hb1 hta htb htc hcells hl3
  go_wp2_with fail
  go_loopg [42] l.length (fun gk s42 wr=>∃j:Nat,j≤l.length∧s42=.int .i64 j∧gk=l.length - j∧Hid (∀(i:Nat) (q:Mip.E),i < j→l[i]?=some q→Mip.perOf m F q=0)∧Hid (Below w.heap.size w wr)∧Hid (Below w1.heap.size w1 wr))
  case atStart=>exact ⟨0,Nat.zero_le _,rfl,rfl,fun i q hi=>by omega,HB1,Below.refl _ _⟩
  case round=>
   obtain ⟨j,hj,rfl,hg,HPR,HW,HW1⟩:=hrel
   have HG:Hid (gk=l.length - j):=hg
   clear hg
   by_cases hlt:j < l.length
   ·obtain ⟨q,hq⟩:∃q,l[j]?=some q:=⟨_,List.getElem?_eq_getElem hlt⟩
    have hcq:=(HW1.out.cell (lt_of_cell (HCL.out j q hq))).trans (HCL.out j q hq)
    have HQ:Hid (l[j]?=some q):=hq
    have hmem:q∈l:=List.mem_of_getElem? hq
    have hbig:=HL.out
    clear hq
    go_wp2_with fail
    refine (IH.out q hmem _ (HC.out.below HW.out)).mono ?_
    rintro E w2 ⟨hb2,rfl⟩
    have HW2:Hid (Below w.heap.size w w2):=below_step HW.out hb2
    have HV2:Hid (Below w1.heap.size w1 w2):=below_step HW1.out hb2
    generalize hpq:Mip.perOf m F q=pq
    have HPQ:Hid (Mip.perOf m F q=pq):=hpq
    clear hb2 hcq hpq
    by_cases h0:pq=0
    ·subst h0
     go_wp2
     go_roundg (l.length - (j+1))
     case measure=>have:=HG.out;omega
     case rel=>exact ⟨j+1,hlt,by go_num,rfl,fun i q' hi hq'=>by
      rcases Nat.lt_or_ge i j with h | h
      ·exact HPR.out i q' h hq'
      ·have e:i=j:=by omega
       rw [e,HQ.out] at hq'
       rw [←Option.some.inj hq']
       exact HPQ.out,HW2,HV2⟩
    ·have h0':((pq:Int)==0)=false:=by simpa using h0
     have h0n:(pq:Int)≠0:=by omega
     go_wp2
     go_ret
     exact ⟨HW2.out,by rw [HP.out,Mip.per_some m F l j q HPR.out HQ.out (by rw [HPQ.out];exact h0),HPQ.out];rfl⟩
   ·have hle:(l.length:Int)≤(j:Int):=by omega
    go_wp2
    go_ret
    refine ⟨HW.out,?_⟩
    rw [HP.out,Mip.per_none m F l (fun i q hq=>HPR.out i q (by have:=(List.getElem?_eq_some_iff.1 hq).1;omega) hq)]
    rfl
theorem period_under (N:Nat) (a:Nat→Addr) (c b n:Nat) (m:Mil.Bytes→Option Int) (g:Nat) (F:List Flo) (hF:∀f∈F,f.per≤1000000) (p:Nat) (q:Mip.E) (k:Nat) (h2:2≤k) (hk:k≤1000) (hwq:Mil.wf (Mip.er q) false) (ih:PC N a c b n m g F q):PC N a c b n m g F (Mip.eUnder p q k):=by
 intro hu w hC
 have HC:Hid (Cw a c b n m g F w):=hC
 have hu':Mip.unres m q=none:=by
  simp [Mip.unres,Mip.eUnder] at hu
  exact hu
 have IH:Hid (∀w,Cw a c b n m g F w→Calls Tryz.prog 61 #[.pointer (some ⟨c,0,none⟩),ev N q] w (Pp (Mip.perOf m F q) w)):=ih hu'
 have HLE:Hid (Mip.perOf m F q≤1000000):=Mip.perOf_le m F hF q
 have HK:Hid (2≤k∧k≤1000):=⟨h2,hk⟩
 have HP:Hid (Mip.perOf m F (Mip.eUnder p q k)=slow (Mip.perOf m F q) k):=by show _=_;simp [Mip.perOf,Mip.eUnder,slow]
 obtain ⟨tq,yq,eq⟩:=ev_iface N q hwq
 rw [eq] at IH
 have e0:ev N (Mip.eUnder p q k)=.iface 188 (.agg #[.int .i64 ((N:Int) - (p:Nat)),.iface tq yq,.int .i64 (k:Nat)]):=by show Value.iface _ (.agg #[.int .i64 ((N:Int) - (p:Nat)),ev N q,.int .i64 (k:Nat)])=_;rw [eq]
 have ta:=ta_under_name (.agg #[.int .i64 ((N:Int) - (p:Nat)),.iface tq yq,.int .i64 (k:Nat)])
 have tb:=ta_under_under (.agg #[.int .i64 ((N:Int) - (p:Nat)),.iface tq yq,.int .i64 (k:Nat)])
 have HB:Hid (Below w.heap.size w (w.alloc (.cells #[.int .i64 ((N:Int) - (p:Nat)),.iface tq yq,.int .i64 (k:Nat)] 188))):=(Below.refl _ _).alloc (Nat.le_refl _) _
 have k1:∀w',Below (w.alloc (.cells #[.int .i64 ((N:Int) - (p:Nat)),.iface tq yq,.int .i64 (k:Nat)] 188)).heap.size (w.alloc (.cells #[.int .i64 ((N:Int) - (p:Nat)),.iface tq yq,.int .i64 (k:Nat)] 188)) w'→w'.cell? ⟨w.heap.size,1,none⟩=some (.iface tq yq):=fun w' hb=>(hb.cell (by simp)).trans (by simp)
 have k2:∀w',Below (w.alloc (.cells #[.int .i64 ((N:Int) - (p:Nat)),.iface tq yq,.int .i64 (k:Nat)] 188)).heap.size (w.alloc (.cells #[.int .i64 ((N:Int) - (p:Nat)),.iface tq yq,.int .i64 (k:Nat)] 188)) w'→w'.cell? ⟨w.heap.size,2,none⟩=some (.int .i64 (k:Nat)):=fun w' hb=>(hb.cell (by simp)).trans (by simp)
 clear hC hu hu' ih hF h2 hk
 show Calls Tryz.prog 61 #[.pointer (some ⟨c,0,none⟩),ev N (Mip.eUnder p q k)] w _
 rw [e0]
 clear e0 eq
 go_enter Tryz.func61,Tryz.ntmps61
 go_wp2_with fail
 generalize hW:w.alloc (.cells #[.int .i64 ((N:Int) - (p:Nat)),.iface tq yq,.int .i64 (k:Nat)] 188)=W at HB k1 k2 ⊢
 clear hW ta tb
 go_region_held3 (fun w'=>Below W.heap.size W w') (first | assumption | exact (Below.refl _ _).drew | exact Below.alloc (by assumption) (Below.size (by assumption)) _) (first
  | (go_at_call 61;(with_reducible refine (IH.out _ ?_).mono ?_);exact (HC.out.below HB.out).below (by assumption);rintro e w3 ⟨hbw3,rfl⟩;have hBw3:Below W.heap.size W w3:=below_step (by assumption) hbw3)
  | (go_at_call 92;(with_reducible refine (slower_slow _ k HLE.out HK.out.2 _).mono ?_);rintro e w4 ⟨hbw4,rfl⟩;have hBw4:Below W.heap.size W w4:=below_step (by assumption) hbw4))
 all_goals go_wp2
 all_goals go_ret
 all_goals exact ⟨below_step HB.out (by assumption),by rw [HP.out];rfl⟩
theorem period_hold (N:Nat) (a:Nat→Addr) (c b n:Nat) (m:Mil.Bytes→Option Int) (g:Nat) (F:List Flo) (hF:∀f∈F,f.per≤1000000) (p:Nat) (q0 q:Mip.E) (k:Nat) (h2:2≤k) (hk:k≤1000) (hw0:Mil.wf (Mip.er q0) false) (hwq:Mil.wf (Mip.er q) false) (ih:PC N a c b n m g F q):PC N a c b n m g F (Mip.eHold p q0 q k):=by
 intro hu w hC
 have HC:Hid (Cw a c b n m g F w):=hC
 have hu':Mip.unres m q=none:=by
  simp [Mip.unres,Mip.eHold] at hu
  exact hu.2
 have IH:Hid (∀w,Cw a c b n m g F w→Calls Tryz.prog 61 #[.pointer (some ⟨c,0,none⟩),ev N q] w (Pp (Mip.perOf m F q) w)):=ih hu'
 have HLE:Hid (Mip.perOf m F q≤1000000):=Mip.perOf_le m F hF q
 have HK:Hid (2≤k∧k≤1000):=⟨h2,hk⟩
 have HP:Hid (Mip.perOf m F (Mip.eHold p q0 q k)=fast (Mip.perOf m F q) k):=by show _=_;simp [Mip.perOf,Mip.eHold,fast]
 obtain ⟨tq,yq,eq⟩:=ev_iface N q hwq
 obtain ⟨t0,y0,eq0⟩:=ev_iface N q0 hw0
 rw [eq] at IH
 have e0:ev N (Mip.eHold p q0 q k)=.iface 191 (.agg #[.int .i64 ((N:Int) - (p:Nat)),.iface t0 y0,.iface tq yq,.int .i64 (k:Nat)]):=by show Value.iface _ (.agg #[.int .i64 ((N:Int) - (p:Nat)),ev N q0,ev N q,.int .i64 (k:Nat)])=_;rw [eq0,eq]
 have ta:=ta_hold_name (.agg #[.int .i64 ((N:Int) - (p:Nat)),.iface t0 y0,.iface tq yq,.int .i64 (k:Nat)])
 have tb:=ta_hold_under (.agg #[.int .i64 ((N:Int) - (p:Nat)),.iface t0 y0,.iface tq yq,.int .i64 (k:Nat)])
 have tc:=ta_hold_hold (.agg #[.int .i64 ((N:Int) - (p:Nat)),.iface t0 y0,.iface tq yq,.int .i64 (k:Nat)])
 have HB:Hid (Below w.heap.size w (w.alloc (.cells #[.int .i64 ((N:Int) - (p:Nat)),.iface t0 y0,.iface tq yq,.int .i64 (k:Nat)] 191))):=(Below.refl _ _).alloc (Nat.le_refl _) _
 have k1:∀w',Below (w.alloc (.cells #[.int .i64 ((N:Int) - (p:Nat)),.iface t0 y0,.iface tq yq,.int .i64 (k:Nat)] 191)).heap.size (w.alloc (.cells #[.int .i64 ((N:Int) - (p:Nat)),.iface t0 y0,.iface tq yq,.int .i64 (k:Nat)] 191)) w'→w'.cell? ⟨w.heap.size,2,none⟩=some (.iface tq yq):=fun w' hb=>(hb.cell (by simp)).trans (by simp)
 have k2:∀w',Below (w.alloc (.cells #[.int .i64 ((N:Int) - (p:Nat)),.iface t0 y0,.iface tq yq,.int .i64 (k:Nat)] 191)).heap.size (w.alloc (.cells #[.int .i64 ((N:Int) - (p:Nat)),.iface t0 y0,.iface tq yq,.int .i64 (k:Nat)] 191)) w'→w'.cell? ⟨w.heap.size,3,none⟩=some (.int .i64 (k:Nat)):=fun w' hb=>(hb.cell (by simp)).trans (by simp)
 clear hC hu hu' ih hF h2 hk
 show Calls Tryz.prog 61 #[.pointer (some ⟨c,0,none⟩),ev N (Mip.eHold p q0 q k)] w _
 rw [e0]
 clear e0 eq eq0
 go_enter Tryz.func61,Tryz.ntmps61
 go_wp2_with fail
 generalize hW:w.alloc (.cells #[.int .i64 ((N:Int) - (p:Nat)),.iface t0 y0,.iface tq yq,.int .i64 (k:Nat)] 191)=W at HB k1 k2 ⊢
 clear hW ta tb tc
 go_region_held3 (fun w'=>Below W.heap.size W w') (first | assumption | exact (Below.refl _ _).drew | exact Below.alloc (by assumption) (Below.size (by assumption)) _) (first
  | (go_at_call 61;(with_reducible refine (IH.out _ ?_).mono ?_);exact (HC.out.below HB.out).below (by assumption);rintro e w3 ⟨hbw3,rfl⟩;have hBw3:Below W.heap.size W w3:=below_step (by assumption) hbw3)
  | (go_at_call 93;(with_reducible refine (faster_fast _ k HLE.out HK.out.1 HK.out.2 _).mono ?_);rintro e w4 ⟨hbw4,rfl⟩;have hBw4:Below W.heap.size W w4:=below_step (by assumption) hbw4))
 all_goals go_wp2
 all_goals go_ret
 all_goals exact ⟨below_step HB.out (by assumption),by rw [HP.out];rfl⟩
theorem wf_8 {k:Nat} {x:Mil.Bytes} {a b:Mil.E} (h:Mil.wf (.node 8 k x a b) false):2≤k∧k≤1000:=by
 rcases h with ⟨h,_⟩ | ⟨h,_⟩ | ⟨h,_⟩ | ⟨h,_⟩ | ⟨h,_⟩ | ⟨h,_⟩ | ⟨h,_⟩ | ⟨_,_,h1,h2,_⟩ | ⟨h,_⟩ | ⟨h,_⟩
 all_goals first | exact ⟨h1,h2⟩ | (exact absurd h (by decide))
theorem wf_9 {k:Nat} {x:Mil.Bytes} {a b:Mil.E} (h:Mil.wf (.node 9 k x a b) false):2≤k∧k≤1000:=by
 rcases h with ⟨h,_⟩ | ⟨h,_⟩ | ⟨h,_⟩ | ⟨h,_⟩ | ⟨h,_⟩ | ⟨h,_⟩ | ⟨h,_⟩ | ⟨h,_⟩ | ⟨_,_,h1,h2,_⟩ | ⟨h,_⟩
 all_goals first | exact ⟨h1,h2⟩ | (exact absurd h (by decide))
theorem periodOf_any (N:Nat) (a:Nat→Addr) (c b n:Nat) (m:Mil.Bytes→Option Int) (g:Nat) (F:List Flo) (hfit:Fit m F) (hF:∀f∈F,f.per≤1000000):∀e,Mil.wf (Mip.er e) false→PC N a c b n m g F e:=by
 refine Mip.tree_ind (fun p x hx _=>period_name N a c b n m g F hfit p x hx) (fun e hw hn hk=>?_)
 by_cases h8:∃p q k,e=Mip.eUnder p q k
 ·obtain ⟨p,q,k,rfl⟩:=h8
  obtain ⟨h2,h1000⟩:=wf_8 (show Mil.wf (.node 8 k [] (Mip.er q) (Mip.er .nil)) false from hw)
  obtain ⟨h3,h4⟩:=hk q (List.mem_singleton.2 rfl)
  exact period_under N a c b n m g F hF p q k h2 h1000 h3 h4
 by_cases h9:∃p q0 q k,e=Mip.eHold p q0 q k
 ·obtain ⟨p,q0,q,k,rfl⟩:=h9
  obtain ⟨h2,h1000⟩:=wf_9 (show Mil.wf (.node 9 k [] (Mip.er q0) (Mip.er q)) false from hw)
  obtain ⟨h3,_⟩:=hk q0 (List.mem_cons_self ..)
  obtain ⟨h5,h6⟩:=hk q (List.mem_cons_of_mem _ (List.mem_singleton.2 rfl))
  exact period_hold N a c b n m g F hF p q0 q k h2 h1000 h3 h5 h6
 exact period_plain N a c b n m g F e hw ⟨hn,fun p q k e=>h8 ⟨p,q,k,e⟩,fun p q0 q k e=>h9 ⟨p,q0,q,k,e⟩⟩ (fun q hq=>(hk q hq).2)
end
section
open Go.RowKit
set_option maxRecDepth 100000 in
theorem commonDivisor_any (a b:Nat) (ha2:a≤1000000000000) (hb:b≤1000000000000) (w:World) :
  Calls Tryz.prog 62 #[.int .i64 (a:Nat),.int .i64 (b:Nat)] w (Pp (Nat.gcd a b) w):=by
 have HE:Hid (∃G,G=Nat.gcd a b):=⟨_,rfl⟩
 obtain ⟨G,hG⟩:=HE.out
 rw [←hG]
 have HG:Hid (G=Nat.gcd a b):=hG
 clear hG HE
 go_enter Tryz.func62,Tryz.ntmps62
 go_wp2_with fail
 go_loopg [0,1] b (fun gk s0 s1 wr=>∃(x y:Nat),s0=.int .i64 (x:Nat)∧s1=.int .i64 (y:Nat)∧gk=y∧x≤1000000000000∧y≤1000000000000∧Hid (Nat.gcd x y=Nat.gcd a b)∧Hid (Below w.heap.size w wr))
 case atStart=>exact ⟨a,b,rfl,rfl,rfl,ha2,hb,rfl,Below.refl _ _⟩
 case round=>
  clear ha2 hb
  obtain ⟨x,y,rfl,rfl,rfl,hx2,hy,HQ,HB⟩:=hrel
  by_cases h0:gk=0
  ·have q0:((gk:Int) != 0)=false:=by rw [bne_eq_false_iff_eq];omega
   have HX:Hid (x=G):=by
    have h:=HQ.out
    rw [h0,Nat.gcd_zero_right] at h
    exact h.trans HG.out.symm
   clear h0 hx2 hy
   go_wp2_with fail
   all_goals go_ret
   exact ⟨HB.out,by rw [←HX.out];rfl⟩
  ·have q0:((gk:Int) != 0)=true:=by rw [bne_iff_ne];omega
   have q1:((gk:Int)==0)=false:=by rw [beq_eq_false_iff_ne];omega
   have q2:((gk:Int)==-1)=false:=by rw [beq_eq_false_iff_ne];omega
   have q3:¬gk=0:=h0
   have hlt:x % gk < gk:=Nat.mod_lt _ (by omega)
   have wr2:IntKind.i64.wrap ((x:Int).tmod (gk:Int))=(x:Int) % (gk:Int):=by
    have e:(x:Int).tmod (gk:Int)=((x % gk:Nat):Int):=by rw [Int.tmod_eq_emod_of_nonneg (by omega)];rfl
    have e2:(x:Int) % (gk:Int)=((x % gk:Nat):Int):=rfl
    rw [e,e2]
    generalize x % gk=q at hlt ⊢
    simp only [IntKind.wrap_i64];omega
   have wr3:IntKind.i64.wrap ((x:Int) % (gk:Int))=(x:Int) % (gk:Int):=by
    have e2:(x:Int) % (gk:Int)=((x % gk:Nat):Int):=rfl
    rw [e2]
    generalize x % gk=q at hlt ⊢
    simp only [IntKind.wrap_i64];omega
   have HX:Hid (gk≤1000000000000∧x % gk≤1000000000000∧x % gk < gk):=⟨hy,by omega,hlt⟩
   have HQ2:Hid (Nat.gcd gk (x % gk)=Nat.gcd a b):=by
    show _=_
    rw [←HQ.out,Nat.gcd_comm x gk,Nat.gcd_rec gk x]
    exact Nat.gcd_comm _ _
   clear h0 hx2 hy hlt
   go_wp2_with fail
   go_region
   go_wp2
   go_roundg (x % gk)
   case measure=>exact HX.out.2.2
   case rel=>exact ⟨gk,x % gk,rfl,rfl,rfl,HX.out.1,HX.out.2.1,HQ2,HB.out.drew⟩
end
section
open Go.RowKit
def mult (c p:Nat):Nat:=c / Nat.gcd c p*p
def tooGreat:Nat→List Flo→Bool
 | _,[]=>false
 | c,f::r=>if 1000000 < mult c f.per then true else tooGreat (mult c f.per) r
theorem tooGreat_drop {c:Nat} {F:List Flo} {j:Nat} {f:Flo} (h:F[j]?=some f):tooGreat c (F.drop j)=if 1000000 < mult c f.per then true else tooGreat (mult c f.per) (F.drop (j+1)):=by
 obtain ⟨hj,rfl⟩:=List.getElem?_eq_some_iff.1 h
 rw [List.drop_eq_getElem_cons hj];rfl
theorem mult_pos {c p:Nat} (hc:0 < c) (hp:0 < p):0 < mult c p:=by
 unfold mult
 exact Nat.mul_pos (Nat.div_pos (Nat.le_of_dvd hc (Nat.gcd_dvd_left c p)) (Nat.gcd_pos_of_pos_left p hc)) hp
theorem mult_le {c p:Nat} (hc:c≤1000000) (hp:p≤1000000):mult c p≤1000000000000:=
 Nat.le_trans (Nat.mul_le_mul (Nat.le_trans (Nat.div_le_self _ _) hc) hp) (by decide)
def CkPost (a:Nat→Addr) (at_:Int) (k:Nat) (bad:Bool) (w:World) (E:Ending) (w':World):Prop:=
 Below w.heap.size w w'∧((bad=false∧E=.returned (.pointer none))∨∃d,bad=true∧E=.returned (.pointer (some ⟨d,0,none⟩))∧Dg a w' d at_ k)
set_option maxRecDepth 100000 in
theorem checkCommon_any {a:Nat→Addr} {c b n:Nat} {m:Mil.Bytes→Option Int} {g:Nat} {F:List Flo} {w:World} (h:Cw a c b n m g F w) (hF:F.length≤1000) (hP:∀f∈F,0 < f.per∧f.per≤1000000) :
  Calls Tryz.prog 37 #[.pointer (some ⟨c,0,none⟩)] w (CkPost a 0 8 (tooGreat 1 F) w):=by
 have HC:Hid (Cw a c b n m g F w):=h
 have HP:Hid (∀f∈F,0 < f.per∧f.per≤1000000):=hP
 obtain ⟨cap,hc1⟩:=h.c1
 clear h hP
 go_enter Tryz.func37,Tryz.ntmps37
 go_wp2_with fail
 go_loopg [3,11] F.length (fun gk s3 s11 wr=>∃(j q:Nat),j≤F.length∧s3=.int .i64 (q:Nat)∧s11=.int .i64 (j:Nat)∧gk=F.length - j∧Hid (0 < q∧q≤1000000)∧Hid (tooGreat 1 F=tooGreat q (F.drop j))∧Hid (Below w.heap.size w wr))
 case atStart=>exact ⟨0,1,Nat.zero_le _,rfl,rfl,rfl,⟨by decide,by decide⟩,rfl,Below.refl _ _⟩
 case round=>
  obtain ⟨j,q,hj,rfl,rfl,hg,HQ,HR,HB⟩:=hrel
  have HG:Hid (gk=F.length - j):=hg
  clear hg
  by_cases hlt:j < F.length
  ·obtain ⟨f,hf⟩:∃f,F[j]?=some f:=⟨_,List.getElem?_eq_getElem hlt⟩
   obtain ⟨q0,q1,q2,q3,q4⟩:=(HC.out.below HB.out).fl j f hf
   have HD:Hid (tooGreat 1 F=if 1000000 < mult q f.per then true else tooGreat (mult q f.per) (F.drop (j+1))):=HR.out.trans (tooGreat_drop hf)
   have HPF:Hid (0 < f.per∧f.per≤1000000):=HP.out f (List.mem_of_getElem? hf)
   clear hf
   go_wp2_with fail
   have HB1:Hid (Below w.heap.size w (wr.alloc (.cells #[.string (bs f.nm),.int .i64 (f.ty:Nat),.int .i64 (f.per:Nat),.bool f.inp,.bool f.out] 42))):=below_step HB.out ((Below.refl _ _).alloc (Nat.le_refl _) _)
   have k2:∀w',Below (wr.alloc (.cells #[.string (bs f.nm),.int .i64 (f.ty:Nat),.int .i64 (f.per:Nat),.bool f.inp,.bool f.out] 42)).heap.size (wr.alloc (.cells #[.string (bs f.nm),.int .i64 (f.ty:Nat),.int .i64 (f.per:Nat),.bool f.inp,.bool f.out] 42)) w'→w'.cell? ⟨wr.heap.size,2,none⟩=some (.int .i64 (f.per:Nat)):=fun w' hb=>(hb.cell (by simp)).trans (by simp)
   generalize hW:wr.alloc (.cells #[.string (bs f.nm),.int .i64 (f.ty:Nat),.int .i64 (f.per:Nat),.bool f.inp,.bool f.out] 42)=W at HB1 k2 ⊢
   clear hW q0 q1 q2 q3 q4
   have HGP:Hid (0 < Nat.gcd q f.per∧Nat.gcd q f.per≤1000000):=⟨Nat.gcd_pos_of_pos_left _ HQ.out.1,Nat.le_trans (Nat.le_of_dvd HQ.out.1 (Nat.gcd_dvd_left _ _)) HQ.out.2⟩
   have HMU:Hid (mult q f.per=q / Nat.gcd q f.per*f.per∧mult q f.per≤1000000000000∧0 < mult q f.per∧q / Nat.gcd q f.per≤1000000):=⟨rfl,mult_le HQ.out.2 HPF.out.2,mult_pos HQ.out.1 HPF.out.1,Nat.le_trans (Nat.div_le_self _ _) HQ.out.2⟩
   have HCD:Hid (∀w,Calls Tryz.prog 62 #[.int .i64 (q:Nat),.int .i64 (f.per:Nat)] w (Pp (Nat.gcd q f.per) w)):=fun w=>commonDivisor_any q f.per (by have:=HQ.out.2;omega) (by have:=HPF.out.2;omega) w
   generalize hd:Nat.gcd q f.per=d at HGP HMU HCD
   clear hd
   have d0:((d:Int)==0)=false:=by have:=HGP.out.1;simp;omega
   have dn:¬(d:Int)=0:=by have:=HGP.out.1;omega
   have dm:((d:Int)==-1)=false:=by rw [beq_eq_false_iff_ne];omega
   have dz:¬d=0:=by have:=HGP.out.1;omega
   have c2:((q / d:Nat):Int)=(q:Int) / (d:Int):=by simp
   have w2:IntKind.i64.wrap ((q:Int) / (d:Int))=(q:Int) / (d:Int):=by
    rw [←c2]
    have b2:=HMU.out.2.2.2
    generalize q / d=z at b2
    simp only [IntKind.wrap_i64];omega
   have t2:IntKind.i64.wrap (Int.tdiv (q:Int) (d:Int))=(q:Int) / (d:Int):=by
    rw [Int.tdiv_eq_ediv_of_nonneg (by omega)];exact w2
   have w3:IntKind.i64.wrap ((q:Int) / (d:Int)*(f.per:Int))=(q:Int) / (d:Int)*(f.per:Int):=by
    have c3:((q / d*f.per:Nat):Int)=(q:Int) / (d:Int)*(f.per:Int):=by simp
    rw [←c3,←HMU.out.1]
    have b2:=HMU.out.2.1
    generalize mult q f.per=z at b2
    simp only [IntKind.wrap_i64];omega
   clear c2
   have HCC:Hid ((q:Int) / (d:Int)*(f.per:Int)=((mult q f.per:Nat):Int)):=by
    show _=_
    rw [HMU.out.1];simp
   go_region_held3 (fun w'=>Below W.heap.size W w') (first | assumption | exact (Below.refl _ _).drew | exact Below.alloc (by assumption) (Below.size (by assumption)) _) (first
    | (go_at_call 62;(with_reducible refine (HCD.out _).mono ?_);rintro e w4 ⟨hbw4,rfl⟩;have hBw4:Below W.heap.size W w4:=below_step (by assumption) hbw4))
   have HW4:Hid (Below w.heap.size w w4):=below_step HB1.out (by assumption)
   have HCW:Hid (Cw a c b n m g F w4):=HC.out.below HW4.out
   rw [HCC.out]
   have HMV:Hid (mult q f.per≤1000000000000∧0 < mult q f.per):=⟨HMU.out.2.1,HMU.out.2.2.1⟩
   clear HCC w2 t2 w3 d0 dn dm dz HCD HMU HGP k2 hbw4
   clear hBw4
   generalize mult q f.per=v at HD HMV ⊢
   by_cases hv:1000000 < v
   ·have i1:(1000000:Int) < (v:Int):=by omega
    have e8:=HCW.out.nm.ce.e8
    have HV:Hid (1000000 < v):=hv
    clear hv
    go_wp2
    go_ret
    refine ⟨below_step HW4.out ((Below.refl _ _).alloc (Nat.le_refl _) _),Or.inr ⟨_,by rw [HD.out,if_pos HV.out],rfl,dg_new a _ _ rfl _ _⟩⟩
   ·have i1:(v:Int)≤1000000:=by omega
    have i2:((1000000:Int) < (v:Int))=False:=by rw [eq_iff_iff,iff_false];omega
    have HV:Hid (v≤1000000):=by show _≤_;omega
    clear hv
    go_wp2
    go_roundg (F.length - (j+1))
    case measure=>have:=HG.out;omega
    case rel=>exact ⟨j+1,v,hlt,rfl,by go_num,rfl,⟨HMV.out.2,HV.out⟩,by have h:=HD.out;rw [if_neg (by have:=HV.out;omega)] at h;exact h,HW4⟩
  ·have hle:(F.length:Int)≤(j:Int):=by omega
   have HJ:Hid (j=F.length):=by show _=_;omega
   go_wp2
   go_ret
   exact ⟨HB.out,Or.inl ⟨by rw [HR.out,HJ.out,List.drop_length];rfl,rfl⟩⟩
end
section
open Go.RowKit
theorem pl_int (u0 u1 : Value) (w : World) : (Go.method 426 165 (.agg #[u0, u1]) "ratemill/mill.place").run Tryz.prog w = .ok (216, .agg #[u0]) w := by kernel_rfl
theorem pl_bool (u0 u1 : Value) (w : World) : (Go.method 426 168 (.agg #[u0, u1]) "ratemill/mill.place").run Tryz.prog w = .ok (216, .agg #[u0]) w := by kernel_rfl
theorem pl_name (u0 u1 : Value) (w : World) : (Go.method 426 103 (.agg #[u0, u1]) "ratemill/mill.place").run Tryz.prog w = .ok (216, .agg #[u0]) w := by kernel_rfl
theorem pl_pre (u0 u1 u2 : Value) (w : World) : (Go.method 426 172 (.agg #[u0, u1, u2]) "ratemill/mill.place").run Tryz.prog w = .ok (216, .agg #[u0]) w := by kernel_rfl
theorem pl_two (u0 u1 u2 u3 : Value) (w : World) : (Go.method 426 175 (.agg #[u0, u1, u2, u3]) "ratemill/mill.place").run Tryz.prog w = .ok (216, .agg #[u0]) w := by kernel_rfl
theorem pl_if (u0 u1 u2 u3 : Value) (w : World) : (Go.method 426 182 (.agg #[u0, u1, u2, u3]) "ratemill/mill.place").run Tryz.prog w = .ok (216, .agg #[u0]) w := by kernel_rfl
theorem pl_fby (u0 u1 u2 : Value) (w : World) : (Go.method 426 185 (.agg #[u0, u1, u2]) "ratemill/mill.place").run Tryz.prog w = .ok (216, .agg #[u0]) w := by kernel_rfl
theorem pl_under (u0 u1 u2 : Value) (w : World) : (Go.method 426 188 (.agg #[u0, u1, u2]) "ratemill/mill.place").run Tryz.prog w = .ok (216, .agg #[u0]) w := by kernel_rfl
theorem pl_hold (u0 u1 u2 u3 : Value) (w : World) : (Go.method 426 191 (.agg #[u0, u1, u2, u3]) "ratemill/mill.place").run Tryz.prog w = .ok (216, .agg #[u0]) w := by kernel_rfl
theorem pl_least (u0 u1 u2 u3 : Value) (w : World) : (Go.method 426 180 (.agg #[u0, u1, u2, u3]) "ratemill/mill.place").run Tryz.prog w = .ok (216, .agg #[u0]) w := by kernel_rfl
theorem place_any (u:Int) (w:World):Calls Tryz.prog 216 #[.agg #[.int .i64 u]] w fun E w'=>Below w.heap.size w w'∧E=.returned (.int .i64 u):=by
 go_enter Tryz.func216,Tryz.ntmps216
 go_wp2
 go_ret
 exact ⟨(Below.refl _ _).alloc (Nat.le_refl _) _,rfl⟩
namespace Mip
def pl:E→Nat
 | .nil=>0
 | .node _ _ x _ _=>x.2
end Mip
theorem place_of (N : Nat) : ∀ e : Mip.E, Mil.wf (Mip.er e) false → ∃ T y, ev N e = .iface T y ∧ ∀ w, (Go.method 426 T y "ratemill/mill.place").run Tryz.prog w = .ok (216, .agg #[.int .i64 ((N : Int) - (Mip.pl e : Nat))]) w := by
 refine Mip.tree_induct ?_ ?_ ?_ ?_ ?_ ?_ ?_ ?_ ?_ ?_
 ·intro p k _;exact ⟨_,_,rfl,pl_int _ _⟩
 ·intro p k _;exact ⟨_,_,rfl,pl_bool _ _⟩
 ·intro p x _;exact ⟨_,_,rfl,pl_name _ _⟩
 ·intro p x a _ _;exact ⟨_,_,rfl,pl_pre _ _ _⟩
 ·intro p x a b _ _ _;exact ⟨_,_,rfl,pl_two _ _ _ _⟩
 ·intro p y a b c _ _ _;exact ⟨_,_,rfl,pl_if _ _ _ _⟩
 ·intro p a b _ _;exact ⟨_,_,rfl,pl_fby _ _ _⟩
 ·intro p a k _ _ _;exact ⟨_,_,rfl,pl_under _ _ _⟩
 ·intro p a b k _ _ _ _;exact ⟨_,_,rfl,pl_hold _ _ _ _⟩
 ·intro p x a b _ _ _;exact ⟨_,_,rfl,pl_least _ _ _ _⟩
end
end Go.Proofs.YticbokabjhnagaaGreatDoor
