import Derived.Test.YticbokabjhnagaaGreatDoorW12
import Derived.Deep.LoopGhost
namespace Go.Proofs.YticbokabjhnagaaGreatDoor
set_option maxHeartbeats 32000000
section
open Go.RowKit
namespace Mip
theorem tree_ind {Q:E→Prop}
  (h3:∀p x,Mil.NameOk x→Mil.wf (er (eName p x)) false→Q (eName p x))
  (hk:∀e,Mil.wf (er e) false→(∀p x,e≠eName p x)→(∀q∈kids e,Mil.wf (er q) false∧Q q)→Q e):∀e:E,Mil.wf (er e) false→Q e:=by
 have i1:∀k:Nat,(k:Int)≤Mil.maxInt→Mil.wf (Mil.eInt k) false→∀p,er p=Mil.eInt k→Q p:=fun k hk' hw p hp=>by
  obtain ⟨y,c,d,rfl,hc,hd⟩:=er_node' hp
  exact hk _ (by rw [hp];exact hw) (fun _ _ e=>by cases e) (fun q hq=>by cases hq)
 have i2:∀k,k=0∨k=1→Mil.wf (Mil.eBool k) false→∀p,er p=Mil.eBool k→Q p:=fun k hk' hw p hp=>by
  obtain ⟨y,c,d,rfl,hc,hd⟩:=er_node' hp
  exact hk _ (by rw [hp];exact hw) (fun _ _ e=>by cases e) (fun q hq=>by cases hq)
 have i0:∀m,Mil.isConst m→∀p,er p=m→Mil.wf (er p) false∧Q p:=fun m hm p hp=>by
  have hw:=Mil.wf_const hm
  refine ⟨by rw [hp];exact hw,?_⟩
  rcases hm with ⟨k,hk',rfl⟩ | ⟨k,hk',rfl⟩ | ⟨k,hk',rfl⟩
  ·exact i1 k hk' hw p hp
  ·exact i2 k hk' hw p hp
  ·have hw1:Mil.wf (Mil.eInt k) false:=Mil.wf_const (Or.inl ⟨k,hk',rfl⟩)
   obtain ⟨y,c,d,rfl,hc,hd⟩:=er_node' hp
   refine hk _ (by rw [hp];exact hw) (fun _ _ e=>by cases e) (fun q hq=>?_)
   have e:q=c:=by simpa [kids] using hq
   rw [e]
   exact ⟨by rw [hc];exact hw1,i1 k hk' hw1 c hc⟩
 intro e he
 refine Mil.wf_induct (P:=fun m=>Mil.wf m false→∀p,er p=m→Q p) i1 i2 ?_ ?_ ?_ ?_ ?_ ?_ ?_ ?_ _ he he e rfl
 ·intro x hx hw p hp
  obtain ⟨y,c,d,rfl,hc,hd⟩:=er_node' hp
  rw [er_nil hc,er_nil hd] at hp ⊢
  exact h3 y x hx (by rw [show er (eName y x)=_ from hp];exact hw)
 ·intro x a hx hwa ha hw p hp
  obtain ⟨y,c,d,rfl,hc,hd⟩:=er_node' hp
  refine hk _ (by rw [hp];exact hw) (fun _ _ e=>by cases e) (fun q hq=>?_)
  have e:q=c:=by simpa [kids] using hq
  rcases e with rfl
  ·exact ⟨by rw [hc];exact hwa,ha hwa _ hc⟩
 ·intro x a b hx hwa hwb ha hb hw p hp
  obtain ⟨y,c,d,rfl,hc,hd⟩:=er_node' hp
  refine hk _ (by rw [hp];exact hw) (fun _ _ e=>by cases e) (fun q hq=>?_)
  have e:q=c∨q=d:=by simpa [kids] using hq
  rcases e with rfl | rfl
  ·exact ⟨by rw [hc];exact hwa,ha hwa _ hc⟩
  ·exact ⟨by rw [hd];exact hwb,hb hwb _ hd⟩
 ·intro a b c hwa hwb hwc ha hb hc hw p hp
  obtain ⟨y,q1,r1,rfl,h1,h2⟩:=er_node' hp
  obtain ⟨y2,q2,q3,rfl,h3,h4⟩:=er_node' h2
  refine hk _ (by rw [hp];exact hw) (fun _ _ e=>by cases e) (fun q hq=>?_)
  have e:q=q1∨q=q2∨q=q3:=by simpa [kids] using hq
  rcases e with rfl | rfl | rfl
  ·exact ⟨by rw [h1];exact hwa,ha hwa _ h1⟩
  ·exact ⟨by rw [h3];exact hwb,hb hwb _ h3⟩
  ·exact ⟨by rw [h4];exact hwc,hc hwc _ h4⟩
 ·intro a b hca hwb hb hw p hp
  obtain ⟨y,c,d,rfl,hc,hd⟩:=er_node' hp
  refine hk _ (by rw [hp];exact hw) (fun _ _ e=>by cases e) (fun q hq=>?_)
  have e:q=c∨q=d:=by simpa [kids] using hq
  rcases e with rfl | rfl
  ·exact i0 a hca _ hc
  ·exact ⟨by rw [hd];exact hwb,hb hwb _ hd⟩
 ·intro a k h2 hk2 hwa ha hw p hp
  obtain ⟨y,c,d,rfl,hc,hd⟩:=er_node' hp
  refine hk _ (by rw [hp];exact hw) (fun _ _ e=>by cases e) (fun q hq=>?_)
  have e:q=c:=by simpa [kids] using hq
  rcases e with rfl
  ·exact ⟨by rw [hc];exact hwa,ha hwa _ hc⟩
 ·intro a b k h2 hk2 hca hwb hb hw p hp
  obtain ⟨y,c,d,rfl,hc,hd⟩:=er_node' hp
  refine hk _ (by rw [hp];exact hw) (fun _ _ e=>by cases e) (fun q hq=>?_)
  have e:q=c∨q=d:=by simpa [kids] using hq
  rcases e with rfl | rfl
  ·exact i0 a hca _ hc
  ·exact ⟨by rw [hd];exact hwb,hb hwb _ hd⟩
 ·intro x a b hx hwa hwb ha hb hw p hp
  obtain ⟨y,c,d,rfl,hc,hd⟩:=er_node' hp
  refine hk _ (by rw [hp];exact hw) (fun _ _ e=>by cases e) (fun q hq=>?_)
  have e:q=c∨q=d:=by simpa [kids] using hq
  rcases e with rfl | rfl
  ·exact ⟨by rw [hc];exact hwa,ha hwa _ hc⟩
  ·exact ⟨by rw [hd];exact hwb,hb hwb _ hd⟩
def unres (m:Mil.Bytes→Option Int):E→Option Nat
 | .nil=>none
 | .node t _ x a b=>if t=3 then (if (m x.1).isSome then none else some x.2) else (unres m a).or (unres m b)
theorem kids_le (e:E):(kids e).length≤3:=by
 unfold kids
 split <;> simp
def firstOf (m:Mil.Bytes→Option Int):List E→Option Nat
 | []=>none
 | q::r=>(unres m q).or (firstOf m r)
theorem unres_kids (m:Mil.Bytes→Option Int):∀e:E,Mil.wf (er e) false→(∀p x,e≠eName p x)→unres m e=firstOf m (kids e):=by
 refine tree_induct ?_ ?_ ?_ ?_ ?_ ?_ ?_ ?_ ?_ ?_
 ·intro p k _ _;rfl
 ·intro p k _ _;rfl
 ·intro p x _ h;exact absurd rfl (h p x)
 ·intro p x a _ _ _;simp [unres,kids,firstOf,ePre]
 ·intro p x a b _ _ _ _;simp [unres,kids,firstOf,eTwo]
 ·intro p y a b c _ _ _ _;simp [unres,kids,firstOf]
 ·intro p a b _ _ _;simp [unres,kids,firstOf,eFby]
 ·intro p a k _ _ _ _;simp [unres,kids,firstOf,eUnder]
 ·intro p a b k _ _ _ _ _;simp [unres,kids,firstOf,eHold]
 ·intro p x a b _ _ _ _;simp [unres,kids,firstOf,eLeast]
theorem first_none (m:Mil.Bytes→Option Int):∀l:List E,(∀(i:Nat) (q:E),l[i]?=some q→unres m q=none)→firstOf m l=none
 | [],_=>rfl
 | q::r,h=>by
  rw [firstOf,h 0 q rfl,first_none m r (fun i q' hq=>h (i+1) q' hq)];rfl
theorem first_some (m:Mil.Bytes→Option Int):∀(l:List E) (j:Nat) (q:E) (p:Nat),(∀(i:Nat) (q':E),i < j→l[i]?=some q'→unres m q'=none)→l[j]?=some q→unres m q=some p→firstOf m l=some p
 | [],_,_,_,_,h,_=>by simp at h
 | q0::r,0,q,p,_,h,k=>by
  have e:q0=q:=by simpa using h
  rw [firstOf,e,k];rfl
 | q0::r,j+1,q,p,h0,h,k=>by
  rw [firstOf,h0 0 q0 (Nat.succ_pos _) rfl,first_some m r j q p (fun i q' hi hq=>h0 (i+1) q' (Nat.succ_lt_succ hi) hq) (by simpa using h) k];rfl
end Mip
theorem not_name (N:Nat):∀e:Mip.E,Mil.wf (Mip.er e) false→(∀p x,e≠Mip.eName p x)→∃T y,ev N e=.iface T y∧∀w,(Instr.typeAssert (.iface T y) 105 103 true).run Tryz.prog w=.ok (.tuple #[.agg #[.int .i64 0,.string ⟨#[]⟩],.bool false]) w:=by
 refine Mip.tree_induct ?_ ?_ ?_ ?_ ?_ ?_ ?_ ?_ ?_ ?_
 ·intro p k _ _;exact ⟨_,_,rfl,ta_int_name _⟩
 ·intro p k _ _;exact ⟨_,_,rfl,ta_bool_name _⟩
 ·intro p x _ h;exact absurd rfl (h p x)
 ·intro p x a _ _ _;exact ⟨_,_,rfl,ta_pre_name _⟩
 ·intro p x a b _ _ _ _;exact ⟨_,_,rfl,ta_two_name _⟩
 ·intro p y a b c _ _ _ _;exact ⟨_,_,rfl,ta_if_name _⟩
 ·intro p a b _ _ _;exact ⟨_,_,rfl,ta_fby_name _⟩
 ·intro p a k _ _ _ _;exact ⟨_,_,rfl,ta_under_name _⟩
 ·intro p a b k _ _ _ _ _;exact ⟨_,_,rfl,ta_hold_name _⟩
 ·intro p x a b _ _ _ _;exact ⟨_,_,rfl,ta_least_name _⟩
def Rs (N:Nat) (a:Nat→Addr) (o:Option Nat) (w:World) (E:Ending) (w':World):Prop:=
 Below w.heap.size w w'∧((o=none∧E=.returned (.pointer none))∨∃p d,o=some p∧E=.returned (.pointer (some ⟨d,0,none⟩))∧Dg a w' d ((N:Int) - (p:Nat)) 6)
structure Nm (a:Nat→Addr) (c b n:Nat) (m:Mil.Bytes→Option Int) (w:World):Prop where
 ce:Ce a w
 c2:w.cell? ⟨c,2,none⟩=some (.map (some b))
 mp:Msi w b n m
theorem Nm.below {a:Nat→Addr} {c b n:Nat} {m:Mil.Bytes→Option Int} {w w':World} (h:Nm a c b n m w) (k:Below w.heap.size w w'):Nm a c b n m w':=
 ⟨h.ce.below k,(k.cell (lt_of_cell h.c2)).trans h.c2,h.mp.fr (Fr.of_below (own:=fun _=>False) k) (fun e=>e)⟩
def RC (N:Nat) (a:Nat→Addr) (c b n:Nat) (m:Mil.Bytes→Option Int) (e:Mip.E):Prop:=∀w,Nm a c b n m w→Calls Tryz.prog 56 #[.pointer (some ⟨c,0,none⟩),ev N e] w (Rs N a (Mip.unres m e) w)
theorem resolve_name (N:Nat) (a:Nat→Addr) (c b n:Nat) (m:Mil.Bytes→Option Int) (p:Nat) (x:Mil.Bytes) (hx:Mil.NameOk x):RC N a c b n m (Mip.eName p x):=by
 intro w hN
 have HN:Hid (Nm a c b n m w):=hN
 have HX:Hid (x.length≤4000):=by have:=hx.2.2.1;show _≤_;omega
 have HB:Hid (Below w.heap.size w (w.alloc (.cells #[.int .i64 ((N:Int) - (p:Nat)),.string (bs x)] 103))):=(Below.refl _ _).alloc (Nat.le_refl _) _
 have hta:=ta_name_name (.agg #[.int .i64 ((N:Int) - (p:Nat)),.string (bs x)])
 clear hN hx
 show Calls Tryz.prog 56 #[.pointer (some ⟨c,0,none⟩),.iface 103 (.agg #[.int .i64 ((N:Int) - (p:Nat)),.string (bs x)])] w _
 go_enter Tryz.func56,Tryz.ntmps56
 go_wp2_with fail
 have N1:=HN.out.below HB.out
 cases hm:m x with
 | none=>
  have HM:Hid (m x=none):=hm
  refine (numberOf_none a _ N1.ce c b n N1.c2 m N1.mp x HX.out _ hm).mono ?_
  rintro E w1 ⟨hb1,d,rfl,hd⟩
  have HD:Hid (Dg a w1 d ((N:Int) - (p:Nat)) 6):=hd
  have HB1:Hid (Below w.heap.size w w1):=below_step HB.out hb1
  clear hb1 hd N1 hta hm
  go_wp2
  go_ret
  exact ⟨HB1.out,Or.inr ⟨p,d,by simp [Mip.unres,Mip.eName,HM.out],rfl,HD.out⟩⟩
 | some k=>
  have HM:Hid (m x=some k):=hm
  refine (numberOf_some _ c b n N1.c2 m N1.mp x HX.out _ k hm).mono ?_
  rintro E w1 ⟨hb1,rfl⟩
  have HB1:Hid (Below w.heap.size w w1):=below_step HB.out hb1
  clear hb1 N1 hta hm
  go_wp2
  go_ret
  exact ⟨HB1.out,Or.inl ⟨by simp [Mip.unres,Mip.eName,HM.out],rfl⟩⟩
theorem resolve_node (N:Nat) (a:Nat→Addr) (c b n:Nat) (m:Mil.Bytes→Option Int) (e:Mip.E) (hw:Mil.wf (Mip.er e) false) (hn:∀p x,e≠Mip.eName p x) (ih:∀q∈Mip.kids e,RC N a c b n m q):RC N a c b n m e:=by
 intro w hN
 have HN:Hid (Nm a c b n m w):=hN
 have IH:Hid (∀q∈Mip.kids e,RC N a c b n m q):=ih
 have HU:Hid (Mip.unres m e=Mip.firstOf m (Mip.kids e)):=Mip.unres_kids m e hw hn
 obtain ⟨T,y,he,hta⟩:=not_name N e hw hn
 have HO:=operands_any N e hw
 rw [he] at HO
 have HO':Hid (∀w,Calls Tryz.prog 89 #[.iface T y] w (OpPost N e w)):=HO
 have HB:Hid (Below w.heap.size w (w.alloc (.cells #[.int .i64 0,.string ⟨#[]⟩] 103))):=(Below.refl _ _).alloc (Nat.le_refl _) _
 clear hN ih HO hn hw
 show Calls Tryz.prog 56 #[.pointer (some ⟨c,0,none⟩),ev N e] w _
 rw [he]
 clear he
 go_enter Tryz.func56,Tryz.ntmps56
 go_wp2_with fail
 refine (HO'.out _).mono ?_
 rintro E w1 ⟨hb1,v,rfl,hK⟩
 have HB1:Hid (Below w.heap.size w w1):=below_step HB.out hb1
 have hl3:=Mip.kids_le e
 generalize hl:Mip.kids e=l at hK IH HU hl3
 clear hl
 rcases hK with ⟨rfl,rfl⟩ | ⟨g,rfl,hcells⟩
 ·clear hb1 hta hl3
  go_wp2_with fail
  go_loopg [28] 0 (fun gk s28 wr=>s28=.int .i64 0∧wr=w1)
  case atStart=>exact ⟨rfl,rfl⟩
  case round=>
   obtain ⟨rfl,rfl⟩:=hrel
   go_wp2
   go_ret
   exact ⟨HB1.out,Or.inl ⟨HU.out,rfl⟩⟩
 ·have HC:Hid (∀(j:Nat) (q:Mip.E),l[j]?=some q→w1.cell? ⟨g,j,none⟩=some (ev N q)):=hcells
  have HL:Hid (l.length≤3):=hl3
  clear hb1 hta hcells hl3
  go_wp2_with fail
  go_loopg [28] l.length (fun gk s28 wr=>∃j:Nat,j≤l.length∧s28=.int .i64 j∧gk=l.length - j∧Hid (∀(i:Nat) (q:Mip.E),i < j→l[i]?=some q→Mip.unres m q=none)∧Hid (Below w.heap.size w wr)∧Hid (Below w1.heap.size w1 wr))
  case atStart=>exact ⟨0,Nat.zero_le _,rfl,rfl,fun i q hi=>by omega,HB1,Below.refl _ _⟩
  case round=>
   obtain ⟨j,hj,rfl,hg,HP,HW,HW1⟩:=hrel
   have HG:Hid (gk=l.length - j):=hg
   clear hg
   by_cases hlt:j < l.length
   ·obtain ⟨q,hq⟩:∃q,l[j]?=some q:=⟨_,List.getElem?_eq_getElem hlt⟩
    have hcq:=(HW1.out.cell (lt_of_cell (HC.out j q hq))).trans (HC.out j q hq)
    have HQ:Hid (l[j]?=some q):=hq
    have hmem:q∈l:=List.mem_of_getElem? hq
    have hbig:=HL.out
    clear hq
    go_wp2_with fail
    refine (IH.out q hmem _ (HN.out.below HW.out)).mono ?_
    rintro E w2 ⟨hb2,hr⟩
    have HW2:Hid (Below w.heap.size w w2):=below_step HW.out hb2
    have HV2:Hid (Below w1.heap.size w1 w2):=below_step HW1.out hb2
    rcases hr with ⟨hu,rfl⟩ | ⟨p,d,hu,rfl,hd⟩
    ·have HU2:Hid (Mip.unres m q=none):=hu
     clear hb2 hu hcq
     go_wp2
     go_roundg (l.length - (j+1))
     case measure=>have:=HG.out;omega
     case rel=>exact ⟨j+1,hlt,by go_num,rfl,fun i q' hi hq'=>by
      rcases Nat.lt_or_ge i j with h | h
      ·exact HP.out i q' h hq'
      ·have e:i=j:=by omega
       rw [e,HQ.out] at hq'
       rw [←Option.some.inj hq']
       exact HU2.out,HW2,HV2⟩
    ·have HU2:Hid (Mip.unres m q=some p):=hu
     have HD:Hid (Dg a w2 d ((N:Int) - (p:Nat)) 6):=hd
     clear hb2 hu hcq hd
     go_wp2
     go_ret
     exact ⟨HW2.out,Or.inr ⟨p,d,HU.out.trans (Mip.first_some m l j q p HP.out HQ.out HU2.out),rfl,HD.out⟩⟩
   ·have hle:(l.length:Int)≤(j:Int):=by omega
    go_wp2
    go_ret
    refine ⟨HW.out,Or.inl ⟨HU.out.trans (Mip.first_none m l (fun i q hq=>HP.out i q ?_ hq)),rfl⟩⟩
    have:=(List.getElem?_eq_some_iff.1 hq).1
    omega
theorem resolveIn_any (N:Nat) (a:Nat→Addr) (c b n:Nat) (m:Mil.Bytes→Option Int):∀e,Mil.wf (Mip.er e) false→RC N a c b n m e:=
 Mip.tree_ind (fun p x hx _=>resolve_name N a c b n m p x hx) (fun e hw hn hk=>resolve_node N a c b n m e hw hn (fun q hq=>(hk q hq).2))
end
section
open Go.RowKit
def Nml (N:Nat) (w:World) (g o:Nat) (l:List (Mil.Bytes×Nat)):Prop:=∀(j:Nat) (x:Mil.Bytes) (p:Nat),l[j]?=some (x,p)→w.cell? ⟨g,o+j*2,none⟩=some (.int .i64 ((N:Int) - (p:Nat)))∧w.cell? ⟨g,o+j*2+1,none⟩=some (.string (bs x))
theorem Nml.fr {own:Nat→Prop} {N:Nat} {w w':World} {g o:Nat} {l:List (Mil.Bytes×Nat)} (h:Nml N w g o l) (k:Fr own w w') (hg:¬own g):Nml N w' g o l:=fun j x p hj=>⟨k.held (h j x p hj).1 hg,k.held (h j x p hj).2 hg⟩
def Short (l:List (Mil.Bytes×Nat)):Prop:=∀x∈l,x.1.length≤4000∧x.2≤10000
def entAll (N:Nat):(Mil.Bytes→Option Int)→List (Mil.Bytes×Nat)→Option Nat×(Mil.Bytes→Option Int)
 | m,[]=>(none,m)
 | m,x::r=>if (m x.1).isSome then (some x.2,m) else entAll N (upd m x.1 ((N:Int) - (x.2:Nat))) r
theorem entAll_drop (N:Nat) {m:Mil.Bytes→Option Int} {l:List (Mil.Bytes×Nat)} {j:Nat} {x:Mil.Bytes×Nat} (h:l[j]?=some x):entAll N m (l.drop j)=if (m x.1).isSome then (some x.2,m) else entAll N (upd m x.1 ((N:Int) - (x.2:Nat))) (l.drop (j+1)):=by
 obtain ⟨hj,rfl⟩:=List.getElem?_eq_some_iff.1 h
 rw [List.drop_eq_getElem_cons hj];rfl
def EaPost (N:Nat) (a:Nat→Addr) (b n:Nat) (m:Mil.Bytes→Option Int) (l:List (Mil.Bytes×Nat)) (w:World) (E:Ending) (w':World):Prop:=
 Fr (fun i=>i=b) w w'∧(((entAll N m l).1=none∧E=.returned (.pointer none)∧Msi w' b (n+l.length) (entAll N m l).2)∨∃p d,(entAll N m l).1=some p∧E=.returned (.pointer (some ⟨d,0,none⟩))∧Dg a w' d ((N:Int) - (p:Nat)) 5)
theorem enterAll_any (N:Nat) (hN:N≤4000) (a:Nat→Addr) (b n:Nat) (m:Mil.Bytes→Option Int) (l:List (Mil.Bytes×Nat)) (hl:Short l) (hlen:n+l.length≤100000) (g o c:Nat) (w:World) (hE:Ce a w) (hb:23≤b) (hgb:g≠b) (hM:Msi w b n m) (hG:Nml N w g o l) :
  Calls Tryz.prog 55 #[.map (some b),.slice (some ⟨g,o,none⟩) l.length c] w (EaPost N a b n m l w):=by
 have HE:Hid (Ce a w):=hE
 have HM:Hid (Msi w b n m):=hM
 have HG:Hid (Nml N w g o l):=hG
 have HS:Hid (Short l):=hl
 have HN:Hid (N≤4000):=hN
 have HL:Hid (n+l.length≤100000):=hlen
 have HGB:Hid (g≠b):=hgb
 have HHB:Hid (23≤b):=hb
 have hll:l.length≤100000:=by omega
 clear hE hM hG hl hN hlen hgb hb
 go_enter Tryz.func55,Tryz.ntmps55
 go_wp2_with fail
 go_loopg [10] l.length (fun gk s10 wr=>∃(j:Nat) (mj:Mil.Bytes→Option Int),j≤l.length∧s10=.int .i64 j∧gk=l.length - j∧Hid (entAll N m l=entAll N mj (l.drop j))∧Hid (Msi wr b (n+j) mj)∧Hid (Fr (fun i=>i=b) w wr))
 case atStart=>exact ⟨0,m,Nat.zero_le _,rfl,rfl,rfl,HM,Fr.refl _ _⟩
 case round=>
  obtain ⟨j,mj,hj,rfl,hg,HR,HMj,HF⟩:=hrel
  have HK:Hid (gk=l.length - j):=hg
  clear hg
  by_cases hlt:j < l.length
  ·obtain ⟨⟨x,p⟩,hq⟩:∃q,l[j]?=some q:=⟨_,List.getElem?_eq_getElem hlt⟩
   have hc:=HG.out.fr HF.out HGB.out j x p hq
   have hc0:=hc.1
   have hc1:=hc.2
   have hs:=HS.out (x,p) (List.mem_of_getElem? hq)
   have HX:Hid (x.length≤4000∧p≤10000):=hs
   have HQ:Hid (entAll N m l=if (mj x).isSome then (some p,mj) else entAll N (upd mj x ((N:Int) - (p:Nat))) (l.drop (j+1))):=HR.out.trans (entAll_drop N hq)
   clear hq hc hs
   go_wp2_with fail
   have HB:Hid (Below wr.heap.size wr (wr.alloc (.cells #[.int .i64 ((N:Int) - (p:Nat)),.string (bs x)] 103))):=(Below.refl _ _).alloc (Nat.le_refl _) _
   have M1:=HMj.out.fr (Fr.of_below (own:=fun _=>False) HB.out) (fun e=>e)
   have E1:=(HE.out.fr HF.out (fun i e=>by have e':i=b:=e;have:=HHB.out;omega)).below HB.out
   by_cases hm:(mj x).isSome=true
   ·refine (enter_twice a _ E1 b (n+j) mj M1 x HX.out.1 _ _ hm).mono ?_
    rintro E w2 ⟨hb2,d,rfl,hd⟩
    have HD:Hid (Dg a w2 d ((N:Int) - (p:Nat)) 5):=hd
    have HF2:Hid (Fr (fun i=>i=b) w w2):=HF.out.trans (Fr.of_below (own:=fun _=>False) (below_step HB.out hb2)) (fun _ _ e=>e.elim)
    have HP:Hid ((entAll N m l).1=some p):=by rw [HQ.out,if_pos hm];rfl
    clear hb2 hd M1 E1 hm hc0 hc1
    go_wp2
    go_ret
    exact ⟨HF2.out,Or.inr ⟨p,d,HP.out,rfl,HD.out⟩⟩
   ·have hm':(mj x).isSome=false:=by simpa using hm
    refine (enter_new _ b (n+j) mj M1 x HX.out.1 (by have:=HL.out;omega) _ ((N:Int) - (p:Nat)) (by
     have h1:=HX.out.2
     have h2:=HN.out
     have mi:IntKind.i64.min=-9223372036854775808:=by decide
     have ma:IntKind.i64.max=9223372036854775807:=by decide
     simp [Lit.wf]
     omega) hm').mono ?_
    rintro E w2 ⟨rfl,hM2,hF2⟩
    have HM2:Hid (Msi w2 b (n+(j+1)) (upd mj x ((N:Int) - (p:Nat)))):=hM2
    have HF2:Hid (Fr (fun i=>i=b) w w2):=(HF.out.trans (Fr.of_below (own:=fun _=>False) HB.out) (fun _ _ e=>e.elim)).trans hF2 (fun _ _ e=>e)
    have HR2:Hid (entAll N m l=entAll N (upd mj x ((N:Int) - (p:Nat))) (l.drop (j+1))):=by have h:=HQ.out;rw [if_neg hm] at h;exact h
    clear hM2 hF2 M1 E1 hm hm' hc0 hc1
    go_wp2
    go_roundg (l.length - (j+1))
    case measure=>have:=HK.out;omega
    case rel=>exact ⟨j+1,_,hlt,by go_num,rfl,HR2,HM2,HF2⟩
  ·have hle:(l.length:Int)≤(j:Int):=by omega
   have HJ:Hid (j=l.length):=by show _=_;omega
   go_wp2
   go_ret
   have e1:entAll N m l=(none,mj):=by rw [HR.out,HJ.out,List.drop_length];rfl
   refine ⟨HF.out,Or.inl ⟨by rw [e1],rfl,?_⟩⟩
   have h:=HMj.out
   rw [HJ.out] at h
   rw [e1]
   exact h
end
section
open Go.RowKit
structure Flo where
 nm:Mil.Bytes
 ty:Nat
 per:Nat
 inp:Bool
 out:Bool
abbrev floV (f:Flo):Value:=.agg #[.string (bs f.nm),.int .i64 (f.ty:Nat),.int .i64 (f.per:Nat),.bool f.inp,.bool f.out]
def Fls (w:World) (g:Nat) (F:List Flo):Prop:=∀(j:Nat) (f:Flo),F[j]?=some f →
 w.cell? ⟨g,j*5,none⟩=some (.string (bs f.nm))∧w.cell? ⟨g,j*5+1,none⟩=some (.int .i64 (f.ty:Nat))∧w.cell? ⟨g,j*5+2,none⟩=some (.int .i64 (f.per:Nat))∧w.cell? ⟨g,j*5+3,none⟩=some (.bool f.inp)∧w.cell? ⟨g,j*5+4,none⟩=some (.bool f.out)
theorem Fls.fr {own:Nat→Prop} {w w':World} {g:Nat} {F:List Flo} (h:Fls w g F) (k:Fr own w w') (hg:¬own g):Fls w' g F:=fun j f hj=>by
 obtain ⟨h0,h1,h2,h3,h4⟩:=h j f hj
 exact ⟨k.held h0 hg,k.held h1 hg,k.held h2 hg,k.held h3 hg,k.held h4 hg⟩
structure Cw (a:Nat→Addr) (c b n:Nat) (m:Mil.Bytes→Option Int) (g:Nat) (F:List Flo) (w:World):Prop where
 nm:Nm a c b n m w
 c1:∃cap,w.cell? ⟨c,1,none⟩=some (.slice (some ⟨g,0,none⟩) F.length cap)
 fl:Fls w g F
theorem Cw.below {a:Nat→Addr} {c b n:Nat} {m:Mil.Bytes→Option Int} {g:Nat} {F:List Flo} {w w':World} (h:Cw a c b n m g F w) (k:Below w.heap.size w w'):Cw a c b n m g F w':=
 ⟨h.nm.below k,h.c1.imp (fun _ e=>(k.cell (lt_of_cell e)).trans e),h.fl.fr (Fr.of_below (own:=fun _=>False) k) (fun e=>e)⟩
theorem flowOf_any {a:Nat→Addr} {c b n:Nat} {m:Mil.Bytes→Option Int} {g:Nat} {F:List Flo} {w:World} (h:Cw a c b n m g F w) (x:Mil.Bytes) (hx:x.length≤4000) (at_:Int) (k:Nat) (hm:m x=some (k:Int)) (f:Flo) (hf:F[k]?=some f) :
  Calls Tryz.prog 91 #[.pointer (some ⟨c,0,none⟩),nameV at_ x] w fun E w'=>Below w.heap.size w w'∧E=.returned (floV f):=by
 have HB:Hid (Below w.heap.size w ((w.alloc (.cells #[.int .i64 at_,.string (bs x)] 103)).alloc (.cells #[.string ⟨#[]⟩,.int .i64 0,.int .i64 0,.bool false,.bool false] 42))):=below_step ((Below.refl _ _).alloc (Nat.le_refl _) _) ((Below.refl _ _).alloc (Nat.le_refl _) _)
 have h2:=h.below HB.out
 have hl:=h2.nm.mp.drew.at_ x hx
 rw [hm] at hl
 have hl':(Instr.lookup 72 (.map (some b)) (.string (bs x)) false).run Tryz.prog ((w.alloc (.cells #[.int .i64 at_,.string (bs x)] 103)).alloc (.cells #[.string ⟨#[]⟩,.int .i64 0,.int .i64 0,.bool false,.bool false] 42)).drew=.ok (.int .i64 (k:Nat)) ((w.alloc (.cells #[.int .i64 at_,.string (bs x)] 103)).alloc (.cells #[.string ⟨#[]⟩,.int .i64 0,.int .i64 0,.bool false,.bool false] 42)).drew:=hl
 have hc2:=h2.nm.c2
 obtain ⟨cap,hc1⟩:=h2.c1
 obtain ⟨q0,q1,q2,q3,q4⟩:=h2.fl k f hf
 have hk:k < F.length:=(List.getElem?_eq_some_iff.1 hf).1
 have hk1:(k:Int) < (F.length:Int):=by omega
 have hk0:(0:Int)≤(k:Int):=by omega
 clear hl h2 h hf
 go_enter Tryz.func91,Tryz.ntmps91
 go_wp2_with fail
 go_region
 go_wp2
 exact bodyPost_ret (v:=floV f) (by simp [results,Tryz.results91,go_sem]) rfl ⟨(below_step ((Below.refl _ _).alloc (Nat.le_refl _) _) ((Below.refl _ _).alloc (Nat.le_refl _) _)).drew,rfl⟩
theorem slower_any (p k:Nat) (hp:p≤1000000) (hk:k≤1000) (w:World) :
  Calls Tryz.prog 92 #[.int .i64 (p:Nat),.int .i64 (k:Nat)] w fun E w'=>Below w.heap.size w w'∧E=.returned (.int .i64 ((if p*k≤1000000 then p*k else 0:Nat):Int)):=by
 have hm:p*k≤1000000*1000:=Nat.mul_le_mul hp hk
 have e:((p*k:Nat):Int)=(p:Int)*(k:Int):=by simp
 go_enter Tryz.func92,Tryz.ntmps92
 by_cases h:p*k≤1000000
 ·have h1:(p:Int)*(k:Int)≤1000000:=by omega
  have h2:-9223372036854775808≤(p:Int)*(k:Int):=by omega
  go_wp2
  go_ret
  exact ⟨Below.refl _ _,rfl⟩
 ·have h1:1000000 < (p:Int)*(k:Int):=by omega
  have h2:(p:Int)*(k:Int)≤9223372036854775807:=by omega
  go_wp2
  go_ret
  exact ⟨Below.refl _ _,rfl⟩
theorem faster_any (p k:Nat) (hp:p≤1000000) (h2:2≤k) (hk:k≤1000) (w:World) :
  Calls Tryz.prog 93 #[.int .i64 (p:Nat),.int .i64 (k:Nat)] w fun E w'=>Below w.heap.size w w'∧E=.returned (.int .i64 ((if p % k=0 then p / k else 0:Nat):Int)):=by
 have HK:Hid (2≤k∧k≤1000∧p≤1000000):=⟨h2,hk,hp⟩
 have k0:((k:Int)==0)=false:=by simp;omega
 have c1:((p % k:Nat):Int)=(p:Int) % (k:Int):=by simp
 have c2:((p / k:Nat):Int)=(p:Int) / (k:Int):=by simp
 have t1:Int.tmod (p:Int) (k:Int)=(p:Int) % (k:Int):=Int.tmod_eq_emod_of_nonneg (by omega)
 have t2:Int.tdiv (p:Int) (k:Int)=(p:Int) / (k:Int):=Int.tdiv_eq_ediv_of_nonneg (by omega)
 have b1:p % k≤1000000:=Nat.le_trans (Nat.mod_le _ _) hp
 have b2:p / k≤1000000:=Nat.le_trans (Nat.div_le_self _ _) hp
 have w2:wrap64 ((p:Int) / (k:Int))=(p:Int) / (k:Int):=by
  rw [←c2]
  generalize p / k=q at b2
  unfold wrap64
  omega
 go_enter Tryz.func93,Tryz.ntmps93
 by_cases h:p % k=0
 ·have e1:(p:Int) % (k:Int)=0:=by rw [←c1,h];rfl
  clear c1 c2
  go_wp2
  go_ret
  exact ⟨Below.refl _ _,rfl⟩
 ·have e1:((p:Int) % (k:Int)==0)=false:=by
   have:(p:Int) % (k:Int)≠0:=by rw [←c1];omega
   simpa using this
  clear c1 c2
  go_wp2
  go_ret
  exact ⟨Below.refl _ _,rfl⟩
end
section
open Go.RowKit
theorem Nm.fr {own:Nat→Prop} {a:Nat→Addr} {c b n:Nat} {m:Mil.Bytes→Option Int} {w w':World} (h:Nm a c b n m w) (k:Fr own w w') (ho:∀i,own i→23≤i) (hc:¬own c) (hb:¬own b):Nm a c b n m w':=
 ⟨h.ce.fr k ho,k.held h.c2 hc,h.mp.fr k hb⟩
def mark (F:List Flo) (k:Nat):List Flo:=F.modify k fun f=>{ f with out:=true }
def markAll (m:Mil.Bytes→Option Int):List Flo→List (Mil.Bytes×Nat)→Option Nat×List Flo
 | F,[]=>(none,F)
 | F,x::r=>match m x.1 with
  | none=>(some x.2,F)
  | some k=>markAll m (mark F k.toNat) r
theorem markAll_drop (m:Mil.Bytes→Option Int) {F:List Flo} {l:List (Mil.Bytes×Nat)} {j:Nat} {x:Mil.Bytes×Nat} (h:l[j]?=some x):markAll m F (l.drop j)=match m x.1 with | none=>(some x.2,F) | some k=>markAll m (mark F k.toNat) (l.drop (j+1)):=by
 obtain ⟨hj,rfl⟩:=List.getElem?_eq_some_iff.1 h
 rw [List.drop_eq_getElem_cons hj];rfl
theorem mark_len (F:List Flo) (k:Nat):(mark F k).length=F.length:=by simp [mark]
theorem mark_at (F:List Flo) (k:Nat) {j:Nat} {f:Flo} (h:(mark F k)[j]?=some f):∃f0,F[j]?=some f0∧f=if k=j then { f0 with out:=true } else f0:=by
 unfold mark at h
 rw [List.getElem?_modify] at h
 cases hf:F[j]? with
 | none=>rw [hf] at h;simp at h
 | some f0=>
  rw [hf] at h
  refine ⟨f0,rfl,?_⟩
  split at h
  ·rename_i e;rw [if_pos e];simpa using h.symm
  ·rename_i e;rw [if_neg e];simpa using h.symm
theorem Fls.mark {w:World} {g:Nat} {F:List Flo} (h:Fls w g F) (k:Nat):Fls (w.setCell ⟨g,k*5+4,none⟩ (.bool true)) g (mark F k):=fun j f hf=>by
 obtain ⟨f0,h0,rfl⟩:=mark_at F k hf
 obtain ⟨q0,q1,q2,q3,q4⟩:=h j f0 h0
 have oth:∀o v,j*5+o≠k*5+4→w.cell? ⟨g,j*5+o,none⟩=some v→(w.setCell ⟨g,k*5+4,none⟩ (.bool true)).cell? ⟨g,j*5+o,none⟩=some v:=fun o v hne hv=>by
  rw [World.cell?_setCell_other (h:=fun e=>hne (congrArg Addr.off e).symm)];exact hv
 by_cases e:k=j
 ·subst e
  rw [if_pos rfl]
  exact ⟨oth 0 _ (by omega) q0,oth 1 _ (by omega) q1,oth 2 _ (by omega) q2,oth 3 _ (by omega) q3,World.cell?_setCell_same _ _ _ q4⟩
 ·rw [if_neg e]
  exact ⟨oth 0 _ (by omega) q0,oth 1 _ (by omega) q1,oth 2 _ (by omega) q2,oth 3 _ (by omega) q3,oth 4 _ (by omega) q4⟩
def Fit' (m:Mil.Bytes→Option Int) (F:List Flo):Prop:=∀x k,m x=some k→∃i:Nat,k=(i:Int)∧i < F.length
end
end Go.Proofs.YticbokabjhnagaaGreatDoor
