import Derived.Test.YtjehljjlcifndaaGreatDoorX26
import Derived.Test.YtjehljjlcifndaaGreatDoorX18
namespace Go.Proofs.YtjehljjlcifndaaGreatDoor
set_option maxHeartbeats 32000000
set_option maxRecDepth 100000
section
open Go.RowKit
section
variable {P:Program} (w:World)
theorem run_append_none (t ty e:TypeId) (i:TypeInfo) (ht:P.underlying t=some (.slice e)) (hi:P.info? e=some i) (o:Option Addr) (n c:Nat) (h:n<=c):(Builtin.append_ #[t,t] ty #[.slice o n c,.slice none 0 0]).run P w=.ok (.slice o n c) w:=by
 cases o <;> simp[Builtin.append_,run_underlying ht,sizeOf,typeInfo,hi,Builtin.lenOf,h,run_firstCells_none,storeCells]
theorem wpList_append_none {ops:Array Oper} {rest:List Oper} {o:Oper} {a:Act} {Q:Exit->Act->World->Prop} (hgd:o.guard=none) (s x:Operand) (t:TypeId)
  (ho:o.op=.call { callee:=.builtin .append,args:=#[s,x],argTypes:=#[t,t] }) (e:TypeId) (i:TypeInfo) (ht:P.underlying t=some (.slice e)) (hi:P.info? e=some i) (q:Option Addr) (n c:Nat) (hnc:n<=c) (hs:a.eval s=.slice q n c) (hx:a.eval x=.slice none 0 0)
  (h:wpList P ops Q rest (a.put o.dst (.slice q n c)) w):wpList P ops Q (o::rest) a w:=
 wpList_plain hgd fun _ hK=>by
  have hr:=run_append_none (P:=P) w t o.type e i ht hi q n c hnc
  unfold Oper.wp execOp
  simp only[ho,resolve,invoke,builtin,Sem.run_bind,Sem.run_pure,Result.andThen_ok,List.map_toArray,List.map_cons,List.map_nil,hs,hx,hr]
  exact hK _ _ h
end
theorem own_cap {w:World} {base:Nat} {e:TypeId} {size:Nat} {o:Option Addr} {n c:Nat} {xs:List Value} (ho:w.ownsRow base e size (.slice o n c) n xs):n<=c:=by
 rcases ho.2 with ⟨h,h0⟩|⟨g,cap,cur,h,_,_,hc,_⟩
 ·omega
 ·injection h with h1 h2 h3
  omega
abbrev encN (k:Nat):Value:=.int .i64 (k:Nat)
def Ndr (w:World) (B:Nat) (v:Value) (L:List Nat):Prop:=w.ownsRow B 3 1 v L.length (L.map encN)/\(L=[]->v=.slice none 0 0)
theorem Ndr.below {w w':World} {B:Nat} {v:Value} {L:List Nat} (h:Ndr w B v L) (k:Below w.heap.size w w'):Ndr w' B v L:=⟨own_kept h.1 (fun q hq=>k.block q (lt_of_heap (own_lt h.1 q hq).2.choose_spec)),h.2⟩
theorem Ndr.base {w:World} {B B':Nat} {v:Value} {L:List Nat} (h:Ndr w B v L) (k:B'<=B):Ndr w B' v L:=⟨owns_from k h.1,h.2⟩
theorem Ndr.some {w:World} {B:Nat} {v:Value} {L:List Nat} (h:Ndr w B v L) (hL:L≠[]):∃g cap,v=.slice (some ⟨g,0,none⟩) L.length cap/\B<=g/\(∃cur,w.heap[g]?=some (.cells cur 3 (0,0)))/\∀j x,L[j]?=some x->w.cell? ⟨g,j,none⟩=some (encN x):=by
 have ho:=h.1
 rcases h.1.2 with ⟨_,h'⟩|⟨g,cap,cur,e,hb,hg,_⟩
 ·exact absurd (List.length_eq_zero_iff.1 h') hL
 ·rw[e] at ho
  exact⟨g,cap,e,hb,⟨cur,hg⟩,fun j x hx=>own_cell ho (by rw[List.getElem?_map,hx];rfl)⟩
def NdPost (L:List Nat) (w:World) (E:Ending) (w':World):Prop:=Below w.heap.size w w'/\∃v,E=.returned v/\Ndr w' w.heap.size v L
def NC (N:Nat) (a:Nat->Addr) (c b n:Nat) (m:Mil.Bytes->Option Int) (e:Mip.E):Prop:=
 Mip.unres m e=none->∀w,Nm a c b n m w->Calls Tryz.prog 85 #[.pointer (some ⟨c,0,none⟩),ev N e] w (NdPost (Mip.nds m e) w)
theorem needs_name (N:Nat) (a:Nat->Addr) (c b n:Nat) (m:Mil.Bytes->Option Int) (F:List Flo) (hfit:Fit' m F) (p:Nat) (x:Mil.Bytes) (hx:Mil.NameOk x):NC N a c b n m (Mip.eName p x):=by
 intro hu w hN
 have HB:Hid (Below w.heap.size w (w.alloc (.cells #[.int .i64 ((N:Int) - (p:Nat)),.string (bs x)] 119))):=brf.alloc nlr _
 have hta:=ta_name_name (.agg #[.int .i64 ((N:Int) - (p:Nat)),.string (bs x)])
 have hs:(m x).isSome=true:=by
  simp[Mip.unres,Mip.eName] at hu
  exact Option.isSome_iff_ne_none.2 hu
 obtain⟨i,hi⟩:=Option.isSome_iff_exists.1 hs
 obtain⟨i,rfl,_⟩:=hfit x i hi
 have h2:=hN.below HB.out
 have hl:=h2.mp.drew.at_ x (by have:=hx.2.2.1;omega)
 rw[hi] at hl
 have hl':(Instr.lookup 81 (.map (some b)) (.string (bs x)) false).run Tryz.prog (w.alloc (.cells #[.int .i64 ((N:Int) - (p:Nat)),.string (bs x)] 119)).drew=.ok (.int .i64 (i:Nat)) (w.alloc (.cells #[.int .i64 ((N:Int) - (p:Nat)),.string (bs x)] 119)).drew:=hl
 have hc2:=h2.c2
 have HND:Hid (Mip.nds m (Mip.eName p x)=[i]):=by
  show [((m x).getD 0).toNat]=_
  rw[hi];rfl
 clear hN hx hu hs hi h2 hl hfit
 show Calls Tryz.prog 85 #[.pointer (some ⟨c,0,none⟩),.iface 119 (.agg #[.int .i64 ((N:Int) - (p:Nat)),.string (bs x)])] w _
 go_enter Tryz.func85,Tryz.ntmps85
 go_wp2_with fail
 go_region
 go_wp2
 go_ret
 refine⟨below_step HB.out ((brf.alloc nlr _)).drew,_,rfl,?_⟩
 rw[HND.out]
 have e:=han (w.alloc (.cells #[.int .i64 ((N:Int) - (p:Nat)),.string (bs x)] 119)) (.cells #[.int .i64 (i:Nat)] 3)
 rw[World.size_alloc] at e
 exact⟨⟨rfl,.inr ⟨_,1,#[.int .i64 (i:Nat)],rfl,Nat.le_succ _,e,Nat.le_refl _,by decide,rfl,rfl⟩⟩,fun e=>by cases e⟩
theorem needs_fby (N:Nat) (a:Nat->Addr) (c b n:Nat) (m:Mil.Bytes->Option Int) (p:Nat) (x0 x1:Mip.E) (h0:∃T y,ev N x0=.iface T y) (h1:∃T y,ev N x1=.iface T y):NC N a c b n m (Mip.eFby p x0 x1):=by
 intro _ w _
 obtain⟨ta,ya,ea⟩:=h0
 obtain⟨tb,yb,eb⟩:=h1
 have e0:ev N (Mip.eFby p x0 x1)=.iface 203 (.agg #[.int .i64 ((N:Int) - (p:Nat)),.iface ta ya,.iface tb yb]):=by
  show Value.iface 203 (.agg #[.int .i64 ((N:Int) - (p:Nat)),ev N x0,ev N x1])=_
  rw[ea,eb]
 have t1:=ta_fby_name (.agg #[.int .i64 ((N:Int) - (p:Nat)),.iface ta ya,.iface tb yb])
 have t2:=ta_fby_fby (.agg #[.int .i64 ((N:Int) - (p:Nat)),.iface ta ya,.iface tb yb])
 have t3:=ta_fby_hold (.agg #[.int .i64 ((N:Int) - (p:Nat)),.iface ta ya,.iface tb yb])
 clear ea eb
 show Calls Tryz.prog 85 #[.pointer (some ⟨c,0,none⟩),ev N (Mip.eFby p x0 x1)] w _
 rw[e0]
 clear e0
 go_enter Tryz.func85,Tryz.ntmps85
 go_wp2
 go_ret
 exact⟨Below.refl _ _,_,rfl,World.ownsRow_nil _ _ _ _,fun _=>rfl⟩
theorem needs_hold (N:Nat) (a:Nat->Addr) (c b n:Nat) (m:Mil.Bytes->Option Int) (p:Nat) (x0 x1:Mip.E) (k:Nat) (h0:∃T y,ev N x0=.iface T y) (h1:∃T y,ev N x1=.iface T y):NC N a c b n m (Mip.eHold p x0 x1 k):=by
 intro _ w _
 obtain⟨ta,ya,ea⟩:=h0
 obtain⟨tb,yb,eb⟩:=h1
 have e0:ev N (Mip.eHold p x0 x1 k)=.iface 209 (.agg #[.int .i64 ((N:Int) - (p:Nat)),.iface ta ya,.iface tb yb,.int .i64 (k:Nat)]):=by
  show Value.iface 209 (.agg #[.int .i64 ((N:Int) - (p:Nat)),ev N x0,ev N x1,.int .i64 (k:Nat)])=_
  rw[ea,eb]
 have t1:=ta_hold_name (.agg #[.int .i64 ((N:Int) - (p:Nat)),.iface ta ya,.iface tb yb,.int .i64 (k:Nat)])
 have t2:=ta_hold_fby (.agg #[.int .i64 ((N:Int) - (p:Nat)),.iface ta ya,.iface tb yb,.int .i64 (k:Nat)])
 have t3:=ta_hold_hold (.agg #[.int .i64 ((N:Int) - (p:Nat)),.iface ta ya,.iface tb yb,.int .i64 (k:Nat)])
 clear ea eb
 show Calls Tryz.prog 85 #[.pointer (some ⟨c,0,none⟩),ev N (Mip.eHold p x0 x1 k)] w _
 rw[e0]
 clear e0
 go_enter Tryz.func85,Tryz.ntmps85
 go_wp2
 go_ret
 exact⟨Below.refl _ _,_,rfl,World.ownsRow_nil _ _ _ _,fun _=>rfl⟩
def handsOn (e:Mip.E):Prop:=Mip.tg e≠3/\Mip.tg e≠7/\Mip.tg e≠9
theorem plain_node (N:Nat):∀e:Mip.E,Mil.wf (Mip.er e) false->handsOn e->∃T y,ev N e=.iface T y/\(∀w,(Instr.typeAssert (.iface T y) 121 119 true).run Tryz.prog w=.ok (.tuple #[.agg #[.int .i64 0,.string ⟨#[]⟩],.bool false]) w)/\(∀w,(Instr.typeAssert (.iface T y) 121 203 true).run Tryz.prog w=.ok (.tuple #[.agg #[.int .i64 0,.nilIface,.nilIface],.bool false]) w)/\(∀w,(Instr.typeAssert (.iface T y) 121 209 true).run Tryz.prog w=.ok (.tuple #[.agg #[.int .i64 0,.nilIface,.nilIface,.int .i64 0],.bool false]) w):=by
 refine Mip.tree_induct ?_ ?_ ?_ ?_ ?_ ?_ ?_ ?_ ?_ ?_
 ·intro p k _ _;exact⟨_,_,rfl,ta_int_name _,ta_int_fby _,ta_int_hold _⟩
 ·intro p k _ _;exact⟨_,_,rfl,ta_bool_name _,ta_bool_fby _,ta_bool_hold _⟩
 ·intro p x _ h;exact absurd rfl h.1
 ·intro p x a _ _ _;exact⟨_,_,rfl,ta_pre_name _,ta_pre_fby _,ta_pre_hold _⟩
 ·intro p x a b _ _ _ _;exact⟨_,_,rfl,ta_two_name _,ta_two_fby _,ta_two_hold _⟩
 ·intro p y a b d _ _ _ _;exact⟨_,_,rfl,ta_if_name _,ta_if_fby _,ta_if_hold _⟩
 ·intro p a b _ _ h;exact absurd rfl h.2.1
 ·intro p a k _ _ _ _;exact⟨_,_,rfl,ta_under_name _,ta_under_fby _,ta_under_hold _⟩
 ·intro p a b k _ _ _ _ h;exact absurd rfl h.2.2
 ·intro p x a b _ _ _ _;exact⟨_,_,rfl,ta_least_name _,ta_least_fby _,ta_least_hold _⟩
theorem nds_kids (m:Mil.Bytes->Option Int):∀e:Mip.E,Mil.wf (Mip.er e) false->handsOn e->Mip.nds m e=(Mip.kids e).flatMap (Mip.nds m):=by
 refine Mip.tree_induct ?_ ?_ ?_ ?_ ?_ ?_ ?_ ?_ ?_ ?_
 ·intro p k _ _;rfl
 ·intro p k _ _;rfl
 ·intro p x _ h;exact absurd rfl h.1
 ·intro p x a _ _ _;simp[Mip.nds,Mip.kids,Mip.ePre]
 ·intro p x a b _ _ _ _;simp[Mip.nds,Mip.kids,Mip.eTwo]
 ·intro p y a b d _ _ _ _;simp[Mip.nds,Mip.kids]
 ·intro p a b _ _ h;exact absurd rfl h.2.1
 ·intro p a k _ _ _ _;simp[Mip.nds,Mip.kids,Mip.eUnder]
 ·intro p a b k _ _ _ _ h;exact absurd rfl h.2.2
 ·intro p x a b _ _ _ _;simp[Mip.nds,Mip.kids,Mip.eLeast]
theorem needs_node (N:Nat) (a:Nat->Addr) (c b n:Nat) (m:Mil.Bytes->Option Int) (e:Mip.E) (hw:Mil.wf (Mip.er e) false) (ho:handsOn e) (hku:Mip.unres m e=none->∀q∈Mip.kids e,Mip.unres m q=none) (ih:∀q∈Mip.kids e,Mil.wf (Mip.er q) false/\NC N a c b n m q) (hsz:∀q∈Mip.kids e,(Mip.nds m q).length<=100000):NC N a c b n m e:=by
 intro hu w hN
 have HN:Hid (Nm a c b n m w):=hN
 have IH:Hid (∀q∈Mip.kids e,∀w,Nm a c b n m w->Calls Tryz.prog 85 #[.pointer (some ⟨c,0,none⟩),ev N q] w (NdPost (Mip.nds m q) w)):=fun q hq=>(ih q hq).2 (hku hu q hq)
 have HV:Hid (∀q∈Mip.kids e,(∃T y,ev N q=.iface T y)/\(Mip.nds m q).length<=100000):=fun q hq=>⟨ev_iface N q (ih q hq).1,hsz q hq⟩
 have HND:Hid (Mip.nds m e=(Mip.kids e).flatMap (Mip.nds m)):=nds_kids m e hw ho
 obtain⟨T,y,he,t1,t2,t3⟩:=plain_node N e hw ho
 have HO:=operands_any N e hw
 rw[he] at HO
 have HO':Hid (∀w,Calls Tryz.prog 112 #[.iface T y] w (OpPost N e w)):=HO
 obtain⟨i0,hi0,jz0,jz1,jz2⟩:=info_parts Tryz.infoI
 clear hN hu hku ih hw HO ho hsz
 show Calls Tryz.prog 85 #[.pointer (some ⟨c,0,none⟩),ev N e] w _
 rw[he]
 clear he
 go_enter Tryz.func85,Tryz.ntmps85
 go_wp2_with fail
 refine (HO'.out _).mono ?_
 rintro E w1 ⟨hb1,v,rfl,hK⟩
 obtain⟨o,cap,rfl,hK2⟩:=kids_list hK
 have HB1:Hid (Below w.heap.size w w1):=hb1
 have hl3:=Mip.kids_le e
 generalize hl:Mip.kids e=l at hK hK2 IH HV HND hl3
 have HK2:Hid (∀(j:Nat) (q:Mip.E),l[j]?=some q->∃g,o=some ⟨g,0,none⟩/\w1.cell? ⟨g,j,none⟩=some (ev N q)):=hK2
 have HL3:Hid (l.length<=3):=hl3
 clear hl hK hK2 hb1 t1 t2 t3
 go_wp2_with fail
 go_loopg [7,32] l.length (fun gk s7 s32 wr=>∃(j:Nat) (acc:List Nat) (v:Value),s7=v/\j<=l.length/\s32=.int .i64 (j:Nat)/\gk=l.length - j/\Hid (acc=(l.take j).flatMap (Mip.nds m)/\acc.length<=100000*j)/\Hid (Below w1.heap.size w1 wr)/\Hid (Ndr wr w1.heap.size v acc))
 case atStart=>exact⟨0,[],.slice none 0 0,rfl,Nat.zero_le _,rfl,rfl,⟨rfl,Nat.zero_le _⟩,Below.refl _ _,⟨World.ownsRow_nil _ _ _ _,fun _=>rfl⟩⟩
 case round=>
  obtain⟨j,acc,v,hs7,hj,rfl,hg,HA,HW1,HR⟩:=hrel
  have HG:Hid (gk=l.length - j):=hg
  have HWW:Hid (Below w.heap.size w wr):=below_step HB1.out HW1.out
  obtain⟨ov,cv,hv⟩:=own_shape HR.out.1
  have hs7':=hs7.trans hv
  subst hs7'
  have HVV:Hid (v=.slice ov acc.length cv):=hv
  clear hg hs7 hv
  by_cases hlt:j < l.length
  ·have HLT:Hid (j < l.length):=hlt
   obtain⟨q,hq⟩:∃q,l[j]?=some q:=⟨_,List.getElem?_eq_getElem hlt⟩
   obtain⟨gk2,rfl,hcell⟩:=HK2.out j q hq
   have HQ:Hid (l[j]?=some q):=hq
   have hmem:q∈l:=List.mem_of_getElem? hq
   obtain⟨⟨Tq,yq,hev⟩,hlq⟩:=HV.out q hmem
   have HLQ:Hid ((Mip.nds m q).length<=100000):=hlq
   have hcq:=(HW1.out.cell (lt_of_cell hcell)).trans hcell
   rw[hev] at hcq
   have IQ:=IH.out q hmem
   rw[hev] at IQ
   have IQ':Hid (∀w,Nm a c b n m w->Calls Tryz.prog 85 #[.pointer (some ⟨c,0,none⟩),.iface Tq yq] w (NdPost (Mip.nds m q) w)):=IQ
   have h0:(0:Int)<=(j:Int):=by omega
   have h1:(j:Int) < (l.length:Int):=by omega
   clear hq hmem hev IQ hcell hlq
   go_wp2_with fail
   refine (IQ'.out _ (HN.out.below HWW.out)).mono ?_
   rintro E w2 ⟨hb2,v2,rfl,hN2⟩
   have HW2:Hid (Below w1.heap.size w1 w2):=below_step HW1.out hb2
   have HR2:Hid (Ndr w2 w1.heap.size v acc):=HR.out.below hb2
   have HN2:Hid (Ndr w2 wr.heap.size v2 (Mip.nds m q)):=hN2
   have HA2:Hid (acc++Mip.nds m q=(l.take (j+1)).flatMap (Mip.nds m)):=by
    show _=_
    rw[List.take_add_one,HQ.out,List.flatMap_append,<-HA.out.1]
    simp
   clear hb2 hN2 hcq
   generalize Mip.nds m q=L2 at HN2 HA2 HLQ
   by_cases hL2:L2=[]
   ·subst hL2
    obtain rfl:=HN2.out.2 rfl
    have hcap:acc.length<=cv:=own_cap (by have h:=HR2.out.1;rw[HVV.out] at h;exact h)
    go_wp2_with (at_builtin;refine wpList_append_none _ rfl _ _ 70 rfl 3 i0 Tryz.underlying70 hi0 ov acc.length cv hcap rfl rfl ?_)
    go_roundg (l.length - (j+1))
    case measure=>have:=HG.out;have:=HLT.out;omega
    case rel=>exact⟨j+1,acc,v,HVV.out.symm,HLT.out,by go_num,rfl,⟨by have h:=HA2.out;rw[List.append_nil] at h;exact h,by have:=HA.out.2;omega⟩,HW2,HR2⟩
   ·obtain⟨g2,cap2,rfl,hg2,⟨cur2,hcur2⟩,hcs⟩:=HN2.out.some hL2
    have OW:Hid (w2.ownsRow w1.heap.size 3 1 (.slice ov acc.length cv) acc.length (acc.map encN)):=by
     show World.ownsRow _ _ _ _ _ _ _
     rw[<-HVV.out]
     exact HR2.out.1
    have NW:Hid (∀(i:Nat) (u:Value),(L2.map encN)[i]?=some u->w2.cell? ((⟨g2,0,none⟩:Addr).add i)=some u):=fun i u hu=>by
     rw[List.getElem?_map] at hu
     obtain⟨x,hx,rfl⟩:=oms hu
     rw[Addr.add_lit,Nat.zero_add]
     exact hcs i x hx
    have HPOS:Hid (0 < L2.length/\acc.length+L2.length<=400000):=⟨List.length_pos_iff.2 hL2,by have:=HA.out.2;have:=HLQ.out;have:=HL3.out;have:=HLT.out;omega⟩
    clear hcs hL2 hcur2 hg2
    go_wp2_with (at_builtin;refine wpList_append_lies _ rfl _ _ 70 rfl w1.heap.size 3 i0 (.int .i64 0) 1 8 Tryz.underlying70 hi0 jz0 jz1 jz2 rfl (by decide) (.slice ov acc.length cv) acc.length (acc.map encN) rfl OW.out ⟨g2,0,none⟩ L2.length cap2 (L2.map encN) rfl (by simp) NW.out (by intro u hu;obtain⟨x,_,rfl⟩:=List.mem_map.1 hu;rfl) HPOS.out.1 (by unfold maxLen;have:=HPOS.out.2;omega) (by have:=HPOS.out.2;omega) HW2.out.size _ rfl ?_;intro k9 c9 w9 O9 hg9 hat9 hlt9)
    have HR9:Hid (Ndr w9 w1.heap.size (.slice (some ⟨k9,0,none⟩) (acc.length+L2.length) c9) (acc++L2)):=by
     refine⟨?_,fun e=>?_⟩
     ·rw[List.map_append,List.length_append];exact O9
     ·have:=congrArg List.length e
      have h1:=HPOS.out.1
      rw[List.length_append] at this
      simp at this
      rw[this.2] at h1
      simp at h1
    have HW9:Hid (Below w1.heap.size w1 w9):=by
     have hr:=HR2.out.1
     rw[HVV.out] at hr
     exact below_grown HW2.out HW2.out.size hg9 (fun k e=>(own_lt hr k e).1)
    clear O9 hg9 hat9 hlt9
    go_roundg (l.length - (j+1))
    case measure=>have:=HG.out;have:=HLT.out;omega
    case rel=>exact⟨j+1,acc++L2,_,rfl,HLT.out,by go_num,rfl,⟨HA2.out,by have:=HA.out.2;have:=HLQ.out;rw[List.length_append];omega⟩,HW9,HR9⟩
  ·have hle:(l.length:Int)<=(j:Int):=by omega
   have HJ:Hid (j=l.length):=by show _=_;omega
   go_wp2
   go_ret
   refine⟨HWW.out,_,rfl,?_⟩
   have e1:Mip.nds m e=acc:=by rw[HND.out,HA.out.1,HJ.out,List.take_length]
   rw[e1]
   have h:=HR.out.base HB1.out.size
   rw[HVV.out] at h
   exact h
def nodes:Mip.E->Nat
 | .nil=>0
 | .node _ _ _ a b=>1+nodes a+nodes b
theorem nds_len (m:Mil.Bytes->Option Int):∀e:Mip.E,(Mip.nds m e).length<=nodes e
 | .nil=>Nat.zero_le _
 | .node t k x a b=>by
  have h1:=nds_len m a
  have h2:=nds_len m b
  unfold Mip.nds nodes
  split
  ·simp;omega
  ·split
   ·exact Nat.zero_le _
   ·rw[List.length_append];omega
end
end Go.Proofs.YtjehljjlcifndaaGreatDoor
