import Derived.Test.YtjehljjlcifndaaGreatDoorV08
import Derived.Maps.OwnSet
import Derived.StringKeys
import Derived.BigQuiet
import Derived.Deep.LoopGhost
namespace Go.Proofs.YtjehljjlcifndaaGreatDoor
set_option maxHeartbeats 32000000
set_option maxRecDepth 100000
section
open Go.RowKit
def Kids (N:Nat) (w:World) (v:Value) (l:List Mip.E):Prop:=
 (l=[]/\v=.slice none 0 0)\/∃g,v=.slice (some ⟨g,0,none⟩) l.length l.length/\∀j q,l[j]?=some q->w.cell? ⟨g,j,none⟩=some (ev N q)
def OpPost (N:Nat) (e:Mip.E) (w:World) (E:Ending) (w':World):Prop:=Below w.heap.size w w'/\∃v,E=.returned v/\Kids N w' v (Mip.kids e)
theorem operands_all (N:Nat):∀e:Mip.E,Mil.wf (Mip.er e) false->(∃t y,ev N e=.iface t y)/\∀w,Calls Tryz.prog 112 #[ev N e] w (OpPost N e w):=by
 refine Mip.tree_induct ?_ ?_ ?_ ?_ ?_ ?_ ?_ ?_ ?_ ?_
 ·intro p k _
  refine⟨⟨_,_,rfl⟩,fun w=>?_⟩
  have e0:ev N (Mip.eInt p k)=.iface 183 (.agg #[.int .i64 ((N:Int) - (p:Nat)),.int .i64 (k:Nat)]):=by show Value.iface _ (.agg #[.int .i64 ((N:Int) - (p:Nat)),.int .i64 (k:Nat)])=_;rfl
  rw[e0]
  have q0:=ta_int_pre (.agg #[.int .i64 ((N:Int) - (p:Nat)),.int .i64 (k:Nat)])
  have q1:=ta_int_two (.agg #[.int .i64 ((N:Int) - (p:Nat)),.int .i64 (k:Nat)])
  have q2:=ta_int_if (.agg #[.int .i64 ((N:Int) - (p:Nat)),.int .i64 (k:Nat)])
  have q3:=ta_int_fby (.agg #[.int .i64 ((N:Int) - (p:Nat)),.int .i64 (k:Nat)])
  have q4:=ta_int_under (.agg #[.int .i64 ((N:Int) - (p:Nat)),.int .i64 (k:Nat)])
  have q5:=ta_int_hold (.agg #[.int .i64 ((N:Int) - (p:Nat)),.int .i64 (k:Nat)])
  have q6:=ta_int_least (.agg #[.int .i64 ((N:Int) - (p:Nat)),.int .i64 (k:Nat)])
  go_enter Tryz.func112,Tryz.ntmps112
  go_wp2
  go_ret
  exact⟨Below.refl _ _,_,rfl,Or.inl ⟨rfl,rfl⟩⟩
 ·intro p k _
  refine⟨⟨_,_,rfl⟩,fun w=>?_⟩
  have e0:ev N (Mip.eBool p k)=.iface 186 (.agg #[.int .i64 ((N:Int) - (p:Nat)),.bool (k==1)]):=by show Value.iface _ (.agg #[.int .i64 ((N:Int) - (p:Nat)),.bool (k==1)])=_;rfl
  rw[e0]
  have q0:=ta_bool_pre (.agg #[.int .i64 ((N:Int) - (p:Nat)),.bool (k==1)])
  have q1:=ta_bool_two (.agg #[.int .i64 ((N:Int) - (p:Nat)),.bool (k==1)])
  have q2:=ta_bool_if (.agg #[.int .i64 ((N:Int) - (p:Nat)),.bool (k==1)])
  have q3:=ta_bool_fby (.agg #[.int .i64 ((N:Int) - (p:Nat)),.bool (k==1)])
  have q4:=ta_bool_under (.agg #[.int .i64 ((N:Int) - (p:Nat)),.bool (k==1)])
  have q5:=ta_bool_hold (.agg #[.int .i64 ((N:Int) - (p:Nat)),.bool (k==1)])
  have q6:=zdy (.agg #[.int .i64 ((N:Int) - (p:Nat)),.bool (k==1)])
  go_enter Tryz.func112,Tryz.ntmps112
  go_wp2
  go_ret
  exact⟨Below.refl _ _,_,rfl,Or.inl ⟨rfl,rfl⟩⟩
 ·intro p x _
  refine⟨⟨_,_,rfl⟩,fun w=>?_⟩
  have e0:ev N (Mip.eName p x)=.iface 119 (.agg #[.int .i64 ((N:Int) - (p:Nat)),.string (bs x)]):=by show Value.iface _ (.agg #[.int .i64 ((N:Int) - (p:Nat)),.string (bs x)])=_;rfl
  rw[e0]
  have q0:=ta_name_pre (.agg #[.int .i64 ((N:Int) - (p:Nat)),.string (bs x)])
  have q1:=ta_name_two (.agg #[.int .i64 ((N:Int) - (p:Nat)),.string (bs x)])
  have q2:=ta_name_if (.agg #[.int .i64 ((N:Int) - (p:Nat)),.string (bs x)])
  have q3:=ta_name_fby (.agg #[.int .i64 ((N:Int) - (p:Nat)),.string (bs x)])
  have q4:=zdu (.agg #[.int .i64 ((N:Int) - (p:Nat)),.string (bs x)])
  have q5:=ta_name_hold (.agg #[.int .i64 ((N:Int) - (p:Nat)),.string (bs x)])
  have q6:=zdv (.agg #[.int .i64 ((N:Int) - (p:Nat)),.string (bs x)])
  go_enter Tryz.func112,Tryz.ntmps112
  go_wp2
  go_ret
  exact⟨Below.refl _ _,_,rfl,Or.inl ⟨rfl,rfl⟩⟩
 ·intro p x a _ ha
  refine⟨⟨_,_,rfl⟩,fun w=>?_⟩
  obtain⟨⟨ta,ya,ea⟩,_⟩:=ha
  have e0:ev N (Mip.ePre p x a)=.iface 190 (.agg #[.int .i64 ((N:Int) - (p:Nat)),.string (bs x),.iface ta ya]):=by show Value.iface _ (.agg #[.int .i64 ((N:Int) - (p:Nat)),.string (bs x),ev N a])=_;rw[ea]
  rw[e0]
  have q0:=ta_pre_pre (.agg #[.int .i64 ((N:Int) - (p:Nat)),.string (bs x),.iface ta ya])
  have HB:Hid (Below w.heap.size w ((w.alloc (.cells #[.int .i64 ((N:Int) - (p:Nat)),.string (bs x),.iface ta ya] 190)).alloc (.cells #[.iface ta ya] 121))):=(zaa ((Below.refl w.heap.size w).alloc nlr _) (brf.alloc nlr _))
  have HC:Hid (∀j u,(#[.iface ta ya]:Array Value)[j]?=some u->(((w.alloc (.cells #[.int .i64 ((N:Int) - (p:Nat)),.string (bs x),.iface ta ya] 190)).alloc (.cells #[.iface ta ya] 121))).cell? ⟨w.heap.size+1,j,none⟩=some u):=fun j u hu=>by
   have hr:=han (w.alloc (.cells #[.int .i64 ((N:Int) - (p:Nat)),.string (bs x),.iface ta ya] 190)) (.cells #[.iface ta ya] 121)
   have hz:(w.alloc (.cells #[.int .i64 ((N:Int) - (p:Nat)),.string (bs x),.iface ta ya] 190)).heap.size=w.heap.size+1:=by simp
   rw[hz] at hr
   rw[cor _ _ j _ _ _ hr];exact hu
  go_enter Tryz.func112,Tryz.ntmps112
  go_wp2
  go_ret
  refine⟨HB.out,_,rfl,Or.inr ⟨w.heap.size+1,by simp[Mip.kids,Mip.ePre],fun j q hq=>?_⟩⟩
  refine HC.out j _ ?_
  match j,hq with
  | 0,hq=>
   have e:q=a:=(by simpa [Mip.kids,Mip.ePre] using hq.symm)
   subst e
   rw[ea];rfl
  | j+1,hq=>simp[Mip.kids,Mip.ePre] at hq
 ·intro p x a b _ ha hb
  refine⟨⟨_,_,rfl⟩,fun w=>?_⟩
  obtain⟨⟨ta,ya,ea⟩,_⟩:=ha
  obtain⟨⟨tb,yb,eb⟩,_⟩:=hb
  have e0:ev N (Mip.eTwo p x a b)=.iface 193 (.agg #[.int .i64 ((N:Int) - (p:Nat)),.string (bs x),.iface ta ya,.iface tb yb]):=by show Value.iface _ (.agg #[.int .i64 ((N:Int) - (p:Nat)),.string (bs x),ev N a,ev N b])=_;rw[ea,eb]
  rw[e0]
  have q0:=ta_two_pre (.agg #[.int .i64 ((N:Int) - (p:Nat)),.string (bs x),.iface ta ya,.iface tb yb])
  have q1:=ta_two_two (.agg #[.int .i64 ((N:Int) - (p:Nat)),.string (bs x),.iface ta ya,.iface tb yb])
  have HB:Hid (Below w.heap.size w ((w.alloc (.cells #[.int .i64 ((N:Int) - (p:Nat)),.string (bs x),.iface ta ya,.iface tb yb] 193)).alloc (.cells #[.iface ta ya,.iface tb yb] 121))):=(zaa ((Below.refl w.heap.size w).alloc nlr _) (brf.alloc nlr _))
  have HC:Hid (∀j u,(#[.iface ta ya,.iface tb yb]:Array Value)[j]?=some u->(((w.alloc (.cells #[.int .i64 ((N:Int) - (p:Nat)),.string (bs x),.iface ta ya,.iface tb yb] 193)).alloc (.cells #[.iface ta ya,.iface tb yb] 121))).cell? ⟨w.heap.size+1,j,none⟩=some u):=fun j u hu=>by
   have hr:=han (w.alloc (.cells #[.int .i64 ((N:Int) - (p:Nat)),.string (bs x),.iface ta ya,.iface tb yb] 193)) (.cells #[.iface ta ya,.iface tb yb] 121)
   have hz:(w.alloc (.cells #[.int .i64 ((N:Int) - (p:Nat)),.string (bs x),.iface ta ya,.iface tb yb] 193)).heap.size=w.heap.size+1:=by simp
   rw[hz] at hr
   rw[cor _ _ j _ _ _ hr];exact hu
  go_enter Tryz.func112,Tryz.ntmps112
  go_wp2
  go_ret
  refine⟨HB.out,_,rfl,Or.inr ⟨w.heap.size+1,by simp[Mip.kids,Mip.eTwo],fun j q hq=>?_⟩⟩
  refine HC.out j _ ?_
  match j,hq with
  | 0,hq=>
   have e:q=a:=(by simpa [Mip.kids,Mip.eTwo] using hq.symm)
   subst e
   rw[ea];rfl
  | 1,hq=>
   have e:q=b:=(by simpa [Mip.kids,Mip.eTwo] using hq.symm)
   subst e
   rw[eb];rfl
  | j+2,hq=>simp[Mip.kids,Mip.eTwo] at hq
 ·intro p y a b c ha hb hc
  refine⟨⟨_,_,rfl⟩,fun w=>?_⟩
  obtain⟨⟨ta,ya,ea⟩,_⟩:=ha
  obtain⟨⟨tb,yb,eb⟩,_⟩:=hb
  obtain⟨⟨tc,yc,ec⟩,_⟩:=hc
  have e0:ev N (.node 6 0 ([],p) a (.node 0 0 ([],y) b c))=.iface 200 (.agg #[.int .i64 ((N:Int) - (p:Nat)),.iface ta ya,.iface tb yb,.iface tc yc]):=by show Value.iface _ (.agg #[.int .i64 ((N:Int) - (p:Nat)),ev N a,ev N b,ev N c])=_;rw[ea,eb,ec]
  rw[e0]
  have q0:=ta_if_pre (.agg #[.int .i64 ((N:Int) - (p:Nat)),.iface ta ya,.iface tb yb,.iface tc yc])
  have q1:=ta_if_two (.agg #[.int .i64 ((N:Int) - (p:Nat)),.iface ta ya,.iface tb yb,.iface tc yc])
  have q2:=ta_if_if (.agg #[.int .i64 ((N:Int) - (p:Nat)),.iface ta ya,.iface tb yb,.iface tc yc])
  have HB:Hid (Below w.heap.size w ((w.alloc (.cells #[.int .i64 ((N:Int) - (p:Nat)),.iface ta ya,.iface tb yb,.iface tc yc] 200)).alloc (.cells #[.iface ta ya,.iface tb yb,.iface tc yc] 121))):=(zaa ((Below.refl w.heap.size w).alloc nlr _) (brf.alloc nlr _))
  have HC:Hid (∀j u,(#[.iface ta ya,.iface tb yb,.iface tc yc]:Array Value)[j]?=some u->(((w.alloc (.cells #[.int .i64 ((N:Int) - (p:Nat)),.iface ta ya,.iface tb yb,.iface tc yc] 200)).alloc (.cells #[.iface ta ya,.iface tb yb,.iface tc yc] 121))).cell? ⟨w.heap.size+1,j,none⟩=some u):=fun j u hu=>by
   have hr:=han (w.alloc (.cells #[.int .i64 ((N:Int) - (p:Nat)),.iface ta ya,.iface tb yb,.iface tc yc] 200)) (.cells #[.iface ta ya,.iface tb yb,.iface tc yc] 121)
   have hz:(w.alloc (.cells #[.int .i64 ((N:Int) - (p:Nat)),.iface ta ya,.iface tb yb,.iface tc yc] 200)).heap.size=w.heap.size+1:=by simp
   rw[hz] at hr
   rw[cor _ _ j _ _ _ hr];exact hu
  go_enter Tryz.func112,Tryz.ntmps112
  go_wp2
  go_ret
  refine⟨HB.out,_,rfl,Or.inr ⟨w.heap.size+1,by simp[Mip.kids],fun j q hq=>?_⟩⟩
  refine HC.out j _ ?_
  match j,hq with
  | 0,hq=>
   have e:q=a:=(by simpa [Mip.kids] using hq.symm)
   subst e
   rw[ea];rfl
  | 1,hq=>
   have e:q=b:=(by simpa [Mip.kids] using hq.symm)
   subst e
   rw[eb];rfl
  | 2,hq=>
   have e:q=c:=(by simpa [Mip.kids] using hq.symm)
   subst e
   rw[ec];rfl
  | j+3,hq=>simp[Mip.kids] at hq
 ·intro p a b ha hb
  refine⟨⟨_,_,rfl⟩,fun w=>?_⟩
  obtain⟨⟨ta,ya,ea⟩,_⟩:=ha
  obtain⟨⟨tb,yb,eb⟩,_⟩:=hb
  have e0:ev N (Mip.eFby p a b)=.iface 203 (.agg #[.int .i64 ((N:Int) - (p:Nat)),.iface ta ya,.iface tb yb]):=by show Value.iface _ (.agg #[.int .i64 ((N:Int) - (p:Nat)),ev N a,ev N b])=_;rw[ea,eb]
  rw[e0]
  have q0:=ta_fby_pre (.agg #[.int .i64 ((N:Int) - (p:Nat)),.iface ta ya,.iface tb yb])
  have q1:=ta_fby_two (.agg #[.int .i64 ((N:Int) - (p:Nat)),.iface ta ya,.iface tb yb])
  have q2:=ta_fby_if (.agg #[.int .i64 ((N:Int) - (p:Nat)),.iface ta ya,.iface tb yb])
  have q3:=zc1 (.agg #[.int .i64 ((N:Int) - (p:Nat)),.iface ta ya,.iface tb yb])
  have HB:Hid (Below w.heap.size w ((w.alloc (.cells #[.int .i64 ((N:Int) - (p:Nat)),.iface ta ya,.iface tb yb] 203)).alloc (.cells #[.iface ta ya,.iface tb yb] 121))):=(zaa ((Below.refl w.heap.size w).alloc nlr _) (brf.alloc nlr _))
  have HC:Hid (∀j u,(#[.iface ta ya,.iface tb yb]:Array Value)[j]?=some u->(((w.alloc (.cells #[.int .i64 ((N:Int) - (p:Nat)),.iface ta ya,.iface tb yb] 203)).alloc (.cells #[.iface ta ya,.iface tb yb] 121))).cell? ⟨w.heap.size+1,j,none⟩=some u):=fun j u hu=>by
   have hr:=han (w.alloc (.cells #[.int .i64 ((N:Int) - (p:Nat)),.iface ta ya,.iface tb yb] 203)) (.cells #[.iface ta ya,.iface tb yb] 121)
   have hz:(w.alloc (.cells #[.int .i64 ((N:Int) - (p:Nat)),.iface ta ya,.iface tb yb] 203)).heap.size=w.heap.size+1:=by simp
   rw[hz] at hr
   rw[cor _ _ j _ _ _ hr];exact hu
  go_enter Tryz.func112,Tryz.ntmps112
  go_wp2
  go_ret
  refine⟨HB.out,_,rfl,Or.inr ⟨w.heap.size+1,by simp[Mip.kids,Mip.eFby],fun j q hq=>?_⟩⟩
  refine HC.out j _ ?_
  match j,hq with
  | 0,hq=>
   have e:q=a:=(by simpa [Mip.kids,Mip.eFby] using hq.symm)
   subst e
   rw[ea];rfl
  | 1,hq=>
   have e:q=b:=(by simpa [Mip.kids,Mip.eFby] using hq.symm)
   subst e
   rw[eb];rfl
  | j+2,hq=>simp[Mip.kids,Mip.eFby] at hq
 ·intro p a k _ _ ha
  refine⟨⟨_,_,rfl⟩,fun w=>?_⟩
  obtain⟨⟨ta,ya,ea⟩,_⟩:=ha
  have e0:ev N (Mip.eUnder p a k)=.iface 206 (.agg #[.int .i64 ((N:Int) - (p:Nat)),.iface ta ya,.int .i64 (k:Nat)]):=by show Value.iface _ (.agg #[.int .i64 ((N:Int) - (p:Nat)),ev N a,.int .i64 (k:Nat)])=_;rw[ea]
  rw[e0]
  have q0:=zcp (.agg #[.int .i64 ((N:Int) - (p:Nat)),.iface ta ya,.int .i64 (k:Nat)])
  have q1:=zco (.agg #[.int .i64 ((N:Int) - (p:Nat)),.iface ta ya,.int .i64 (k:Nat)])
  have q2:=zdi (.agg #[.int .i64 ((N:Int) - (p:Nat)),.iface ta ya,.int .i64 (k:Nat)])
  have q3:=ta_under_fby (.agg #[.int .i64 ((N:Int) - (p:Nat)),.iface ta ya,.int .i64 (k:Nat)])
  have q4:=zbt (.agg #[.int .i64 ((N:Int) - (p:Nat)),.iface ta ya,.int .i64 (k:Nat)])
  have HB:Hid (Below w.heap.size w ((w.alloc (.cells #[.int .i64 ((N:Int) - (p:Nat)),.iface ta ya,.int .i64 (k:Nat)] 206)).alloc (.cells #[.iface ta ya] 121))):=(zaa ((Below.refl w.heap.size w).alloc nlr _) (brf.alloc nlr _))
  have HC:Hid (∀j u,(#[.iface ta ya]:Array Value)[j]?=some u->(((w.alloc (.cells #[.int .i64 ((N:Int) - (p:Nat)),.iface ta ya,.int .i64 (k:Nat)] 206)).alloc (.cells #[.iface ta ya] 121))).cell? ⟨w.heap.size+1,j,none⟩=some u):=fun j u hu=>by
   have hr:=han (w.alloc (.cells #[.int .i64 ((N:Int) - (p:Nat)),.iface ta ya,.int .i64 (k:Nat)] 206)) (.cells #[.iface ta ya] 121)
   have hz:(w.alloc (.cells #[.int .i64 ((N:Int) - (p:Nat)),.iface ta ya,.int .i64 (k:Nat)] 206)).heap.size=w.heap.size+1:=by simp
   rw[hz] at hr
   rw[cor _ _ j _ _ _ hr];exact hu
  go_enter Tryz.func112,Tryz.ntmps112
  go_wp2
  go_ret
  refine⟨HB.out,_,rfl,Or.inr ⟨w.heap.size+1,by simp[Mip.kids,Mip.eUnder],fun j q hq=>?_⟩⟩
  refine HC.out j _ ?_
  match j,hq with
  | 0,hq=>
   have e:q=a:=(by simpa [Mip.kids,Mip.eUnder] using hq.symm)
   subst e
   rw[ea];rfl
  | j+1,hq=>simp[Mip.kids,Mip.eUnder] at hq
 ·intro p a b k _ _ ha hb
  refine⟨⟨_,_,rfl⟩,fun w=>?_⟩
  obtain⟨⟨ta,ya,ea⟩,_⟩:=ha
  obtain⟨⟨tb,yb,eb⟩,_⟩:=hb
  have e0:ev N (Mip.eHold p a b k)=.iface 209 (.agg #[.int .i64 ((N:Int) - (p:Nat)),.iface ta ya,.iface tb yb,.int .i64 (k:Nat)]):=by show Value.iface _ (.agg #[.int .i64 ((N:Int) - (p:Nat)),ev N a,ev N b,.int .i64 (k:Nat)])=_;rw[ea,eb]
  rw[e0]
  have q0:=zdk (.agg #[.int .i64 ((N:Int) - (p:Nat)),.iface ta ya,.iface tb yb,.int .i64 (k:Nat)])
  have q1:=zdj (.agg #[.int .i64 ((N:Int) - (p:Nat)),.iface ta ya,.iface tb yb,.int .i64 (k:Nat)])
  have q2:=ta_hold_if (.agg #[.int .i64 ((N:Int) - (p:Nat)),.iface ta ya,.iface tb yb,.int .i64 (k:Nat)])
  have q3:=zch (.agg #[.int .i64 ((N:Int) - (p:Nat)),.iface ta ya,.iface tb yb,.int .i64 (k:Nat)])
  have q4:=zbz (.agg #[.int .i64 ((N:Int) - (p:Nat)),.iface ta ya,.iface tb yb,.int .i64 (k:Nat)])
  have q5:=zbx (.agg #[.int .i64 ((N:Int) - (p:Nat)),.iface ta ya,.iface tb yb,.int .i64 (k:Nat)])
  have HB:Hid (Below w.heap.size w ((w.alloc (.cells #[.int .i64 ((N:Int) - (p:Nat)),.iface ta ya,.iface tb yb,.int .i64 (k:Nat)] 209)).alloc (.cells #[.iface ta ya,.iface tb yb] 121))):=(zaa ((Below.refl w.heap.size w).alloc nlr _) (brf.alloc nlr _))
  have HC:Hid (∀j u,(#[.iface ta ya,.iface tb yb]:Array Value)[j]?=some u->(((w.alloc (.cells #[.int .i64 ((N:Int) - (p:Nat)),.iface ta ya,.iface tb yb,.int .i64 (k:Nat)] 209)).alloc (.cells #[.iface ta ya,.iface tb yb] 121))).cell? ⟨w.heap.size+1,j,none⟩=some u):=fun j u hu=>by
   have hr:=han (w.alloc (.cells #[.int .i64 ((N:Int) - (p:Nat)),.iface ta ya,.iface tb yb,.int .i64 (k:Nat)] 209)) (.cells #[.iface ta ya,.iface tb yb] 121)
   have hz:(w.alloc (.cells #[.int .i64 ((N:Int) - (p:Nat)),.iface ta ya,.iface tb yb,.int .i64 (k:Nat)] 209)).heap.size=w.heap.size+1:=by simp
   rw[hz] at hr
   rw[cor _ _ j _ _ _ hr];exact hu
  go_enter Tryz.func112,Tryz.ntmps112
  go_wp2
  go_ret
  refine⟨HB.out,_,rfl,Or.inr ⟨w.heap.size+1,by simp[Mip.kids,Mip.eHold],fun j q hq=>?_⟩⟩
  refine HC.out j _ ?_
  match j,hq with
  | 0,hq=>
   have e:q=a:=(by simpa [Mip.kids,Mip.eHold] using hq.symm)
   subst e
   rw[ea];rfl
  | 1,hq=>
   have e:q=b:=(by simpa [Mip.kids,Mip.eHold] using hq.symm)
   subst e
   rw[eb];rfl
  | j+2,hq=>simp[Mip.kids,Mip.eHold] at hq
 ·intro p x a b _ ha hb
  refine⟨⟨_,_,rfl⟩,fun w=>?_⟩
  obtain⟨⟨ta,ya,ea⟩,_⟩:=ha
  obtain⟨⟨tb,yb,eb⟩,_⟩:=hb
  have e0:ev N (Mip.eLeast p x a b)=.iface 198 (.agg #[.int .i64 ((N:Int) - (p:Nat)),.string (bs x),.iface ta ya,.iface tb yb]):=by show Value.iface _ (.agg #[.int .i64 ((N:Int) - (p:Nat)),.string (bs x),ev N a,ev N b])=_;rw[ea,eb]
  rw[e0]
  have q0:=zcr (.agg #[.int .i64 ((N:Int) - (p:Nat)),.string (bs x),.iface ta ya,.iface tb yb])
  have q1:=zcq (.agg #[.int .i64 ((N:Int) - (p:Nat)),.string (bs x),.iface ta ya,.iface tb yb])
  have q2:=ta_least_if (.agg #[.int .i64 ((N:Int) - (p:Nat)),.string (bs x),.iface ta ya,.iface tb yb])
  have q3:=ta_least_fby (.agg #[.int .i64 ((N:Int) - (p:Nat)),.string (bs x),.iface ta ya,.iface tb yb])
  have q4:=ta_least_under (.agg #[.int .i64 ((N:Int) - (p:Nat)),.string (bs x),.iface ta ya,.iface tb yb])
  have q5:=ta_least_hold (.agg #[.int .i64 ((N:Int) - (p:Nat)),.string (bs x),.iface ta ya,.iface tb yb])
  have q6:=zb8 (.agg #[.int .i64 ((N:Int) - (p:Nat)),.string (bs x),.iface ta ya,.iface tb yb])
  have HB:Hid (Below w.heap.size w ((w.alloc (.cells #[.int .i64 ((N:Int) - (p:Nat)),.string (bs x),.iface ta ya,.iface tb yb] 198)).alloc (.cells #[.iface ta ya,.iface tb yb] 121))):=(zaa ((Below.refl w.heap.size w).alloc nlr _) (brf.alloc nlr _))
  have HC:Hid (∀j u,(#[.iface ta ya,.iface tb yb]:Array Value)[j]?=some u->(((w.alloc (.cells #[.int .i64 ((N:Int) - (p:Nat)),.string (bs x),.iface ta ya,.iface tb yb] 198)).alloc (.cells #[.iface ta ya,.iface tb yb] 121))).cell? ⟨w.heap.size+1,j,none⟩=some u):=fun j u hu=>by
   have hr:=han (w.alloc (.cells #[.int .i64 ((N:Int) - (p:Nat)),.string (bs x),.iface ta ya,.iface tb yb] 198)) (.cells #[.iface ta ya,.iface tb yb] 121)
   have hz:(w.alloc (.cells #[.int .i64 ((N:Int) - (p:Nat)),.string (bs x),.iface ta ya,.iface tb yb] 198)).heap.size=w.heap.size+1:=by simp
   rw[hz] at hr
   rw[cor _ _ j _ _ _ hr];exact hu
  go_enter Tryz.func112,Tryz.ntmps112
  go_wp2
  go_ret
  refine⟨HB.out,_,rfl,Or.inr ⟨w.heap.size+1,by simp[Mip.kids,Mip.eLeast],fun j q hq=>?_⟩⟩
  refine HC.out j _ ?_
  match j,hq with
  | 0,hq=>
   have e:q=a:=(by simpa [Mip.kids,Mip.eLeast] using hq.symm)
   subst e
   rw[ea];rfl
  | 1,hq=>
   have e:q=b:=(by simpa [Mip.kids,Mip.eLeast] using hq.symm)
   subst e
   rw[eb];rfl
  | j+2,hq=>simp[Mip.kids,Mip.eLeast] at hq
theorem zby (N:Nat) (e:Mip.E) (h:Mil.wf (Mip.er e) false) (w:World):Calls Tryz.prog 112 #[ev N e] w (OpPost N e w):=(operands_all N e h).2 w
theorem zaz (N:Nat) (e:Mip.E) (h:Mil.wf (Mip.er e) false):∃t y,ev N e=.iface t y:=(operands_all N e h).1
end
section
open Go.RowKit Go.Maps
variable {m:Mbo} {b n:Nat} {a:Nat->Addr} {own:Nat->Prop} {w w':World}
structure Fr (own:Nat->Prop) (w w':World):Prop where
 os:w'.os=w.os
 tape:w'.tape=w.tape
 output:w'.output=w.output
 size:w.heap.size<=w'.heap.size
 block:∀k,k < w.heap.size->¬own k->w'.heap[k]?=w.heap[k]?
theorem Fr.refl (own:Nat->Prop) (w:World):Fr own w w:=⟨rfl,rfl,rfl,Nat.le_refl _,fun _ _ _=>rfl⟩
theorem Fr.of_below (h:Below w.heap.size w w'):Fr own w w':=⟨h.os,h.tape,h.output,h.size,fun k h1 _=>h.block k h1⟩
theorem Fr.trans {own':Nat->Prop} {u v:World} (h:Fr own u v) (k:Fr own' v w) (ho:∀i,i < u.heap.size->own' i->own i):Fr own u w:=
 ⟨k.os.trans h.os,k.tape.trans h.tape,k.output.trans h.output,Nat.le_trans h.size k.size,fun i h1 h2=>(k.block i (Nat.lt_of_lt_of_le h1 h.size) (fun e=>h2 (ho i h1 e))).trans (h.block i h1 h2)⟩
theorem Fr.held (h:Fr own w w') {p:Addr} {v:Value} (hv:w.cell? p=some v) (hb:¬own p.block):w'.cell? p=some v:=
 (World.cell?_of_block (w:=w) (h.block p.block (zab hv) hb)).trans hv
theorem Fr.grown (h:w.grownBy w' (some b)):Fr (fun i=>i=b) w w':=
 ⟨h.os,h.tape,h.output,h.size,fun k h1 h2=>h.block k h1 (fun e=>h2 (osi e))⟩
abbrev upd (m:Mbo) (x:Mil.Bytes) (k:Int):Mbo:=fun y=>if y=x then some k else m y
def pickD (o:Option Int) (z:DataW Unit):DataW Unit:=match o with|some k=>.lit (.int .i64 k)|none=>z
def Msi (w:World) (b n:Nat) (m:Mbo):Prop:=
 ∃D:DataW Unit,w.ownsMap Tryz.prog 9 (plainElem Tryz.prog 3) b n D/\∀x:Mil.Bytes,Maps.has D (.string x)=(m x).isSome/\∀z,D.atKey (.string x) z=pickD (m x) z
theorem zeroI (w:World):(zeroValue 3).run Tryz.prog w=.ok (.int .i64 0) w:=by kernel_rfl
theorem keyS (x:Mil.Bytes) (hx:x.length<=4000):keyOf Tryz.prog 9 (.string (bs x))=some (.string x):=by
 have h:=WideMaps.keyOf_string_mk (P:=Tryz.prog) (s:=bs x) Tryz.underlying9 (by rw[bs_size];unfold maxLen;omega)
 simpa [bs] using h
theorem Msi.got {D:DataW Unit} {x:Mil.Bytes} (h:∀z,D.atKey (.string x) z=pickD (m x) z) {c:Int} (hc:D.atKey (.string x) (.lit (.int .i64 0))=.lit (.int .i64 c)):c=(m x).getD 0:=by
 rw[h] at hc
 cases hm:m x with
 | none=>
  rw[hm] at hc
  have hc':(DataW.lit (.int .i64 0):DataW Unit)=.lit (.int .i64 c):=hc
  simpa using hc'.symm
 | some k=>
  rw[hm] at hc
  have hc':(DataW.lit (.int .i64 k):DataW Unit)=.lit (.int .i64 c):=hc
  simpa using hc'.symm
theorem Msi.look (h:Msi w b n m) (x:Mil.Bytes) (hx:x.length<=4000) :
  (Instr.lookup 81 (.map (some b)) (.string (bs x)) true).run Tryz.prog w=.ok (.tuple #[.int .i64 ((m x).getD 0),.bool (m x).isSome]) w:=by
 obtain⟨D,ho,hD⟩:=h
 obtain⟨v,ps,hrun,hv⟩:=ho.look_ok (string_keyed Tryz.underlying9) Tryz.underlying81 (zeroI w) (plainElem_int Tryz.underlying3 (by decide)) (keyS x hx)
 obtain⟨c,rfl,hc,_⟩:=plainElem_int_inv Tryz.underlying3 hv
 rw[hrun,(hD x).1,Msi.got (hD x).2 (congrArg Prod.fst hc)]
theorem Msi.at_ (h:Msi w b n m) (x:Mil.Bytes) (hx:x.length<=4000) :
  (Instr.lookup 81 (.map (some b)) (.string (bs x)) false).run Tryz.prog w=.ok (.int .i64 ((m x).getD 0)) w:=by
 obtain⟨D,ho,hD⟩:=h
 obtain⟨c,hrun,hc,_⟩:=ho.lookup_int (string_keyed Tryz.underlying9) Tryz.underlying81 Tryz.underlying3 (zeroI w) (keyS x hx)
 rw[hrun,Msi.got (hD x).2 hc]
theorem Msi.store (h:Msi w b n m) (x:Mil.Bytes) (hx:x.length<=4000) (hn:n<=1000000) (k:Int) (hk:(Lit.int .i64 k).wf=true) :
  ∃w',(Instr.mapUpdate 81 (.map (some b)) (.string (bs x)) (.int .i64 k)).run Tryz.prog w=.ok () w'/\Msi w' b (n+1) (upd m x k)/\Fr (fun i=>i=b) w w':=by
 obtain⟨D,ho,hD⟩:=h
 obtain⟨w',hrun,ho',hg⟩:=ho.update (string_keyed Tryz.underlying9) Tryz.underlying81 (by unfold maxLen;omega) (keyS x hx) (plainElem_int (H:=Unit) Tryz.underlying3 hk)
 refine⟨w',hrun,⟨_,ho',fun y=>?_⟩,Fr.grown hg⟩
 by_cases e:y=x
 ·subst e
  have e1:upd m y k y=some k:=if_pos rfl
  rw[e1]
  have kk:WideAt.IsKeyLit (.string y):=trivial
  exact⟨has_put_same ho.isMap kk _,fun z=>atKey_put_same ho.isMap kk _ z⟩
 ·have e1:upd m x k y=m y:=if_neg e
  have ne:(Lit.string y)≠.string x:=fun h=>e (by injection h)
  rw[e1,has_put_other ne]
  exact⟨(hD y).1,fun z=>(atKey_put_other ne _ z).trans ((hD y).2 z)⟩
theorem Msi.fr (h:Msi w b n m) (k:Fr own w w') (hb:¬own b):Msi w' b n m:=by
 obtain⟨D,ho,hD⟩:=h
 have hlt:=ho.lt
 obtain⟨es,clock,h1,h2⟩:=ho
 exact⟨D,⟨es,clock,(k.block b hlt hb).trans h1,h2⟩,hD⟩
theorem Msi.drew (h:Msi w b n m):Msi w.drew b n m:=by
 obtain⟨D,ho,hD⟩:=h
 exact⟨D,ho.drew,hD⟩
theorem Msi.made (w:World):Msi (w.alloc (.map #[] 0)) w.heap.size 0 (fun _=>none):=
 ⟨.map [],World.ownsMap_made _ _ _ _,fun _=>⟨rfl,fun _=>rfl⟩⟩
structure Ce (a:Nat->Addr) (w:World):Prop where
 size:23<=w.heap.size
 e5:w.cell? ⟨7,0,none⟩=some (errV (a 5))
 e6:w.cell? ⟨8,0,none⟩=some (errV (a 6))
 e7:w.cell? ⟨9,0,none⟩=some (errV (a 7))
 e8:w.cell? ⟨10,0,none⟩=some (errV (a 8))
 e9:w.cell? ⟨11,0,none⟩=some (errV (a 9))
 e10:w.cell? ⟨12,0,none⟩=some (errV (a 10))
theorem Ce.fr (h:Ce a w) (k:Fr own w w') (ho:∀i,own i->23<=i):Ce a w':=by
 have n:∀g,g < 23->¬own g:=fun g hg e=>by have:=ho g e;omega
 exact⟨Nat.le_trans h.size k.size,k.held h.e5 (n _ (by decide)),k.held h.e6 (n _ (by decide)),k.held h.e7 (n _ (by decide)),k.held h.e8 (n _ (by decide)),k.held h.e9 (n _ (by decide)),k.held h.e10 (n _ (by decide))⟩
theorem Ce.below (h:Ce a w) (k:Below w.heap.size w w'):Ce a w':=h.fr (Fr.of_below (own:=fun _=>False) k) (fun _ e=>e.elim)
def Dg (a:Nat->Addr) (w':World) (d:Nat) (at_:Int) (k:Nat):Prop:=w'.heap[d]?=some (.cells #[.int .i64 at_,errV (a k)] 90 (0,0))
theorem zda (a:Nat->Addr) (u:World) (n:Nat) (hn:u.heap.size=n) (at_:Int) (k:Nat):Dg a (u.alloc (.cells #[.int .i64 at_,errV (a k)] 90)) n at_ k:=by
 rw[<-hn]
 exact han _ _
abbrev nameV (at_:Int) (x:Mil.Bytes):Value:=.agg #[.int .i64 at_,.string (bs x)]
theorem enter_twice (a:Nat->Addr) (w:World) (hE:Ce a w) (b n:Nat) (m:Mbo) (hM:Msi w b n m) (x:Mil.Bytes) (hx:x.length<=4000) (at_ k:Int) (hm:(m x).isSome=true) :
  Calls Tryz.prog 110 #[.map (some b),nameV at_ x,.int .i64 k] w fun E w'=>Below w.heap.size w w'/\∃d,E=.returned (.pointer (some ⟨d,0,none⟩))/\Dg a w' d at_ 5:=by
 have HB:Hid (Below w.heap.size w (w.alloc (.cells #[.int .i64 at_,.string (bs x)] 119))):=brf.alloc nlr _
 have hl:=((hM.fr (Fr.of_below (own:=fun _=>False) HB.out) (fun e=>e)).look x hx)
 rw[hm] at hl
 have he:=(hE.below HB.out).e5
 clear hE hM
 go_enter Tryz.func110,Tryz.ntmps110
 go_wp2
 go_ret
 refine⟨zaa HB.out (brf.alloc nlr _),_,rfl,?_⟩
 exact zda a _ _ (by simp) _ _
theorem enter_new (w:World) (b n:Nat) (m:Mbo) (hM:Msi w b n m) (x:Mil.Bytes) (hx:x.length<=4000) (hn:n<=1000000) (at_ k:Int) (hk:(Lit.int .i64 k).wf=true) (hm:(m x).isSome=false) :
  Calls Tryz.prog 110 #[.map (some b),nameV at_ x,.int .i64 k] w fun E w'=>E=.returned (.pointer none)/\Msi w' b (n+1) (upd m x k)/\Fr (fun i=>i=b) w w':=by
 have HB:Hid (Below w.heap.size w (w.alloc (.cells #[.int .i64 at_,.string (bs x)] 119))):=brf.alloc nlr _
 have hM1:=hM.fr (Fr.of_below (own:=fun _=>False) HB.out) (fun e=>e)
 have hl:=hM1.look x hx
 rw[hm] at hl
 obtain⟨w1,hst,hM2,hF⟩:=hM1.store x hx hn k hk
 have HM2:=hid hM2
 have HF:Hid (Fr (fun i=>i=b) w w1):=(Fr.of_below HB.out).trans hF (fun _ _ e=>e)
 clear hM hM1 hM2 hF HB
 go_enter Tryz.func110,Tryz.ntmps110
 go_wp2
 go_ret
 exact⟨rfl,HM2.out,HF.out⟩
theorem zd2 (w:World) (c b n:Nat) (hc:w.cell? ⟨c,2,none⟩=some (.map (some b))) (m:Mbo) (hM:Msi w b n m) (x:Mil.Bytes) (hx:x.length<=4000) (at_ k:Int) (hm:m x=some k) :
  Calls Tryz.prog 111 #[.pointer (some ⟨c,0,none⟩),nameV at_ x] w fun E w'=>Below w.heap.size w w'/\E=.returned (.tuple #[.int .i64 k,.pointer none]):=by
 have HB:Hid (Below w.heap.size w (w.alloc (.cells #[.int .i64 at_,.string (bs x)] 119))):=brf.alloc nlr _
 have hl:=(hM.fr (Fr.of_below (own:=fun _=>False) HB.out) (fun e=>e)).drew.look x hx
 rw[hm] at hl
 have hl':(Instr.lookup 81 (.map (some b)) (.string (bs x)) true).run Tryz.prog (w.alloc (.cells #[.int .i64 at_,.string (bs x)] 119)).drew=.ok (.tuple #[.int .i64 k,.bool true]) (w.alloc (.cells #[.int .i64 at_,.string (bs x)] 119)).drew:=hl
 have hc':=(HB.out.cell (zab hc)).trans hc
 clear hM hl hc
 go_enter Tryz.func111,Tryz.ntmps111
 go_wp2_with fail
 go_region
 go_wp2
 go_ret2
 exact⟨HB.out.drew,rfl⟩
theorem zd3 (a:Nat->Addr) (w:World) (hE:Ce a w) (c b n:Nat) (hc:w.cell? ⟨c,2,none⟩=some (.map (some b))) (m:Mbo) (hM:Msi w b n m) (x:Mil.Bytes) (hx:x.length<=4000) (at_:Int) (hm:m x=none) :
  Calls Tryz.prog 111 #[.pointer (some ⟨c,0,none⟩),nameV at_ x] w fun E w'=>Below w.heap.size w w'/\∃d,E=.returned (.tuple #[.int .i64 0,.pointer (some ⟨d,0,none⟩)])/\Dg a w' d at_ 6:=by
 have HB:Hid (Below w.heap.size w (w.alloc (.cells #[.int .i64 at_,.string (bs x)] 119))):=brf.alloc nlr _
 have hl:=(hM.fr (Fr.of_below (own:=fun _=>False) HB.out) (fun e=>e)).drew.look x hx
 rw[hm] at hl
 have hl':(Instr.lookup 81 (.map (some b)) (.string (bs x)) true).run Tryz.prog (w.alloc (.cells #[.int .i64 at_,.string (bs x)] 119)).drew=.ok (.tuple #[.int .i64 0,.bool false]) (w.alloc (.cells #[.int .i64 at_,.string (bs x)] 119)).drew:=hl
 have hc':=(HB.out.cell (zab hc)).trans hc
 have he:=(hE.below HB.out).e6
 clear hM hl hc hE
 go_enter Tryz.func111,Tryz.ntmps111
 go_wp2_with fail
 go_region
 go_wp2_with fail
 go_region
 go_wp2
 go_ret2
 exact⟨(zaa HB.out (brf.alloc nlr _)).drew.drew,_,rfl,zda a (w.alloc (.cells #[.int .i64 at_,.string (bs x)] 119)) _ (by simp) at_ 6⟩
end
section
open Go.RowKit
namespace Mip
theorem tree_ind {Q:E->Prop}
  (h3:∀p x,Mil.NameOk x->Mil.wf (er (eName p x)) false->Q (eName p x))
  (hk:∀e,Mil.wf (er e) false->(∀p x,e≠eName p x)->(∀q∈kids e,Mil.wf (er q) false/\Q q)->Q e):∀e:E,Mil.wf (er e) false->Q e:=by
 have i1:∀k:Nat,(k:Int)<=Mil.maxInt->Mil.wf (Mil.eInt k) false->∀p,er p=Mil.eInt k->Q p:=fun k hk' hw p hp=>by
  obtain⟨y,c,d,rfl,hc,hd⟩:=zar hp
  exact hk _ (by rw[hp];exact hw) (fun _ _ e=>by cases e) (fun q hq=>by cases hq)
 have i2:∀k,k=0\/k=1->Mil.wf (Mil.eBool k) false->∀p,er p=Mil.eBool k->Q p:=fun k hk' hw p hp=>by
  obtain⟨y,c,d,rfl,hc,hd⟩:=zar hp
  exact hk _ (by rw[hp];exact hw) (fun _ _ e=>by cases e) (fun q hq=>by cases hq)
 have i0:∀m,Mil.isConst m->∀p,er p=m->Mil.wf (er p) false/\Q p:=fun m hm p hp=>by
  have hw:=Mil.wf_const hm
  refine⟨by rw[hp];exact hw,?_⟩
  rcases hm with ⟨k,hk',rfl⟩|⟨k,hk',rfl⟩|⟨k,hk',rfl⟩
  ·exact i1 k hk' hw p hp
  ·exact i2 k hk' hw p hp
  ·have hw1:Mil.wf (Mil.eInt k) false:=Mil.wf_const (Or.inl ⟨k,hk',rfl⟩)
   obtain⟨y,c,d,rfl,hc,hd⟩:=zar hp
   refine hk _ (by rw[hp];exact hw) (fun _ _ e=>by cases e) (fun q hq=>?_)
   have e:q=c:=by simpa [kids] using hq
   rw[e]
   exact⟨by rw[hc];exact hw1,i1 k hk' hw1 c hc⟩
 intro e he
 refine Mil.wf_induct (P:=fun m=>Mil.wf m false->∀p,er p=m->Q p) i1 i2 ?_ ?_ ?_ ?_ ?_ ?_ ?_ ?_ _ he he e rfl
 ·intro x hx hw p hp
  obtain⟨y,c,d,rfl,hc,hd⟩:=zar hp
  rw[zc0 hc,zc0 hd] at hp ⊢
  exact h3 y x hx (by rw[show er (eName y x)=_ from hp];exact hw)
 ·intro x a hx hwa ha hw p hp
  obtain⟨y,c,d,rfl,hc,hd⟩:=zar hp
  refine hk _ (by rw[hp];exact hw) (fun _ _ e=>by cases e) (fun q hq=>?_)
  have e:q=c:=by simpa [kids] using hq
  rcases e with rfl
  ·exact⟨by rw[hc];exact hwa,ha hwa _ hc⟩
 ·intro x a b hx hwa hwb ha hb hw p hp
  obtain⟨y,c,d,rfl,hc,hd⟩:=zar hp
  refine hk _ (by rw[hp];exact hw) (fun _ _ e=>by cases e) (fun q hq=>?_)
  have e:q=c\/q=d:=by simpa [kids] using hq
  rcases e with rfl|rfl
  ·exact⟨by rw[hc];exact hwa,ha hwa _ hc⟩
  ·exact⟨by rw[hd];exact hwb,hb hwb _ hd⟩
 ·intro a b c hwa hwb hwc ha hb hc hw p hp
  obtain⟨y,q1,r1,rfl,h1,h2⟩:=zar hp
  obtain⟨y2,q2,q3,rfl,h3,h4⟩:=zar h2
  refine hk _ (by rw[hp];exact hw) (fun _ _ e=>by cases e) (fun q hq=>?_)
  have e:q=q1\/q=q2\/q=q3:=by simpa [kids] using hq
  rcases e with rfl|rfl|rfl
  ·exact⟨by rw[h1];exact hwa,ha hwa _ h1⟩
  ·exact⟨by rw[h3];exact hwb,hb hwb _ h3⟩
  ·exact⟨by rw[h4];exact hwc,hc hwc _ h4⟩
 ·intro a b hca hwb hb hw p hp
  obtain⟨y,c,d,rfl,hc,hd⟩:=zar hp
  refine hk _ (by rw[hp];exact hw) (fun _ _ e=>by cases e) (fun q hq=>?_)
  have e:q=c\/q=d:=by simpa [kids] using hq
  rcases e with rfl|rfl
  ·exact i0 a hca _ hc
  ·exact⟨by rw[hd];exact hwb,hb hwb _ hd⟩
 ·intro a k h2 hk2 hwa ha hw p hp
  obtain⟨y,c,d,rfl,hc,hd⟩:=zar hp
  refine hk _ (by rw[hp];exact hw) (fun _ _ e=>by cases e) (fun q hq=>?_)
  have e:q=c:=by simpa [kids] using hq
  rcases e with rfl
  ·exact⟨by rw[hc];exact hwa,ha hwa _ hc⟩
 ·intro a b k h2 hk2 hca hwb hb hw p hp
  obtain⟨y,c,d,rfl,hc,hd⟩:=zar hp
  refine hk _ (by rw[hp];exact hw) (fun _ _ e=>by cases e) (fun q hq=>?_)
  have e:q=c\/q=d:=by simpa [kids] using hq
  rcases e with rfl|rfl
  ·exact i0 a hca _ hc
  ·exact⟨by rw[hd];exact hwb,hb hwb _ hd⟩
 ·intro x a b hx hwa hwb ha hb hw p hp
  obtain⟨y,c,d,rfl,hc,hd⟩:=zar hp
  refine hk _ (by rw[hp];exact hw) (fun _ _ e=>by cases e) (fun q hq=>?_)
  have e:q=c\/q=d:=by simpa [kids] using hq
  rcases e with rfl|rfl
  ·exact⟨by rw[hc];exact hwa,ha hwa _ hc⟩
  ·exact⟨by rw[hd];exact hwb,hb hwb _ hd⟩
def unres (m:Mbo):E->Option Nat
 | .nil=>none
 | .node t _ x a b=>if t=3 then (if (m x.1).isSome then none else some x.2) else (unres m a).or (unres m b)
theorem kids_le (e:E):(kids e).length<=3:=by
 unfold kids
 split <;> simp
def firstOf (m:Mbo):List E->Option Nat
 | []=>none
 | q::r=>(unres m q).or (firstOf m r)
theorem unres_kids (m:Mbo):∀e:E,Mil.wf (er e) false->(∀p x,e≠eName p x)->unres m e=firstOf m (kids e):=by
 refine tree_induct ?_ ?_ ?_ ?_ ?_ ?_ ?_ ?_ ?_ ?_
 ·intro p k _ _;rfl
 ·intro p k _ _;rfl
 ·intro p x _ h;exact absurd rfl (h p x)
 ·intro p x a _ _ _;simp[unres,kids,firstOf,ePre]
 ·intro p x a b _ _ _ _;simp[unres,kids,firstOf,eTwo]
 ·intro p y a b c _ _ _ _;simp[unres,kids,firstOf]
 ·intro p a b _ _ _;simp[unres,kids,firstOf,eFby]
 ·intro p a k _ _ _ _;simp[unres,kids,firstOf,eUnder]
 ·intro p a b k _ _ _ _ _;simp[unres,kids,firstOf,eHold]
 ·intro p x a b _ _ _ _;simp[unres,kids,firstOf,eLeast]
theorem first_none (m:Mbo):∀l:List E,(∀(i:Nat) (q:E),l[i]?=some q->unres m q=none)->firstOf m l=none
 | [],_=>rfl
 | q::r,h=>by
  rw[firstOf,h 0 q rfl,first_none m r (fun i q' hq=>h (i+1) q' hq)];rfl
theorem first_some (m:Mbo):∀(l:List E) (j:Nat) (q:E) (p:Nat),(∀(i:Nat) (q':E),i < j->l[i]?=some q'->unres m q'=none)->l[j]?=some q->unres m q=some p->firstOf m l=some p
 | [],_,_,_,_,h,_=>by simp at h
 | q0::r,0,q,p,_,h,k=>by
  have e:q0=q:=by simpa using h
  rw[firstOf,e,k];rfl
 | q0::r,j+1,q,p,h0,h,k=>by
  rw[firstOf,h0 0 q0 (Nat.succ_pos _) rfl,first_some m r j q p (fun i q' hi hq=>h0 (i+1) q' (Nat.succ_lt_succ hi) hq) (by simpa using h) k];rfl
end Mip
theorem not_name (N:Nat):∀e:Mip.E,Mil.wf (Mip.er e) false->(∀p x,e≠Mip.eName p x)->∃T y,ev N e=.iface T y/\∀w,(Instr.typeAssert (.iface T y) 121 119 true).run Tryz.prog w=.ok (.tuple #[.agg #[.int .i64 0,.string ⟨#[]⟩],.bool false]) w:=by
 refine Mip.tree_induct ?_ ?_ ?_ ?_ ?_ ?_ ?_ ?_ ?_ ?_
 ·intro p k _ _;exact⟨_,_,rfl,ta_int_name _⟩
 ·intro p k _ _;exact⟨_,_,rfl,ta_bool_name _⟩
 ·intro p x _ h;exact absurd rfl (h p x)
 ·intro p x a _ _ _;exact⟨_,_,rfl,ta_pre_name _⟩
 ·intro p x a b _ _ _ _;exact⟨_,_,rfl,ta_two_name _⟩
 ·intro p y a b c _ _ _ _;exact⟨_,_,rfl,ta_if_name _⟩
 ·intro p a b _ _ _;exact⟨_,_,rfl,ta_fby_name _⟩
 ·intro p a k _ _ _ _;exact⟨_,_,rfl,ta_under_name _⟩
 ·intro p a b k _ _ _ _ _;exact⟨_,_,rfl,ta_hold_name _⟩
 ·intro p x a b _ _ _ _;exact⟨_,_,rfl,ta_least_name _⟩
def Rs (N:Nat) (a:Nat->Addr) (o:Option Nat) (w:World) (E:Ending) (w':World):Prop:=
 Below w.heap.size w w'/\((o=none/\E=.returned (.pointer none))\/∃p d,o=some p/\E=.returned (.pointer (some ⟨d,0,none⟩))/\Dg a w' d ((N:Int) - (p:Nat)) 6)
structure Nm (a:Nat->Addr) (c b n:Nat) (m:Mbo) (w:World):Prop where
 ce:Ce a w
 c2:w.cell? ⟨c,2,none⟩=some (.map (some b))
 mp:Msi w b n m
theorem Nm.below {a:Nat->Addr} {c b n:Nat} {m:Mbo} {w w':World} (h:Nm a c b n m w) (k:Below w.heap.size w w'):Nm a c b n m w':=
 ⟨h.ce.below k,(k.cell (zab h.c2)).trans h.c2,h.mp.fr (Fr.of_below (own:=fun _=>False) k) (fun e=>e)⟩
def RC (N:Nat) (a:Nat->Addr) (c b n:Nat) (m:Mbo) (e:Mip.E):Prop:=∀w,Nm a c b n m w->Calls Tryz.prog 78 #[.pointer (some ⟨c,0,none⟩),ev N e] w (Rs N a (Mip.unres m e) w)
theorem resolve_name (N:Nat) (a:Nat->Addr) (c b n:Nat) (m:Mbo) (p:Nat) (x:Mil.Bytes) (hx:Mil.NameOk x):RC N a c b n m (Mip.eName p x):=by
 intro w hN
 have HN:=hid hN
 have HX:Hid (x.length<=4000):=by have:=hx.2.2.1;show _<=_;omega
 have HB:Hid (Below w.heap.size w (w.alloc (.cells #[.int .i64 ((N:Int) - (p:Nat)),.string (bs x)] 119))):=brf.alloc nlr _
 have hta:=zbw (.agg #[.int .i64 ((N:Int) - (p:Nat)),.string (bs x)])
 clear hN hx
 show Calls Tryz.prog 78 #[.pointer (some ⟨c,0,none⟩),.iface 119 (.agg #[.int .i64 ((N:Int) - (p:Nat)),.string (bs x)])] w _
 go_enter Tryz.func78,Tryz.ntmps78
 go_wp2_with fail
 have N1:=HN.out.below HB.out
 cases hm:m x with
 | none=>
  have HM:=hid hm
  refine (zd3 a _ N1.ce c b n N1.c2 m N1.mp x HX.out _ hm).mono ?_
  rintro E w1 ⟨hb1,d,rfl,hd⟩
  have HD:=hid hd
  have HB1:=hid (zaa HB.out hb1)
  clear hb1 hd N1 hta hm
  go_wp2
  go_ret
  exact⟨HB1.out,Or.inr ⟨p,d,by simp[Mip.unres,Mip.eName,HM.out],rfl,HD.out⟩⟩
 | some k=>
  have HM:=hid hm
  refine (zd2 _ c b n N1.c2 m N1.mp x HX.out _ k hm).mono ?_
  rintro E w1 ⟨hb1,rfl⟩
  have HB1:=hid (zaa HB.out hb1)
  clear hb1 N1 hta hm
  go_wp2
  go_ret
  exact⟨HB1.out,Or.inl ⟨by simp[Mip.unres,Mip.eName,HM.out],rfl⟩⟩
theorem resolve_node (N:Nat) (a:Nat->Addr) (c b n:Nat) (m:Mbo) (e:Mip.E) (hw:Mil.wf (Mip.er e) false) (hn:∀p x,e≠Mip.eName p x) (ih:∀q∈Mip.kids e,RC N a c b n m q):RC N a c b n m e:=by
 intro w hN
 have HN:=hid hN
 have IH:=hid ih
 have HU:Hid (Mip.unres m e=Mip.firstOf m (Mip.kids e)):=Mip.unres_kids m e hw hn
 obtain⟨T,y,he,hta⟩:=not_name N e hw hn
 have HO:=zby N e hw
 rw[he] at HO
 have HO':Hid (∀w,Calls Tryz.prog 112 #[.iface T y] w (OpPost N e w)):=HO
 have HB:Hid (Below w.heap.size w (w.alloc (.cells #[.int .i64 0,.string ⟨#[]⟩] 119))):=brf.alloc nlr _
 clear hN ih HO hn hw
 show Calls Tryz.prog 78 #[.pointer (some ⟨c,0,none⟩),ev N e] w _
 rw[he]
 clear he
 go_enter Tryz.func78,Tryz.ntmps78
 go_wp2_with fail
 refine (HO'.out _).mono ?_
 rintro E w1 ⟨hb1,v,rfl,hK⟩
 have HB1:=hid (zaa HB.out hb1)
 have hl3:=Mip.kids_le e
 generalize hl:Mip.kids e=l at hK IH HU hl3
 clear hl
 rcases hK with ⟨rfl,rfl⟩|⟨g,rfl,hcells⟩
 ·clear hb1 hta hl3
  go_wp2_with fail
  go_loopg [28] 0 (fun gk s28 wr=>s28=.int .i64 0/\wr=w1)
  case atStart=>exact⟨rfl,rfl⟩
  case round=>
   obtain⟨rfl,rfl⟩:=hrel
   go_wp2
   go_ret
   exact⟨HB1.out,Or.inl ⟨HU.out,rfl⟩⟩
 ·have HC:=hid hcells
  have HL:=hid hl3
  clear hb1 hta hcells hl3
  go_wp2_with fail
  go_loopg [28] l.length (fun gk s28 wr=>∃j:Nat,j<=l.length/\s28=.int .i64 j/\gk=l.length - j/\Hid (∀(i:Nat) (q:Mip.E),i < j->l[i]?=some q->Mip.unres m q=none)/\Hid (Below w.heap.size w wr)/\Hid (Below w1.heap.size w1 wr))
  case atStart=>exact⟨0,Nat.zero_le _,rfl,rfl,fun i q hi=>by omega,HB1,Below.refl _ _⟩
  case round=>
   obtain⟨j,hj,rfl,hg,HP,HW,HW1⟩:=hrel
   have HG:=hid hg
   clear hg
   by_cases hlt:j < l.length
   ·obtain⟨q,hq⟩:∃q,l[j]?=some q:=⟨_,List.getElem?_eq_getElem hlt⟩
    have hcq:=(HW1.out.cell (zab (HC.out j q hq))).trans (HC.out j q hq)
    have HQ:=hid hq
    have hmem:q∈l:=List.mem_of_getElem? hq
    have hbig:=HL.out
    clear hq
    go_wp2_with fail
    refine (IH.out q hmem _ (HN.out.below HW.out)).mono ?_
    rintro E w2 ⟨hb2,hr⟩
    have HW2:=hid (zaa HW.out hb2)
    have HV2:=hid (zaa HW1.out hb2)
    rcases hr with ⟨hu,rfl⟩|⟨p,d,hu,rfl,hd⟩
    ·have HU2:=hid hu
     clear hb2 hu hcq
     go_wp2
     go_roundg (l.length - (j+1))
     case measure=>have:=HG.out;omega
     case rel=>exact⟨j+1,hlt,by go_num,rfl,fun i q' hi hq'=>by
      rcases Nat.lt_or_ge i j with h|h
      ·exact HP.out i q' h hq'
      ·have e:i=j:=by omega
       rw[e,HQ.out] at hq'
       rw[<-osi hq']
       exact HU2.out,HW2,HV2⟩
    ·have HU2:=hid hu
     have HD:=hid hd
     clear hb2 hu hcq hd
     go_wp2
     go_ret
     exact⟨HW2.out,Or.inr ⟨p,d,HU.out.trans (Mip.first_some m l j q p HP.out HQ.out HU2.out),rfl,HD.out⟩⟩
   ·have hle:(l.length:Int)<=(j:Int):=by omega
    go_wp2
    go_ret
    refine⟨HW.out,Or.inl ⟨HU.out.trans (Mip.first_none m l (fun i q hq=>HP.out i q ?_ hq)),rfl⟩⟩
    have:=(lgs hq).1
    omega
theorem resolveIn_any (N:Nat) (a:Nat->Addr) (c b n:Nat) (m:Mbo):∀e,Mil.wf (Mip.er e) false->RC N a c b n m e:=
 Mip.tree_ind (fun p x hx _=>resolve_name N a c b n m p x hx) (fun e hw hn hk=>resolve_node N a c b n m e hw hn (fun q hq=>(hk q hq).2))
end
end Go.Proofs.YtjehljjlcifndaaGreatDoor
