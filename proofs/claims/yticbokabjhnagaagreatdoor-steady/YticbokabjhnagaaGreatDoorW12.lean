import Derived.Test.YticbokabjhnagaaGreatDoorW11
import Derived.Maps.OwnSet
import Derived.StringKeys
import Derived.BigQuiet
namespace Go.Proofs.YticbokabjhnagaaGreatDoor
set_option maxHeartbeats 32000000
section
open Go.RowKit
def Kids (N:Nat) (w:World) (v:Value) (l:List Mip.E):Prop:=
 (l=[]∧v=.slice none 0 0)∨∃g,v=.slice (some ⟨g,0,none⟩) l.length l.length∧∀j q,l[j]?=some q→w.cell? ⟨g,j,none⟩=some (ev N q)
theorem Kids.below {N:Nat} {w w':World} {v:Value} {l:List Mip.E} (h:Kids N w v l) (k:Below w.heap.size w w'):Kids N w' v l:=by
 rcases h with h | ⟨g,h1,h2⟩
 ·exact Or.inl h
 ·exact Or.inr ⟨g,h1,fun j q hq=>(k.cell (lt_of_cell (h2 j q hq))).trans (h2 j q hq)⟩
def OpPost (N:Nat) (e:Mip.E) (w:World) (E:Ending) (w':World):Prop:=Below w.heap.size w w'∧∃v,E=.returned v∧Kids N w' v (Mip.kids e)
theorem operands_all (N:Nat):∀e:Mip.E,Mil.wf (Mip.er e) false→(∃t y,ev N e=.iface t y)∧∀w,Calls Tryz.prog 89 #[ev N e] w (OpPost N e w):=by
 refine Mip.tree_induct ?_ ?_ ?_ ?_ ?_ ?_ ?_ ?_ ?_ ?_
 ·intro p k _
  refine ⟨⟨_,_,rfl⟩,fun w=>?_⟩
  have e0:ev N (Mip.eInt p k)=.iface 165 (.agg #[.int .i64 ((N:Int) - (p:Nat)),.int .i64 (k:Nat)]):=by show Value.iface _ (.agg #[.int .i64 ((N:Int) - (p:Nat)),.int .i64 (k:Nat)])=_;rfl
  rw [e0]
  have q0:=ta_int_pre (.agg #[.int .i64 ((N:Int) - (p:Nat)),.int .i64 (k:Nat)])
  have q1:=ta_int_two (.agg #[.int .i64 ((N:Int) - (p:Nat)),.int .i64 (k:Nat)])
  have q2:=ta_int_if (.agg #[.int .i64 ((N:Int) - (p:Nat)),.int .i64 (k:Nat)])
  have q3:=ta_int_fby (.agg #[.int .i64 ((N:Int) - (p:Nat)),.int .i64 (k:Nat)])
  have q4:=ta_int_under (.agg #[.int .i64 ((N:Int) - (p:Nat)),.int .i64 (k:Nat)])
  have q5:=ta_int_hold (.agg #[.int .i64 ((N:Int) - (p:Nat)),.int .i64 (k:Nat)])
  have q6:=ta_int_least (.agg #[.int .i64 ((N:Int) - (p:Nat)),.int .i64 (k:Nat)])
  go_enter Tryz.func89,Tryz.ntmps89
  go_wp2
  go_ret
  exact ⟨Below.refl _ _,_,rfl,Or.inl ⟨rfl,rfl⟩⟩
 ·intro p k _
  refine ⟨⟨_,_,rfl⟩,fun w=>?_⟩
  have e0:ev N (Mip.eBool p k)=.iface 168 (.agg #[.int .i64 ((N:Int) - (p:Nat)),.bool (k==1)]):=by show Value.iface _ (.agg #[.int .i64 ((N:Int) - (p:Nat)),.bool (k==1)])=_;rfl
  rw [e0]
  have q0:=ta_bool_pre (.agg #[.int .i64 ((N:Int) - (p:Nat)),.bool (k==1)])
  have q1:=ta_bool_two (.agg #[.int .i64 ((N:Int) - (p:Nat)),.bool (k==1)])
  have q2:=ta_bool_if (.agg #[.int .i64 ((N:Int) - (p:Nat)),.bool (k==1)])
  have q3:=ta_bool_fby (.agg #[.int .i64 ((N:Int) - (p:Nat)),.bool (k==1)])
  have q4:=ta_bool_under (.agg #[.int .i64 ((N:Int) - (p:Nat)),.bool (k==1)])
  have q5:=ta_bool_hold (.agg #[.int .i64 ((N:Int) - (p:Nat)),.bool (k==1)])
  have q6:=ta_bool_least (.agg #[.int .i64 ((N:Int) - (p:Nat)),.bool (k==1)])
  go_enter Tryz.func89,Tryz.ntmps89
  go_wp2
  go_ret
  exact ⟨Below.refl _ _,_,rfl,Or.inl ⟨rfl,rfl⟩⟩
 ·intro p x _
  refine ⟨⟨_,_,rfl⟩,fun w=>?_⟩
  have e0:ev N (Mip.eName p x)=.iface 103 (.agg #[.int .i64 ((N:Int) - (p:Nat)),.string (bs x)]):=by show Value.iface _ (.agg #[.int .i64 ((N:Int) - (p:Nat)),.string (bs x)])=_;rfl
  rw [e0]
  have q0:=ta_name_pre (.agg #[.int .i64 ((N:Int) - (p:Nat)),.string (bs x)])
  have q1:=ta_name_two (.agg #[.int .i64 ((N:Int) - (p:Nat)),.string (bs x)])
  have q2:=ta_name_if (.agg #[.int .i64 ((N:Int) - (p:Nat)),.string (bs x)])
  have q3:=ta_name_fby (.agg #[.int .i64 ((N:Int) - (p:Nat)),.string (bs x)])
  have q4:=ta_name_under (.agg #[.int .i64 ((N:Int) - (p:Nat)),.string (bs x)])
  have q5:=ta_name_hold (.agg #[.int .i64 ((N:Int) - (p:Nat)),.string (bs x)])
  have q6:=ta_name_least (.agg #[.int .i64 ((N:Int) - (p:Nat)),.string (bs x)])
  go_enter Tryz.func89,Tryz.ntmps89
  go_wp2
  go_ret
  exact ⟨Below.refl _ _,_,rfl,Or.inl ⟨rfl,rfl⟩⟩
 ·intro p x a _ ha
  refine ⟨⟨_,_,rfl⟩,fun w=>?_⟩
  obtain ⟨⟨ta,ya,ea⟩,_⟩:=ha
  have e0:ev N (Mip.ePre p x a)=.iface 172 (.agg #[.int .i64 ((N:Int) - (p:Nat)),.string (bs x),.iface ta ya]):=by show Value.iface _ (.agg #[.int .i64 ((N:Int) - (p:Nat)),.string (bs x),ev N a])=_;rw [ea]
  rw [e0]
  have q0:=ta_pre_pre (.agg #[.int .i64 ((N:Int) - (p:Nat)),.string (bs x),.iface ta ya])
  have HB:Hid (Below w.heap.size w ((w.alloc (.cells #[.int .i64 ((N:Int) - (p:Nat)),.string (bs x),.iface ta ya] 172)).alloc (.cells #[.iface ta ya] 105))):=(below_step ((Below.refl w.heap.size w).alloc (Nat.le_refl _) _) ((Below.refl _ _).alloc (Nat.le_refl _) _))
  have HC:Hid (∀j u,(#[.iface ta ya]:Array Value)[j]?=some u→(((w.alloc (.cells #[.int .i64 ((N:Int) - (p:Nat)),.string (bs x),.iface ta ya] 172)).alloc (.cells #[.iface ta ya] 105))).cell? ⟨w.heap.size+1,j,none⟩=some u):=fun j u hu=>by
   have hr:=heap_alloc_new (w.alloc (.cells #[.int .i64 ((N:Int) - (p:Nat)),.string (bs x),.iface ta ya] 172)) (.cells #[.iface ta ya] 105)
   have hz:(w.alloc (.cells #[.int .i64 ((N:Int) - (p:Nat)),.string (bs x),.iface ta ya] 172)).heap.size=w.heap.size+1:=by simp
   rw [hz] at hr
   rw [cell_of_row _ _ j _ _ _ hr];exact hu
  go_enter Tryz.func89,Tryz.ntmps89
  go_wp2
  go_ret
  refine ⟨HB.out,_,rfl,Or.inr ⟨w.heap.size+1,by simp [Mip.kids,Mip.ePre],fun j q hq=>?_⟩⟩
  refine HC.out j _ ?_
  match j,hq with
  | 0,hq=>
   have e:q=a:=(by simpa [Mip.kids,Mip.ePre] using hq.symm)
   subst e
   rw [ea];rfl
  | j+1,hq=>simp [Mip.kids,Mip.ePre] at hq
 ·intro p x a b _ ha hb
  refine ⟨⟨_,_,rfl⟩,fun w=>?_⟩
  obtain ⟨⟨ta,ya,ea⟩,_⟩:=ha
  obtain ⟨⟨tb,yb,eb⟩,_⟩:=hb
  have e0:ev N (Mip.eTwo p x a b)=.iface 175 (.agg #[.int .i64 ((N:Int) - (p:Nat)),.string (bs x),.iface ta ya,.iface tb yb]):=by show Value.iface _ (.agg #[.int .i64 ((N:Int) - (p:Nat)),.string (bs x),ev N a,ev N b])=_;rw [ea,eb]
  rw [e0]
  have q0:=ta_two_pre (.agg #[.int .i64 ((N:Int) - (p:Nat)),.string (bs x),.iface ta ya,.iface tb yb])
  have q1:=ta_two_two (.agg #[.int .i64 ((N:Int) - (p:Nat)),.string (bs x),.iface ta ya,.iface tb yb])
  have HB:Hid (Below w.heap.size w ((w.alloc (.cells #[.int .i64 ((N:Int) - (p:Nat)),.string (bs x),.iface ta ya,.iface tb yb] 175)).alloc (.cells #[.iface ta ya,.iface tb yb] 105))):=(below_step ((Below.refl w.heap.size w).alloc (Nat.le_refl _) _) ((Below.refl _ _).alloc (Nat.le_refl _) _))
  have HC:Hid (∀j u,(#[.iface ta ya,.iface tb yb]:Array Value)[j]?=some u→(((w.alloc (.cells #[.int .i64 ((N:Int) - (p:Nat)),.string (bs x),.iface ta ya,.iface tb yb] 175)).alloc (.cells #[.iface ta ya,.iface tb yb] 105))).cell? ⟨w.heap.size+1,j,none⟩=some u):=fun j u hu=>by
   have hr:=heap_alloc_new (w.alloc (.cells #[.int .i64 ((N:Int) - (p:Nat)),.string (bs x),.iface ta ya,.iface tb yb] 175)) (.cells #[.iface ta ya,.iface tb yb] 105)
   have hz:(w.alloc (.cells #[.int .i64 ((N:Int) - (p:Nat)),.string (bs x),.iface ta ya,.iface tb yb] 175)).heap.size=w.heap.size+1:=by simp
   rw [hz] at hr
   rw [cell_of_row _ _ j _ _ _ hr];exact hu
  go_enter Tryz.func89,Tryz.ntmps89
  go_wp2
  go_ret
  refine ⟨HB.out,_,rfl,Or.inr ⟨w.heap.size+1,by simp [Mip.kids,Mip.eTwo],fun j q hq=>?_⟩⟩
  refine HC.out j _ ?_
  match j,hq with
  | 0,hq=>
   have e:q=a:=(by simpa [Mip.kids,Mip.eTwo] using hq.symm)
   subst e
   rw [ea];rfl
  | 1,hq=>
   have e:q=b:=(by simpa [Mip.kids,Mip.eTwo] using hq.symm)
   subst e
   rw [eb];rfl
  | j+2,hq=>simp [Mip.kids,Mip.eTwo] at hq
 ·intro p y a b c ha hb hc
  refine ⟨⟨_,_,rfl⟩,fun w=>?_⟩
  obtain ⟨⟨ta,ya,ea⟩,_⟩:=ha
  obtain ⟨⟨tb,yb,eb⟩,_⟩:=hb
  obtain ⟨⟨tc,yc,ec⟩,_⟩:=hc
  have e0:ev N (.node 6 0 ([],p) a (.node 0 0 ([],y) b c))=.iface 182 (.agg #[.int .i64 ((N:Int) - (p:Nat)),.iface ta ya,.iface tb yb,.iface tc yc]):=by show Value.iface _ (.agg #[.int .i64 ((N:Int) - (p:Nat)),ev N a,ev N b,ev N c])=_;rw [ea,eb,ec]
  rw [e0]
  have q0:=ta_if_pre (.agg #[.int .i64 ((N:Int) - (p:Nat)),.iface ta ya,.iface tb yb,.iface tc yc])
  have q1:=ta_if_two (.agg #[.int .i64 ((N:Int) - (p:Nat)),.iface ta ya,.iface tb yb,.iface tc yc])
  have q2:=ta_if_if (.agg #[.int .i64 ((N:Int) - (p:Nat)),.iface ta ya,.iface tb yb,.iface tc yc])
  have HB:Hid (Below w.heap.size w ((w.alloc (.cells #[.int .i64 ((N:Int) - (p:Nat)),.iface ta ya,.iface tb yb,.iface tc yc] 182)).alloc (.cells #[.iface ta ya,.iface tb yb,.iface tc yc] 105))):=(below_step ((Below.refl w.heap.size w).alloc (Nat.le_refl _) _) ((Below.refl _ _).alloc (Nat.le_refl _) _))
  have HC:Hid (∀j u,(#[.iface ta ya,.iface tb yb,.iface tc yc]:Array Value)[j]?=some u→(((w.alloc (.cells #[.int .i64 ((N:Int) - (p:Nat)),.iface ta ya,.iface tb yb,.iface tc yc] 182)).alloc (.cells #[.iface ta ya,.iface tb yb,.iface tc yc] 105))).cell? ⟨w.heap.size+1,j,none⟩=some u):=fun j u hu=>by
   have hr:=heap_alloc_new (w.alloc (.cells #[.int .i64 ((N:Int) - (p:Nat)),.iface ta ya,.iface tb yb,.iface tc yc] 182)) (.cells #[.iface ta ya,.iface tb yb,.iface tc yc] 105)
   have hz:(w.alloc (.cells #[.int .i64 ((N:Int) - (p:Nat)),.iface ta ya,.iface tb yb,.iface tc yc] 182)).heap.size=w.heap.size+1:=by simp
   rw [hz] at hr
   rw [cell_of_row _ _ j _ _ _ hr];exact hu
  go_enter Tryz.func89,Tryz.ntmps89
  go_wp2
  go_ret
  refine ⟨HB.out,_,rfl,Or.inr ⟨w.heap.size+1,by simp [Mip.kids],fun j q hq=>?_⟩⟩
  refine HC.out j _ ?_
  match j,hq with
  | 0,hq=>
   have e:q=a:=(by simpa [Mip.kids] using hq.symm)
   subst e
   rw [ea];rfl
  | 1,hq=>
   have e:q=b:=(by simpa [Mip.kids] using hq.symm)
   subst e
   rw [eb];rfl
  | 2,hq=>
   have e:q=c:=(by simpa [Mip.kids] using hq.symm)
   subst e
   rw [ec];rfl
  | j+3,hq=>simp [Mip.kids] at hq
 ·intro p a b ha hb
  refine ⟨⟨_,_,rfl⟩,fun w=>?_⟩
  obtain ⟨⟨ta,ya,ea⟩,_⟩:=ha
  obtain ⟨⟨tb,yb,eb⟩,_⟩:=hb
  have e0:ev N (Mip.eFby p a b)=.iface 185 (.agg #[.int .i64 ((N:Int) - (p:Nat)),.iface ta ya,.iface tb yb]):=by show Value.iface _ (.agg #[.int .i64 ((N:Int) - (p:Nat)),ev N a,ev N b])=_;rw [ea,eb]
  rw [e0]
  have q0:=ta_fby_pre (.agg #[.int .i64 ((N:Int) - (p:Nat)),.iface ta ya,.iface tb yb])
  have q1:=ta_fby_two (.agg #[.int .i64 ((N:Int) - (p:Nat)),.iface ta ya,.iface tb yb])
  have q2:=ta_fby_if (.agg #[.int .i64 ((N:Int) - (p:Nat)),.iface ta ya,.iface tb yb])
  have q3:=ta_fby_fby (.agg #[.int .i64 ((N:Int) - (p:Nat)),.iface ta ya,.iface tb yb])
  have HB:Hid (Below w.heap.size w ((w.alloc (.cells #[.int .i64 ((N:Int) - (p:Nat)),.iface ta ya,.iface tb yb] 185)).alloc (.cells #[.iface ta ya,.iface tb yb] 105))):=(below_step ((Below.refl w.heap.size w).alloc (Nat.le_refl _) _) ((Below.refl _ _).alloc (Nat.le_refl _) _))
  have HC:Hid (∀j u,(#[.iface ta ya,.iface tb yb]:Array Value)[j]?=some u→(((w.alloc (.cells #[.int .i64 ((N:Int) - (p:Nat)),.iface ta ya,.iface tb yb] 185)).alloc (.cells #[.iface ta ya,.iface tb yb] 105))).cell? ⟨w.heap.size+1,j,none⟩=some u):=fun j u hu=>by
   have hr:=heap_alloc_new (w.alloc (.cells #[.int .i64 ((N:Int) - (p:Nat)),.iface ta ya,.iface tb yb] 185)) (.cells #[.iface ta ya,.iface tb yb] 105)
   have hz:(w.alloc (.cells #[.int .i64 ((N:Int) - (p:Nat)),.iface ta ya,.iface tb yb] 185)).heap.size=w.heap.size+1:=by simp
   rw [hz] at hr
   rw [cell_of_row _ _ j _ _ _ hr];exact hu
  go_enter Tryz.func89,Tryz.ntmps89
  go_wp2
  go_ret
  refine ⟨HB.out,_,rfl,Or.inr ⟨w.heap.size+1,by simp [Mip.kids,Mip.eFby],fun j q hq=>?_⟩⟩
  refine HC.out j _ ?_
  match j,hq with
  | 0,hq=>
   have e:q=a:=(by simpa [Mip.kids,Mip.eFby] using hq.symm)
   subst e
   rw [ea];rfl
  | 1,hq=>
   have e:q=b:=(by simpa [Mip.kids,Mip.eFby] using hq.symm)
   subst e
   rw [eb];rfl
  | j+2,hq=>simp [Mip.kids,Mip.eFby] at hq
 ·intro p a k _ _ ha
  refine ⟨⟨_,_,rfl⟩,fun w=>?_⟩
  obtain ⟨⟨ta,ya,ea⟩,_⟩:=ha
  have e0:ev N (Mip.eUnder p a k)=.iface 188 (.agg #[.int .i64 ((N:Int) - (p:Nat)),.iface ta ya,.int .i64 (k:Nat)]):=by show Value.iface _ (.agg #[.int .i64 ((N:Int) - (p:Nat)),ev N a,.int .i64 (k:Nat)])=_;rw [ea]
  rw [e0]
  have q0:=ta_under_pre (.agg #[.int .i64 ((N:Int) - (p:Nat)),.iface ta ya,.int .i64 (k:Nat)])
  have q1:=ta_under_two (.agg #[.int .i64 ((N:Int) - (p:Nat)),.iface ta ya,.int .i64 (k:Nat)])
  have q2:=ta_under_if (.agg #[.int .i64 ((N:Int) - (p:Nat)),.iface ta ya,.int .i64 (k:Nat)])
  have q3:=ta_under_fby (.agg #[.int .i64 ((N:Int) - (p:Nat)),.iface ta ya,.int .i64 (k:Nat)])
  have q4:=ta_under_under (.agg #[.int .i64 ((N:Int) - (p:Nat)),.iface ta ya,.int .i64 (k:Nat)])
  have HB:Hid (Below w.heap.size w ((w.alloc (.cells #[.int .i64 ((N:Int) - (p:Nat)),.iface ta ya,.int .i64 (k:Nat)] 188)).alloc (.cells #[.iface ta ya] 105))):=(below_step ((Below.refl w.heap.size w).alloc (Nat.le_refl _) _) ((Below.refl _ _).alloc (Nat.le_refl _) _))
  have HC:Hid (∀j u,(#[.iface ta ya]:Array Value)[j]?=some u→(((w.alloc (.cells #[.int .i64 ((N:Int) - (p:Nat)),.iface ta ya,.int .i64 (k:Nat)] 188)).alloc (.cells #[.iface ta ya] 105))).cell? ⟨w.heap.size+1,j,none⟩=some u):=fun j u hu=>by
   have hr:=heap_alloc_new (w.alloc (.cells #[.int .i64 ((N:Int) - (p:Nat)),.iface ta ya,.int .i64 (k:Nat)] 188)) (.cells #[.iface ta ya] 105)
   have hz:(w.alloc (.cells #[.int .i64 ((N:Int) - (p:Nat)),.iface ta ya,.int .i64 (k:Nat)] 188)).heap.size=w.heap.size+1:=by simp
   rw [hz] at hr
   rw [cell_of_row _ _ j _ _ _ hr];exact hu
  go_enter Tryz.func89,Tryz.ntmps89
  go_wp2
  go_ret
  refine ⟨HB.out,_,rfl,Or.inr ⟨w.heap.size+1,by simp [Mip.kids,Mip.eUnder],fun j q hq=>?_⟩⟩
  refine HC.out j _ ?_
  match j,hq with
  | 0,hq=>
   have e:q=a:=(by simpa [Mip.kids,Mip.eUnder] using hq.symm)
   subst e
   rw [ea];rfl
  | j+1,hq=>simp [Mip.kids,Mip.eUnder] at hq
 ·intro p a b k _ _ ha hb
  refine ⟨⟨_,_,rfl⟩,fun w=>?_⟩
  obtain ⟨⟨ta,ya,ea⟩,_⟩:=ha
  obtain ⟨⟨tb,yb,eb⟩,_⟩:=hb
  have e0:ev N (Mip.eHold p a b k)=.iface 191 (.agg #[.int .i64 ((N:Int) - (p:Nat)),.iface ta ya,.iface tb yb,.int .i64 (k:Nat)]):=by show Value.iface _ (.agg #[.int .i64 ((N:Int) - (p:Nat)),ev N a,ev N b,.int .i64 (k:Nat)])=_;rw [ea,eb]
  rw [e0]
  have q0:=ta_hold_pre (.agg #[.int .i64 ((N:Int) - (p:Nat)),.iface ta ya,.iface tb yb,.int .i64 (k:Nat)])
  have q1:=ta_hold_two (.agg #[.int .i64 ((N:Int) - (p:Nat)),.iface ta ya,.iface tb yb,.int .i64 (k:Nat)])
  have q2:=ta_hold_if (.agg #[.int .i64 ((N:Int) - (p:Nat)),.iface ta ya,.iface tb yb,.int .i64 (k:Nat)])
  have q3:=ta_hold_fby (.agg #[.int .i64 ((N:Int) - (p:Nat)),.iface ta ya,.iface tb yb,.int .i64 (k:Nat)])
  have q4:=ta_hold_under (.agg #[.int .i64 ((N:Int) - (p:Nat)),.iface ta ya,.iface tb yb,.int .i64 (k:Nat)])
  have q5:=ta_hold_hold (.agg #[.int .i64 ((N:Int) - (p:Nat)),.iface ta ya,.iface tb yb,.int .i64 (k:Nat)])
  have HB:Hid (Below w.heap.size w ((w.alloc (.cells #[.int .i64 ((N:Int) - (p:Nat)),.iface ta ya,.iface tb yb,.int .i64 (k:Nat)] 191)).alloc (.cells #[.iface ta ya,.iface tb yb] 105))):=(below_step ((Below.refl w.heap.size w).alloc (Nat.le_refl _) _) ((Below.refl _ _).alloc (Nat.le_refl _) _))
  have HC:Hid (∀j u,(#[.iface ta ya,.iface tb yb]:Array Value)[j]?=some u→(((w.alloc (.cells #[.int .i64 ((N:Int) - (p:Nat)),.iface ta ya,.iface tb yb,.int .i64 (k:Nat)] 191)).alloc (.cells #[.iface ta ya,.iface tb yb] 105))).cell? ⟨w.heap.size+1,j,none⟩=some u):=fun j u hu=>by
   have hr:=heap_alloc_new (w.alloc (.cells #[.int .i64 ((N:Int) - (p:Nat)),.iface ta ya,.iface tb yb,.int .i64 (k:Nat)] 191)) (.cells #[.iface ta ya,.iface tb yb] 105)
   have hz:(w.alloc (.cells #[.int .i64 ((N:Int) - (p:Nat)),.iface ta ya,.iface tb yb,.int .i64 (k:Nat)] 191)).heap.size=w.heap.size+1:=by simp
   rw [hz] at hr
   rw [cell_of_row _ _ j _ _ _ hr];exact hu
  go_enter Tryz.func89,Tryz.ntmps89
  go_wp2
  go_ret
  refine ⟨HB.out,_,rfl,Or.inr ⟨w.heap.size+1,by simp [Mip.kids,Mip.eHold],fun j q hq=>?_⟩⟩
  refine HC.out j _ ?_
  match j,hq with
  | 0,hq=>
   have e:q=a:=(by simpa [Mip.kids,Mip.eHold] using hq.symm)
   subst e
   rw [ea];rfl
  | 1,hq=>
   have e:q=b:=(by simpa [Mip.kids,Mip.eHold] using hq.symm)
   subst e
   rw [eb];rfl
  | j+2,hq=>simp [Mip.kids,Mip.eHold] at hq
 ·intro p x a b _ ha hb
  refine ⟨⟨_,_,rfl⟩,fun w=>?_⟩
  obtain ⟨⟨ta,ya,ea⟩,_⟩:=ha
  obtain ⟨⟨tb,yb,eb⟩,_⟩:=hb
  have e0:ev N (Mip.eLeast p x a b)=.iface 180 (.agg #[.int .i64 ((N:Int) - (p:Nat)),.string (bs x),.iface ta ya,.iface tb yb]):=by show Value.iface _ (.agg #[.int .i64 ((N:Int) - (p:Nat)),.string (bs x),ev N a,ev N b])=_;rw [ea,eb]
  rw [e0]
  have q0:=ta_least_pre (.agg #[.int .i64 ((N:Int) - (p:Nat)),.string (bs x),.iface ta ya,.iface tb yb])
  have q1:=ta_least_two (.agg #[.int .i64 ((N:Int) - (p:Nat)),.string (bs x),.iface ta ya,.iface tb yb])
  have q2:=ta_least_if (.agg #[.int .i64 ((N:Int) - (p:Nat)),.string (bs x),.iface ta ya,.iface tb yb])
  have q3:=ta_least_fby (.agg #[.int .i64 ((N:Int) - (p:Nat)),.string (bs x),.iface ta ya,.iface tb yb])
  have q4:=ta_least_under (.agg #[.int .i64 ((N:Int) - (p:Nat)),.string (bs x),.iface ta ya,.iface tb yb])
  have q5:=ta_least_hold (.agg #[.int .i64 ((N:Int) - (p:Nat)),.string (bs x),.iface ta ya,.iface tb yb])
  have q6:=ta_least_least (.agg #[.int .i64 ((N:Int) - (p:Nat)),.string (bs x),.iface ta ya,.iface tb yb])
  have HB:Hid (Below w.heap.size w ((w.alloc (.cells #[.int .i64 ((N:Int) - (p:Nat)),.string (bs x),.iface ta ya,.iface tb yb] 180)).alloc (.cells #[.iface ta ya,.iface tb yb] 105))):=(below_step ((Below.refl w.heap.size w).alloc (Nat.le_refl _) _) ((Below.refl _ _).alloc (Nat.le_refl _) _))
  have HC:Hid (∀j u,(#[.iface ta ya,.iface tb yb]:Array Value)[j]?=some u→(((w.alloc (.cells #[.int .i64 ((N:Int) - (p:Nat)),.string (bs x),.iface ta ya,.iface tb yb] 180)).alloc (.cells #[.iface ta ya,.iface tb yb] 105))).cell? ⟨w.heap.size+1,j,none⟩=some u):=fun j u hu=>by
   have hr:=heap_alloc_new (w.alloc (.cells #[.int .i64 ((N:Int) - (p:Nat)),.string (bs x),.iface ta ya,.iface tb yb] 180)) (.cells #[.iface ta ya,.iface tb yb] 105)
   have hz:(w.alloc (.cells #[.int .i64 ((N:Int) - (p:Nat)),.string (bs x),.iface ta ya,.iface tb yb] 180)).heap.size=w.heap.size+1:=by simp
   rw [hz] at hr
   rw [cell_of_row _ _ j _ _ _ hr];exact hu
  go_enter Tryz.func89,Tryz.ntmps89
  go_wp2
  go_ret
  refine ⟨HB.out,_,rfl,Or.inr ⟨w.heap.size+1,by simp [Mip.kids,Mip.eLeast],fun j q hq=>?_⟩⟩
  refine HC.out j _ ?_
  match j,hq with
  | 0,hq=>
   have e:q=a:=(by simpa [Mip.kids,Mip.eLeast] using hq.symm)
   subst e
   rw [ea];rfl
  | 1,hq=>
   have e:q=b:=(by simpa [Mip.kids,Mip.eLeast] using hq.symm)
   subst e
   rw [eb];rfl
  | j+2,hq=>simp [Mip.kids,Mip.eLeast] at hq
theorem operands_any (N:Nat) (e:Mip.E) (h:Mil.wf (Mip.er e) false) (w:World):Calls Tryz.prog 89 #[ev N e] w (OpPost N e w):=(operands_all N e h).2 w
theorem ev_iface (N:Nat) (e:Mip.E) (h:Mil.wf (Mip.er e) false):∃t y,ev N e=.iface t y:=(operands_all N e h).1
end
section
open Go.RowKit Go.Maps
structure Fr (own:Nat→Prop) (w w':World):Prop where
 os:w'.os=w.os
 tape:w'.tape=w.tape
 output:w'.output=w.output
 size:w.heap.size≤w'.heap.size
 block:∀k,k < w.heap.size→¬own k→w'.heap[k]?=w.heap[k]?
theorem Fr.refl (own:Nat→Prop) (w:World):Fr own w w:=⟨rfl,rfl,rfl,Nat.le_refl _,fun _ _ _=>rfl⟩
theorem Fr.of_below {own:Nat→Prop} {w w':World} (h:Below w.heap.size w w'):Fr own w w':=⟨h.os,h.tape,h.output,h.size,fun k h1 _=>h.block k h1⟩
theorem Fr.trans {own own':Nat→Prop} {u v w:World} (h:Fr own u v) (k:Fr own' v w) (ho:∀i,i < u.heap.size→own' i→own i):Fr own u w:=
 ⟨k.os.trans h.os,k.tape.trans h.tape,k.output.trans h.output,Nat.le_trans h.size k.size,fun i h1 h2=>(k.block i (Nat.lt_of_lt_of_le h1 h.size) (fun e=>h2 (ho i h1 e))).trans (h.block i h1 h2)⟩
theorem Fr.held {own:Nat→Prop} {w w':World} (h:Fr own w w') {p:Addr} {v:Value} (hv:w.cell? p=some v) (hb:¬own p.block):w'.cell? p=some v:=
 (World.cell?_of_block (w:=w) (h.block p.block (lt_of_cell hv) hb)).trans hv
theorem Fr.grown {w w':World} {b:Nat} (h:w.grownBy w' (some b)):Fr (fun i=>i=b) w w':=
 ⟨h.os,h.tape,h.output,h.size,fun k h1 h2=>h.block k h1 (fun e=>h2 (Option.some.inj e))⟩
abbrev upd (m:Mil.Bytes→Option Int) (x:Mil.Bytes) (k:Int):Mil.Bytes→Option Int:=fun y=>if y=x then some k else m y
def pickD (o:Option Int) (z:DataW Unit):DataW Unit:=match o with | some k=>.lit (.int .i64 k) | none=>z
def Msi (w:World) (b n:Nat) (m:Mil.Bytes→Option Int):Prop:=
 ∃D:DataW Unit,w.ownsMap Tryz.prog 9 (plainElem Tryz.prog 3) b n D∧∀x:Mil.Bytes,Maps.has D (.string x)=(m x).isSome∧∀z,D.atKey (.string x) z=pickD (m x) z
theorem zeroI (w:World):(zeroValue 3).run Tryz.prog w=.ok (.int .i64 0) w:=by kernel_rfl
theorem keyS (x:Mil.Bytes) (hx:x.length≤4000):keyOf Tryz.prog 9 (.string (bs x))=some (.string x):=by
 have h:=WideMaps.keyOf_string_mk (P:=Tryz.prog) (s:=bs x) Tryz.underlying9 (by rw [bs_size];unfold maxLen;omega)
 simpa [bs] using h
theorem Msi.got {D:DataW Unit} {m:Mil.Bytes→Option Int} {x:Mil.Bytes} (h:∀z,D.atKey (.string x) z=pickD (m x) z) {c:Int} (hc:D.atKey (.string x) (.lit (.int .i64 0))=.lit (.int .i64 c)):c=(m x).getD 0:=by
 rw [h] at hc
 cases hm:m x with
 | none=>
  rw [hm] at hc
  have hc':(DataW.lit (.int .i64 0):DataW Unit)=.lit (.int .i64 c):=hc
  simpa using hc'.symm
 | some k=>
  rw [hm] at hc
  have hc':(DataW.lit (.int .i64 k):DataW Unit)=.lit (.int .i64 c):=hc
  simpa using hc'.symm
theorem Msi.look {w:World} {b n:Nat} {m:Mil.Bytes→Option Int} (h:Msi w b n m) (x:Mil.Bytes) (hx:x.length≤4000) :
  (Instr.lookup 72 (.map (some b)) (.string (bs x)) true).run Tryz.prog w=.ok (.tuple #[.int .i64 ((m x).getD 0),.bool (m x).isSome]) w:=by
 obtain ⟨D,ho,hD⟩:=h
 obtain ⟨v,ps,hrun,hv⟩:=ho.look_ok (string_keyed Tryz.underlying9) Tryz.underlying72 (zeroI w) (plainElem_int Tryz.underlying3 (by decide)) (keyS x hx)
 obtain ⟨c,rfl,hc,_⟩:=plainElem_int_inv Tryz.underlying3 hv
 rw [hrun,(hD x).1,Msi.got (hD x).2 (congrArg Prod.fst hc)]
theorem Msi.at_ {w:World} {b n:Nat} {m:Mil.Bytes→Option Int} (h:Msi w b n m) (x:Mil.Bytes) (hx:x.length≤4000) :
  (Instr.lookup 72 (.map (some b)) (.string (bs x)) false).run Tryz.prog w=.ok (.int .i64 ((m x).getD 0)) w:=by
 obtain ⟨D,ho,hD⟩:=h
 obtain ⟨c,hrun,hc,_⟩:=ho.lookup_int (string_keyed Tryz.underlying9) Tryz.underlying72 Tryz.underlying3 (zeroI w) (keyS x hx)
 rw [hrun,Msi.got (hD x).2 hc]
theorem Msi.store {w:World} {b n:Nat} {m:Mil.Bytes→Option Int} (h:Msi w b n m) (x:Mil.Bytes) (hx:x.length≤4000) (hn:n≤1000000) (k:Int) (hk:(Lit.int .i64 k).wf=true) :
  ∃w',(Instr.mapUpdate 72 (.map (some b)) (.string (bs x)) (.int .i64 k)).run Tryz.prog w=.ok () w'∧Msi w' b (n+1) (upd m x k)∧Fr (fun i=>i=b) w w':=by
 obtain ⟨D,ho,hD⟩:=h
 obtain ⟨w',hrun,ho',hg⟩:=ho.update (string_keyed Tryz.underlying9) Tryz.underlying72 (by unfold maxLen;omega) (keyS x hx) (plainElem_int (H:=Unit) Tryz.underlying3 hk)
 refine ⟨w',hrun,⟨_,ho',fun y=>?_⟩,Fr.grown hg⟩
 by_cases e:y=x
 ·subst e
  have e1:upd m y k y=some k:=if_pos rfl
  rw [e1]
  have kk:WideAt.IsKeyLit (.string y):=trivial
  exact ⟨has_put_same ho.isMap kk _,fun z=>atKey_put_same ho.isMap kk _ z⟩
 ·have e1:upd m x k y=m y:=if_neg e
  have ne:(Lit.string y)≠.string x:=fun h=>e (by injection h)
  rw [e1,has_put_other ne]
  exact ⟨(hD y).1,fun z=>(atKey_put_other ne _ z).trans ((hD y).2 z)⟩
theorem Msi.fr {own:Nat→Prop} {w w':World} {b n:Nat} {m:Mil.Bytes→Option Int} (h:Msi w b n m) (k:Fr own w w') (hb:¬own b):Msi w' b n m:=by
 obtain ⟨D,ho,hD⟩:=h
 have hlt:=ho.lt
 obtain ⟨es,clock,h1,h2⟩:=ho
 exact ⟨D,⟨es,clock,(k.block b hlt hb).trans h1,h2⟩,hD⟩
theorem Msi.drew {w:World} {b n:Nat} {m:Mil.Bytes→Option Int} (h:Msi w b n m):Msi w.drew b n m:=by
 obtain ⟨D,ho,hD⟩:=h
 exact ⟨D,ho.drew,hD⟩
theorem Msi.made (w:World):Msi (w.alloc (.map #[] 0)) w.heap.size 0 (fun _=>none):=
 ⟨.map [],World.ownsMap_made _ _ _ _,fun _=>⟨rfl,fun _=>rfl⟩⟩
structure Ce (a:Nat→Addr) (w:World):Prop where
 size:23≤w.heap.size
 e5:w.cell? ⟨7,0,none⟩=some (errV (a 5))
 e6:w.cell? ⟨8,0,none⟩=some (errV (a 6))
 e7:w.cell? ⟨9,0,none⟩=some (errV (a 7))
 e8:w.cell? ⟨10,0,none⟩=some (errV (a 8))
 e9:w.cell? ⟨11,0,none⟩=some (errV (a 9))
 e10:w.cell? ⟨12,0,none⟩=some (errV (a 10))
theorem Ce.fr {a:Nat→Addr} {own:Nat→Prop} {w w':World} (h:Ce a w) (k:Fr own w w') (ho:∀i,own i→23≤i):Ce a w':=by
 have n:∀g,g < 23→¬own g:=fun g hg e=>by have:=ho g e;omega
 exact ⟨Nat.le_trans h.size k.size,k.held h.e5 (n _ (by decide)),k.held h.e6 (n _ (by decide)),k.held h.e7 (n _ (by decide)),k.held h.e8 (n _ (by decide)),k.held h.e9 (n _ (by decide)),k.held h.e10 (n _ (by decide))⟩
theorem Ce.below {a:Nat→Addr} {w w':World} (h:Ce a w) (k:Below w.heap.size w w'):Ce a w':=h.fr (Fr.of_below (own:=fun _=>False) k) (fun _ e=>e.elim)
def Dg (a:Nat→Addr) (w':World) (d:Nat) (at_:Int) (k:Nat):Prop:=w'.heap[d]?=some (.cells #[.int .i64 at_,errV (a k)] 81 (0,0))
theorem dg_new (a:Nat→Addr) (u:World) (n:Nat) (hn:u.heap.size=n) (at_:Int) (k:Nat):Dg a (u.alloc (.cells #[.int .i64 at_,errV (a k)] 81)) n at_ k:=by
 rw [←hn]
 exact heap_alloc_new _ _
abbrev nameV (at_:Int) (x:Mil.Bytes):Value:=.agg #[.int .i64 at_,.string (bs x)]
theorem enter_twice (a:Nat→Addr) (w:World) (hE:Ce a w) (b n:Nat) (m:Mil.Bytes→Option Int) (hM:Msi w b n m) (x:Mil.Bytes) (hx:x.length≤4000) (at_ k:Int) (hm:(m x).isSome=true) :
  Calls Tryz.prog 87 #[.map (some b),nameV at_ x,.int .i64 k] w fun E w'=>Below w.heap.size w w'∧∃d,E=.returned (.pointer (some ⟨d,0,none⟩))∧Dg a w' d at_ 5:=by
 have HB:Hid (Below w.heap.size w (w.alloc (.cells #[.int .i64 at_,.string (bs x)] 103))):=(Below.refl _ _).alloc (Nat.le_refl _) _
 have hl:=((hM.fr (Fr.of_below (own:=fun _=>False) HB.out) (fun e=>e)).look x hx)
 rw [hm] at hl
 have he:=(hE.below HB.out).e5
 clear hE hM
 go_enter Tryz.func87,Tryz.ntmps87
 go_wp2
 go_ret
 refine ⟨below_step HB.out ((Below.refl _ _).alloc (Nat.le_refl _) _),_,rfl,?_⟩
 exact dg_new a _ _ (by simp) _ _
theorem enter_new (w:World) (b n:Nat) (m:Mil.Bytes→Option Int) (hM:Msi w b n m) (x:Mil.Bytes) (hx:x.length≤4000) (hn:n≤1000000) (at_ k:Int) (hk:(Lit.int .i64 k).wf=true) (hm:(m x).isSome=false) :
  Calls Tryz.prog 87 #[.map (some b),nameV at_ x,.int .i64 k] w fun E w'=>E=.returned (.pointer none)∧Msi w' b (n+1) (upd m x k)∧Fr (fun i=>i=b) w w':=by
 have HB:Hid (Below w.heap.size w (w.alloc (.cells #[.int .i64 at_,.string (bs x)] 103))):=(Below.refl _ _).alloc (Nat.le_refl _) _
 have hM1:=hM.fr (Fr.of_below (own:=fun _=>False) HB.out) (fun e=>e)
 have hl:=hM1.look x hx
 rw [hm] at hl
 obtain ⟨w1,hst,hM2,hF⟩:=hM1.store x hx hn k hk
 have HM2:Hid (Msi w1 b (n+1) (upd m x k)):=hM2
 have HF:Hid (Fr (fun i=>i=b) w w1):=(Fr.of_below HB.out).trans hF (fun _ _ e=>e)
 clear hM hM1 hM2 hF HB
 go_enter Tryz.func87,Tryz.ntmps87
 go_wp2
 go_ret
 exact ⟨rfl,HM2.out,HF.out⟩
theorem numberOf_some (w:World) (c b n:Nat) (hc:w.cell? ⟨c,2,none⟩=some (.map (some b))) (m:Mil.Bytes→Option Int) (hM:Msi w b n m) (x:Mil.Bytes) (hx:x.length≤4000) (at_ k:Int) (hm:m x=some k) :
  Calls Tryz.prog 88 #[.pointer (some ⟨c,0,none⟩),nameV at_ x] w fun E w'=>Below w.heap.size w w'∧E=.returned (.tuple #[.int .i64 k,.pointer none]):=by
 have HB:Hid (Below w.heap.size w (w.alloc (.cells #[.int .i64 at_,.string (bs x)] 103))):=(Below.refl _ _).alloc (Nat.le_refl _) _
 have hl:=(hM.fr (Fr.of_below (own:=fun _=>False) HB.out) (fun e=>e)).drew.look x hx
 rw [hm] at hl
 have hl':(Instr.lookup 72 (.map (some b)) (.string (bs x)) true).run Tryz.prog (w.alloc (.cells #[.int .i64 at_,.string (bs x)] 103)).drew=.ok (.tuple #[.int .i64 k,.bool true]) (w.alloc (.cells #[.int .i64 at_,.string (bs x)] 103)).drew:=hl
 have hc':=(HB.out.cell (lt_of_cell hc)).trans hc
 clear hM hl hc
 go_enter Tryz.func88,Tryz.ntmps88
 go_wp2_with fail
 go_region
 go_wp2
 go_ret2
 exact ⟨HB.out.drew,rfl⟩
theorem numberOf_none (a:Nat→Addr) (w:World) (hE:Ce a w) (c b n:Nat) (hc:w.cell? ⟨c,2,none⟩=some (.map (some b))) (m:Mil.Bytes→Option Int) (hM:Msi w b n m) (x:Mil.Bytes) (hx:x.length≤4000) (at_:Int) (hm:m x=none) :
  Calls Tryz.prog 88 #[.pointer (some ⟨c,0,none⟩),nameV at_ x] w fun E w'=>Below w.heap.size w w'∧∃d,E=.returned (.tuple #[.int .i64 0,.pointer (some ⟨d,0,none⟩)])∧Dg a w' d at_ 6:=by
 have HB:Hid (Below w.heap.size w (w.alloc (.cells #[.int .i64 at_,.string (bs x)] 103))):=(Below.refl _ _).alloc (Nat.le_refl _) _
 have hl:=(hM.fr (Fr.of_below (own:=fun _=>False) HB.out) (fun e=>e)).drew.look x hx
 rw [hm] at hl
 have hl':(Instr.lookup 72 (.map (some b)) (.string (bs x)) true).run Tryz.prog (w.alloc (.cells #[.int .i64 at_,.string (bs x)] 103)).drew=.ok (.tuple #[.int .i64 0,.bool false]) (w.alloc (.cells #[.int .i64 at_,.string (bs x)] 103)).drew:=hl
 have hc':=(HB.out.cell (lt_of_cell hc)).trans hc
 have he:=(hE.below HB.out).e6
 clear hM hl hc hE
 go_enter Tryz.func88,Tryz.ntmps88
 go_wp2_with fail
 go_region
 go_wp2_with fail
 go_region
 go_wp2
 go_ret2
 exact ⟨(below_step HB.out ((Below.refl _ _).alloc (Nat.le_refl _) _)).drew.drew,_,rfl,dg_new a (w.alloc (.cells #[.int .i64 at_,.string (bs x)] 103)) _ (by simp) at_ 6⟩
end
end Go.Proofs.YticbokabjhnagaaGreatDoor
