import Derived.Test.YticbokabjhnagaaGreatDoorW21
namespace Go.Proofs.YticbokabjhnagaaGreatDoor
set_option maxHeartbeats 32000000
section
open Go.RowKit
section
variable {N:Nat} {w0:World} {iv:Value} {c b n:Nat} {m:Mil.Bytes→Option Int} {F:List Flo} {X:List (Nq×Value)} {fv qv:Value} {w w':World}
theorem Cs.off {k:Nat} (h:Cs N w0 iv c b n m F X fv qv w) (fr:Fr (fun i=>i=k) w w') (hk:w0.heap.size≤k) (kc:k≠c) (kb:k≠b) (kf:fv.ownBlock≠some k) (kq:qv.ownBlock≠some k):Cs N w0 iv c b n m F X fv qv w':=
 ⟨⟨fr.os.trans h.blw.os,fr.tape.trans h.blw.tape,fr.output.trans h.blw.output,Nat.le_trans h.blw.size fr.size,fun i hi=>(fr.block i (Nat.lt_of_lt_of_le hi h.blw.size) (fun e=>by have e':i=k:=e;omega)).trans (h.blw.block i hi)⟩,h.hc,h.hb,(fr.block c (lt_of_heap h.cm) (fun e=>kc e.symm)).trans h.cm,h.mp.fr fr (fun e=>kb e.symm),
  own_kept h.fl (fun q hq=>fr.block q (lt_of_heap (own_lt h.fl q hq).2.choose_spec) (fun e=>kf ((show q=k from e) ▸ hq))),own_kept h.eq (fun q hq=>fr.block q (lt_of_heap (own_lt h.eq q hq).2.choose_spec) (fun e=>kq ((show q=k from e) ▸ hq)))⟩
theorem Cs.new (h:Cs N w0 iv c b n m F X fv qv w) {k:Nat} (hk:w.heap.size≤k):w0.heap.size≤k∧k≠c∧k≠b∧fv.ownBlock≠some k∧qv.ownBlock≠some k:=by
 obtain ⟨es,cl,hbm⟩:=h.mp.heap
 have h1:=lt_of_heap h.cm
 have h2:=lt_of_heap hbm
 have h3:=h.blw.size
 refine ⟨by omega,by omega,by omega,fun e=>?_,fun e=>?_⟩
 ·have:=lt_of_heap (own_lt h.fl k e).2.choose_spec;omega
 ·have:=lt_of_heap (own_lt h.eq k e).2.choose_spec;omega
theorem fr_set (w:World) (k o:Nat) (v:Value):Fr (fun i=>i=k) w (w.setCell ⟨k,o,none⟩ v):=⟨rfl,rfl,rfl,by simp,fun q _ hq=>Below.heap_setCell w ⟨k,o,none⟩ v q hq⟩
end
theorem Tryz.infoFlo:(Tryz.prog.info? 42).map (fun i=>(i.zero,i.size,i.bytes))=some (some (.agg #[.string ⟨#[]⟩,.int .i64 0,.int .i64 0,.bool false,.bool false]),5,40):=by kernel_rfl
theorem news_cells (w:World) (l:List Value) (e:TypeId):∀(j:Nat) (u:Value),l[j]?=some u→(w.alloc (.cells l.toArray e)).cell? ((⟨w.heap.size,0,none⟩:Addr).add j)=some u:=fun j u h=>by
 have e1:(⟨w.heap.size,0,none⟩:Addr).add j=⟨w.heap.size,j,none⟩:=by
  unfold Addr.add
  split
  ·rename_i h;rw [h]
  ·simp
 rw [e1,cell_of_row _ _ j _ _ _ (heap_alloc_new w _)]
 simpa using h
theorem addFlow_twice {N:Nat} {a:Nat→Addr} {w0:World} {iv:Value} {c b n:Nat} {m:Mil.Bytes→Option Int} {F:List Flo} {X:List (Nq×Value)} {fv qv:Value} {w:World} (h:Cs N w0 iv c b n m F X fv qv w) (hE:Ce a w) (x:Mil.Bytes) (hx:x.length≤4000) (hm:(m x).isSome=true) (at_:Int) (s0:ByteArray) (ty per:Nat) (i o:Bool) :
  Calls Tryz.prog 54 #[.pointer (some ⟨c,0,none⟩),nameV at_ x,.agg #[.string s0,.int .i64 (ty:Nat),.int .i64 (per:Nat),.bool i,.bool o]] w fun E w'=>Below w.heap.size w w'∧∃d,E=.returned (.pointer (some ⟨d,0,none⟩))∧Dg a w' d at_ 5:=by
 obtain ⟨of,cf,hfv⟩:=own_shape h.fl
 have HB:Hid (Below w.heap.size w ((w.alloc (.cells #[.int .i64 at_,.string (bs x)] 103)).alloc (.cells #[.string s0,.int .i64 (ty:Nat),.int .i64 (per:Nat),.bool i,.bool o] 42))):=below_step ((Below.refl _ _).alloc (Nat.le_refl _) _) ((Below.refl _ _).alloc (Nat.le_refl _) _)
 have HC:Hid (Cs N w0 iv c b n m F X fv qv ((w.alloc (.cells #[.int .i64 at_,.string (bs x)] 103)).alloc (.cells #[.string s0,.int .i64 (ty:Nat),.int .i64 (per:Nat),.bool i,.bool o] 42))):=h.below HB.out
 have HE:Hid (Ce a ((w.alloc (.cells #[.int .i64 at_,.string (bs x)] 103)).alloc (.cells #[.string s0,.int .i64 (ty:Nat),.int .i64 (per:Nat),.bool i,.bool o] 42))):=hE.below HB.out
 have HN:Hid (((w.alloc (.cells #[.int .i64 at_,.string (bs x)] 103)).alloc (.cells #[.string s0,.int .i64 (ty:Nat),.int .i64 (per:Nat),.bool i,.bool o] 42)).heap[w.heap.size]?=some (.cells #[.int .i64 at_,.string (bs x)] 103 (0,0))):=by
  show _=_
  rw [Below.heap_alloc _ _ _ (by simp)]
  exact heap_alloc_new _ _
 have HX:Hid (x.length≤4000∧(m x).isSome=true):=⟨hx,hm⟩
 have HFV:Hid (fv=.slice of F.length cf):=hfv
 clear h hE hx hm hfv
 go_enter Tryz.func54,Tryz.ntmps54
 go_wp2_with fail
 generalize (w.alloc (.cells #[.int .i64 at_,.string (bs x)] 103)).alloc (.cells #[.string s0,.int .i64 (ty:Nat),.int .i64 (per:Nat),.bool i,.bool o] 42)=W at HB HC HE HN ⊢
 have n0:W.cell? ⟨w.heap.size,0,none⟩=some (.int .i64 at_):=(cell_of_row W _ 0 _ _ _ HN.out).trans rfl
 have n1:W.cell? ⟨w.heap.size,1,none⟩=some (.string (bs x)):=(cell_of_row W _ 1 _ _ _ HN.out).trans rfl
 obtain ⟨d0,d1,d2,d3⟩:=HC.out.cells
 rw [HFV.out] at d1
 refine region_held (fun w'=>w'.cell? ⟨c,1,none⟩=some (.slice of F.length cf)∧w'.cell? ⟨c,2,none⟩=some (.map (some b))∧w'.cell? ⟨w.heap.size,0,none⟩=some (.int .i64 at_)∧w'.cell? ⟨w.heap.size,1,none⟩=some (.string (bs x))) (by kernel_rfl) ⟨d1,d2,n0,n1⟩ (fun hS=>?_)
 clear d0 d3
 refine held_take 0 (v:=?_) rfl (by kernel_rfl) (by kernel_rfl) (by kernel_rfl) (fun _ _ _ h=>h) (Or.inl ⟨by rfl,?_⟩) (by assumption) ?_
 rotate_left 1
 ·(intro w' hSw;(try dsimp only at hSw);go_simp <;> with_reducible rfl)
 try simp only [Act.put,List.setIfInBounds_toArray,List.set_cons_zero,List.set_cons_succ]
 refine held_take 1 (v:=?_) rfl (by kernel_rfl) (by kernel_rfl) (by kernel_rfl) (fun _ _ _ h=>h) (Or.inl ⟨by rfl,?_⟩) (by assumption) ?_
 rotate_left 1
 ·(intro w' hSw;(try dsimp only at hSw);go_simp <;> with_reducible rfl)
 try simp only [Act.put,List.setIfInBounds_toArray,List.set_cons_zero,List.set_cons_succ]
 refine held_take 2 (v:=?_) rfl (by kernel_rfl) (by kernel_rfl) (by kernel_rfl) (fun _ _ _ h=>h) (Or.inl ⟨by rfl,?_⟩) (by assumption) ?_
 rotate_left 1
 ·(intro w' hSw;(try dsimp only at hSw);go_simp <;> with_reducible rfl)
 try simp only [Act.put,List.setIfInBounds_toArray,List.set_cons_zero,List.set_cons_succ]
 refine held_take 3 (v:=?_) rfl (by kernel_rfl) (by kernel_rfl) (by kernel_rfl) (fun _ _ _ h=>h) (Or.inl ⟨by rfl,?_⟩) (by assumption) ?_
 rotate_left 1
 ·(intro w' hSw;(try dsimp only at hSw);go_simp <;> with_reducible rfl)
 try simp only [Act.put,List.setIfInBounds_toArray,List.set_cons_zero,List.set_cons_succ]
 refine held_take 4 (v:=?_) rfl (by kernel_rfl) (by kernel_rfl) (by kernel_rfl) (fun _ _ _ h=>h) (Or.inl ⟨by rfl,?_⟩) (by assumption) ?_
 rotate_left 1
 ·(intro w' hSw;(try dsimp only at hSw);go_simp <;> with_reducible rfl)
 try simp only [Act.put,List.setIfInBounds_toArray,List.set_cons_zero,List.set_cons_succ]
 refine held_take 5 (v:=?_) rfl (by kernel_rfl) (by kernel_rfl) (by kernel_rfl) (fun _ _ _ h=>h) (Or.inl ⟨by rfl,?_⟩) (by assumption) ?_
 rotate_left 1
 ·(intro w' hSw;(try dsimp only at hSw);go_simp <;> with_reducible rfl)
 try simp only [Act.put,List.setIfInBounds_toArray,List.set_cons_zero,List.set_cons_succ]
 refine held_take 6 (v:=?_) rfl (by kernel_rfl) (by kernel_rfl) (by kernel_rfl) (fun _ _ _ h=>h) (Or.inl ⟨by rfl,?_⟩) (by assumption) ?_
 rotate_left 1
 ·(intro w' hSw;(try dsimp only at hSw);go_simp <;> with_reducible rfl)
 try simp only [Act.put,List.setIfInBounds_toArray,List.set_cons_zero,List.set_cons_succ]
 refine held_take 7 (v:=?_) rfl (by kernel_rfl) (by kernel_rfl) (by kernel_rfl) (fun _ _ _ h=>h) (Or.inl ⟨by rfl,?_⟩) (by assumption) ?_
 rotate_left 1
 ·(intro w' hSw;(try dsimp only at hSw);go_simp <;> with_reducible rfl)
 try simp only [Act.put,List.setIfInBounds_toArray,List.set_cons_zero,List.set_cons_succ]
 refine held_take 8 (v:=?_) rfl (by kernel_rfl) (by kernel_rfl) (by kernel_rfl) (fun _ _ _ h=>h) (Or.inl ⟨by rfl,?_⟩) (by assumption) ?_
 rotate_left 1
 ·(intro w' hSw;(try dsimp only at hSw);go_simp <;> with_reducible rfl)
 try simp only [Act.put,List.setIfInBounds_toArray,List.set_cons_zero,List.set_cons_succ]
 refine held_take 9 (v:=?_) rfl (by kernel_rfl) (by kernel_rfl) (by kernel_rfl) (fun _ _ _ h=>h) (Or.inl ⟨by rfl,?_⟩) (by assumption) ?_
 rotate_left 1
 ·(intro w' hSw;(try dsimp only at hSw);go_simp <;> with_reducible rfl)
 try simp only [Act.put,List.setIfInBounds_toArray,List.set_cons_zero,List.set_cons_succ]
 refine held_one 10 (by kernel_rfl) rfl (fun K hK=>?_)
 go_simp
 refine (enter_twice a _ (HE.out.below (Below.refl _ _).drew) b n m HC.out.mp.drew x HX.out.1 at_ _ HX.out.2).mono ?_
 rintro E w1 ⟨hb1,d,rfl,hd⟩
 have HD:Hid (Dg a w1 d at_ 5):=hd
 have HB1:Hid (Below w.heap.size w w1):=below_step HB.out.drew hb1
 have kp:∀{q:Addr} {v:Value},W.cell? q=some v→w1.cell? q=some v:=fun hq=>(hb1.cell (lt_of_cell (w:=W.drew) hq)).trans hq
 refine hK.out _ _ ⟨kp d1,kp d2,kp n0,kp n1⟩ (fun hS=>?_)
 clear hK K kp hb1 hd d1 d2 n0 n1
 try simp only [Act.put,List.setIfInBounds_toArray,List.set_cons_zero,List.set_cons_succ]
 refine held_take 11 (v:=?_) rfl (by kernel_rfl) (by kernel_rfl) (by kernel_rfl) (fun _ _ _ h=>h) (Or.inl ⟨by rfl,?_⟩) (by assumption) ?_
 rotate_left 1
 ·(intro w' hSw;(try dsimp only at hSw);go_simp <;> with_reducible rfl)
 try simp only [Act.put,List.setIfInBounds_toArray,List.set_cons_zero,List.set_cons_succ]
 refine wpAnyH_done (by kernel_rfl) ?_ _
 clear hS
 go_wp2
 go_ret
 exact ⟨HB1.out,d,rfl,HD.out⟩
set_option maxRecDepth 100000 in
theorem addFlow_new {N:Nat} {w0:World} {iv:Value} {c b n:Nat} {m:Mil.Bytes→Option Int} {F:List Flo} {X:List (Nq×Value)} {fv qv:Value} {w:World} (h:Cs N w0 iv c b n m F X fv qv w) (hF:F.length≤1000) (x:Mil.Bytes) (hx:x.length≤4000) (hn:n≤1000000) (hm:(m x).isSome=false) (at_:Int) (s0:ByteArray) (ty per:Nat) (i o:Bool) :
  Calls Tryz.prog 54 #[.pointer (some ⟨c,0,none⟩),nameV at_ x,.agg #[.string s0,.int .i64 (ty:Nat),.int .i64 (per:Nat),.bool i,.bool o]] w fun E w'=>E=.returned (.pointer none)∧(∃g cap,Cs N w0 iv c b (n+1) (upd m x (F.length:Nat)) (F++[⟨x,ty,per,i,o⟩]) X (.slice (some ⟨g,0,none⟩) (F.length+1) cap) qv w')∧Fr (fun i=>i=b∨i=c∨fv.ownBlock=some i) w w':=by
 obtain ⟨of,cf,hfv⟩:=own_shape h.fl
 have HB:Hid (Below w.heap.size w ((w.alloc (.cells #[.int .i64 at_,.string (bs x)] 103)).alloc (.cells #[.string s0,.int .i64 (ty:Nat),.int .i64 (per:Nat),.bool i,.bool o] 42))):=below_step ((Below.refl _ _).alloc (Nat.le_refl _) _) ((Below.refl _ _).alloc (Nat.le_refl _) _)
 have HC:Hid (Cs N w0 iv c b n m F X fv qv ((w.alloc (.cells #[.int .i64 at_,.string (bs x)] 103)).alloc (.cells #[.string s0,.int .i64 (ty:Nat),.int .i64 (per:Nat),.bool i,.bool o] 42))):=h.below HB.out
 have HN:Hid (((w.alloc (.cells #[.int .i64 at_,.string (bs x)] 103)).alloc (.cells #[.string s0,.int .i64 (ty:Nat),.int .i64 (per:Nat),.bool i,.bool o] 42)).heap[w.heap.size]?=some (.cells #[.int .i64 at_,.string (bs x)] 103 (0,0))):=by
  show _=_
  rw [Below.heap_alloc _ _ _ (by simp)]
  exact heap_alloc_new _ _
 have HL:Hid (((w.alloc (.cells #[.int .i64 at_,.string (bs x)] 103)).alloc (.cells #[.string s0,.int .i64 (ty:Nat),.int .i64 (per:Nat),.bool i,.bool o] 42)).heap[w.heap.size+1]?=some (.cells #[.string s0,.int .i64 (ty:Nat),.int .i64 (per:Nat),.bool i,.bool o] 42 (0,0))):=by
  show _=_
  have e:=heap_alloc_new (w.alloc (.cells #[.int .i64 at_,.string (bs x)] 103)) (.cells #[.string s0,.int .i64 (ty:Nat),.int .i64 (per:Nat),.bool i,.bool o] 42)
  rwa [World.size_alloc] at e
 have HX:Hid (x.length≤4000∧(m x).isSome=false∧n≤1000000∧F.length≤1000):=⟨hx,hm,hn,hF⟩
 have HFV:Hid (fv=.slice of F.length cf):=hfv
 have HA:Hid (∀k,w.heap.size≤k→w0.heap.size≤k∧k≠c∧k≠b∧fv.ownBlock≠some k∧qv.ownBlock≠some k):=fun k hk=>h.new hk
 obtain ⟨f0,hf0,fz0,fz1,fz2⟩:=info_parts Tryz.infoFlo
 clear h hx hm hfv hn hF
 go_enter Tryz.func54,Tryz.ntmps54
 go_wp2_with fail
 generalize (w.alloc (.cells #[.int .i64 at_,.string (bs x)] 103)).alloc (.cells #[.string s0,.int .i64 (ty:Nat),.int .i64 (per:Nat),.bool i,.bool o] 42)=W at HB HC HN HL ⊢
 have n0:W.cell? ⟨w.heap.size,0,none⟩=some (.int .i64 at_):=(cell_of_row W _ 0 _ _ _ HN.out).trans rfl
 have n1:W.cell? ⟨w.heap.size,1,none⟩=some (.string (bs x)):=(cell_of_row W _ 1 _ _ _ HN.out).trans rfl
 obtain ⟨d0,d1,d2,d3⟩:=HC.out.cells
 rw [HFV.out] at d1
 refine region_held (fun w'=>w'.cell? ⟨c,1,none⟩=some (.slice of F.length cf)∧w'.cell? ⟨c,2,none⟩=some (.map (some b))∧w'.cell? ⟨w.heap.size,0,none⟩=some (.int .i64 at_)∧w'.cell? ⟨w.heap.size,1,none⟩=some (.string (bs x))) (by kernel_rfl) ⟨d1,d2,n0,n1⟩ (fun hS=>?_)
 clear d0 d3
 refine held_take 0 (v:=?_) rfl (by kernel_rfl) (by kernel_rfl) (by kernel_rfl) (fun _ _ _ h=>h) (Or.inl ⟨by rfl,?_⟩) (by assumption) ?_
 rotate_left 1
 ·(intro w' hSw;(try dsimp only at hSw);go_simp <;> with_reducible rfl)
 try simp only [Act.put,List.setIfInBounds_toArray,List.set_cons_zero,List.set_cons_succ]
 refine held_take 1 (v:=?_) rfl (by kernel_rfl) (by kernel_rfl) (by kernel_rfl) (fun _ _ _ h=>h) (Or.inl ⟨by rfl,?_⟩) (by assumption) ?_
 rotate_left 1
 ·(intro w' hSw;(try dsimp only at hSw);go_simp <;> with_reducible rfl)
 try simp only [Act.put,List.setIfInBounds_toArray,List.set_cons_zero,List.set_cons_succ]
 refine held_take 2 (v:=?_) rfl (by kernel_rfl) (by kernel_rfl) (by kernel_rfl) (fun _ _ _ h=>h) (Or.inl ⟨by rfl,?_⟩) (by assumption) ?_
 rotate_left 1
 ·(intro w' hSw;(try dsimp only at hSw);go_simp <;> with_reducible rfl)
 try simp only [Act.put,List.setIfInBounds_toArray,List.set_cons_zero,List.set_cons_succ]
 refine held_take 3 (v:=?_) rfl (by kernel_rfl) (by kernel_rfl) (by kernel_rfl) (fun _ _ _ h=>h) (Or.inl ⟨by rfl,?_⟩) (by assumption) ?_
 rotate_left 1
 ·(intro w' hSw;(try dsimp only at hSw);go_simp <;> with_reducible rfl)
 try simp only [Act.put,List.setIfInBounds_toArray,List.set_cons_zero,List.set_cons_succ]
 refine held_take 4 (v:=?_) rfl (by kernel_rfl) (by kernel_rfl) (by kernel_rfl) (fun _ _ _ h=>h) (Or.inl ⟨by rfl,?_⟩) (by assumption) ?_
 rotate_left 1
 ·(intro w' hSw;(try dsimp only at hSw);go_simp <;> with_reducible rfl)
 try simp only [Act.put,List.setIfInBounds_toArray,List.set_cons_zero,List.set_cons_succ]
 refine held_take 5 (v:=?_) rfl (by kernel_rfl) (by kernel_rfl) (by kernel_rfl) (fun _ _ _ h=>h) (Or.inl ⟨by rfl,?_⟩) (by assumption) ?_
 rotate_left 1
 ·(intro w' hSw;(try dsimp only at hSw);go_simp <;> with_reducible rfl)
 try simp only [Act.put,List.setIfInBounds_toArray,List.set_cons_zero,List.set_cons_succ]
 refine held_take 6 (v:=?_) rfl (by kernel_rfl) (by kernel_rfl) (by kernel_rfl) (fun _ _ _ h=>h) (Or.inl ⟨by rfl,?_⟩) (by assumption) ?_
 rotate_left 1
 ·(intro w' hSw;(try dsimp only at hSw);go_simp <;> with_reducible rfl)
 try simp only [Act.put,List.setIfInBounds_toArray,List.set_cons_zero,List.set_cons_succ]
 refine held_take 7 (v:=?_) rfl (by kernel_rfl) (by kernel_rfl) (by kernel_rfl) (fun _ _ _ h=>h) (Or.inl ⟨by rfl,?_⟩) (by assumption) ?_
 rotate_left 1
 ·(intro w' hSw;(try dsimp only at hSw);go_simp <;> with_reducible rfl)
 try simp only [Act.put,List.setIfInBounds_toArray,List.set_cons_zero,List.set_cons_succ]
 refine held_take 8 (v:=?_) rfl (by kernel_rfl) (by kernel_rfl) (by kernel_rfl) (fun _ _ _ h=>h) (Or.inl ⟨by rfl,?_⟩) (by assumption) ?_
 rotate_left 1
 ·(intro w' hSw;(try dsimp only at hSw);go_simp <;> with_reducible rfl)
 try simp only [Act.put,List.setIfInBounds_toArray,List.set_cons_zero,List.set_cons_succ]
 refine held_take 9 (v:=?_) rfl (by kernel_rfl) (by kernel_rfl) (by kernel_rfl) (fun _ _ _ h=>h) (Or.inl ⟨by rfl,?_⟩) (by assumption) ?_
 rotate_left 1
 ·(intro w' hSw;(try dsimp only at hSw);go_simp <;> with_reducible rfl)
 try simp only [Act.put,List.setIfInBounds_toArray,List.set_cons_zero,List.set_cons_succ]
 refine held_one 10 (by kernel_rfl) rfl (fun K hK=>?_)
 go_simp
 refine (enter_new _ b n m HC.out.mp.drew x HX.out.1 HX.out.2.2.1 at_ (F.length:Nat) (by
  have h1:=HX.out.2.2.2
  have mi:IntKind.i64.min=-9223372036854775808:=by decide
  have ma:IntKind.i64.max=9223372036854775807:=by decide
  simp [Lit.wf]
  omega) HX.out.2.1).mono ?_
 rintro E w1 ⟨rfl,hM1,hF1⟩
 have HC1:Hid (Cs N w0 iv c b (n+1) (upd m x (F.length:Nat)) F X fv qv w1):=(HC.out.below (Below.refl _ _).drew).name hF1 hM1
 have NB:∀k,w.heap.size≤k→k≠b:=fun k hk=>(HA.out k hk).2.2.1
 have HN1:Hid (w1.heap[w.heap.size]?=some (.cells #[.int .i64 at_,.string (bs x)] 103 (0,0))):=(hF1.block _ (lt_of_heap (w:=W) HN.out) (NB _ (Nat.le_refl _))).trans HN.out
 have HL1:Hid (w1.heap[w.heap.size+1]?=some (.cells #[.string s0,.int .i64 (ty:Nat),.int .i64 (per:Nat),.bool i,.bool o] 42 (0,0))):=(hF1.block _ (lt_of_heap (w:=W) HL.out) (NB _ (Nat.le_succ _))).trans HL.out
 have HF1:Hid (Fr (fun i=>i=b∨i=c∨fv.ownBlock=some i) w w1):=(Fr.of_below HB.out.drew).trans hF1 (fun _ _ e=>Or.inl e)
 have n0':w1.cell? ⟨w.heap.size,0,none⟩=some (.int .i64 at_):=(cell_of_row w1 _ 0 _ _ _ HN1.out).trans rfl
 have n1':w1.cell? ⟨w.heap.size,1,none⟩=some (.string (bs x)):=(cell_of_row w1 _ 1 _ _ _ HN1.out).trans rfl
 obtain ⟨_,d1',d2',_⟩:=HC1.out.cells
 rw [HFV.out] at d1'
 refine hK.out _ _ ⟨d1',d2',n0',n1'⟩ (fun hS=>?_)
 clear hK K hF1 hM1 d1 d2 n0 n1 d1' d2' n0' n1' NB HC HN HL HB
 try simp only [Act.put,List.setIfInBounds_toArray,List.set_cons_zero,List.set_cons_succ]
 refine held_take 11 (v:=?_) rfl (by kernel_rfl) (by kernel_rfl) (by kernel_rfl) (fun _ _ _ h=>h) (Or.inl ⟨by rfl,?_⟩) (by assumption) ?_
 rotate_left 1
 ·(intro w' hSw;(try dsimp only at hSw);go_simp <;> with_reducible rfl)
 try simp only [Act.put,List.setIfInBounds_toArray,List.set_cons_zero,List.set_cons_succ]
 refine wpAnyH_done (by kernel_rfl) ?_ _
 clear hS
 have n1:w1.cell? ⟨w.heap.size,1,none⟩=some (.string (bs x)):=(cell_of_row w1 _ 1 _ _ _ HN1.out).trans rfl
 have l0:w1.cell? ⟨w.heap.size+1,0,none⟩=some (.string s0):=(cell_of_row w1 _ 0 _ _ _ HL1.out).trans rfl
 have z0:w1.frozen? ⟨w.heap.size+1,0,none⟩=false:=by unfold World.frozen?;rw [HL1.out];simp
 go_wp2_with fail
 have HL2:Hid ((w1.setCell ⟨w.heap.size+1,0,none⟩ (.string (bs x))).heap[w.heap.size+1]?=some (.cells #[.string (bs x),.int .i64 (ty:Nat),.int .i64 (per:Nat),.bool i,.bool o] 42 (0,0))):=by
  show (w1.heap.modify (w.heap.size+1) _)[w.heap.size+1]?=_
  rw [Array.getElem?_modify,if_pos rfl,HL1.out];rfl
 have HC2:Hid (Cs N w0 iv c b (n+1) (upd m x (F.length:Nat)) F X fv qv (w1.setCell ⟨w.heap.size+1,0,none⟩ (.string (bs x)))):=by
  obtain ⟨k1,k2,k3,k4,k5⟩:=HA.out (w.heap.size+1) (Nat.le_succ _)
  exact HC1.out.off (fr_set w1 (w.heap.size+1) 0 _) k1 k2 k3 k4 k5
 have HF2:Hid (Fr (fun i=>i=b∨i=c∨fv.ownBlock=some i) w (w1.setCell ⟨w.heap.size+1,0,none⟩ (.string (bs x)))):=HF1.out.trans (fr_set w1 (w.heap.size+1) 0 _) (fun i hi e=>by have e':i=w.heap.size+1:=e;omega)
 clear n1 l0 z0 HN1 HL1 HC1 HF1
 generalize w1.setCell ⟨w.heap.size+1,0,none⟩ (.string (bs x))=w2 at HL2 HC2 HF2 ⊢
 obtain ⟨_,d1,_,_⟩:=HC2.out.cells
 rw [HFV.out] at d1
 have g0:w2.cell? ⟨w.heap.size+1,0,none⟩=some (.string (bs x)):=(cell_of_row w2 _ 0 _ _ _ HL2.out).trans rfl
 have g1:w2.cell? ⟨w.heap.size+1,1,none⟩=some (.int .i64 (ty:Nat)):=(cell_of_row w2 _ 1 _ _ _ HL2.out).trans rfl
 have g2:w2.cell? ⟨w.heap.size+1,2,none⟩=some (.int .i64 (per:Nat)):=(cell_of_row w2 _ 2 _ _ _ HL2.out).trans rfl
 have g3:w2.cell? ⟨w.heap.size+1,3,none⟩=some (.bool i):=(cell_of_row w2 _ 3 _ _ _ HL2.out).trans rfl
 have g4:w2.cell? ⟨w.heap.size+1,4,none⟩=some (.bool o):=(cell_of_row w2 _ 4 _ _ _ HL2.out).trans rfl
 have XB:Hid (Below w2.heap.size w2 (w2.alloc (.cells #[.string (bs x),.int .i64 (ty:Nat),.int .i64 (per:Nat),.bool i,.bool o] 42)).drew):=((Below.refl _ _).alloc (Nat.le_refl _) _).drew
 have XC:Hid (Cs N w0 iv c b (n+1) (upd m x (F.length:Nat)) F X fv qv (w2.alloc (.cells #[.string (bs x),.int .i64 (ty:Nat),.int .i64 (per:Nat),.bool i,.bool o] 42)).drew):=HC2.out.below XB.out
 have NW:Hid (∀(j:Nat) (u:Value),(flC ⟨x,ty,per,i,o⟩)[j]?=some u→(w2.alloc (.cells #[.string (bs x),.int .i64 (ty:Nat),.int .i64 (per:Nat),.bool i,.bool o] 42)).drew.cell? ((⟨w2.heap.size,0,none⟩:Addr).add j)=some u):=fun j u h=>news_cells w2 (flC ⟨x,ty,per,i,o⟩) 42 j u h
 have OW:Hid ((w2.alloc (.cells #[.string (bs x),.int .i64 (ty:Nat),.int .i64 (per:Nat),.bool i,.bool o] 42)).drew.ownsRow w0.heap.size 42 5 (.slice of F.length cf) F.length (fls F)):=by
  show World.ownsRow _ _ _ _ _ _ _
  rw [←HFV.out]
  exact XC.out.fl
 refine region_L (fun w'=>w'.cell? ⟨c,1,none⟩=some (.slice of F.length cf)∧w'.cell? ⟨w.heap.size+1,0,none⟩=some (.string (bs x))∧w'.cell? ⟨w.heap.size+1,1,none⟩=some (.int .i64 (ty:Nat))∧w'.cell? ⟨w.heap.size+1,2,none⟩=some (.int .i64 (per:Nat))∧w'.cell? ⟨w.heap.size+1,3,none⟩=some (.bool i)∧w'.cell? ⟨w.heap.size+1,4,none⟩=some (.bool o)) 10 (by kernel_rfl) ⟨d1,g0,g1,g2,g3,g4⟩ (fun hS=>?_)
 refine L_take 0 (v:=?_) rfl (by kernel_rfl) (by kernel_rfl) (by kernel_rfl) (by kernel_rfl) (fun _ _ _ h=>h) (Or.inl ⟨by rfl,?_⟩) (by assumption) ?_
 rotate_left 1
 ·(intro w' hSw;(try dsimp only at hSw);go_simp <;> with_reducible rfl)
 try simp only [Act.put,List.setIfInBounds_toArray,List.set_cons_zero,List.set_cons_succ]
 refine L_take 1 (v:=?_) rfl (by kernel_rfl) (by kernel_rfl) (by kernel_rfl) (by kernel_rfl) (fun _ _ _ h=>h) (Or.inl ⟨by rfl,?_⟩) (by assumption) ?_
 rotate_left 1
 ·(intro w' hSw;(try dsimp only at hSw);go_simp <;> with_reducible rfl)
 try simp only [Act.put,List.setIfInBounds_toArray,List.set_cons_zero,List.set_cons_succ]
 refine L_take 2 (v:=?_) rfl (by kernel_rfl) (by kernel_rfl) (by kernel_rfl) (by kernel_rfl) (fun _ _ _ h=>h) (Or.inl ⟨by rfl,?_⟩) (by assumption) ?_
 rotate_left 1
 ·(intro w' hSw;(try dsimp only at hSw);go_simp <;> with_reducible rfl)
 try simp only [Act.put,List.setIfInBounds_toArray,List.set_cons_zero,List.set_cons_succ]
 refine L_take 3 (v:=?_) rfl (by kernel_rfl) (by kernel_rfl) (by kernel_rfl) (by kernel_rfl) (fun _ _ _ h=>h) (Or.inl ⟨by rfl,?_⟩) (by assumption) ?_
 rotate_left 1
 ·(intro w' hSw;(try dsimp only at hSw);go_simp <;> with_reducible rfl)
 try simp only [Act.put,List.setIfInBounds_toArray,List.set_cons_zero,List.set_cons_succ]
 refine L_take 4 (v:=?_) rfl (by kernel_rfl) (by kernel_rfl) (by kernel_rfl) (by kernel_rfl) (fun _ _ _ h=>h) (Or.inl ⟨by rfl,?_⟩) (by assumption) ?_
 rotate_left 1
 ·(intro w' hSw;(try dsimp only at hSw);go_simp <;> with_reducible rfl)
 try simp only [Act.put,List.setIfInBounds_toArray,List.set_cons_zero,List.set_cons_succ]
 refine L_take 5 (v:=?_) rfl (by kernel_rfl) (by kernel_rfl) (by kernel_rfl) (by kernel_rfl) (fun _ _ _ h=>h) (Or.inl ⟨by rfl,?_⟩) (by assumption) ?_
 rotate_left 1
 ·(intro w' hSw;(try dsimp only at hSw);go_simp <;> with_reducible rfl)
 try simp only [Act.put,List.setIfInBounds_toArray,List.set_cons_zero,List.set_cons_succ]
 refine L_one 6 (by kernel_rfl) rfl (fun K hK=>?_)
 go_simp
 refine hK.out _ _ (Or.inr ?_) (fun h6=>?_)
 ·have kp:∀{q:Addr} {v:Value},w2.cell? q=some v→(w2.alloc (.cells #[.string (bs x),.int .i64 (ty:Nat),.int .i64 (per:Nat),.bool i,.bool o] 42)).drew.cell? q=some v:=fun hq=>(XB.out.cell (lt_of_cell hq)).trans hq
  exact ⟨kp d1,kp g0,kp g1,kp g2,kp g3,kp g4⟩
 replace h6:=h6.resolve_left (by decide)
 clear hK K hS d1 g0 g1 g2 g3 g4
 try simp only [Act.put,List.setIfInBounds_toArray,List.set_cons_zero,List.set_cons_succ]
 refine L_one 7 (by kernel_rfl) rfl (fun K hK=>?_)
 refine step_append_lies _ rfl _ _ 34 rfl w0.heap.size 42 f0 (.agg #[.string ⟨#[]⟩,.int .i64 0,.int .i64 0,.bool false,.bool false]) 5 40 Tryz.underlying34 hf0 fz0 fz1 fz2 rfl (by decide) (.slice of F.length cf) F.length (fls F) rfl OW.out ⟨w2.heap.size,0,none⟩ 1 1 (flC ⟨x,ty,per,i,o⟩) rfl rfl NW.out (by intro u hu;simp [flC] at hu;rcases hu with rfl | rfl | rfl | rfl | rfl <;> rfl) (by decide) (by unfold maxLen;have:=HX.out.2.2.2;omega) (by have:=HX.out.2.2.2;omega) XC.out.blw.size _ rfl ?_
 intro k7 c7 w7 O7 hg7 hat7 hlt7
 rw [←HFV.out] at hg7 hat7
 obtain ⟨E1,⟨x1,xz⟩,E3⟩:=XC.out.flow (f:=⟨x,ty,per,i,o⟩) hg7 O7 hat7
 rw [HFV.out] at x1
 have EI:w7.heap[w.heap.size+1]?=some (.cells #[.string (bs x),.int .i64 (ty:Nat),.int .i64 (per:Nat),.bool i,.bool o] 42 (0,0)):=(hg7.block _ (Nat.lt_of_lt_of_le (lt_of_heap HL2.out) XB.out.size) (fun e=>(HA.out (w.heap.size+1) (Nat.le_succ _)).2.2.2.1 e.symm)).trans ((XB.out.block _ (lt_of_heap HL2.out)).trans HL2.out)
 have xl:=And.intro ((cell_of_row w7 _ 0 _ _ _ EI).trans rfl:w7.cell? ⟨w.heap.size+1,0,none⟩=some (.string (bs x))) (And.intro ((cell_of_row w7 _ 1 _ _ _ EI).trans rfl:w7.cell? ⟨w.heap.size+1,1,none⟩=some (.int .i64 (ty:Nat))) (And.intro ((cell_of_row w7 _ 2 _ _ _ EI).trans rfl:w7.cell? ⟨w.heap.size+1,2,none⟩=some (.int .i64 (per:Nat))) (And.intro ((cell_of_row w7 _ 3 _ _ _ EI).trans rfl:w7.cell? ⟨w.heap.size+1,3,none⟩=some (.bool i)) ((cell_of_row w7 _ 4 _ _ _ EI).trans rfl:w7.cell? ⟨w.heap.size+1,4,none⟩=some (.bool o)))))
 have G1:Hid (Cs N w0 iv c b (n+1) (upd m x (F.length:Nat)) (F++[⟨x,ty,per,i,o⟩]) X (.slice (some ⟨k7,0,none⟩) (F.length+1) c7) qv (w7.setCell ⟨c,1,none⟩ (.slice (some ⟨k7,0,none⟩) (F.length+1) c7))):=E1
 have G3:Hid (Fr (fun i=>i=b∨i=c∨fv.ownBlock=some i) w (w7.setCell ⟨c,1,none⟩ (.slice (some ⟨k7,0,none⟩) (F.length+1) c7))):=(HF2.out.trans (Fr.of_below (own:=fun _=>False) XB.out) (fun _ _ e=>e.elim)).trans E3 (fun _ _ e=>Or.inr e)
 have zc:=xz 1
 clear E1 E3 EI O7 hg7 hat7 hlt7 h6 xz
 refine hK.out _ _ (Or.inr ⟨x1,xl⟩) (fun h7=>?_)
 replace h7:=h7.resolve_left (by decide)
 clear hK K
 try simp only [Act.put,List.setIfInBounds_toArray,List.set_cons_zero,List.set_cons_succ]
 refine L_one 8 (by kernel_rfl) rfl (fun K hK=>?_)
 go_simp
 refine hK.out _ _ (Or.inr (by assumption)) (fun h8=>?_)
 clear h8 hK K
 try simp only [Act.put,List.setIfInBounds_toArray,List.set_cons_zero,List.set_cons_succ]
 refine L_one 9 (by kernel_rfl) rfl (fun K hK=>?_)
 go_simp
 refine hK.out _ _ (Or.inr (by assumption)) (fun h9=>?_)
 clear h9 hK K
 try simp only [Act.put,List.setIfInBounds_toArray,List.set_cons_zero,List.set_cons_succ]
 refine L_one 10 (by kernel_rfl) rfl (fun K hK=>?_)
 go_simp
 refine hK.out _ _ (Or.inl rfl) (fun _=>?_)
 clear hK K h7 x1 xl zc
 try simp only [Act.put,List.setIfInBounds_toArray,List.set_cons_zero,List.set_cons_succ]
 refine L_done (by kernel_rfl) ?_ _
 go_wp2
 go_ret
 exact ⟨rfl,⟨k7,c7,G1.out⟩,G3.out⟩
end
end Go.Proofs.YticbokabjhnagaaGreatDoor
