import Derived.Test.YticbokabjhnagaaGreatDoorW16
import Derived.Test.YticbokabjhnagaaGreatDoorW09
import Derived.Test.YticbokabjhnagaaGreatDoorW20
import Derived.Deep.AppendLies
import Derived.Deep.RegionHeld3
namespace Go.Proofs.YticbokabjhnagaaGreatDoor
set_option maxHeartbeats 32000000
section
open Go.RowKit
theorem own_kept {w w':World} {base:Nat} {e:TypeId} {size:Nat} {v:Value} {n:Nat} {xs:List Value} (ho:w.ownsRow base e size v n xs) (hk:∀k,v.ownBlock=some k→w'.heap[k]?=w.heap[k]?):w'.ownsRow base e size v n xs:=by
 refine ⟨ho.1,?_⟩
 rcases ho.2 with hn | ⟨g,cap,cur,rfl,hbg,hgg,rest⟩
 ·exact .inl hn
 ·exact .inr ⟨g,cap,cur,rfl,hbg,(hk g rfl).trans hgg,rest⟩
theorem own_shape {w:World} {base:Nat} {e:TypeId} {size:Nat} {v:Value} {n:Nat} {xs:List Value} (ho:w.ownsRow base e size v n xs):∃o c,v=.slice o n c:=by
 rcases ho.2 with ⟨h,h0⟩ | ⟨g,cap,cur,h,_⟩
 ·exact ⟨none,0,by rw [h,h0]⟩
 ·exact ⟨_,_,h⟩
theorem own_lt {w:World} {base:Nat} {e:TypeId} {size:Nat} {v:Value} {n:Nat} {xs:List Value} (ho:w.ownsRow base e size v n xs) (k:Nat) (hk:v.ownBlock=some k):base≤k∧∃cur,w.heap[k]?=some (.cells cur e (0,0)):=by
 rcases ho.2 with ⟨rfl,_⟩ | ⟨g,cap,cur,rfl,hbg,hgg,rest⟩
 ·cases hk
 ·have e:g=k:=by simpa [Value.ownBlock] using hk
  subst e
  exact ⟨hbg,cur,hgg⟩
theorem own_cell {w:World} {base:Nat} {e:TypeId} {size:Nat} {g n cap:Nat} {xs:List Value} (ho:w.ownsRow base e size (.slice (some ⟨g,0,none⟩) n cap) n xs) {j:Nat} {v:Value} (hv:xs[j]?=some v):w.cell? ⟨g,j,none⟩=some v:=by
 obtain ⟨h1,⟨h2,h3⟩ | ⟨k,cap',cur,hs,hbk,hk,hcap,hmx,hsz,htk⟩⟩:=ho
 ·cases h2
 ·injection hs with e1 e2 e3
  have e4:g=k:=by simpa using e1
  subst e4
  rw [cell_of_row w g _ _ _ _ hk,←hv,←htk,List.getElem?_take]
  have hj:=(List.getElem?_eq_some_iff.1 hv).1
  rw [if_pos (by rw [←h1];exact hj)]
  simp
theorem heap_ne {w:World} {i j:Nat} {x y:Obj} (hi:w.heap[i]?=some x) (hj:w.heap[j]?=some y) (h:x≠y):i≠j:=by
 rintro rfl
 rw [hi] at hj
 exact h (Option.some.inj hj)
theorem heap_nt {w:World} {i j:Nat} {x y:Array Value} {t t':TypeId} {p q:Nat×Nat} (hi:w.heap[i]?=some (.cells x t p)) (hj:w.heap[j]?=some (.cells y t' q)) (h:t≠t'):i≠j:=by
 rintro rfl
 rw [hi] at hj
 injection hj with e
 injection e with e1 e2 e3
 exact h e2
theorem lt_of_heap {w:World} {i:Nat} {x:Obj} (h:w.heap[i]?=some x):i < w.heap.size:=(Array.getElem?_eq_some_iff.1 h).1
theorem Msi.heap {w:World} {b n:Nat} {m:Mil.Bytes→Option Int} (h:Msi w b n m):∃es clock,w.heap[b]?=some (.map es clock):=by
 obtain ⟨D,⟨es,clock,h1,_⟩,_⟩:=h
 exact ⟨es,clock,h1⟩
def Kt (w w':World):Prop:=∀(i:Nat) (cur:Array Value),w.heap[i]?=some (.cells cur 70 (0,0))→w'.heap[i]?=some (.cells cur 70 (0,0))
theorem Kt.refl (w:World):Kt w w:=fun _ _ h=>h
theorem Kt.trans {u v w:World} (h:Kt u v) (k:Kt v w):Kt u w:=fun i cur e=>k i cur (h i cur e)
theorem Kt.of_below {w w':World} (k:Below w.heap.size w w'):Kt w w':=fun i _ h=>(k.block i (lt_of_heap h)).trans h
theorem Kt.step {u w w':World} (h:Kt u w) (k:Below w.heap.size w w'):Kt u w':=h.trans (Kt.of_below k)
theorem Kt.fr {own:Nat→Prop} {u w w':World} (h:Kt u w) (k:Fr own w w') (ho:∀(i:Nat) (cur:Array Value),own i→w.heap[i]?=some (.cells cur 70 (0,0))→False):Kt u w':=fun i cur e=>(k.block i (lt_of_heap (h i cur e)) (fun e'=>ho i cur e' (h i cur e))).trans (h i cur e)
theorem Kt.one {u w w':World} {b:Nat} {x:Array Value} {t:TypeId} {p:Nat×Nat} (h:Kt u w) (k:Fr (fun i=>i=b) w w') (hb:w.heap[b]?=some (.cells x t p)) (ht:t≠70):Kt u w':=h.fr k (fun i cur e e'=>by
 have e2:i=b:=e
 rw [e2] at e'
 exact heap_nt hb e' ht rfl)
theorem Kt.map {u w w':World} {b:Nat} (h:Kt u w) (k:Fr (fun i=>i=b) w w') (hb:∃es cl,w.heap[b]?=some (.map es cl)):Kt u w':=h.fr k (fun i cur e e'=>by
 have e2:i=b:=e
 obtain ⟨es,cl,hh⟩:=hb
 rw [e2,hh] at e'
 cases e')
def flC (f:Flo):List Value:=[.string (bs f.nm),.int .i64 (f.ty:Nat),.int .i64 (f.per:Nat),.bool f.inp,.bool f.out]
def fls (F:List Flo):List Value:=F.flatMap flC
def nqC (N:Nat) (x:Nq×Value):List Value:=[.int .i64 ((N:Int) - (x.1.at_:Nat)),.string (bs x.1.nm),.int .i64 (x.1.ty:Nat),ev N x.1.body,.int .i64 (x.1.flow:Nat),x.2]
def nqs (N:Nat) (X:List (Nq×Value)):List Value:=X.flatMap (nqC N)
theorem flat_at {α:Type} (f:α→List Value) (s:Nat) (hf:∀x,(f x).length=s):∀(l:List α) (j i:Nat) (x:α),l[j]?=some x→i < s→(l.flatMap f)[j*s+i]?=(f x)[i]?
 | [],_,_,_,h,_=>by simp at h
 | y::r,0,i,x,h,hi=>by
  have e:y=x:=by simpa using h
  subst e
  rw [List.flatMap_cons,List.getElem?_append_left (by rw [hf];omega)]
  simp
 | y::r,j+1,i,x,h,hi=>by
  rw [List.flatMap_cons,List.getElem?_append_right (by rw [hf,Nat.add_mul];omega),hf]
  have e:(j+1)*s+i - s=j*s+i:=by rw [Nat.add_mul];omega
  rw [e]
  exact flat_at f s hf r j i x (by simpa using h) hi
structure Cs (N:Nat) (w0:World) (iv:Value) (c b n:Nat) (m:Mil.Bytes→Option Int) (F:List Flo) (X:List (Nq×Value)) (fv qv:Value) (w:World):Prop where
 blw:Below w0.heap.size w0 w
 hc:w0.heap.size≤c
 hb:w0.heap.size≤b
 cm:w.heap[c]?=some (.cells #[iv,fv,.map (some b),qv] 75 (0,0))
 mp:Msi w b n m
 fl:w.ownsRow w0.heap.size 42 5 fv F.length (fls F)
 eq:w.ownsRow w0.heap.size 109 6 qv X.length (nqs N X)
section
variable {N:Nat} {w0:World} {iv:Value} {c b n:Nat} {m:Mil.Bytes→Option Int} {F:List Flo} {X:List (Nq×Value)} {fv qv:Value} {w w':World}
theorem Cs.below (h:Cs N w0 iv c b n m F X fv qv w) (k:Below w.heap.size w w'):Cs N w0 iv c b n m F X fv qv w':=by
 refine ⟨h.blw.trans (k.mono h.blw.size),h.hc,h.hb,(k.block _ (lt_of_heap h.cm)).trans h.cm,h.mp.fr (Fr.of_below (own:=fun _=>False) k) (fun e=>e),own_kept h.fl (fun q hq=>k.block q (lt_of_heap (own_lt h.fl q hq).2.choose_spec)),own_kept h.eq (fun q hq=>k.block q (lt_of_heap (own_lt h.eq q hq).2.choose_spec))⟩
theorem Cs.cells (h:Cs N w0 iv c b n m F X fv qv w):w.cell? ⟨c,0,none⟩=some iv∧w.cell? ⟨c,1,none⟩=some fv∧w.cell? ⟨c,2,none⟩=some (.map (some b))∧w.cell? ⟨c,3,none⟩=some qv:=
 ⟨(cell_of_row w c 0 _ _ _ h.cm).trans rfl,(cell_of_row w c 1 _ _ _ h.cm).trans rfl,(cell_of_row w c 2 _ _ _ h.cm).trans rfl,(cell_of_row w c 3 _ _ _ h.cm).trans rfl⟩
theorem Cs.name {n':Nat} {m':Mil.Bytes→Option Int} (h:Cs N w0 iv c b n m F X fv qv w) (k:Fr (fun i=>i=b) w w') (hm:Msi w' b n' m'):Cs N w0 iv c b n' m' F X fv qv w':=by
 obtain ⟨es,cl,hbm⟩:=h.mp.heap
 have nf:∀q,fv.ownBlock=some q→q≠b:=fun q hq=>heap_ne (own_lt h.fl q hq).2.choose_spec hbm (by intro e;cases e)
 have nq:∀q,qv.ownBlock=some q→q≠b:=fun q hq=>heap_ne (own_lt h.eq q hq).2.choose_spec hbm (by intro e;cases e)
 have nc:c≠b:=heap_ne h.cm hbm (by intro e;cases e)
 refine ⟨⟨k.os.trans h.blw.os,k.tape.trans h.blw.tape,k.output.trans h.blw.output,Nat.le_trans h.blw.size k.size,fun i hi=>(k.block i (Nat.lt_of_lt_of_le hi h.blw.size) (fun e=>by have e':i=b:=e;have:=h.hb;omega)).trans (h.blw.block i hi)⟩,h.hc,h.hb,(k.block c (lt_of_heap h.cm) nc).trans h.cm,hm,?_,?_⟩
 ·exact own_kept h.fl (fun q hq=>k.block q (lt_of_heap (own_lt h.fl q hq).2.choose_spec) (nf q hq))
 ·exact own_kept h.eq (fun q hq=>k.block q (lt_of_heap (own_lt h.eq q hq).2.choose_spec) (nq q hq))
theorem below_grown {B:Nat} {u w w':World} (h:Below B u w) (hB:B≤w.heap.size) {row:Option Nat} (hg:w.grownBy w' row) (hr:∀k,row=some k→B≤k):Below B u w':=
 h.trans ((Below.refl B w).grown hg hB hr)
theorem Cs.flow {g cap:Nat} {f:Flo} {W:World} (h:Cs N w0 iv c b n m F X fv qv W) (hg:W.grownBy w' fv.ownBlock) (ho:w'.ownsRow w0.heap.size 42 5 (.slice (some ⟨g,0,none⟩) (F.length+1) cap) (F.length+1) (fls F++flC f)) (hgl:fv.ownBlock=some g∨g=W.heap.size) :
  Cs N w0 iv c b n m (F++[f]) X (.slice (some ⟨g,0,none⟩) (F.length+1) cap) qv (w'.setCell ⟨c,1,none⟩ (.slice (some ⟨g,0,none⟩) (F.length+1) cap))∧(w'.cell? ⟨c,1,none⟩=some fv∧∀o,w'.frozen? ⟨c,o,none⟩=false)∧Fr (fun i=>i=c∨fv.ownBlock=some i) W (w'.setCell ⟨c,1,none⟩ (.slice (some ⟨g,0,none⟩) (F.length+1) cap)):=by
 have nf:∀q,fv.ownBlock=some q→q≠c:=fun q hq=>heap_nt (own_lt h.fl q hq).2.choose_spec h.cm (by decide)
 have gr:∀q,q < W.heap.size→fv.ownBlock≠some q→w'.heap[q]?=W.heap[q]?:=fun q h1 h2=>hg.block q h1 (fun e=>h2 e.symm)
 have e1:w'.heap[c]?=some (.cells #[iv,fv,.map (some b),qv] 75 (0,0)):=(gr c (lt_of_heap h.cm) (fun e=>nf c e rfl)).trans h.cm
 have oth:∀q,q≠c→(w'.setCell ⟨c,1,none⟩ (.slice (some ⟨g,0,none⟩) (F.length+1) cap)).heap[q]?=w'.heap[q]?:=fun q hq=>Below.heap_setCell w' ⟨c,1,none⟩ _ q hq
 have both:∀q,q < W.heap.size→q≠c→fv.ownBlock≠some q→(w'.setCell ⟨c,1,none⟩ (.slice (some ⟨g,0,none⟩) (F.length+1) cap)).heap[q]?=W.heap[q]?:=fun q h1 h2 h3=>(oth q h2).trans (gr q h1 h3)
 have gc:g≠c:=by
  rcases hgl with e | e
  ·exact nf g e
  ·have:=lt_of_heap h.cm;omega
 obtain ⟨es,cl,hbm⟩:=h.mp.heap
 have fb:∀q,fv.ownBlock=some q→q≠b:=fun q hq=>heap_ne (own_lt h.fl q hq).2.choose_spec hbm (by intro e;cases e)
 have cb:b≠c:=heap_ne hbm h.cm (by intro e;cases e)
 have fr:Fr (fun i=>i=c∨fv.ownBlock=some i) W (w'.setCell ⟨c,1,none⟩ (.slice (some ⟨g,0,none⟩) (F.length+1) cap)):=⟨hg.os,hg.tape,hg.output,by simpa using hg.size,fun i h1 h2=>both i h1 (fun e=>h2 (Or.inl e)) (fun e=>h2 (Or.inr e))⟩
 refine ⟨⟨?_,h.hc,h.hb,?_,h.mp.fr fr (fun e=>?_),?_,?_⟩,⟨?_,fun q=>?_⟩,fr⟩
 ·exact (below_grown h.blw h.blw.size hg (fun k e=>(own_lt h.fl k e).1)).setCell h.hc _
 ·show (w'.heap.modify c _)[c]?=_
  rw [Array.getElem?_modify,if_pos rfl,e1];rfl
 ·rcases e with e | e
  ·exact cb e
  ·exact fb b e rfl
 ·have e2:fls (F++[f])=fls F++flC f:=by simp [fls]
  rw [e2,List.length_append]
  exact own_kept ho (fun j hj=>by
   have:g=j:=by simpa [Value.ownBlock] using hj
   subst this
   exact oth g gc)
 ·refine own_kept h.eq (fun q hq=>both q (lt_of_heap (own_lt h.eq q hq).2.choose_spec) (heap_nt (own_lt h.eq q hq).2.choose_spec h.cm (by decide)) (fun e=>?_))
  exact heap_nt (own_lt h.eq q hq).2.choose_spec (own_lt h.fl q e).2.choose_spec (by decide) rfl
 ·rw [cell_of_row w' _ 1 _ _ _ e1];rfl
 ·unfold World.frozen?;rw [e1];simp
theorem Cs.eqn {g cap:Nat} {x:Nq×Value} {W:World} (h:Cs N w0 iv c b n m F X fv qv W) (hg:W.grownBy w' qv.ownBlock) (ho:w'.ownsRow w0.heap.size 109 6 (.slice (some ⟨g,0,none⟩) (X.length+1) cap) (X.length+1) (nqs N X++nqC N x)) (hgl:qv.ownBlock=some g∨g=W.heap.size) :
  Cs N w0 iv c b n m F (X++[x]) fv (.slice (some ⟨g,0,none⟩) (X.length+1) cap) (w'.setCell ⟨c,3,none⟩ (.slice (some ⟨g,0,none⟩) (X.length+1) cap))∧(w'.cell? ⟨c,3,none⟩=some qv∧∀o,w'.frozen? ⟨c,o,none⟩=false)∧Fr (fun i=>i=c∨qv.ownBlock=some i) W (w'.setCell ⟨c,3,none⟩ (.slice (some ⟨g,0,none⟩) (X.length+1) cap)):=by
 have nf:∀q,qv.ownBlock=some q→q≠c:=fun q hq=>heap_nt (own_lt h.eq q hq).2.choose_spec h.cm (by decide)
 have gr:∀q,q < W.heap.size→qv.ownBlock≠some q→w'.heap[q]?=W.heap[q]?:=fun q h1 h2=>hg.block q h1 (fun e=>h2 e.symm)
 have e1:w'.heap[c]?=some (.cells #[iv,fv,.map (some b),qv] 75 (0,0)):=(gr c (lt_of_heap h.cm) (fun e=>nf c e rfl)).trans h.cm
 have oth:∀q,q≠c→(w'.setCell ⟨c,3,none⟩ (.slice (some ⟨g,0,none⟩) (X.length+1) cap)).heap[q]?=w'.heap[q]?:=fun q hq=>Below.heap_setCell w' ⟨c,3,none⟩ _ q hq
 have both:∀q,q < W.heap.size→q≠c→qv.ownBlock≠some q→(w'.setCell ⟨c,3,none⟩ (.slice (some ⟨g,0,none⟩) (X.length+1) cap)).heap[q]?=W.heap[q]?:=fun q h1 h2 h3=>(oth q h2).trans (gr q h1 h3)
 have gc:g≠c:=by
  rcases hgl with e | e
  ·exact nf g e
  ·have:=lt_of_heap h.cm;omega
 obtain ⟨es,cl,hbm⟩:=h.mp.heap
 have fb:∀q,qv.ownBlock=some q→q≠b:=fun q hq=>heap_ne (own_lt h.eq q hq).2.choose_spec hbm (by intro e;cases e)
 have cb:b≠c:=heap_ne hbm h.cm (by intro e;cases e)
 have fr:Fr (fun i=>i=c∨qv.ownBlock=some i) W (w'.setCell ⟨c,3,none⟩ (.slice (some ⟨g,0,none⟩) (X.length+1) cap)):=⟨hg.os,hg.tape,hg.output,by simpa using hg.size,fun i h1 h2=>both i h1 (fun e=>h2 (Or.inl e)) (fun e=>h2 (Or.inr e))⟩
 refine ⟨⟨?_,h.hc,h.hb,?_,h.mp.fr fr (fun e=>?_),?_,?_⟩,⟨?_,fun q=>?_⟩,fr⟩
 ·exact (below_grown h.blw h.blw.size hg (fun k e=>(own_lt h.eq k e).1)).setCell h.hc _
 ·show (w'.heap.modify c _)[c]?=_
  rw [Array.getElem?_modify,if_pos rfl,e1];rfl
 ·rcases e with e | e
  ·exact cb e
  ·exact fb b e rfl
 ·refine own_kept h.fl (fun q hq=>both q (lt_of_heap (own_lt h.fl q hq).2.choose_spec) (heap_nt (own_lt h.fl q hq).2.choose_spec h.cm (by decide)) (fun e=>?_))
  exact heap_nt (own_lt h.fl q hq).2.choose_spec (own_lt h.eq q e).2.choose_spec (by decide) rfl
 ·have e2:nqs N (X++[x])=nqs N X++nqC N x:=by simp [nqs]
  rw [e2,List.length_append]
  exact own_kept ho (fun j hj=>by
   have:g=j:=by simpa [Value.ownBlock] using hj
   subst this
   exact oth g gc)
 ·rw [cell_of_row w' _ 3 _ _ _ e1];rfl
 ·unfold World.frozen?;rw [e1];simp
end
section
variable {P:Program} {ops:Array Oper} {Q:Exit→Act→World→Prop} {md:Region.Mode} {S:World→Prop} {l:Nat}
def wpAnyL (P:Program) (md:Region.Mode) (ops:Array Oper) (Q:Exit→Act→World→Prop) (S:World→Prop) (l:Nat):Nat→Array Bool→Act→World→Prop
 | 0,listed,a,w=>Region.ready md ops listed=[]∧Q .normal a w
 | fuel+1,listed,a,w=>
  (Region.ready md ops listed=[]→Q .normal a w) ∧
  ∀i∈Region.ready md ops listed,wpOp P ops Q i (fun a' w'=>(i=l∨S w')∧wpAnyL P md ops Q S l fuel (listed.setIfInBounds i true) a' w') a w
theorem wpAny_of_L:∀(fuel:Nat) (listed:Array Bool) (a:Act) (w:World),wpAnyL P md ops Q S l fuel listed a w→wpAny P md ops Q fuel listed a w
 | 0,_,_,_,h=>h
 | fuel+1,_,_,_,h=>⟨h.1,fun i hi=>wpOp_mono (fun a' w' h'=>wpAny_of_L fuel _ a' w' h'.2) (h.2 i hi)⟩
theorem wpAnyL_first {i:Nat} {oi ol:Oper} {v:Value} (hi:ops[i]?=some oi) (hol:ops[l]?=some ol) (hle:∃e∈ol.after,Region.binds md e=true∧e.on=i) (hsel:∀(j:Nat) (o:Oper) cs b,ops[j]?=some o→o.op≠.select cs b)
  (hQ:∀c a w,Q (.panic c) (a.put oi.dst v) w→Q (.panic c) a w) :
  ∀(fuel:Nat) (listed:Array Bool) (a:Act) (w:World),
   (∀j oj,ops[j]?=some oj→j≠i→listed.getD j true=false→(∀e∈oj.after,Region.binds md e=true→e.on≠i)→oi.apart ops oj=true) →
   i∈Region.ready md ops listed→YieldsIf P ops S oi v a→S w →
   wpAnyL P md ops Q S l fuel (listed.setIfInBounds i true) (a.put oi.dst v) w→wpAnyL P md ops Q S l (fuel+1) listed a w:=by
 intro fuel
 induction fuel with
 | zero=>
  intro listed a w _ hr hy hS H
  refine ⟨fun h=>(by rw [h] at hr;cases hr),fun j hj=>?_⟩
  by_cases hji:j=i
  ·subst hji;exact hy.wpOp hi hS ⟨Or.inr hS,H⟩
  ·have:=ready_mono hj hji
   rw [H.1] at this
   cases this
 | succ fuel ih=>
  intro listed a w hfree hr hy hS H
  refine ⟨fun h=>(by rw [h] at hr;cases hr),fun j hj=>?_⟩
  by_cases hji:j=i
  ·subst hji;exact hy.wpOp hi hS ⟨Or.inr hS,H⟩
  ·have h1:=H.2 j (ready_mono hj hji)
   obtain ⟨hjun,oj,hoj,hall⟩:=mem_ready.1 hj
   have hnot:∀e∈oj.after,Region.binds md e=true→e.on≠i:=fun e he hb heq=>by
    have h1:=hall e he hb
    have h0:=(mem_ready.1 hr).1
    rw [heq] at h1
    rcases Nat.lt_or_ge i listed.size with h' | h'
    ·simp [h'] at h0 h1;rw [h0] at h1;cases h1
    ·simp [Array.getElem?_eq_none h'] at h1
   have hjl:j≠l:=fun e=>by
    subst e
    rw [hol] at hoj
    obtain rfl:=Option.some.inj hoj
    obtain ⟨e,he,hb,hon⟩:=hle
    exact hnot e he hb hon
   have h2:=wpOp_putIf hoj (hfree j oj hoj hji hjun hnot) (fun cs b=>hsel i oi cs b hi) (fun cs b=>hsel j oj cs b hoj) hQ hy h1
   have hfree':∀k ok,ops[k]?=some ok→k≠i→(listed.setIfInBounds j true).getD k true=false →
     (∀e∈ok.after,Region.binds md e=true→e.on≠i)→oi.apart ops ok=true:=fun k ok hk hki hun hno=>by
    refine hfree k ok hk hki ?_ hno
    by_cases hjk:j=k
    ·subst hjk;exact hjun
    ·rw [getD_set_ne true hjk] at hun;exact hun
   refine wpOp_mono (fun a' w' h3=>?_) h2
   have hSw:S w':=by
    rcases h3.2.1 with h | h
    ·exact absurd h hjl
    ·exact h
   refine ⟨Or.inr hSw,ih (listed.setIfInBounds j true) a' w' hfree' (ready_mono hr (Ne.symm hji)) h3.1 hSw ?_⟩
   rw [Array.setIfInBounds_comm _ _ hji]
   exact h3.2.2
def waits (md:Region.Mode) (ops:Array Oper) (l i:Nat):Bool:=((ops[l]?).map (·.after.toList.any fun e=>Region.binds md e && e.on==i)).getD false
theorem waits_spec {i:Nat} (h:waits md ops l i=true):∃ol,ops[l]?=some ol∧∃e∈ol.after,Region.binds md e=true∧e.on=i:=by
 unfold waits at h
 cases ho:ops[l]? with
 | none=>rw [ho] at h;cases h
 | some ol=>
  rw [ho] at h
  have h':(ol.after.toList.any fun e=>Region.binds md e && e.on==i)=true:=h
  rw [List.any_eq_true] at h'
  obtain ⟨e,he,hb⟩:=h'
  rw [Bool.and_eq_true,beq_iff_eq] at hb
  exact ⟨ol,rfl,e,Array.mem_toList_iff.1 he,hb⟩
theorem L_take (i:Nat) {oi:Oper} {v:Value} {fuel:Nat} {listed:Array Bool} {a:Act} {w:World} (hi:ops.toList[i]?=some oi) (hl:waits md ops l i=true)
  (hs:Region.noSelect ops=true) (hf:Region.free md ops listed i=true) (hr:(Region.ready md ops listed).contains i=true)
  (hQ:∀c a w,Q (.panic c) (a.put oi.dst v) w→Q (.panic c) a w) (hy:YieldsIf P ops S oi v a) (hS:S w)
  (h:wpAnyL P md ops Q S l fuel (listed.setIfInBounds i true) (a.put oi.dst v) w):wpAnyL P md ops Q S l (fuel+1) listed a w:=by
 obtain ⟨ol,ho,hle⟩:=waits_spec hl
 exact wpAnyL_first (at_list hi) ho hle (Region.noSelect_spec hs) hQ fuel listed a w (Region.free_spec (at_list hi) hf) (by simpa using hr) hy hS h
theorem L_one (i:Nat) {o:Oper} {fuel:Nat} {listed:Array Bool} {a:Act} {w:World} (hr:Region.ready md ops listed=[i]) (ho:ops.toList[i]?=some o)
  (h:∀K':Act→World→Prop,Shut (∀a w,(i=l∨S w)→((i=l∨S w)→wpAnyL P md ops Q S l fuel (listed.setIfInBounds i true) a w)→K' a w)→if Region.wanted o (yielded ops a.tmps)=true then Oper.wp P o a w K' Q else K' (a.put o.dst undef) w) :
  wpAnyL P md ops Q S l (fuel+1) listed a w:=by
 refine ⟨fun e=>(by rw [hr] at e;cases e),fun j hj=>?_⟩
 rw [hr] at hj
 obtain rfl:=List.mem_singleton.1 hj
 exact wpOp_step (at_list ho) (fun K' hK=>h K' (fun a w hS hW=>hK a w ⟨hS,hW hS⟩))
theorem L_done {listed:Array Bool} {a:Act} {w:World} (hr:Region.ready md ops listed=[]) (h:Q .normal a w) :
  ∀fuel,wpAnyL P md ops Q S l fuel listed a w
 | 0=>⟨hr,h⟩
 | _+1=>⟨fun _=>h,by rw [hr];simp⟩
theorem region_L {id:Nat} {a:Act} {w:World} (S:World→Prop) (l:Nat) (hm:P.follows .mixedOrders=true) (hS:S w.drew)
  (h:S w.drew→wpAnyL P .any ops Q S l ops.size (Array.replicate ops.size false) a w.drew):(Code.region id ops true).wp P Q a w:=
 wp_region_any hm (wpAny_of_L _ _ _ _ (h hS))
end
end
end Go.Proofs.YticbokabjhnagaaGreatDoor
