import Derived.Test.YticbokabjhnagaaGreatDoorW28
import Derived.Test.YticbokabjhnagaaGreatDoorW27
namespace Go.Proofs.YticbokabjhnagaaGreatDoor
set_option maxHeartbeats 32000000
section
open Go.RowKit
namespace Mil
def nn:E→Prop
 | .nil=>True
 | .node t _ _ a b=>t≠3∧nn a∧nn b
def Fc:E→Prop
 | .nil=>True
 | .node t _ _ a b=>(t=7∨t=9→nn a)∧Fc a∧Fc b
theorem const_nn {e:E} (h:isConst e):nn e∧Fc e:=by
 rcases h with ⟨k,_,rfl⟩ | ⟨k,_,rfl⟩ | ⟨k,_,rfl⟩ <;> simp [nn,Fc,eInt,eBool,ePre]
end Mil
namespace Mip
def sm (m:Mil.Bytes→Option Int) (ρ:Mil.Bytes→Int→Int→Int) (S:Int→Int→Option Int):E→Int→Option Int
 | .nil,_=>none
 | .node t k x a b,n=>
  if t=1 then some (k:Nat)
  else if t=2 then some (if k=1 then 1 else 0)
  else if t=3 then S ((m x.1).getD 0) n
  else if t=4 then (sm m ρ S a n).bind fun v=>some (ρ Mil.sMinus (if x.1=Mil.wNot then 1 else 0) v)
  else if t=6 then (match b with
   | .nil=>none
   | .node _ _ _ c d=>(sm m ρ S a n).bind fun h=>(sm m ρ S c n).bind fun u=>(sm m ρ S d n).bind fun v=>some (if h=0 then v else u))
  else if t=7 then (if n=0 then sm m ρ S a n else sm m ρ S b (wrap64 (n - 1)))
  else if t=8 then sm m ρ S a (wrap64 ((k:Nat)*n))
  else if t=9 then (if n < (k:Nat) then sm m ρ S a n else sm m ρ S b (wrap64 (n.tdiv (k:Nat) - 1)))
  else (sm m ρ S a n).bind fun u=>(sm m ρ S b n).bind fun v=>some (ρ x.1 u v)
def ask (m:Mil.Bytes→Option Int) (d:Int→Int→Prop):E→Int→Prop
 | .nil,_=>True
 | .node t k x a b,n=>
  if t=3 then d ((m x.1).getD 0) n
  else if t=7 then (if n=0 then ask m d a n else ask m d b (wrap64 (n - 1)))
  else if t=8 then ask m d a (wrap64 ((k:Nat)*n))
  else if t=9 then (if n < (k:Nat) then ask m d a n else ask m d b (wrap64 (n.tdiv (k:Nat) - 1)))
  else ask m d a n∧ask m d b n
theorem ask_nn (m:Mil.Bytes→Option Int) (d:Int→Int→Prop):∀(e:E) (n:Int),Mil.nn (er e)→ask m d e n
 | .nil,_,_=>trivial
 | .node t k x a b,n,h=>by
  have h':t≠3∧Mil.nn (er a)∧Mil.nn (er b):=h
  unfold ask
  rw [if_neg h'.1]
  split
  ·split
   ·exact ask_nn m d a _ h'.2.1
   ·exact ask_nn m d b _ h'.2.2
  ·split
   ·exact ask_nn m d a _ h'.2.1
   ·split
    ·split
     ·exact ask_nn m d a _ h'.2.1
     ·exact ask_nn m d b _ h'.2.2
    ·exact ⟨ask_nn m d a _ h'.2.1,ask_nn m d b _ h'.2.2⟩
section
variable (m:Mil.Bytes→Option Int) (ρ:Mil.Bytes→Int→Int→Int) (S:Int→Int→Option Int) (d:Int→Int→Prop)
theorem sm_int (p k:Nat) (n:Int):sm m ρ S (eInt p k) n=some (k:Nat):=by simp [sm,eInt]
theorem sm_bool (p k:Nat) (n:Int):sm m ρ S (eBool p k) n=some (if k=1 then 1 else 0):=by simp [sm,eBool]
theorem sm_name (p:Nat) (x:Mil.Bytes) (n:Int):sm m ρ S (eName p x) n=S ((m x).getD 0) n:=by simp [sm,eName]
theorem sm_pre (p:Nat) (x:Mil.Bytes) (a:E) (n:Int):sm m ρ S (ePre p x a) n=(sm m ρ S a n).bind fun v=>some (ρ Mil.sMinus (if x=Mil.wNot then 1 else 0) v):=by simp [sm,ePre]
theorem sm_two (p:Nat) (x:Mil.Bytes) (a b:E) (n:Int):sm m ρ S (eTwo p x a b) n=(sm m ρ S a n).bind fun u=>(sm m ρ S b n).bind fun v=>some (ρ x u v):=by cases b <;> simp [sm,eTwo]
theorem sm_if (p y:Nat) (a b c:E) (n:Int):sm m ρ S (.node 6 0 ([],p) a (.node 0 0 ([],y) b c)) n=(sm m ρ S a n).bind fun h=>(sm m ρ S b n).bind fun u=>(sm m ρ S c n).bind fun v=>some (if h=0 then v else u):=by simp [sm]
theorem sm_fby (p:Nat) (a b:E) (n:Int):sm m ρ S (eFby p a b) n=if n=0 then sm m ρ S a n else sm m ρ S b (wrap64 (n - 1)):=by cases b <;> simp [sm,eFby]
theorem sm_under (p:Nat) (a:E) (k:Nat) (n:Int):sm m ρ S (eUnder p a k) n=sm m ρ S a (wrap64 ((k:Nat)*n)):=by simp [sm,eUnder]
theorem sm_hold (p:Nat) (a b:E) (k:Nat) (n:Int):sm m ρ S (eHold p a b k) n=if n < (k:Nat) then sm m ρ S a n else sm m ρ S b (wrap64 (n.tdiv (k:Nat) - 1)):=by cases b <;> simp [sm,eHold]
theorem sm_least (p:Nat) (x:Mil.Bytes) (a b:E) (n:Int):sm m ρ S (eLeast p x a b) n=(sm m ρ S a n).bind fun u=>(sm m ρ S b n).bind fun v=>some (ρ x u v):=by cases b <;> simp [sm,eLeast]
theorem ask_name (p:Nat) (x:Mil.Bytes) (n:Int):ask m d (eName p x) n=d ((m x).getD 0) n:=by simp [ask,eName]
theorem ask_pre (p:Nat) (x:Mil.Bytes) (a:E) (n:Int):ask m d (ePre p x a) n↔ask m d a n:=by simp [ask,ePre]
theorem ask_two (p:Nat) (x:Mil.Bytes) (a b:E) (n:Int):ask m d (eTwo p x a b) n↔ask m d a n∧ask m d b n:=by simp [ask,eTwo]
theorem ask_if (p y:Nat) (a b c:E) (n:Int):ask m d (.node 6 0 ([],p) a (.node 0 0 ([],y) b c)) n↔ask m d a n∧ask m d b n∧ask m d c n:=by simp [ask]
theorem ask_fby (p:Nat) (a b:E) (n:Int):ask m d (eFby p a b) n↔if n=0 then ask m d a n else ask m d b (wrap64 (n - 1)):=by simp [ask,eFby]
theorem ask_under (p:Nat) (a:E) (k:Nat) (n:Int):ask m d (eUnder p a k) n↔ask m d a (wrap64 ((k:Nat)*n)):=by simp [ask,eUnder]
theorem ask_hold (p:Nat) (a b:E) (k:Nat) (n:Int):ask m d (eHold p a b k) n↔if n < (k:Nat) then ask m d a n else ask m d b (wrap64 (n.tdiv (k:Nat) - 1)):=by simp [ask,eHold]
theorem ask_least (p:Nat) (x:Mil.Bytes) (a b:E) (n:Int):ask m d (eLeast p x a b) n↔ask m d a n∧ask m d b n:=by simp [ask,eLeast]
end
theorem sm_mono {m:Mil.Bytes→Option Int} {ρ:Mil.Bytes→Int→Int→Int} {S S':Int→Int→Option Int} {d:Int→Int→Prop} (hs:∀j n v,d j n→S j n=some v→S' j n=some v):∀e:E,Mil.wf (er e) false→∀n v:Int,ask m d e n→sm m ρ S e n=some v→sm m ρ S' e n=some v:=by
 refine tree_induct ?_ ?_ ?_ ?_ ?_ ?_ ?_ ?_ ?_ ?_
 ·intro p k _ n v _ h;rw [sm_int] at h ⊢;exact h
 ·intro p k _ n v _ h;rw [sm_bool] at h ⊢;exact h
 ·intro p x _ n v ha h
  rw [sm_name] at h ⊢
  rw [ask_name] at ha
  exact hs _ _ _ ha h
 ·intro p x a _ iha n v ha h
  rw [sm_pre] at h ⊢
  rw [ask_pre] at ha
  obtain ⟨u,h1,h2⟩:=Option.bind_eq_some_iff.1 h
  rw [iha n u ha h1];exact h2
 ·intro p x a b _ iha ihb n v ha h
  rw [sm_two] at h ⊢
  rw [ask_two] at ha
  obtain ⟨u,h1,h2⟩:=Option.bind_eq_some_iff.1 h
  obtain ⟨u',h3,h4⟩:=Option.bind_eq_some_iff.1 h2
  rw [iha n u ha.1 h1]
  show (sm m ρ S' b n).bind _=_
  rw [ihb n u' ha.2 h3];exact h4
 ·intro p y a b c iha ihb ihc n v ha h
  rw [sm_if] at h ⊢
  rw [ask_if] at ha
  obtain ⟨u,h1,h2⟩:=Option.bind_eq_some_iff.1 h
  obtain ⟨u',h3,h4⟩:=Option.bind_eq_some_iff.1 h2
  obtain ⟨u'',h5,h6⟩:=Option.bind_eq_some_iff.1 h4
  rw [iha n u ha.1 h1]
  show (sm m ρ S' b n).bind _=_
  rw [ihb n u' ha.2.1 h3]
  show (sm m ρ S' c n).bind _=_
  rw [ihc n u'' ha.2.2 h5];exact h6
 ·intro p a b iha ihb n v ha h
  rw [sm_fby] at h ⊢
  rw [ask_fby] at ha
  by_cases c:n=0
  ·rw [if_pos c] at h ha ⊢;exact iha _ _ ha h
  ·rw [if_neg c] at h ha ⊢;exact ihb _ _ ha h
 ·intro p a k _ _ iha n v ha h
  rw [sm_under] at h ⊢
  rw [ask_under] at ha
  exact iha _ _ ha h
 ·intro p a b k _ _ iha ihb n v ha h
  rw [sm_hold] at h ⊢
  rw [ask_hold] at ha
  by_cases c:n < (k:Nat)
  ·rw [if_pos c] at h ha ⊢;exact iha _ _ ha h
  ·rw [if_neg c] at h ha ⊢;exact ihb _ _ ha h
 ·intro p x a b _ iha ihb n v ha h
  rw [sm_least] at h ⊢
  rw [ask_least] at ha
  obtain ⟨u,h1,h2⟩:=Option.bind_eq_some_iff.1 h
  obtain ⟨u',h3,h4⟩:=Option.bind_eq_some_iff.1 h2
  rw [iha n u ha.1 h1]
  show (sm m ρ S' b n).bind _=_
  rw [ihb n u' ha.2 h3];exact h4
theorem ask_mono {m:Mil.Bytes→Option Int} {d d':Int→Int→Prop} (hd:∀j n,d j n→d' j n):∀e:E,Mil.wf (er e) false→∀n:Int,ask m d e n→ask m d' e n:=by
 refine tree_induct ?_ ?_ ?_ ?_ ?_ ?_ ?_ ?_ ?_ ?_
 ·intro p k _ n _;simp [ask,eInt]
 ·intro p k _ n _;simp [ask,eBool]
 ·intro p x _ n h;rw [ask_name] at h ⊢;exact hd _ _ h
 ·intro p x a _ iha n h;rw [ask_pre] at h ⊢;exact iha n h
 ·intro p x a b _ iha ihb n h;rw [ask_two] at h ⊢;exact ⟨iha n h.1,ihb n h.2⟩
 ·intro p y a b c iha ihb ihc n h;rw [ask_if] at h ⊢;exact ⟨iha n h.1,ihb n h.2.1,ihc n h.2.2⟩
 ·intro p a b iha ihb n h
  rw [ask_fby] at h ⊢
  by_cases c:n=0
  ·rw [if_pos c] at h ⊢;exact iha _ h
  ·rw [if_neg c] at h ⊢;exact ihb _ h
 ·intro p a k _ _ iha n h;rw [ask_under] at h ⊢;exact iha _ h
 ·intro p a b k _ _ iha ihb n h
  rw [ask_hold] at h ⊢
  by_cases c:n < (k:Nat)
  ·rw [if_pos c] at h ⊢;exact iha _ h
  ·rw [if_neg c] at h ⊢;exact ihb _ h
 ·intro p x a b _ iha ihb n h;rw [ask_least] at h ⊢;exact ⟨iha n h.1,ihb n h.2⟩
theorem sm_same {m:Mil.Bytes→Option Int} {ρ:Mil.Bytes→Int→Int→Int} {S S':Int→Int→Option Int} {d:Int→Int→Prop} (hs:∀j n,d j n→S j n=S' j n) {e:E} (hw:Mil.wf (er e) false) {n:Int} (ha:ask m d e n):sm m ρ S e n=sm m ρ S' e n:=by
 cases h:sm m ρ S e n with
 | some v=>rw [sm_mono (fun j n v hd h=>by rw [←hs j n hd];exact h) e hw n v ha h]
 | none=>
  cases h':sm m ρ S' e n with
  | none=>rfl
  | some v=>
   rw [sm_mono (S':=S) (fun j n v hd h=>by rw [hs j n hd];exact h) e hw n v ha h'] at h
   cases h
theorem clash_two {m:Mil.Bytes→Option Int} {F:List Flo} {a b:E} {pe:Nat} (h:clash m F [a,b] pe=false):(perOf m F a≠0→perOf m F b≠0→perOf m F a=perOf m F b)∧(pe=0→perOf m F a=0∧perOf m F b=0):=by
 unfold clash at h
 simp only [fd] at h
 by_cases ha:perOf m F a=0 <;> by_cases hb:perOf m F b=0 <;> simp [ha,hb] at h ⊢
 ·exact h
 ·exact h
 ·exact ⟨h.1.symm,h.2⟩
theorem clash_one {m:Mil.Bytes→Option Int} {F:List Flo} {a:E} {pe:Nat} (h:clash m F [a] pe=false):pe=0→perOf m F a=0:=by
 unfold clash at h
 simp only [fd] at h
 by_cases ha:perOf m F a=0 <;> simp [ha] at h ⊢
 exact h
theorem clash_three {m:Mil.Bytes→Option Int} {F:List Flo} {a b c:E} {pe:Nat} (h:clash m F [a,b,c] pe=false):(perOf m F a≠0→perOf m F b≠0→perOf m F a=perOf m F b)∧(perOf m F a≠0→perOf m F c≠0→perOf m F a=perOf m F c)∧(perOf m F b≠0→perOf m F c≠0→perOf m F b=perOf m F c)∧(pe=0→perOf m F a=0∧perOf m F b=0∧perOf m F c=0):=by
 unfold clash at h
 simp only [fd] at h
 generalize perOf m F a=x at h ⊢
 generalize perOf m F b=y at h ⊢
 generalize perOf m F c=z at h ⊢
 by_cases ha:x=0 <;> by_cases hb:y=0 <;> by_cases hc:z=0 <;> simp [ha,hb,hc] at h ⊢ <;> omega
end Mip
end
section
open Go.RowKit
namespace Mip
section
variable {m:Mil.Bytes→Option Int} {F:List Flo}
theorem pf_none {e:E} (hw:Mil.wf (er e) false) (h:pfault m F e=none):(∀q∈kids e,pfault m F q=none)∧clash m F (kids e) (perOf m F e)=false:=by
 rw [pf_kids m F e hw] at h
 have key:∀l:List E,faultOf m F l=none→∀q∈l,pfault m F q=none:=by
  intro l
  induction l with
  | nil=>intro _ q hq;cases hq
  | cons x r ih=>
   intro h q hq
   simp only [faultOf,Option.or_eq_none_iff] at h
   rcases List.mem_cons.1 hq with rfl | hq
   ·exact h.1
   ·exact ih h.2 q hq
 simp only [Option.or_eq_none_iff] at h
 refine ⟨key _ h.1,?_⟩
 cases hc:clash m F (kids e) (perOf m F e) with
 | false=>rfl
 | true=>rw [hc] at h;simp at h
theorem un_none {e:E} (hw:Mil.wf (er e) false) (hn:∀p x,e≠eName p x) (h:unres m e=none):∀q∈kids e,unres m q=none:=by
 rw [unres_kids m e hw hn] at h
 have key:∀l:List E,firstOf m l=none→∀q∈l,unres m q=none:=by
  intro l
  induction l with
  | nil=>intro _ q hq;cases hq
  | cons x r ih=>
   intro h q hq
   simp only [firstOf,Option.or_eq_none_iff] at h
   rcases List.mem_cons.1 hq with rfl | hq
   ·exact h.1
   ·exact ih h.2 q hq
 exact key _ h
structure Hl (m:Mil.Bytes→Option Int) (F:List Flo) (e:E):Prop where
 wf:Mil.wf (er e) false
 pf:pfault m F e=none
 un:unres m e=none
theorem Hl.kid {e:E} (h:Hl m F e) (hn:∀p x,e≠eName p x) {q:E} (hq:q∈kids e) (hw:Mil.wf (er q) false):Hl m F q:=⟨hw,(pf_none h.wf h.pf).1 q hq,un_none h.wf hn h.un q hq⟩
theorem wf_pre {p:Nat} {x:Mil.Bytes} {a:E} (h:Mil.wf (er (ePre p x a)) false):Mil.wf (er a) false:=by
 simp [er,ePre,Mil.wf] at h;exact h.2
theorem wf_two {p:Nat} {x:Mil.Bytes} {a b:E} (h:Mil.wf (er (eTwo p x a b)) false):Mil.wf (er a) false∧Mil.wf (er b) false:=by
 simp [er,eTwo,Mil.wf] at h;exact h.2
theorem wf_if {p y:Nat} {a b c:E} (h:Mil.wf (er (.node 6 0 ([],p) a (.node 0 0 ([],y) b c))) false):Mil.wf (er a) false∧Mil.wf (er b) false∧Mil.wf (er c) false:=by
 simp [er,Mil.wf] at h;exact h
theorem wf_fby {p:Nat} {a b:E} (h:Mil.wf (er (eFby p a b)) false):Mil.isConst (er a)∧Mil.wf (er b) false:=by
 simp [er,eFby,Mil.wf] at h;exact h
theorem wf_under {p k:Nat} {a:E} (h:Mil.wf (er (eUnder p a k)) false):Mil.wf (er a) false:=by
 simp [er,eUnder,Mil.wf] at h;exact h.2.2
theorem wf_hold {p k:Nat} {a b:E} (h:Mil.wf (er (eHold p a b k)) false):Mil.isConst (er a)∧Mil.wf (er b) false:=by
 simp [er,eHold,Mil.wf] at h;exact h.2.2
theorem wf_least {p:Nat} {x:Mil.Bytes} {a b:E} (h:Mil.wf (er (eLeast p x a b)) false):Mil.wf (er a) false∧Mil.wf (er b) false:=by
 simp [er,eLeast,Mil.wf] at h;exact h.2
theorem nn_per {e:E} (h:Mil.nn (er e)):perOf m F e=0:=by
 induction e with
 | nil=>rfl
 | node t k x a b iha ihb=>
  have h':t≠3∧Mil.nn (er a)∧Mil.nn (er b):=h
  unfold perOf
  rw [iha h'.2.1,ihb h'.2.2,if_neg h'.1]
  simp
theorem per_pre (p:Nat) (x:Mil.Bytes) (a:E):perOf m F (ePre p x a)=perOf m F a:=by simp [perOf,ePre];intro h;exact h.symm
theorem per_two (p:Nat) (x:Mil.Bytes) (a b:E):perOf m F (eTwo p x a b)=if perOf m F a≠0 then perOf m F a else perOf m F b:=by simp [perOf,eTwo]
theorem per_least (p:Nat) (x:Mil.Bytes) (a b:E):perOf m F (eLeast p x a b)=if perOf m F a≠0 then perOf m F a else perOf m F b:=by simp [perOf,eLeast]
theorem per_if (p y:Nat) (a b c:E):perOf m F (.node 6 0 ([],p) a (.node 0 0 ([],y) b c))=if perOf m F a≠0 then perOf m F a else if perOf m F b≠0 then perOf m F b else perOf m F c:=by simp [perOf]
theorem per_fby (p:Nat) (a b:E):perOf m F (eFby p a b)=if perOf m F a≠0 then perOf m F a else perOf m F b:=by simp [perOf,eFby]
theorem per_under (p k:Nat) (a:E):perOf m F (eUnder p a k)=if perOf m F a*k≤1000000 then perOf m F a*k else 0:=by simp [perOf,eUnder]
theorem per_hold (p k:Nat) (a b:E):perOf m F (eHold p a b k)=if perOf m F b % k=0 then perOf m F b / k else 0:=by simp [perOf,eHold]
theorem per_name (p:Nat) (x:Mil.Bytes):perOf m F (eName p x)=perAt F ((m x).getD 0).toNat:=by simp [perOf,eName,perAt]
theorem per_nn (hp:∀x k,m x=some k→perAt F k.toNat≠0):∀e:E,Mil.wf (er e) false→Hl m F e→perOf m F e=0→Mil.nn (er e):=by
 refine tree_induct ?_ ?_ ?_ ?_ ?_ ?_ ?_ ?_ ?_ ?_
 ·intro p k _ _ _;simp [er,eInt,Mil.nn]
 ·intro p k _ _ _;simp [er,eBool,Mil.nn]
 ·intro p x _ h h0
  exfalso
  have hu:=h.un
  cases hm:m x with
  | none=>simp [unres,eName,hm] at hu
  | some k=>
   rw [per_name,hm] at h0
   exact hp x k hm h0
 ·intro p x a _ iha h h0
  rw [per_pre] at h0
  have:=iha (h.kid (by simp [ePre,eName]) (by simp [kids,ePre]) (wf_pre h.wf)) h0
  simp [er,ePre,Mil.nn,this]
 ·intro p x a b _ iha ihb h h0
  rw [per_two] at h0
  have ha:perOf m F a=0:=by
   by_cases c:perOf m F a=0
   ·exact c
   ·rw [if_pos c] at h0;exact h0
  rw [if_neg (by simp [ha])] at h0
  obtain ⟨w1,w2⟩:=wf_two h.wf
  have h1:=iha (h.kid (by simp [eTwo,eName]) (by simp [kids,eTwo]) w1) ha
  have h2:=ihb (h.kid (by simp [eTwo,eName]) (by simp [kids,eTwo]) w2) h0
  simp [er,eTwo,Mil.nn,h1,h2]
 ·intro p y a b c iha ihb ihc h h0
  rw [per_if] at h0
  have ha:perOf m F a=0:=by
   by_cases c:perOf m F a=0
   ·exact c
   ·rw [if_pos c] at h0;exact h0
  rw [if_neg (by simp [ha])] at h0
  have hb:perOf m F b=0:=by
   by_cases c:perOf m F b=0
   ·exact c
   ·rw [if_pos c] at h0;exact h0
  rw [if_neg (by simp [hb])] at h0
  obtain ⟨w1,w2,w3⟩:=wf_if h.wf
  have h1:=iha (h.kid (by simp [eName]) (by simp [kids]) w1) ha
  have h2:=ihb (h.kid (by simp [eName]) (by simp [kids]) w2) hb
  have h3:=ihc (h.kid (by simp [eName]) (by simp [kids]) w3) h0
  simp [er,Mil.nn,h1,h2,h3]
 ·intro p a b _ ihb h h0
  obtain ⟨w1,w2⟩:=wf_fby h.wf
  have h1:=(Mil.const_nn w1).1
  rw [per_fby,if_neg (by simp [nn_per h1])] at h0
  have h2:=ihb (h.kid (by simp [eFby,eName]) (by simp [kids,eFby]) w2) h0
  simp [er,eFby,Mil.nn,h1,h2]
 ·intro p a k _ _ iha h h0
  have hc:clash m F [a] (perOf m F (eUnder p a k))=false:=(pf_none h.wf h.pf).2
  have h1:=iha (h.kid (by simp [eUnder,eName]) (by simp [kids,eUnder]) (wf_under h.wf)) (clash_one hc h0)
  simp [er,eUnder,Mil.nn,h1]
 ·intro p a b k _ _ _ ihb h h0
  obtain ⟨w1,w2⟩:=wf_hold h.wf
  have hc:clash m F [a,b] (perOf m F (eHold p a b k))=false:=(pf_none h.wf h.pf).2
  have h1:=(Mil.const_nn w1).1
  have h2:=ihb (h.kid (by simp [eHold,eName]) (by simp [kids,eHold]) w2) ((clash_two hc).2 h0).2
  simp [er,eHold,Mil.nn,h1,h2]
 ·intro p x a b _ iha ihb h h0
  rw [per_least] at h0
  have ha:perOf m F a=0:=by
   by_cases c:perOf m F a=0
   ·exact c
   ·rw [if_pos c] at h0;exact h0
  rw [if_neg (by simp [ha])] at h0
  obtain ⟨w1,w2⟩:=wf_least h.wf
  have h1:=iha (h.kid (by simp [eLeast,eName]) (by simp [kids,eLeast]) w1) ha
  have h2:=ihb (h.kid (by simp [eLeast,eName]) (by simp [kids,eLeast]) w2) h0
  simp [er,eLeast,Mil.nn,h1,h2]
def dm (m:Mil.Bytes→Option Int) (F:List Flo) (nd:List Nat) (τ:Int):Int→Int→Prop:=fun j n=>0≤n∧(∃x,m x=some j)∧(n*(perAt F j.toNat:Nat) < τ∨(n*(perAt F j.toNat:Nat)=τ∧j.toNat∈nd))
theorem dm_mono {nd nd':List Nat} {τ τ':Int} (h:τ < τ'∨(τ=τ'∧∀x∈nd,x∈nd')) {j n:Int} (k:dm m F nd τ j n):dm m F nd' τ' j n:=by
 refine ⟨k.1,k.2.1,?_⟩
 rcases h with h | ⟨rfl,h⟩
 ·rcases k.2.2 with c | c
  ·exact Or.inl (by omega)
  ·exact Or.inl (by omega)
 ·exact k.2.2.imp id (fun c=>⟨c.1,h _ c.2⟩)
theorem wrap_id {x:Int} (h0:0≤x) (h1:x≤4611686018427387904):wrap64 x=x:=by unfold wrap64;omega
end
end Mip
end
section
open Go.RowKit
namespace Mip
section
variable {m:Mil.Bytes→Option Int} {F:List Flo}
def At (m:Mil.Bytes→Option Int) (F:List Flo) (e:E):Prop:=Hl m F e→∀n:Int,0≤n→perOf m F e≠0→n*(perOf m F e:Nat)≤4611686018427387904→ask m (dm m F (nds m e) (n*(perOf m F e:Nat))) e n
theorem at_kid (hp:∀x k,m x=some k→perAt F k.toNat≠0) {a e:E} (ha:At m F a) (hl:Hl m F a) (n:Int) (hn:0≤n) (hq:perOf m F a≠0→perOf m F a=perOf m F e) (hs:∀x∈nds m a,x∈nds m e) (h0:n*(perOf m F e:Nat)≤4611686018427387904):ask m (dm m F (nds m e) (n*(perOf m F e:Nat))) a n:=by
 by_cases c:perOf m F a=0
 ·exact ask_nn m _ a n (per_nn hp a hl.wf hl c)
 ·have e1:=hq c
  have:=ha hl n hn c (by rw [e1];exact h0)
  rw [e1] at this
  exact ask_mono (fun j n' k=>dm_mono (Or.inr ⟨rfl,hs⟩) k) a hl.wf n this
theorem nds_two (p:Nat) (x:Mil.Bytes) (a b:E):nds m (eTwo p x a b)=nds m a++nds m b:=by simp [nds,eTwo]
theorem nds_least (p:Nat) (x:Mil.Bytes) (a b:E):nds m (eLeast p x a b)=nds m a++nds m b:=by simp [nds,eLeast]
theorem nds_if (p y:Nat) (a b c:E):nds m (.node 6 0 ([],p) a (.node 0 0 ([],y) b c))=nds m a++(nds m b++nds m c):=by simp [nds]
theorem nds_pre (p:Nat) (x:Mil.Bytes) (a:E):nds m (ePre p x a)=nds m a:=by simp [nds,ePre]
theorem nds_under (p k:Nat) (a:E):nds m (eUnder p a k)=nds m a:=by simp [nds,eUnder]
theorem nds_name (p:Nat) (x:Mil.Bytes):nds m (eName p x)=[((m x).getD 0).toNat]:=by simp [nds,eName]
theorem at_two {a b e:E} (hp:∀x k,m x=some k→perAt F k.toNat≠0) (iha:At m F a) (ihb:At m F b) (ha:Hl m F a) (hb:Hl m F b) (he:perOf m F e=if perOf m F a≠0 then perOf m F a else perOf m F b) (hc:clash m F [a,b] (perOf m F e)=false) (hs:nds m e=nds m a++nds m b) (n:Int) (hn:0≤n) (h0:n*(perOf m F e:Nat)≤4611686018427387904):ask m (dm m F (nds m e) (n*(perOf m F e:Nat))) a n∧ask m (dm m F (nds m e) (n*(perOf m F e:Nat))) b n:=by
 have k:=(clash_two hc).1
 refine ⟨at_kid hp iha ha n hn (fun c=>by rw [he,if_pos c]) (fun x hx=>by rw [hs];exact List.mem_append_left _ hx) h0,at_kid hp ihb hb n hn (fun c=>?_) (fun x hx=>by rw [hs];exact List.mem_append_right _ hx) h0⟩
 rw [he]
 by_cases ca:perOf m F a=0
 ·rw [if_neg (by simp [ca])]
 ·rw [if_pos ca];exact (k ca c).symm
theorem at_all (hp:∀x k,m x=some k→perAt F k.toNat≠0):∀e:E,Mil.wf (er e) false→At m F e:=by
 refine tree_induct ?_ ?_ ?_ ?_ ?_ ?_ ?_ ?_ ?_ ?_
 ·intro p k _ _ n _ _ _;simp [ask,eInt]
 ·intro p k _ _ n _ _ _;simp [ask,eBool]
 ·intro p x _ h n hn _ _
  rw [ask_name,per_name,nds_name]
  refine ⟨hn,⟨x,?_⟩,Or.inr ⟨rfl,by simp⟩⟩
  have hu:=h.un
  cases hm:m x with
  | none=>simp [unres,eName,hm] at hu
  | some k=>rfl
 ·intro p x a _ iha h n hn _ h0
  rw [ask_pre]
  exact at_kid hp iha (h.kid (by simp [ePre,eName]) (by simp [kids,ePre]) (wf_pre h.wf)) n hn (fun _=>(per_pre p x a).symm) (fun x hx=>by rw [nds_pre];exact hx) h0
 ·intro p x a b _ iha ihb h n hn _ h0
  obtain ⟨w1,w2⟩:=wf_two h.wf
  rw [ask_two]
  exact at_two hp iha ihb (h.kid (by simp [eTwo,eName]) (by simp [kids,eTwo]) w1) (h.kid (by simp [eTwo,eName]) (by simp [kids,eTwo]) w2) (per_two p x a b) (pf_none h.wf h.pf).2 (nds_two p x a b) n hn h0
 ·intro p y a b c iha ihb ihc h n hn _ h0
  obtain ⟨w1,w2,w3⟩:=wf_if h.wf
  have hc:clash m F [a,b,c] (perOf m F (.node 6 0 ([],p) a (.node 0 0 ([],y) b c)))=false:=(pf_none h.wf h.pf).2
  obtain ⟨k1,k2,k3,_⟩:=clash_three hc
  rw [ask_if]
  refine ⟨at_kid hp iha (h.kid (by simp [eName]) (by simp [kids]) w1) n hn (fun c1=>?_) (fun x hx=>by rw [nds_if];exact List.mem_append_left _ hx) h0,at_kid hp ihb (h.kid (by simp [eName]) (by simp [kids]) w2) n hn (fun c1=>?_) (fun x hx=>by rw [nds_if];exact List.mem_append_right _ (List.mem_append_left _ hx)) h0,at_kid hp ihc (h.kid (by simp [eName]) (by simp [kids]) w3) n hn (fun c1=>?_) (fun x hx=>by rw [nds_if];exact List.mem_append_right _ (List.mem_append_right _ hx)) h0⟩
  ·rw [per_if,if_pos c1]
  ·rw [per_if]
   by_cases ca:perOf m F a=0
   ·rw [if_neg (by simp [ca]),if_pos c1]
   ·rw [if_pos ca];exact (k1 ca c1).symm
  ·rw [per_if]
   by_cases ca:perOf m F a=0
   ·rw [if_neg (by simp [ca])]
    by_cases cb:perOf m F b=0
    ·rw [if_neg (by simp [cb])]
    ·rw [if_pos cb];exact (k3 cb c1).symm
   ·rw [if_pos ca];exact (k2 ca c1).symm
 ·intro p a b _ ihb h n hn hne h0
  obtain ⟨w1,w2⟩:=wf_fby h.wf
  have h1:=(Mil.const_nn w1).1
  have hb:=h.kid (by simp [eFby,eName]) (show b∈kids (eFby p a b) by simp [kids,eFby]) w2
  have e1:perOf m F (eFby p a b)=perOf m F b:=by rw [per_fby,if_neg (by simp [nn_per h1])]
  rw [e1] at hne h0 ⊢
  rw [ask_fby]
  by_cases c:n=0
  ·rw [if_pos c];exact ask_nn m _ a n h1
  ·have hw:wrap64 (n - 1)=n - 1:=Mip.wrap_id (by omega) (by
    have:n*1≤n*(perOf m F b:Nat):=Int.mul_le_mul_of_nonneg_left (by omega) hn
    omega)
   rw [if_neg c,hw]
   have hlt:(n - 1)*(perOf m F b:Nat) < n*(perOf m F b:Nat):=Int.mul_lt_mul_of_pos_right (by omega) (by omega)
   exact ask_mono (fun j n' k=>dm_mono (Or.inl hlt) k) b w2 _ (ihb hb (n - 1) (by omega) hne (by omega))
 ·intro p a k hk2 _ iha h n hn hne h0
  have ha:=h.kid (by simp [eUnder,eName]) (show a∈kids (eUnder p a k) by simp [kids,eUnder]) (wf_under h.wf)
  have e1:perOf m F (eUnder p a k)=perOf m F a*k:=by
   rw [per_under] at hne ⊢
   split
   ·rfl
   ·rename_i c;rw [if_neg c] at hne;exact absurd rfl hne
  rw [e1] at hne h0 ⊢
  have hpa:perOf m F a≠0:=fun c=>hne (by rw [c,Nat.zero_mul])
  have e2:n*((perOf m F a*k:Nat):Int)=((k:Nat)*n)*(perOf m F a:Nat):=by
   rw [Int.natCast_mul,Int.mul_comm ((k:Nat):Int) n,Int.mul_assoc,Int.mul_comm ((k:Nat):Int)]
  rw [e2] at h0 ⊢
  have hkn:0≤((k:Nat):Int)*n:=Int.mul_nonneg (by omega) hn
  have hle:((k:Nat):Int)*n≤4611686018427387904:=by
   have:((k:Nat):Int)*n*1≤((k:Nat):Int)*n*(perOf m F a:Nat):=Int.mul_le_mul_of_nonneg_left (by omega) hkn
   omega
  rw [ask_under,wrap_id hkn hle,nds_under]
  exact iha ha _ hkn hpa h0
 ·intro p a b k hk2 _ _ ihb h n hn hne h0
  obtain ⟨w1,w2⟩:=wf_hold h.wf
  have h1:=(Mil.const_nn w1).1
  have hb:=h.kid (by simp [eHold,eName]) (show b∈kids (eHold p a b k) by simp [kids,eHold]) w2
  obtain ⟨q,hq⟩:∃q,perOf m F (eHold p a b k)=q∧perOf m F b=q*k:=by
   rw [per_hold] at hne
   by_cases c:perOf m F b % k=0
   ·refine ⟨perOf m F b / k,by rw [per_hold,if_pos c],?_⟩
    exact (Nat.div_mul_cancel (Nat.dvd_of_mod_eq_zero c)).symm
   ·rw [if_neg c] at hne;exact absurd rfl hne
  rw [hq.1] at hne h0 ⊢
  rw [ask_hold]
  by_cases c:n < (k:Nat)
  ·rw [if_pos c];exact ask_nn m _ a n h1
  ·rw [if_neg c]
   have hd:n.tdiv (k:Nat)=n / (k:Nat):=Int.tdiv_eq_ediv_of_nonneg hn
   have h2:1≤n / (k:Nat):=Int.le_ediv_of_mul_le (by omega) (by omega)
   have h3:n / (k:Nat)*(k:Nat)≤n:=Int.ediv_mul_le n (by omega)
   have hqp:(0:Int) < (q:Nat):=by omega
   have e3:(n / (k:Nat) - 1)*((q*k:Nat):Int)=(n / (k:Nat)*(k:Nat) - (k:Nat))*(q:Nat):=by
    rw [Int.natCast_mul,Int.mul_comm ((q:Nat):Int),←Int.mul_assoc,Int.sub_mul,Int.one_mul]
   have hlt:(n / (k:Nat)*(k:Nat) - (k:Nat))*(q:Nat) < n*(q:Nat):=Int.mul_lt_mul_of_pos_right (by omega) hqp
   have hw:wrap64 (n / (k:Nat) - 1)=n / (k:Nat) - 1:=Mip.wrap_id (by omega) (by
    have h4:n*1≤n*(q:Nat):=Int.mul_le_mul_of_nonneg_left (by omega) hn
    have h5:n / (k:Nat)*1≤n / (k:Nat)*(k:Nat):=Int.mul_le_mul_of_nonneg_left (by omega) (by omega)
    omega)
   rw [hd,hw]
   have hx:=ihb hb (n / (k:Nat) - 1) (by omega) (by rw [hq.2];intro c;rcases Nat.mul_eq_zero.1 c with c | c <;> omega) (by rw [hq.2,e3];omega)
   rw [hq.2,e3] at hx
   exact ask_mono (fun j n' k=>dm_mono (Or.inl hlt) k) b w2 _ hx
 ·intro p x a b _ iha ihb h n hn _ h0
  obtain ⟨w1,w2⟩:=wf_least h.wf
  rw [ask_least]
  exact at_two hp iha ihb (h.kid (by simp [eLeast,eName]) (by simp [kids,eLeast]) w1) (h.kid (by simp [eLeast,eName]) (by simp [kids,eLeast]) w2) (per_least p x a b) (pf_none h.wf h.pf).2 (nds_least p x a b) n hn h0
end
end Mip
end
section
open Go.RowKit
theorem rank_ex {nd:Nat→List Nat} {K:Nat} (hK:∀a b,b∈nd a→b < K) (hc:∀j,¬Mip.Way nd j j):∃r:Nat→Nat,(∀j,r j≤K)∧∀a b,b∈nd a→r b < r a:=by
 classical
 refine ⟨fun j=>((List.range K).filter fun y=>decide (Mip.Way nd j y)).length,fun j=>?_,fun a b hb=>?_⟩
 ·exact Nat.le_trans (List.length_filter_le _ _) (by simp)
 ·have hw:Mip.Way nd a b:=.single hb
  have sub:∀y,Mip.Way nd b y→Mip.Way nd a y:=fun y hy=>hw.trans hy
  have e1:(List.range K).filter (fun y=>decide (Mip.Way nd b y))=((List.range K).filter fun y=>decide (Mip.Way nd a y)).filter (fun y=>decide (Mip.Way nd b y)):=by
   rw [List.filter_filter]
   apply List.filter_congr
   intro y _
   by_cases h:Mip.Way nd b y
   ·simp [h,sub y h]
   ·simp [h]
  show ((List.range K).filter fun y=>decide (Mip.Way nd b y)).length < ((List.range K).filter fun y=>decide (Mip.Way nd a y)).length
  rw [e1]
  refine Nat.lt_of_le_of_ne (List.length_filter_le _ _) (fun e=>?_)
  have:=(List.length_filter_eq_length_iff.1 e) b (List.mem_filter.2 ⟨List.mem_range.2 (hK a b hb),by simpa using hw⟩)
  exact hc b (by simpa using this)
def tv (m:Mil.Bytes→Option Int) (ρ:Mil.Bytes→Int→Int→Int) (Q:List Nq) (L:Nat→Option (List Int)) (S:Int→Int→Option Int) (j n:Int):Option Int:=
 if n < 0∨2000 < n then none else
 match L j.toNat with
 | some l=>l[n.toNat]?
 | none=>match Q.find? fun q=>q.flow==j.toNat with
  | none=>none
  | some q=>if (List.range (n.toNat+1)).all (fun i=>(Mip.sm m ρ S q.body (i:Nat)).isSome) then Mip.sm m ρ S q.body n else none
def va (m:Mil.Bytes→Option Int) (ρ:Mil.Bytes→Int→Int→Int) (Q:List Nq) (L:Nat→Option (List Int)):Nat→Int→Int→Option Int
 | 0,_,_=>none
 | k+1,j,n=>tv m ρ Q L (va m ρ Q L k) j n
structure Cd (m:Mil.Bytes→Option Int) (F:List Flo) (Q:List Nq) (r:Nat→Nat):Prop where
 up:∀q∈Q,Q.find? (fun x=>x.flow==q.flow)=some q
 hl:∀q∈Q,Mip.Hl m F q.body
 pe:∀q∈Q,Mip.perOf m F q.body=perAt F q.flow
 p0:∀q∈Q,perAt F q.flow≠0
 pm:∀j,perAt F j≤1000000
 nm:∀x k,m x=some k→perAt F k.toNat≠0
 rk:∀j,r j≤60
 ls:∀q∈Q,∀y∈Mip.nds m q.body,r y < r q.flow
def mu (F:List Flo) (r:Nat→Nat) (j n:Int):Nat:=(n*(perAt F j.toNat:Nat)).toNat*61+r j.toNat
section
variable {m:Mil.Bytes→Option Int} {ρ:Mil.Bytes→Int→Int→Int} {F:List Flo} {Q:List Nq} {r:Nat→Nat}
theorem mu_le (j:Int) {n n':Int} (h:n≤n'):mu F r j n≤mu F r j n':=by
 have h1:n*(perAt F j.toNat:Nat)≤n'*(perAt F j.toNat:Nat):=Int.mul_le_mul_of_nonneg_right h (by omega)
 unfold mu
 omega
theorem asks (C:Cd m F Q r) {q:Nq} (hq:q∈Q) {i:Int} (h0:0≤i) (h2:i≤2000) (j:Int) (hj:j.toNat=q.flow):Mip.ask m (fun j' n'=>0≤n'∧(∃x,m x=some j')∧mu F r j' n' < mu F r j i) q.body i:=by
 have e1:=C.pe q hq
 have hl:=C.hl q hq
 have hb:i*(Mip.perOf m F q.body:Nat)≤4611686018427387904:=by
  have h3:i*(Mip.perOf m F q.body:Nat)≤2000*(Mip.perOf m F q.body:Nat):=Int.mul_le_mul_of_nonneg_right h2 (by omega)
  have:=C.pm q.flow
  rw [e1] at h3 ⊢
  omega
 have:=Mip.at_all C.nm q.body hl.wf hl i h0 (by rw [e1];exact C.p0 q hq) hb
 refine Mip.ask_mono (fun j' n' k=>?_) q.body hl.wf i this
 obtain ⟨k0,kx,k1⟩:=k
 refine ⟨k0,kx,?_⟩
 have hr:=C.rk j'.toNat
 rw [e1,←hj] at k1
 have hn:0≤n'*(perAt F j'.toNat:Nat):=Int.mul_nonneg k0 (by omega)
 unfold mu
 rcases k1 with k1 | ⟨k1,k2⟩
 ·omega
 ·have:=C.ls q hq _ k2
  rw [←hj] at this
  rw [k1]
  omega
theorem all_same {S S':Int→Int→Option Int} {e:Mip.E} {n:Nat} (h:∀i:Nat,i≤n→Mip.sm m ρ S e (i:Nat)=Mip.sm m ρ S' e (i:Nat)):(List.range (n+1)).all (fun i=>(Mip.sm m ρ S e (i:Nat)).isSome)=(List.range (n+1)).all (fun i=>(Mip.sm m ρ S' e (i:Nat)).isSome):=by
 rw [Bool.eq_iff_iff,List.all_eq_true,List.all_eq_true]
 constructor
 ·intro k i hi;rw [←h i (by have:=List.mem_range.1 hi;omega)];exact k i hi
 ·intro k i hi;rw [h i (by have:=List.mem_range.1 hi;omega)];exact k i hi
theorem tv_same (C:Cd m F Q r) {L:Nat→Option (List Int)} {S S':Int→Int→Option Int} (j n:Int) (hs:∀j' n',0≤n'→mu F r j' n' < mu F r j n→S j' n'=S' j' n'):tv m ρ Q L S j n=tv m ρ Q L S' j n:=by
 unfold tv
 by_cases hn:n < 0∨2000 < n
 ·rw [if_pos hn,if_pos hn]
 rw [if_neg hn,if_neg hn]
 cases L j.toNat with
 | some l=>rfl
 | none=>
  cases hq:Q.find? fun q=>q.flow==j.toNat with
  | none=>rfl
  | some q=>
   have hm:q∈Q:=List.mem_of_find?_eq_some hq
   have hf:j.toNat=q.flow:=by have:=List.find?_some hq;simp at this;exact this.symm
   have key:∀i:Nat,i≤n.toNat→Mip.sm m ρ S q.body (i:Nat)=Mip.sm m ρ S' q.body (i:Nat):=fun i hi=>
    Mip.sm_same (d:=fun j' n'=>0≤n'∧(∃x,m x=some j')∧mu F r j' n' < mu F r j (i:Nat)) (fun j' n' k=>hs j' n' k.1 (Nat.lt_of_lt_of_le k.2.2 (mu_le j (by omega)))) (C.hl q hm).wf (asks C hm (by omega) (by omega) j hf)
   have e:((n.toNat:Nat):Int)=n:=by omega
   have k2:=key n.toNat (Nat.le_refl _)
   rw [e] at k2
   show (if _ then _ else _)=(if _ then _ else _)
   rw [all_same key,k2]
theorem va_same (C:Cd m F Q r) {L:Nat→Option (List Int)}:∀(u:Nat) (j n:Int),mu F r j n=u→∀k k',u < k→u < k'→va m ρ Q L k j n=va m ρ Q L k' j n:=by
 intro u
 induction u using Nat.strongRecOn with
 | ind u ih=>
  intro j n hu k k' hk hk'
  obtain ⟨a,rfl⟩:∃a,k=a+1:=⟨k - 1,by omega⟩
  obtain ⟨b,rfl⟩:∃b,k'=b+1:=⟨k' - 1,by omega⟩
  show tv m ρ Q L (va m ρ Q L a) j n=tv m ρ Q L (va m ρ Q L b) j n
  exact tv_same C j n (fun j' n' _ h=>ih _ (by omega) j' n' rfl a b (by omega) (by omega))
theorem sol_ex (C:Cd m F Q r) (ρ:Mil.Bytes→Int→Int→Int) (L:Nat→Option (List Int)):∃S:Int→Int→Option Int,(∀j n,S j n=tv m ρ Q L S j n)∧∀k j n,mu F r j n < k→S j n=va m ρ Q L k j n:=by
 refine ⟨fun j n=>va m ρ Q L (mu F r j n+1) j n,fun j n=>?_,fun k j n h=>va_same C _ j n rfl _ _ (Nat.lt_succ_self _) h⟩
 show tv m ρ Q L (va m ρ Q L (mu F r j n)) j n=_
 exact tv_same C j n (fun j' n' _ h=>va_same C _ j' n' rfl _ _ h (Nat.lt_succ_self _))
theorem sol_mono (C:Cd m F Q r) {L L':Nat→Option (List Int)} (hL:∀j,(L j=none↔L' j=none)∧∀l l',L j=some l→L' j=some l'→∃t,l'=l++t) {S S':Int→Int→Option Int} (h:∀j n,S j n=tv m ρ Q L S j n) (h':∀j n,S' j n=tv m ρ Q L' S' j n):∀(u:Nat) (j n:Int),mu F r j n=u→∀v,S j n=some v→S' j n=some v:=by
 intro u
 induction u using Nat.strongRecOn with
 | ind u ih=>
  intro j n hu v hv
  rw [h] at hv
  rw [h']
  unfold tv at hv ⊢
  by_cases hn:n < 0∨2000 < n
  ·rw [if_pos hn] at hv;cases hv
  rw [if_neg hn] at hv ⊢
  obtain ⟨k1,k2⟩:=hL j.toNat
  cases hl:L j.toNat with
  | some l=>
   cases hl':L' j.toNat with
   | none=>rw [k1.2 hl'] at hl;cases hl
   | some l'=>
    rw [hl] at hv
    obtain ⟨t,rfl⟩:=k2 l l' hl hl'
    have hv':l[n.toNat]?=some v:=hv
    show (l++t)[n.toNat]?=some v
    rw [List.getElem?_append_left (List.getElem?_eq_some_iff.1 hv').1]
    exact hv'
  | none=>
   rw [hl] at hv
   rw [k1.1 hl]
   dsimp only at hv ⊢
   cases hq:Q.find? fun q=>q.flow==j.toNat with
   | none=>rw [hq] at hv;cases hv
   | some q=>
    rw [hq] at hv
    dsimp only at hv ⊢
    have hm:q∈Q:=List.mem_of_find?_eq_some hq
    have hf:j.toNat=q.flow:=by have:=List.find?_some hq;simp at this;exact this.symm
    have key:∀i:Nat,i≤n.toNat→∀x,Mip.sm m ρ S q.body (i:Nat)=some x→Mip.sm m ρ S' q.body (i:Nat)=some x:=fun i hi x hx=>
     Mip.sm_mono (d:=fun j' n'=>0≤n'∧(∃x,m x=some j')∧mu F r j' n' < mu F r j (i:Nat)) (fun j' n' y k hy=>ih _ (by have:=mu_le (F:=F) (r:=r) j (n:=(i:Nat)) (n':=n) (by omega);omega) j' n' rfl y hy) q.body (C.hl q hm).wf _ x (asks C hm (by omega) (by omega) j hf) hx
    have e:((n.toNat:Nat):Int)=n:=by omega
    split at hv
    ·rename_i c
     have c':(List.range (n.toNat+1)).all (fun i=>(Mip.sm m ρ S' q.body (i:Nat)).isSome)=true:=by
      rw [List.all_eq_true] at c ⊢
      intro i hi
      obtain ⟨x,hx⟩:=Option.isSome_iff_exists.1 (c i hi)
      rw [key i (by have:=List.mem_range.1 hi;omega) x hx];rfl
     rw [if_pos c']
     have k3:=key n.toNat (Nat.le_refl _) v
     rw [e] at k3
     exact k3 hv
    ·cases hv
end
end
section
open Go.RowKit
section
variable {m:Mil.Bytes→Option Int} {ρ:Mil.Bytes→Int→Int→Int} {Q:List Nq} {L:Nat→Option (List Int)} {S:Int→Int→Option Int}
theorem tv_eq {j:Nat} {q:Nq} (hL:L j=none) (hq:Q.find? (fun x=>x.flow==j)=some q) {n:Nat} (hn:n≤2000):tv m ρ Q L S (j:Nat) (n:Nat)=if (List.range (n+1)).all (fun i=>(Mip.sm m ρ S q.body (i:Nat)).isSome) then Mip.sm m ρ S q.body (n:Nat) else none:=by
 unfold tv
 rw [if_neg (by omega)]
 have e:((j:Nat):Int).toNat=j:=by omega
 have e2:((n:Nat):Int).toNat=n:=by omega
 rw [e,e2,hL,hq]
theorem sol_next (h:∀j n,S j n=tv m ρ Q L S j n) {j:Nat} {q:Nq} (hL:L j=none) (hq:Q.find? (fun x=>x.flow==j)=some q) {i:Nat} (hi:i≤2000) (hp:∀k,k < i→(S (j:Nat) (k:Nat)).isSome) {v:Int} (hv:Mip.sm m ρ S q.body (i:Nat)=some v):S (j:Nat) (i:Nat)=some v:=by
 rw [h,tv_eq hL hq hi,if_pos]
 ·exact hv
 ·rw [List.all_eq_true]
  intro k hk
  have hk':=List.mem_range.1 hk
  by_cases e:k=i
  ·rw [e,hv];rfl
  ·have h1:=hp k (by omega)
   rw [h,tv_eq hL hq (by omega)] at h1
   split at h1
   ·exact h1
   ·cases h1
theorem sol_stop (h:∀j n,S j n=tv m ρ Q L S j n) {j:Nat} {q:Nq} (hL:L j=none) (hq:Q.find? (fun x=>x.flow==j)=some q) {i:Nat} (hv:Mip.sm m ρ S q.body (i:Nat)=none) {n:Nat} (hn:i≤n) (h2:n≤2000):S (j:Nat) (n:Nat)=none:=by
 rw [h,tv_eq hL hq h2,if_neg]
 intro c
 rw [List.all_eq_true] at c
 have:=c i (List.mem_range.2 (by omega))
 rw [hv] at this
 cases this
theorem sol_late (h:∀j n,S j n=tv m ρ Q L S j n) {j n:Int} (hn:2000 < n):S j n=none:=by
 rw [h];unfold tv;rw [if_pos (Or.inr hn)]
theorem sol_in (h:∀j n,S j n=tv m ρ Q L S j n) {j:Nat} {l:List Int} (hL:L j=some l) {n:Nat} (hn:n≤2000):S (j:Nat) (n:Nat)=l[n]?:=by
 rw [h]
 unfold tv
 rw [if_neg (by omega)]
 have e:((j:Nat):Int).toNat=j:=by omega
 have e2:((n:Nat):Int).toNat=n:=by omega
 rw [e,e2,hL]
end
end
end Go.Proofs.YticbokabjhnagaaGreatDoor
