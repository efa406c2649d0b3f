import Derived.Test.YticbokabjhnagaaGreatDoorW31
import Derived.Test.YticbokabjhnagaaGreatDoorW32
import Derived.Maps.OwnSet
import Derived.Maps.Keyed
import Derived.Maps.Views
import Derived.Lib.SlKeysI
import Derived.Test.YticbokabjhnagaaGreatDoorW27
namespace Go.Proofs.YticbokabjhnagaaGreatDoor
set_option maxHeartbeats 32000000
section
open Go.RowKit Go.Maps
abbrev rawR (v:Value):Option (DataW Value×List MemPlace):=some (.held v,[])
def pickV (o:Option Value) (z:DataW Value):DataW Value:=match o with | some v=>.held v | none=>z
abbrev updN (m:Nat→Option Value) (x:Nat) (v:Value):Nat→Option Value:=fun y=>if y=x then some v else m y
abbrev delN (m:Nat→Option Value) (x:Nat):Nat→Option Value:=fun y=>if y=x then none else m y
def Holds (D:DataW Value) (m:Nat→Option Value):Prop:=(∀x:Nat,Maps.has D (.int .i64 (x:Nat))=(m x).isSome∧∀z,D.atKey (.int .i64 (x:Nat)) z=pickV (m x) z)∧∀x:Int,x < 0→Maps.has D (.int .i64 x)=false
def Mpi (w:World) (b n:Nat) (m:Nat→Option Value):Prop:=∃D:DataW Value,w.ownsMap Tryz.prog 3 rawR b n D∧Holds D m
theorem neg_ne {x:Nat} {y:Int} (hy:y < 0):(Lit.int .i64 y)≠.int .i64 (x:Nat):=fun h=>by
 have h2:y=(x:Int):=by injection h
 omega
theorem nat_ne {x y:Nat} (hy:y≠x):(Lit.int .i64 (y:Nat))≠.int .i64 (x:Nat):=fun h=>by
 have h2:((y:Nat):Int)=(x:Int):=by injection h
 exact hy (Int.ofNat.inj h2)
theorem wfN (x:Nat) (hx:x≤1000000000):(Lit.int .i64 (x:Nat)).wf=true:=by
 have mi:IntKind.i64.min=-9223372036854775808:=by decide
 have ma:IntKind.i64.max=9223372036854775807:=by decide
 simp [Lit.wf]
 omega
theorem keyN (x:Nat) (hx:x≤1000000000):keyOf Tryz.prog 3 (.int .i64 (x:Nat))=some (.int .i64 (x:Nat)):=keyOf_int_mk Tryz.underlying3 (wfN x hx)
theorem Mpi.got {D:DataW Value} {m:Nat→Option Value} {x:Nat} (h:∀z,D.atKey (.int .i64 (x:Nat)) z=pickV (m x) z) {v z:Value} {ps:List MemPlace} (hv:rawR v=some (D.atKey (.int .i64 (x:Nat)) (.held z),ps)):v=(m x).getD z:=by
 have h1:(DataW.held v:DataW Value)=pickV (m x) (.held z):=by
  have:=congrArg Prod.fst (Option.some.inj hv)
  rw [h] at this
  exact this
 cases hm:m x with
 | none=>rw [hm] at h1;have h2:(DataW.held v:DataW Value)=.held z:=h1;injection h2
 | some u=>rw [hm] at h1;have h2:(DataW.held v:DataW Value)=.held u:=h1;injection h2
section
variable {w:World} {b n:Nat} {m:Nat→Option Value}
theorem Mpi.at_ (h:Mpi w b n m) {t e:TypeId} (ht:Tryz.prog.underlying t=some (.map 3 e)) {z:Value} (hz:(zeroValue e).run Tryz.prog w=.ok z w) (x:Nat) (hx:x≤1000000000) :
  (Instr.lookup t (.map (some b)) (.int .i64 (x:Nat)) false).run Tryz.prog w=.ok ((m x).getD z) w:=by
 obtain ⟨D,ho,hD⟩:=h
 obtain ⟨v,ps,hrun,hv⟩:=ho.lookup (int_keyed Tryz.underlying3) ht hz (rfl:rawR z=some (.held z,[])) (keyN x hx)
 rw [hrun,Mpi.got (hD.1 x).2 hv]
theorem Mpi.look (h:Mpi w b n m) {t e:TypeId} (ht:Tryz.prog.underlying t=some (.map 3 e)) {z:Value} (hz:(zeroValue e).run Tryz.prog w=.ok z w) (x:Nat) (hx:x≤1000000000) :
  (Instr.lookup t (.map (some b)) (.int .i64 (x:Nat)) true).run Tryz.prog w=.ok (.tuple #[(m x).getD z,.bool (m x).isSome]) w:=by
 obtain ⟨D,ho,hD⟩:=h
 obtain ⟨v,ps,hrun,hv⟩:=ho.look_ok (int_keyed Tryz.underlying3) ht hz (rfl:rawR z=some (.held z,[])) (keyN x hx)
 rw [hrun,(hD.1 x).1,Mpi.got (hD.1 x).2 hv]
theorem Mpi.store (h:Mpi w b n m) {t e:TypeId} (ht:Tryz.prog.underlying t=some (.map 3 e)) (x:Nat) (hx:x≤1000000000) (hn:n≤1000000) (v:Value) :
  ∃w',(Instr.mapUpdate t (.map (some b)) (.int .i64 (x:Nat)) v).run Tryz.prog w=.ok () w'∧Mpi w' b (n+1) (updN m x v)∧Fr (fun i=>i=b) w w':=by
 obtain ⟨D,ho,hD⟩:=h
 obtain ⟨w',hrun,ho',hg⟩:=ho.update (int_keyed Tryz.underlying3) ht (by unfold maxLen;omega) (keyN x hx) (rfl:rawR v=some (.held v,[]))
 have kk:WideAt.IsKeyLit (.int .i64 (x:Nat)):=trivial
 refine ⟨w',hrun,⟨_,ho',fun y=>?_,fun y hy=>?_⟩,Fr.grown hg⟩
 ·by_cases e:y=x
  ·subst e
   have e1:updN m y v y=some v:=if_pos rfl
   rw [e1]
   exact ⟨has_put_same ho.isMap kk _,fun z=>atKey_put_same ho.isMap kk _ z⟩
  ·have e1:updN m x v y=m y:=if_neg e
   have ne:(Lit.int .i64 (y:Nat))≠.int .i64 (x:Nat):=nat_ne e
   rw [e1,has_put_other ne]
   exact ⟨(hD.1 y).1,fun z=>(atKey_put_other ne _ z).trans ((hD.1 y).2 z)⟩
 ·have ne:(Lit.int .i64 y)≠.int .i64 (x:Nat):=neg_ne hy
  rw [has_put_other ne]
  exact hD.2 y hy
theorem Mpi.drop (h:Mpi w b n m) {t e:TypeId} (ht:Tryz.prog.underlying t=some (.map 3 e)) (x:Nat) (hx:x≤1000000000) (ty:TypeId) :
  ∃w',(Builtin.delete_ #[t,3] ty #[.map (some b),.int .i64 (x:Nat)]).run Tryz.prog w=.ok (.tuple #[]) w'∧Mpi w' b n (delN m x)∧Fr (fun i=>i=b) w w':=by
 obtain ⟨D,ho,hD⟩:=h
 obtain ⟨w',hrun,ho',hg⟩:=ho.drop (int_keyed Tryz.underlying3) ht (keyN x hx) ty
 refine ⟨w',hrun,⟨_,ho',fun y=>?_,fun y hy=>?_⟩,Fr.grown hg.grown⟩
 ·by_cases e:y=x
  ·subst e
   have e1:delN m y y=none:=if_pos rfl
   rw [e1]
   exact ⟨has_del_same,fun z=>atKey_of_not_has has_del_same z⟩
  ·have e1:delN m x y=m y:=if_neg e
   have ne:(Lit.int .i64 (y:Nat))≠.int .i64 (x:Nat):=nat_ne e
   rw [e1,has_del_other ne]
   exact ⟨(hD.1 y).1,fun z=>(atKey_del_other ne z).trans ((hD.1 y).2 z)⟩
 ·have ne:(Lit.int .i64 y)≠.int .i64 (x:Nat):=neg_ne hy
  rw [has_del_other ne]
  exact hD.2 y hy
theorem Mpi.fr {own:Nat→Prop} {w':World} (h:Mpi w b n m) (k:Fr own w w') (hb:¬own b):Mpi w' b n m:=by
 obtain ⟨D,ho,hD⟩:=h
 have hlt:=ho.lt
 obtain ⟨es,clock,h1,h2⟩:=ho
 exact ⟨D,⟨es,clock,(k.block b hlt hb).trans h1,h2⟩,hD⟩
theorem Mpi.below {w':World} (h:Mpi w b n m) (k:Below w.heap.size w w'):Mpi w' b n m:=h.fr (Fr.of_below (own:=fun _=>False) k) (fun e=>e)
theorem Mpi.drew (h:Mpi w b n m):Mpi w.drew b n m:=by
 obtain ⟨D,ho,hD⟩:=h
 exact ⟨D,ho.drew,hD⟩
theorem Mpi.made (w:World):Mpi (w.alloc (.map #[] 0)) w.heap.size 0 (fun _=>none):=
 ⟨.map [],World.ownsMap_made _ _ _ _,fun _=>⟨rfl,fun _=>rfl⟩,fun _ _=>rfl⟩
theorem Mpi.heap (h:Mpi w b n m):∃es clock,w.heap[b]?=some (.map es clock):=by
 obtain ⟨D,⟨es,clock,h1,_⟩,_⟩:=h
 exact ⟨es,clock,h1⟩
theorem Mpi.more {n':Nat} (h:Mpi w b n m) (k:n≤n'):Mpi w b n' m:=by
 obtain ⟨D,⟨es,clock,h1,h2,h3,h4⟩,hD⟩:=h
 exact ⟨D,⟨es,clock,h1,h2,Nat.le_trans h3 k,h4⟩,hD⟩
theorem Mpi.clone (h:Mpi w b n m):Calls Tryz.prog 94 #[.map (some b)] w fun e w'=>e=.returned (.map (some w.heap.size))∧Mpi w' w.heap.size n m∧Below w.heap.size w w':=by
 obtain ⟨D,ho,hD⟩:=h
 refine (Tryz.maps_clone 3 rawR b n D w ho).mono ?_
 rintro E w' ⟨rfl,h1,_,h3⟩
 exact ⟨rfl,⟨D,h1,hD⟩,h3⟩
theorem Mpi.keys (h:Mpi w b n m) (hn:n≤1000000) (ss0:List Nat) (hnd:ss0.Nodup) (hk:∀x,x∈ss0↔(m x).isSome=true) :
  Calls Tryz.prog 39 #[.func (.func 67) #[] #[.pointer (some ⟨w.heap.size,0,none⟩)]] (w.alloc (.cells #[.map (some b)] 97)) fun e w'=>∃(v:Value) (ps:List Nat),e=.returned v∧ps.Pairwise (· < ·)∧(∀x,x∈ps↔(m x).isSome=true)∧w'.ownsRow (w.heap.size+1) 3 1 v ps.length (ps.map encN)∧Below (w.heap.size+1) (w.alloc (.cells #[.map (some b)] 97)) w':=by
 obtain ⟨D,ho,hD⟩:=h
 have hsz:Maps.size D≤1000000:=Nat.le_trans ho.size_le hn
 refine (Tryz.sorted_keys b n D rawR w ho (by unfold maxLen;omega) (by omega)).mono ?_
 rintro E w' ⟨v,ss,rfl,hp,hrow,_,hb⟩
 have hc:CollectedI D (fun _=>false) (ss0.map fun x=>((x:Nat):Int)):=by
  refine ⟨List.pairwise_map.2 (hnd.imp (fun hne e=>hne (by omega))),fun x=>?_⟩
  rw [List.mem_map]
  constructor
  ·rintro ⟨y,hy,rfl⟩
   exact ⟨by rw [(hD.1 y).1];exact (hk y).1 hy,rfl⟩
  ·rintro ⟨hx,_⟩
   rcases Int.lt_or_le x 0 with h0 | h0
   ·rw [hD.2 x h0] at hx;cases hx
   ·obtain ⟨y,rfl⟩:=Int.eq_ofNat_of_zero_le h0
    exact ⟨y,(hk y).2 (by rw [←(hD.1 y).1];exact hx),rfl⟩
 have hp2:ss.Perm (ss0.map fun x=>((x:Nat):Int)):=hp.trans (hc.perm ho (int_keyed Tryz.underlying3) Tryz.underlying3 (fun _=>rfl)).symm
 have hp3:(ss.mergeSort (fun x y=>decide (x≤y))).Perm (ss0.map fun x=>((x:Nat):Int)):=(List.mergeSort_perm _ _).trans hp2
 have hsorted:(ss.mergeSort (fun x y=>decide (x≤y))).Pairwise (fun x y=>decide (x≤y)=true):=List.pairwise_mergeSort (fun a b c h1 h2=>by simp at h1 h2 ⊢;omega) (fun a b=>by simp;omega) ss
 generalize ss.mergeSort (fun x y=>decide (x≤y))=T at hp3 hsorted hrow
 have hnn:∀x∈T,0≤x:=fun x hx=>by
  obtain ⟨y,_,rfl⟩:=List.mem_map.1 (hp3.mem_iff.1 hx)
  omega
 have hTn:T.Nodup:=hp3.nodup_iff.2 hc.1
 have hTl:T.length=ss.length:=hp3.length_eq.trans hp2.length_eq.symm
 refine ⟨v,T.map Int.toNat,rfl,?_,fun x=>?_,?_,hb⟩
 ·rw [List.pairwise_map]
  refine (hsorted.and hTn).imp_of_mem (fun {a b} ha hb' h=>?_)
  have h1:a≤b:=by simpa using h.1
  have h2:=hnn a ha
  have h3:=h.2
  omega
 ·rw [←hk x,List.mem_map]
  constructor
  ·rintro ⟨y,hy,rfl⟩
   obtain ⟨z,hz,rfl⟩:=List.mem_map.1 (hp3.mem_iff.1 hy)
   simpa using hz
  ·intro hx
   exact ⟨(x:Int),hp3.mem_iff.2 (List.mem_map.2 ⟨x,hx,rfl⟩),by simp⟩
 ·have e:(T.map Int.toNat).map encN=T.map encZ:=by
   rw [List.map_map]
   apply List.map_congr_left
   intro x hx
   show Value.int .i64 ((x.toNat:Nat):Int)=.int .i64 x
   rw [Int.toNat_of_nonneg (hnn x hx)]
  rw [e,List.length_map,hTl]
  exact hrow
end
end
section
open Go.RowKit Go.Maps
section
variable {P:Program} (w:World)
theorem step_append_none {ops:Array Oper} {o:Oper} {a:Act} {K:Act→World→Prop} {Q:Exit→Act→World→Prop} {E:Prop} (hgd:o.guard=none) (s x:Operand) (t:TypeId)
  (ho:o.op=.call { callee:=.builtin .append,args:=#[s,x],argTypes:=#[t,t] }) (e:TypeId) (i:TypeInfo) (ht:P.underlying t=some (.slice e)) (hi:P.info? e=some i) (q:Option Addr) (n c:Nat) (hnc:n≤c) (hs:a.eval s=.slice q n c) (hx:a.eval x=.slice none 0 0)
  (h:K (a.put o.dst (.slice q n c)) w):if Region.wanted o (yielded ops a.tmps)=true then Oper.wp P o a w K Q else E:=by
 have hw:Region.wanted o (yielded ops a.tmps)=true:=by simp [Region.wanted,hgd]
 rw [if_pos hw]
 have hr:=run_append_none (P:=P) w t o.type e i ht hi q n c hnc
 unfold Oper.wp execOp
 simp only [ho,resolve,invoke,builtin,Sem.run_bind,Sem.run_pure,Result.andThen_ok,List.map_toArray,List.map_cons,List.map_nil,hs,hx,hr]
 exact h
end
theorem wpList_drop {w:World} {ops:Array Oper} {rest:List Oper} {o:Oper} {a:Act} {Q:Exit→Act→World→Prop} (hg:o.guard=none) (m x:Operand) (t e:TypeId) (hop:o.op=Op.call { callee:=Callee.builtin Builtin.delete,args:=#[m,x],argTypes:=#[t,3] })
  (ht:Tryz.prog.underlying t=some (.map 3 e)) (b n:Nat) (mm:Nat→Option Value) (k:Nat) (hk:k≤1000000000) (hm:a.eval m=.map (some b)) (hx:a.eval x=.int .i64 (k:Nat)) (h:Mpi w b n mm)
  (hK:∀w',Mpi w' b n (delN mm k)→Fr (fun i=>i=b) w w'→wpList Tryz.prog ops Q rest (a.put o.dst (.tuple #[])) w'):wpList Tryz.prog ops Q (o::rest) a w:=by
 refine wpList_plain hg fun K' hK'=>?_
 obtain ⟨w',hrun,r1,r2⟩:=h.drop ht k hk o.type
 unfold Oper.wp
 simp [execOp,hop,resolve,invoke,builtin,hm,hx,hrun,Result.andThen]
 exact hK' _ _ (hK w' r1 r2)
def Lst (w:World) (v:Value) (L:List Nat):Prop:=(L=[]∧v=.slice none 0 0)∨∃g cap,(L≠[]∧L.length≤cap)∧v=.slice (some ⟨g,0,none⟩) L.length cap∧(∃cur,w.heap[g]?=some (.cells cur 3 (0,0)))∧∀j x,L[j]?=some x→w.cell? ⟨g,j,none⟩=some (encN x)
theorem Ndr.lst {w:World} {B:Nat} {v:Value} {L:List Nat} (h:Ndr w B v L):Lst w v L:=by
 by_cases e:L=[]
 ·exact Or.inl ⟨e,h.2 e⟩
 ·obtain ⟨g,cap,h1,_,h3,h4⟩:=h.some e
  have hc:L.length≤cap:=by
   rcases h.1.2 with ⟨_,e2⟩ | ⟨g',cap',cur,e2,_,_,hle,_⟩
   ·exact absurd (List.length_eq_zero_iff.1 e2) e
   ·rw [h1] at e2
    injection e2 with _ _ e3
    rw [e3];exact hle
  exact Or.inr ⟨g,cap,⟨e,hc⟩,h1,h3,h4⟩
theorem Lst.fr {own:Nat→Prop} {w w':World} {v:Value} {L:List Nat} (h:Lst w v L) (k:Fr own w w') (ho:∀g,v.ownBlock=some g→¬own g):Lst w' v L:=by
 rcases h with h | ⟨g,cap,e,rfl,⟨cur,h3⟩,h4⟩
 ·exact Or.inl h
 ·have hn:=ho g rfl
  exact Or.inr ⟨g,cap,e,rfl,⟨cur,(k.block g (lt_of_heap h3) hn).trans h3⟩,fun j x hx=>k.held (h4 j x hx) hn⟩
theorem Lst.below {w w':World} {v:Value} {L:List Nat} (h:Lst w v L) (k:Below w.heap.size w w'):Lst w' v L:=h.fr (Fr.of_below (own:=fun _=>False) k) (fun _ _ e=>e)
def Nvs (w:World) (mv:Nat→Option Value) (nd:Nat→List Nat):Prop:=∀k,Lst w ((mv k).getD (.slice none 0 0)) (nd k)
theorem own_take {w:World} {base:Nat} {e:TypeId} {g n cap:Nat} {xs:List Value} {y:Value} (ho:w.ownsRow base e 1 (.slice (some ⟨g,0,none⟩) (n+1) cap) (n+1) (xs++[y])):w.ownsRow base e 1 (.slice (some ⟨g,0,none⟩) n cap) n xs:=by
 obtain ⟨h1,⟨h2,h3⟩ | ⟨k,cap',cur,hs,hbk,hk,hcap,hmx,hsz,htk⟩⟩:=ho
 ·cases h2
 ·injection hs with e1 e2 e3
  have e4:g=k:=by simpa using e1
  subst e4
  subst e3
  have hl:xs.length=n:=by simpa using h1
  refine ⟨by rw [hl,Nat.mul_one],.inr ⟨g,cap,cur,rfl,hbk,hk,by omega,hmx,hsz,?_⟩⟩
  have h5:=congrArg (List.take n) htk
  rw [List.take_take] at h5
  rw [Nat.mul_one,←hl]
  rw [←hl] at h5
  rw [show min xs.length ((xs.length+1)*1)=xs.length by omega] at h5
  rw [h5]
  simp
theorem Tryz.sizeI (w:World):(Go.sizeOf 3).run Tryz.prog w=.ok 1 w:=by kernel_rfl
theorem zeroS (w:World):(zeroValue 36).run Tryz.prog w=.ok (.slice none 0 0) w:=by kernel_rfl
theorem clone_lst {w:World} {v:Value} {L:List Nat} (h:Lst w v L) (hL:L.length≤1000000):Calls Tryz.prog 16 #[v] w fun e w'=>∃v',e=.returned v'∧w'.ownsRow w.heap.size 3 1 v' L.length (L.map encN)∧Below w.heap.size w w':=by
 obtain ⟨i0,hi0,jz0,jz1,jz2⟩:=info_parts Tryz.infoI
 rcases h with ⟨rfl,rfl⟩ | ⟨g,cap,hne,rfl,_,hc⟩
 ·refine (Tryz.slices_Clone_nil 0 0 w).mono ?_
  rintro E w' ⟨rfl,rfl⟩
  exact ⟨_,rfl,World.ownsRow_nil _ _ _ _,Below.refl _ _⟩
 ·refine (Tryz.slices_Clone i0 (.int .i64 0) 1 8 hi0 jz0 jz1 jz2 rfl (by decide) Tryz.sizeI g 0 L.length cap (L.map encN) w (by simp) (by unfold maxLen;omega) (by omega) (fun j u hu=>?_) (fun u hu=>?_)).mono ?_
  ·rw [List.getElem?_map] at hu
   obtain ⟨x,hx,rfl⟩:=Option.map_eq_some_iff.1 hu
   rw [Nat.zero_add]
   exact hc j x hx
  ·obtain ⟨x,_,rfl⟩:=List.mem_map.1 hu
   rfl
  ·rintro E w' ⟨v',rfl,h1,_,h3⟩
   exact ⟨v',rfl,h1,h3⟩
theorem work_le (nd:Nat→List Nat) (M:Nat→Bool) (h:∀k,(nd k).length≤100000):∀K,Mip.work nd M K≤K*100000
 | 0=>Nat.le_refl _
 | k+1=>by
  have h1:=work_le nd M h k
  have h2:=h k
  have e:(k+1)*100000=k*100000+100000:=by omega
  rw [e]
  show Mip.work nd M k+(if M k then 0 else (nd k).length)≤_
  refine Nat.add_le_add h1 ?_
  split
  ·exact Nat.zero_le _
  ·exact h2
def RcPost (b:Prop) (w:World) (E:Ending) (w':World):Prop:=Below w.heap.size w w'∧∃r,E=.returned (.bool r)∧(r=true↔b)
set_option maxRecDepth 100000 in
theorem reaches_any {w:World} {b n:Nat} {mv:Nat→Option Value} (nd:Nat→List Nat) (K:Nat) (hM:Mpi w b n mv) (hV:Nvs w mv nd) (hK:∀k x,x∈nd k→x < K) (hK9:K≤1000) (hlen:∀k,(nd k).length≤100000) (f:Nat) (hf:f≤1000) :
  Calls Tryz.prog 64 #[.map (some b),.int .i64 (f:Nat)] w (RcPost (Mip.Way nd f f) w):=by
 have HM:Hid (Mpi w b n mv):=hM
 have HV:Hid (Nvs w mv nd):=hV
 have HK:Hid ((∀k x,x∈nd k→x < K)∧K≤1000∧(∀k,(nd k).length≤100000)∧f≤1000):=⟨hK,hK9,hlen,hf⟩
 obtain ⟨i0,hi0,jz0,jz1,jz2⟩:=info_parts Tryz.infoI
 clear hM hV hK hK9 hlen hf
 go_enter Tryz.func64,Tryz.ntmps64
 go_wp2_with fail
 refine HM.out.clone.mono ?_
 rintro E W ⟨rfl,hA,hb1⟩
 have HB1:Hid (Below w.heap.size w W):=hb1
 have HA:Hid (Mpi W w.heap.size n mv):=hA
 have hl0:=(HM.out.below hb1).at_ Tryz.underlying156 (zeroS W) f (by have:=HK.out.2.2.2;omega)
 have HV1:Hid (Nvs W mv nd):=fun k=>(HV.out k).below hb1
 have HL0:Hid (Lst W ((mv f).getD (.slice none 0 0)) (nd f)):=HV1.out f
 generalize hv0:(mv f).getD (.slice none 0 0)=v0 at hl0 HL0
 clear hb1 hA hv0
 have HWS:Hid (w.heap.size < W.heap.size):=by
  obtain ⟨es,cl,hh⟩:=HA.out.heap
  exact lt_of_heap hh
 have HZB:Hid (∀u v:World,Below w.heap.size w u→Fr (fun i=>i=w.heap.size) u v→Below w.heap.size w v):=fun u v h1 h2=>⟨h2.os.trans h1.os,h2.tape.trans h1.tape,h2.output.trans h1.output,Nat.le_trans h1.size h2.size,fun i hi=>(h2.block i (Nat.lt_of_lt_of_le hi h1.size) (fun e=>by have e':i=w.heap.size:=e;omega)).trans (h1.block i hi)⟩
 have HLB:Hid (∀k g,((mv k).getD (.slice none 0 0)).ownBlock=some g→g < w.heap.size):=fun k g hg=>by
  rcases HV.out k with ⟨_,e⟩ | ⟨g',cap,_,e,⟨cur,h3⟩,_⟩
  ·rw [e] at hg;cases hg
  ·rw [e] at hg
   have:g'=g:=by simpa [Value.ownBlock] using hg
   subst this
   exact lt_of_heap h3
 go_wp2_with fail
 refine (clone_lst HL0.out (by have:=HK.out.2.2.1 f;omega)).mono ?_
 rintro E W2 ⟨v,rfl,hrow,hb2⟩
 have HB2:Hid (Below w.heap.size w W2):=below_step HB1.out hb2
 have HR2:Hid (W2.ownsRow (w.heap.size+1) 3 1 v (nd f).length ((nd f).map encN)):=owns_from HWS.out hrow
 have HAW:Hid (Mpi W2 w.heap.size n mv):=HA.out.below hb2
 clear hb2 hrow hl0
 go_wp2_with fail
 go_loopg [6] ((nd f).length+Mip.work nd (fun _=>false) K) (fun gk s6 wr=>∃(u:Value) (xs:List Nat) (M:Nat→Bool),s6=u∧gk=xs.length+Mip.work nd M K∧Hid (Mip.Met nd f M xs∧(∀x∈xs,x < K)∧xs.length+Mip.work nd M K≤200000000)∧Hid (Below w.heap.size w wr)∧Hid (wr.ownsRow (w.heap.size+1) 3 1 u xs.length (xs.map encN))∧Hid (Mpi wr w.heap.size n (fun k=>if M k then none else mv k)))
 case atStart=>
  refine ⟨v,nd f,fun _=>false,rfl,rfl,⟨Mip.Met.start nd f,fun x hx=>HK.out.1 f x hx,?_⟩,HB2,HR2,HAW⟩
  have h1:=work_le nd (fun _=>false) HK.out.2.2.1 K
  have h2:=HK.out.2.2.1 f
  have h3:=HK.out.2.1
  have h4:K*100000≤1000*100000:=Nat.mul_le_mul_right _ h3
  omega
 case round=>
  obtain ⟨u,xs,M,hs6,hg,HMt,HB,HR,HA2⟩:=hrel
  have HG:Hid (gk=xs.length+Mip.work nd M K):=hg
  obtain ⟨ou,cu,hu⟩:=own_shape HR.out
  have hs6':=hs6.trans hu
  subst hs6'
  have HUU:Hid (u=.slice ou xs.length cu):=hu
  clear hg hs6 hu HA HR2 HB2 HAW
  rcases List.eq_nil_or_concat xs with rfl | ⟨ys,t,hxs⟩
  ·have hz:((0:Int) < (([]:List Nat).length:Int))=False:=by simp
   go_wp2
   go_ret
   refine ⟨HB.out,false,rfl,?_⟩
   exact ⟨(fun h=>by cases h),fun h=>absurd h HMt.out.1.over⟩
  ·rw [List.concat_eq_append] at hxs
   subst hxs
   have hlx:(ys++[t]).length=ys.length+1:=by simp
   have HLX:Hid ((ys++[t]).length=ys.length+1):=hlx
   obtain ⟨g,hou⟩:∃g,ou=some ⟨g,0,none⟩:=by
    rcases HR.out.2 with ⟨_,e⟩ | ⟨g,cap,cur,e,_⟩
    ·rw [hlx] at e;omega
    ·rw [HUU.out] at e
     injection e with e1 _ _
     exact ⟨g,e1⟩
   subst hou
   have HR':Hid (wr.ownsRow (w.heap.size+1) 3 1 (.slice (some ⟨g,0,none⟩) (ys.length+1) cu) (ys.length+1) (ys.map encN++[encN t])):=by
    have h:=HR.out
    rw [HUU.out,hlx,List.map_append] at h
    exact h
   have cl:wr.cell? ⟨g,ys.length,none⟩=some (.int .i64 (t:Nat)):=own_cell HR'.out (by
    rw [List.getElem?_append_right (by simp)]
    simp)
   have hcap:ys.length+1≤cu:=own_cap HR'.out
   have HCAP:Hid (ys.length+1≤cu):=hcap
   have hbig:ys.length+1≤200000000:=by have:=HMt.out.2.2;rw [hlx] at this;omega
   have HBIG:Hid (ys.length+1+Mip.work nd M K≤200000000):=by have:=HMt.out.2.2;rw [hlx] at this;exact this
   have HTK:Hid (t < K):=HMt.out.2.1 t (by simp)
   have hpos:(0:Int) < ((ys.length:Nat):Int)+1:=by omega
   have hsub:IntKind.i64.wrap ((ys.length:Int)+1 - 1)=(ys.length:Int):=by simp only [IntKind.wrap_i64];omega
   have hlo:(0:Int)≤(ys.length:Int):=by omega
   have hw:IntKind.i64.wrap (ys.length:Int)=(ys.length:Int):=by simp only [IntKind.wrap_i64];omega
   have hcu:(ys.length:Int)≤(cu:Int):=by omega
   have hlt1:(ys.length:Int) < (ys.length:Int)+1:=by omega
   rw [hlx]
   clear hlx HR HUU
   by_cases htf:t=f
   ·have q1:((t:Int)==(f:Int))=true:=by rw [beq_iff_eq];omega
    have HW:Hid (Mip.Way nd f f):=HMt.out.1.found (by simp [htf])
    clear htf
    go_wp2
    go_ret
    exact ⟨HB.out,true,rfl,⟨fun _=>HW.out,fun _=>rfl⟩⟩
   ·have q1:((t:Int)==(f:Int))=false:=by rw [beq_eq_false_iff_ne];omega
    have HTF:Hid (t≠f):=htf
    clear htf
    go_wp2_with fail
    have HSZ:Hid (w.heap.size+1≤wr.drew.heap.size):=by
     obtain ⟨es,cl,hh⟩:=HA2.out.heap
     exact lt_of_heap hh
    have HL2:Hid (Lst wr (((fun k=>if M k then none else mv k) t).getD (.slice none 0 0)) (if M t then [] else nd t)):=by
     show Lst wr ((if M t then none else mv t).getD (.slice none 0 0)) _
     by_cases hMt:M t=true
     ·rw [if_pos hMt,if_pos hMt];exact Or.inl ⟨rfl,rfl⟩
     ·rw [if_neg hMt,if_neg hMt];exact (HV.out t).below HB.out
    have HL2B:Hid (∀q,(((fun k=>if M k then none else mv k) t).getD (.slice none 0 0)).ownBlock=some q→q < w.heap.size):=fun q hq=>by
     have hq':((if M t then none else mv t).getD (.slice none 0 0)).ownBlock=some q:=hq
     by_cases hMt:M t=true
     ·rw [if_pos hMt] at hq';cases hq'
     ·rw [if_neg hMt] at hq';exact HLB.out t q hq'
    have HLL:Hid ((if M t then [] else nd t).length≤100000):=by
     show _≤_
     split
     ·exact Nat.zero_le _
     ·exact HK.out.2.2.1 t
    have HXK:Hid (∀x∈ys++(if M t then [] else nd t),x < K):=fun x hx=>by
     rcases List.mem_append.1 hx with h | h
     ·exact HMt.out.2.1 x (List.mem_append_left _ h)
     ·split at h
      ·cases h
      ·exact HK.out.1 t x h
    have HMG:Hid (Mip.Met nd f (fun x=>M x || x==t) (ys++(if M t then [] else nd t))):=HMt.out.1.go HTF.out
    have HWG:Hid (Mip.work nd (fun x=>M x || x==t) K+(if M t then [] else nd t).length=Mip.work nd M K):=Mip.work_go nd M t K HTK.out
    have HDN:Hid (delN (fun k=>if M k then none else mv k) t=fun k=>if (M k || k==t) then none else mv k):=by
     show _=_
     funext k
     show (if k=t then none else if M k then none else mv k)=_
     by_cases e:k=t
     ·simp [e]
     ·have e2:(k==t)=false:=by simp [e]
      rw [if_neg e,e2,Bool.or_false]
    have hat:∀w',Mpi w' w.heap.size n (fun k=>if M k then none else mv k)→(Instr.lookup 156 (.map (some w.heap.size)) (.int .i64 (t:Nat)) false).run Tryz.prog w'=.ok (((fun k=>if M k then none else mv k) t).getD (.slice none 0 0)) w':=fun w' h=>h.at_ Tryz.underlying156 (zeroS w') t (by have:=HTK.out;have:=HK.out.2.1;omega)
    generalize ((fun k=>if M k then none else mv k) t).getD (.slice none 0 0)=v7 at HL2 HL2B hat
    generalize (if M t then [] else nd t)=L2 at HL2 HLL HXK HMG HWG
    clear cl hpos
    refine region_held (fun w'=>Mpi w' w.heap.size n (fun k=>if M k then none else mv k)) (by kernel_rfl) HA2.out.drew (fun hS=>?_)
    refine held_take 0 (v:=?_) rfl (by kernel_rfl) (by kernel_rfl) (by kernel_rfl) (fun _ _ _ h=>h) (Or.inl ⟨by rfl,?_⟩) (by assumption) ?_
    rotate_left 1
    ·(intro w' hSw;(try dsimp only at hSw);go_simp <;> with_reducible rfl)
    try simp only [Act.put,List.setIfInBounds_toArray,List.set_cons_zero,List.set_cons_succ]
    refine held_take 1 (v:=?_) rfl (by kernel_rfl) (by kernel_rfl) (by kernel_rfl) (fun _ _ _ h=>h) (Or.inl ⟨by rfl,?_⟩) (by assumption) ?_
    rotate_left 1
    ·(intro w' hSw;(try dsimp only at hSw);go_simp <;> with_reducible rfl)
    try simp only [Act.put,List.setIfInBounds_toArray,List.set_cons_zero,List.set_cons_succ]
    refine held_take 2 (v:=?_) rfl (by kernel_rfl) (by kernel_rfl) (by kernel_rfl) (fun _ _ _ h=>h) (Or.inl ⟨by rfl,?_⟩) (by assumption) ?_
    rotate_left 1
    ·(intro w' hSw;(try dsimp only at hSw);go_simp <;> with_reducible rfl)
    try simp only [Act.put,List.setIfInBounds_toArray,List.set_cons_zero,List.set_cons_succ]
    refine held_take 3 (v:=?_) rfl (by kernel_rfl) (by kernel_rfl) (by kernel_rfl) (fun _ _ _ h=>h) (Or.inl ⟨by rfl,?_⟩) (by assumption) ?_
    rotate_left 1
    ·(intro w' hSw;(try dsimp only at hSw);go_simp <;> with_reducible rfl)
    try simp only [Act.put,List.setIfInBounds_toArray,List.set_cons_zero,List.set_cons_succ]
    refine held_take 4 (v:=?_) rfl (by kernel_rfl) (by kernel_rfl) (by kernel_rfl) (fun _ _ _ h=>h) (Or.inl ⟨by rfl,?_⟩) (by assumption) ?_
    rotate_left 1
    ·(intro w' hSw;(try dsimp only at hSw);go_simp <;> with_reducible rfl)
    try simp only [Act.put,List.setIfInBounds_toArray,List.set_cons_zero,List.set_cons_succ]
    refine held_take 5 (v:=?_) rfl (by kernel_rfl) (by kernel_rfl) (by kernel_rfl) (fun _ _ _ h=>h) (Or.inl ⟨by rfl,?_⟩) (by assumption) ?_
    rotate_left 1
    ·(intro w' hSw;(try dsimp only at hSw);go_simp <;> with_reducible rfl)
    try simp only [Act.put,List.setIfInBounds_toArray,List.set_cons_zero,List.set_cons_succ]
    refine held_take 6 (v:=?_) rfl (by kernel_rfl) (by kernel_rfl) (by kernel_rfl) (fun _ _ _ h=>h) (Or.inl ⟨by rfl,?_⟩) (by assumption) ?_
    rotate_left 1
    ·(intro w' hSw;(try dsimp only at hSw);go_simp <;> with_reducible rfl)
    try simp only [Act.put,List.setIfInBounds_toArray,List.set_cons_zero,List.set_cons_succ]
    refine held_take 7 (v:=?_) rfl (by kernel_rfl) (by kernel_rfl) (by kernel_rfl) (fun _ _ _ h=>h) (Or.inl ⟨by rfl,?_⟩) (by assumption) ?_
    rotate_left 1
    ·(intro w' hSw;have hl:=hat w' hSw;go_simp <;> with_reducible rfl)
    try simp only [Act.put,List.setIfInBounds_toArray,List.set_cons_zero,List.set_cons_succ]
    refine held_one 8 (by kernel_rfl) rfl (fun K hK=>?_)
    rcases HL2.out with ⟨rfl,rfl⟩ | ⟨g2,cap2,⟨hne,_⟩,rfl,_,hcs⟩
    ·refine step_append_none _ rfl _ _ 36 rfl 3 i0 Tryz.underlying36 hi0 (some ⟨g,0,none⟩) ys.length cu (by have:=HCAP.out;omega) rfl rfl ?_
     refine hK.out _ _ (by assumption) (fun hS=>?_)
     clear hK K
     try simp only [Act.put,List.setIfInBounds_toArray,List.set_cons_zero,List.set_cons_succ]
     refine held_take 9 (v:=?_) rfl (by kernel_rfl) (by kernel_rfl) (by kernel_rfl) (fun _ _ _ h=>h) (Or.inl ⟨by rfl,?_⟩) (by assumption) ?_
     rotate_left 1
     ·(intro w' hSw;(try dsimp only at hSw);go_simp <;> with_reducible rfl)
     try simp only [Act.put,List.setIfInBounds_toArray,List.set_cons_zero,List.set_cons_succ]
     refine wpAnyH_done (by kernel_rfl) ?_ _
     clear hS hat
     have HRD:Hid (wr.drew.ownsRow (w.heap.size+1) 3 1 (.slice (some ⟨g,0,none⟩) ys.length cu) ys.length (ys.map encN)):=own_kept (own_take HR'.out) (fun _ _=>rfl)
     have HBD:Hid (Below w.heap.size w wr.drew):=HB.out.drew
     have HAD:Hid (Mpi wr.drew w.heap.size n (fun k=>if M k then none else mv k)):=HA2.out.drew
     generalize wr.drew=Z at HRD HBD HAD ⊢
     go_wp2_with (at_delete;refine wpList_drop rfl _ _ 156 36 rfl Tryz.underlying156 w.heap.size n _ t (by have:=HTK.out;have:=HK.out.2.1;omega) rfl rfl HAD.out ?_;intro z1 hz1 hz2)
     have HZ1:Hid (Mpi z1 w.heap.size n (fun k=>if (M k || k==t) then none else mv k)):=by have h:=hz1;rw [HDN.out] at h;exact h
     have HZ2:Hid (Below w.heap.size w z1):=HZB.out _ _ HBD.out hz2
     have HZ3:Hid (z1.ownsRow (w.heap.size+1) 3 1 (.slice (some ⟨g,0,none⟩) ys.length cu) (ys++[]).length ((ys++[]).map encN)):=by
      show World.ownsRow _ _ _ _ _ _ _
      rw [List.append_nil]
      exact own_kept HRD.out (fun q hq=>hz2.block q (lt_of_heap (own_lt HRD.out q hq).2.choose_spec) (fun e=>by have h1:=(own_lt HRD.out q hq).1;have e':q=w.heap.size:=e;omega))
     clear hz1 hz2
     go_roundg ((ys++[]).length+Mip.work nd (fun x=>M x || x==t) K)
     case measure=>
      have h1:=HG.out
      have h2:=HLX.out
      have h3:=HWG.out
      rw [List.append_nil]
      simp only [List.length_nil] at h3
      omega
     case rel=>exact ⟨_,ys++[],fun x=>M x || x==t,rfl,rfl,⟨HMG.out,HXK.out,by have h3:=HWG.out;have h4:=HBIG.out;rw [List.append_nil];simp only [List.length_nil] at h3;omega⟩,HZ2,HZ3,HZ1⟩
    ·have NW:Hid (∀(i:Nat) (u:Value),(L2.map encN)[i]?=some u→wr.drew.cell? ((⟨g2,0,none⟩:Addr).add i)=some u):=fun i u hu=>by
      rw [List.getElem?_map] at hu
      obtain ⟨x,hx,rfl⟩:=Option.map_eq_some_iff.1 hu
      rw [Addr.add_lit,Nat.zero_add]
      exact hcs i x hx
     have HG2:Hid (g2 < w.heap.size):=HL2B.out g2 rfl
     have HRD:Hid (wr.drew.ownsRow (w.heap.size+1) 3 1 (.slice (some ⟨g,0,none⟩) ys.length cu) ys.length (ys.map encN)):=own_kept (own_take HR'.out) (fun _ _=>rfl)
     refine step_append_lies _ rfl _ _ 36 rfl (w.heap.size+1) 3 i0 (.int .i64 0) 1 8 Tryz.underlying36 hi0 jz0 jz1 jz2 rfl (by decide) (.slice (some ⟨g,0,none⟩) ys.length cu) ys.length (ys.map encN) rfl HRD.out ⟨g2,0,none⟩ L2.length cap2 (L2.map encN) rfl (by simp) NW.out (by intro u hu;obtain ⟨x,_,rfl⟩:=List.mem_map.1 hu;rfl) (List.length_pos_iff.2 hne) (by unfold maxLen;have:=HBIG.out;have:=HLL.out;omega) (by have:=HBIG.out;have:=HLL.out;omega) HSZ.out _ rfl ?_
     intro k9 c9 w9 O9 hg9 hat9 hlt9
     have gw:∀q,(Value.slice (some ⟨g,0,none⟩) ys.length cu).ownBlock=some q→q≠w.heap.size:=fun q hq e=>by have h1:=(own_lt HRD.out q hq).1;omega
     have HA9:Hid (Mpi w9 w.heap.size n (fun k=>if M k then none else mv k)):=by
      obtain ⟨es,cl,hh⟩:=HA2.out.drew.heap
      exact HA2.out.drew.fr (own:=fun i=>(Value.slice (some ⟨g,0,none⟩) ys.length cu).ownBlock=some i) ⟨hg9.os,hg9.tape,hg9.output,hg9.size,fun i h1 h2=>hg9.block i h1 (fun e=>h2 e.symm)⟩ (fun e=>gw _ e rfl)
     have HB9:Hid (Below w.heap.size w w9):=below_grown HB.out.drew HB.out.size hg9 (fun k e=>by have:=(own_lt HRD.out k e).1;omega)
     have HR9:Hid (w9.ownsRow (w.heap.size+1) 3 1 (.slice (some ⟨k9,0,none⟩) (ys.length+L2.length) c9) (ys++L2).length ((ys++L2).map encN)):=by
      show World.ownsRow _ _ _ _ _ _ _
      rw [List.length_append,List.map_append]
      exact O9
     clear O9 hg9 hat9 hlt9 gw
     refine hK.out _ _ HA9.out (fun hS=>?_)
     clear hK K
     try simp only [Act.put,List.setIfInBounds_toArray,List.set_cons_zero,List.set_cons_succ]
     refine held_take 9 (v:=?_) rfl (by kernel_rfl) (by kernel_rfl) (by kernel_rfl) (fun _ _ _ h=>h) (Or.inl ⟨by rfl,?_⟩) (by assumption) ?_
     rotate_left 1
     ·(intro w' hSw;(try dsimp only at hSw);go_simp <;> with_reducible rfl)
     try simp only [Act.put,List.setIfInBounds_toArray,List.set_cons_zero,List.set_cons_succ]
     refine wpAnyH_done (by kernel_rfl) ?_ _
     clear hS hat
     go_wp2_with (at_delete;refine wpList_drop rfl _ _ 156 36 rfl Tryz.underlying156 w.heap.size n _ t (by have:=HTK.out;have:=HK.out.2.1;omega) rfl rfl HA9.out ?_;intro z1 hz1 hz2)
     have HZ1:Hid (Mpi z1 w.heap.size n (fun k=>if (M k || k==t) then none else mv k)):=by have h:=hz1;rw [HDN.out] at h;exact h
     have HZ2:Hid (Below w.heap.size w z1):=HZB.out _ _ HB9.out hz2
     have HZ3:Hid (z1.ownsRow (w.heap.size+1) 3 1 (.slice (some ⟨k9,0,none⟩) (ys.length+L2.length) c9) (ys++L2).length ((ys++L2).map encN)):=own_kept HR9.out (fun q hq=>hz2.block q (lt_of_heap (own_lt HR9.out q hq).2.choose_spec) (fun e=>by have h1:=(own_lt HR9.out q hq).1;have e':q=w.heap.size:=e;omega))
     clear hz1 hz2
     go_roundg ((ys++L2).length+Mip.work nd (fun x=>M x || x==t) K)
     case measure=>
      have h1:=HG.out
      have h2:=HLX.out
      have h3:=HWG.out
      rw [List.length_append]
      omega
     case rel=>exact ⟨_,ys++L2,fun x=>M x || x==t,rfl,rfl,⟨HMG.out,HXK.out,by have h3:=HWG.out;have h4:=HBIG.out;rw [List.length_append];omega⟩,HZ2,HZ3,HZ1⟩
end
end Go.Proofs.YticbokabjhnagaaGreatDoor
