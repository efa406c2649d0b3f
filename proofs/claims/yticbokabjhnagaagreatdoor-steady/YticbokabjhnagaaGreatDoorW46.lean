import Derived.LaidLaws
import Derived.LaidSub
import Derived.LaidHandle
import Derived.Lib.LaidTab
import Derived.OpenShut
import Derived.Stop.LaidErr
import Derived.Test.YticbokabjhnagaaGreatDoorRows
import Derived.Test.YticbokabjhnagaaGreatDoorW31
import Derived.Test.YticbokabjhnagaaGreatDoorW45
import Derived.Deep.Slices
import Derived.ProofKit
import Derived.ChangeBears2
import Derived.LaidMore
import Derived.Stop.Joined
import Derived.Test.YticbokabjhnagaaGreatDoorW42
namespace Go.Proofs.YticbokabjhnagaaGreatDoor
set_option maxHeartbeats 32000000
section
open Go
def FitErrs (P:Program) (ti:TypeId) (nm:String):List (String×DataW Unit)→List Nat→Prop
 | [],[]=>True
 | (n,d)::r,g::gs=>(∃text,d=.iface nm (.ptr (.agg [.lit (.string text)])))∧P.globalNamed n=some g∧(P.globals[g]?).map (·.type)=some ti∧FitErrs P ti nm r gs
 | _,_=>False
def HoldErrs (W:World) (tp:TypeId):List Addr→List Nat→Prop
 | [],[]=>True
 | a::az,g::gs=>W.cell? ⟨g,0,none⟩=some (.iface tp (.pointer (some a)))∧(∃c t,W.heap[a.block]?=some (.cells c t (0,0)))∧a ∉ az∧HoldErrs W tp az gs
 | _,_=>False
theorem errs_of_laid {P:Program} {nm:String} {W:World} {ti tp te ts:TypeId} {ms:Array (String×TypeId)} {f:Field}
  (hi:P.underlying ti=some (.interface ms)) (hrow:∀u,P.typeName? 3 u=some nm→u=tp)
  (hp:P.underlying tp=some (.pointer te)) (he:P.underlying te=some (.struct #[f])) (hft:f.type=ts) (hfo:f.offset=0) (hs:P.underlying ts=some .string) (hc:P.cellsOf te=1) (hcs:P.cellsOf ts=1) :
  ∀(laid:List (String×DataW Unit)) (gs:List Nat) (ps:List MemPlace),FitErrs P ti nm laid gs→DataW.LaidVars P W laid ps→ps.Nodup →
   (∀b off,MemPlace.cell b off∈ps→(∃c t,W.heap[b]?=some (.cells c t (0,0)))∧∀u v,W.cell? ⟨b,off,none⟩=some (.iface u v)→Value.okWide P W .any 0 u v) →
   ∃az:List Addr,HoldErrs W tp az gs∧∀a,a∈az→MemPlace.cell a.block a.off∈ps:=by
 intro laid
 induction laid with
 | nil=>
  intro gs ps hfit _ _ _
  cases gs with
  | nil=>exact ⟨[],trivial,fun a h=>by cases h⟩
  | cons g r=>exact hfit.elim
 | cons x r ih=>
  intro gs ps hfit hv hnd hrows
  obtain ⟨n,d⟩:=x
  cases gs with
  | nil=>exact hfit.elim
  | cons g gs=>
   obtain ⟨⟨text,rfl⟩,hg,ht,hfit'⟩:=hfit
   obtain ⟨g0,t0,cs0,f0,p0,q0,hg0,ht0,hv0,hd0,hq0,e0⟩:=hv
   obtain rfl:=Option.some.inj (hg.symm.trans hg0)
   obtain rfl:=Option.some.inj (ht.symm.trans ht0)
   subst e0
   have hq:q0.Nodup:=List.Nodup.sublist (List.sublist_append_right _ _) hnd
   obtain ⟨az,hold,hmem⟩:=ih gs q0 hfit' hq0 hq (fun b off hm=>hrows b off (List.mem_append_right _ hm))
   obtain ⟨l0⟩:=cs0
   have ok0:∀u v,l0=[.iface u v]→Value.okWide P W .any 0 u v:=fun u v e=>by
    subst e
    exact (hrows g 0 (by simp [MemPlace.row])).2 u v (by simpa using World.var?_cell hg0 hv0 0)
   obtain ⟨a,s,rfl,hca,_,_,rfl⟩:=errorString_of_trod hi hrow hp he hft hfo hs hc hcs hd0 ok0
   have hin:MemPlace.cell a.block a.off∈MemPlace.row a 1:=by simp [MemPlace.row]
   refine ⟨a::az,⟨by simpa using World.var?_cell hg0 hv0 0,(hrows a.block a.off ?_).1,?_,hold⟩,?_⟩
   ·exact List.mem_append_left _ (List.mem_append_right _ hin)
   ·intro h
    have h2:=hmem a h
    have h3:=(List.nodup_append.1 hnd).2.2 _ (List.mem_append_right _ hin) _ h2
    exact h3 rfl
   ·intro b hb
    rcases List.mem_cons.1 hb with rfl | hb
    ·exact List.mem_append_left _ (List.mem_append_right _ hin)
    ·exact List.mem_append_right _ (hmem b hb)
theorem hold_len {W:World} {tp:TypeId}:∀(az:List Addr) (gs:List Nat),HoldErrs W tp az gs→az.length=gs.length
 | [],[],_=>rfl
 | _::az,_::gs,h=>by simp [hold_len az gs h.2.2.2]
 | [],_::_,h=>h.elim
 | _::_,[],h=>h.elim
theorem hold_at {W:World} {tp:TypeId} (z:Addr):∀(xs:List Addr) (gs:List Nat),HoldErrs W tp xs gs→∀i,i < xs.length →
  W.cell? ⟨gs.getD i 0,0,none⟩=some (.iface tp (.pointer (some (xs.getD i z))))∧∃c t,W.heap[(xs.getD i z).block]?=some (.cells c t (0,0))
 | [],[],_,i,hi=>by simp at hi
 | [],_::_,h,_,_=>h.elim
 | _::_,[],h,_,_=>h.elim
 | a::xs,g::gs,h,0,_=>⟨h.1,h.2.1⟩
 | a::xs,g::gs,h,i+1,hi=>hold_at z xs gs h.2.2.2 i (by simpa using hi)
theorem hold_ne {W:World} {tp:TypeId} (z:Addr):∀(xs:List Addr) (gs:List Nat),HoldErrs W tp xs gs→∀i k,k < i→i < xs.length→xs.getD k z≠xs.getD i z
 | [],[],_,i,_,_,hi=>by simp at hi
 | [],_::_,h,_,_,_,_=>h.elim
 | _::_,[],h,_,_,_,_=>h.elim
 | _::_,_::_,_,0,_,hk,_=>by omega
 | a::xs,g::gs,h,i+1,0,_,hi=>by
  have hi':i < xs.length:=by simpa using hi
  intro e
  apply h.2.2.1
  have e':a=xs.getD i z:=by simpa using e
  rw [e']
  simp [hi']
 | a::xs,g::gs,h,i+1,k+1,hk,hi=>by
  have:=hold_ne z xs gs h.2.2.2 i k (by omega) (by simpa using hi)
  simpa using this
theorem chunks {c:Nat}:∀(ys:List (List Value)) (cs:List Value),cs.length=ys.length*c→(∀(i:Nat) (y:List Value),ys[i]?=some y→(cs.drop (i*c)).take c=y)→cs=ys.flatten
 | [],cs,hl,_=>by
  have:cs.length=0:=by simpa using hl
  simp [List.length_eq_zero_iff.1 this]
 | y::ys,cs,hl,h=>by
  have h0:=h 0 y rfl
  rw [Nat.zero_mul,List.drop_zero] at h0
  have hd:=chunks (c:=c) ys (cs.drop c) (by rw [List.length_drop,hl,List.length_cons,Nat.succ_mul];omega) (fun i z hz=>by
   have:=h (i+1) z hz
   rw [List.drop_drop,show c+i*c=(i+1)*c by rw [Nat.succ_mul];omega]
   exact this)
  rw [List.flatten_cons,←h0,←hd,List.take_append_drop]
section
variable {H:Type} {enc:TypeId×Value→H} {P:Program} {w:World} {base:Nat} {sp:Nat→Bool} {held:Bool}
theorem cells_of_array {fuel:Nat} {t e:TypeId} {n c:Nat} {cs:List Value} {ds:List (DataW H)} {p:List MemPlace} (ht:P.underlying t=some (.array n e)) (hce:P.cellsOf e=c) (hct:P.cellsOf t=n*c)
  (ys:List (List Value)) (hn:ys.length=n) (hel:∀(i:Nat) (d:DataW H) (y:List Value) (m:Nat) (x:List Value) (q:List MemPlace),ds[i]?=some d→ys[i]?=some y→DataW.trod enc P w base sp held m e x=some (d,q)→x=y)
  (h:DataW.trod enc P w base sp held fuel t cs=some (.agg ds,p)):cs=ys.flatten:=by
 obtain ⟨xs,m,rfl,hx,hl,hxl,hi⟩:=DataW.trod_array ht h
 rw [hct] at hl
 rw [hce] at hi
 refine chunks (c:=c) ys cs (by rw [hl,hn]) fun i y hy=>?_
 have hin:i < n:=by rw [←hn];exact (List.getElem?_eq_some_iff.1 hy).1
 have hds:ds=xs.map (·.1):=by
  have:=congrArg Prod.fst hx
  simpa using this
 obtain ⟨x,hxi⟩:∃x,xs[i]?=some x:=⟨xs[i]'(by omega),List.getElem?_eq_getElem _⟩
 have h1:=hi i hin
 rw [hxi] at h1
 exact hel i x.1 y m _ x.2 (by rw [hds,List.getElem?_map,hxi];rfl) hy h1
end
theorem block_of_var {P:Program} {W:World} {n:String} {g:Nat} {cs:Array Value} (hg:P.globalNamed n=some g) (hv:W.var? P n=some cs) (hr:∃c t,W.heap[g]?=some (.cells c t (0,0))):∃t,W.heap[g]?=some (.cells cs t (0,0)):=by
 obtain ⟨c,t,h⟩:=hr
 unfold World.var? at hv
 rw [hg,Option.bind_some,h] at hv
 obtain rfl:=Option.some.inj hv
 exact ⟨t,h⟩
theorem ones:∀l:List (List UInt8),(l.map fun x=>[Value.string ⟨x.toArray⟩]).flatten=l.map fun x=>Value.string ⟨x.toArray⟩
 | []=>rfl
 | x::r=>by rw [List.map_cons,List.flatten_cons,List.map_cons,ones r];rfl
theorem strs_of_laid {P:Program} {W:World} {name:String} {g:Nat} {t e:TypeId} {n:Nat} (l:List (List UInt8))
  (hg:P.globalNamed name=some g) (hty:(P.globals[g]?).map (·.type)=some t) (ht:P.underlying t=some (.array n e)) (he:P.underlying e=some .string) (hce:P.cellsOf e=1) (hct:P.cellsOf t=n) (hn:l.length=n) (h0:0 < n)
  (h:laidMet P [(name,.agg (l.map fun x=>.lit (.string x)))] W):∃t,W.heap[g]?=some (.cells (l.map fun x=>Value.string ⟨x.toArray⟩).toArray t (0,0)):=by
 obtain ⟨ps,⟨g',t',cs,fuel,p,q,hg',ht',hvar,hd,_,hps⟩,_,hrows⟩:=h
 obtain rfl:=Option.some.inj (hg.symm.trans hg')
 obtain rfl:=Option.some.inj (hty.symm.trans ht')
 have hc:=cells_of_array (c:=1) ht hce (by rw [hct,Nat.mul_one]) (l.map fun x=>[Value.string ⟨x.toArray⟩]) (by rw [List.length_map,hn]) (by
  intro i d y m x q hd hy hx
  rw [List.getElem?_map] at hd hy
  obtain ⟨z,hz,rfl⟩:=Option.map_eq_some_iff.1 hd
  rw [hz] at hy
  obtain rfl:=Option.some.inj hy
  obtain ⟨s,rfl,e1,_⟩:=DataW.trod_string he hx
  have e2:z=s.data.toList:=by
   have:=congrArg Prod.fst e1
   simpa using this
  subst e2
  rfl) hd
 have hc':cs=(l.map fun x=>Value.string ⟨x.toArray⟩).toArray:=by
  rw [←Array.toList_inj,hc]
  show (l.map fun x=>[Value.string ⟨x.toArray⟩]).flatten=l.map fun x=>Value.string ⟨x.toArray⟩
  exact ones l
 subst hc'
 refine block_of_var hg hvar (hrows g 0 ?_).1
 rw [hps]
 simp [MemPlace.row]
 omega
theorem quads_of_laid {P:Program} {W:World} {name:String} {g:Nat} {t e:TypeId} {n:Nat} {f0 f1 f2 f3:Field} {k:IntKind} (l:List (List UInt8×Int×Int×Int))
  (hg:P.globalNamed name=some g) (hty:(P.globals[g]?).map (·.type)=some t) (ht:P.underlying t=some (.array n e)) (he:P.underlying e=some (.struct #[f0,f1,f2,f3])) (o0:f0.offset=0) (o1:f1.offset=1) (o2:f2.offset=2) (o3:f3.offset=3) (h0s:P.underlying f0.type=some .string) (h1s:P.underlying f1.type=some (.int k)) (h2s:P.underlying f2.type=some (.int k)) (h3s:P.underlying f3.type=some (.int k)) (c0:P.cellsOf f0.type=1) (c1:P.cellsOf f1.type=1) (c2:P.cellsOf f2.type=1) (c3:P.cellsOf f3.type=1)
  (hce:P.cellsOf e=4) (hct:P.cellsOf t=n*4) (hn:l.length=n) (h0:0 < n)
  (h:laidMet P [(name,.agg (l.map fun x=>.agg [.lit (.string x.1),.lit (.int k x.2.1),.lit (.int k x.2.2.1),.lit (.int k x.2.2.2)]))] W):∃t,W.heap[g]?=some (.cells (l.flatMap fun x=>[Value.string ⟨x.1.toArray⟩,.int k x.2.1,.int k x.2.2.1,.int k x.2.2.2]).toArray t (0,0)):=by
 obtain ⟨ps,⟨g',t',cs,fuel,p,q,hg',ht',hvar,hd,_,hps⟩,_,hrows⟩:=h
 obtain rfl:=Option.some.inj (hg.symm.trans hg')
 obtain rfl:=Option.some.inj (hty.symm.trans ht')
 have hc:=cells_of_array (c:=4) ht hce hct (l.map fun x=>[Value.string ⟨x.1.toArray⟩,.int k x.2.1,.int k x.2.2.1,.int k x.2.2.2]) (by rw [List.length_map,hn]) (by
  intro i d y m x q hd hy hx
  rw [List.getElem?_map] at hd hy
  obtain ⟨z,hz,rfl⟩:=Option.map_eq_some_iff.1 hd
  rw [hz] at hy
  obtain rfl:=Option.some.inj hy
  obtain ⟨xs,m',rfl,e0,hl,hxl,hf⟩:=DataW.trod_struct he hx
  have g0:=hf 0 f0 rfl
  have g1:=hf 1 f1 rfl
  have g2:=hf 2 f2 rfl
  have g3:=hf 3 f3 rfl
  rw [hce] at hl
  rw [o0,c0] at g0
  rw [o1,c1] at g1
  rw [o2,c2] at g2
  rw [o3,c3] at g3
  match xs,hxl with
  | [a,b,c,d],_=>
   obtain ⟨s,q0,e1,_⟩:=DataW.trod_string h0s g0
   obtain ⟨j1,q1,e2,_⟩:=DataW.trod_int h1s g1
   obtain ⟨j2,q2,e3,_⟩:=DataW.trod_int h2s g2
   obtain ⟨j3,q3,e4,_⟩:=DataW.trod_int h3s g3
   subst e1 e2 e3 e4
   have e5:z.1=s.data.toList∧z.2.1=j1∧z.2.2.1=j2∧z.2.2.2=j3:=by
    have:=congrArg Prod.fst e0
    simpa using this
   match x,hl with
   | [u0,u1,u2,u3],_=>
    simp at q0 q1 q2 q3
    show [u0,u1,u2,u3]=[Value.string ⟨z.1.toArray⟩,.int k z.2.1,.int k z.2.2.1,.int k z.2.2.2]
    rw [q0,q1,q2,q3,e5.1,e5.2.1,e5.2.2.1,e5.2.2.2]) hd
 have hc':cs=(l.flatMap fun x=>[Value.string ⟨x.1.toArray⟩,.int k x.2.1,.int k x.2.2.1,.int k x.2.2.2]).toArray:=by
  rw [←Array.toList_inj,hc]
  simp [List.flatMap]
 subst hc'
 refine block_of_var hg hvar (hrows g 0 ?_).1
 rw [hps]
 cases l with
 | nil=>simp at hn;omega
 | cons x r=>simp [MemPlace.row]
end
section
open Go Go.RowKit
theorem starE : "*" ++ "errors.errorString" = "*errors.errorString" := by decide
theorem rowE (u : TypeId) (h : Tryz.prog.typeName? 3 u = some "*errors.errorString") : u = 285 :=
 typeName_ptr_named (nm := "errors.errorString") (by rw [starE]; kernel_rfl) (by kernel_rfl) (by decide) u (by rw [starE]; exact h)
theorem cellsES:Tryz.prog.cellsOf 287=1:=by kernel_rfl
theorem cellsStr:Tryz.prog.cellsOf 9=1:=by kernel_rfl
abbrev nums:List Nat:=[19,18,2,4,5,6,7,8,9,10,11,12,0,1,13]
def sents : List (String × DataW Unit) := [("strconv.ErrRange", Rows.laid_strconv_ErrRange), ("strconv.ErrSyntax", Rows.laid_strconv_ErrSyntax), ("ratemill/mill.ErrLong", Rows.laid_ratemill_mill_ErrLong), ("ratemill/mill.ErrToken", Rows.laid_ratemill_mill_ErrToken), ("ratemill/mill.ErrSyntax", Rows.laid_ratemill_mill_ErrSyntax), ("ratemill/mill.ErrMany", Rows.laid_ratemill_mill_ErrMany), ("ratemill/mill.ErrTwice", Rows.laid_ratemill_mill_ErrTwice), ("ratemill/mill.ErrName", Rows.laid_ratemill_mill_ErrName), ("ratemill/mill.ErrType", Rows.laid_ratemill_mill_ErrType), ("ratemill/mill.ErrPeriod", Rows.laid_ratemill_mill_ErrPeriod), ("ratemill/mill.ErrFree", Rows.laid_ratemill_mill_ErrFree), ("ratemill/mill.ErrCycle", Rows.laid_ratemill_mill_ErrCycle), ("ratemill/mill.ErrFlow", Rows.laid_ratemill_mill_ErrFlow), ("ratemill/mill.ErrInputs", Rows.laid_ratemill_mill_ErrInputs), ("ratemill/mill.ErrOverrun", Rows.laid_ratemill_mill_ErrOverrun)]
def isSent:String×DataW Unit→Bool
 | (_,.iface _ (.ptr _))=>true
 | _=>false
def isOne (n:String) (x:String×DataW Unit):Bool:=x.1==n
abbrev plains:List (String×DataW Unit):=Rows.steadyRow.laid.filter fun x=>x.2.handleName?.isNone
theorem plains_sents:plains.filter isSent=sents:=by kernel_rfl
theorem plains_words : plains.filter (isOne "ratemill/mill.words") = [("ratemill/mill.words", .agg (Mil.words.map fun x => .lit (.string x)))] := by kernel_rfl
theorem plains_signs : plains.filter (isOne "ratemill/mill.signs") = [("ratemill/mill.signs", .agg (Mil.signs.map fun x => .lit (.string x)))] := by kernel_rfl
theorem plains_types : plains.filter (isOne "ratemill/mill.typeWords") = [("ratemill/mill.typeWords", .agg ([Mil.wInt, Mil.wBool].map fun x => .lit (.string x)))] := by kernel_rfl
theorem plains_ops : plains.filter (isOne "ratemill/mill.operators") = [("ratemill/mill.operators", .agg (opsTab.map fun x => .agg [.lit (.string x.1), .lit (.int .i64 x.2.1), .lit (.int .i64 x.2.2.1), .lit (.int .i64 x.2.2.2)]))] := by kernel_rfl
theorem plains_last : (plains.filter (isOne "math/bits.deBruijn64tab")).map (·.1) = ["math/bits.deBruijn64tab"] := by kernel_rfl
theorem fit : FitErrs Tryz.prog 51 "*errors.errorString" sents nums :=
 ⟨⟨_,rfl⟩,by kernel_rfl,by kernel_rfl,⟨_,rfl⟩,by kernel_rfl,by kernel_rfl,⟨_,rfl⟩,by kernel_rfl,by kernel_rfl,⟨_,rfl⟩,by kernel_rfl,by kernel_rfl,⟨_,rfl⟩,by kernel_rfl,by kernel_rfl,⟨_,rfl⟩,by kernel_rfl,by kernel_rfl,⟨_,rfl⟩,by kernel_rfl,by kernel_rfl,⟨_,rfl⟩,by kernel_rfl,by kernel_rfl,⟨_,rfl⟩,by kernel_rfl,by kernel_rfl,⟨_,rfl⟩,by kernel_rfl,by kernel_rfl,⟨_,rfl⟩,by kernel_rfl,by kernel_rfl,⟨_,rfl⟩,by kernel_rfl,by kernel_rfl,⟨_,rfl⟩,by kernel_rfl,by kernel_rfl,⟨_,rfl⟩,by kernel_rfl,by kernel_rfl,⟨_,rfl⟩,by kernel_rfl,by kernel_rfl,trivial⟩
theorem kEt : Tryz.prog.globalNamed "errors.errorType" = some 3 := by kernel_rfl
theorem kRt : (Tryz.prog.cutTypes.find? (·.1 == "internal/reflectlite.rtype")).map (·.2) = some 194 := by kernel_rfl
theorem kOneRow:((List.range 326).filter fun t=>Tryz.prog.rowNamed t [101,114,114,111,114])=[51]:=by kernel_rfl
theorem kTypes:Tryz.prog.types.size=326:=by kernel_rfl
theorem handles_are : (Rows.steadyRow.laid.filter fun x => x.2.handleName?.isSome) = [("errors.errorType", Rows.laid_errors_errorType)] := by kernel_rfl
theorem et_of {W : World} (h : handlesMet Tryz.prog [("errors.errorType", Rows.laid_errors_errorType)] W) : W.cell? ⟨3, 0, none⟩ = some eTy := by
 obtain ⟨name,u,ty,e1,e2,e3,e4,e5⟩:=h _ (List.mem_singleton.2 rfl)
 have en:name=[101,114,114,111,114]:=(Option.some.inj e1).symm
 subst en
 obtain rfl:=Option.some.inj (kRt.symm.trans e2)
 have hm:ty∈(List.range 326).filter fun t=>Tryz.prog.rowNamed t [101,114,114,111,114]:=List.mem_filter.2 ⟨List.mem_range.2 (by rw [←kTypes];exact e3),e4⟩
 rw [kOneRow] at hm
 obtain rfl:=List.mem_singleton.1 hm
 have hh:typeHandle Tryz.prog 51=.pointer (some ⟨23,51,none⟩):=by kernel_rfl
 rw [hh] at e5
 simpa using World.var?_cell kEt e5 0
theorem lt_of_last {W:World} {n:String} {g:Nat} {l:List (String×DataW Unit)} (hl:l.map (·.1)=[n]) (hg:Tryz.prog.globalNamed n=some g) (h:laidMet Tryz.prog l W):g < W.heap.size:=by
 match l,hl with
 | [x],hl=>
  obtain ⟨ps,⟨g',t',cs,fuel,p,q,hg',ht',hvar,_⟩,_⟩:=h
  have e:x.1=n:=by simpa using hl
  rw [e] at hg' hvar
  obtain rfl:=Option.some.inj (hg.symm.trans hg')
  unfold World.var? at hvar
  rw [hg,Option.bind_some] at hvar
  rcases Nat.lt_or_ge g W.heap.size with h' | h'
  ·exact h'
  ·rw [Array.getElem?_eq_none h'] at hvar
   cases hvar
theorem of_laid {W:World} (h:laidMetH Tryz.prog Rows.steadyRow.laid W) :
  ∃al:Nat→Addr,Errs al W∧Laid (fun k=>al (k - 1)) W∧∀i k,k < i→i < 13→al k≠al i:=by
 obtain ⟨h1,h2⟩:=laidMetH_iff.1 h
 rw [handles_are] at h2
 have hE:=et_of h2
 have hS:laidMet Tryz.prog sents W:=by have:=h1.filter isSent;rw [plains_sents] at this;exact this
 have hw := h1.filter (isOne "ratemill/mill.words")
 rw [plains_words] at hw
 have hg := h1.filter (isOne "ratemill/mill.signs")
 rw [plains_signs] at hg
 have ht := h1.filter (isOne "ratemill/mill.typeWords")
 rw [plains_types] at ht
 have ho := h1.filter (isOne "ratemill/mill.operators")
 rw [plains_ops] at ho
 have hl:23≤W.heap.size:=by
  have := lt_of_last plains_last (g := 23 - 1) (by kernel_rfl) (h1.filter (isOne "math/bits.deBruijn64tab"))
  omega
 have qw:=strs_of_laid Mil.words (g:=14) (t:=250) (by kernel_rfl) (by kernel_rfl) Tryz.underlying250 Tryz.underlying9 cellsStr (by kernel_rfl) rfl (by decide) hw
 have qg:=strs_of_laid Mil.signs (g:=15) (t:=252) (by kernel_rfl) (by kernel_rfl) Tryz.underlying252 Tryz.underlying9 cellsStr (by kernel_rfl) rfl (by decide) hg
 have qt:=strs_of_laid [Mil.wInt,Mil.wBool] (g:=16) (t:=256) (by kernel_rfl) (by kernel_rfl) Tryz.underlying256 Tryz.underlying9 cellsStr (by kernel_rfl) rfl (by decide) ht
 have qo:=quads_of_laid opsTab (g:=17) (t:=259) (by kernel_rfl) (by kernel_rfl) Tryz.underlying259 Tryz.underlying235 rfl rfl rfl rfl Tryz.underlying9 Tryz.underlying3 Tryz.underlying3 Tryz.underlying3 cellsStr (by kernel_rfl) (by kernel_rfl) (by kernel_rfl) (by kernel_rfl) (by kernel_rfl) rfl (by decide) ho
 obtain ⟨ps,hv,hnd,hrows⟩:=hS
 obtain ⟨xs,hold,_⟩:=errs_of_laid Tryz.underlying51 rowE Tryz.underlying285 Tryz.underlying287 rfl rfl Tryz.underlying9 cellsES cellsStr sents nums ps fit hv hnd hrows
 have hlen:xs.length=15:=hold_len xs nums hold
 have at_:∀i,i < 15→W.cell? ⟨nums.getD i 0,0,none⟩=some (errV (xs.getD i ⟨0,0,none⟩)):=fun i hi=>(hold_at ⟨0,0,none⟩ xs nums hold i (by omega)).1
 refine ⟨fun i=>if i=19 then xs.getD 0 ⟨0,0,none⟩ else xs.getD (i+2) ⟨0,0,none⟩,?_,?_,?_⟩
 ·exact ⟨hl,at_ 2 (by decide),at_ 3 (by decide),at_ 4 (by decide),at_ 5 (by decide),at_ 6 (by decide),at_ 7 (by decide),at_ 8 (by decide),at_ 9 (by decide),at_ 10 (by decide),at_ 11 (by decide),at_ 12 (by decide),at_ 13 (by decide),at_ 14 (by decide),
   fun i hi=>by
    show ∃c t,W.heap[(if i=19 then xs.getD 0 ⟨0,0,none⟩ else xs.getD (i+2) ⟨0,0,none⟩:Addr).block]?=some (.cells c t (0,0))
    rw [if_neg (by omega)]
    exact (hold_at ⟨0,0,none⟩ xs nums hold (i+2) (by omega)).2,hE⟩
 ·exact ⟨hl,at_ 2 (by decide),at_ 3 (by decide),at_ 4 (by decide),at_ 5 (by decide),qw,qg,qt,qo,at_ 0 (by decide)⟩
 ·intro i k hk hi
  show (if k=19 then xs.getD 0 ⟨0,0,none⟩ else xs.getD (k+2) ⟨0,0,none⟩:Addr)≠if i=19 then xs.getD 0 ⟨0,0,none⟩ else xs.getD (i+2) ⟨0,0,none⟩
  rw [if_neg (by omega),if_neg (by omega)]
  exact hold_ne ⟨0,0,none⟩ xs nums hold (i+2) (k+2) (by omega) (by omega)
end
section
open Go.ChangeShapes Go.WideShapes Go.ChangeAt Go.RowKit Go.Deep
theorem ownKnobs:ownKnob Tryz.prog.godebug=none:=by kernel_rfl
theorem laidOuts:laidOutB Tryz.prog=true:=by kernel_rfl
def Law:Prop:=∀(al:Nat→Addr) (w:World),Laid (fun k=>al (k - 1)) w→Errs al w→(∀i k,k < i→i < 13→al k≠al i) →
 (∀(o:Option Addr) (c:Nat),Calls Tryz.prog 4 #[.slice o 0 c] w fun e w'=>e=.returned (.bool true)∧Below w.heap.size w w') ∧
 ∀(b off n c:Nat),0 < n→n < 2 ^ 60→Scr w b off n→Calls Tryz.prog 4 #[.slice (some ⟨b,off,none⟩) n c] w fun e w'=>e=.returned (.bool true)∧Below w.heap.size w w'
theorem door_met (os:Os) (args:Array Value):laidMetH Tryz.prog Rows.steadyRow.laid ((World.doorLaid Tryz.prog 4000 os).forCall (fun _ _=>0) ⟨#[],args,[]⟩).memory:=
 laidMetH_of_parts3 (fuel:=8) (laidMet_of_run' 8 (by kernel_rfl) (by kernel_rfl)) (by kernel_rfl) (by kernel_rfl)
set_option maxRecDepth 100000 in
theorem lifted (LW:Law) (os:Os) (started:os.Started) (H:Type) (enc:TypeId×Value→H) :
  ReturnsInHanded {} Tryz.checked os 4 .any (fun w args=>(Rows.steadySpec.pre enc Tryz.prog Tryz.f4 [] false w args∧laidMetH Tryz.prog Rows.steadyRow.laid w)∧sizedMet enc Tryz.prog Tryz.f4 (OpenSpec.ofChange Rows.steadySpec) false w args)
   (Rows.steadySpec.post enc Tryz.prog Tryz.f4 false true false false):=by
 refine returnsInHanded_of_change_and (C:=Tryz.checked) (X:=fun w _=>laidMetH Tryz.prog Rows.steadyRow.laid w) (fun _ _ _ hh h=>h.of_heap hh) ownKnobs started (by kernel_rfl) Tryz.func4
  (ChangeSpec.witness_shaped (enc:=enc) (C:=Tryz.checked) (os:=os) (X:=fun w _=>laidMetH Tryz.prog Rows.steadyRow.laid w) false (World.doorLaid Tryz.prog 4000 os) #[.slice none 0 0] 8 rfl (World.shaped_of_RefB (by kernel_rfl) (by kernel_rfl)) (by kernel_rfl) (by kernel_rfl) (by kernel_rfl) (door_met os _)) ?_
 intro W base args ds gs before hval0 hW _ hZ0 hL _
 have hZ:(DataW.weightsEach Tryz.prog (Tryz.f4.params.toList++Rows.steadySpec.plain.varTypes Tryz.prog) (ds++gs)).all (·≤reachBytes)=true:=hZ0
 have hval:∀(j:Nat) t v,Tryz.f4.params[j]?=some t→args[j]?=some v→Value.okWide Tryz.prog W .any base t v:=hval0
 have hW':=hW
 obtain ⟨p,q,hA0,hV,rfl,hfz,hnd⟩:=hW
 have hA:DataW.TrodAll enc Tryz.prog W 0 (fun _=>true) true Tryz.f4.params.toList args.toList ds p:=hA0
 rw [Tryz.params4] at hA hval hZ
 obtain ⟨v0,d0,hargs,rfl,h0⟩:=trodAll_one hA
 obtain ⟨rfl,rfl⟩:=trodVars_none hV
 obtain ⟨al,hE,hP,hD⟩:=of_laid hL
 have hargs':args=#[v0]:=by
  cases args with | mk l=>simp at hargs;rw [hargs]
 subst hargs'
 obtain ⟨o,n,c,rfl⟩:=okWide_slice Tryz.underlying22 (hval 0 22 v0 rfl rfl)
 have hlt:∀x∈p,x.block < W.heap.size:=fun x hx=>by simpa using hW'.lt x (List.mem_append_left _ hx)
 obtain ⟨fuel,hf⟩:=h0
 have hcall:Calls Tryz.prog 4 #[.slice o n c] W fun e w'=>e=.returned (.bool true)∧Below W.heap.size W w':=by
  rcases open_script hf (fun elems spare e=>sized_slice hZ (j:=0) (t:=22) rfl (by simpa using e) Tryz.underlying22) with ⟨o',c',e⟩ | ⟨b,off,n',c',e,hn0,hn,hc⟩
  ·have e':(Value.slice o n c)=.slice o' 0 c':=by simpa [Value.cells] using e
   rw [e']
   exact (LW al W hP hE hD).1 o' c'
  ·have e':(Value.slice o n c)=.slice (some ⟨b,off,none⟩) n' c':=by simpa [Value.cells] using e
   rw [e']
   exact (LW al W hP hE hD).2 b off n' c' hn0 hn hc
 refine hcall.mono fun e W' ⟨he,hb⟩=>?_
 subst he
 refine ⟨_,rfl,_,_,_,[],p,[],hW',?_,?_,?_,hb.frame _,fun h=>by cases h⟩
 ·exact trodAll_mk1 (shut_bool Tryz.underlying4 true)
 ·exact trodAll_mk1 (Below.trod laidOuts (by kernel_rfl) (of_decide_eq_true (by kernel_rfl)) ⟨fuel,hf⟩ hb hlt)
 ·rfl
theorem steady_of (LW:Law):Rows.SteadySaid:=
 OpenClaim.holds_of_wide 4 Tryz.f4 rfl rfl rfl rfl rfl rfl rfl ⟨rfl,rfl,rfl,rfl,rfl⟩ rfl rfl rfl rfl rfl (by kernel_rfl) Tryz.func4 (by kernel_rfl)
  (of_decide_eq_true (by kernel_rfl)) (by unfold Func.isWrapper;first | (rw [if_pos (by decide +kernel)];kernel_rfl) | (rw [if_neg (by decide +kernel)];exact ⟨rfl,rfl⟩))
  (fun os started H enc _=>lifted LW os started H enc)
end
section
open Go.RowKit
def Fsh (B:Nat) (v:Value):Prop:=∀g,v.ownBlock=some g→B≤g
theorem clone_keeps {w:World} {v:Value} {L:List Nat} (h:Lst w v L) (hL:L.length≤1000000):Calls Tryz.prog 16 #[v] w fun e w'=>∃v',e=.returned v'∧Lst w' v' L∧Below w.heap.size w w'∧Fsh w.heap.size v':=by
 by_cases hne:L=[]
 ·rcases h with ⟨_,rfl⟩ | ⟨g,cap,h1,_⟩
  ·refine (Tryz.slices_Clone_nil 0 0 w).mono ?_
   rintro E w' ⟨rfl,rfl⟩
   exact ⟨_,rfl,Or.inl ⟨hne,rfl⟩,Below.refl _ _,fun g hg=>by cases hg⟩
  ·exact absurd hne h1.1
 ·refine (clone_lst h hL).mono ?_
  rintro E w' ⟨v',rfl,h1,h2⟩
  exact ⟨v',rfl,Ndr.lst ⟨h1,fun e=>absurd e hne⟩,h2,fun g hg=>(own_lt h1 g hg).1⟩
theorem tks_set (v:Value):∀(U:List (Nat×Value)) (j:Nat) (p:Nat) (u:Value),U[j]?=some (p,u)→tks (U.set j (p,v))=(tks U).set (j*2+1) v
 | [],j,p,u,h=>by simp at h
 | x::r,0,p,u,h=>by
  have e:x=(p,u):=by simpa using h
  subst e
  show tks ((p,v)::r)=_
  unfold tks
  rw [List.flatMap_cons,List.flatMap_cons,List.set_append_left _ _ (by show 0*2+1 < 2;omega)]
  rfl
 | x::r,j+1,p,u,h=>by
  have ih:=tks_set v r j p u (by simpa using h)
  show tks (x::r.set j (p,v))=_
  unfold tks at ih ⊢
  rw [List.flatMap_cons,List.flatMap_cons,ih,List.set_append_right _ _ (by show 2≤_;omega)]
  have e:(j+1)*2+1 - (tkC x).length=j*2+1:=by show (j+1)*2+1 - 2=_;omega
  rw [e]
theorem tks_len (U:List (Nat×Value)):(tks U).length=U.length*2:=by
 induction U with
 | nil=>rfl
 | cons f r ih=>
  unfold tks at ih ⊢
  rw [List.flatMap_cons,List.length_append,ih,List.length_cons]
  show 2+_=_
  omega
theorem ord_len (nd:Nat→List Nat) (l:List Nat):∀n acc,(Mip.ord nd l n acc).length≤acc.length+n
 | 0,acc=>Nat.le_refl _
 | n+1,acc=>by
  rw [Mip.ord]
  cases l.find? (Mip.rdy nd l acc) with
  | none=>have:=ord_len nd l n acc;show (Mip.ord nd l n acc).length≤_;omega
  | some f=>have:=ord_len nd l n (acc++[f]);rw [List.length_append] at this;show (Mip.ord nd l n (acc++[f])).length≤_;simp at this;omega
theorem ordOf_len (m:Mil.Bytes→Option Int) (F:List Flo) (Q:List Nq) (p:Nat):(ordOf m F Q p).length≤Q.length:=by
 have h1:=ord_len (ndf m Q) ((part F Q p).map Nq.flow) (part F Q p).length []
 have h2:(part F Q p).length≤Q.length:=List.length_filter_le _ _
 unfold ordOf
 simp at h1
 omega
def TqPost (N:Nat) (l:List Mip.It) (w:World) (E:Ending) (w':World):Prop:=Below w.heap.size w w'∧∃v U,E=.returned v∧Tw (dcl N l).2.m (prd N l) (dcl N l).2.Q w.heap.size w' v U∧∀u∈U,Fsh w.heap.size u.2
set_option maxRecDepth 100000 in
theorem tasksOf_any {ρ:Mil.Bytes→Int→Int→Int} {B0 N:Nat} {l:List Mip.It} {w:World} {P:Nat} (h:Prg ρ B0 N l w P) (hU:∀(B:Nat) (tv:Value) (U:List (Nat×Value)),Tw (dcl N l).2.m (prd N l) (dcl N l).2.Q B w tv U→U.length≤1000):Calls Tryz.prog 8 #[.pointer (some ⟨P,0,none⟩)] w (TqPost N l w):=by
 obtain ⟨fv,tv,wv,U,B,B',h1,h2,h3,_⟩:=h.blk
 have c1:w.cell? ⟨P,1,none⟩=some tv:=(cell_of_row w P 1 _ _ _ h1).trans rfl
 have hU6:=hU B' tv U h3
 have hQ:(dcl N l).2.Q.length≤60:=h.len.2
 obtain ⟨i0,hi0,jz0,jz1,jz2⟩:=info_parts Tryz.infoTask
 generalize hm:(dcl N l).2.m=m at h3
 generalize hq:(dcl N l).2.Q=Q at h3 hQ
 generalize hF:prd N l=F at h3
 rcases h3.row.2 with ⟨e,e'⟩ | ⟨g,cap,cur,e,_⟩
 ·subst e
  have hUn:U=[]:=List.length_eq_zero_iff.1 e'
  subst hUn
  have HT:Hid (Tw m F Q B' w (.slice none 0 0) []):=h3
  clear h1 h2 h3 h e' hU hU6
  go_enter Tryz.func8,Tryz.ntmps8
  go_wp2_with fail
  refine (Tryz.clone_task_nil 0 0 w).mono ?_
  rintro E w2 ⟨rfl,rfl⟩
  go_wp2_with fail
  go_loopg [14] 0 (fun gk s14 wr=>s14=.int .i64 0∧wr=w2)
  case atStart=>exact ⟨rfl,rfl⟩
  case round=>
   obtain ⟨rfl,rfl⟩:=hrel
   go_wp2
   go_ret
   refine ⟨Below.refl _ _,_,[],rfl,?_⟩
   rw [hm,hq,hF]
   exact ⟨⟨World.ownsRow_nil _ _ _ _,HT.out.up,HT.out.all,HT.out.lst⟩,fun u hu=>by cases hu⟩
 ·have h3':=h3.row
  rw [e] at h3' c1
  have HCL:=Tryz.clone_task i0 _ 2 32 hi0 jz0 jz1 jz2 rfl (by decide) Tryz.sizeTask g 0 U.length cap (tks U) w (tks_len _) (by unfold maxLen;omega) (by omega) (fun j u hu=>by rw [Nat.zero_add];exact own_cell h3' hu) (fun u hu=>by
   obtain ⟨x,hx,h⟩:=List.mem_flatMap.1 hu
   obtain ⟨s1,s2,s3,hs⟩:=(h3.lst x hx).shape
   simp [tkC,hs] at h
   rcases h with rfl | rfl <;> rfl)
  have HT:Hid (Tw m F Q B' w tv U):=h3
  have HQ6:Hid (Q.length≤60):=hQ
  have HMF:Hid ((dcl N l).2.m=m∧(dcl N l).2.Q=Q∧prd N l=F):=⟨hm,hq,hF⟩
  clear h1 h2 h3 h h3' hU hm hq hF hQ
  go_enter Tryz.func8,Tryz.ntmps8
  go_wp2_with fail
  refine HCL.mono ?_
  rintro E W ⟨v',rfl,hr,hnn,hb⟩
  obtain ⟨o1,c1',hs⟩:=own_shape hr
  subst hs
  have HR:Hid (W.ownsRow w.heap.size 40 2 (.slice o1 U.length c1') U.length (tks U)∧Below w.heap.size w W):=⟨hr,hb⟩
  have HL0:Hid (∀u∈U,Lst W u.2 (ordOf m F Q u.1)):=fun u hu=>(HT.out.lst u hu).below hb
  clear hr hb HCL hnn
  go_wp2_with fail
  go_loopg [14] U.length (fun gk s14 wr=>∃(j:Nat) (V:List (Nat×Value)),j≤U.length∧s14=.int .i64 (j:Nat)∧gk=U.length - j∧Hid (V.map Prod.fst=U.map Prod.fst)∧Hid (Below w.heap.size w wr)∧Hid (wr.ownsRow w.heap.size 40 2 (.slice o1 U.length c1') U.length (tks V))∧Hid (∀u∈V,Lst wr u.2 (ordOf m F Q u.1))∧Hid (∀(i:Nat) (x:Nat×Value),i < j→V[i]?=some x→Fsh w.heap.size x.2))
  case atStart=>exact ⟨0,U,Nat.zero_le _,rfl,rfl,rfl,HR.out.2,HR.out.1,HL0,fun i x hi _=>absurd hi (Nat.not_lt_zero _)⟩
  case round=>
   obtain ⟨j,V,hj,rfl,hg,KV,KB,KR,KL,KF⟩:=hrel
   have HG:Hid (gk=U.length - j):=hg
   have HVL:Hid (V.length=U.length):=by have h:=congrArg List.length KV.out;show V.length=U.length;simpa using h
   clear hg HR HL0
   by_cases hlt:j < U.length
   ·have HLT:Hid (j < U.length):=hlt
    obtain ⟨⟨p,u⟩,hq⟩:∃x,V[j]?=some x:=⟨_,List.getElem?_eq_getElem (by rw [HVL.out];exact hlt)⟩
    have HQV:Hid (V[j]?=some (p,u)):=hq
    obtain ⟨g1,rfl⟩:∃g1,o1=some ⟨g1,0,none⟩:=by
     rcases KR.out.2 with ⟨_,e⟩ | ⟨g1,cap1,cur1,e,_⟩
     ·omega
     ·injection e with e1 _ _
      exact ⟨g1,e1⟩
    have hcu:wr.cell? ⟨g1,j*2+1,none⟩=some u:=own_cell KR.out ((flat_at tkC 2 (fun _=>rfl) V j 1 (p,u) hq (by decide)).trans rfl)
    have HLU:Hid (Lst wr u (ordOf m F Q p)):=KL.out (p,u) (List.mem_of_getElem? hq)
    obtain ⟨s1,s2,s3,hs⟩:=HLU.out.shape
    subst hs
    have h0:(0:Int)≤(j:Int):=by omega
    have h1:(j:Int) < (U.length:Int):=by omega
    clear hq
    go_wp2_with fail
    refine (clone_keeps HLU.out (by have:=ordOf_len m F Q p;have:=HQ6.out;omega)).mono ?_
    rintro E w2 ⟨v2,rfl,hl2,hb2,hf2⟩
    have KR2:Hid (w2.ownsRow w.heap.size 40 2 (.slice (some ⟨g1,0,none⟩) U.length c1') U.length (tks V)):=own_kept KR.out (fun g hg=>hb2.block g (lt_of_heap (own_lt KR.out g hg).2.choose_spec))
    obtain ⟨r1,r2,r3,hs2⟩:=hl2.shape
    subst hs2
    have hgc:=(own_lt KR2.out g1 rfl).2
    have z2:w2.frozen? ⟨g1,j*2+1,none⟩=false:=by
     obtain ⟨cur1,hcur⟩:=hgc
     unfold World.frozen?;rw [hcur];simp
    have c2:w2.cell? ⟨g1,j*2+1,none⟩=some (.slice s1 s2 s3):=own_cell KR2.out ((flat_at tkC 2 (fun _=>rfl) V j 1 (p,.slice s1 s2 s3) HQV.out (by decide)).trans rfl)
    have HR3:Hid ((w2.setCell ⟨g1,j*2+1,none⟩ (.slice r1 r2 r3)).ownsRow w.heap.size 40 2 (.slice (some ⟨g1,0,none⟩) U.length c1') U.length (tks (V.set j (p,.slice r1 r2 r3)))):=by
     show World.ownsRow _ _ _ _ _ _ _
     rw [tks_set _ V j p _ HQV.out]
     exact own_set KR2.out _ _
    have HB3:Hid (Below w.heap.size w (w2.setCell ⟨g1,j*2+1,none⟩ (.slice r1 r2 r3))):=(below_step KB.out hb2).setCell (own_lt KR2.out g1 rfl).1 _
    have HL3:Hid (∀x∈V.set j (p,Value.slice r1 r2 r3),Lst (w2.setCell ⟨g1,j*2+1,none⟩ (.slice r1 r2 r3)) x.2 (ordOf m F Q x.1)):=fun x hx=>by
     obtain ⟨cur1,hcur⟩:=hgc
     have hl:Lst w2 x.2 (ordOf m F Q x.1):=by
      rcases List.mem_or_eq_of_mem_set hx with h | h
      ·exact (KL.out x h).below hb2
      ·rw [h];exact hl2
     exact hl.set hcur (by decide)
    have HV3:Hid ((V.set j (p,Value.slice r1 r2 r3)).map Prod.fst=U.map Prod.fst):=by
     show _=_
     rw [List.map_set,←KV.out]
     apply List.ext_getElem?
     intro i
     rw [List.getElem?_set]
     by_cases e:j=i
     ·subst e
      rw [if_pos rfl,List.getElem?_map,HQV.out,if_pos (by rw [List.length_map,HVL.out];exact HLT.out)];rfl
     ·rw [if_neg e]
    have HF3:Hid (∀(i:Nat) (x:Nat×Value),i < j+1→(V.set j (p,Value.slice r1 r2 r3))[i]?=some x→Fsh w.heap.size x.2):=fun i x hi hx=>by
     rw [List.getElem?_set] at hx
     by_cases e:j=i
     ·rw [if_pos e] at hx
      split at hx
      ·obtain rfl:=Option.some.inj hx
       exact fun g hg=>Nat.le_trans KB.out.size (hf2 g hg)
      ·cases hx
     ·rw [if_neg e] at hx
      exact KF.out i x (by omega) hx
    clear hb2 hl2 hgc hcu hf2
    go_wp2
    go_roundg (U.length - (j+1))
    case measure=>have:=HG.out;have:=HLT.out;omega
    case rel=>exact ⟨j+1,_,HLT.out,by go_num,rfl,HV3,HB3,HR3,HL3,HF3⟩
   ·have hle:(U.length:Int)≤(j:Int):=by omega
    go_wp2
    go_ret
    refine ⟨KB.out,_,V,rfl,?_⟩
    rw [HMF.out.1,HMF.out.2.1,HMF.out.2.2]
    have hr:=KR.out
    refine ⟨⟨?_,by rw [KV.out];exact HT.out.up,fun p=>by rw [KV.out];exact HT.out.all p,KL.out⟩,fun u hu=>by
     obtain ⟨i,hi⟩:=List.getElem?_of_mem hu
     have:=(List.getElem?_eq_some_iff.1 hi).1
     rw [HVL.out] at this
     exact KF.out i u (by omega) hi⟩
    rw [HVL.out]
    exact hr
end
end Go.Proofs.YticbokabjhnagaaGreatDoor
