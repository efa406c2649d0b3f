import Derived.Test.YtjehljjlcifndaaGreatDoorRows
import Derived.Test.YtjehljjlcifndaaGreatDoorX40
import Derived.Test.YtjehljjlcifndaaGreatDoorX28
import Derived.Deep.Slices
import Derived.ProofKit
import Derived.ChangeBears2
import Derived.LaidMore
import Derived.OpenShut
import Derived.Stop.Joined
import Derived.Test.YtjehljjlcifndaaGreatDoorX27
import Derived.Test.YtjehljjlcifndaaGreatDoorX39
import Derived.BigQuiet
namespace Go.Proofs.YtjehljjlcifndaaGreatDoor
set_option maxHeartbeats 32000000
set_option maxRecDepth 100000
section
open Go Go.RowKit
theorem starE : "*" ++ "errors.errorString" = "*errors.errorString" := by decide
theorem rowE (u : TypeId) (h : Tryz.prog.typeName? 3 u = some "*errors.errorString") : u = 303 :=
 typeName_ptr_named (nm := "errors.errorString") (by rw [starE]; kernel_rfl) (by kernel_rfl) (by decide) u (by rw [starE]; exact h)
theorem cellsES:Tryz.prog.cellsOf 305=1:=by kernel_rfl
theorem cellsStr:Tryz.prog.cellsOf 9=1:=by kernel_rfl
abbrev nums:List Nat:=[19,18,2,4,5,6,7,8,9,10,11,12,0,1,13]
def sents : List (String × DataW Unit) := [("strconv.ErrRange", Rows.laid_strconv_ErrRange), ("strconv.ErrSyntax", Rows.laid_strconv_ErrSyntax), ("ratemill/mill.ErrLong", Rows.laid_ratemill_mill_ErrLong), ("ratemill/mill.ErrToken", Rows.laid_ratemill_mill_ErrToken), ("ratemill/mill.ErrSyntax", Rows.laid_ratemill_mill_ErrSyntax), ("ratemill/mill.ErrMany", Rows.laid_ratemill_mill_ErrMany), ("ratemill/mill.ErrTwice", Rows.laid_ratemill_mill_ErrTwice), ("ratemill/mill.ErrName", Rows.laid_ratemill_mill_ErrName), ("ratemill/mill.ErrType", Rows.laid_ratemill_mill_ErrType), ("ratemill/mill.ErrPeriod", Rows.laid_ratemill_mill_ErrPeriod), ("ratemill/mill.ErrFree", Rows.laid_ratemill_mill_ErrFree), ("ratemill/mill.ErrCycle", Rows.laid_ratemill_mill_ErrCycle), ("ratemill/mill.ErrFlow", Rows.laid_ratemill_mill_ErrFlow), ("ratemill/mill.ErrInputs", Rows.laid_ratemill_mill_ErrInputs), ("ratemill/mill.ErrOverrun", Rows.laid_ratemill_mill_ErrOverrun)]
def isSent:String×DataW Unit->Bool
 | (_,.iface _ (.ptr _))=>true
 | _=>false
def isOne (n:String) (x:String×DataW Unit):Bool:=x.1==n
abbrev plains:List (String×DataW Unit):=Rows.quietRow.laid.filter fun x=>x.2.handleName?.isNone
theorem plains_sents:plains.filter isSent=sents:=by kernel_rfl
theorem plains_words : plains.filter (isOne "ratemill/mill.words") = [("ratemill/mill.words", .agg (Mil.words.map fun x => .lit (.string x)))] := by kernel_rfl
theorem plains_signs : plains.filter (isOne "ratemill/mill.signs") = [("ratemill/mill.signs", .agg (Mil.signs.map fun x => .lit (.string x)))] := by kernel_rfl
theorem plains_types : plains.filter (isOne "ratemill/mill.typeWords") = [("ratemill/mill.typeWords", .agg ([Mil.wInt, Mil.wBool].map fun x => .lit (.string x)))] := by kernel_rfl
theorem plains_ops : plains.filter (isOne "ratemill/mill.operators") = [("ratemill/mill.operators", .agg (opsTab.map fun x => .agg [.lit (.string x.1), .lit (.int .i64 x.2.1), .lit (.int .i64 x.2.2.1), .lit (.int .i64 x.2.2.2)]))] := by kernel_rfl
theorem plains_last : (plains.filter (isOne "math/bits.deBruijn64tab")).map (·.1) = ["math/bits.deBruijn64tab"] := by kernel_rfl
theorem fit : FitErrs Tryz.prog 47 "*errors.errorString" sents nums :=
 ⟨⟨_,rfl⟩,by kernel_rfl,by kernel_rfl,⟨_,rfl⟩,by kernel_rfl,by kernel_rfl,⟨_,rfl⟩,by kernel_rfl,by kernel_rfl,⟨_,rfl⟩,by kernel_rfl,by kernel_rfl,⟨_,rfl⟩,by kernel_rfl,by kernel_rfl,⟨_,rfl⟩,by kernel_rfl,by kernel_rfl,⟨_,rfl⟩,by kernel_rfl,by kernel_rfl,⟨_,rfl⟩,by kernel_rfl,by kernel_rfl,⟨_,rfl⟩,by kernel_rfl,by kernel_rfl,⟨_,rfl⟩,by kernel_rfl,by kernel_rfl,⟨_,rfl⟩,by kernel_rfl,by kernel_rfl,⟨_,rfl⟩,by kernel_rfl,by kernel_rfl,⟨_,rfl⟩,by kernel_rfl,by kernel_rfl,⟨_,rfl⟩,by kernel_rfl,by kernel_rfl,⟨_,rfl⟩,by kernel_rfl,by kernel_rfl,trivial⟩
theorem kEt : Tryz.prog.globalNamed "errors.errorType" = some 3 := by kernel_rfl
theorem kRt : (Tryz.prog.cutTypes.find? (·.1 == "internal/reflectlite.rtype")).map (·.2) = some 212 := by kernel_rfl
theorem kOneRow:((List.range 343).filter fun t=>Tryz.prog.rowNamed t [101,114,114,111,114])=[47]:=by kernel_rfl
theorem kTypes:Tryz.prog.types.size=343:=by kernel_rfl
theorem handles_are : (Rows.quietRow.laid.filter fun x => x.2.handleName?.isSome) = [("errors.errorType", Rows.laid_errors_errorType)] := by kernel_rfl
theorem et_of {W : World} (h : handlesMet Tryz.prog [("errors.errorType", Rows.laid_errors_errorType)] W) : W.cell? ⟨3, 0, none⟩ = some eTy := by
 obtain⟨name,u,ty,e1,e2,e3,e4,e5⟩:=h _ (List.mem_singleton.2 rfl)
 have en:name=[101,114,114,111,114]:=(osi e1).symm
 subst en
 obtain rfl:=osi (kRt.symm.trans e2)
 have hm:ty∈(List.range 343).filter fun t=>Tryz.prog.rowNamed t [101,114,114,111,114]:=List.mem_filter.2 ⟨List.mem_range.2 (by rw[<-kTypes];exact e3),e4⟩
 rw[kOneRow] at hm
 obtain rfl:=List.mem_singleton.1 hm
 have hh:typeHandle Tryz.prog 47=.pointer (some ⟨23,47,none⟩):=by kernel_rfl
 rw[hh] at e5
 simpa using World.var?_cell kEt e5 0
theorem lt_of_last {W:World} {n:String} {g:Nat} {l:List (String×DataW Unit)} (hl:l.map (·.1)=[n]) (hg:Tryz.prog.globalNamed n=some g) (h:laidMet Tryz.prog l W):g < W.heap.size:=by
 match l,hl with
 | [x],hl=>
  obtain⟨ps,⟨g',t',cs,fuel,p,q,hg',ht',hvar,_⟩,_⟩:=h
  have e:x.1=n:=by simpa using hl
  rw[e] at hg' hvar
  obtain rfl:=osi (hg.symm.trans hg')
  unfold World.var? at hvar
  rw[hg,Option.bind_some] at hvar
  rcases Nat.lt_or_ge g W.heap.size with h'|h'
  ·exact h'
  ·rw[Array.getElem?_eq_none h'] at hvar
   cases hvar
theorem of_laid {W:World} (h:laidMetH Tryz.prog Rows.quietRow.laid W) :
  ∃al:Nat->Addr,Errs al W/\Laid (fun k=>al (k - 1)) W/\∀i k,k < i->i < 13->al k≠al i:=by
 obtain⟨h1,h2⟩:=laidMetH_iff.1 h
 rw[handles_are] at h2
 have hE:=et_of h2
 have hS:laidMet Tryz.prog sents W:=by have:=h1.filter isSent;rw[plains_sents] at this;exact this
 have hw := h1.filter (isOne "ratemill/mill.words")
 rw[plains_words] at hw
 have hg := h1.filter (isOne "ratemill/mill.signs")
 rw[plains_signs] at hg
 have ht := h1.filter (isOne "ratemill/mill.typeWords")
 rw[plains_types] at ht
 have ho := h1.filter (isOne "ratemill/mill.operators")
 rw[plains_ops] at ho
 have hl:23<=W.heap.size:=by
  have := lt_of_last plains_last (g := 23 - 1) (by kernel_rfl) (h1.filter (isOne "math/bits.deBruijn64tab"))
  omega
 have qw:=strs_of_laid Mil.words (g:=14) (t:=268) (by kernel_rfl) (by kernel_rfl) Tryz.underlying268 Tryz.underlying9 cellsStr (by kernel_rfl) rfl (by decide) hw
 have qg:=strs_of_laid Mil.signs (g:=15) (t:=270) (by kernel_rfl) (by kernel_rfl) Tryz.underlying270 Tryz.underlying9 cellsStr (by kernel_rfl) rfl (by decide) hg
 have qt:=strs_of_laid [Mil.wInt,Mil.wBool] (g:=16) (t:=274) (by kernel_rfl) (by kernel_rfl) Tryz.underlying274 Tryz.underlying9 cellsStr (by kernel_rfl) rfl (by decide) ht
 have qo:=quads_of_laid opsTab (g:=17) (t:=277) (by kernel_rfl) (by kernel_rfl) Tryz.underlying277 Tryz.underlying253 rfl rfl rfl rfl Tryz.underlying9 Tryz.underlying3 Tryz.underlying3 Tryz.underlying3 cellsStr (by kernel_rfl) (by kernel_rfl) (by kernel_rfl) (by kernel_rfl) (by kernel_rfl) rfl (by decide) ho
 obtain⟨ps,hv,hnd,hrows⟩:=hS
 obtain⟨xs,hold,_⟩:=errs_of_laid Tryz.underlying47 rowE Tryz.underlying303 Tryz.underlying305 rfl rfl Tryz.underlying9 cellsES cellsStr sents nums ps fit hv hnd hrows
 have hlen:xs.length=15:=hold_len xs nums hold
 have at_:∀i,i < 15->W.cell? ⟨nums.getD i 0,0,none⟩=some (errV (xs.getD i ⟨0,0,none⟩)):=fun i hi=>(hold_at ⟨0,0,none⟩ xs nums hold i (by omega)).1
 refine⟨fun i=>if i=19 then xs.getD 0 ⟨0,0,none⟩ else xs.getD (i+2) ⟨0,0,none⟩,?_,?_,?_⟩
 ·exact⟨hl,at_ 2 (by decide),at_ 3 (by decide),at_ 4 (by decide),at_ 5 (by decide),at_ 6 (by decide),at_ 7 (by decide),at_ 8 (by decide),at_ 9 (by decide),at_ 10 (by decide),at_ 11 (by decide),at_ 12 (by decide),at_ 13 (by decide),at_ 14 (by decide),
   fun i hi=>by
    show ∃c t,W.heap[(if i=19 then xs.getD 0 ⟨0,0,none⟩ else xs.getD (i+2) ⟨0,0,none⟩:Addr).block]?=some (.cells c t (0,0))
    rw[if_neg (by omega)]
    exact (hold_at ⟨0,0,none⟩ xs nums hold (i+2) (by omega)).2,hE⟩
 ·exact⟨hl,at_ 2 (by decide),at_ 3 (by decide),at_ 4 (by decide),at_ 5 (by decide),qw,qg,qt,qo,at_ 0 (by decide)⟩
 ·intro i k hk hi
  show (if k=19 then xs.getD 0 ⟨0,0,none⟩ else xs.getD (k+2) ⟨0,0,none⟩:Addr)≠if i=19 then xs.getD 0 ⟨0,0,none⟩ else xs.getD (i+2) ⟨0,0,none⟩
  rw[if_neg (by omega),if_neg (by omega)]
  exact hold_ne ⟨0,0,none⟩ xs nums hold (i+2) (k+2) (by omega) (by omega)
end
section
open Go.ChangeShapes Go.WideShapes Go.ChangeAt Go.RowKit Go.Deep
theorem ownKnobs:ownKnob Tryz.prog.godebug=none:=by kernel_rfl
theorem laidOuts:laidOutB Tryz.prog=true:=by kernel_rfl
def Law:Prop:=∀(al:Nat->Addr) (w:World),Laid (fun k=>al (k - 1)) w->Errs al w->(∀i k,k < i->i < 13->al k≠al i) ->
 (∀(o:Option Addr) (c:Nat),Calls Tryz.prog 5 #[.slice o 0 c] w fun e w'=>e=.returned (.bool true)/\Below w.heap.size w w') /\
 ∀(b off n c:Nat),0 < n->n < 2 ^ 60->Scr w b off n->Calls Tryz.prog 5 #[.slice (some ⟨b,off,none⟩) n c] w fun e w'=>e=.returned (.bool true)/\Below w.heap.size w w'
theorem door_met (os:Os) (args:Array Value):laidMetH Tryz.prog Rows.quietRow.laid ((World.doorLaid Tryz.prog 4000 os).forCall (fun _ _=>0) ⟨#[],args,[]⟩).memory:=
 laidMetH_of_parts3 (fuel:=8) (laidMet_of_run' 8 (by kernel_rfl) (by kernel_rfl)) (by kernel_rfl) (by kernel_rfl)
theorem lifted (LW:Law) (os:Os) (started:os.Started) (H:Type) (enc:TypeId×Value->H) :
  ReturnsInHanded {} Tryz.checked os 5 .any (fun w args=>(Rows.quietSpec.pre enc Tryz.prog Tryz.f5 [] false w args/\laidMetH Tryz.prog Rows.quietRow.laid w)/\sizedMet enc Tryz.prog Tryz.f5 (OpenSpec.ofChange Rows.quietSpec) false w args)
   (Rows.quietSpec.post enc Tryz.prog Tryz.f5 false true false false):=by
 refine returnsInHanded_of_change_and (C:=Tryz.checked) (X:=fun w _=>laidMetH Tryz.prog Rows.quietRow.laid w) (fun _ _ _ hh h=>h.of_heap hh) ownKnobs started (by kernel_rfl) Tryz.func5
  (ChangeSpec.witness_shaped (enc:=enc) (C:=Tryz.checked) (os:=os) (X:=fun w _=>laidMetH Tryz.prog Rows.quietRow.laid w) false (World.doorLaid Tryz.prog 4000 os) #[.slice none 0 0] 8 rfl (World.shaped_of_RefB (by kernel_rfl) (by kernel_rfl)) (by kernel_rfl) (by kernel_rfl) (by kernel_rfl) (door_met os _)) ?_
 intro W base args ds gs before hval0 hW _ hZ0 hL _
 have hZ:(DataW.weightsEach Tryz.prog (Tryz.f5.params.toList++Rows.quietSpec.plain.varTypes Tryz.prog) (ds++gs)).all (·<=reachBytes)=true:=hZ0
 have hval:∀(j:Nat) t v,Tryz.f5.params[j]?=some t->args[j]?=some v->Value.okWide Tryz.prog W .any base t v:=hval0
 have hW':=hW
 obtain⟨p,q,hA0,hV,rfl,hfz,hnd⟩:=hW
 have hA:DataW.TrodAll enc Tryz.prog W 0 (fun _=>true) true Tryz.f5.params.toList args.toList ds p:=hA0
 rw[Tryz.params5] at hA hval hZ
 obtain⟨v0,d0,hargs,rfl,h0⟩:=trodAll_one hA
 obtain⟨rfl,rfl⟩:=trodVars_none hV
 obtain⟨al,hE,hP,hD⟩:=of_laid hL
 have hargs':args=#[v0]:=by
  cases args with|mk l=>simp at hargs;rw[hargs]
 subst hargs'
 obtain⟨o,n,c,rfl⟩:=okWide_slice Tryz.underlying22 (hval 0 22 v0 rfl rfl)
 have hlt:∀x∈p,x.block < W.heap.size:=fun x hx=>by simpa using hW'.lt x (List.mem_append_left _ hx)
 obtain⟨fuel,hf⟩:=h0
 have hcall:Calls Tryz.prog 5 #[.slice o n c] W fun e w'=>e=.returned (.bool true)/\Below W.heap.size W w':=by
  rcases open_script hf (fun elems spare e=>sized_slice hZ (j:=0) (t:=22) rfl (by simpa using e) Tryz.underlying22) with ⟨o',c',e⟩|⟨b,off,n',c',e,hn0,hn,hc⟩
  ·have e':(Value.slice o n c)=.slice o' 0 c':=by simpa [Value.cells] using e
   rw[e']
   exact (LW al W hP hE hD).1 o' c'
  ·have e':(Value.slice o n c)=.slice (some ⟨b,off,none⟩) n' c':=by simpa [Value.cells] using e
   rw[e']
   exact (LW al W hP hE hD).2 b off n' c' hn0 hn hc
 refine hcall.mono fun e W' ⟨he,hb⟩=>?_
 subst he
 refine⟨_,rfl,_,_,_,[],p,[],hW',?_,?_,?_,hb.frame _,fun h=>by cases h⟩
 ·exact trodAll_mk1 (shut_bool Tryz.underlying4 true)
 ·exact trodAll_mk1 (Below.trod laidOuts (by kernel_rfl) (of_decide_eq_true (by kernel_rfl)) ⟨fuel,hf⟩ hb hlt)
 ·rfl
theorem quiet_of (LW:Law):Rows.QuietSaid:=
 OpenClaim.holds_of_wide 5 Tryz.f5 rfl rfl rfl rfl rfl rfl rfl ⟨rfl,rfl,rfl,rfl,rfl⟩ rfl rfl rfl rfl rfl (by kernel_rfl) Tryz.func5 (by kernel_rfl)
  (of_decide_eq_true (by kernel_rfl)) (by unfold Func.isWrapper;first|(rw[if_pos (by decide +kernel)];kernel_rfl)|(rw[if_neg (by decide +kernel)];exact⟨rfl,rfl⟩))
  (fun os started H enc _=>lifted LW os started H enc)
end
section
open Go.RowKit
namespace Mip
section
variable {m:Mil.Bytes->Option Int} {F:List Flo}
theorem nn_nds:∀e:E,Mil.nn (er e)->nds m e=[]
 | .nil,_=>rfl
 | .node t k x a b,h=>by
  have h':t≠3/\Mil.nn (er a)/\Mil.nn (er b):=h
  unfold nds
  rw[if_neg h'.1]
  split
  ·rfl
  ·rw[nn_nds a h'.2.1,nn_nds b h'.2.2];rfl
def Np (m:Mil.Bytes->Option Int) (F:List Flo) (e:E):Prop:=Hl m F e->perOf m F e≠0->∀y∈nds m e,perAt F y<=perOf m F e
theorem np_kid (hp:∀x k,m x=some k->perAt F k.toNat≠0) {a e:E} (ha:Np m F a) (hl:Hl m F a) (hq:perOf m F a≠0->perOf m F a=perOf m F e) {y:Nat} (hy:y∈nds m a):perAt F y<=perOf m F e:=by
 by_cases c:perOf m F a=0
 ·rw[nn_nds a (per_nn hp a hl.wf hl c)] at hy
  cases hy
 ·rw[<-hq c]
  exact ha hl c y hy
theorem np_two (hp:∀x k,m x=some k->perAt F k.toNat≠0) {a b e:E} (iha:Np m F a) (ihb:Np m F b) (ha:Hl m F a) (hb:Hl m F b) (he:perOf m F e=if perOf m F a≠0 then perOf m F a else perOf m F b) (hc:clash m F [a,b] (perOf m F e)=false) {y:Nat} (hy:y∈nds m a++nds m b):perAt F y<=perOf m F e:=by
 have k:=(clash_two hc).1
 rcases List.mem_append.1 hy with hy|hy
 ·exact np_kid hp iha ha (fun c=>by rw[he,if_pos c]) hy
 ·refine np_kid hp ihb hb (fun c=>?_) hy
  rw[he]
  by_cases ca:perOf m F a=0
  ·rw[if_neg (by simp[ca])]
  ·rw[if_pos ca];exact (k ca c).symm
theorem np_all (hp:∀x k,m x=some k->perAt F k.toNat≠0):∀e:E,Mil.wf (er e) false->Np m F e:=by
 refine tree_induct ?_ ?_ ?_ ?_ ?_ ?_ ?_ ?_ ?_ ?_
 ·intro p k _ _ _ y hy;simp[nds,eInt] at hy
 ·intro p k _ _ _ y hy;simp[nds,eBool] at hy
 ·intro p x _ h _ y hy
  rw[nds_name] at hy
  rw[per_name]
  obtain rfl:y=((m x).getD 0).toNat:=by simpa using hy
  exact Nat.le_refl _
 ·intro p x a _ iha h hne y hy
  rw[nds_pre] at hy
  exact np_kid hp iha (h.kid (by simp[ePre,eName]) (by simp[kids,ePre]) (wf_pre h.wf)) (fun _=>(per_pre p x a).symm) hy
 ·intro p x a b _ iha ihb h hne y hy
  obtain⟨w1,w2⟩:=wf_two h.wf
  rw[nds_two] at hy
  exact np_two hp iha ihb (h.kid (by simp[eTwo,eName]) (by simp[kids,eTwo]) w1) (h.kid (by simp[eTwo,eName]) (by simp[kids,eTwo]) w2) (per_two p x a b) (pf_none h.wf h.pf).2 hy
 ·intro p y a b c iha ihb ihc h hne z hz
  obtain⟨w1,w2,w3⟩:=wf_if h.wf
  have hc:clash m F [a,b,c] (perOf m F (.node 6 0 ([],p) a (.node 0 0 ([],y) b c)))=false:=(pf_none h.wf h.pf).2
  obtain⟨k1,k2,k3,_⟩:=clash_three hc
  rw[nds_if] at hz
  rcases List.mem_append.1 hz with hz|hz
  ·refine np_kid hp iha (h.kid (by simp[eName]) (by simp[kids]) w1) (fun c1=>?_) hz
   rw[per_if,if_pos c1]
  ·rcases List.mem_append.1 hz with hz|hz
   ·refine np_kid hp ihb (h.kid (by simp[eName]) (by simp[kids]) w2) (fun c1=>?_) hz
    rw[per_if]
    by_cases ca:perOf m F a=0
    ·rw[if_neg (by simp[ca]),if_pos c1]
    ·rw[if_pos ca];exact (k1 ca c1).symm
   ·refine np_kid hp ihc (h.kid (by simp[eName]) (by simp[kids]) w3) (fun c1=>?_) hz
    rw[per_if]
    by_cases ca:perOf m F a=0
    ·rw[if_neg (by simp[ca])]
     by_cases cb:perOf m F b=0
     ·rw[if_neg (by simp[cb])]
     ·rw[if_pos cb];exact (k3 cb c1).symm
    ·rw[if_pos ca];exact (k2 ca c1).symm
 ·intro p a b _ _ h hne y hy;simp[nds,eFby] at hy
 ·intro p a k hk2 _ iha h hne y hy
  have ha:=h.kid (by simp[eUnder,eName]) (show a∈kids (eUnder p a k) by simp[kids,eUnder]) (wf_under h.wf)
  have e1:perOf m F (eUnder p a k)=perOf m F a*k:=by
   rw[per_under] at hne ⊢
   split
   ·rfl
   ·rename_i c;rw[if_neg c] at hne;exact absurd rfl hne
  rw[e1] at hne ⊢
  have hpa:perOf m F a≠0:=fun c=>hne (by rw[c,Nat.zero_mul])
  rw[nds_under] at hy
  exact Nat.le_trans (iha ha hpa y hy) (Nat.le_mul_of_pos_right _ (by omega))
 ·intro p a b k _ _ _ _ h hne y hy;simp[nds,eHold] at hy
 ·intro p x a b _ iha ihb h hne y hy
  obtain⟨w1,w2⟩:=wf_least h.wf
  rw[nds_least] at hy
  exact np_two hp iha ihb (h.kid (by simp[eLeast,eName]) (by simp[kids,eLeast]) w1) (h.kid (by simp[eLeast,eName]) (by simp[kids,eLeast]) w2) (per_least p x a b) (pf_none h.wf h.pf).2 hy
end
end Mip
end
section
open Go.RowKit
theorem asks_time {m:Mil.Bytes->Option Int} {F:List Flo} {Q:List Nq} {r:Nat->Nat} (C:Cd m F Q r) {q:Nq} (hq:q∈Q) {i:Nat} (hi:i<=2000):Mip.ask m (fun j' n'=>0<=n'/\(∃x,m x=some j')/\(n'*(perAt F j'.toNat:Nat) < (i:Int)*(perAt F q.flow:Nat)\/(n'*(perAt F j'.toNat:Nat)=(i:Int)*(perAt F q.flow:Nat)/\j'.toNat∈Mip.nds m q.body/\perAt F j'.toNat<=perAt F q.flow))) q.body (i:Nat):=by
 have e1:=C.pe q hq
 have hl:=C.hl q hq
 have hne:Mip.perOf m F q.body≠0:=by rw[e1];exact C.p0 q hq
 have hb:((i:Nat):Int)*(Mip.perOf m F q.body:Nat)<=4611686018427387904:=by
  rw[e1]
  have h1:((i:Nat):Int)*(perAt F q.flow:Nat)<=2000*(perAt F q.flow:Nat):=Int.mul_le_mul_of_nonneg_right (by omega) (by omega)
  have h2:=C.pm q.flow
  omega
 have h:=Mip.at_all C.nm q.body hl.wf hl (i:Nat) (by omega) hne hb
 have hp:=Mip.np_all C.nm q.body hl.wf hl hne
 rw[e1] at h hp
 exact Mip.ask_mono (fun j n k=>⟨k.1,k.2.1,k.2.2.imp id (fun c=>⟨c.1,c.2,hp _ c.2⟩)⟩) _ hl.wf _ h
end
section
open Go.RowKit
namespace Mip
section
variable {m:Mil.Bytes->Option Int} {ρ:Mil.Bytes->Int->Int->Int} {S:Int->Int->Option Int} {d:Int->Int->Prop}
theorem bind_some1 {a:Option Int} {f:Int->Option Int} (h:a.isSome=true) (hf:∀v,(f v).isSome=true):(a.bind f).isSome=true:=by
 obtain⟨v,hv⟩:=Option.isSome_iff_exists.1 h
 rw[hv]
 exact hf v
theorem sm_some (hs:∀j n,d j n->(S j n).isSome=true):∀e:E,Mil.wf (er e) false->∀n:Int,ask m d e n->(sm m ρ S e n).isSome=true:=by
 refine tree_induct ?_ ?_ ?_ ?_ ?_ ?_ ?_ ?_ ?_ ?_
 ·intro p k _ n _;rw[sm_int];rfl
 ·intro p k _ n _;rw[sm_bool];rfl
 ·intro p x _ n h
  rw[ask_name] at h
  rw[sm_name]
  exact hs _ _ h
 ·intro p x a _ iha n h
  rw[ask_pre] at h
  rw[sm_pre]
  exact bind_some1 (iha n h) (fun _=>rfl)
 ·intro p x a b _ iha ihb n h
  rw[ask_two] at h
  rw[sm_two]
  exact bind_some1 (iha n h.1) (fun _=>bind_some1 (ihb n h.2) (fun _=>rfl))
 ·intro p y a b c iha ihb ihc n h
  rw[ask_if] at h
  rw[sm_if]
  exact bind_some1 (iha n h.1) (fun _=>bind_some1 (ihb n h.2.1) (fun _=>bind_some1 (ihc n h.2.2) (fun _=>rfl)))
 ·intro p a b iha ihb n h
  rw[ask_fby] at h
  rw[sm_fby]
  by_cases c:n=0
  ·rw[if_pos c] at h ⊢;exact iha n h
  ·rw[if_neg c] at h ⊢;exact ihb _ h
 ·intro p a k _ _ iha n h
  rw[ask_under] at h
  rw[sm_under]
  exact iha _ h
 ·intro p a b k _ _ iha ihb n h
  rw[ask_hold] at h
  rw[sm_hold]
  by_cases c:n < (k:Nat)
  ·rw[if_pos c] at h ⊢;exact iha n h
  ·rw[if_neg c] at h ⊢;exact ihb _ h
 ·intro p x a b _ iha ihb n h
  rw[ask_least] at h
  rw[sm_least]
  exact bind_some1 (iha n h.1) (fun _=>bind_some1 (ihb n h.2) (fun _=>rfl))
end
end Mip
end
section
open Go.RowKit
namespace Mip
def Okp (nd:Nat->List Nat) (l xs:List Nat):Prop:=∀a e b,xs=a++e::b->∀y∈nd e,y∈l->y∈a
theorem Okp.more {nd:Nat->List Nat} {l xs:List Nat} (h:Okp nd l xs) {g:Nat} (hg:rdy nd l xs g=true):Okp nd l (xs++[g]):=by
 intro a e b he y hy hl
 rcases List.eq_nil_or_concat b with rfl|⟨b',x,rfl⟩
 ·have h1:=List.append_inj' he rfl
  obtain⟨rfl,h2⟩:=h1
  obtain rfl:g=e:=by simpa using h2
  unfold rdy at hg
  simp only[Bool.and_eq_true,List.all_eq_true] at hg
  have:=hg.2 y hy
  simpa [hl] using this
 ·rw[List.concat_eq_append,<-List.cons_append,<-List.append_assoc] at he
  have h1:=List.append_inj' he rfl
  exact h a e b' h1.1 y hy hl
theorem ord_okp {nd:Nat->List Nat} {l:List Nat}:∀(n:Nat) (acc:List Nat),Okp nd l acc->Okp nd l (ord nd l n acc)
 | 0,acc,h=>h
 | n+1,acc,h=>by
  rw[ord]
  cases hf:l.find? (rdy nd l acc) with
  | none=>exact ord_okp n acc h
  | some g=>exact ord_okp n _ (h.more (List.find?_some hf))
end Mip
structure Tp (m:Mil.Bytes->Option Int) (F:List Flo) (Q:List Nq) (r:Nat->Nat) (T:Nat) (pt:Nat->Nat) (O:Nat->List Nat):Prop where
 cd:Cd m F Q r
 fit:∀x k,m x=some k->0<=k/\k.toNat < F.length
 eqf:∀q∈Q,∃f,F[q.flow]?=some f/\f.inp=false
 fe:∀i f,F[i]?=some f->f.inp=false->∃q∈Q,q.flow=i
 pos:∀f∈F,1<=f.per
 up:∀s t,s < t->t < T->pt s < pt t
 all:∀q∈Q,∃t,t < T/\pt t=perAt F q.flow
 ptp:∀t,t < T->1<=pt t
 nd:∀t,t < T->(O t).Nodup
 mem:∀t,t < T->∀e,e∈O t↔∃q∈Q,q.flow=e/\perAt F e=pt t
 pre:∀t,t < T->∀a e b,O t=a++e::b->∀q∈Q,q.flow=e->∀y∈Mip.nds m q.body,y∈O t->y∈a
def ptU (U:List (Nat×Value)) (t:Nat):Nat:=(U[t]?.map Prod.fst).getD 0
theorem ptU_of {U:List (Nat×Value)} {t:Nat} {u:Nat×Value} (h:U[t]?=some u):ptU U t=u.1:=by unfold ptU;rw[h];rfl
theorem tp_ex {N:Nat} {l:List Mip.It} (hi:Items l) (h:okk N l 7) (hQ:(dcl N l).2.Q.length<=60) {r:Nat->Nat} (hC:Cd (dcl N l).2.m (prd N l) (dcl N l).2.Q r) {U:List (Nat×Value)} (up:(U.map Prod.fst).Pairwise (· < ·)) (all:∀p,p∈U.map Prod.fst↔∃q∈(dcl N l).2.Q,perAt (prd N l) q.flow=p) :
  Tp (dcl N l).2.m (prd N l) (dcl N l).2.Q r U.length (ptU U) (fun t=>ordOf (dcl N l).2.m (prd N l) (dcl N l).2.Q (ptU U t)):=by
 have hz:=rz_prd hi (okk_less h (by decide)) hQ
 have hpos:=prd_pos hi (okk_less h (by decide)) hQ
 have hcyc:=cyc_each (h.2.2.2.2.2.2 (by decide))
 have hT:Tks (dcl N l).2.m (prd N l) (dcl N l).2.Q (U.map fun u=>(u.1,ordOf (dcl N l).2.m (prd N l) (dcl N l).2.Q u.1)):=by
  refine⟨?_,fun p=>?_,fun t ht=>?_⟩
  ·rw[List.map_map];exact up
  ·rw[List.map_map];exact all p
  ·obtain⟨u,_,rfl⟩:=List.mem_map.1 ht
   rfl
 have hU:∀t,t < U.length->∃u,U[t]?=some u/\ptU U t=u.1/\(u.1,ordOf (dcl N l).2.m (prd N l) (dcl N l).2.Q u.1)∈U.map fun u=>(u.1,ordOf (dcl N l).2.m (prd N l) (dcl N l).2.Q u.1):=fun t ht=>
  ⟨_,List.getElem?_eq_getElem ht,ptU_of (List.getElem?_eq_getElem ht),List.mem_map.2 ⟨_,List.getElem_mem ht,rfl⟩⟩
 refine⟨hC,fun x k hx=>?_,hz.fq.eqf,hz.fq.fe,fun f hf=>(hpos f hf).1,fun s t hst ht=>?_,fun q hq=>?_,fun t ht=>?_,fun t ht=>?_,fun t ht e=>?_,fun t ht a e b he q hq hqe y hy hyO=>?_⟩
 ·obtain⟨i,rfl,hi⟩:=hz.fq.fit x k hx
  exact⟨by omega,by simpa using hi⟩
 ·have hs:s < U.length:=by omega
  rw[ptU_of (List.getElem?_eq_getElem hs),ptU_of (List.getElem?_eq_getElem ht)]
  have:=List.pairwise_iff_getElem.1 up s t (by simpa using hs) (by simpa using ht) hst
  simpa using this
 ·obtain⟨u,hu,e⟩:=List.mem_map.1 ((all (perAt (prd N l) q.flow)).2 ⟨q,hq,rfl⟩)
  obtain⟨t,ht⟩:=List.getElem?_of_mem hu
  exact⟨t,(lgs ht).1,by rw[ptU_of ht];exact e⟩
 ·obtain⟨u,h1,h2,_⟩:=hU t ht
  rw[h2]
  obtain⟨q,hq,e⟩:=(all u.1).1 (List.mem_map.2 ⟨u,List.mem_of_getElem? h1,rfl⟩)
  rw[<-e]
  have:=hC.p0 q hq
  omega
 ·obtain⟨u,h1,h2,h3⟩:=hU t ht
  show (ordOf _ _ _ (ptU U t)).Nodup
  rw[h2]
  exact (hT.order hz.fq hcyc h3).1
 ·obtain⟨u,h1,h2,h3⟩:=hU t ht
  show e∈ordOf _ _ _ (ptU U t)↔_
  rw[h2]
  exact (hT.order hz.fq hcyc h3).2 e
 ·obtain⟨u,h1,h2,h3⟩:=hU t ht
  have hk:Mip.Okp (ndf (dcl N l).2.m (dcl N l).2.Q) ((part (prd N l) (dcl N l).2.Q (ptU U t)).map Nq.flow) (ordOf (dcl N l).2.m (prd N l) (dcl N l).2.Q (ptU U t)):=Mip.ord_okp _ _ (fun a e b h=>by simp at h)
  refine hk a e b he y ?_ ?_
  ·rw[<-hqe,ndf_of hz.fq.up hq];exact hy
  ·have hy2:y∈ordOf (dcl N l).2.m (prd N l) (dcl N l).2.Q (ptU U t):=hyO
   rw[h2] at hy2 ⊢
   obtain⟨q',hq',e1,e2⟩:=((hT.order hz.fq hcyc h3).2 y).1 hy2
   exact List.mem_map.2 ⟨q',List.mem_filter.2 ⟨hq',by rw[e1];simpa using e2⟩,e1⟩
end
section
open Go.RowKit
theorem hasN_any (o:Option Addr) (n c:Nat) (k:Int) (w:World) {b:Bool} (hb:b=decide (0<=k/\k < (n:Nat))):Calls Tryz.prog 103 #[.slice o n c,.int .i64 k] w fun E w'=>E=.returned (.bool b)/\w=w':=by
 by_cases h0:0<=k
 ·by_cases h1:k < (n:Nat)
  ·have HD:Hid (b=true):=hb.trans (decide_eq_true ⟨h0,h1⟩)
   clear hb
   go_enter Tryz.func103,Tryz.ntmps103
   go_wp2_with fail
   go_ret
   rw[HD.out]
   exact⟨rfl,rfl⟩
  ·have HD:Hid (b=false):=hb.trans (decide_eq_false (fun e=>h1 e.2))
   clear hb
   have h2:(n:Int)<=k:=by omega
   go_enter Tryz.func103,Tryz.ntmps103
   go_wp2_with fail
   go_ret
   rw[HD.out]
   exact⟨rfl,rfl⟩
 ·have HD:Hid (b=false):=hb.trans (decide_eq_false (fun e=>h0 e.1))
  clear hb
  have h2:k < 0:=by omega
  go_enter Tryz.func103,Tryz.ntmps103
  go_wp2_with fail
  go_ret
  rw[HD.out]
  exact⟨rfl,rfl⟩
theorem hasJ_any (o:Option Addr) (n c:Nat) (k:Int) (w:World) {b:Bool} (hb:b=decide (0<=k/\k < (n:Nat))):Calls Tryz.prog 44 #[.slice o n c,.int .i64 k] w fun E w'=>E=.returned (.bool b)/\w=w':=by
 by_cases h0:0<=k
 ·by_cases h1:k < (n:Nat)
  ·have HD:Hid (b=true):=hb.trans (decide_eq_true ⟨h0,h1⟩)
   clear hb
   go_enter Tryz.func44,Tryz.ntmps44
   go_wp2_with fail
   go_ret
   rw[HD.out]
   exact⟨rfl,rfl⟩
  ·have HD:Hid (b=false):=hb.trans (decide_eq_false (fun e=>h1 e.2))
   clear hb
   have h2:(n:Int)<=k:=by omega
   go_enter Tryz.func44,Tryz.ntmps44
   go_wp2_with fail
   go_ret
   rw[HD.out]
   exact⟨rfl,rfl⟩
 ·have HD:Hid (b=false):=hb.trans (decide_eq_false (fun e=>h0 e.1))
  clear hb
  have h2:k < 0:=by omega
  go_enter Tryz.func44,Tryz.ntmps44
  go_wp2_with fail
  go_ret
  rw[HD.out]
  exact⟨rfl,rfl⟩
theorem hasL_any (o:Option Addr) (n c:Nat) (k:Int) (w:World) {b:Bool} (hb:b=decide (0<=k/\k < (n:Nat))):Calls Tryz.prog 43 #[.slice o n c,.int .i64 k] w fun E w'=>E=.returned (.bool b)/\w=w':=by
 by_cases h0:0<=k
 ·by_cases h1:k < (n:Nat)
  ·have HD:Hid (b=true):=hb.trans (decide_eq_true ⟨h0,h1⟩)
   clear hb
   go_enter Tryz.func43,Tryz.ntmps43
   go_wp2_with fail
   go_ret
   rw[HD.out]
   exact⟨rfl,rfl⟩
  ·have HD:Hid (b=false):=hb.trans (decide_eq_false (fun e=>h1 e.2))
   clear hb
   have h2:(n:Int)<=k:=by omega
   go_enter Tryz.func43,Tryz.ntmps43
   go_wp2_with fail
   go_ret
   rw[HD.out]
   exact⟨rfl,rfl⟩
 ·have HD:Hid (b=false):=hb.trans (decide_eq_false (fun e=>h0 e.1))
  clear hb
  have h2:k < 0:=by omega
  go_enter Tryz.func43,Tryz.ntmps43
  go_wp2_with fail
  go_ret
  rw[HD.out]
  exact⟨rfl,rfl⟩
def SL (L:Nat->List Int) (j n:Int):Option Int:=if 0<=n then (L j.toNat)[n.toNat]? else none
def Jq (w:World) (v:Value) (xs:List Nat):Prop:=(xs=[]/\∃o c,v=.slice o 0 c)\/∃g off c,v=.slice (some ⟨g,off,none⟩) xs.length c/\xs.length<=c/\xs.length<=60/\∀(i:Nat) x,xs[i]?=some x->w.cell? ⟨g,off+i,none⟩=some (.int .i64 (x:Nat))
structure Mc (D:Nat->Obj->Prop) (wE:World) (mb lb jb K T:Nat) (fv tv wv:Value) (c:Int) (ov:Bool) (L:Nat->List Int) (J:Nat->List Nat) (fn jn:Nat->Value) (w:World):Prop where
 be:Below wE.heap.size wE w
 m0:w.heap[mb]?=some (.cells #[fv,tv,wv,.int .i64 c,.bool ov,.slice (some ⟨lb,0,none⟩) K K,.slice (some ⟨jb,0,none⟩) T T] 101 (0,0))
 row:w.rowIs lb 35 K fn
 jrow:w.rowIs jb 70 T jn
 lo1:wE.heap.size<=mb
 lo2:wE.heap.size<=lb
 lo3:wE.heap.size<=jb
 log:∀j,j < K->(L j).length<=2001/\Nl w wE.heap.size (fn j) (L j)
 ap:∀j k g,j < K->k < K->(fn j).ownBlock=some g->(fn k).ownBlock=some g->j=k
 job:∀t,t < T->Jq wE (jn t) (J t)
 kp:∀b o,D b o->w.heap[b]?=some o/\b≠mb/\b≠lb/\b≠jb/\∀j,j < K->(fn j).ownBlock≠some b
theorem Mc.below {D:Nat->Obj->Prop} {wE:World} {mb lb jb K T:Nat} {fv tv wv:Value} {c:Int} {ov:Bool} {L:Nat->List Int} {J:Nat->List Nat} {fn jn:Nat->Value} {w w':World} (h:Mc D wE mb lb jb K T fv tv wv c ov L J fn jn w) (k:Below w.heap.size w w'):Mc D wE mb lb jb K T fv tv wv c ov L J fn jn w':=by
 refine⟨h.be.trans (k.mono h.be.size),(k.block _ (lt_of_heap h.m0)).trans h.m0,h.row.of_block (k.block _ h.row.lt),h.jrow.of_block (k.block _ h.jrow.lt),h.lo1,h.lo2,h.lo3,fun j hj=>?_,h.ap,h.job,fun b o hb=>⟨(k.block b (lt_of_heap (h.kp b o hb).1)).trans (h.kp b o hb).1,(h.kp b o hb).2⟩⟩
 obtain⟨h0,h1⟩:=h.log j hj
 exact⟨h0,own_kept h1 (fun g hg=>k.block g (lt_of_heap (own_lt h1 g hg).2.choose_spec))⟩
theorem Mc.and {D:Nat->Obj->Prop} {wE:World} {mb lb jb K T:Nat} {fv tv wv:Value} {c:Int} {ov:Bool} {L:Nat->List Int} {J:Nat->List Nat} {fn jn:Nat->Value} {w w':World} (h:Mc D wE mb lb jb K T fv tv wv c ov L J fn jn w) (k:Below w.heap.size w w') {D':Nat->Obj->Prop} (hD:∀b o,D' b o->w.heap.size<=b/\w'.heap[b]?=some o):Mc (fun b o=>D b o\/D' b o) wE mb lb jb K T fv tv wv c ov L J fn jn w':=by
 have h':=h.below k
 refine⟨h'.be,h'.m0,h'.row,h'.jrow,h'.lo1,h'.lo2,h'.lo3,h'.log,h'.ap,h'.job,fun b o hb=>?_⟩
 rcases hb with hb|hb
 ·exact h'.kp b o hb
 ·obtain⟨h1,h2⟩:=hD b o hb
  have n1:=lt_of_heap h.m0
  have n2:=h.row.lt
  have n3:=h.jrow.lt
  refine⟨h2,by omega,by omega,by omega,fun j hj e=>?_⟩
  have:=lt_of_heap (own_lt (h.log j hj).2 b e).2.choose_spec
  omega
theorem Jq.shape {w:World} {v:Value} {xs:List Nat} (h:Jq w v xs):∃o c,v=.slice o xs.length c:=by
 rcases h with ⟨rfl,o,c,rfl⟩|⟨g,off,c,rfl,_⟩
 ·exact⟨o,c,rfl⟩
 ·exact⟨_,c,rfl⟩
section
variable {D:Nat->Obj->Prop} {wE:World} {mb lb jb K T:Nat} {fv tv wv:Value} {c:Int} {ov:Bool} {L:Nat->List Int} {J:Nat->List Nat} {fn jn:Nat->Value} {w:World}
theorem Mc.cells (h:Mc D wE mb lb jb K T fv tv wv c ov L J fn jn w):w.cell? ⟨mb,0,none⟩=some fv/\w.cell? ⟨mb,1,none⟩=some tv/\w.cell? ⟨mb,2,none⟩=some wv/\w.cell? ⟨mb,3,none⟩=some (.int .i64 c)/\w.cell? ⟨mb,4,none⟩=some (.bool ov)/\w.cell? ⟨mb,5,none⟩=some (.slice (some ⟨lb,0,none⟩) K K)/\w.cell? ⟨mb,6,none⟩=some (.slice (some ⟨jb,0,none⟩) T T):=
 ⟨(cor w mb 0 _ _ _ h.m0).trans rfl,(cor w mb 1 _ _ _ h.m0).trans rfl,(cor w mb 2 _ _ _ h.m0).trans rfl,(cor w mb 3 _ _ _ h.m0).trans rfl,(cor w mb 4 _ _ _ h.m0).trans rfl,(cor w mb 5 _ _ _ h.m0).trans rfl,(cor w mb 6 _ _ _ h.m0).trans rfl⟩
theorem mat_any (h:Mc D wE mb lb jb K T fv tv wv c ov L J fn jn w) {j n:Int} (hj:0<=j) (hk:j.toNat < K) :
  Calls Tryz.prog 72 #[.pointer (some ⟨mb,0,none⟩),.int .i64 j,.int .i64 n] w fun E w'=>w=w'/\∃x,E=.returned (.tuple #[.int .i64 x,.bool (SL L j n).isSome])/\∀v,SL L j n=some v->x=v:=by
 obtain⟨_,_,_,_,_,c5,_⟩:=h.cells
 obtain⟨hlen,hnl⟩:=h.log j.toNat hk
 obtain⟨o,cl,hfn⟩:=own_shape hnl
 have cj:w.cell? ⟨lb,j.toNat,none⟩=some (.slice o (L j.toNat).length cl):=by rw[h.row.cell hk,hfn]
 have HO:Hid (Nl w wE.heap.size (.slice o (L j.toNat).length cl) (L j.toNat)):=by
  show World.ownsRow _ _ _ _ _ _ _
  rw[<-hfn];exact hnl
 have hjk:j < (K:Int):=by omega
 have HL:Hid (j.toNat < K):=hk
 have HH:Hid (∀w b,b=decide (0<=n/\n < ((L j.toNat).length:Nat))->Calls Tryz.prog 103 #[.slice o (L j.toNat).length cl,.int .i64 n] w fun E w'=>E=.returned (.bool b)/\w=w'):=fun w b hb=>hasN_any o _ cl n w hb
 clear h hlen hnl hfn hk
 go_enter Tryz.func72,Tryz.ntmps72
 go_wp2_with fail
 by_cases h1:0<=n/\n < ((L j.toNat).length:Nat)
 ·refine (HH.out _ true (decide_eq_true h1).symm).mono ?_
  rintro E w1 ⟨rfl,rfl⟩
  obtain⟨h1,h2⟩:=h1
  obtain⟨x,hx⟩:∃x,(L j.toNat)[n.toNat]?=some x:=⟨_,List.getElem?_eq_getElem (by omega)⟩
  have HX:Hid (SL L j n=some x):=by
   show _=_
   unfold SL
   rw[if_pos h1,hx]
  obtain⟨g,hoj⟩:∃g,o=some ⟨g,0,none⟩:=by
   rcases HO.out.2 with ⟨e,e'⟩|⟨g,cap,cur,e,_⟩
   ·have:=(lgs hx).1;omega
   ·injection e with e1;exact⟨g,e1⟩
  subst hoj
  have cx:w.cell? ⟨g,n.toNat,none⟩=some (.int .i64 x):=nl_cell HO.out hx
  clear hx HO
  go_wp2
  go_ret2
  refine⟨rfl,x,by rw[HX.out];rfl,fun v hv=>?_⟩
  rw[HX.out] at hv
  exact osi hv
 ·refine (HH.out _ false (decide_eq_false h1).symm).mono ?_
  rintro E w1 ⟨rfl,rfl⟩
  have HX:Hid (SL L j n=none):=by
   show _=_
   unfold SL
   by_cases h0:0<=n
   ·rw[if_pos h0,List.getElem?_eq_none (by omega)]
   ·rw[if_neg h0]
  clear h1 HO
  go_wp2
  go_ret2
  exact⟨rfl,0,by rw[HX.out];rfl,fun v hv=>by rw[HX.out] at hv;cases hv⟩
theorem overrun_any (h:Mc D wE mb lb jb K T fv tv wv c ov L J fn jn w) :
  Calls Tryz.prog 25 #[.pointer (some ⟨mb,0,none⟩)] w fun E w'=>E=.returned (.bool ov)/\w=w':=by
 obtain⟨_,_,_,_,c4,_,_⟩:=h.cells
 clear h
 go_enter Tryz.func25,Tryz.ntmps25
 go_wp2
 go_ret
 exact⟨rfl,rfl⟩
theorem busy_any (h:Mc D wE mb lb jb K T fv tv wv c ov L J fn jn w) {t:Nat} (ht:t < T) :
  Calls Tryz.prog 42 #[.pointer (some ⟨mb,0,none⟩),.int .i64 (t:Nat)] w fun E w'=>E=.returned (.bool (!(J t).isEmpty))/\w=w':=by
 obtain⟨_,_,_,_,_,_,c6⟩:=h.cells
 obtain⟨o,cj,hs⟩:=(h.job t ht).shape
 have ct:w.cell? ⟨jb,t,none⟩=some (.slice o (J t).length cj):=by rw[h.jrow.cell ht,hs]
 have h0:(0:Int)<=(t:Int):=by omega
 have h1:(t:Int) < (T:Int):=by omega
 have HH:Hid (∀w,Calls Tryz.prog 44 #[.slice (some ⟨jb,0,none⟩) T T,.int .i64 (t:Nat)] w fun E w'=>E=.returned (.bool true)/\w=w'):=fun w=>hasJ_any _ _ _ _ w (decide_eq_true ⟨h0,h1⟩).symm
 have HE:Hid ((!(J t).isEmpty)=decide (0 < (J t).length)):=by
  show _=_
  cases J t with
  | nil=>rfl
  | cons x r=>symm;simp
 clear h hs
 go_enter Tryz.func42,Tryz.ntmps42
 go_wp2_with (go_at_call 44;refine (HH.out _).mono ?_;rintro E w1 ⟨rfl,rfl⟩)
 go_ret
 exact⟨by rw[HE.out];rfl,rfl⟩
end
end
end Go.Proofs.YtjehljjlcifndaaGreatDoor
