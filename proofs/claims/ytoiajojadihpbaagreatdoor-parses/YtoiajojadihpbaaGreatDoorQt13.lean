import Derived.Test.YtoiajojadihpbaaGreatDoorRows
import Derived.Test.YtoiajojadihpbaaGreatDoorQt01
import Derived.Test.YtoiajojadihpbaaGreatDoorQt12
import Derived.Test.YtoiajojadihpbaaGreatDoorQt05
import Derived.Test.YtoiajojadihpbaaGreatDoorQt09
namespace Go.Proofs.YtoiajojadihpbaaGreatDoor
set_option maxHeartbeats 8000000
set_option maxRecDepth 100000
section
open Go Go.RowKit
theorem starE : "*" ++ "errors.errorString" = "*errors.errorString" := by decide
theorem rowE (u : TypeId) (h : Tryz.prog.typeName? 3 u = some "*errors.errorString") : u = 312 :=
 typeName_ptr_named (nm := "errors.errorString") (by rw [starE]; kernel_rfl) (by kernel_rfl) (by decide) u (by rw [starE]; exact h)
theorem cellsES:Tryz.prog.cellsOf 314=1:=by kernel_rfl
theorem cellsStr:Tryz.prog.cellsOf 9=1:=by kernel_rfl
abbrev nums:List Nat:=[22,21,0,7,8,5,9,10,11,12,13,14,15,16,17]
def sents : List (String × DataW Unit) := [("strconv.ErrRange", Rows.laid_strconv_ErrRange), ("strconv.ErrSyntax", Rows.laid_strconv_ErrSyntax), ("ratemill/mill.ErrLong", Rows.laid_ratemill_mill_ErrLong), ("ratemill/mill.ErrToken", Rows.laid_ratemill_mill_ErrToken), ("ratemill/mill.ErrSyntax", Rows.laid_ratemill_mill_ErrSyntax), ("ratemill/mill.ErrMany", Rows.laid_ratemill_mill_ErrMany), ("ratemill/mill.ErrTwice", Rows.laid_ratemill_mill_ErrTwice), ("ratemill/mill.ErrName", Rows.laid_ratemill_mill_ErrName), ("ratemill/mill.ErrType", Rows.laid_ratemill_mill_ErrType), ("ratemill/mill.ErrPeriod", Rows.laid_ratemill_mill_ErrPeriod), ("ratemill/mill.ErrFree", Rows.laid_ratemill_mill_ErrFree), ("ratemill/mill.ErrCycle", Rows.laid_ratemill_mill_ErrCycle), ("ratemill/mill.ErrFlow", Rows.laid_ratemill_mill_ErrFlow), ("ratemill/mill.ErrInputs", Rows.laid_ratemill_mill_ErrInputs), ("ratemill/mill.ErrOverrun", Rows.laid_ratemill_mill_ErrOverrun)]
def isSent:String×DataW Unit->Bool
 | (n, .iface _ (.ptr _)) => !(n == "ratemill/reg.ErrKind" || n == "ratemill/reg.ErrWidth" || n == "ratemill/reg.ErrBusy" || n == "ratemill/reg.ErrIdle")
 | _=>false
def isOne (n:String) (x:String×DataW Unit):Bool:=x.1==n
abbrev plains:List (String×DataW Unit):=Rows.parsesRow.laid.filter fun x=>x.2.handleName?.isNone
theorem plains_sents:plains.filter isSent=sents:=by kernel_rfl
theorem plains_words : plains.filter (isOne "ratemill/mill.words") = [("ratemill/mill.words", .agg (Mil.words.map fun x => .lit (.string x)))] := by kernel_rfl
theorem plains_signs : plains.filter (isOne "ratemill/mill.signs") = [("ratemill/mill.signs", .agg (Mil.signs.map fun x => .lit (.string x)))] := by kernel_rfl
theorem plains_types : plains.filter (isOne "ratemill/mill.typeWords") = [("ratemill/mill.typeWords", .agg ([Mil.wInt, Mil.wBool].map fun x => .lit (.string x)))] := by kernel_rfl
theorem plains_ops : plains.filter (isOne "ratemill/mill.operators") = [("ratemill/mill.operators", .agg (opsTab.map fun x => .agg [.lit (.string x.1), .lit (.int .i64 x.2)]))] := by kernel_rfl
theorem plains_pow : plains.filter (isOne "internal/strconv.uint64pow10") = [("internal/strconv.uint64pow10", Lib.tabData .u64 Lib.pow10Tab)] := by kernel_rfl
theorem plains_last : (plains.filter (isOne "math/bits.deBruijn64tab")).map (·.1) = ["math/bits.deBruijn64tab"] := by kernel_rfl
theorem fit : FitErrs Tryz.prog 90 "*errors.errorString" sents nums :=
 ⟨⟨_,rfl⟩,by kernel_rfl,by kernel_rfl,⟨_,rfl⟩,by kernel_rfl,by kernel_rfl,⟨_,rfl⟩,by kernel_rfl,by kernel_rfl,⟨_,rfl⟩,by kernel_rfl,by kernel_rfl,⟨_,rfl⟩,by kernel_rfl,by kernel_rfl,⟨_,rfl⟩,by kernel_rfl,by kernel_rfl,⟨_,rfl⟩,by kernel_rfl,by kernel_rfl,⟨_,rfl⟩,by kernel_rfl,by kernel_rfl,⟨_,rfl⟩,by kernel_rfl,by kernel_rfl,⟨_,rfl⟩,by kernel_rfl,by kernel_rfl,⟨_,rfl⟩,by kernel_rfl,by kernel_rfl,⟨_,rfl⟩,by kernel_rfl,by kernel_rfl,⟨_,rfl⟩,by kernel_rfl,by kernel_rfl,⟨_,rfl⟩,by kernel_rfl,by kernel_rfl,⟨_,rfl⟩,by kernel_rfl,by kernel_rfl,trivial⟩
theorem kEt : Tryz.prog.globalNamed "errors.errorType" = some 6 := by kernel_rfl
theorem kRt : (Tryz.prog.cutTypes.find? (·.1 == "internal/reflectlite.rtype")).map (·.2) = some 245 := by kernel_rfl
theorem kOneRow:((List.range 365).filter fun t=>Tryz.prog.rowNamed t [101,114,114,111,114])=[90]:=by kernel_rfl
theorem kTypes:Tryz.prog.types.size=365:=by kernel_rfl
theorem handles_are : (Rows.parsesRow.laid.filter fun x => x.2.handleName?.isSome) = [("errors.errorType", Rows.laid_errors_errorType)] := by kernel_rfl
theorem et_of {W : World} (h : handlesMet Tryz.prog [("errors.errorType", Rows.laid_errors_errorType)] W) : W.cell? ⟨6, 0, none⟩ = some eTy := by
 obtain⟨name,u,ty,e1,e2,e3,e4,e5⟩:=h _ (List.mem_singleton.2 rfl)
 have en:name=[101,114,114,111,114]:=(osi e1).symm
 subst en
 obtain rfl:=osi (kRt.symm.trans e2)
 have hm:ty∈(List.range 365).filter fun t=>Tryz.prog.rowNamed t [101,114,114,111,114]:=List.mem_filter.2 ⟨List.mem_range.2 (by rw[<-kTypes];exact e3),e4⟩
 rw[kOneRow] at hm
 obtain rfl:=List.mem_singleton.1 hm
 have hh:typeHandle Tryz.prog 90=.pointer (some ⟨28,90,none⟩):=by kernel_rfl
 rw[hh] at e5
 simpa using World.var?_cell kEt e5 0
theorem lt_of_last {W:World} {n:String} {g:Nat} {l:List (String×DataW Unit)} (hl:l.map (·.1)=[n]) (hg:Tryz.prog.globalNamed n=some g) (h:laidMet Tryz.prog l W):g < W.heap.size:=by
 match l,hl with
 | [x],hl=>
  obtain⟨ps,⟨g',t',cs,fuel,p,q,hg',ht',hvar,_⟩,_⟩:=h
  have e:x.1=n:=by simpa using hl
  rw[e] at hg' hvar
  obtain rfl:=osi (hg.symm.trans hg')
  unfold World.var? at hvar
  rw[hg,Option.bind_some] at hvar
  rcases Nat.lt_or_ge g W.heap.size with h'|h'
  ·exact h'
  ·rw[Array.getElem?_eq_none h'] at hvar
   cases hvar
theorem of_laid {W:World} (h:laidMetH Tryz.prog Rows.parsesRow.laid W) :
  ∃(al a:Nat->Addr),Errs al W/\Pl a W/\a 1=al 0/\a 2=al 1/\a 3=al 2/\a 4=al 3/\∀i k,k < i->i < 13->al k≠al i:=by
 obtain⟨h1,h2⟩:=laidMetH_iff.1 h
 rw[handles_are] at h2
 have hE:=et_of h2
 have hS:laidMet Tryz.prog sents W:=by have:=h1.filter isSent;rw[plains_sents] at this;exact this
 have hw := h1.filter (isOne "ratemill/mill.words")
 rw[plains_words] at hw
 have hg := h1.filter (isOne "ratemill/mill.signs")
 rw[plains_signs] at hg
 have ht := h1.filter (isOne "ratemill/mill.typeWords")
 rw[plains_types] at ht
 have ho := h1.filter (isOne "ratemill/mill.operators")
 rw[plains_ops] at ho
 have hp := h1.filter (isOne "internal/strconv.uint64pow10")
 rw[plains_pow] at hp
 have hl:27<=W.heap.size:=by
  have := lt_of_last plains_last (g := 27 - 1) (by kernel_rfl) (h1.filter (isOne "math/bits.deBruijn64tab"))
  omega
 have qw:=strs_of_laid Mil.words (g:=18) (t:=267) (by kernel_rfl) (by kernel_rfl) Tryz.underlying267 Tryz.underlying9 cellsStr (by kernel_rfl) rfl (by decide) hw
 have qg:=strs_of_laid Mil.signs (g:=19) (t:=269) (by kernel_rfl) (by kernel_rfl) Tryz.underlying269 Tryz.underlying9 cellsStr (by kernel_rfl) rfl (by decide) hg
 have qt:=strs_of_laid [Mil.wInt,Mil.wBool] (g:=20) (t:=273) (by kernel_rfl) (by kernel_rfl) Tryz.underlying273 Tryz.underlying9 cellsStr (by kernel_rfl) rfl (by decide) ht
 have qo:=pairs_of_laid opsTab (g:=23) (t:=311) (by kernel_rfl) (by kernel_rfl) Tryz.underlying311 Tryz.underlying310 rfl rfl Tryz.underlying9 Tryz.underlying3 cellsStr (by kernel_rfl) (by kernel_rfl) (by kernel_rfl) rfl (by decide) ho
 have qp : Lib.TabIs Tryz.prog W "internal/strconv.uint64pow10" .u64 Lib.pow10Tab := Lib.tabIs_of_head (g := 24) (t := 321) (by kernel_rfl) (by kernel_rfl) Tryz.underlying321 Tryz.underlying177 (by kernel_rfl) (by kernel_rfl) hp
 obtain⟨ps,hv,hnd,hrows⟩:=hS
 obtain⟨xs,hold,_⟩:=errs_of_laid Tryz.underlying90 rowE Tryz.underlying312 Tryz.underlying314 rfl rfl Tryz.underlying9 cellsES cellsStr sents nums ps fit hv hnd hrows
 have hlen:xs.length=15:=hold_len xs nums hold
 have at_:∀i,i < 15->W.cell? ⟨nums.getD i 0,0,none⟩=some (errV (xs.getD i ⟨0,0,none⟩)):=fun i hi=>(hold_at ⟨0,0,none⟩ xs nums hold i (by omega)).1
 refine⟨fun i=>xs.getD (i+2) ⟨0,0,none⟩,fun k=>if k=5 then xs.getD 0 ⟨0,0,none⟩ else xs.getD (k+1) ⟨0,0,none⟩,?_,⟨?_,qp⟩,rfl,rfl,rfl,rfl,?_⟩
 ·exact⟨hl,at_ 2 (by decide),at_ 3 (by decide),at_ 4 (by decide),at_ 5 (by decide),at_ 6 (by decide),at_ 7 (by decide),at_ 8 (by decide),at_ 9 (by decide),at_ 10 (by decide),at_ 11 (by decide),at_ 12 (by decide),at_ 13 (by decide),at_ 14 (by decide),
   fun i hi=>(hold_at ⟨0,0,none⟩ xs nums hold (i+2) (by omega)).2,hE⟩
 ·exact⟨hl,at_ 2 (by decide),at_ 3 (by decide),at_ 4 (by decide),at_ 5 (by decide),qw,qg,qt,qo,at_ 0 (by decide)⟩
 ·intro i k hk hi
  exact hold_ne ⟨0,0,none⟩ xs nums hold (i+2) (k+2) (by omega) (by omega)
end
section
namespace Mil
theorem adv_le {s s1:St} (h:adv s=some s1):mu s1<=mu s:=by
 by_cases hk:s.tok.kind=0
 ·unfold adv adv' at h
  have hsk:=skip_short false s.rest
  unfold mu
  rw[if_pos hk]
  split at h
  ·cases h
  ·rename_i t r hc
   cases hq:skip false s.rest with
   | nil=>
    rw[hq] at hc
    obtain⟨rfl,rfl⟩:=Prod.mk.inj (osi hc)
    rw[if_pos rfl] at h
    obtain rfl:=(osi h).symm
    simp
   | cons c q=>
    rw[hq] at hc hsk
    have hr:=cut_short hc
    simp at hsk
    by_cases h0:t.kind=0
    ·rw[if_pos h0] at h
     obtain rfl:=(osi h).symm
     simp only[h0,if_true]
     omega
    ·rw[if_neg h0] at h
     split at h
     ·cases h
     ·obtain rfl:=(osi h).symm
      simp only[h0,if_false]
      omega
 ·exact Nat.le_of_lt (adv_mu h hk)
def Dn (s:St) (o:Option (E×St)):Prop:=∀x,o=some x->mu x.2<=mu s
def Fd (f:Nat->E->St->Option (E×St)):Prop:=∀t e s,Dn s (f t e s)
theorem dn_adv {s:St} {k:St->Option (E×St)} (h:∀s1,Dn s1 (k s1)):Dn s ((adv s).bind k):=fun x hx=>by
 obtain⟨s1,h1,h2⟩:=obs hx
 exact Nat.le_trans (h s1 x h2) (adv_le h1)
theorem dn_want {s:St} {w:Bytes} {k:St->Option (E×St)} (h:∀s1,Dn s1 (k s1)):Dn s ((want s w).bind k):=fun x hx=>by
 obtain⟨s1,h1,h2⟩:=obs hx
 exact Nat.le_trans (h s1 x h2) (Nat.le_of_lt (want_mu h1))
theorem dn_wantm {s:St} {w:Bytes} {e:E}:Dn s ((want s w).map fun s3=>(e,s3)):=fun x hx=>by
 obtain⟨s1,h1,rfl⟩:=oms hx
 exact Nat.le_of_lt (want_mu h1)
theorem dn_const {s:St} {k:E×St->Option (E×St)} (h:∀c,Dn c.2 (k c)):Dn s ((constant s).bind k):=fun x hx=>by
 obtain⟨c,h1,h2⟩:=obs hx
 exact Nat.le_trans (h c x h2) (Nat.le_of_lt (constant_mu h1))
theorem dn_num {s:St} {lo hi:Int} {k:Nat×St->Option (E×St)} (h:∀c,Dn c.2 (k c)):Dn s ((number lo hi s).bind k):=fun x hx=>by
 obtain⟨c,h1,h2⟩:=obs hx
 exact Nat.le_trans (h c x h2) (Nat.le_of_lt (number_mu h1))
theorem dn_f {f:Nat->E->St->Option (E×St)} (hf:Fd f) {t:Nat} {e:E} {s:St} {k:E×St->Option (E×St)} (h:∀c,Dn c.2 (k c)):Dn s ((f t e s).bind k):=fun x hx=>by
 obtain⟨c,h1,h2⟩:=obs hx
 exact Nat.le_trans (h c x h2) (hf t e s c h1)
theorem dn_fm {f:Nat->E->St->Option (E×St)} (hf:Fd f) {t:Nat} {e:E} {s:St} {g:E×St->E}:Dn s ((f t e s).map fun c=>(g c,c.2)):=fun x hx=>by
 obtain⟨c,h1,rfl⟩:=oms hx
 exact hf t e s c h1
theorem dn_ite {c:Prop} [Decidable c] {s:St} {a b:Option (E×St)} (h1:Dn s a) (h2:Dn s b):Dn s (if c then a else b):=by
 by_cases h:c
 ·rw[if_pos h];exact h1
 ·rw[if_neg h];exact h2
theorem dn_lit {s:St}:Dn s (literal s):=fun _ h=>Nat.le_of_lt (literal_mu h)
theorem dn_name {s:St}:Dn s ((name s).map fun x=>(eName x.1,x.2)):=fun x hx=>by
 obtain⟨c,h1,rfl⟩:=oms hx
 exact Nat.le_of_lt (name_mu h1)
theorem dn_some {s:St} {e:E}:Dn s (some (e,s)):=fun x hx=>by
 obtain rfl:=osi hx
 exact Nat.le_refl _
theorem step_mu {f:Nat->E->St->Option (E×St)} (hf:Fd f):Fd (step f):=by
 intro t e s
 unfold step atom
 repeat' first|exact hf _ _ _|exact dn_lit|exact dn_name|exact dn_wantm|exact dn_fm hf|exact dn_some|refine dn_ite ?_ ?_|refine dn_adv (fun _=>?_)|refine dn_want (fun _=>?_)|refine dn_const (fun _=>?_)|refine dn_num (fun _=>?_)|refine dn_f hf (fun _=>?_)
theorem px_mu:∀n,Fd (px n)
 | 0=>fun _ _ _ _ h=>by cases h
 | n+1=>step_mu (px_mu n)
theorem ok_mu {t:Nat} {e:E} {s:St} {x:E×St} (h:Ok t e s x):mu x.2<=mu s:=by
 obtain⟨n,hn⟩:=h
 exact px_mu n t e s x hn
end Mil
end
section
open Go.RowKit
def MEC (a:Nat->Addr) (b:Nat) (s:ByteArray) (st:Mil.St):Prop:=∀w,Laid a w->RdS w b s st ->
 Calls Tryz.prog 158 #[.pointer (some ⟨b,0,none⟩)] w (ExPost (fun x t=>Mil.Ok 0 Mil.eNil st (x,t)) (Mil.Bad s.size 0 Mil.eNil st) a b s w)
def MOC (a:Nat->Addr) (b:Nat) (s:ByteArray) (l:Nat) (st:Mil.St):Prop:=∀w,Laid a w->RdS w b s st ->
 Calls Tryz.prog 165 #[.pointer (some ⟨b,0,none⟩),.int .i64 l] w (ExPost (fun x t=>Mil.Ok l Mil.eNil st (x,t)) (Mil.Bad s.size l Mil.eNil st) a b s w)
def MAC (a:Nat->Addr) (b:Nat) (s:ByteArray) (st:Mil.St):Prop:=∀w,Laid a w->RdS w b s st ->
 Calls Tryz.prog 171 #[.pointer (some ⟨b,0,none⟩)] w (ExPost (fun x t=>Mil.Ok 8 Mil.eNil st (x,t)) (Mil.Bad s.size 8 Mil.eNil st) a b s w)
theorem expression_any (a:Nat->Addr) (b:Nat) (s:ByteArray) (hb:27<=b) (hs:s.size<=4000) (st:Mil.St) (ih:∀t,Mil.mu t < Mil.mu st->MEC a b s t) (io:MOC a b s 1 st):MEC a b s st:=by
 intro w L h
 have H:=hid h
 have HL:=hid L
 have IH:=hid ih
 have HIO:=hid io
 clear h L ih io
 by_cases hI:Mil.sees st Mil.wIf=true
 ·have HI:=hid hI
  have HK3:Hid (st.tok.kind≠0):=by show _≠_;rw[(Mil.sees_kind3 hI).1];decide
  clear hI
  go_enter Tryz.func158,Tryz.ntmps158
  go_wp2_with fail
  refine (takes_yes a b s st (bs Mil.wIf) _ HL.out hb H.out hs HI.out).mono ?_
  rintro e w1 ⟨kk1,(⟨s1,rfl,g1,r1⟩|⟨k,at_,hkk,d,rfl,hd,hno⟩)⟩
  ·have hk1:=kk1
   have G1:=hid g1
   have M1:Hid (Mil.mu s1 < Mil.mu st):=Mil.adv_mu g1 HK3.out
   clear g1 kk1
   go_wp2_with fail
   refine (IH.out s1 M1.out _ (HL.out.kept hk1 hb) r1).mono ?_
   rintro e w2 ⟨kk2,(⟨x2,s2,ty2,y2,rfl,e2,g2,r2⟩|⟨k,at_,hkk,d,rfl,hd,hno⟩)⟩
   ·have hk2:=hk1.trans kk2
    have G2:=hid g2
    have E2:=hid e2
    have M2:Hid (Mil.mu s2 < Mil.mu st):=Nat.lt_of_le_of_lt (Mil.ok_mu g2) M1.out
    clear g2 kk2 e2
    go_wp2_with fail
    refine (want_any a b s s2 (bs Mil.wThen) _ (HL.out.kept hk2 hb) hb r2 hs).mono ?_
    rintro e w3 ⟨kk3,(⟨s3,rfl,g3,r3⟩|⟨k,at_,hkk,d,rfl,hd,hno⟩)⟩
    ·have hk3:=hk2.trans kk3
     have G3:=hid g3
     have M3:Hid (Mil.mu s3 < Mil.mu st):=Nat.lt_trans (Mil.want_mu g3) M2.out
     clear g3 kk3
     go_wp2_with fail
     refine (IH.out s3 M3.out _ (HL.out.kept hk3 hb) r3).mono ?_
     rintro e w4 ⟨kk4,(⟨x4,s4,ty4,y4,rfl,e4,g4,r4⟩|⟨k,at_,hkk,d,rfl,hd,hno⟩)⟩
     ·have hk4:=hk3.trans kk4
      have G4:=hid g4
      have E4:=hid e4
      have M4:Hid (Mil.mu s4 < Mil.mu st):=Nat.lt_of_le_of_lt (Mil.ok_mu g4) M3.out
      clear g4 kk4 e4
      go_wp2_with fail
      refine (want_any a b s s4 (bs Mil.wElse) _ (HL.out.kept hk4 hb) hb r4 hs).mono ?_
      rintro e w5 ⟨kk5,(⟨s5,rfl,g5,r5⟩|⟨k,at_,hkk,d,rfl,hd,hno⟩)⟩
      ·have hk5:=hk4.trans kk5
       have G5:=hid g5
       have M5:Hid (Mil.mu s5 < Mil.mu st):=Nat.lt_trans (Mil.want_mu g5) M4.out
       clear g5 kk5
       go_wp2_with fail
       refine (IH.out s5 M5.out _ (HL.out.kept hk5 hb) r5).mono ?_
       rintro e w6 ⟨kk6,(⟨x6,s6,ty6,y6,rfl,e6,g6,r6⟩|⟨k,at_,hkk,d,rfl,hd,hno⟩)⟩
       ·have hk6:=hk5.trans kk6
        have G6:=hid g6
        have E6:=hid e6
        have M6:Hid (Mil.mu s6 < Mil.mu st):=Nat.lt_of_le_of_lt (Mil.ok_mu g6) M5.out
        clear g6 kk6 e6
        go_wp2
        go_ret
        refine⟨hk6,Or.inl ⟨Mil.eIf x2 x4 x6,s6,_,_,rfl,?_,?_,r6⟩⟩
        ·show Value.iface _ (.agg #[ev x2,ev x4,ev x6])=_
         rw[E2.out,E4.out,E6.out]
        ·exact Mil.ok_if HI.out G1.out G2.out G3.out G4.out G5.out G6.out
       ·go_wp2
        refine⟨rfl,hk5.trans kk6,Or.inr ⟨k,at_,hkk,d,rfl,hd,?_⟩⟩
        exact Mil.bad_if HI.out (Or.inr ⟨_,G1.out,Or.inr ⟨_,G2.out,Or.inr ⟨_,G3.out,Or.inr ⟨_,G4.out,Or.inr ⟨_,G5.out,hno⟩⟩⟩⟩⟩)
      ·go_wp2
       refine⟨rfl,hk4.trans kk5,Or.inr ⟨k,at_,hkk,d,rfl,hd,?_⟩⟩
       exact Mil.bad_if HI.out (Or.inr ⟨_,G1.out,Or.inr ⟨_,G2.out,Or.inr ⟨_,G3.out,Or.inr ⟨_,G4.out,Or.inl hno⟩⟩⟩⟩)
     ·go_wp2
      refine⟨rfl,hk3.trans kk4,Or.inr ⟨k,at_,hkk,d,rfl,hd,?_⟩⟩
      exact Mil.bad_if HI.out (Or.inr ⟨_,G1.out,Or.inr ⟨_,G2.out,Or.inr ⟨_,G3.out,Or.inl hno⟩⟩⟩)
    ·go_wp2
     refine⟨rfl,hk2.trans kk3,Or.inr ⟨k,at_,hkk,d,rfl,hd,?_⟩⟩
     exact Mil.bad_if HI.out (Or.inr ⟨_,G1.out,Or.inr ⟨_,G2.out,Or.inl hno⟩⟩)
   ·go_wp2
    refine⟨rfl,hk1.trans kk2,Or.inr ⟨k,at_,hkk,d,rfl,hd,?_⟩⟩
    exact Mil.bad_if HI.out (Or.inr ⟨_,G1.out,Or.inl hno⟩)
  ·go_wp2
   refine⟨rfl,kk1,Or.inr ⟨k,at_,hkk,d,rfl,hd,?_⟩⟩
   exact Mil.bad_if HI.out (Or.inl hno)
 ·have HI:Hid (Mil.sees st (bs Mil.wIf).data.toList=false):=Bool.eq_false_iff.2 hI
  clear hI
  go_enter Tryz.func158,Tryz.ntmps158
  go_wp2_with fail
  refine (takes_no b s st (bs Mil.wIf) _ H.out HI.out).mono ?_
  rintro e w1 ⟨rfl,rfl⟩
  go_wp2_with fail
  refine (HIO.out _ HL.out H.out).mono ?_
  rintro e w2 ⟨hk2,(⟨x,s2,ty,y,rfl,ea,g2,r2⟩|⟨k,at_,hkk,d,rfl,hd,hno⟩)⟩
  ·go_wp2
   go_ret
   exact⟨hk2,Or.inl ⟨x,s2,ty,y,rfl,ea,Mil.ok_noif HI.out g2,r2⟩⟩
  ·go_wp2
   exact⟨rfl,hk2,Or.inr ⟨k,at_,hkk,d,rfl,hd,Mil.bad_noif HI.out hno⟩⟩
end
section
open Go.RowKit
theorem delayed_any (a:Nat->Addr) (b:Nat) (s:ByteArray) (hb:27<=b) (hs:s.size<=4000) (st:Mil.St) (ih:∀t,Mil.mu t < Mil.mu st->MEC a b s t) (w:World) (L:Laid a w) (h:RdS w b s st) :
  Calls Tryz.prog 178 #[.pointer (some ⟨b,0,none⟩)] w (ExPost (Mil.Rfby st) (Mil.Bfby s.size st) a b s w):=by
 have H:=hid h
 have HL:=hid L
 have IH:=hid ih
 clear h L ih
 go_enter Tryz.func178,Tryz.ntmps178
 go_wp2_with fail
 refine (want_any a b s st (bs Mil.sOpen) _ HL.out hb H.out hs).mono ?_
 rintro e w1 ⟨kk1,(⟨s1,rfl,g1,r1⟩|⟨k,at_,hkk,d,rfl,hd,hno⟩)⟩
 ·have hk1:=kk1
  have G1:=hid g1
  have M1:Hid (Mil.mu s1 < Mil.mu st):=Mil.want_mu g1
  clear g1 kk1
  go_wp2_with fail
  refine (constant_any a b s s1 _ (HL.out.kept hk1 hb) hb r1 hs).mono ?_
  rintro e w2 ⟨kk2,(⟨x2,s2,ty2,y2,rfl,e2,g2,r2⟩|⟨k,at_,hkk,d,rfl,hd,hno⟩)⟩
  ·have hk2:=hk1.trans kk2
   have G2:=hid g2
   have E2:=hid e2
   have M2:Hid (Mil.mu s2 < Mil.mu st):=Nat.lt_trans (Mil.constant_mu g2) M1.out
   clear g2 kk2 e2
   go_wp2_with fail
   refine (want_any a b s s2 (bs Mil.sComma) _ (HL.out.kept hk2 hb) hb r2 hs).mono ?_
   rintro e w3 ⟨kk3,(⟨s3,rfl,g3,r3⟩|⟨k,at_,hkk,d,rfl,hd,hno⟩)⟩
   ·have hk3:=hk2.trans kk3
    have G3:=hid g3
    have M3:Hid (Mil.mu s3 < Mil.mu st):=Nat.lt_trans (Mil.want_mu g3) M2.out
    clear g3 kk3
    go_wp2_with fail
    refine (IH.out s3 M3.out _ (HL.out.kept hk3 hb) r3).mono ?_
    rintro e w4 ⟨kk4,(⟨x4,s4,ty4,y4,rfl,e4,g4,r4⟩|⟨k,at_,hkk,d,rfl,hd,hno⟩)⟩
    ·have hk4:=hk3.trans kk4
     have G4:=hid g4
     have E4:=hid e4
     have M4:Hid (Mil.mu s4 < Mil.mu st):=Nat.lt_of_le_of_lt (Mil.ok_mu g4) M3.out
     clear g4 kk4 e4
     go_wp2_with fail
     refine (want_any a b s s4 (bs Mil.sShut) _ (HL.out.kept hk4 hb) hb r4 hs).mono ?_
     rintro e w5 ⟨kk5,(⟨s5,rfl,g5,r5⟩|⟨k,at_,hkk,d,rfl,hd,hno⟩)⟩
     ·have hk5:=hk4.trans kk5
      have G5:=hid g5
      have M5:Hid (Mil.mu s5 < Mil.mu st):=Nat.lt_trans (Mil.want_mu g5) M4.out
      clear g5 kk5
      go_wp2
      go_ret
      refine⟨hk5,Or.inl ⟨Mil.eFby x2 x4,s5,_,_,rfl,?_,?_,r5⟩⟩
      ·show Value.iface _ (.agg #[ev x2,ev x4])=_
       rw[E2.out,E4.out]
      ·exact⟨_,_,_,_,G1.out,G2.out,G3.out,G4.out,G5.out,rfl⟩
     ·go_wp2
      refine⟨rfl,hk4.trans kk5,Or.inr ⟨k,at_,hkk,d,rfl,hd,?_⟩⟩
      exact Or.inr ⟨_,G1.out,Or.inr ⟨_,G2.out,Or.inr ⟨_,G3.out,Or.inr ⟨_,G4.out,hno⟩⟩⟩⟩
    ·go_wp2
     refine⟨rfl,hk3.trans kk4,Or.inr ⟨k,at_,hkk,d,rfl,hd,?_⟩⟩
     exact Or.inr ⟨_,G1.out,Or.inr ⟨_,G2.out,Or.inr ⟨_,G3.out,Or.inl hno⟩⟩⟩
   ·go_wp2
    refine⟨rfl,hk2.trans kk3,Or.inr ⟨k,at_,hkk,d,rfl,hd,?_⟩⟩
    exact Or.inr ⟨_,G1.out,Or.inr ⟨_,G2.out,Or.inl hno⟩⟩
  ·go_wp2
   refine⟨rfl,hk1.trans kk2,Or.inr ⟨k,at_,hkk,d,rfl,hd,?_⟩⟩
   exact Or.inr ⟨_,G1.out,Or.inl hno⟩
 ·go_wp2
  refine⟨rfl,kk1,Or.inr ⟨k,at_,hkk,d,rfl,hd,?_⟩⟩
  exact Or.inl hno
theorem thinned_any (a:Nat->Addr) (b:Nat) (s:ByteArray) (hb:27<=b) (hs:s.size<=4000) (st:Mil.St) (ih:∀t,Mil.mu t < Mil.mu st->MEC a b s t) (w:World) (L:Laid a w) (h:RdS w b s st) :
  Calls Tryz.prog 179 #[.pointer (some ⟨b,0,none⟩)] w (ExPost (Mil.Runder st) (Mil.Bunder s.size st) a b s w):=by
 have H:=hid h
 have HL:=hid L
 have IH:=hid ih
 clear h L ih
 go_enter Tryz.func179,Tryz.ntmps179
 go_wp2_with fail
 refine (want_any a b s st (bs Mil.sOpen) _ HL.out hb H.out hs).mono ?_
 rintro e w1 ⟨kk1,(⟨s1,rfl,g1,r1⟩|⟨k,at_,hkk,d,rfl,hd,hno⟩)⟩
 ·have hk1:=kk1
  have G1:=hid g1
  have M1:Hid (Mil.mu s1 < Mil.mu st):=Mil.want_mu g1
  clear g1 kk1
  go_wp2_with fail
  refine (IH.out s1 M1.out _ (HL.out.kept hk1 hb) r1).mono ?_
  rintro e w2 ⟨kk2,(⟨x2,s2,ty2,y2,rfl,e2,g2,r2⟩|⟨k,at_,hkk,d,rfl,hd,hno⟩)⟩
  ·have hk2:=hk1.trans kk2
   have G2:=hid g2
   have E2:=hid e2
   have M2:Hid (Mil.mu s2 < Mil.mu st):=Nat.lt_of_le_of_lt (Mil.ok_mu g2) M1.out
   clear g2 kk2 e2
   go_wp2_with fail
   refine (want_any a b s s2 (bs Mil.sComma) _ (HL.out.kept hk2 hb) hb r2 hs).mono ?_
   rintro e w3 ⟨kk3,(⟨s3,rfl,g3,r3⟩|⟨k,at_,hkk,d,rfl,hd,hno⟩)⟩
   ·have hk3:=hk2.trans kk3
    have G3:=hid g3
    have M3:Hid (Mil.mu s3 < Mil.mu st):=Nat.lt_trans (Mil.want_mu g3) M2.out
    clear g3 kk3
    go_wp2_with fail
    refine (number_any a b s s3 2 1000 (by decide) _ (HL.out.kept hk3 hb) hb r3 hs).mono ?_
    rintro e w4 ⟨kk4,(⟨x4,s4,rfl,g4,r4⟩|⟨k,at_,hkk,d,rfl,hd,hno⟩)⟩
    ·have hk4:=hk3.trans kk4
     have G4:=hid g4
     have M4:Hid (Mil.mu s4 < Mil.mu st):=Nat.lt_trans (Mil.number_mu g4) M3.out
     clear g4 kk4
     go_wp2_with fail
     refine (want_any a b s s4 (bs Mil.sShut) _ (HL.out.kept hk4 hb) hb r4 hs).mono ?_
     rintro e w5 ⟨kk5,(⟨s5,rfl,g5,r5⟩|⟨k,at_,hkk,d,rfl,hd,hno⟩)⟩
     ·have hk5:=hk4.trans kk5
      have G5:=hid g5
      have M5:Hid (Mil.mu s5 < Mil.mu st):=Nat.lt_trans (Mil.want_mu g5) M4.out
      clear g5 kk5
      go_wp2
      go_ret
      refine⟨hk5,Or.inl ⟨Mil.eUnder x2 x4,s5,_,_,rfl,?_,?_,r5⟩⟩
      ·show Value.iface _ (.agg #[ev x2,.int .i64 (x4:Nat)])=_
       rw[E2.out]
      ·exact⟨_,_,_,_,G1.out,G2.out,G3.out,G4.out,G5.out,rfl⟩
     ·go_wp2
      refine⟨rfl,hk4.trans kk5,Or.inr ⟨k,at_,hkk,d,rfl,hd,?_⟩⟩
      exact Or.inr ⟨_,G1.out,Or.inr ⟨_,G2.out,Or.inr ⟨_,G3.out,Or.inr ⟨_,G4.out,hno⟩⟩⟩⟩
    ·go_wp2
     refine⟨rfl,hk3.trans kk4,Or.inr ⟨k,at_,hkk,d,rfl,hd,?_⟩⟩
     exact Or.inr ⟨_,G1.out,Or.inr ⟨_,G2.out,Or.inr ⟨_,G3.out,Or.inl hno⟩⟩⟩
   ·go_wp2
    refine⟨rfl,hk2.trans kk3,Or.inr ⟨k,at_,hkk,d,rfl,hd,?_⟩⟩
    exact Or.inr ⟨_,G1.out,Or.inr ⟨_,G2.out,Or.inl hno⟩⟩
  ·go_wp2
   refine⟨rfl,hk1.trans kk2,Or.inr ⟨k,at_,hkk,d,rfl,hd,?_⟩⟩
   exact Or.inr ⟨_,G1.out,Or.inl hno⟩
 ·go_wp2
  refine⟨rfl,kk1,Or.inr ⟨k,at_,hkk,d,rfl,hd,?_⟩⟩
  exact Or.inl hno
theorem held_any (a:Nat->Addr) (b:Nat) (s:ByteArray) (hb:27<=b) (hs:s.size<=4000) (st:Mil.St) (ih:∀t,Mil.mu t < Mil.mu st->MEC a b s t) (w:World) (L:Laid a w) (h:RdS w b s st) :
  Calls Tryz.prog 180 #[.pointer (some ⟨b,0,none⟩)] w (ExPost (Mil.Rhold st) (Mil.Bhold s.size st) a b s w):=by
 have H:=hid h
 have HL:=hid L
 have IH:=hid ih
 clear h L ih
 go_enter Tryz.func180,Tryz.ntmps180
 go_wp2_with fail
 refine (want_any a b s st (bs Mil.sOpen) _ HL.out hb H.out hs).mono ?_
 rintro e w1 ⟨kk1,(⟨s1,rfl,g1,r1⟩|⟨k,at_,hkk,d,rfl,hd,hno⟩)⟩
 ·have hk1:=kk1
  have G1:=hid g1
  have M1:Hid (Mil.mu s1 < Mil.mu st):=Mil.want_mu g1
  clear g1 kk1
  go_wp2_with fail
  refine (constant_any a b s s1 _ (HL.out.kept hk1 hb) hb r1 hs).mono ?_
  rintro e w2 ⟨kk2,(⟨x2,s2,ty2,y2,rfl,e2,g2,r2⟩|⟨k,at_,hkk,d,rfl,hd,hno⟩)⟩
  ·have hk2:=hk1.trans kk2
   have G2:=hid g2
   have E2:=hid e2
   have M2:Hid (Mil.mu s2 < Mil.mu st):=Nat.lt_trans (Mil.constant_mu g2) M1.out
   clear g2 kk2 e2
   go_wp2_with fail
   refine (want_any a b s s2 (bs Mil.sComma) _ (HL.out.kept hk2 hb) hb r2 hs).mono ?_
   rintro e w3 ⟨kk3,(⟨s3,rfl,g3,r3⟩|⟨k,at_,hkk,d,rfl,hd,hno⟩)⟩
   ·have hk3:=hk2.trans kk3
    have G3:=hid g3
    have M3:Hid (Mil.mu s3 < Mil.mu st):=Nat.lt_trans (Mil.want_mu g3) M2.out
    clear g3 kk3
    go_wp2_with fail
    refine (IH.out s3 M3.out _ (HL.out.kept hk3 hb) r3).mono ?_
    rintro e w4 ⟨kk4,(⟨x4,s4,ty4,y4,rfl,e4,g4,r4⟩|⟨k,at_,hkk,d,rfl,hd,hno⟩)⟩
    ·have hk4:=hk3.trans kk4
     have G4:=hid g4
     have E4:=hid e4
     have M4:Hid (Mil.mu s4 < Mil.mu st):=Nat.lt_of_le_of_lt (Mil.ok_mu g4) M3.out
     clear g4 kk4 e4
     go_wp2_with fail
     refine (want_any a b s s4 (bs Mil.sComma) _ (HL.out.kept hk4 hb) hb r4 hs).mono ?_
     rintro e w5 ⟨kk5,(⟨s5,rfl,g5,r5⟩|⟨k,at_,hkk,d,rfl,hd,hno⟩)⟩
     ·have hk5:=hk4.trans kk5
      have G5:=hid g5
      have M5:Hid (Mil.mu s5 < Mil.mu st):=Nat.lt_trans (Mil.want_mu g5) M4.out
      clear g5 kk5
      go_wp2_with fail
      refine (number_any a b s s5 2 1000 (by decide) _ (HL.out.kept hk5 hb) hb r5 hs).mono ?_
      rintro e w6 ⟨kk6,(⟨x6,s6,rfl,g6,r6⟩|⟨k,at_,hkk,d,rfl,hd,hno⟩)⟩
      ·have hk6:=hk5.trans kk6
       have G6:=hid g6
       have M6:Hid (Mil.mu s6 < Mil.mu st):=Nat.lt_trans (Mil.number_mu g6) M5.out
       clear g6 kk6
       go_wp2_with fail
       refine (want_any a b s s6 (bs Mil.sShut) _ (HL.out.kept hk6 hb) hb r6 hs).mono ?_
       rintro e w7 ⟨kk7,(⟨s7,rfl,g7,r7⟩|⟨k,at_,hkk,d,rfl,hd,hno⟩)⟩
       ·have hk7:=hk6.trans kk7
        have G7:=hid g7
        have M7:Hid (Mil.mu s7 < Mil.mu st):=Nat.lt_trans (Mil.want_mu g7) M6.out
        clear g7 kk7
        go_wp2
        go_ret
        refine⟨hk7,Or.inl ⟨Mil.eHold x2 x4 x6,s7,_,_,rfl,?_,?_,r7⟩⟩
        ·show Value.iface _ (.agg #[ev x2,ev x4,.int .i64 (x6:Nat)])=_
         rw[E2.out,E4.out]
        ·exact⟨_,_,_,_,_,_,G1.out,G2.out,G3.out,G4.out,G5.out,G6.out,G7.out,rfl⟩
       ·go_wp2
        refine⟨rfl,hk6.trans kk7,Or.inr ⟨k,at_,hkk,d,rfl,hd,?_⟩⟩
        exact Or.inr ⟨_,G1.out,Or.inr ⟨_,G2.out,Or.inr ⟨_,G3.out,Or.inr ⟨_,G4.out,Or.inr ⟨_,G5.out,Or.inr ⟨_,G6.out,hno⟩⟩⟩⟩⟩⟩
      ·go_wp2
       refine⟨rfl,hk5.trans kk6,Or.inr ⟨k,at_,hkk,d,rfl,hd,?_⟩⟩
       exact Or.inr ⟨_,G1.out,Or.inr ⟨_,G2.out,Or.inr ⟨_,G3.out,Or.inr ⟨_,G4.out,Or.inr ⟨_,G5.out,Or.inl hno⟩⟩⟩⟩⟩
     ·go_wp2
      refine⟨rfl,hk4.trans kk5,Or.inr ⟨k,at_,hkk,d,rfl,hd,?_⟩⟩
      exact Or.inr ⟨_,G1.out,Or.inr ⟨_,G2.out,Or.inr ⟨_,G3.out,Or.inr ⟨_,G4.out,Or.inl hno⟩⟩⟩⟩
    ·go_wp2
     refine⟨rfl,hk3.trans kk4,Or.inr ⟨k,at_,hkk,d,rfl,hd,?_⟩⟩
     exact Or.inr ⟨_,G1.out,Or.inr ⟨_,G2.out,Or.inr ⟨_,G3.out,Or.inl hno⟩⟩⟩
   ·go_wp2
    refine⟨rfl,hk2.trans kk3,Or.inr ⟨k,at_,hkk,d,rfl,hd,?_⟩⟩
    exact Or.inr ⟨_,G1.out,Or.inr ⟨_,G2.out,Or.inl hno⟩⟩
  ·go_wp2
   refine⟨rfl,hk1.trans kk2,Or.inr ⟨k,at_,hkk,d,rfl,hd,?_⟩⟩
   exact Or.inr ⟨_,G1.out,Or.inl hno⟩
 ·go_wp2
  refine⟨rfl,kk1,Or.inr ⟨k,at_,hkk,d,rfl,hd,?_⟩⟩
  exact Or.inl hno
theorem extreme_any (a:Nat->Addr) (b:Nat) (s:ByteArray) (hb:27<=b) (hs:s.size<=4000) (m:Mil.Bytes) (st:Mil.St) (ih:∀t,Mil.mu t < Mil.mu st->MEC a b s t) (w:World) (L:Laid a w) (h:RdS w b s st) :
  Calls Tryz.prog 181 #[.pointer (some ⟨b,0,none⟩),.string (bs m)] w (ExPost (Mil.Rleast m st) (Mil.Bleast s.size st) a b s w):=by
 have H:=hid h
 have HL:=hid L
 have IH:=hid ih
 clear h L ih
 go_enter Tryz.func181,Tryz.ntmps181
 go_wp2_with fail
 refine (want_any a b s st (bs Mil.sOpen) _ HL.out hb H.out hs).mono ?_
 rintro e w1 ⟨kk1,(⟨s1,rfl,g1,r1⟩|⟨k,at_,hkk,d,rfl,hd,hno⟩)⟩
 ·have hk1:=kk1
  have G1:=hid g1
  have M1:Hid (Mil.mu s1 < Mil.mu st):=Mil.want_mu g1
  clear g1 kk1
  go_wp2_with fail
  refine (IH.out s1 M1.out _ (HL.out.kept hk1 hb) r1).mono ?_
  rintro e w2 ⟨kk2,(⟨x2,s2,ty2,y2,rfl,e2,g2,r2⟩|⟨k,at_,hkk,d,rfl,hd,hno⟩)⟩
  ·have hk2:=hk1.trans kk2
   have G2:=hid g2
   have E2:=hid e2
   have M2:Hid (Mil.mu s2 < Mil.mu st):=Nat.lt_of_le_of_lt (Mil.ok_mu g2) M1.out
   clear g2 kk2 e2
   go_wp2_with fail
   refine (want_any a b s s2 (bs Mil.sComma) _ (HL.out.kept hk2 hb) hb r2 hs).mono ?_
   rintro e w3 ⟨kk3,(⟨s3,rfl,g3,r3⟩|⟨k,at_,hkk,d,rfl,hd,hno⟩)⟩
   ·have hk3:=hk2.trans kk3
    have G3:=hid g3
    have M3:Hid (Mil.mu s3 < Mil.mu st):=Nat.lt_trans (Mil.want_mu g3) M2.out
    clear g3 kk3
    go_wp2_with fail
    refine (IH.out s3 M3.out _ (HL.out.kept hk3 hb) r3).mono ?_
    rintro e w4 ⟨kk4,(⟨x4,s4,ty4,y4,rfl,e4,g4,r4⟩|⟨k,at_,hkk,d,rfl,hd,hno⟩)⟩
    ·have hk4:=hk3.trans kk4
     have G4:=hid g4
     have E4:=hid e4
     have M4:Hid (Mil.mu s4 < Mil.mu st):=Nat.lt_of_le_of_lt (Mil.ok_mu g4) M3.out
     clear g4 kk4 e4
     go_wp2_with fail
     refine (want_any a b s s4 (bs Mil.sShut) _ (HL.out.kept hk4 hb) hb r4 hs).mono ?_
     rintro e w5 ⟨kk5,(⟨s5,rfl,g5,r5⟩|⟨k,at_,hkk,d,rfl,hd,hno⟩)⟩
     ·have hk5:=hk4.trans kk5
      have G5:=hid g5
      have M5:Hid (Mil.mu s5 < Mil.mu st):=Nat.lt_trans (Mil.want_mu g5) M4.out
      clear g5 kk5
      go_wp2
      go_ret
      refine⟨hk5,Or.inl ⟨Mil.eLeast m x2 x4,s5,_,_,rfl,?_,?_,r5⟩⟩
      ·show Value.iface _ (.agg #[.string (bs m),ev x2,ev x4])=_
       rw[E2.out,E4.out]
      ·exact⟨_,_,_,_,G1.out,G2.out,G3.out,G4.out,G5.out,rfl⟩
     ·go_wp2
      refine⟨rfl,hk4.trans kk5,Or.inr ⟨k,at_,hkk,d,rfl,hd,?_⟩⟩
      exact Or.inr ⟨_,G1.out,Or.inr ⟨_,G2.out,Or.inr ⟨_,G3.out,Or.inr ⟨_,G4.out,hno⟩⟩⟩⟩
    ·go_wp2
     refine⟨rfl,hk3.trans kk4,Or.inr ⟨k,at_,hkk,d,rfl,hd,?_⟩⟩
     exact Or.inr ⟨_,G1.out,Or.inr ⟨_,G2.out,Or.inr ⟨_,G3.out,Or.inl hno⟩⟩⟩
   ·go_wp2
    refine⟨rfl,hk2.trans kk3,Or.inr ⟨k,at_,hkk,d,rfl,hd,?_⟩⟩
    exact Or.inr ⟨_,G1.out,Or.inr ⟨_,G2.out,Or.inl hno⟩⟩
  ·go_wp2
   refine⟨rfl,hk1.trans kk2,Or.inr ⟨k,at_,hkk,d,rfl,hd,?_⟩⟩
   exact Or.inr ⟨_,G1.out,Or.inl hno⟩
 ·go_wp2
  refine⟨rfl,kk1,Or.inr ⟨k,at_,hkk,d,rfl,hd,?_⟩⟩
  exact Or.inl hno
end
end Go.Proofs.YtoiajojadihpbaaGreatDoor
