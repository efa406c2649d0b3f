import Derived.Test.YtoiajojadihpbaaGreatDoorPt34
import Derived.Test.YtoiajojadihpbaaGreatDoorPt30
import Derived.Test.YtoiajojadihpbaaGreatDoorPt32
namespace Go.Proofs.YtoiajojadihpbaaGreatDoor
set_option maxHeartbeats 8000000
section
open Go.RowKit
namespace Ref
open Mil
theorem binds_tight {ns:List Nd} {e:E} {i:Nat} (hw:wf e false) (h:Has ns e i):∃n,ns[i]?=some n∧∀k,k≤7→(bindsOf n < k↔Mil.tight e < k):=by
 obtain ⟨hl,hr⟩:=h
 cases e with
 | nil=>exact hw.elim
 | node t k x a b=>
  rcases hr with ⟨c,_⟩ | ⟨c,p,d⟩ | ⟨c,p,d⟩ | ⟨c,p,d⟩ | ⟨c,c2,p,v,d1,d2⟩ | ⟨c,p,a',d1,_⟩ | ⟨c,p,a',d1,_⟩ | ⟨c,p,a',b',c',d1,_⟩ | ⟨p,a',b',y,v,c,d1,_⟩
  ·subst c
   rcases hw with ⟨e,_⟩ | ⟨e,_⟩ | ⟨e,_⟩ | ⟨e,_⟩ | ⟨e,_⟩ | ⟨e,_⟩ | ⟨e,_⟩ | ⟨e,_⟩ | ⟨e,_⟩ | ⟨e,_⟩ <;> cases e
  ·subst c;exact ⟨_,d,fun k _=>Iff.rfl⟩
  ·subst c;exact ⟨_,d,fun k _=>Iff.rfl⟩
  ·subst c;exact ⟨_,d,fun k _=>Iff.rfl⟩
  ·subst c;subst c2
   refine ⟨_,d2,fun l hk=>?_⟩
   have e1:bindsOf ⟨1,[],p,v,true,0,0,0⟩=8:=rfl
   have e2:Mil.tight (.node 4 k sMinus a b)=7:=rfl
   omega
  ·subst c
   refine ⟨_,d1,fun k _=>?_⟩
   exact Iff.rfl
  ·subst c;exact ⟨_,d1,fun k _=>Iff.rfl⟩
  ·subst c;exact ⟨_,d1,fun k _=>Iff.rfl⟩
  ·refine ⟨_,d1,fun k _=>?_⟩
   rcases c with ⟨rfl,rfl,rfl⟩ | ⟨rfl,rfl,rfl⟩ | ⟨rfl,rfl,rfl⟩ | ⟨rfl,rfl,rfl⟩
   ·have ht:tightOf y≠9:=by
     rcases hw with ⟨e,_⟩ | ⟨e,_⟩ | ⟨e,_⟩ | ⟨e,_⟩ | ⟨_,_,e,_⟩ | ⟨e,_⟩ | ⟨e,_⟩ | ⟨e,_⟩ | ⟨e,_⟩ | ⟨e,_⟩
     all_goals first | cases e | exact e
    show level y < k↔tightOf y < k
    rcases level_tight y with ⟨h1,_⟩ | ⟨_,h1⟩
    ·rw [h1]
    ·exact absurd h1 ht
   ·exact Iff.rfl
   ·exact Iff.rfl
   ·exact Iff.rfl
theorem brackT_le (t l:Nat) (x:List Tok):x.length≤(brackT t l x).length:=by
 unfold brackT
 split
 ·simp;omega
 ·exact Nat.le_refl _
end Ref
def PX (B g:Nat) (iv nv:Value) (ns:List Ref.Nd) (e:Mil.E):Prop:=∀i,Ref.Has ns e i→(Mil.toks e).length≤600→TR B g iv nv ns e i∧OR B g iv nv ns e i
theorem px_of {B g:Nat} {iv nv:Value} {ns:List Ref.Nd} {e:Mil.E} (hw:Mil.wf e false) (h:∀i,Ref.Has ns e i→(Mil.toks e).length≤600→TR B g iv nv ns e i):PX B g iv nv ns e:=by
 intro i hi ht
 have t:=h i hi ht
 obtain ⟨n,hn,hb⟩:=Ref.binds_tight hw hi
 have hl:=Mil.txt_len e hw
 exact ⟨t,operand_any B g iv nv ns i e n hn hb (by omega) t⟩
theorem rx_short {e:Mil.E} (hw:Mil.wf e false) (h:(Mil.toks e).length≤600):(Mil.txt e).length≤24000:=by
 have:=Mil.txt_len e hw
 omega
theorem px_int (B g:Nat) (iv nv:Value) (ns:List Ref.Nd) (k:Nat) (hk:(k:Int)≤Mil.maxInt):PX B g iv nv ns (Mil.eInt k):=by
 refine px_of (Or.inl ⟨rfl,rfl,hk,rfl,rfl⟩) (fun i hi _=>?_)
 have hr:=hi.2
 rcases hr with ⟨c,_⟩ | ⟨_,p,d⟩ | ⟨c,_⟩ | ⟨c,_⟩ | ⟨c,_⟩ | ⟨c,_⟩ | ⟨c,_⟩ | ⟨c,_⟩ | ⟨_,_,_,_,_,c,_⟩
 case inr.inl=>exact rt_int B g iv nv ns i p k d (by unfold Mil.maxInt at hk;omega)
 all_goals first | exact absurd c (by decide) | (rcases c with ⟨c,_⟩ | ⟨c,_⟩ | ⟨c,_⟩ | ⟨c,_⟩ <;> exact absurd c (by decide))
theorem px_bool (B g:Nat) (iv nv:Value) (ns:List Ref.Nd) (k:Nat) (hk:k=0∨k=1):PX B g iv nv ns (Mil.eBool k):=by
 refine px_of (Or.inr (Or.inl ⟨rfl,rfl,hk,rfl,rfl⟩)) (fun i hi _=>?_)
 have hr:=hi.2
 rcases hr with ⟨c,_⟩ | ⟨c,_⟩ | ⟨_,p,d⟩ | ⟨c,_⟩ | ⟨c,_⟩ | ⟨c,_⟩ | ⟨c,_⟩ | ⟨c,_⟩ | ⟨_,_,_,_,_,c,_⟩
 case inr.inr.inl=>
  rcases hk with rfl | rfl
  ·exact rt_false B g iv nv ns i p d
  ·exact rt_true B g iv nv ns i p d
 all_goals first | exact absurd c (by decide) | (rcases c with ⟨c,_⟩ | ⟨c,_⟩ | ⟨c,_⟩ | ⟨c,_⟩ <;> exact absurd c (by decide))
theorem px_pre (B g:Nat) (iv nv:Value) (ns:List Ref.Nd) (x:Mil.Bytes) (a:Mil.E) (hx:x=Mil.wNot∨x=Mil.sMinus) (hw:Mil.wf a false) (ha:PX B g iv nv ns a):PX B g iv nv ns (Mil.ePre x a):=by
 have hwf:Mil.wf (Mil.ePre x a) false:=Or.inr (Or.inr (Or.inr (Or.inl ⟨rfl,rfl,hx,hw,rfl⟩)))
 refine px_of hwf (fun i hi ht=>?_)
 have hta:(Mil.toks a).length≤600:=by
  have h1:(Mil.toks (Mil.ePre x a)).length=(Mil.brackT (Mil.tight a) (Mil.preLvl x) (Mil.toks a)).length+1:=rfl
  have:=Ref.brackT_le (Mil.tight a) (Mil.preLvl x) (Mil.toks a)
  omega
 have hr:=hi.2
 rcases hr with ⟨c,_⟩ | ⟨c,_⟩ | ⟨c,_⟩ | ⟨c,_⟩ | ⟨_,c2,p,v,d1,d2⟩ | ⟨_,p,a',d1,d2,d3⟩ | ⟨c,_⟩ | ⟨c,_⟩ | ⟨_,_,_,_,_,c,_⟩
 case inr.inr.inr.inr.inl=>
  subst d1
  subst c2
  have hv:(v:Int)≤Mil.maxInt:=by
   rcases hw with ⟨_,_,h,_⟩ | ⟨h,_⟩ | ⟨h,_⟩ | ⟨h,_⟩ | ⟨h,_⟩ | ⟨h,_⟩ | ⟨h,_⟩ | ⟨h,_⟩ | ⟨h,_⟩ | ⟨h,_⟩
   all_goals first | cases h;done | exact h
  exact rt_neg B g iv nv ns i p v d2 (by unfold Mil.maxInt at hv;omega)
 case inr.inr.inr.inr.inr.inl=>
  have hha:Ref.Has ns a a':=⟨by have:=hi.1;omega,d3⟩
  have ho:=(ha a' hha hta).2
  rcases hx with rfl | rfl
  ·exact rt_not B g iv nv ns i p a' a d1 (rx_short hw hta) ho
  ·exact rt_minus B g iv nv ns i p a' a d1 (rx_short hw hta) ho
 all_goals first | exact absurd c (by decide) | (rcases c with ⟨c,_⟩ | ⟨c,_⟩ | ⟨c,_⟩ | ⟨c,_⟩ <;> exact absurd c (by decide))
theorem px_const (B g:Nat) (iv nv:Value) (ns:List Ref.Nd) (c:Mil.E) (h:Mil.isConst c):PX B g iv nv ns c:=by
 rcases h with ⟨k,hk,rfl⟩ | ⟨k,hk,rfl⟩ | ⟨k,hk,rfl⟩
 ·exact px_int B g iv nv ns k hk
 ·exact px_bool B g iv nv ns k hk
 ·exact px_pre B g iv nv ns _ _ (Or.inr rfl) (Or.inl ⟨rfl,rfl,hk,rfl,rfl⟩) (px_int B g iv nv ns k hk)
theorem two_parts {ns:List Ref.Nd} {t k:Nat} {x:Mil.Bytes} {a b:Mil.E} {i:Nat} (ht:t=5∨t=7∨t=9∨t=10) (h:Ref.Has ns (.node t k x a b) i) :
  ∃p a' b' y v,((t=5∧y=x∧v=0)∨(t=7∧y=Mil.wFby∧v=0)∨(t=9∧y=Mil.wHold∧v=k)∨(t=10∧y=x∧v=0))∧ns[i]?=some ⟨t,y,p,v,false,a',b',0⟩∧Ref.Has ns a a'∧Ref.Has ns b b':=by
 obtain ⟨hl,hr⟩:=h
 rcases hr with ⟨c,_⟩ | ⟨c,_⟩ | ⟨c,_⟩ | ⟨c,_⟩ | ⟨c,_⟩ | ⟨c,_⟩ | ⟨c,_⟩ | ⟨c,_⟩ | ⟨p,a',b',y,v,c,d1,d2,d3,d4,d5⟩
 case inr.inr.inr.inr.inr.inr.inr.inr=>exact ⟨p,a',b',y,v,c,d1,⟨by omega,d4⟩,⟨by omega,d5⟩⟩
 all_goals omega
theorem px_all (B g:Nat) (iv nv:Value) (ns:List Ref.Nd):∀e:Mil.E,Mil.wf e false→PX B g iv nv ns e:=by
 refine Mil.wf_induct (px_int B g iv nv ns) (px_bool B g iv nv ns) ?_ (px_pre B g iv nv ns) ?_ ?_ ?_ ?_ ?_ ?_
 ·intro x hx
  refine px_of (Or.inr (Or.inr (Or.inl ⟨rfl,rfl,hx,rfl,rfl⟩))) (fun i hi _=>?_)
  have hr:=hi.2
  rcases hr with ⟨c,_⟩ | ⟨c,_⟩ | ⟨c,_⟩ | ⟨_,p,d⟩ | ⟨c,_⟩ | ⟨c,_⟩ | ⟨c,_⟩ | ⟨c,_⟩ | ⟨_,_,_,_,_,c,_⟩
  case inr.inr.inr.inl=>exact rt_name B g iv nv ns i p x d
  all_goals first | exact absurd c (by decide) | (rcases c with ⟨c,_⟩ | ⟨c,_⟩ | ⟨c,_⟩ | ⟨c,_⟩ <;> exact absurd c (by decide))
 ·intro x a b hx hwa hwb ha hb
  refine px_of (Or.inr (Or.inr (Or.inr (Or.inr (Or.inl ⟨rfl,rfl,hx,hwa,hwb⟩))))) (fun i hi ht=>?_)
  have h1:(Mil.toks (Mil.eTwo x a b)).length=(Mil.brackT (Mil.tight a) (Mil.leftOf (Mil.tightOf x)) (Mil.toks a)).length+((Mil.brackT (Mil.tight b) (Mil.tightOf x+1) (Mil.toks b)).length+1):=by
   show (Mil.brackT (Mil.tight a) (Mil.leftOf (Mil.tightOf x)) (Mil.toks a)++Mil.fix x::Mil.brackT (Mil.tight b) (Mil.tightOf x+1) (Mil.toks b)).length=_
   rw [List.length_append,List.length_cons]
  have l1:=Ref.brackT_le (Mil.tight a) (Mil.leftOf (Mil.tightOf x)) (Mil.toks a)
  have l2:=Ref.brackT_le (Mil.tight b) (Mil.tightOf x+1) (Mil.toks b)
  have ta:(Mil.toks a).length≤600:=by omega
  have tb:(Mil.toks b).length≤600:=by omega
  obtain ⟨p,a',b',y,v,c,d1,d2,d3⟩:=two_parts (Or.inl rfl) hi
  obtain ⟨rfl,rfl⟩:y=x∧v=0:=by
   rcases c with ⟨_,c⟩ | ⟨c,_⟩ | ⟨c,_⟩ | ⟨c,_⟩
   ·exact c
   ·cases c
   ·cases c
   ·cases c
  have hoa:=(ha a' d2 ta).2
  have hob:=(hb b' d3 tb).2
  have s1:=rx_short hwa ta
  have s2:=rx_short hwb tb
  have s3:=Mil.op_len hx
  have hlv:Ref.level y=1∨Ref.level y=2∨Ref.level y=4∨Ref.level y=5∨Ref.level y=6:=by
   have:=Mil.tightOf_cases y
   rcases Ref.level_tight y with ⟨h1,_⟩ | ⟨_,h1⟩
   ·omega
   ·exact absurd h1 hx
  rcases hlv with hlv | hlv | hlv | hlv | hlv
  ·exact rt_two1 B g iv nv ns i p a' b' y a b d1 hlv s3 s1 s2 hoa hob
  ·exact rt_two2 B g iv nv ns i p a' b' y a b d1 hlv s3 s1 s2 hoa hob
  ·exact rt_two4 B g iv nv ns i p a' b' y a b d1 hlv s3 s1 s2 hoa hob
  ·exact rt_two5 B g iv nv ns i p a' b' y a b d1 hlv s3 s1 s2 hoa hob
  ·exact rt_two6 B g iv nv ns i p a' b' y a b d1 hlv s3 s1 s2 hoa hob
 ·intro a b c hwa hwb hwc ha hb hc
  refine px_of (Or.inr (Or.inr (Or.inr (Or.inr (Or.inr (Or.inl ⟨rfl,rfl,rfl,hwa,rfl,rfl,rfl,hwb,hwc⟩)))))) (fun i hi ht=>?_)
  have h1:(Mil.toks (Mil.eIf a b c)).length=(Mil.toks a).length+(Mil.toks b).length+(Mil.toks c).length+3:=by
   show (Mil.fix Mil.wIf::(Mil.toks a++Mil.fix Mil.wThen::(Mil.toks b++Mil.fix Mil.wElse::Mil.toks c))).length=_
   simp;omega
  have ta:(Mil.toks a).length≤600:=by omega
  have tb:(Mil.toks b).length≤600:=by omega
  have tc:(Mil.toks c).length≤600:=by omega
  have hr:=hi.2
  rcases hr with ⟨c,_⟩ | ⟨c,_⟩ | ⟨c,_⟩ | ⟨c,_⟩ | ⟨c,_⟩ | ⟨c,_⟩ | ⟨c,_⟩ | ⟨_,p,a',b',c',d1,d2,d3,d4,d5,d6⟩ | ⟨_,_,_,_,_,c,_⟩
  case inr.inr.inr.inr.inr.inr.inr.inl=>
   have hl:=hi.1
   have d67:Ref.Rep ns b b' 0∧Ref.Rep ns c c' 0:=by
    rcases d6 with ⟨_,e1,e2⟩ | ⟨c,_⟩ | ⟨c,_⟩ | ⟨c,_⟩ | ⟨c,_⟩ | ⟨c,_⟩ | ⟨c,_⟩ | ⟨c,_⟩ | ⟨_,_,_,_,_,c,_⟩
    case inl=>exact ⟨e1,e2⟩
    all_goals first | exact absurd c (by decide) | (rcases c with ⟨c,_⟩ | ⟨c,_⟩ | ⟨c,_⟩ | ⟨c,_⟩ <;> exact absurd c (by decide))
   exact rt_if B g iv nv ns i p a' b' c' a b c d1 (rx_short hwa ta) (ha a' ⟨by omega,d5⟩ ta).1 (rx_short hwb tb) (hb b' ⟨by omega,d67.1⟩ tb).1 (rx_short hwc tc) (hc c' ⟨by omega,d67.2⟩ tc).1
  all_goals first | exact absurd c (by decide) | (rcases c with ⟨c,_⟩ | ⟨c,_⟩ | ⟨c,_⟩ | ⟨c,_⟩ <;> exact absurd c (by decide))
 ·intro a b hca hwb hb
  have hwa:=Mil.wf_const hca
  refine px_of (Or.inr (Or.inr (Or.inr (Or.inr (Or.inr (Or.inr (Or.inl ⟨rfl,rfl,rfl,hca,hwb⟩))))))) (fun i hi ht=>?_)
  have h1:(Mil.toks (Mil.eFby a b)).length=(Mil.toks a).length+(Mil.toks b).length+4:=by
   show (Mil.fix Mil.wFby::Mil.fix Mil.sOpen::(Mil.toks a++Mil.fix Mil.sComma::(Mil.toks b++[Mil.fix Mil.sShut]))).length=_
   simp;omega
  have ta:(Mil.toks a).length≤600:=by omega
  have tb:(Mil.toks b).length≤600:=by omega
  obtain ⟨p,a',b',y,v,c,d1,d2,d3⟩:=two_parts (Or.inr (Or.inl rfl)) hi
  obtain ⟨rfl,rfl⟩:y=Mil.wFby∧v=0:=by
   rcases c with ⟨c,_⟩ | ⟨_,c⟩ | ⟨c,_⟩ | ⟨c,_⟩
   ·cases c
   ·exact c
   ·cases c
   ·cases c
  exact rt_fby B g iv nv ns i p a' b' a b d1 (rx_short hwa ta) (px_const B g iv nv ns a hca a' d2 ta).1 (rx_short hwb tb) (hb b' d3 tb).1
 ·intro a k h2 h1000 hwa ha
  refine px_of (Or.inr (Or.inr (Or.inr (Or.inr (Or.inr (Or.inr (Or.inr (Or.inl ⟨rfl,rfl,h2,h1000,hwa,rfl⟩)))))))) (fun i hi ht=>?_)
  have h1:(Mil.toks (Mil.eUnder a k)).length=(Mil.toks a).length+5:=by
   show (Mil.fix Mil.wUnder::Mil.fix Mil.sOpen::(Mil.toks a++[Mil.fix Mil.sComma,Mil.num k,Mil.fix Mil.sShut])).length=_
   simp
  have ta:(Mil.toks a).length≤600:=by omega
  have hr:=hi.2
  rcases hr with ⟨c,_⟩ | ⟨c,_⟩ | ⟨c,_⟩ | ⟨c,_⟩ | ⟨c,_⟩ | ⟨c,_⟩ | ⟨_,p,a',d1,d2,d3⟩ | ⟨c,_⟩ | ⟨_,_,_,_,_,c,_⟩
  case inr.inr.inr.inr.inr.inr.inl=>
   have hl:=hi.1
   exact rt_under B g iv nv ns i p k a' a d1 (by omega) (rx_short hwa ta) (ha a' ⟨by omega,d3⟩ ta).1
  all_goals first | exact absurd c (by decide) | (rcases c with ⟨c,_⟩ | ⟨c,_⟩ | ⟨c,_⟩ | ⟨c,_⟩ <;> exact absurd c (by decide))
 ·intro a b k h2 h1000 hca hwb hb
  have hwa:=Mil.wf_const hca
  refine px_of (Or.inr (Or.inr (Or.inr (Or.inr (Or.inr (Or.inr (Or.inr (Or.inr (Or.inl ⟨rfl,rfl,h2,h1000,hca,hwb⟩))))))))) (fun i hi ht=>?_)
  have h1:(Mil.toks (Mil.eHold a b k)).length=(Mil.toks a).length+(Mil.toks b).length+6:=by
   show (Mil.fix Mil.wHold::Mil.fix Mil.sOpen::(Mil.toks a++Mil.fix Mil.sComma::(Mil.toks b++[Mil.fix Mil.sComma,Mil.num k,Mil.fix Mil.sShut]))).length=_
   simp;omega
  have ta:(Mil.toks a).length≤600:=by omega
  have tb:(Mil.toks b).length≤600:=by omega
  obtain ⟨p,a',b',y,v,c,d1,d2,d3⟩:=two_parts (Or.inr (Or.inr (Or.inl rfl))) hi
  obtain ⟨rfl,rfl⟩:y=Mil.wHold∧v=k:=by
   rcases c with ⟨c,_⟩ | ⟨c,_⟩ | ⟨_,c⟩ | ⟨c,_⟩
   ·cases c
   ·cases c
   ·exact c
   ·cases c
  exact rt_hold B g iv nv ns i p v a' b' a b d1 (by omega) (rx_short hwa ta) (px_const B g iv nv ns a hca a' d2 ta).1 (rx_short hwb tb) (hb b' d3 tb).1
 ·intro x a b hx hwa hwb ha hb
  refine px_of (Or.inr (Or.inr (Or.inr (Or.inr (Or.inr (Or.inr (Or.inr (Or.inr (Or.inr ⟨rfl,rfl,hx,hwa,hwb⟩))))))))) (fun i hi ht=>?_)
  have h1:(Mil.toks (Mil.eLeast x a b)).length=(Mil.toks a).length+(Mil.toks b).length+4:=by
   show (Mil.fix x::Mil.fix Mil.sOpen::(Mil.toks a++Mil.fix Mil.sComma::(Mil.toks b++[Mil.fix Mil.sShut]))).length=_
   simp;omega
  have ta:(Mil.toks a).length≤600:=by omega
  have tb:(Mil.toks b).length≤600:=by omega
  obtain ⟨p,a',b',y,v,c,d1,d2,d3⟩:=two_parts (Or.inr (Or.inr (Or.inr rfl))) hi
  obtain ⟨rfl,rfl⟩:y=x∧v=0:=by
   rcases c with ⟨c,_⟩ | ⟨c,_⟩ | ⟨c,_⟩ | ⟨_,c⟩
   ·cases c
   ·cases c
   ·cases c
   ·exact c
  have s3:y.length≤3:=by rcases hx with rfl | rfl <;> decide
  exact rt_least B g iv nv ns i p a' b' y a b d1 s3 (rx_short hwa ta) (ha a' d2 ta).1 (rx_short hwb tb) (hb b' d3 tb).1
end
section
open Go.RowKit
namespace Ref
open Mil
theorem toks_mem {l:List It} {i:It} (h:i∈l) (hl:(allToks l).length≤600):(itemToks i).length≤600:=by
 refine Nat.le_trans ?_ hl
 unfold allToks
 exact List.Sublist.length_le (List.sublist_flatten_of_mem (List.mem_map_of_mem h))
theorem outToks {x:Bytes} {r:List Bytes} (ht:(itemToks ⟨2,[],0,0,x::r,eNil⟩).length≤600):r.length≤600:=by
 have h1:(fix wOutput::nam x::(moreToks r++[fix sSemi])).length≤600:=ht
 rw [List.length_cons,List.length_cons,List.length_append,moreToks_len] at h1
 omega
theorem eqToks {x:Bytes} {t:Nat} {e:E} (ht:(itemToks ⟨3,x,t,0,[],e⟩).length≤600):(toks e).length≤600:=by
 have h1:(nam x::fix sColon::fix (tyText t)::fix sIs::(toks e++[fix sSemi])).length≤600:=ht
 simp only [List.length_cons,List.length_append] at h1
 omega
theorem moreLen:∀r:List Bytes,(∀y,y∈r→y.length≤12)→(moreText r).length≤14*r.length
 | [],_=>by simp [moreText]
 | y::r,h=>by
  have h1:=h y (by simp)
  have h2:=moreLen r (fun z hz=>h z (by simp [hz]))
  rw [moreText]
  simp only [List.length_append,commaB,List.length_cons,List.length_nil]
  omega
theorem tyLen (t:Nat):(tyText t).length≤4:=by
 unfold tyText
 split <;> decide
theorem itemLen {i:It} (h:ItOk i) (ht:(itemToks i).length≤600):(itemText i).length≤30010:=by
 rcases h with ⟨x,t,k,rfl,hx,_,_,hk⟩ | ⟨x,r,rfl,hx,hr⟩ | ⟨x,t,e,rfl,hx,_,he⟩
 ·have h1:=hx.2.2.1
  have h2:=digits_len (k:=k) (by simp only [maxInt];omega)
  have h3:=tyLen t
  show (wInput++Mil.blank++x++colonB++tyText t++Mil.blank++wEvery++Mil.blank++Lib.decDigits k++endB).length≤30010
  simp only [List.length_append,wInput,Mil.blank,colonB,wEvery,endB,List.length_cons,List.length_nil]
  omega
 ·have h1:=hx.2.2.1
  have h2:=moreLen r (fun y hy=>(hr y hy).2.2.1)
  have h3:=outToks ht
  show (wOutput++Mil.blank++namesText (x::r)++endB).length≤30010
  rw [namesText_cons]
  simp only [List.length_append,wOutput,Mil.blank,endB,List.length_cons,List.length_nil]
  omega
 ·have h1:=hx.2.2.1
  have h2:=txt_len e he
  have h4:=eqToks ht
  have h3:=tyLen t
  show (x++colonB++tyText t++isB++txt e++endB).length≤30010
  simp only [List.length_append,colonB,isB,endB,List.length_cons,List.length_nil]
  omega
theorem more_snoc:∀(r:List Bytes) (y:Bytes),moreText (r++[y])=moreText r++commaB++y
 | [],y=>by simp [moreText]
 | z::r,y=>by
  rw [List.cons_append,moreText,more_snoc r y,moreText]
  simp only [List.append_assoc]
theorem names_step {l:List Bytes} {j:Nat} {y:Bytes} (h:l[j]?=some y):namesText (l.take (j+1))=(if j=0 then [] else namesText (l.take j)++commaB)++y:=by
 cases l with
 | nil=>cases h
 | cons x r=>
  cases j with
  | zero=>
   have:x=y:=by simpa using h
   subst this
   rw [if_pos rfl]
   show namesText [x]=[]++x
   rw [namesText_cons];simp [moreText]
  | succ j=>
   rw [List.getElem?_cons_succ] at h
   rw [if_neg (by omega),List.take_succ_cons,namesText_cons,List.take_succ_cons,namesText_cons,List.take_add_one,h]
   show x++moreText (r.take j++[y])=_
   rw [more_snoc]
   simp only [List.append_assoc]
theorem namesLen:∀(l:List Bytes),(∀y,y∈l→y.length≤12)→(namesText l).length≤14*l.length
 | [],_=>by simp [namesText]
 | x::r,h=>by
  have h1:=h x (by simp)
  have h2:=moreLen r (fun y hy=>h y (by simp [hy]))
  rw [namesText_cons,List.length_append,List.length_cons]
  omega
theorem print_snoc (l:List It) (i:It):print (l++[i])=print l++itemText i:=by
 unfold print
 rw [List.map_append,List.flatten_append];simp
theorem printLen:∀(l:List It),(∀i,i∈l→ItOk i∧(itemToks i).length≤600)→(print l).length≤30010*l.length
 | [],_=>by simp [print]
 | i::l,h=>by
  have h1:=itemLen (h i (by simp)).1 (h i (by simp)).2
  have h2:=printLen l (fun j hj=>h j (by simp [hj]))
  have e:print (i::l)=itemText i++print l:=by unfold print;simp
  rw [e,List.length_append,List.length_cons]
  omega
theorem Reps.get {ns:List Nd}:∀{I:List Im} {l:List It},Reps ns I l→∀{k:Nat} {x:Im},I[k]?=some x→∃i,l[k]?=some i∧ItRep ns x i
 | [],[],_,_,_,h=>by cases h
 | [],_::_,h,_,_,_=>h.elim
 | _::_,[],h,_,_,_=>h.elim
 | y::_,j::_,h,0,x,hx=>by
  have:y=x:=by simpa using hx
  exact ⟨j,rfl,this ▸ h.1⟩
 | _::_,_::_,h,k+1,x,hx=>by
  have hx':=hx
  rw [List.getElem?_cons_succ] at hx' ⊢
  exact Reps.get h.2 hx'
end Ref
theorem row_name {w:World} {B:Nat} {on:Option Addr} {cn:Nat} {yns:List (Mil.Bytes×Nat)} (h:w.ownsRow B 9 1 (.slice on yns.length cn) yns.length (nms yns)) {j:Nat} {z:Mil.Bytes×Nat} (hz:yns[j]?=some z):∃kn,on=some ⟨kn,0,none⟩∧w.cell? ⟨kn,j,none⟩=some (.string (bs z.1)):=by
 have hl:=(List.getElem?_eq_some_iff.1 hz).1
 obtain ⟨h1,⟨h2,h3⟩ | ⟨k,cap,cur,hv,hbk,hk,hcap,hmx,hsz,htk⟩⟩:=h
 ·omega
 ·injection hv with e1 e2 e3
  refine ⟨k,e1,?_⟩
  have e4:(nms yns)[j]?=some (.string (bs z.1)):=by
   show (List.map _ yns)[j]?=_
   rw [List.getElem?_map,hz];rfl
  rw [cell_of_row w k _ _ _ _ hk,←e4,←htk,List.getElem?_take]
  rw [if_pos (by omega)]
  simp
structure PI (B g:Nat) (iv nv:Value) (ns:List Ref.Nd) (I:List Iw) (w:World):Prop where
 pm:PM B g iv nv ns w
 own:w.ownsRow B 122 8 iv I.length (ims I)
 rows:∀x,x∈I→w.ownsRow B 9 1 x.nv x.im.names.length (nms x.im.names)∧w.ownsRow B 3 1 x.pv x.im.names.length (pls x.im.names)
theorem PI.below {B g:Nat} {iv nv:Value} {ns:List Ref.Nd} {I:List Iw} {w w':World} (h:PI B g iv nv ns I w) (hb:Below w.heap.size w w'):PI B g iv nv ns I w':=
 ⟨h.pm.below hb,own_kept h.own (fun k hk=>hb.block k (h.own.lt k hk).2),fun x hx=>⟨own_kept (h.rows x hx).1 (fun k hk=>hb.block k ((h.rows x hx).1.lt k hk).2),own_kept (h.rows x hx).2 (fun k hk=>hb.block k ((h.rows x hx).2.lt k hk).2)⟩⟩
theorem PI.item8 {B g:Nat} {iv nv:Value} {ns:List Ref.Nd} {I:List Iw} {w:World} (h:PI B g iv nv ns I w) {i:Nat} {y:Iw} (hy:I[i]?=some y) :
  ∃k c,iv=.slice (some ⟨k,0,none⟩) I.length c∧w.cell? ⟨k,i*8,none⟩=some (.int .i64 (y.im.kind:Nat))∧w.cell? ⟨k,i*8+1,none⟩=some (.int .i64 (y.im.at_:Nat))∧w.cell? ⟨k,i*8+2,none⟩=some (.string (bs y.im.name))∧w.cell? ⟨k,i*8+3,none⟩=some (.int .i64 (y.im.type:Nat))∧w.cell? ⟨k,i*8+4,none⟩=some (.int .i64 (y.im.period:Nat))∧w.cell? ⟨k,i*8+5,none⟩=some y.nv∧w.cell? ⟨k,i*8+6,none⟩=some y.pv∧w.cell? ⟨k,i*8+7,none⟩=some (.int .i64 (y.im.expr:Nat)):=by
 have hl:=(List.getElem?_eq_some_iff.1 hy).1
 have all:∃k c,iv=.slice (some ⟨k,0,none⟩) I.length c∧∀j,j < 8→w.cell? ⟨k,i*8+j,none⟩=(imCells y)[j]?:=by
  obtain ⟨h1,⟨h2,h3⟩ | ⟨k,cap,cur,rfl,hbk,hk,hcap,hmx,hsz,htk⟩⟩:=h.own
  ·omega
  ·refine ⟨k,cap,rfl,fun j hj=>?_⟩
   have e1:=flat_at (f:=imCells) (c:=8) (fun _=>rfl) I i j _ hy hj
   have e2:(ims I)[i*8+j]?=(imCells y)[j]?:=e1
   rw [cell_of_row w k _ _ _ _ hk,←e2,←htk,List.getElem?_take]
   rw [if_pos (by omega)]
   simp
 obtain ⟨k,c,hv,hc⟩:=all
 exact ⟨k,c,hv,hc 0 (by decide),hc 1 (by decide),hc 2 (by decide),hc 3 (by decide),hc 4 (by decide),hc 5 (by decide),hc 6 (by decide),hc 7 (by decide)⟩
end
section
open Go.RowKit
theorem PI.zero {B g:Nat} {iv nv:Value} {ns:List Ref.Nd} {I:List Iw} {w:World} (h:PI B g iv nv ns I w):PI 0 g iv nv ns I w:=
 ⟨⟨h.pm.pr,own_less h.pm.nod (Nat.zero_le _)⟩,own_less h.own (Nat.zero_le _),fun x hx=>⟨own_less (h.rows x hx).1 (Nat.zero_le _),own_less (h.rows x hx).2 (Nat.zero_le _)⟩⟩
def RfP (s:ByteArray) (w:World) (e:Ending) (w':World):Prop:=
 Below w.heap.size w w' ∧
 ((∃fe fa:Int,fe≠0∧e=.returned (.tuple #[.pointer none,.agg #[.int .i64 fe,.int .i64 fa]])) ∨
  (∃g iv nv ns I l,e=.returned (.tuple #[.pointer (some ⟨g,0,none⟩),.agg #[.int .i64 0,.int .i64 0]])∧Mil.Parsed s.data.toList l∧Ref.Reps ns (I.map Iw.im) l∧PI 0 g iv nv ns I w'))
theorem rparse_any (s:ByteArray) (w:World):Calls Tryz.prog 16 #[.string s] w (RfP s w):=by
 by_cases hs:s.size≤4000
 ·refine (rparse_short s hs w).mono ?_
  rintro r w' ⟨hb,T,ok,I,σ,hT,hR,⟨rfl,hfe,rfl⟩ | ⟨rfl,B,b,g,tv,iv,nv,hB,rfl,hRM,hIM⟩⟩
  ·exact ⟨hb,Or.inl ⟨σ.fe,σ.fa,by omega,rfl⟩⟩
  ·obtain ⟨l,hp,hr⟩:=Ref.parsed_of (show s.data.toList.length≤4000 from by simpa using hs) hT hR
   have hPI:PI B g iv nv σ.ns I w':=⟨⟨hRM.pr,hRM.nod⟩,hIM.own,hIM.nms⟩
   exact ⟨hb,Or.inr ⟨g,iv,nv,σ.ns,I,l,rfl,hp,hr,hPI.zero⟩⟩
 ·refine (rparse_long s hs w).mono ?_
  rintro r w' ⟨⟨fe,fa,hfe,rfl⟩,hb⟩
  exact ⟨hb,Or.inl ⟨fe,fa,hfe,rfl⟩⟩
end
end Go.Proofs.YtoiajojadihpbaaGreatDoor
