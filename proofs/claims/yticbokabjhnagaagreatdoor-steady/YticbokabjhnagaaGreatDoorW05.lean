import Derived.Test.YticbokabjhnagaaGreatDoorW01
import Derived.Test.YticbokabjhnagaaGreatDoorW02
import Derived.Test.YticbokabjhnagaaGreatDoorW04
namespace Go.Proofs.YticbokabjhnagaaGreatDoor
set_option maxHeartbeats 32000000
section
namespace Mil
open Go.Deep
def Res (s:St) (l:Nat) (x:E×St):Prop:=wf x.1 false∧StOk x.2∧used s+len x.1 l≤used x.2
def Fine (f:Nat→E→St→Option (E×St)):Prop:=∀t e s x,f t e s=some x→StOk s→(t≤8→Res s t x) ∧
 (∀l,t=10+l→0 < l→l < 8→wf e false→wf x.1 false∧StOk x.2∧used s+len x.1 l≤used x.2+len e (leftOf l))
theorem Fwd.ok {s s1:St} (h:Fwd s s1):StOk s1:=h.1
theorem Fwd.eq {s s1:St} (h:Fwd s s1):used s1=used s+1:=h.2
theorem atom_ok {f:Nat→E→St→Option (E×St)} (hf:Fine f) {s:St} {x:E×St} (h:atom f s=some x) (hs:StOk s):Res s 8 x:=by
 have ex:∀{s1:St} {y:E×St},f 0 eNil s1=some y→StOk s1→wf y.1 false∧StOk y.2∧used s1+(toks y.1).length≤used y.2:=fun {s1 y} h1 h2=>by
  obtain ⟨a,b,c⟩:=(hf 0 eNil s1 y h1 h2).1 (by omega)
  rw [len_tight (Nat.zero_le _)] at c
  exact ⟨a,b,c⟩
 unfold atom at h
 by_cases c1:s.tok.kind=1
 ·rw [if_pos c1] at h
  obtain ⟨y,h1,rfl⟩:=Option.map_eq_some_iff.1 h
  obtain ⟨k1,k2⟩:=name_ok h1 hs
  exact ⟨Or.inr (Or.inr (Or.inl ⟨rfl,rfl,k1,rfl,rfl⟩)),k2.1,by rw [k2.2];exact Nat.le_refl _⟩
 rw [if_neg c1] at h
 by_cases c2:sees s sOpen=true
 ·rw [if_pos c2] at h
  obtain ⟨s1,h1,h⟩:=Option.bind_eq_some_iff.1 h
  obtain ⟨y,h2,h⟩:=Option.bind_eq_some_iff.1 h
  obtain ⟨s3,h3,rfl⟩:=Option.map_eq_some_iff.1 h
  have f1:=adv_ok h1 hs (sees_kind c2).1
  obtain ⟨k1,k2,k3⟩:=ex h2 f1.1
  have f3:=want_ok h3 k2
  refine ⟨k1,f3.1,?_⟩
  show used s+len y.1 8≤used s3
  have:=f1.2
  have:=f3.2
  by_cases ht:tight y.1 < 8
  ·rw [len_less ht];omega
  ·rw [len_tight (by omega)];omega
 rw [if_neg c2] at h
 by_cases c3:sees s wFby=true
 ·rw [if_pos c3] at h
  obtain ⟨s1,h1,h⟩:=Option.bind_eq_some_iff.1 h
  obtain ⟨s2,h2,h⟩:=Option.bind_eq_some_iff.1 h
  obtain ⟨c,h3,h⟩:=Option.bind_eq_some_iff.1 h
  obtain ⟨s4,h4,h⟩:=Option.bind_eq_some_iff.1 h
  obtain ⟨y,h5,h⟩:=Option.bind_eq_some_iff.1 h
  obtain ⟨s6,h6,rfl⟩:=Option.map_eq_some_iff.1 h
  have f1:=adv_ok h1 hs (sees_kind c3).1
  have f2:=want_ok h2 f1.1
  obtain ⟨k1,k2,k3⟩:=constant_ok h3 f2.1
  have f4:=want_ok h4 k2
  obtain ⟨g1,g2,g3⟩:=ex h5 f4.1
  have f6:=want_ok h6 g2
  refine ⟨Or.inr (Or.inr (Or.inr (Or.inr (Or.inr (Or.inr (Or.inl ⟨rfl,rfl,rfl,k1,g1⟩)))))),f6.1,?_⟩
  have hl:len (eFby c.1 y.1) 8=(toks c.1).length+(toks y.1).length+4:=by
   rw [len_tight (e:=eFby c.1 y.1) (l:=8) (Nat.le_refl 8)]
   show (fix wFby::fix sOpen::(toks c.1++fix sComma::(toks y.1++[fix sShut]))).length=_
   simp;omega
  show used s+len (eFby c.1 y.1) 8≤used s6
  have:=f1.2;have:=f2.2;have:=f4.2;have:=f6.2
  omega
 rw [if_neg c3] at h
 by_cases c4:sees s wUnder=true
 ·rw [if_pos c4] at h
  obtain ⟨s1,h1,h⟩:=Option.bind_eq_some_iff.1 h
  obtain ⟨s2,h2,h⟩:=Option.bind_eq_some_iff.1 h
  obtain ⟨y,h3,h⟩:=Option.bind_eq_some_iff.1 h
  obtain ⟨s4,h4,h⟩:=Option.bind_eq_some_iff.1 h
  obtain ⟨k,h5,h⟩:=Option.bind_eq_some_iff.1 h
  obtain ⟨s6,h6,rfl⟩:=Option.map_eq_some_iff.1 h
  have f1:=adv_ok h1 hs (sees_kind c4).1
  have f2:=want_ok h2 f1.1
  obtain ⟨g1,g2,g3⟩:=ex h3 f2.1
  have f4:=want_ok h4 g2
  obtain ⟨b1,b2,f5⟩:=number_ok (by omega) h5 f4.1
  have f6:=want_ok h6 f5.1
  refine ⟨Or.inr (Or.inr (Or.inr (Or.inr (Or.inr (Or.inr (Or.inr (Or.inl ⟨rfl,rfl,by omega,by omega,g1,rfl⟩))))))),f6.1,?_⟩
  have hl:len (eUnder y.1 k.1) 8=(toks y.1).length+5:=by
   rw [len_tight (e:=eUnder y.1 k.1) (l:=8) (Nat.le_refl 8)]
   show (fix wUnder::fix sOpen::(toks y.1++[fix sComma,num k.1,fix sShut])).length=_
   simp
  show used s+len (eUnder y.1 k.1) 8≤used s6
  have:=f1.2;have:=f2.2;have:=f4.2;have:=f5.2;have:=f6.2
  omega
 rw [if_neg c4] at h
 by_cases c5:sees s wHold=true
 ·rw [if_pos c5] at h
  obtain ⟨s1,h1,h⟩:=Option.bind_eq_some_iff.1 h
  obtain ⟨s2,h2,h⟩:=Option.bind_eq_some_iff.1 h
  obtain ⟨c,h3,h⟩:=Option.bind_eq_some_iff.1 h
  obtain ⟨s4,h4,h⟩:=Option.bind_eq_some_iff.1 h
  obtain ⟨y,h5,h⟩:=Option.bind_eq_some_iff.1 h
  obtain ⟨s6,h6,h⟩:=Option.bind_eq_some_iff.1 h
  obtain ⟨k,h7,h⟩:=Option.bind_eq_some_iff.1 h
  obtain ⟨s8,h8,rfl⟩:=Option.map_eq_some_iff.1 h
  have f1:=adv_ok h1 hs (sees_kind c5).1
  have f2:=want_ok h2 f1.1
  obtain ⟨k1,k2,k3⟩:=constant_ok h3 f2.1
  have f4:=want_ok h4 k2
  obtain ⟨g1,g2,g3⟩:=ex h5 f4.1
  have f6:=want_ok h6 g2
  obtain ⟨b1,b2,f7⟩:=number_ok (by omega) h7 f6.1
  have f8:=want_ok h8 f7.1
  refine ⟨Or.inr (Or.inr (Or.inr (Or.inr (Or.inr (Or.inr (Or.inr (Or.inr (Or.inl ⟨rfl,rfl,by omega,by omega,k1,g1⟩)))))))),f8.1,?_⟩
  have hl:len (eHold c.1 y.1 k.1) 8=(toks c.1).length+(toks y.1).length+6:=by
   rw [len_tight (e:=eHold c.1 y.1 k.1) (l:=8) (Nat.le_refl 8)]
   show (fix wHold::fix sOpen::(toks c.1++fix sComma::(toks y.1++[fix sComma,num k.1,fix sShut]))).length=_
   simp;omega
  show used s+len (eHold c.1 y.1 k.1) 8≤used s8
  have:=f1.2;have:=f2.2;have:=f4.2;have:=f6.2;have:=f7.2;have:=f8.2
  omega
 rw [if_neg c5] at h
 by_cases c6:(sees s wMin || sees s wMax)=true
 ·rw [if_pos c6] at h
  obtain ⟨s1,h1,h⟩:=Option.bind_eq_some_iff.1 h
  obtain ⟨s2,h2,h⟩:=Option.bind_eq_some_iff.1 h
  obtain ⟨y,h3,h⟩:=Option.bind_eq_some_iff.1 h
  obtain ⟨s4,h4,h⟩:=Option.bind_eq_some_iff.1 h
  obtain ⟨z,h5,h⟩:=Option.bind_eq_some_iff.1 h
  obtain ⟨s6,h6,rfl⟩:=Option.map_eq_some_iff.1 h
  have hx:s.tok.kind≠0∧(s.tok.txt=wMin∨s.tok.txt=wMax):=by
   rcases Bool.or_eq_true_iff.1 c6 with c | c
   ·exact ⟨(sees_kind c).1,Or.inl (sees_kind c).2⟩
   ·exact ⟨(sees_kind c).1,Or.inr (sees_kind c).2⟩
  have f1:=adv_ok h1 hs hx.1
  have f2:=want_ok h2 f1.1
  obtain ⟨g1,g2,g3⟩:=ex h3 f2.1
  have f4:=want_ok h4 g2
  obtain ⟨k1,k2,k3⟩:=ex h5 f4.1
  have f6:=want_ok h6 k2
  refine ⟨Or.inr (Or.inr (Or.inr (Or.inr (Or.inr (Or.inr (Or.inr (Or.inr (Or.inr ⟨rfl,rfl,hx.2,g1,k1⟩)))))))),f6.1,?_⟩
  have hl:len (eLeast s.tok.txt y.1 z.1) 8=(toks y.1).length+(toks z.1).length+4:=by
   rw [len_tight (e:=eLeast s.tok.txt y.1 z.1) (l:=8) (Nat.le_refl 8)]
   show (fix s.tok.txt::fix sOpen::(toks y.1++fix sComma::(toks z.1++[fix sShut]))).length=_
   simp;omega
  show used s+len (eLeast s.tok.txt y.1 z.1) 8≤used s6
  have:=f1.2;have:=f2.2;have:=f4.2;have:=f6.2
  omega
 rw [if_neg c6] at h
 obtain ⟨k1,k2,k3⟩:=literal_ok h hs
 exact ⟨wf_const k1,k3.1,by rw [k2,k3.2];exact Nat.le_refl _⟩
theorem step_ok {f:Nat→E→St→Option (E×St)} (hf:Fine f):Fine (step f):=by
 intro t e s x h hs
 have ex:∀{s1:St} {y:E×St},f 0 eNil s1=some y→StOk s1→wf y.1 false∧StOk y.2∧used s1+(toks y.1).length≤used y.2:=fun {s1 y} h1 h2=>by
  obtain ⟨a,b,c⟩:=(hf 0 eNil s1 y h1 h2).1 (by omega)
  rw [len_tight (Nat.zero_le _)] at c
  exact ⟨a,b,c⟩
 unfold step at h
 by_cases t0:t=0
 ·rw [if_pos t0] at h
  subst t0
  refine ⟨fun _=>?_,fun l hl=>by omega⟩
  by_cases c1:sees s wIf=true
  ·rw [if_pos c1] at h
   obtain ⟨s1,h1,h⟩:=Option.bind_eq_some_iff.1 h
   obtain ⟨a,h2,h⟩:=Option.bind_eq_some_iff.1 h
   obtain ⟨s3,h3,h⟩:=Option.bind_eq_some_iff.1 h
   obtain ⟨b,h4,h⟩:=Option.bind_eq_some_iff.1 h
   obtain ⟨s5,h5,h⟩:=Option.bind_eq_some_iff.1 h
   obtain ⟨c,h6,rfl⟩:=Option.map_eq_some_iff.1 h
   have f1:=adv_ok h1 hs (sees_kind c1).1
   obtain ⟨a1,a2,a3⟩:=ex h2 f1.1
   have f3:=want_ok h3 a2
   obtain ⟨b1,b2,b3⟩:=ex h4 f3.1
   have f5:=want_ok h5 b2
   obtain ⟨d1,d2,d3⟩:=ex h6 f5.1
   refine ⟨Or.inr (Or.inr (Or.inr (Or.inr (Or.inr (Or.inl ⟨rfl,rfl,rfl,a1,rfl,rfl,rfl,b1,d1⟩))))),d2,?_⟩
   have hl:len (eIf a.1 b.1 c.1) 0=(toks a.1).length+(toks b.1).length+(toks c.1).length+3:=by
    rw [len_tight (Nat.zero_le _)]
    show (fix wIf::(toks a.1++fix wThen::(toks b.1++fix wElse::toks c.1))).length=_
    simp;omega
   show used s+len (eIf a.1 b.1 c.1) 0≤used c.2
   have:=f1.2;have:=f3.2;have:=f5.2
   omega
  ·rw [if_neg c1] at h
   obtain ⟨k1,k2,k3⟩:=(hf 1 eNil s x h hs).1 (by omega)
   exact ⟨k1,k2,by have:=len_mono x.1 (Nat.zero_le 1);omega⟩
 rw [if_neg t0] at h
 by_cases t8:t=8
 ·rw [if_pos t8] at h
  subst t8
  exact ⟨fun _=>atom_ok hf h hs,fun l hl=>by omega⟩
 rw [if_neg t8] at h
 by_cases tl:t < 8
 ·rw [if_pos tl] at h
  refine ⟨fun _=>?_,fun l hl=>by omega⟩
  by_cases c1:(t=3∧sees s wNot=true)∨(t=7∧sees s sMinus=true)
  ·rw [if_pos c1] at h
   obtain ⟨s1,h1,h⟩:=Option.bind_eq_some_iff.1 h
   obtain ⟨a,h2,rfl⟩:=Option.map_eq_some_iff.1 h
   have hk:s.tok.kind≠0∧(s.tok.txt=wNot∨s.tok.txt=sMinus)∧preLvl s.tok.txt=t:=by
    rcases c1 with ⟨rfl,c⟩ | ⟨rfl,c⟩
    ·exact ⟨(sees_kind c).1,Or.inl (sees_kind c).2,by rw [(sees_kind c).2];decide⟩
    ·exact ⟨(sees_kind c).1,Or.inr (sees_kind c).2,by rw [(sees_kind c).2];decide⟩
   have f1:=adv_ok h1 hs hk.1
   obtain ⟨a1,a2,a3⟩:=(hf t eNil s1 a h2 f1.1).1 (by omega)
   refine ⟨Or.inr (Or.inr (Or.inr (Or.inl ⟨rfl,rfl,hk.2.1,a1,rfl⟩))),a2,?_⟩
   have hl:len (ePre s.tok.txt a.1) t=len a.1 t+1:=by
    rw [len_tight (by rw [tight_pre,hk.2.2];exact Nat.le_refl _)]
    show (fix s.tok.txt::brackT (tight a.1) (preLvl s.tok.txt) (toks a.1)).length=_
    rw [hk.2.2];rfl
   show used s+len (ePre s.tok.txt a.1) t≤used a.2
   have:=f1.2
   omega
  ·rw [if_neg c1] at h
   obtain ⟨a,h1,h2⟩:=Option.bind_eq_some_iff.1 h
   obtain ⟨a1,a2,a3⟩:=(hf (t+1) eNil s a h1 hs).1 (by omega)
   obtain ⟨b1,b2,b3⟩:=(hf (10+t) a.1 a.2 x h2 a2).2 t rfl (by omega) tl a1
   refine ⟨b1,b2,?_⟩
   have hle:leftOf t≤t+1:=by unfold leftOf;split <;> omega
   have:=len_mono a.1 hle
   omega
 rw [if_neg tl] at h
 refine ⟨fun h8=>by omega,fun l hl l0 l8 he=>?_⟩
 have e10:t - 10=l:=by omega
 rw [e10] at h
 by_cases c1:opAt s=l
 ·rw [if_pos c1] at h
  obtain ⟨s1,h1,h⟩:=Option.bind_eq_some_iff.1 h
  obtain ⟨b,h2,h⟩:=Option.bind_eq_some_iff.1 h
  have hk:s.tok.kind=3∧tightOf s.tok.txt=l:=by
   unfold opAt at c1
   by_cases k3:s.tok.kind=3
   ·rw [if_pos k3] at c1;exact ⟨k3,c1⟩
   ·rw [if_neg k3] at c1;omega
  have f1:=adv_ok h1 hs (by omega)
  obtain ⟨b1,b2,b3⟩:=(hf (l+1) eNil s1 b h2 f1.1).1 (by omega)
  have hw:wf (eTwo s.tok.txt e b.1) false:=Or.inr (Or.inr (Or.inr (Or.inr (Or.inl ⟨rfl,rfl,by omega,he,b1⟩))))
  have hlen:(toks (eTwo s.tok.txt e b.1)).length=len e (leftOf l)+len b.1 (l+1)+1:=by
   show (brackT (tight e) (leftOf (tightOf s.tok.txt)) (toks e)++fix s.tok.txt::brackT (tight b.1) (tightOf s.tok.txt+1) (toks b.1)).length=_
   rw [hk.2];simp [len];omega
  have:=f1.2
  by_cases c4:t=14
  ·rw [if_pos c4] at h
   obtain rfl:=Option.some.inj h
   refine ⟨hw,b2,?_⟩
   show used s+len (eTwo s.tok.txt e b.1) l≤used b.2+len e (leftOf l)
   rw [len_tight (by rw [tight_two];omega)]
   omega
  ·rw [if_neg c4] at h
   obtain ⟨d1,d2,d3⟩:=(hf t _ b.2 x h b2).2 l hl l0 l8 hw
   refine ⟨d1,d2,?_⟩
   have e1:leftOf l=l:=by unfold leftOf;rw [if_neg (by omega)]
   rw [e1] at d3 hlen ⊢
   rw [len_tight (e:=eTwo s.tok.txt e b.1) (by rw [tight_two];omega)] at d3
   omega
 ·rw [if_neg c1] at h
  obtain rfl:=Option.some.inj h
  refine ⟨he,hs,?_⟩
  show used s+len e l≤used s+len e (leftOf l)
  have hle:l≤leftOf l:=by unfold leftOf;split <;> omega
  have:=len_mono e hle
  omega
theorem px_ok:∀n,Fine (px n)
 | 0=>fun _ _ _ _ h=>by cases h
 | n+1=>step_ok (px_ok n)
end Mil
end
section
namespace Mil
open Go.Deep
def moreToks:List Bytes→List Tok
 | []=>[]
 | y::r=>fix sComma::nam y::moreToks r
def itemToks (i:It):List Tok:=
 if i.kind=1 then [fix wInput,nam i.nm,fix sColon,fix (tyText i.ty),fix wEvery,num i.every,fix sSemi]
 else if i.kind=2 then fix wOutput::nam (i.names.headD [])::(moreToks i.names.tail++[fix sSemi])
 else nam i.nm::fix sColon::fix (tyText i.ty)::fix sIs::(toks i.body++[fix sSemi])
def ItOk (i:It):Prop:=
 (∃x t k,i=⟨1,x,t,k,[],eNil⟩∧NameOk x∧(t=0∨t=1)∧1≤k∧k≤1000000)∨(∃x r,i=⟨2,[],0,0,x::r,eNil⟩∧NameOk x∧∀y,y∈r→NameOk y) ∨
 (∃x t e,i=⟨3,x,t,0,[],e⟩∧NameOk x∧(t=0∨t=1)∧wf e false)
theorem moreToks_len:∀l:List Bytes,(moreToks l).length=2*l.length
 | []=>rfl
 | _::r=>by rw [moreToks,List.length_cons,List.length_cons,moreToks_len r,List.length_cons];omega
theorem pnames_ok:∀(n:Nat) (acc:List Bytes) (s:St) (x:List Bytes×St),pnames n acc s=some x→StOk s→∃more,x.1=acc++more∧(∀y,y∈more→NameOk y)∧StOk x.2∧used s+2*more.length≤used x.2
 | 0,_,_,_,h,_=>by cases h
 | n+1,acc,s,x,h,hs=>by
  rw [pnames] at h
  by_cases c:sees s sComma=true
  ·rw [if_pos c] at h
   obtain ⟨s1,h1,h⟩:=Option.bind_eq_some_iff.1 h
   obtain ⟨y,h2,h⟩:=Option.bind_eq_some_iff.1 h
   have f1:=adv_ok h1 hs (sees_kind c).1
   obtain ⟨k1,f2⟩:=name_ok h2 f1.1
   obtain ⟨more,e1,e2,e3,e4⟩:=pnames_ok n _ _ x h f2.1
   refine ⟨y.1::more,by rw [e1];simp,?_,e3,?_⟩
   ·intro z hz
    rcases List.mem_cons.1 hz with rfl | hz
    ·exact k1
    ·exact e2 z hz
   ·have:=f1.2;have:=f2.2
    simp;omega
  ·rw [if_neg c] at h
   obtain rfl:=Option.some.inj h
   exact ⟨[],by simp,(fun y hy=>by cases hy),hs,by simp⟩
theorem pitem_ok {n:Nat} {s:St} {x:It×St} (h:pitem n s=some x) (hs:StOk s):ItOk x.1∧StOk x.2∧used s+(itemToks x.1).length≤used x.2:=by
 unfold pitem at h
 by_cases c1:sees s wInput=true
 ·rw [if_pos c1] at h
  obtain ⟨s1,h1,h⟩:=Option.bind_eq_some_iff.1 h
  obtain ⟨y,h2,h⟩:=Option.bind_eq_some_iff.1 h
  obtain ⟨s3,h3,h⟩:=Option.bind_eq_some_iff.1 h
  obtain ⟨t,h4,h⟩:=Option.bind_eq_some_iff.1 h
  obtain ⟨s5,h5,h⟩:=Option.bind_eq_some_iff.1 h
  obtain ⟨k,h6,h⟩:=Option.bind_eq_some_iff.1 h
  obtain ⟨s7,h7,rfl⟩:=Option.map_eq_some_iff.1 h
  have f1:=adv_ok h1 hs (sees_kind c1).1
  obtain ⟨n1,f2⟩:=name_ok h2 f1.1
  have f3:=want_ok h3 f2.1
  obtain ⟨t1,f4⟩:=ftype_ok h4 f3.1
  have f5:=want_ok h5 f4.1
  obtain ⟨b1,b2,f6⟩:=number_ok (by omega) h6 f5.1
  have f7:=want_ok h7 f6.1
  refine ⟨Or.inl ⟨y.1,t.1,k.1,rfl,n1,t1,by omega,by omega⟩,f7.1,?_⟩
  have:=f1.2;have:=f2.2;have:=f3.2;have:=f4.2;have:=f5.2;have:=f6.2;have:=f7.2
  show used s+7≤used s7
  omega
 rw [if_neg c1] at h
 by_cases c2:sees s wOutput=true
 ·rw [if_pos c2] at h
  obtain ⟨s1,h1,h⟩:=Option.bind_eq_some_iff.1 h
  obtain ⟨y,h2,h⟩:=Option.bind_eq_some_iff.1 h
  obtain ⟨l,h3,h⟩:=Option.bind_eq_some_iff.1 h
  obtain ⟨s4,h4,rfl⟩:=Option.map_eq_some_iff.1 h
  have f1:=adv_ok h1 hs (sees_kind c2).1
  obtain ⟨n1,f2⟩:=name_ok h2 f1.1
  obtain ⟨more,e1,e2,e3,e4⟩:=pnames_ok n _ _ l h3 f2.1
  have f4:=want_ok h4 e3
  refine ⟨Or.inr (Or.inl ⟨y.1,more,by rw [e1];rfl,n1,e2⟩),f4.1,?_⟩
  have:=f1.2;have:=f2.2;have:=f4.2
  have hl:(itemToks ⟨2,[],0,0,l.1,eNil⟩).length=2*more.length+3:=by
   rw [e1]
   show (fix wOutput::nam y.1::(moreToks more++[fix sSemi])).length=_
   simp [moreToks_len]
  show used s+(itemToks ⟨2,[],0,0,l.1,eNil⟩).length≤used s4
  omega
 rw [if_neg c2] at h
 obtain ⟨y,h1,h⟩:=Option.bind_eq_some_iff.1 h
 obtain ⟨s2,h2,h⟩:=Option.bind_eq_some_iff.1 h
 obtain ⟨t,h3,h⟩:=Option.bind_eq_some_iff.1 h
 obtain ⟨s4,h4,h⟩:=Option.bind_eq_some_iff.1 h
 obtain ⟨e,h5,h⟩:=Option.bind_eq_some_iff.1 h
 obtain ⟨s6,h6,rfl⟩:=Option.map_eq_some_iff.1 h
 obtain ⟨n1,f1⟩:=name_ok h1 hs
 have f2:=want_ok h2 f1.1
 obtain ⟨t1,f3⟩:=ftype_ok h3 f2.1
 have f4:=want_ok h4 f3.1
 obtain ⟨e1,e2,e3⟩:=(px_ok n 0 eNil s4 e h5 f4.1).1 (by omega)
 rw [len_tight (Nat.zero_le _)] at e3
 have f6:=want_ok h6 e2
 refine ⟨Or.inr (Or.inr ⟨y.1,t.1,e.1,rfl,n1,t1,e1⟩),f6.1,?_⟩
 have:=f1.2;have:=f2.2;have:=f3.2;have:=f4.2;have:=f6.2
 have hl:(itemToks ⟨3,y.1,t.1,0,[],e.1⟩).length=(toks e.1).length+5:=by
  show (nam y.1::fix sColon::fix (tyText t.1)::fix sIs::(toks e.1++[fix sSemi])).length=_
  simp
 show used s+(itemToks ⟨3,y.1,t.1,0,[],e.1⟩).length≤used s6
 omega
def allToks (l:List It):List Tok:=(l.map itemToks).flatten
theorem pprog_ok:∀(n:Nat) (acc:List It) (s:St) (l:List It),pprog n acc s=some l→StOk s→acc.length≤60→∃more,l=acc++more∧(∀i,i∈more→ItOk i)∧l.length≤60∧used s+(allToks more).length≤600
 | 0,_,_,_,h,_,_=>by cases h
 | n+1,acc,s,l,h,hs,ha=>by
  rw [pprog] at h
  by_cases c0:s.tok.kind=0
  ·rw [if_pos c0] at h
   obtain rfl:=Option.some.inj h
   refine ⟨[],by simp,(fun i hi=>by cases hi),ha,?_⟩
   unfold used;rw [if_pos c0]
   exact hs.2.2
  ·rw [if_neg c0] at h
   by_cases c1:acc.length=60
   ·rw [if_pos c1] at h;cases h
   ·rw [if_neg c1] at h
    obtain ⟨x,h1,h2⟩:=Option.bind_eq_some_iff.1 h
    obtain ⟨k1,k2,k3⟩:=pitem_ok h1 hs
    obtain ⟨more,e1,e2,e3,e4⟩:=pprog_ok n _ _ l h2 k2 (by simp;omega)
    refine ⟨x.1::more,by rw [e1];simp,?_,e3,?_⟩
    ·intro i hi
     rcases List.mem_cons.1 hi with rfl | hi
     ·exact k1
     ·exact e2 i hi
    ·have:(allToks (x.1::more)).length=(itemToks x.1).length+(allToks more).length:=by simp [allToks]
     omega
theorem parsed_ok {b:Bytes} {l:List It} (h:Parsed b l):(∀i,i∈l→ItOk i)∧l.length≤60∧(allToks l).length≤600:=by
 obtain ⟨n,h⟩:=h
 unfold parse at h
 by_cases c:4000 < b.length
 ·rw [if_pos c] at h;cases h
 ·rw [if_neg c] at h
  obtain ⟨s,h1,h2⟩:=Option.bind_eq_some_iff.1 h
  obtain ⟨k1,k2⟩:=adv'_ok (Nat.zero_le _) h1
  obtain ⟨more,e1,e2,e3,e4⟩:=pprog_ok n [] s l h2 k1 (by simp)
  have e5:l=more:=by simpa using e1
  rw [←e5] at e2 e4
  exact ⟨e2,e3,by omega⟩
theorem pnames_le:∀(n m:Nat) (acc:List Bytes) (s:St) (x:List Bytes×St),n≤m→pnames n acc s=some x→pnames m acc s=some x
 | 0,_,_,_,_,_,h=>by cases h
 | n+1,0,_,_,_,hm,_=>by omega
 | n+1,m+1,acc,s,x,hm,h=>by
  rw [pnames] at h ⊢
  by_cases c:sees s sComma=true
  ·rw [if_pos c] at h ⊢
   obtain ⟨s1,h1,h⟩:=Option.bind_eq_some_iff.1 h
   obtain ⟨y,h2,h⟩:=Option.bind_eq_some_iff.1 h
   rw [h1,Option.bind_some,h2,Option.bind_some]
   exact pnames_le n m _ _ x (by omega) h
  ·rw [if_neg c] at h ⊢;exact h
theorem pitem_le {n m:Nat} (hm:n≤m) {s:St} {x:It×St} (h:pitem n s=some x):pitem m s=some x:=by
 unfold pitem at h ⊢
 by_cases c1:sees s wInput=true
 ·rw [if_pos c1] at h ⊢;exact h
 rw [if_neg c1] at h ⊢
 by_cases c2:sees s wOutput=true
 ·rw [if_pos c2] at h ⊢
  refine (Imp.refl _).bind (fun _=>(Imp.refl _).bind (fun _=>Imp.bind (fun y hy=>pnames_le n m _ _ y hm hy) (fun _=>Imp.refl _))) x h
 rw [if_neg c2] at h ⊢
 refine (Imp.refl _).bind (fun _=>(Imp.refl _).bind (fun _=>(Imp.refl _).bind (fun _=>(Imp.refl _).bind (fun _=>Imp.bind (fun y hy=>px_le hm hy) (fun _=>Imp.refl _))))) x h
theorem pprog_le:∀(n m:Nat) (acc:List It) (s:St) (l:List It),n≤m→pprog n acc s=some l→pprog m acc s=some l
 | 0,_,_,_,_,_,h=>by cases h
 | n+1,0,_,_,_,hm,_=>by omega
 | n+1,m+1,acc,s,l,hm,h=>by
  rw [pprog] at h ⊢
  by_cases c0:s.tok.kind=0
  ·rw [if_pos c0] at h ⊢;exact h
  ·rw [if_neg c0] at h ⊢
   by_cases c1:acc.length=60
   ·rw [if_pos c1] at h;cases h
   ·rw [if_neg c1] at h ⊢
    obtain ⟨x,h1,h2⟩:=Option.bind_eq_some_iff.1 h
    rw [pitem_le (show n≤m by omega) h1,Option.bind_some]
    exact pprog_le n m _ _ l (by omega) h2
end Mil
end
section
namespace Mil
def Rname (acc:List Bytes) (s:St) (l:List Bytes×St):Prop:=∃n,pnames n acc s=some l
theorem Rname.unique {acc:List Bytes} {s:St} {x y:List Bytes×St} (h:Rname acc s x) (k:Rname acc s y):x=y:=by
 obtain ⟨n,hn⟩:=h
 obtain ⟨m,hm⟩:=k
 have h1:=pnames_le n (n+m) acc s x (by omega) hn
 have h2:=pnames_le m (n+m) acc s y (by omega) hm
 exact Option.some.inj (h1.symm.trans h2)
theorem name_stop {acc:List Bytes} {s:St} (h:sees s sComma=false):Rname acc s (acc,s):=⟨1,by rw [pnames,h];rfl⟩
theorem name_go {acc:List Bytes} {s s1:St} {x:Bytes×St} {l:List Bytes×St} (h:sees s sComma=true) (h1:adv s=some s1) (h2:name s1=some x):Rname acc s l↔Rname (acc++[x.1]) x.2 l:=by
 constructor
 ·rintro ⟨n,hn⟩
  cases n with
  | zero=>cases hn
  | succ n=>
   rw [pnames,if_pos h,h1,Option.bind_some,h2,Option.bind_some] at hn
   exact ⟨n,hn⟩
 ·rintro ⟨n,hn⟩
  exact ⟨n+1,by rw [pnames,if_pos h,h1,Option.bind_some,h2,Option.bind_some];exact hn⟩
def Rin (s:St) (i:It) (t:St):Prop:=∃x s3 y s5 k,name s=some x∧want x.2 sColon=some s3∧ftype s3=some y∧want y.2 wEvery=some s5∧number 1 1000000 s5=some k∧want k.2 sSemi=some t∧i=⟨1,x.1,y.1,k.1,[],eNil⟩
def Rout (s:St) (i:It) (t:St):Prop:=∃x l,name s=some x∧Rname [x.1] x.2 l∧want l.2 sSemi=some t∧i=⟨2,[],0,0,l.1,eNil⟩
def Req (s:St) (i:It) (t:St):Prop:=∃x s2 y s4 e,name s=some x∧want x.2 sColon=some s2∧ftype s2=some y∧want y.2 sIs=some s4∧Ok 0 eNil s4 e∧want e.2 sSemi=some t∧i=⟨3,x.1,y.1,0,[],e.1⟩
def Rit (s:St) (i:It) (t:St):Prop:=∃n,pitem n s=some (i,t)
theorem Rit.unique {s:St} {i j:It} {t u:St} (h:Rit s i t) (k:Rit s j u):(i,t)=(j,u):=by
 obtain ⟨n,hn⟩:=h
 obtain ⟨m,hm⟩:=k
 have h1:=pitem_le (show n≤n+m by omega) hn
 have h2:=pitem_le (show m≤n+m by omega) hm
 exact Option.some.inj (h1.symm.trans h2)
theorem it_in {s:St} (h:sees s wInput=true) (i:It) (t:St):Rit s i t↔∃s1,adv s=some s1∧Rin s1 i t:=by
 constructor
 ·rintro ⟨n,hn⟩
  unfold pitem at hn
  rw [if_pos h] at hn
  obtain ⟨s1,h1,hn⟩:=Option.bind_eq_some_iff.1 hn
  obtain ⟨x,h2,hn⟩:=Option.bind_eq_some_iff.1 hn
  obtain ⟨s3,h3,hn⟩:=Option.bind_eq_some_iff.1 hn
  obtain ⟨y,h4,hn⟩:=Option.bind_eq_some_iff.1 hn
  obtain ⟨s5,h5,hn⟩:=Option.bind_eq_some_iff.1 hn
  obtain ⟨k,h6,hn⟩:=Option.bind_eq_some_iff.1 hn
  obtain ⟨s7,h7,hn⟩:=Option.map_eq_some_iff.1 hn
  obtain ⟨rfl,rfl⟩:=Prod.mk.inj hn
  exact ⟨s1,h1,x,s3,y,s5,k,h2,h3,h4,h5,h6,h7,rfl⟩
 ·rintro ⟨s1,h1,x,s3,y,s5,k,h2,h3,h4,h5,h6,h7,rfl⟩
  refine ⟨0,?_⟩
  unfold pitem
  rw [if_pos h,h1,Option.bind_some,h2,Option.bind_some,h3,Option.bind_some,h4,Option.bind_some,h5,Option.bind_some,h6,Option.bind_some,h7];rfl
theorem it_out {s:St} (h:sees s wOutput=true) (i:It) (t:St):Rit s i t↔∃s1,adv s=some s1∧Rout s1 i t:=by
 have o1:=sees_other h (y:=wInput) (by decide)
 constructor
 ·rintro ⟨n,hn⟩
  unfold pitem at hn
  rw [o1,if_neg (by decide),if_pos h] at hn
  obtain ⟨s1,h1,hn⟩:=Option.bind_eq_some_iff.1 hn
  obtain ⟨x,h2,hn⟩:=Option.bind_eq_some_iff.1 hn
  obtain ⟨l,h3,hn⟩:=Option.bind_eq_some_iff.1 hn
  obtain ⟨s7,h7,hn⟩:=Option.map_eq_some_iff.1 hn
  obtain ⟨rfl,rfl⟩:=Prod.mk.inj hn
  exact ⟨s1,h1,x,l,h2,⟨n,h3⟩,h7,rfl⟩
 ·rintro ⟨s1,h1,x,l,h2,⟨n,h3⟩,h7,rfl⟩
  refine ⟨n,?_⟩
  unfold pitem
  rw [o1,if_neg (by decide),if_pos h,h1,Option.bind_some,h2,Option.bind_some,h3,Option.bind_some,h7];rfl
theorem it_eq {s:St} (o1:sees s wInput=false) (o2:sees s wOutput=false) (i:It) (t:St):Rit s i t↔Req s i t:=by
 constructor
 ·rintro ⟨n,hn⟩
  unfold pitem at hn
  rw [o1,if_neg (by decide),o2,if_neg (by decide)] at hn
  obtain ⟨x,h2,hn⟩:=Option.bind_eq_some_iff.1 hn
  obtain ⟨s3,h3,hn⟩:=Option.bind_eq_some_iff.1 hn
  obtain ⟨y,h4,hn⟩:=Option.bind_eq_some_iff.1 hn
  obtain ⟨s5,h5,hn⟩:=Option.bind_eq_some_iff.1 hn
  obtain ⟨e,h6,hn⟩:=Option.bind_eq_some_iff.1 hn
  obtain ⟨s7,h7,hn⟩:=Option.map_eq_some_iff.1 hn
  obtain ⟨rfl,rfl⟩:=Prod.mk.inj hn
  exact ⟨x,s3,y,s5,e,h2,h3,h4,h5,⟨n,h6⟩,h7,rfl⟩
 ·rintro ⟨x,s3,y,s5,e,h2,h3,h4,h5,⟨n,h6⟩,h7,rfl⟩
  refine ⟨n,?_⟩
  unfold pitem
  rw [o1,if_neg (by decide),o2,if_neg (by decide),h2,Option.bind_some,h3,Option.bind_some,h4,Option.bind_some,h5,Option.bind_some,h6,Option.bind_some,h7];rfl
end Mil
end
end Go.Proofs.YticbokabjhnagaaGreatDoor
