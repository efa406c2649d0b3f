import Derived.Test.YticbokabjhnagaaGreatDoorW00
namespace Go.Proofs.YticbokabjhnagaaGreatDoor
set_option maxHeartbeats 32000000
section
namespace Mil
open Go.Deep
def brackT (t l:Nat) (x:List Tok):List Tok:=if t < l then fix sOpen::(x++[fix sShut]) else x
def preLvl (x:Bytes):Nat:=if x=wNot then 3 else 7
def toks:E→List Tok
 | .nil=>[]
 | .node 1 k _ _ _=>[num k]
 | .node 2 k _ _ _=>[fix (if k=1 then wTrue else wFalse)]
 | .node 3 _ x _ _=>[nam x]
 | .node 4 _ x a _=>fix x::brackT (tight a) (preLvl x) (toks a)
 | .node 5 _ x a b=>brackT (tight a) (leftOf (tightOf x)) (toks a)++fix x::brackT (tight b) (tightOf x+1) (toks b)
 | .node 6 _ _ a b=>fix wIf::(toks a++toks b)
 | .node 0 _ _ a b=>fix wThen::(toks a++fix wElse::toks b)
 | .node 7 _ _ a b=>fix wFby::fix sOpen::(toks a++fix sComma::(toks b++[fix sShut]))
 | .node 8 k _ a _=>fix wUnder::fix sOpen::(toks a++[fix sComma,num k,fix sShut])
 | .node 9 k _ a b=>fix wHold::fix sOpen::(toks a++fix sComma::(toks b++[fix sComma,num k,fix sShut]))
 | .node _ _ x a b=>fix x::fix sOpen::(toks a++fix sComma::(toks b++[fix sShut]))
def NameOk (x:Bytes):Prop:=(∃c r,x=c::r∧isL c=true)∧(∀c,c∈x→isN c=true)∧x.length≤12∧words.contains x=false
def isConst (e:E):Prop:=(∃k:Nat,(k:Int)≤maxInt∧e=eInt k)∨(∃k,(k=0∨k=1)∧e=eBool k)∨(∃k:Nat,(k:Int)≤maxInt∧e=ePre sMinus (eInt k))
def wf:E→Bool→Prop
 | .nil,_=>False
 | .node t o x a b,true=>t=0∧o=0∧x=[]∧wf a false∧wf b false
 | .node t o x a b,false=>
  (t=1∧x=[]∧(o:Int)≤maxInt∧a=.nil∧b=.nil)∨(t=2∧x=[]∧(o=0∨o=1)∧a=.nil∧b=.nil)∨(t=3∧o=0∧NameOk x∧a=.nil∧b=.nil) ∨
  (t=4∧o=0∧(x=wNot∨x=sMinus)∧wf a false∧b=.nil)∨(t=5∧o=0∧tightOf x≠9∧wf a false∧wf b false)∨(t=6∧o=0∧x=[]∧wf a false∧wf b true) ∨
  (t=7∧o=0∧x=[]∧isConst a∧wf b false)∨(t=8∧x=[]∧2≤o∧o≤1000∧wf a false∧b=.nil)∨(t=9∧x=[]∧2≤o∧o≤1000∧isConst a∧wf b false) ∨
  (t=10∧o=0∧(x=wMin∨x=wMax)∧wf a false∧wf b false)
theorem wf_induct {P:E→Prop}
  (hInt:∀k:Nat,(k:Int)≤maxInt→P (eInt k)) (hBool:∀k,k=0∨k=1→P (eBool k)) (hName:∀x,NameOk x→P (eName x))
  (hPre:∀x a,x=wNot∨x=sMinus→wf a false→P a→P (ePre x a)) (hTwo:∀x a b,tightOf x≠9→wf a false→wf b false→P a→P b→P (eTwo x a b))
  (hIf:∀a b c,wf a false→wf b false→wf c false→P a→P b→P c→P (eIf a b c)) (hFby:∀a b,isConst a→wf b false→P b→P (eFby a b))
  (hUnder:∀a k,2≤k→k≤1000→wf a false→P a→P (eUnder a k)) (hHold:∀a b k,2≤k→k≤1000→isConst a→wf b false→P b→P (eHold a b k))
  (hLeast:∀x a b,x=wMin∨x=wMax→wf a false→wf b false→P a→P b→P (eLeast x a b)) :
  ∀e:E,wf e false→P e:=by
 have main:∀e:E,(wf e false→P e)∧(wf e true→∃b c,e=.node 0 0 [] b c∧wf b false∧wf c false∧P b∧P c):=by
  intro e
  induction e with
  | nil=>exact ⟨fun h=>h.elim,fun h=>h.elim⟩
  | node t o x a b iha ihb=>
   refine ⟨fun h=>?_,fun h=>?_⟩
   ·rcases h with ⟨rfl,rfl,h,rfl,rfl⟩ | ⟨rfl,rfl,h,rfl,rfl⟩ | ⟨rfl,rfl,h,rfl,rfl⟩ | ⟨rfl,rfl,h,ha,rfl⟩ | ⟨rfl,rfl,h,ha,hb⟩ | ⟨rfl,rfl,rfl,ha,hb⟩ | ⟨rfl,rfl,rfl,ha,hb⟩ | ⟨rfl,rfl,h,k,ha,rfl⟩ | ⟨rfl,rfl,h,k,ha,hb⟩ | ⟨rfl,rfl,h,ha,hb⟩
    ·exact hInt o h
    ·exact hBool o h
    ·exact hName x h
    ·exact hPre x a h ha (iha.1 ha)
    ·exact hTwo x a b h ha hb (iha.1 ha) (ihb.1 hb)
    ·obtain ⟨c,d,rfl,hc,hd,pc,pd⟩:=ihb.2 hb
     exact hIf a c d ha hc hd (iha.1 ha) pc pd
    ·exact hFby a b ha hb (ihb.1 hb)
    ·exact hUnder a o h k ha (iha.1 ha)
    ·exact hHold a b o h k ha hb (ihb.1 hb)
    ·exact hLeast x a b h ha hb (iha.1 ha) (ihb.1 hb)
   ·obtain ⟨rfl,rfl,rfl,ha,hb⟩:=h
    exact ⟨a,b,rfl,ha,hb,iha.1 ha,ihb.1 hb⟩
 exact fun e h=>(main e).1 h
theorem wf_const {c:E} (h:isConst c):wf c false:=by
 rcases h with ⟨k,hk,rfl⟩ | ⟨k,hk,rfl⟩ | ⟨k,hk,rfl⟩
 ·exact Or.inl ⟨rfl,rfl,hk,rfl,rfl⟩
 ·exact Or.inr (Or.inl ⟨rfl,rfl,hk,rfl,rfl⟩)
 ·exact Or.inr (Or.inr (Or.inr (Or.inl ⟨rfl,rfl,Or.inr rfl,Or.inl ⟨rfl,rfl,hk,rfl,rfl⟩,rfl⟩)))
def Sees:St→List Tok→St→Prop
 | s,[],s'=>s=s'
 | s,t::r,s'=>s.tok=t∧∃s1,adv s=some s1∧Sees s1 r s'
theorem Sees.append {s s':St}:∀{x y:List Tok},Sees s (x++y) s'→∃s1,Sees s x s1∧Sees s1 y s'
 | [],_,h=>⟨s,rfl,h⟩
 | t::r,y,h=>by
  obtain ⟨ht,s1,h1,h2⟩:=h
  obtain ⟨s2,h3,h4⟩:=Sees.append (s:=s1) (x:=r) h2
  exact ⟨s2,⟨ht,s1,h1,h3⟩,h4⟩
theorem Sees.one {s s':St} {t:Tok} (h:Sees s [t] s'):s.tok=t∧adv s=some s':=by
 obtain ⟨ht,s1,h1,h2⟩:=h
 have:s1=s':=h2
 subst this
 exact ⟨ht,h1⟩
def isF (t:Tok) (x:Bytes):Bool:=t.kind==3 && t.txt==x
theorem sees_isF (s:St) (x:Bytes):sees s x=isF s.tok x:=rfl
theorem isF_fix (x y:Bytes):isF (fix x) y=(x==y):=by simp [isF,fix]
theorem isF_nam (x y:Bytes):isF (nam x) y=false:=by simp [isF,nam]
theorem isF_num (k:Nat) (y:Bytes):isF (num k) y=false:=by simp [isF,num]
theorem sees_fix {s:St} {x:Bytes} (h:s.tok=fix x) (y:Bytes):sees s y=(x==y):=by rw [sees_isF,h,isF_fix]
theorem sees_num {s:St} {k:Nat} (h:s.tok=num k) (y:Bytes):sees s y=false:=by rw [sees_isF,h,isF_num]
theorem want_fix {s s':St} {x:Bytes} (h:s.tok=fix x) (h1:adv s=some s'):want s x=some s':=by
 unfold want;rw [sees_fix h];simp [h1]
theorem number_num {s s':St} {k:Nat} {lo hi:Int} (h:s.tok=num k) (h1:adv s=some s') (hl:lo≤(k:Int)) (hh:(k:Int)≤hi):number lo hi s=some (k,s'):=by
 have hv:s.tok.val=(k:Int):=by rw [h];rfl
 have hk:s.tok.kind=2:=by rw [h];rfl
 unfold number
 rw [if_pos ⟨hk,by rw [hv];exact hl,by rw [hv];exact hh⟩,h1,Option.map_some,hv]
 rfl
theorem tight_two (x:Bytes) (a b:E):tight (eTwo x a b)=tightOf x:=rfl
theorem tight_pre (x:Bytes) (a:E):tight (ePre x a)=preLvl x:=rfl
theorem tight_not (a:E):tight (ePre wNot a)=3:=by rw [tight_pre];decide
theorem tight_minus (a:E):tight (ePre sMinus a)=7:=by rw [tight_pre];decide
theorem tight_if (a b c:E):tight (eIf a b c)=0:=rfl
theorem tightOf_cases (x:Bytes):tightOf x=1∨tightOf x=2∨tightOf x=4∨tightOf x=5∨tightOf x=6∨tightOf x=9:=by
 unfold tightOf
 repeat' split
 all_goals simp
theorem preLvl_cases (x:Bytes):preLvl x=3∨preLvl x=7:=by
 unfold preLvl;split
 ·exact Or.inl rfl
 ·exact Or.inr rfl
def HeadOk (t:Tok) (k:Nat):Prop:=(0 < k→isF t wIf=false)∧(3 < k→isF t wNot=false)∧(7 < k→isF t sMinus=false)
theorem HeadOk.mono {t:Tok} {k l:Nat} (h:HeadOk t k) (hl:l≤k):HeadOk t l:=⟨fun a=>h.1 (by omega),fun a=>h.2.1 (by omega),fun a=>h.2.2 (by omega)⟩
theorem headOk_open:HeadOk (fix sOpen) 8:=⟨fun _=>by decide,fun _=>by decide,fun _=>by decide⟩
theorem toks_head:∀e:E,wf e false→∃t r,toks e=t::r∧HeadOk t (tight e):=by
 apply wf_induct
 ·intro k _;exact ⟨num k,[],rfl,fun _=>isF_num _ _,fun _=>isF_num _ _,fun _=>isF_num _ _⟩
 ·intro k hk
  rcases hk with rfl | rfl
  ·exact ⟨fix wFalse,[],rfl,fun _=>by decide,fun _=>by decide,fun _=>by decide⟩
  ·exact ⟨fix wTrue,[],rfl,fun _=>by decide,fun _=>by decide,fun _=>by decide⟩
 ·intro x _;exact ⟨nam x,[],rfl,fun _=>isF_nam _ _,fun _=>isF_nam _ _,fun _=>isF_nam _ _⟩
 ·intro x a hx _ _
  refine ⟨fix x,_,rfl,?_⟩
  rcases hx with rfl | rfl
  ·exact ⟨fun _=>by decide,fun h=>by rw [tight_not] at h;omega,fun h=>by rw [tight_not] at h;omega⟩
  ·exact ⟨fun _=>by decide,fun _=>by decide,fun h=>by rw [tight_minus] at h;omega⟩
 ·intro x a b hx ha _ iha _
  obtain ⟨t,r,hr,ht⟩:=iha
  have hl:tightOf x≤leftOf (tightOf x):=by unfold leftOf;split <;> omega
  have hle:tightOf x≤8:=by rcases tightOf_cases x with h | h | h | h | h | h <;> omega
  by_cases hb:tight a < leftOf (tightOf x)
  ·refine ⟨fix sOpen,(toks a++[fix sShut])++fix x::brackT (tight b) (tightOf x+1) (toks b),?_,headOk_open.mono hle⟩
   show brackT (tight a) (leftOf (tightOf x)) (toks a)++_=_
   rw [brackT,if_pos hb];rfl
  ·refine ⟨t,r++fix x::brackT (tight b) (tightOf x+1) (toks b),?_,ht.mono (by show tightOf x≤tight a;omega)⟩
   show brackT (tight a) (leftOf (tightOf x)) (toks a)++_=_
   rw [brackT,if_neg hb,hr];rfl
 ·intro a b c _ _ _ _ _ _
  exact ⟨fix wIf,_,rfl,fun h=>by rw [tight_if] at h;omega,fun h=>by rw [tight_if] at h;omega,fun h=>by rw [tight_if] at h;omega⟩
 ·intro a b _ _ _
  exact ⟨fix wFby,_,rfl,fun _=>by decide,fun _=>by decide,fun _=>by decide⟩
 ·intro a k _ _ _ _
  exact ⟨fix wUnder,_,rfl,fun _=>by decide,fun _=>by decide,fun _=>by decide⟩
 ·intro a b k _ _ _ _ _
  exact ⟨fix wHold,_,rfl,fun _=>by decide,fun _=>by decide,fun _=>by decide⟩
 ·intro x a b hx _ _ _ _
  refine ⟨fix x,_,rfl,?_⟩
  rcases hx with rfl | rfl
  ·exact ⟨fun _=>by decide,fun _=>by decide,fun _=>by decide⟩
  ·exact ⟨fun _=>by decide,fun _=>by decide,fun _=>by decide⟩
def Stop (l:Nat) (s:St):Prop:=opAt s < l∨opAt s=9
theorem Stop.mono {l k:Nat} {s:St} (h:Stop l s) (hk:l≤k):Stop k s:=by unfold Stop at *;omega
theorem opAt_fix {s:St} {x:Bytes} (h:s.tok=fix x):opAt s=tightOf x:=by unfold opAt;rw [h];rfl
theorem descend {e:E} {s s':St} {t:Tok} (ht:s.tok=t):∀(d l:Nat),l+d≤8→HeadOk t (l+d)→Stop l s'→Ok (l+d) eNil s (e,s')→Ok l eNil s (e,s')
 | 0,l,_,_,_,h=>h
 | d+1,l,h8,hh,hs,h=>by
  have e1:l+(d+1)=(l+1)+d:=by omega
  rw [e1] at h h8 hh
  have h1:=descend ht d (l+1) h8 hh (hs.mono (by omega)) h
  rcases Nat.eq_zero_or_pos l with rfl | hl
  ·exact ok_noif (by rw [sees_isF,ht];exact hh.1 (by omega)) h1
  ·have hno:opAt s'≠l:=by unfold Stop at hs;omega
   refine ok_level hl (by omega) ?_ h1 (ok_stop hno)
   rintro (⟨rfl,hx⟩ | ⟨rfl,hx⟩)
   ·rw [sees_isF,ht,hh.2.1 (by omega)] at hx;cases hx
   ·rw [sees_isF,ht,hh.2.2 (by omega)] at hx;cases hx
end Mil
end
section
namespace Mil
open Go.Deep
theorem kind_fix {s:St} {x:Bytes} (h:s.tok=fix x):s.tok.kind=3:=by rw [h];rfl
theorem kind_num {s:St} {k:Nat} (h:s.tok=num k):s.tok.kind=2:=by rw [h];rfl
theorem kind_nam {s:St} {x:Bytes} (h:s.tok=nam x):s.tok.kind=1:=by rw [h];rfl
theorem tight_le:∀e:E,wf e false→tight e≤8:=by
 apply wf_induct
 ·intro k _;exact Nat.le_refl _
 ·intro k _;exact Nat.le_refl _
 ·intro x _;exact Nat.le_refl _
 ·intro x a _ _ _;rw [tight_pre];rcases preLvl_cases x with h | h <;> omega
 ·intro x a b hx _ _ _ _;rw [tight_two];rcases tightOf_cases x with h | h | h | h | h | h <;> omega
 ·intro a b c _ _ _ _ _ _;exact Nat.zero_le _
 ·intro a b _ _ _;exact Nat.le_refl _
 ·intro a k _ _ _ _;exact Nat.le_refl _
 ·intro a b k _ _ _ _ _;exact Nat.le_refl _
 ·intro x a b _ _ _ _ _;exact Nat.le_refl _
theorem literal_num {s s':St} {k:Nat} (h:s.tok=num k) (h1:adv s=some s') (hk:(k:Int)≤maxInt):literal s=some (eInt k,s'):=by
 unfold literal
 rw [sees_num h,sees_num h,if_neg (by decide),if_neg (by decide),number_num h h1 (by omega) hk];rfl
theorem literal_true {s s':St} (h:s.tok=fix wTrue) (h1:adv s=some s'):literal s=some (eBool 1,s'):=by
 unfold literal
 rw [sees_fix h,if_pos (by decide),h1];rfl
theorem literal_false {s s':St} (h:s.tok=fix wFalse) (h1:adv s=some s'):literal s=some (eBool 0,s'):=by
 unfold literal
 rw [sees_fix h,sees_fix h,if_neg (by decide),if_pos (by decide),h1];rfl
theorem constant_of {c:E} (hc:isConst c) {s s':St} (h:Sees s (toks c) s'):constant s=some (c,s'):=by
 rcases hc with ⟨k,hk,rfl⟩ | ⟨k,hk,rfl⟩ | ⟨k,hk,rfl⟩
 ·obtain ⟨ht,h1⟩:=Sees.one h
  unfold constant
  rw [sees_num ht,if_neg (by decide)]
  exact literal_num ht h1 hk
 ·unfold constant
  rcases hk with rfl | rfl
  ·obtain ⟨ht,h1⟩:=Sees.one (t:=fix wFalse) h
   rw [sees_fix ht,if_neg (by decide)]
   exact literal_false ht h1
  ·obtain ⟨ht,h1⟩:=Sees.one (t:=fix wTrue) h
   rw [sees_fix ht,if_neg (by decide)]
   exact literal_true ht h1
 ·have h':Sees s (fix sMinus::[num k]) s':=h
  obtain ⟨ht,s1,h1,h2⟩:=h'
  obtain ⟨ht2,h3⟩:=Sees.one h2
  unfold constant
  rw [sees_fix ht,if_pos (by decide),h1,Option.bind_some,number_num ht2 h3 (by omega) hk];rfl
def Own (e:E):Prop:=∀s s',Sees s (toks e) s'→Stop (tight e) s'→Ok (tight e) eNil s (e,s')
def Bare (e:E):Prop:=∀l s s',l≤tight e→Sees s (toks e) s'→Stop l s'→Ok l eNil s (e,s')
def Brk (e:E):Prop:=∀l s s',l≤8→Sees s (brackT (tight e) l (toks e)) s'→Stop l s'→Ok l eNil s (e,s')
def Lft (e:E):Prop:=∀l,l≠4→l+1≤8→∀s s1,Sees s (brackT (tight e) l (toks e)) s1→opAt s1=l→∃a0 s0,Ok (l+1) eNil s (a0,s0)∧∀x,Ok (10+l) e s1 x→Ok (10+l) a0 s0 x
theorem bare_of {e:E} (hw:wf e false) (h:Own e):Bare e:=by
 intro l s s' hl hs hst
 obtain ⟨t,r,hr,hh⟩:=toks_head e hw
 have ht:s.tok=t:=by rw [hr] at hs;exact hs.1
 have h1:=h s s' hs (hst.mono hl)
 have e1:tight e=l+(tight e - l):=by omega
 rw [e1] at h1 hh
 exact descend ht (tight e - l) l (by have:=tight_le e hw;omega) hh hst h1
theorem ok_brackets {s s1 s2 s':St} {e:E} (ht:s.tok=fix sOpen) (h1:adv s=some s1) (h2:Ok 0 eNil s1 (e,s2)) (h3:s2.tok=fix sShut) (h4:adv s2=some s'):Ok 8 eNil s (e,s'):=by
 obtain ⟨n,hn⟩:=h2
 refine ok_atom (n:=n) ?_
 unfold atom
 rw [if_neg (by rw [kind_fix ht];decide),if_pos (by rw [sees_fix ht];decide),h1,Option.bind_some,hn,Option.bind_some,want_fix h3 h4];rfl
theorem brk_of {e:E} (hw:wf e false) (h:Own e):Brk e:=by
 intro l s s' hl hs hst
 by_cases hb:tight e < l
 ·rw [brackT,if_pos hb] at hs
  obtain ⟨ht,s1,h1,h2⟩:=hs
  obtain ⟨s2,h3,h4⟩:=Sees.append h2
  obtain ⟨h5,h6⟩:=Sees.one h4
  have h7:=bare_of hw h 0 s1 s2 (Nat.zero_le _) h3 (Or.inr (by rw [opAt_fix h5];decide))
  have h8:=ok_brackets ht h1 h7 h5 h6
  have e1:8=l+(8 - l):=by omega
  rw [e1] at h8
  exact descend ht (8 - l) l (by omega) (headOk_open.mono (by omega)) hst h8
 ·rw [brackT,if_neg hb] at hs
  exact bare_of hw h l s s' (by omega) hs hst
theorem lft_of {e:E} (hb:Brk e) (l:Nat) (hl:l+1≤8) (hne:tight e≠l) {s s1:St} (hs:Sees s (brackT (tight e) l (toks e)) s1) (ho:opAt s1=l) :
  ∃a0 s0,Ok (l+1) eNil s (a0,s0)∧∀x,Ok (10+l) e s1 x→Ok (10+l) a0 s0 x:=by
 have e1:brackT (tight e) l (toks e)=brackT (tight e) (l+1) (toks e):=by
  unfold brackT
  by_cases h:tight e < l
  ·rw [if_pos h,if_pos (by omega)]
  ·rw [if_neg h,if_neg (by omega)]
 rw [e1] at hs
 exact ⟨e,s1,hb (l+1) s s1 hl hs (Or.inl (by omega)),fun _ h=>h⟩
theorem own_two {x:Bytes} {a b:E} (hx:tightOf x≠9) (ha:Brk a) (la:Lft a) (hb:Brk b):Own (eTwo x a b):=by
 intro s s' hs hst
 have hs':Sees s (brackT (tight a) (leftOf (tightOf x)) (toks a)++fix x::brackT (tight b) (tightOf x+1) (toks b)) s':=hs
 obtain ⟨s1,h1,ht,s2,h2,h3⟩:=Sees.append hs'
 rw [tight_two] at hst ⊢
 have ho:=opAt_fix ht
 have hx1:s1.tok.txt=x:=by rw [ht];rfl
 have hc:=tightOf_cases x
 have hb':=hb (tightOf x+1) s2 s' (by omega) h3 (hst.mono (by omega))
 by_cases h4:tightOf x=4
 ·rw [leftOf,if_pos h4] at h1
  rw [h4] at ho hb' ⊢
  have ha':=ha 5 s s1 (by omega) h1 (Or.inl (by omega))
  refine ok_level (by omega) (by omega) (by omega) ha' ?_
  have:=ok_rel (a:=a) ho h2 hb'
  rw [hx1] at this
  exact this
 ·rw [leftOf,if_neg h4] at h1
  obtain ⟨a0,s0,k1,k2⟩:=la (tightOf x) h4 (by omega) s s1 h1 ho
  have hno:opAt s'≠tightOf x:=by unfold Stop at hst;omega
  have k3:=k2 (eTwo x a b,s') (by
   have:=ok_go h4 (a:=a) ho h2 hb' (x:=(eTwo x a b,s')) (by rw [hx1];exact ok_stop hno)
   exact this)
  exact ok_level (by omega) (by omega) (by omega) k1 k3
theorem lft_two {x:Bytes} {a b:E} (hw:wf (eTwo x a b) false) (ow:Own (eTwo x a b)) (la:Lft a) (hb:Brk b):Lft (eTwo x a b):=by
 intro l h4 h8 s s' hs ho
 by_cases hne:tight (eTwo x a b)≠l
 ·exact lft_of (brk_of hw ow) l h8 hne hs ho
 ·have hl:tightOf x=l:=by rw [←tight_two x a b];omega
  rw [brackT,if_neg (by omega)] at hs
  have hs':Sees s (brackT (tight a) (leftOf (tightOf x)) (toks a)++fix x::brackT (tight b) (tightOf x+1) (toks b)) s':=hs
  obtain ⟨s1,h1,ht,s2,h2,h3⟩:=Sees.append hs'
  have ho1:=opAt_fix ht
  have hx1:s1.tok.txt=x:=by rw [ht];rfl
  rw [hl] at h1 h3 ho1
  rw [leftOf,if_neg h4] at h1
  obtain ⟨a0,s0,k1,k2⟩:=la l h4 h8 s s1 h1 ho1
  refine ⟨a0,s0,k1,fun y hy=>k2 y ?_⟩
  have hb':=hb (l+1) s2 s' h8 h3 (Or.inl (by omega))
  exact ok_go h4 ho1 h2 hb' (by rw [hx1];exact hy)
theorem lft_default {e:E} (hw:wf e false) (ow:Own e) (h:∀l,l≠4→l+1≤8→tight e=l→(l=0∨l=3∨l=7)):Lft e:=by
 intro l h4 h8 s s1 hs ho
 by_cases hne:tight e=l
 ·have hc:opAt s1=1∨opAt s1=2∨opAt s1=4∨opAt s1=5∨opAt s1=6∨opAt s1=9:=by
   unfold opAt;split
   ·exact tightOf_cases _
   ·simp
  have:=h l h4 h8 hne
  omega
 ·exact lft_of (brk_of hw ow) l h8 hne hs ho
theorem own_int {k:Nat} (hk:(k:Int)≤maxInt):Own (eInt k):=by
 intro s s' hs _
 obtain ⟨ht,h1⟩:=Sees.one (t:=num k) hs
 refine ok_atom0 fun f=>?_
 unfold atom
 rw [if_neg (by rw [kind_num ht];decide)]
 simp only [sees_num ht,Bool.false_eq_true,if_false,Bool.or_false]
 exact literal_num ht h1 hk
theorem own_bool {k:Nat} (hk:k=0∨k=1):Own (eBool k):=by
 intro s s' hs _
 refine ok_atom0 fun f=>?_
 unfold atom
 rcases hk with rfl | rfl
 ·obtain ⟨ht,h1⟩:=Sees.one (t:=fix wFalse) hs
  rw [if_neg (by rw [kind_fix ht];decide),if_neg (by rw [sees_fix ht];decide),if_neg (by rw [sees_fix ht];decide),if_neg (by rw [sees_fix ht];decide),if_neg (by rw [sees_fix ht];decide),if_neg (by rw [sees_fix ht,sees_fix ht];decide)]
  exact literal_false ht h1
 ·obtain ⟨ht,h1⟩:=Sees.one (t:=fix wTrue) hs
  rw [if_neg (by rw [kind_fix ht];decide),if_neg (by rw [sees_fix ht];decide),if_neg (by rw [sees_fix ht];decide),if_neg (by rw [sees_fix ht];decide),if_neg (by rw [sees_fix ht];decide),if_neg (by rw [sees_fix ht,sees_fix ht];decide)]
  exact literal_true ht h1
theorem name_of {s s':St} {x:Bytes} (ht:s.tok=nam x) (h1:adv s=some s'):name s=some (x,s'):=by
 unfold name
 rw [if_pos (kind_nam ht),h1,ht];rfl
theorem own_name {x:Bytes}:Own (eName x):=by
 intro s s' hs _
 obtain ⟨ht,h1⟩:=Sees.one (t:=nam x) hs
 refine ok_atom0 fun f=>?_
 unfold atom
 rw [if_pos (kind_nam ht),name_of ht h1];rfl
theorem own_pre {x:Bytes} {a:E} (hx:x=wNot∨x=sMinus) (ha:Brk a):Own (ePre x a):=by
 intro s s' hs hst
 have hs':Sees s (fix x::brackT (tight a) (preLvl x) (toks a)) s':=hs
 obtain ⟨ht,s1,h1,h2⟩:=hs'
 rw [tight_pre] at hst ⊢
 have hx1:s.tok.txt=x:=by rw [ht];rfl
 have ha':=ha (preLvl x) s1 s' (by rcases preLvl_cases x with h | h <;> omega) h2 hst
 have hc:(preLvl x=3∧sees s wNot=true)∨(preLvl x=7∧sees s sMinus=true):=by
  rcases hx with rfl | rfl
  ·exact Or.inl ⟨by decide,by rw [sees_fix ht];decide⟩
  ·exact Or.inr ⟨by decide,by rw [sees_fix ht];decide⟩
 have:=ok_pre hc h1 ha'
 rw [hx1] at this
 exact this
theorem stop_fix {s:St} {x:Bytes} (h:s.tok=fix x) (hx:tightOf x=9) (l:Nat):Stop l s:=Or.inr (by rw [opAt_fix h];exact hx)
theorem own_if {a b c:E} (ha:Bare a) (hb:Bare b) (hc:Bare c):Own (eIf a b c):=by
 intro s s' hs hst
 have hs':Sees s (fix wIf::(toks a++fix wThen::(toks b++fix wElse::toks c))) s':=hs
 obtain ⟨ht,s1,h1,h2⟩:=hs'
 obtain ⟨s2,h3,ht2,s3,h4,h5⟩:=Sees.append h2
 obtain ⟨s4,h6,ht4,s5,h7,h8⟩:=Sees.append h5
 exact ok_if (by rw [sees_fix ht];decide) h1 (ha 0 s1 s2 (Nat.zero_le _) h3 (stop_fix ht2 (by decide) 0)) (want_fix ht2 h4) (hb 0 s3 s4 (Nat.zero_le _) h6 (stop_fix ht4 (by decide) 0)) (want_fix ht4 h7) (hc 0 s5 s' (Nat.zero_le _) h8 hst)
theorem own_fby {a b:E} (ha:isConst a) (hb:Bare b):Own (eFby a b):=by
 intro s s' hs _
 have hs':Sees s (fix wFby::fix sOpen::(toks a++fix sComma::(toks b++[fix sShut]))) s':=hs
 obtain ⟨ht,s1,h1,ht1,s2,h2,h3⟩:=hs'
 obtain ⟨s3,h4,ht3,s4,h5,h6⟩:=Sees.append h3
 obtain ⟨s5,h7,h8⟩:=Sees.append h6
 obtain ⟨ht5,h9⟩:=Sees.one h8
 obtain ⟨n,hn⟩:=hb 0 s4 s5 (Nat.zero_le _) h7 (stop_fix ht5 (by decide) 0)
 refine ok_atom (n:=n) ?_
 unfold atom
 rw [if_neg (by rw [kind_fix ht];decide),if_neg (by rw [sees_fix ht];decide),if_pos (by rw [sees_fix ht];decide),h1,Option.bind_some,want_fix ht1 h2,Option.bind_some,constant_of ha h4,Option.bind_some,want_fix ht3 h5,Option.bind_some,hn,Option.bind_some,want_fix ht5 h9];rfl
theorem own_under {a:E} {k:Nat} (h2:2≤k) (hk:k≤1000) (ha:Bare a):Own (eUnder a k):=by
 intro s s' hs _
 have hs':Sees s (fix wUnder::fix sOpen::(toks a++[fix sComma,num k,fix sShut])) s':=hs
 obtain ⟨ht,s1,h1,ht1,s2,g2,h3⟩:=hs'
 obtain ⟨s3,h4,ht3,s4,h5,ht4,s5,h6,h7⟩:=Sees.append h3
 obtain ⟨ht5,h9⟩:=Sees.one h7
 obtain ⟨n,hn⟩:=ha 0 s2 s3 (Nat.zero_le _) h4 (stop_fix ht3 (by decide) 0)
 refine ok_atom (n:=n) ?_
 unfold atom
 rw [if_neg (by rw [kind_fix ht];decide),if_neg (by rw [sees_fix ht];decide),if_neg (by rw [sees_fix ht];decide),if_pos (by rw [sees_fix ht];decide),h1,Option.bind_some,want_fix ht1 g2,Option.bind_some,hn,Option.bind_some,want_fix ht3 h5,Option.bind_some,number_num ht4 h6 (by omega) (by omega),Option.bind_some,want_fix ht5 h9];rfl
theorem own_hold {a b:E} {k:Nat} (h2:2≤k) (hk:k≤1000) (ha:isConst a) (hb:Bare b):Own (eHold a b k):=by
 intro s s' hs _
 have hs':Sees s (fix wHold::fix sOpen::(toks a++fix sComma::(toks b++[fix sComma,num k,fix sShut]))) s':=hs
 obtain ⟨ht,s1,h1,ht1,s2,g2,h3⟩:=hs'
 obtain ⟨s3,h4,ht3,s4,h5,h6⟩:=Sees.append h3
 obtain ⟨s5,h7,ht5,s6,h8,ht6,s7,h9,h10⟩:=Sees.append h6
 obtain ⟨ht7,h11⟩:=Sees.one h10
 obtain ⟨n,hn⟩:=hb 0 s4 s5 (Nat.zero_le _) h7 (stop_fix ht5 (by decide) 0)
 refine ok_atom (n:=n) ?_
 unfold atom
 rw [if_neg (by rw [kind_fix ht];decide),if_neg (by rw [sees_fix ht];decide),if_neg (by rw [sees_fix ht];decide),if_neg (by rw [sees_fix ht];decide),if_pos (by rw [sees_fix ht];decide),h1,Option.bind_some,want_fix ht1 g2,Option.bind_some,constant_of ha h4,Option.bind_some,want_fix ht3 h5,Option.bind_some,hn,Option.bind_some,want_fix ht5 h8,Option.bind_some,number_num ht6 h9 (by omega) (by omega),Option.bind_some,want_fix ht7 h11];rfl
theorem own_least {x:Bytes} {a b:E} (hx:x=wMin∨x=wMax) (ha:Bare a) (hb:Bare b):Own (eLeast x a b):=by
 intro s s' hs _
 have hs':Sees s (fix x::fix sOpen::(toks a++fix sComma::(toks b++[fix sShut]))) s':=hs
 obtain ⟨ht,s1,h1,ht1,s2,h2,h3⟩:=hs'
 obtain ⟨s3,h4,ht3,s4,h5,h6⟩:=Sees.append h3
 obtain ⟨s5,h7,h8⟩:=Sees.append h6
 obtain ⟨ht5,h9⟩:=Sees.one h8
 obtain ⟨n1,e1⟩:=ha 0 s2 s3 (Nat.zero_le _) h4 (stop_fix ht3 (by decide) 0)
 obtain ⟨n2,e2⟩:=hb 0 s4 s5 (Nat.zero_le _) h7 (stop_fix ht5 (by decide) 0)
 have f1:=px_le (show n1≤n1+n2 by omega) e1
 have f2:=px_le (show n2≤n1+n2 by omega) e2
 have hx1:s.tok.txt=x:=by rw [ht];rfl
 refine ok_atom (n:=n1+n2) ?_
 unfold atom
 rw [hx1,if_neg (by rw [kind_fix ht];decide)]
 rcases hx with rfl | rfl
 ·rw [if_neg (by rw [sees_fix ht];decide),if_neg (by rw [sees_fix ht];decide),if_neg (by rw [sees_fix ht];decide),if_neg (by rw [sees_fix ht];decide),if_pos (by rw [sees_fix ht,sees_fix ht];decide),h1,Option.bind_some,want_fix ht1 h2,Option.bind_some,f1,Option.bind_some,want_fix ht3 h5,Option.bind_some,f2,Option.bind_some,want_fix ht5 h9];rfl
 ·rw [if_neg (by rw [sees_fix ht];decide),if_neg (by rw [sees_fix ht];decide),if_neg (by rw [sees_fix ht];decide),if_neg (by rw [sees_fix ht];decide),if_pos (by rw [sees_fix ht,sees_fix ht];decide),h1,Option.bind_some,want_fix ht1 h2,Option.bind_some,f1,Option.bind_some,want_fix ht3 h5,Option.bind_some,f2,Option.bind_some,want_fix ht5 h9];rfl
theorem own_all:∀e:E,wf e false→Own e∧Lft e:=by
 have tri:∀{e:E},wf e false→Own e→tight e=8→Own e∧Lft e:=fun hw ow h8=>⟨ow,lft_default hw ow (fun l _ h1 h2=>by omega)⟩
 apply wf_induct
 ·intro k hk
  exact tri (Or.inl ⟨rfl,rfl,hk,rfl,rfl⟩) (own_int hk) rfl
 ·intro k hk
  exact tri (Or.inr (Or.inl ⟨rfl,rfl,hk,rfl,rfl⟩)) (own_bool hk) rfl
 ·intro x hx
  exact tri (Or.inr (Or.inr (Or.inl ⟨rfl,rfl,hx,rfl,rfl⟩))) own_name rfl
 ·intro x a hx hw ih
  have ow:=own_pre hx (brk_of hw ih.1)
  refine ⟨ow,lft_default (Or.inr (Or.inr (Or.inr (Or.inl ⟨rfl,rfl,hx,hw,rfl⟩)))) ow (fun l _ _ h=>?_)⟩
  rw [tight_pre] at h
  rcases preLvl_cases x with h' | h' <;> omega
 ·intro x a b hx ha hb iha ihb
  have ow:=own_two hx (brk_of ha iha.1) iha.2 (brk_of hb ihb.1)
  exact ⟨ow,lft_two (Or.inr (Or.inr (Or.inr (Or.inr (Or.inl ⟨rfl,rfl,hx,ha,hb⟩))))) ow iha.2 (brk_of hb ihb.1)⟩
 ·intro a b c ha hb hc iha ihb ihc
  have ow:=own_if (bare_of ha iha.1) (bare_of hb ihb.1) (bare_of hc ihc.1)
  refine ⟨ow,lft_default (Or.inr (Or.inr (Or.inr (Or.inr (Or.inr (Or.inl ⟨rfl,rfl,rfl,ha,rfl,rfl,rfl,hb,hc⟩)))))) ow (fun l _ _ h=>?_)⟩
  rw [tight_if] at h
  omega
 ·intro a b ha hb ih
  exact tri (Or.inr (Or.inr (Or.inr (Or.inr (Or.inr (Or.inr (Or.inl ⟨rfl,rfl,rfl,ha,hb⟩))))))) (own_fby ha (bare_of hb ih.1)) rfl
 ·intro a k h2 hk ha ih
  exact tri (Or.inr (Or.inr (Or.inr (Or.inr (Or.inr (Or.inr (Or.inr (Or.inl ⟨rfl,rfl,h2,hk,ha,rfl⟩)))))))) (own_under h2 hk (bare_of ha ih.1)) rfl
 ·intro a b k h2 hk ha hb ih
  exact tri (Or.inr (Or.inr (Or.inr (Or.inr (Or.inr (Or.inr (Or.inr (Or.inr (Or.inl ⟨rfl,rfl,h2,hk,ha,hb⟩))))))))) (own_hold h2 hk ha (bare_of hb ih.1)) rfl
 ·intro x a b hx ha hb iha ihb
  exact tri (Or.inr (Or.inr (Or.inr (Or.inr (Or.inr (Or.inr (Or.inr (Or.inr (Or.inr ⟨rfl,rfl,hx,ha,hb⟩))))))))) (own_least hx (bare_of ha iha.1) (bare_of hb ihb.1)) rfl
theorem back {e:E} (hw:wf e false) {s s':St} (h:Sees s (toks e) s') (hs:Stop 0 s'):Ok 0 eNil s (e,s'):=
 bare_of hw (own_all e hw).1 0 s s' (Nat.zero_le _) h hs
end Mil
end
section
namespace Mil
open Go.Deep
def StOk (s:St):Prop:=(s.tok.kind=1→NameOk s.tok.txt)∧(s.tok.kind≠0→1≤s.cnt)∧s.cnt≤600
def used (s:St):Nat:=if s.tok.kind=0 then s.cnt else s.cnt - 1
theorem mem_while {p:UInt8→Bool}:∀(l:Bytes) (d:UInt8),d∈l.takeWhile p→p d=true
 | [],_,h=>by cases h
 | c::r,d,h=>by
  rw [List.takeWhile_cons] at h
  by_cases hc:p c=true
  ·rw [if_pos hc] at h
   rcases List.mem_cons.1 h with rfl | h'
   ·exact hc
   ·exact mem_while r d h'
  ·rw [if_neg hc] at h;cases h
theorem cutName_ok {c:UInt8} {r:Bytes} (hc:isL c=true) {t:Tok} {b:Bytes} (h:cutName (c::r)=some (t,b)):t.kind=1→NameOk t.txt:=by
 unfold cutName at h
 by_cases h12:12 < ((c::r).takeWhile isN).length
 ·rw [if_pos h12] at h;cases h
 ·rw [if_neg h12] at h
  have h':=Option.some.inj h
  have ht:t=if words.contains ((c::r).takeWhile isN) then fix ((c::r).takeWhile isN) else nam ((c::r).takeWhile isN):=(congrArg Prod.fst h').symm
  by_cases hw:words.contains ((c::r).takeWhile isN)=true
  ·rw [if_pos hw] at ht;rw [ht];intro h1;exact absurd (show (3:Nat)=1 from h1) (by decide)
  ·rw [if_neg hw] at ht;rw [ht];intro _
   refine ⟨⟨c,r.takeWhile isN,?_,hc⟩,?_,by show ((c::r).takeWhile isN).length≤12;omega,by show words.contains ((c::r).takeWhile isN)=false;exact Bool.eq_false_iff.2 hw⟩
   ·show (c::r).takeWhile isN=_
    rw [List.takeWhile_cons,if_pos (by simp [isN,hc])]
   ·intro d hd
    exact mem_while _ d hd
theorem cut_ok {b:Bytes} {t:Tok} {r:Bytes} (h:cut b=some (t,r)):t.kind=1→NameOk t.txt:=by
 cases b with
 | nil=>
  have h':=Option.some.inj h
  have ht:t=⟨0,[],0⟩:=(congrArg Prod.fst h').symm
  rw [ht];intro h1;exact absurd h1 (by decide)
 | cons c q=>
  have h':(if isL c=true then cutName (c::q) else if isD c=true then cutNum (c::q) else cutSign (c::q))=some (t,r):=h
  by_cases hl:isL c=true
  ·rw [if_pos hl] at h';exact cutName_ok hl h'
  ·rw [if_neg hl] at h'
   by_cases hd:isD c=true
   ·rw [if_pos hd] at h'
    unfold cutNum at h'
    split at h'
    ·split at h'
     ·cases h'
     ·obtain ⟨rfl,rfl⟩:=Prod.mk.inj (Option.some.inj h')
      intro h1;exact absurd (show (2:Nat)=1 from h1) (by decide)
    ·cases h'
   ·rw [if_neg hd] at h'
    unfold cutSign at h'
    split at h'
    ·obtain ⟨rfl,rfl⟩:=Prod.mk.inj (Option.some.inj h')
     intro h1;exact absurd (show (3:Nat)=1 from h1) (by decide)
    ·cases h'
theorem adv'_ok {b:Bytes} {n:Nat} (hn:n≤600) {s:St} (h:adv' b n=some s):StOk s∧used s=n:=by
 unfold adv' at h
 split at h
 ·cases h
 ·rename_i t r hc
  have hk:=cut_ok hc
  by_cases h0:t.kind=0
  ·rw [if_pos h0] at h
   obtain rfl:=(Option.some.inj h).symm
   exact ⟨⟨fun h1=>hk h1,fun h1=>absurd h0 h1,hn⟩,by unfold used;rw [if_pos h0]⟩
  ·rw [if_neg h0] at h
   by_cases h6:600 < n+1
   ·rw [if_pos h6] at h;cases h
   ·rw [if_neg h6] at h
    obtain rfl:=(Option.some.inj h).symm
    exact ⟨⟨fun h1=>hk h1,fun _=>by show 1≤n+1;omega,by show n+1≤600;omega⟩,by unfold used;rw [if_neg h0];rfl⟩
def Fwd (s s1:St):Prop:=StOk s1∧used s1=used s+1
theorem adv_ok {s s1:St} (h:adv s=some s1) (hs:StOk s) (hk:s.tok.kind≠0):Fwd s s1:=by
 obtain ⟨h1,h2⟩:=adv'_ok hs.2.2 h
 refine ⟨h1,?_⟩
 rw [h2];unfold used;rw [if_neg hk]
 have:=hs.2.1 hk
 omega
theorem sees_kind {s:St} {x:Bytes} (h:sees s x=true):s.tok.kind≠0∧s.tok.txt=x:=by
 unfold sees at h
 simp only [Bool.and_eq_true,beq_iff_eq] at h
 exact ⟨by omega,h.2⟩
theorem want_ok {s s1:St} {x:Bytes} (h:want s x=some s1) (hs:StOk s):Fwd s s1:=by
 unfold want at h
 by_cases hx:sees s x=true
 ·rw [if_pos hx] at h;exact adv_ok h hs (sees_kind hx).1
 ·rw [if_neg hx] at h;cases h
theorem name_ok {s:St} {x:Bytes×St} (h:name s=some x) (hs:StOk s):NameOk x.1∧Fwd s x.2:=by
 unfold name at h
 by_cases hk:s.tok.kind=1
 ·rw [if_pos hk] at h
  obtain ⟨s1,h1,rfl⟩:=Option.map_eq_some_iff.1 h
  exact ⟨hs.1 hk,adv_ok h1 hs (by omega)⟩
 ·rw [if_neg hk] at h;cases h
theorem number_ok {s:St} {lo hi:Int} (h0:0≤lo) {x:Nat×St} (h:number lo hi s=some x) (hs:StOk s):lo≤(x.1:Int)∧(x.1:Int)≤hi∧Fwd s x.2:=by
 unfold number at h
 by_cases hk:s.tok.kind=2∧lo≤s.tok.val∧s.tok.val≤hi
 ·rw [if_pos hk] at h
  obtain ⟨s1,h1,rfl⟩:=Option.map_eq_some_iff.1 h
  obtain ⟨k1,k2,k3⟩:=hk
  exact ⟨by show lo≤(s.tok.val.toNat:Int);omega,by show (s.tok.val.toNat:Int)≤hi;omega,adv_ok h1 hs (by omega)⟩
 ·rw [if_neg hk] at h;cases h
theorem ftype_ok {s:St} {x:Nat×St} (h:ftype s=some x) (hs:StOk s):(x.1=0∨x.1=1)∧Fwd s x.2:=by
 unfold ftype at h
 by_cases h1:sees s wInt=true
 ·rw [if_pos h1] at h
  obtain ⟨s1,e1,rfl⟩:=Option.map_eq_some_iff.1 h
  exact ⟨Or.inl rfl,adv_ok e1 hs (sees_kind h1).1⟩
 ·rw [if_neg h1] at h
  by_cases h2:sees s wBool=true
  ·rw [if_pos h2] at h
   obtain ⟨s1,e1,rfl⟩:=Option.map_eq_some_iff.1 h
   exact ⟨Or.inr rfl,adv_ok e1 hs (sees_kind h2).1⟩
  ·rw [if_neg h2] at h;cases h
def len (e:E) (l:Nat):Nat:=(brackT (tight e) l (toks e)).length
theorem len_tight {e:E} {l:Nat} (h:l≤tight e):len e l=(toks e).length:=by unfold len brackT;rw [if_neg (by omega)]
theorem len_less {e:E} {l:Nat} (h:tight e < l):len e l=(toks e).length+2:=by unfold len brackT;rw [if_pos h];simp
theorem len_mono (e:E) {l k:Nat} (h:l≤k):len e l≤len e k:=by
 by_cases h1:tight e < l
 ·rw [len_less h1,len_less (by omega)];exact Nat.le_refl _
 ·rw [len_tight (by omega)]
  by_cases h2:tight e < k
  ·rw [len_less h2];omega
  ·rw [len_tight (by omega)];exact Nat.le_refl _
theorem len_le (e:E) (l:Nat):(toks e).length≤len e l:=by
 by_cases h1:tight e < l
 ·rw [len_less h1];omega
 ·rw [len_tight (by omega)];exact Nat.le_refl _
theorem literal_ok {s:St} {x:E×St} (h:literal s=some x) (hs:StOk s):isConst x.1∧len x.1 8=1∧Fwd s x.2:=by
 unfold literal at h
 by_cases h1:sees s wTrue=true
 ·rw [if_pos h1] at h
  obtain ⟨s1,e1,rfl⟩:=Option.map_eq_some_iff.1 h
  exact ⟨Or.inr (Or.inl ⟨1,Or.inr rfl,rfl⟩),rfl,adv_ok e1 hs (sees_kind h1).1⟩
 ·rw [if_neg h1] at h
  by_cases h2:sees s wFalse=true
  ·rw [if_pos h2] at h
   obtain ⟨s1,e1,rfl⟩:=Option.map_eq_some_iff.1 h
   exact ⟨Or.inr (Or.inl ⟨0,Or.inl rfl,rfl⟩),rfl,adv_ok e1 hs (sees_kind h2).1⟩
  ·rw [if_neg h2] at h
   obtain ⟨y,e1,rfl⟩:=Option.map_eq_some_iff.1 h
   obtain ⟨_,k2,k3⟩:=number_ok (by omega) e1 hs
   exact ⟨Or.inl ⟨y.1,k2,rfl⟩,rfl,k3⟩
theorem constant_ok {s:St} {x:E×St} (h:constant s=some x) (hs:StOk s):isConst x.1∧StOk x.2∧used s+(toks x.1).length≤used x.2:=by
 unfold constant at h
 by_cases h1:sees s sMinus=true
 ·rw [if_pos h1] at h
  obtain ⟨s1,e1,h2⟩:=Option.bind_eq_some_iff.1 h
  obtain ⟨y,e2,rfl⟩:=Option.map_eq_some_iff.1 h2
  have f1:=adv_ok e1 hs (sees_kind h1).1
  obtain ⟨_,k2,k3⟩:=number_ok (by omega) e2 f1.1
  refine ⟨Or.inr (Or.inr ⟨y.1,k2,rfl⟩),k3.1,?_⟩
  have hl:(toks (ePre sMinus (eInt y.1))).length=2:=rfl
  show used s+(toks (ePre sMinus (eInt y.1))).length≤used y.2
  rw [hl,k3.2,f1.2];omega
 ·rw [if_neg h1] at h
  obtain ⟨k1,k2,k3⟩:=literal_ok h hs
  refine ⟨k1,k3.1,?_⟩
  have:=len_le x.1 8
  rw [k3.2];omega
end Mil
end
end Go.Proofs.YticbokabjhnagaaGreatDoor
