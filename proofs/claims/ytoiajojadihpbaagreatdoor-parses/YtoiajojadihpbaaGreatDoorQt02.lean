import Derived.Test.YtoiajojadihpbaaGreatDoorQt01
import Derived.Deep.CutBlock
import Derived.Lib.Strings
import Derived.RegionTactic
import Derived.BigRegion
import Derived.Deep.RegionHeld2
namespace Go.Proofs.YtoiajojadihpbaaGreatDoor
set_option maxHeartbeats 8000000
set_option maxRecDepth 100000
section
namespace Mil
def Imp {α:Type} (a b:Option α):Prop:=∀x,a=some x->b=some x
theorem Imp.refl {α:Type} (a:Option α):Imp a a:=fun _ h=>h
theorem Imp.bind {α β:Type} {a a':Option α} {k k':α->Option β} (ha:Imp a a') (hk:∀x,Imp (k x) (k' x)):Imp (a.bind k) (a'.bind k'):=by
 intro y h
 obtain⟨x,hx,hy⟩:=obs h
 exact Option.bind_eq_some_iff.2 ⟨x,ha x hx,hk x y hy⟩
theorem Imp.map {α β:Type} {a a':Option α} {k:α->β} (ha:Imp a a'):Imp (a.map k) (a'.map k):=by
 intro y h
 obtain⟨x,hx,hy⟩:=oms h
 exact Option.map_eq_some_iff.2 ⟨x,ha x hx,hy⟩
theorem Imp.ite {α:Type} {c:Prop} [Decidable c] {a a' b b':Option α} (h1:Imp a a') (h2:Imp b b'):Imp (if c then a else b) (if c then a' else b'):=by
 by_cases h:c
 ·rw[if_pos h,if_pos h];exact h1
 ·rw[if_neg h,if_neg h];exact h2
theorem step_le {f g:Nat->E->St->Option (E×St)} (h:∀t e s,Imp (f t e s) (g t e s)) (t:Nat) (e:E) (s:St):Imp (step f t e s) (step g t e s):=by
 unfold step atom
 repeat' first|exact h _ _ _|exact Imp.refl _|refine Imp.ite ?_ ?_|refine Imp.bind ?_ (fun _=>?_)|refine Imp.map ?_
theorem px_succ (n:Nat) (t:Nat) (e:E) (s:St):px (n+1) t e s=step (px n) t e s:=rfl
theorem px_next:∀(n:Nat) (t:Nat) (e:E) (s:St),Imp (px n t e s) (px (n+1) t e s)
 | 0,_,_,_=>fun _ h=>by cases h
 | n+1,t,e,s=>by
  rw[px_succ,px_succ (n+1)]
  exact step_le (px_next n) t e s
theorem px_le {n m:Nat} (h:n<=m) {t:Nat} {e:E} {s:St} {x:E×St} (hx:px n t e s=some x):px m t e s=some x:=by
 induction h with
 | refl=>exact hx
 | step _ ih=>exact px_next _ _ _ _ _ ih
theorem Ok.unique {t:Nat} {e:E} {s:St} {x y:E×St} (h:Ok t e s x) (k:Ok t e s y):x=y:=by
 obtain⟨n,hn⟩:=h
 obtain⟨m,hm⟩:=k
 have h1:=px_le (Nat.le_max_left n m) hn
 have h2:=px_le (Nat.le_max_right n m) hm
 exact osi (h1.symm.trans h2)
theorem ok_noif {s:St} {x:E×St} (h:sees s wIf=false) (k:Ok 1 eNil s x):Ok 0 eNil s x:=by
 obtain⟨n,hn⟩:=k
 exact⟨n+1,by rw[px_succ];unfold step;rw[if_pos rfl,h,if_neg (by decide)];exact hn⟩
theorem ok_if {s s1 s3 s5:St} {a b c:E×St} (h:sees s wIf=true) (h1:adv s=some s1) (ha:Ok 0 eNil s1 a) (h3:want a.2 wThen=some s3) (hb:Ok 0 eNil s3 b)
  (h5:want b.2 wElse=some s5) (hc:Ok 0 eNil s5 c):Ok 0 eNil s (eIf a.1 b.1 c.1,c.2):=by
 obtain⟨n1,e1⟩:=ha
 obtain⟨n2,e2⟩:=hb
 obtain⟨n3,e3⟩:=hc
 have f1:=px_le (show n1<=n1+n2+n3 by omega) e1
 have f2:=px_le (show n2<=n1+n2+n3 by omega) e2
 have f3:=px_le (show n3<=n1+n2+n3 by omega) e3
 refine⟨n1+n2+n3+1,?_⟩
 rw[px_succ];unfold step
 rw[if_pos rfl,if_pos h,h1,Option.bind_some,f1,Option.bind_some,h3,Option.bind_some,f2,Option.bind_some,h5,Option.bind_some,f3,Option.map_some]
theorem ok_pre {l:Nat} {s s1:St} {a:E×St} (h:(l=3/\sees s wNot=true)\/(l=7/\sees s sMinus=true)) (h1:adv s=some s1) (ha:Ok l eNil s1 a):Ok l eNil s (ePre s.tok.txt a.1,a.2):=by
 obtain⟨n,e1⟩:=ha
 refine⟨n+1,?_⟩
 rw[px_succ];unfold step
 rw[if_neg (by omega),if_neg (by omega),if_pos (by omega),if_pos h,h1,Option.bind_some,e1,Option.map_some]
theorem ok_level {l:Nat} (h0:0 < l) (h8:l < 8) {s:St} {a x:E×St} (h:¬((l=3/\sees s wNot=true)\/(l=7/\sees s sMinus=true))) (ha:Ok (l+1) eNil s a) (hx:Ok (10+l) a.1 a.2 x):Ok l eNil s x:=by
 obtain⟨n1,e1⟩:=ha
 obtain⟨n2,e2⟩:=hx
 have f1:=px_le (show n1<=n1+n2 by omega) e1
 have f2:=px_le (show n2<=n1+n2 by omega) e2
 refine⟨n1+n2+1,?_⟩
 rw[px_succ];unfold step
 rw[if_neg (by omega),if_neg (by omega),if_pos h8,if_neg h,f1,Option.bind_some,f2]
theorem ok_stop {l:Nat} {s:St} {a:E} (h:opAt s≠l):Ok (10+l) a s (a,s):=by
 refine⟨1,?_⟩
 rw[px_succ];unfold step
 rw[if_neg (by omega),if_neg (by omega),if_neg (by omega),if_neg (by omega)]
theorem ok_go {l:Nat} (h4:l≠4) {s s1:St} {a:E} {b x:E×St} (h:opAt s=l) (h1:adv s=some s1) (hb:Ok (l+1) eNil s1 b) (hx:Ok (10+l) (eTwo s.tok.txt a b.1) b.2 x):Ok (10+l) a s x:=by
 obtain⟨n1,e1⟩:=hb
 obtain⟨n2,e2⟩:=hx
 have f1:=px_le (show n1<=n1+n2 by omega) e1
 have f2:=px_le (show n2<=n1+n2 by omega) e2
 refine⟨n1+n2+1,?_⟩
 rw[px_succ];unfold step
 rw[if_neg (by omega),if_neg (by omega),if_neg (by omega),if_pos (by omega),h1,Option.bind_some]
 have e:10+l - 10+1=l+1:=by omega
 rw[e,f1,Option.bind_some,if_neg (by omega),f2]
theorem ok_rel {s s1:St} {a:E} {b:E×St} (h:opAt s=4) (h1:adv s=some s1) (hb:Ok 5 eNil s1 b):Ok 14 a s (eTwo s.tok.txt a b.1,b.2):=by
 obtain⟨n1,e1⟩:=hb
 refine⟨n1+1,?_⟩
 rw[px_succ];unfold step
 rw[if_neg (by omega),if_neg (by omega),if_neg (by omega),if_pos (by omega),h1,Option.bind_some,e1,Option.bind_some,if_pos rfl]
theorem ok_atom0 {s:St} {x:E×St} (h:∀f,atom f s=some x):Ok 8 eNil s x:=by
 refine⟨1,?_⟩
 rw[px_succ];unfold step
 rw[if_neg (by omega),if_pos rfl,h]
theorem ok_atom {s:St} {x:E×St} {n:Nat} (h:atom (px n) s=some x):Ok 8 eNil s x:=by
 refine⟨n+1,?_⟩
 rw[px_succ];unfold step
 rw[if_neg (by omega),if_pos rfl,h]
end Mil
end
section
namespace Mil
open Go.Deep
def brackT (t l:Nat) (x:List Tok):List Tok:=if t < l then fix sOpen::(x++[fix sShut]) else x
def preLvl (x:Bytes):Nat:=if x=wNot then 3 else 7
def toks:E->List Tok
 | .nil=>[]
 | .node 1 k _ _ _=>[num k]
 | .node 2 k _ _ _=>[fix (if k=1 then wTrue else wFalse)]
 | .node 3 _ x _ _=>[nam x]
 | .node 4 _ x a _=>fix x::brackT (tight a) (preLvl x) (toks a)
 | .node 5 _ x a b=>brackT (tight a) (leftOf (tightOf x)) (toks a)++fix x::brackT (tight b) (tightOf x+1) (toks b)
 | .node 6 _ _ a b=>fix wIf::(toks a++toks b)
 | .node 0 _ _ a b=>fix wThen::(toks a++fix wElse::toks b)
 | .node 7 _ _ a b=>fix wFby::fix sOpen::(toks a++fix sComma::(toks b++[fix sShut]))
 | .node 8 k _ a _=>fix wUnder::fix sOpen::(toks a++[fix sComma,num k,fix sShut])
 | .node 9 k _ a b=>fix wHold::fix sOpen::(toks a++fix sComma::(toks b++[fix sComma,num k,fix sShut]))
 | .node _ _ x a b=>fix x::fix sOpen::(toks a++fix sComma::(toks b++[fix sShut]))
def NameOk (x:Bytes):Prop:=(∃c r,x=c::r/\isL c=true)/\(∀c,c∈x->isN c=true)/\x.length<=12/\words.contains x=false
def isConst (e:E):Prop:=(∃k:Nat,(k:Int)<=maxInt/\e=eInt k)\/(∃k,(k=0\/k=1)/\e=eBool k)\/(∃k:Nat,(k:Int)<=maxInt/\e=ePre sMinus (eInt k))
def wf:E->Bool->Prop
 | .nil,_=>False
 | .node t o x a b,true=>t=0/\o=0/\x=[]/\wf a false/\wf b false
 | .node t o x a b,false=>
  (t=1/\x=[]/\(o:Int)<=maxInt/\a=.nil/\b=.nil)\/(t=2/\x=[]/\(o=0\/o=1)/\a=.nil/\b=.nil)\/(t=3/\o=0/\NameOk x/\a=.nil/\b=.nil) \/
  (t=4/\o=0/\(x=wNot\/x=sMinus)/\wf a false/\b=.nil)\/(t=5/\o=0/\tightOf x≠9/\wf a false/\wf b false)\/(t=6/\o=0/\x=[]/\wf a false/\wf b true) \/
  (t=7/\o=0/\x=[]/\isConst a/\wf b false)\/(t=8/\x=[]/\2<=o/\o<=1000/\wf a false/\b=.nil)\/(t=9/\x=[]/\2<=o/\o<=1000/\isConst a/\wf b false) \/
  (t=10/\o=0/\(x=wMin\/x=wMax)/\wf a false/\wf b false)
theorem wf_induct {P:E->Prop}
  (hInt:∀k:Nat,(k:Int)<=maxInt->P (eInt k)) (hBool:∀k,k=0\/k=1->P (eBool k)) (hName:∀x,NameOk x->P (eName x))
  (hPre:∀x a,x=wNot\/x=sMinus->wf a false->P a->P (ePre x a)) (hTwo:∀x a b,tightOf x≠9->wf a false->wf b false->P a->P b->P (eTwo x a b))
  (hIf:∀a b c,wf a false->wf b false->wf c false->P a->P b->P c->P (eIf a b c)) (hFby:∀a b,isConst a->wf b false->P b->P (eFby a b))
  (hUnder:∀a k,2<=k->k<=1000->wf a false->P a->P (eUnder a k)) (hHold:∀a b k,2<=k->k<=1000->isConst a->wf b false->P b->P (eHold a b k))
  (hLeast:∀x a b,x=wMin\/x=wMax->wf a false->wf b false->P a->P b->P (eLeast x a b)) :
  ∀e:E,wf e false->P e:=by
 have main:∀e:E,(wf e false->P e)/\(wf e true->∃b c,e=.node 0 0 [] b c/\wf b false/\wf c false/\P b/\P c):=by
  intro e
  induction e with
  | nil=>exact⟨fun h=>h.elim,fun h=>h.elim⟩
  | node t o x a b iha ihb=>
   refine⟨fun h=>?_,fun h=>?_⟩
   ·rcases h with ⟨rfl,rfl,h,rfl,rfl⟩|⟨rfl,rfl,h,rfl,rfl⟩|⟨rfl,rfl,h,rfl,rfl⟩|⟨rfl,rfl,h,ha,rfl⟩|⟨rfl,rfl,h,ha,hb⟩|⟨rfl,rfl,rfl,ha,hb⟩|⟨rfl,rfl,rfl,ha,hb⟩|⟨rfl,rfl,h,k,ha,rfl⟩|⟨rfl,rfl,h,k,ha,hb⟩|⟨rfl,rfl,h,ha,hb⟩
    ·exact hInt o h
    ·exact hBool o h
    ·exact hName x h
    ·exact hPre x a h ha (iha.1 ha)
    ·exact hTwo x a b h ha hb (iha.1 ha) (ihb.1 hb)
    ·obtain⟨c,d,rfl,hc,hd,pc,pd⟩:=ihb.2 hb
     exact hIf a c d ha hc hd (iha.1 ha) pc pd
    ·exact hFby a b ha hb (ihb.1 hb)
    ·exact hUnder a o h k ha (iha.1 ha)
    ·exact hHold a b o h k ha hb (ihb.1 hb)
    ·exact hLeast x a b h ha hb (iha.1 ha) (ihb.1 hb)
   ·obtain⟨rfl,rfl,rfl,ha,hb⟩:=h
    exact⟨a,b,rfl,ha,hb,iha.1 ha,ihb.1 hb⟩
 exact fun e h=>(main e).1 h
theorem wf_const {c:E} (h:isConst c):wf c false:=by
 rcases h with ⟨k,hk,rfl⟩|⟨k,hk,rfl⟩|⟨k,hk,rfl⟩
 ·exact Or.inl ⟨rfl,rfl,hk,rfl,rfl⟩
 ·exact Or.inr (Or.inl ⟨rfl,rfl,hk,rfl,rfl⟩)
 ·exact Or.inr (Or.inr (Or.inr (Or.inl ⟨rfl,rfl,Or.inr rfl,Or.inl ⟨rfl,rfl,hk,rfl,rfl⟩,rfl⟩)))
def Sees:St->List Tok->St->Prop
 | s,[],s'=>s=s'
 | s,t::r,s'=>s.tok=t/\∃s1,adv s=some s1/\Sees s1 r s'
theorem Sees.append {s s':St}:∀{x y:List Tok},Sees s (x++y) s'->∃s1,Sees s x s1/\Sees s1 y s'
 | [],_,h=>⟨s,rfl,h⟩
 | t::r,y,h=>by
  obtain⟨ht,s1,h1,h2⟩:=h
  obtain⟨s2,h3,h4⟩:=Sees.append (s:=s1) (x:=r) h2
  exact⟨s2,⟨ht,s1,h1,h3⟩,h4⟩
theorem Sees.one {s s':St} {t:Tok} (h:Sees s [t] s'):s.tok=t/\adv s=some s':=by
 obtain⟨ht,s1,h1,h2⟩:=h
 have:s1=s':=h2
 subst this
 exact⟨ht,h1⟩
def isF (t:Tok) (x:Bytes):Bool:=t.kind==3 && t.txt==x
theorem tight_two (x:Bytes) (a b:E):tight (eTwo x a b)=tightOf x:=rfl
theorem tight_pre (x:Bytes) (a:E):tight (ePre x a)=preLvl x:=rfl
theorem tightOf_cases (x:Bytes):tightOf x=1\/tightOf x=2\/tightOf x=4\/tightOf x=5\/tightOf x=6\/tightOf x=9:=by
 unfold tightOf
 repeat' split
 all_goals simp
def HeadOk (t:Tok) (k:Nat):Prop:=(0 < k->isF t wIf=false)/\(3 < k->isF t wNot=false)/\(7 < k->isF t sMinus=false)
theorem HeadOk.mono {t:Tok} {k l:Nat} (h:HeadOk t k) (hl:l<=k):HeadOk t l:=⟨fun a=>h.1 (by omega),fun a=>h.2.1 (by omega),fun a=>h.2.2 (by omega)⟩
def Stop (l:Nat) (s:St):Prop:=opAt s < l\/opAt s=9
theorem Stop.mono {l k:Nat} {s:St} (h:Stop l s) (hk:l<=k):Stop k s:=by unfold Stop at *;omega
end Mil
end
section
namespace Mil
open Go.Deep
end Mil
end
section
namespace Mil
open Go.Deep
def StOk (s:St):Prop:=(s.tok.kind=1->NameOk s.tok.txt)/\(s.tok.kind≠0->1<=s.cnt)/\s.cnt<=600
def used (s:St):Nat:=if s.tok.kind=0 then s.cnt else s.cnt - 1
theorem mem_while {p:UInt8->Bool}:∀(l:Bytes) (d:UInt8),d∈l.takeWhile p->p d=true
 | [],_,h=>by cases h
 | c::r,d,h=>by
  rw[List.takeWhile_cons] at h
  by_cases hc:p c=true
  ·rw[if_pos hc] at h
   rcases List.mem_cons.1 h with rfl|h'
   ·exact hc
   ·exact mem_while r d h'
  ·rw[if_neg hc] at h;cases h
theorem cutName_ok {c:UInt8} {r:Bytes} (hc:isL c=true) {t:Tok} {b:Bytes} (h:cutName (c::r)=some (t,b)):t.kind=1->NameOk t.txt:=by
 unfold cutName at h
 by_cases h12:12 < ((c::r).takeWhile isN).length
 ·rw[if_pos h12] at h;cases h
 ·rw[if_neg h12] at h
  have h':=osi h
  have ht:t=if words.contains ((c::r).takeWhile isN) then fix ((c::r).takeWhile isN) else nam ((c::r).takeWhile isN):=(congrArg Prod.fst h').symm
  by_cases hw:words.contains ((c::r).takeWhile isN)=true
  ·rw[if_pos hw] at ht;rw[ht];intro h1;exact absurd (show (3:Nat)=1 from h1) (by decide)
  ·rw[if_neg hw] at ht;rw[ht];intro _
   refine⟨⟨c,r.takeWhile isN,?_,hc⟩,?_,by show ((c::r).takeWhile isN).length<=12;omega,by show words.contains ((c::r).takeWhile isN)=false;exact Bool.eq_false_iff.2 hw⟩
   ·show (c::r).takeWhile isN=_
    rw[List.takeWhile_cons,if_pos (by simp[isN,hc])]
   ·intro d hd
    exact mem_while _ d hd
theorem cut_ok {b:Bytes} {t:Tok} {r:Bytes} (h:cut b=some (t,r)):t.kind=1->NameOk t.txt:=by
 cases b with
 | nil=>
  have h':=osi h
  have ht:t=⟨0,[],0⟩:=(congrArg Prod.fst h').symm
  rw[ht];intro h1;exact absurd h1 (by decide)
 | cons c q=>
  have h':(if isL c=true then cutName (c::q) else if isD c=true then cutNum (c::q) else cutSign (c::q))=some (t,r):=h
  by_cases hl:isL c=true
  ·rw[if_pos hl] at h';exact cutName_ok hl h'
  ·rw[if_neg hl] at h'
   by_cases hd:isD c=true
   ·rw[if_pos hd] at h'
    unfold cutNum at h'
    split at h'
    ·split at h'
     ·cases h'
     ·obtain⟨rfl,rfl⟩:=Prod.mk.inj (osi h')
      intro h1;exact absurd (show (2:Nat)=1 from h1) (by decide)
    ·cases h'
   ·rw[if_neg hd] at h'
    unfold cutSign at h'
    split at h'
    ·obtain⟨rfl,rfl⟩:=Prod.mk.inj (osi h')
     intro h1;exact absurd (show (3:Nat)=1 from h1) (by decide)
    ·cases h'
theorem adv'_ok {b:Bytes} {n:Nat} (hn:n<=600) {s:St} (h:adv' b n=some s):StOk s/\used s=n:=by
 unfold adv' at h
 split at h
 ·cases h
 ·rename_i t r hc
  have hk:=cut_ok hc
  by_cases h0:t.kind=0
  ·rw[if_pos h0] at h
   obtain rfl:=(osi h).symm
   exact⟨⟨fun h1=>hk h1,fun h1=>absurd h0 h1,hn⟩,by unfold used;rw[if_pos h0]⟩
  ·rw[if_neg h0] at h
   by_cases h6:600 < n+1
   ·rw[if_pos h6] at h;cases h
   ·rw[if_neg h6] at h
    obtain rfl:=(osi h).symm
    exact⟨⟨fun h1=>hk h1,fun _=>by show 1<=n+1;omega,by show n+1<=600;omega⟩,by unfold used;rw[if_neg h0];rfl⟩
def Fwd (s s1:St):Prop:=StOk s1/\used s1=used s+1
theorem adv_ok {s s1:St} (h:adv s=some s1) (hs:StOk s) (hk:s.tok.kind≠0):Fwd s s1:=by
 obtain⟨h1,h2⟩:=adv'_ok hs.2.2 h
 refine⟨h1,?_⟩
 rw[h2];unfold used;rw[if_neg hk]
 have:=hs.2.1 hk
 omega
theorem sees_kind {s:St} {x:Bytes} (h:sees s x=true):s.tok.kind≠0/\s.tok.txt=x:=by
 unfold sees at h
 simp only[Bool.and_eq_true,beq_iff_eq] at h
 exact⟨by omega,h.2⟩
theorem want_ok {s s1:St} {x:Bytes} (h:want s x=some s1) (hs:StOk s):Fwd s s1:=by
 unfold want at h
 by_cases hx:sees s x=true
 ·rw[if_pos hx] at h;exact adv_ok h hs (sees_kind hx).1
 ·rw[if_neg hx] at h;cases h
theorem name_ok {s:St} {x:Bytes×St} (h:name s=some x) (hs:StOk s):NameOk x.1/\Fwd s x.2:=by
 unfold name at h
 by_cases hk:s.tok.kind=1
 ·rw[if_pos hk] at h
  obtain⟨s1,h1,rfl⟩:=oms h
  exact⟨hs.1 hk,adv_ok h1 hs (by omega)⟩
 ·rw[if_neg hk] at h;cases h
theorem number_ok {s:St} {lo hi:Int} (h0:0<=lo) {x:Nat×St} (h:number lo hi s=some x) (hs:StOk s):lo<=(x.1:Int)/\(x.1:Int)<=hi/\Fwd s x.2:=by
 unfold number at h
 by_cases hk:s.tok.kind=2/\lo<=s.tok.val/\s.tok.val<=hi
 ·rw[if_pos hk] at h
  obtain⟨s1,h1,rfl⟩:=oms h
  obtain⟨k1,k2,k3⟩:=hk
  exact⟨by show lo<=(s.tok.val.toNat:Int);omega,by show (s.tok.val.toNat:Int)<=hi;omega,adv_ok h1 hs (by omega)⟩
 ·rw[if_neg hk] at h;cases h
theorem ftype_ok {s:St} {x:Nat×St} (h:ftype s=some x) (hs:StOk s):(x.1=0\/x.1=1)/\Fwd s x.2:=by
 unfold ftype at h
 by_cases h1:sees s wInt=true
 ·rw[if_pos h1] at h
  obtain⟨s1,e1,rfl⟩:=oms h
  exact⟨Or.inl rfl,adv_ok e1 hs (sees_kind h1).1⟩
 ·rw[if_neg h1] at h
  by_cases h2:sees s wBool=true
  ·rw[if_pos h2] at h
   obtain⟨s1,e1,rfl⟩:=oms h
   exact⟨Or.inr rfl,adv_ok e1 hs (sees_kind h2).1⟩
  ·rw[if_neg h2] at h;cases h
def len (e:E) (l:Nat):Nat:=(brackT (tight e) l (toks e)).length
theorem len_tight {e:E} {l:Nat} (h:l<=tight e):len e l=(toks e).length:=by unfold len brackT;rw[if_neg (by omega)]
theorem len_less {e:E} {l:Nat} (h:tight e < l):len e l=(toks e).length+2:=by unfold len brackT;rw[if_pos h];simp
theorem len_mono (e:E) {l k:Nat} (h:l<=k):len e l<=len e k:=by
 by_cases h1:tight e < l
 ·rw[len_less h1,len_less (by omega)];exact Nat.le_refl _
 ·rw[len_tight (by omega)]
  by_cases h2:tight e < k
  ·rw[len_less h2];omega
  ·rw[len_tight (by omega)];exact Nat.le_refl _
theorem len_le (e:E) (l:Nat):(toks e).length<=len e l:=by
 by_cases h1:tight e < l
 ·rw[len_less h1];omega
 ·rw[len_tight (by omega)];exact Nat.le_refl _
theorem literal_ok {s:St} {x:E×St} (h:literal s=some x) (hs:StOk s):isConst x.1/\len x.1 8=1/\Fwd s x.2:=by
 unfold literal at h
 by_cases h1:sees s wTrue=true
 ·rw[if_pos h1] at h
  obtain⟨s1,e1,rfl⟩:=oms h
  exact⟨Or.inr (Or.inl ⟨1,Or.inr rfl,rfl⟩),rfl,adv_ok e1 hs (sees_kind h1).1⟩
 ·rw[if_neg h1] at h
  by_cases h2:sees s wFalse=true
  ·rw[if_pos h2] at h
   obtain⟨s1,e1,rfl⟩:=oms h
   exact⟨Or.inr (Or.inl ⟨0,Or.inl rfl,rfl⟩),rfl,adv_ok e1 hs (sees_kind h2).1⟩
  ·rw[if_neg h2] at h
   obtain⟨y,e1,rfl⟩:=oms h
   obtain⟨_,k2,k3⟩:=number_ok (by omega) e1 hs
   exact⟨Or.inl ⟨y.1,k2,rfl⟩,rfl,k3⟩
theorem constant_ok {s:St} {x:E×St} (h:constant s=some x) (hs:StOk s):isConst x.1/\StOk x.2/\used s+(toks x.1).length<=used x.2:=by
 unfold constant at h
 by_cases h1:sees s sMinus=true
 ·rw[if_pos h1] at h
  obtain⟨s1,e1,h2⟩:=obs h
  obtain⟨y,e2,rfl⟩:=oms h2
  have f1:=adv_ok e1 hs (sees_kind h1).1
  obtain⟨_,k2,k3⟩:=number_ok (by omega) e2 f1.1
  refine⟨Or.inr (Or.inr ⟨y.1,k2,rfl⟩),k3.1,?_⟩
  have hl:(toks (ePre sMinus (eInt y.1))).length=2:=rfl
  show used s+(toks (ePre sMinus (eInt y.1))).length<=used y.2
  rw[hl,k3.2,f1.2];omega
 ·rw[if_neg h1] at h
  obtain⟨k1,k2,k3⟩:=literal_ok h hs
  refine⟨k1,k3.1,?_⟩
  have:=len_le x.1 8
  rw[k3.2];omega
end Mil
end
section
open Go.RowKit
def Slot (w:World) (r:Nat):Prop:=w.heap[r]?=some (.cells #[.int .i64 0,.int .i64 0,.string ByteArray.empty,.int .i64 0] 218 (0,0))
theorem Slot.kept {w w':World} {r b:Nat} (h:Slot w r) (k:Kp b w w') (hr:r≠b):Slot w' r:=by
 have:r < w.heap.size:=by
  rcases Nat.lt_or_ge r w.heap.size with h'|h'
  ·exact h'
  ·unfold Slot at h;simp[Array.getElem?_eq_none h'] at h
 exact (k.block r this hr).trans h
theorem Slot.cell {w:World} {r:Nat} (h:Slot w r):w.cell? ⟨r,0,none⟩=some (.int .i64 0)/\w.cell? ⟨r,1,none⟩=some (.int .i64 0)/\w.cell? ⟨r,2,none⟩=some (.string ByteArray.empty)/\w.cell? ⟨r,3,none⟩=some (.int .i64 0) /\
  w.frozen? ⟨r,0,none⟩=false/\w.frozen? ⟨r,1,none⟩=false/\w.frozen? ⟨r,2,none⟩=false/\w.frozen? ⟨r,3,none⟩=false:=by
 unfold Slot at h
 refine⟨?_,?_,?_,?_,?_,?_,?_,?_⟩ <;> simp[World.cell?,World.frozen?,h]
theorem while_drop {s:ByteArray} {q:Nat} (h:q < s.size) (f:UInt8->Bool) (hf:f s[q]=true) :
  (s.data.toList.drop q).takeWhile f=s[q]::(s.data.toList.drop (q+1)).takeWhile f/\(s.data.toList.drop q).dropWhile f=(s.data.toList.drop (q+1)).dropWhile f:=by
 rw[drop_at h];simp[hf]
theorem while_stop {s:ByteArray} {q:Nat} (f:UInt8->Bool) (hf:∀h:q < s.size,f s[q]=false) :
  (s.data.toList.drop q).takeWhile f=[]/\(s.data.toList.drop q).dropWhile f=s.data.toList.drop q:=by
 by_cases h:q < s.size
 ·rw[drop_at h];simp[hf h]
 ·rw[drop_end (by omega)];simp
def Run (f:UInt8->Bool) (s:ByteArray) (p q:Nat):Prop:=
 (s.data.toList.drop p).takeWhile f=(s.data.toList.drop p).take (q - p)++(s.data.toList.drop q).takeWhile f/\(s.data.toList.drop p).dropWhile f=(s.data.toList.drop q).dropWhile f
theorem Run.start (f:UInt8->Bool) (s:ByteArray) (p:Nat):Run f s p p:=⟨by simp,rfl⟩
theorem Run.next {f:UInt8->Bool} {s:ByteArray} {p q:Nat} (h:Run f s p q) (hpq:p<=q) (hq:q < s.size) (hf:f s[q]=true):Run f s p (q+1):=by
 obtain⟨h1,h2⟩:=h
 obtain⟨w1,w2⟩:=while_drop hq f hf
 refine⟨?_,by rw[h2,w2]⟩
 rw[h1,w1]
 have e:q+1 - p=(q - p)+1:=by omega
 have hl:q - p < (s.data.toList.drop p).length:=by simp;omega
 rw[e,List.take_succ_eq_append_getElem hl]
 have hg:(s.data.toList.drop p)[q - p]=s[q]:=by
  rw[List.getElem_drop]
  have:p+(q - p)=q:=by omega
  simp only[this];rfl
 rw[hg];simp
theorem Run.done {f:UInt8->Bool} {s:ByteArray} {p q:Nat} (h:Run f s p q) (hf:∀h:q < s.size,f s[q]=false) :
  (s.data.toList.drop p).takeWhile f=(s.data.toList.drop p).take (q - p)/\(s.data.toList.drop p).dropWhile f=s.data.toList.drop q:=by
 obtain⟨h1,h2⟩:=h
 obtain⟨w1,w2⟩:=while_stop f hf
 rw[w1] at h1;rw[w2] at h2
 exact⟨by rw[h1];simp,h2⟩
def TokPost (c:Option (Mil.Tok×Mil.Bytes)) (a:Nat->Addr) (b:Nat) (s:ByteArray) (p n:Nat) (k tp:Int) (x:ByteArray) (v:Int) (w:World) (e:Ending) (w':World):Prop:=
 Kp b w w'/\((∃t q xt,e=.returned (.agg #[.int .i64 (t.kind:Nat),.int .i64 p,.string xt,.int .i64 t.val])/\p<=q/\q<=s.size/\Rd w' b s q n k tp x v/\c=some (t,s.data.toList.drop q)/\xt.data.toList=t.txt)\/(Thrown a 2 p e w'/\c=none))
def wordAt (j:Nat):Mil.Bytes:=Mil.words.getD j []
theorem lt19 {i:Nat} (h:i < 19):i=0\/i=1\/i=2\/i=3\/i=4\/i=5\/i=6\/i=7\/i=8\/i=9\/i=10\/i=11\/i=12\/i=13\/i=14\/i=15\/i=16\/i=17\/i=18:=by omega
theorem word_in (j:Nat) (h:j < 19):Mil.words.contains (wordAt j)=true:=by
 rcases lt19 h with rfl|rfl|rfl|rfl|rfl|rfl|rfl|rfl|rfl|rfl|rfl|rfl|rfl|rfl|rfl|rfl|rfl|rfl|rfl <;> decide
theorem word_of {x:Mil.Bytes} (h:x∈Mil.words):∃m,m < 19/\wordAt m=x:=by
 obtain⟨m,hm,e⟩:=List.mem_iff_getElem.1 h
 refine⟨m,by simpa [Mil.words] using hm,?_⟩
 unfold wordAt
 rw[List.getD_eq_getElem?_getD,List.getElem?_eq_getElem hm];exact e
theorem index_words (j:Nat) (h:j < 19) (w:World):(Instr.index 267 (.agg (strCells Mil.words)) (.int .i64 j)).run Tryz.prog w=.ok (.string (bs (wordAt j))) w:=by
 rcases lt19 h with rfl|rfl|rfl|rfl|rfl|rfl|rfl|rfl|rfl|rfl|rfl|rfl|rfl|rfl|rfl|rfl|rfl|rfl|rfl <;> kernel_rfl
theorem cutName_any (a:Nat->Addr) (b:Nat) (s:ByteArray) (p n:Nat) (k tp:Int) (x:ByteArray) (v:Int) (w:World) (L:Laid a w) (hb:27<=b) (h:Rd w b s p n k tp x v) (hp:p < s.size) (hs:s.size<=4000) :
  Calls Tryz.prog 149 #[.pointer (some ⟨b,0,none⟩)] w (TokPost (Mil.cutName (s.data.toList.drop p)) a b s p n k tp x v w):=by
 have H:=hid h
 have HL:=hid L
 have c1:=h.c1
 have hbw:b < w.heap.size:=lt_of_cell h.c0
 clear h L
 go_enter Tryz.func149,Tryz.ntmps149
 go_upto_block 0 with fail
 go_cut [] from 11 to 39 (fun wl=>∃q,p<=q/\q<=s.size/\Hid (Run Mil.isN s p q)/\Hid (∀h:q < s.size,Mil.isN s[q]=false)/\Hid (Rd wl b s q n k tp x v)/\Hid (Kp b w wl)/\Hid (Slot wl w.heap.size))
 case first=>
  go_wp2
  go_loopg [] (s.size - p) (fun g wr=>∃q,p<=q/\q<=s.size/\g=s.size - q/\Hid (Run Mil.isN s p q)/\Hid (Rd wr b s q n k tp x v)/\Hid (Kp b w wr)/\Hid (Slot wr w.heap.size))
  case atStart=>exact⟨p,Nat.le_refl _,by omega,rfl,Run.start _ _ _,H.out.kept ((Kp.refl (b+1) _).alloc _) (by omega),(Kp.refl b _).alloc _,han _ _⟩
  case round=>
   obtain⟨q,hpq,hq,hg,HU,HR,HK,HT⟩:=hrel
   have HG:=hid hg
   clear hg c1
   have c0:=HR.out.c0
   have c1:=HR.out.c1
   have f1:=HR.out.fz 1
   by_cases hlt:q < s.size
   ·by_cases hn:Mil.isN s[q]=true
    ·go_wp2_with fail
     go_quiet ((go_at_call 160;exact Calls.quiet_of_same (isNameByte_any _ _)))
     go_wp2
     go_roundg (s.size - (q+1))
     case measure=>have:=HG.out;omega
     case rel=>exact⟨q+1,by omega,by omega,rfl,HU.out.next hpq hlt hn,(HR.out.drewN _).step1,(HK.out.drewN _).setCell _ _,HT.out.kept (((Kp.refl b _).drewN _).setCell _ _) (by omega)⟩
    ·have hn':Mil.isN s[q]=false:=by simpa using hn
     clear hn
     go_wp2_with fail
     go_quiet ((go_at_call 160;exact Calls.quiet_of_same (isNameByte_any _ _)))
     go_wp2
     go_meet
     case rel=>exact⟨q,hpq,hq,HU,fun _=>hn',HR.out.drewN _,HK.out.drewN _,HT.out.kept ((Kp.refl b _).drewN _) (by omega)⟩
   ·have hd:decide ((q:Int) < (s.size:Int))=false:=by simp;omega
    go_wp2_with fail
    go_quiet (fail)
    go_wp2
    go_meet
    case rel=>exact⟨q,hpq,hq,HU,fun h=>absurd h hlt,HR.out.drewN _,HK.out.drewN _,HT.out.kept ((Kp.refl b _).drewN _) (by omega)⟩
 case rest=>
  obtain⟨q,hpq,hq,HU,HF,HR,HK,HT⟩:=hcut
  clear c1
  have c0:=HR.out.c0
  have c1:=HR.out.c1
  have ct:=(HL.out.kept HK.out hb).token
  obtain⟨tw,hw⟩:=(HL.out.kept HK.out hb).words
  by_cases h12:12 < q - p
  ·go_wp2
   go_quiet (fail)
   go_wp2
   refine⟨rfl,(HK.out.drewN nq).alloc _,Or.inr ⟨⟨_,rfl,?_⟩,?_⟩⟩
   ·have:=han (wc.drewN nq) (.cells #[.int .i64 (p:Int),errV (a 2)] 187)
    simpa using this
   ·obtain⟨e1,_⟩:=HU.out.done HF.out
    unfold Mil.cutName
    rw[e1,if_pos (by simp;omega)]
  ·have hix:=fun (j:Nat) (h:j < 19) (w:World)=>index_words j h w
   obtain⟨r0,r1,r2,r3,z0,z1,z2,z3⟩:=HT.out.cell
   go_wp2
   go_quiet (fail)
   go_wp2_with (refine wpList_load_row rfl 267 _ rfl 18 rfl tw _ (0,0) _ hw Tryz.underlying267 rfl (by kernel_rfl) ?_)
   go_loop [59] (fun s59=>∃j:Nat,j<=19/\s59=.int .i64 j/\Hid (∀m,m < j->wordAt m≠(s.data.toList.drop p).take (q - p))) (fun s59=>19 - (intOf s59).toNat)
   case atStart=>exact⟨0,by decide,rfl,fun m hm=>by omega⟩
   case round=>
    obtain⟨j,hj,rfl,HW⟩:=hrel
    by_cases hlt:j < 19
    ·have hi:=hix j hlt
     by_cases heq:wordAt j=(s.data.toList.drop p).take (q - p)
     ·have hbq:((bs (wordAt j)).toList==(s.extract p q).toList)=true:=by
       rw[Lib.toList_data,Lib.toList_data,bs_list,Lib.extract_data,heq];simp
      have HE:=hid heq
      clear heq
      go_wp2
      refine bodyPost_ret (v:=.agg #[.int .i64 3,.int .i64 p,.string (bs (wordAt j)),.int .i64 0]) (by simp[results,Tryz.results149,go_sem,r0,r1,r2,r3]) rfl ?_
      refine⟨(HK.out.drewN nq).four nlr _ _ _ _,Or.inl ⟨Mil.fix (wordAt j),q,bs (wordAt j),rfl,hpq,hq,(HR.out.drewN nq).four (by omega) _ _ _ _,?_,rfl⟩⟩
      obtain⟨e1,e2⟩:=HU.out.done HF.out
      unfold Mil.cutName
      rw[e1,e2,if_neg (by simp;omega),<-HE.out,if_pos (word_in j hlt)]
     ·have hbq:((bs (wordAt j)).toList==(s.extract p q).toList)=false:=by
       rw[Lib.toList_data,Lib.toList_data,bs_list,Lib.extract_data];simpa using heq
      have HE:=hid heq
      clear heq
      go_wp2
      go_round
      case rel=>
       refine⟨j+1,by omega,by go_num,?_⟩
       intro m hm
       rcases Nat.lt_or_ge m j with h|h
       ·exact HW.out m h
       ·have:m=j:=by omega
        rw[this];exact HE.out
      case measure=>simp[intOf];omega
    ·go_wp2
     refine bodyPost_ret (v:=.agg #[.int .i64 1,.int .i64 p,.string (s.extract p q),.int .i64 0]) (by simp[results,Tryz.results149,go_sem,r0,r1,r2,r3]) rfl ?_
     have hno:Mil.words.contains ((s.data.toList.drop p).take (q - p))=false:=by
      rw[Bool.eq_false_iff]
      intro hc
      obtain⟨m,hm,e⟩:=word_of (List.contains_iff_mem.1 hc)
      exact HW.out m (by omega) e
     refine⟨(HK.out.drewN nq).four nlr _ _ _ _,Or.inl ⟨Mil.nam ((s.data.toList.drop p).take (q - p)),q,s.extract p q,rfl,hpq,hq,(HR.out.drewN nq).four (by omega) _ _ _ _,?_,Lib.extract_data _ _ _⟩⟩
     obtain⟨e1,e2⟩:=HU.out.done HF.out
     unfold Mil.cutName
     rw[e1,e2,if_neg (by simp;omega),if_neg (by rw[hno];decide)]
end
section
open Go.RowKit
theorem extract0 (x:ByteArray) (n:Nat):(x.extract 0 n).data.toList=x.data.toList.take n:=by rw[Lib.extract_data];simp
theorem prefix_take {x y:Mil.Bytes}:(x.take y.length==y)=y.isPrefixOf x:=by
 rw[Bool.eq_iff_iff,beq_iff_eq,List.isPrefixOf_iff_prefix]
 constructor
 ·intro e;rw[<-e];exact List.take_prefix _ _
 ·intro e;exact (List.prefix_iff_eq_take.1 e).symm
theorem prefix_long {x y:Mil.Bytes} (h:x.length < y.length):y.isPrefixOf x=false:=by
 rw[Bool.eq_false_iff]
 intro e
 have:=(List.isPrefixOf_iff_prefix.1 e).length_le
 omega
def pre (y x:ByteArray):Bool:=y.data.toList.isPrefixOf x.data.toList
theorem hasPrefix_in (x y:ByteArray) (w:World):Calls Tryz.prog 169 #[.string x,.string y] w fun e w'=>e=.returned (.bool (pre y x))/\w'=w:=by
 by_cases h:y.size<=x.size
 ·go_enter Tryz.func169,Tryz.ntmps169
  go_wp2
  go_ret
  refine⟨ret_bool ?_,rfl⟩
  unfold pre
  rw[Lib.toList_data,Lib.toList_data,extract0]
  have:=prefix_take (x:=x.data.toList) (y:=y.data.toList)
  rw[<-this];simp
 ·go_enter Tryz.func169,Tryz.ntmps169
  go_wp2
  go_ret
  refine⟨ret_bool ?_,rfl⟩
  unfold pre
  rw[prefix_long (by simp;omega)]
theorem hasPrefix_any (x y:ByteArray) (w:World):Calls Tryz.prog 162 #[.string x,.string y] w fun e w'=>e=.returned (.bool (pre y x))/\w'=w:=by
 go_enter Tryz.func162,Tryz.ntmps162
 go_wp2_with (go_at_call 169;refine (hasPrefix_in _ _ _).mono ?_;rintro e w' ⟨rfl,rfl⟩)
 go_ret
 exact⟨rfl,rfl⟩
def signAt (j:Nat):Mil.Bytes:=Mil.signs.getD j []
theorem lt17 {i:Nat} (h:i < 17):i=0\/i=1\/i=2\/i=3\/i=4\/i=5\/i=6\/i=7\/i=8\/i=9\/i=10\/i=11\/i=12\/i=13\/i=14\/i=15\/i=16:=by omega
theorem index_signs (j:Nat) (h:j < 17) (w:World):(Instr.index 269 (.agg (strCells Mil.signs)) (.int .i64 j)).run Tryz.prog w=.ok (.string (bs (signAt j))) w:=by
 rcases lt17 h with rfl|rfl|rfl|rfl|rfl|rfl|rfl|rfl|rfl|rfl|rfl|rfl|rfl|rfl|rfl|rfl|rfl <;> kernel_rfl
theorem sign_size (j:Nat) (h:j < 17):(bs (signAt j)).size<=2/\(signAt j).length=(bs (signAt j)).size:=by
 rcases lt17 h with rfl|rfl|rfl|rfl|rfl|rfl|rfl|rfl|rfl|rfl|rfl|rfl|rfl|rfl|rfl|rfl|rfl <;> decide
theorem find_at {f:Mil.Bytes->Bool}:∀(l:List Mil.Bytes) (j:Nat),j < l.length->f (l.getD j [])=true->(∀m,m < j->f (l.getD m [])=false)->l.find? f=some (l.getD j [])
 | [],_,h,_,_=>by simp at h
 | x::r,0,_,h1,_=>by
  have h1':f x=true:=h1
  rw[List.find?_cons]
  simp[h1']
 | x::r,j+1,h,h1,h2=>by
  have h0:f x=false:=h2 0 (by omega)
  have:=find_at r j (by simpa using h) h1 (fun m hm=>h2 (m+1) (by omega))
  rw[List.find?_cons,h0]
  exact this
theorem find_none {f:Mil.Bytes->Bool}:∀(l:List Mil.Bytes),(∀m,m < l.length->f (l.getD m [])=false)->l.find? f=none
 | [],_=>rfl
 | x::r,h=>by
  have h0:f x=false:=h 0 (by simp)
  rw[List.find?_cons,h0]
  exact find_none r (fun m hm=>h (m+1) (by simpa using hm))
theorem cutSign_any (a:Nat->Addr) (b:Nat) (s:ByteArray) (p n:Nat) (k tp:Int) (x:ByteArray) (v:Int) (w:World) (L:Laid a w) (hb:27<=b) (h:Rd w b s p n k tp x v) (hp:p < s.size) (hs:s.size<=4000) :
  Calls Tryz.prog 152 #[.pointer (some ⟨b,0,none⟩)] w (TokPost (Mil.cutSign (s.data.toList.drop p)) a b s p n k tp x v w):=by
 have HL:=hid L
 have hbw:b < w.heap.size:=lt_of_cell h.c0
 have hgw:=L.size
 let o:Obj:=.cells #[.int .i64 0,.int .i64 0,.string ⟨#[]⟩,.int .i64 0] 218
 have ho:o=.cells #[.int .i64 0,.int .i64 0,.string ⟨#[]⟩,.int .i64 0] 218:=rfl
 have hR:Rd (w.alloc o) b s p n k tp x v:=h.kept ((Kp.refl (b+1) _).alloc _) (by omega)
 have HR:=hid hR
 have HK:Hid (Kp b w (w.alloc o)):=(Kp.refl b _).alloc _
 obtain⟨tg,hg⟩:=(L.kept HK.out hb).signs
 have hT:Slot (w.alloc o) w.heap.size:=han _ _
 have hix:=fun (j:Nat) (h:j < 17) (w:World)=>index_signs j h w
 clear h L
 go_enter Tryz.func152,Tryz.ntmps152
 go_wp2_with (refine wpList_load_row rfl 269 _ rfl 19 rfl tg _ (0,0) _ hg Tryz.underlying269 rfl (by kernel_rfl) ?_)
 rw[<-ho]
 generalize w.alloc o=w1 at *
 have c0:=hR.c0
 have c1:=hR.c1
 have f1:=hR.fz 1
 have ct:=(HL.out.kept HK.out hb).token
 obtain⟨r0,r1,r2,r3,z0,z1,z2,z3⟩:=hT.cell
 have HT:=hid hT
 clear hR hT
 have hes:(s.extract p s.size).data.toList=s.data.toList.drop p:=by rw[Lib.extract_data,List.take_of_length_le (by simp)]
 have HES:=hid hes
 clear hes
 have hple:p<=s.size:=by omega
 go_loopg [7] 17 (fun g s7 wr=>∃j:Nat,j<=17/\s7=.int .i64 j/\g=17 - j/\Hid (Rd wr b s p n k tp x v)/\Hid (Kp b w wr)/\Hid (Slot wr w.heap.size)/\Hid (∀i,i < j->(signAt i).isPrefixOf (s.data.toList.drop p)=false))
 case atStart=>exact⟨0,by decide,rfl,rfl,HR,HK,HT,fun m hm=>by omega⟩
 case round=>
  clear c0 c1 f1 ct r0 r1 r2 r3 z0 z1 z2 z3
  obtain⟨j,hj,rfl,hgk,HR2,HK2,HT2,HW⟩:=hrel
  have HG:=hid hgk
  clear hgk
  have c0:=HR2.out.c0
  have c1:=HR2.out.c1
  have f1:=HR2.out.fz 1
  have ct:=(HL.out.kept HK2.out hb).token
  obtain⟨r0,r1,r2,r3,z0,z1,z2,z3⟩:=HT2.out.cell
  by_cases hlt:j < 17
  ·have hi:=hix j hlt
   obtain⟨hz2,hzl⟩:=sign_size j hlt
   have HZ:=hid hzl
   clear hzl
   by_cases heq:(signAt j).isPrefixOf (s.data.toList.drop p)=true
   ·have hbq:pre (bs (signAt j)) (s.extract p s.size)=true:=by unfold pre;rw[HES.out];exact heq
    have HE:=hid heq
    clear heq
    go_wp2
    go_quiet ((go_at_call 162;exact Calls.quiet_of_same (hasPrefix_any _ _ _)))
    rw[hbq]
    go_wp2
    refine bodyPost_ret (v:=.agg #[.int .i64 3,.int .i64 p,.string (bs (signAt j)),.int .i64 0]) (by simp[results,Tryz.results152,go_sem,r0,r1,r2,r3]) rfl ?_
    have hle:(signAt j).length<=(s.data.toList.drop p).length:=(List.isPrefixOf_iff_prefix.1 HE.out).length_le
    have hzl:=HZ.out
    have hps:p+(bs (signAt j)).size<=s.size:=by simp at hle;omega
    have e1:(p:Int)+((bs (signAt j)).size:Int)=((p+(bs (signAt j)).size:Nat):Int):=by omega
    rw[e1]
    refine⟨((HK2.out.drewN nq).setCell _ _).four nlr _ _ _ _,Or.inl ⟨Mil.fix (signAt j),p+(bs (signAt j)).size,bs (signAt j),rfl,by omega,hps,((HR2.out.drewN nq).set1 _).four (by omega) _ _ _ _,?_,rfl⟩⟩
    unfold Mil.cutSign
    have hf:Mil.signs.find? (fun x=>x.isPrefixOf (s.data.toList.drop p))=some (signAt j):=find_at Mil.signs j hlt HE.out HW.out
    rw[hf,<-hzl]
    show some (Mil.fix (signAt j),List.drop (signAt j).length (List.drop p s.data.toList))=_
    rw[List.drop_drop]
   ·have hbq:pre (bs (signAt j)) (s.extract p s.size)=false:=by unfold pre;rw[HES.out];exact Bool.eq_false_iff.2 heq
    have HE:Hid ((signAt j).isPrefixOf (s.data.toList.drop p)=false):=Bool.eq_false_iff.2 heq
    clear heq
    go_wp2
    go_quiet ((go_at_call 162;exact Calls.quiet_of_same (hasPrefix_any _ _ _)))
    rw[hbq]
    go_wp2
    go_roundg (17 - (j+1))
    case measure=>have:=HG.out;omega
    case rel=>
     refine⟨j+1,by omega,by go_num,rfl,HR2.out.drewN _,HK2.out.drewN _,HT2.out.kept ((Kp.refl b _).drewN _) (by omega),?_⟩
     intro i hi
     rcases Nat.lt_or_ge i j with h|h
     ·exact HW.out i h
     ·have:i=j:=by omega
      rw[this];exact HE.out
  ·have hpp:∀tm:Array Value,bodyPost Tryz.prog Tryz.f152 (TokPost (Mil.cutSign (s.data.toList.drop p)) a b s p n k tp x v w) (Exit.panic [{ v:=.iface 181 (.pointer (some ⟨wr.heap.size,0,none⟩)),recovered:=false }]) { tmps:=tm,defers:=[] } (wr.alloc (.cells #[.int .i64 p,errV (a 2)] 187)).drew:=by
    intro tm
    refine⟨rfl,(HK2.out.alloc _).drew,Or.inr ⟨⟨wr.heap.size,rfl,han wr _⟩,?_⟩⟩
    unfold Mil.cutSign
    rw[find_none Mil.signs (fun m hm=>HW.out m (by have:Mil.signs.length=17:=rfl;omega))]
   go_wp2
   refine wp_region_any (by kernel_rfl) ?_
   change wpAny _ _ _ _ _ _ _ (World.drew _)
   refine wpAny_take (i:=0) (v:=.pointer (some ⟨b,0,none⟩)) rfl (by kernel_rfl) (by kernel_rfl) (by kernel_rfl) (fun _ _ _ h=>h) (Or.inl ⟨by rfl,fun w=>by go_simp⟩) ?_
   refine wpAny_take (i:=1) (v:=.pointer (some ⟨b,0,none⟩)) rfl (by kernel_rfl) (by kernel_rfl) (by kernel_rfl) (fun _ _ _ h=>h) (Or.inl ⟨by rfl,fun w=>by go_simp⟩) ?_
   refine wpAny_take (i:=2) (v:=.pointer (some ⟨b,1,none⟩)) rfl (by kernel_rfl) (by kernel_rfl) (by kernel_rfl) (fun _ _ _ h=>h) (Or.inl ⟨by rfl,fun w=>by go_simp⟩) ?_
   refine wpAny_ready (rs:=[3,4]) (by kernel_rfl) (by simp) ?_
   refine AllReady.cons rfl (fun K hK=>?_) (AllReady.cons rfl (fun K hK=>?_) AllReady.nil)
   ·go_simp
    refine hK _ _ ?_
    clear hK K
    refine wpAny_ready (rs:=[4]) (by kernel_rfl) (by simp) ?_
    refine AllReady.cons rfl (fun K hK=>?_) AllReady.nil
    go_simp
    refine hK _ _ ?_
    clear hK K
    refine wpAny_take (i:=5) (v:=.agg #[.int .i64 p,errV (a 2)]) rfl (by kernel_rfl) (by kernel_rfl) (by kernel_rfl) (fun _ _ _ h=>h) (Or.inl ⟨by rfl,fun w=>by go_simp⟩) ?_
    refine wpAny_ready (rs:=[6]) (by kernel_rfl) (by simp) ?_
    refine AllReady.cons rfl (fun K hK=>?_) AllReady.nil
    go_simp
    refine hK _ _ ?_
    clear hK K
    refine wpAny_take (i:=7) (v:=.iface 181 (.pointer (some ⟨wr.heap.size,0,none⟩))) rfl (by kernel_rfl) (by kernel_rfl) (by kernel_rfl) (fun _ _ _ h=>h) (Or.inl ⟨by rfl,fun w=>by go_simp⟩) ?_
    refine wpAny_ready (rs:=[8]) (by kernel_rfl) (by simp) ?_
    refine AllReady.cons rfl (fun K hK=>?_) AllReady.nil
    go_simp
   ·go_simp
    refine hK _ _ ?_
    clear hK K
    refine wpAny_ready (rs:=[3]) (by kernel_rfl) (by simp) ?_
    refine AllReady.cons rfl (fun K hK=>?_) AllReady.nil
    go_simp
    refine hK _ _ ?_
    clear hK K
    refine wpAny_take (i:=5) (v:=.agg #[.int .i64 p,errV (a 2)]) rfl (by kernel_rfl) (by kernel_rfl) (by kernel_rfl) (fun _ _ _ h=>h) (Or.inl ⟨by rfl,fun w=>by go_simp⟩) ?_
    refine wpAny_ready (rs:=[6]) (by kernel_rfl) (by simp) ?_
    refine AllReady.cons rfl (fun K hK=>?_) AllReady.nil
    go_simp
    refine hK _ _ ?_
    clear hK K
    refine wpAny_take (i:=7) (v:=.iface 181 (.pointer (some ⟨wr.heap.size,0,none⟩))) rfl (by kernel_rfl) (by kernel_rfl) (by kernel_rfl) (fun _ _ _ h=>h) (Or.inl ⟨by rfl,fun w=>by go_simp⟩) ?_
    refine wpAny_ready (rs:=[8]) (by kernel_rfl) (by simp) ?_
    refine AllReady.cons rfl (fun K hK=>?_) AllReady.nil
    go_simp
end
end Go.Proofs.YtoiajojadihpbaaGreatDoor
