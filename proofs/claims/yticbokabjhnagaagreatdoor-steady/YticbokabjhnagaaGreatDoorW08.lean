import Derived.Test.YticbokabjhnagaaGreatDoorW05
import Derived.Test.YticbokabjhnagaaGreatDoorW07
namespace Go.Proofs.YticbokabjhnagaaGreatDoor
set_option maxHeartbeats 32000000
section
namespace Mip
open Mil
def off (s:St):Nat:=s.rest.length+s.tok.txt.length
abbrev E:=Go.Deep.BT (Bytes×Nat)
def eNil:E:=.nil
def eInt (p:Nat) (k:Nat):E:=.node 1 k ([],p) .nil .nil
def eBool (p:Nat) (k:Nat):E:=.node 2 k ([],p) .nil .nil
def eName (p:Nat) (x:Bytes):E:=.node 3 0 (x,p) .nil .nil
def ePre (p:Nat) (x:Bytes) (a:E):E:=.node 4 0 (x,p) a .nil
def eTwo (p:Nat) (x:Bytes) (a b:E):E:=.node 5 0 (x,p) a b
def eIf (p:Nat) (a b c:E):E:=.node 6 0 ([],p) a (.node 0 0 ([],0) b c)
def eFby (p:Nat) (a b:E):E:=.node 7 0 ([],p) a b
def eUnder (p:Nat) (a:E) (k:Nat):E:=.node 8 k ([],p) a .nil
def eHold (p:Nat) (a b:E) (k:Nat):E:=.node 9 k ([],p) a b
def eLeast (p:Nat) (x:Bytes) (a b:E):E:=.node 10 0 (x,p) a b
def literal (s:St):Option (E×St):=
 if sees s wTrue then (adv s).map fun s1=>(eBool (off s) 1,s1) else if sees s wFalse then (adv s).map fun s1=>(eBool (off s) 0,s1)
 else (number 0 maxInt s).map fun x=>(eInt (off s) x.1,x.2)
def constant (s:St):Option (E×St):=
 if sees s sMinus then (adv s).bind fun s1=>(number 0 maxInt s1).map fun x=>(ePre (off s) sMinus (eInt (off s1) x.1),x.2) else literal s
def atom (f:Nat→E→St→Option (E×St)) (s:St):Option (E×St):=
 if s.tok.kind=1 then (name s).map fun x=>(eName (off s) x.1,x.2)
 else if sees s sOpen then (adv s).bind fun s1=>(f 0 eNil s1).bind fun x=>(want x.2 sShut).map fun s3=>(x.1,s3)
 else if sees s wFby then (adv s).bind fun s1=>(want s1 sOpen).bind fun s2=>(constant s2).bind fun c=>(want c.2 sComma).bind fun s4=>(f 0 eNil s4).bind fun x=>(want x.2 sShut).map fun s6=>(eFby (off s) c.1 x.1,s6)
 else if sees s wUnder then (adv s).bind fun s1=>(want s1 sOpen).bind fun s2=>(f 0 eNil s2).bind fun x=>(want x.2 sComma).bind fun s4=>(number 2 1000 s4).bind fun k=>(want k.2 sShut).map fun s6=>(eUnder (off s) x.1 k.1,s6)
 else if sees s wHold then (adv s).bind fun s1=>(want s1 sOpen).bind fun s2=>(constant s2).bind fun c=>(want c.2 sComma).bind fun s4=>(f 0 eNil s4).bind fun x=>(want x.2 sComma).bind fun s6=>(number 2 1000 s6).bind fun k=>(want k.2 sShut).map fun s8=>(eHold (off s) c.1 x.1 k.1,s8)
 else if sees s wMin || sees s wMax then (adv s).bind fun s1=>(want s1 sOpen).bind fun s2=>(f 0 eNil s2).bind fun a=>(want a.2 sComma).bind fun s4=>(f 0 eNil s4).bind fun b=>(want b.2 sShut).map fun s6=>(eLeast (off s) s.tok.txt a.1 b.1,s6)
 else literal s
def step (f:Nat→E→St→Option (E×St)) (tag:Nat) (left:E) (s:St):Option (E×St):=
 if tag=0 then
  if sees s wIf then (adv s).bind fun s1=>(f 0 eNil s1).bind fun a=>(want a.2 wThen).bind fun s3=>(f 0 eNil s3).bind fun b=>(want b.2 wElse).bind fun s5=>(f 0 eNil s5).map fun c=>(eIf (off s) a.1 b.1 c.1,c.2)
  else f 1 eNil s
 else if tag=8 then atom f s
 else if tag < 8 then
  if (tag=3∧sees s wNot=true)∨(tag=7∧sees s sMinus=true) then (adv s).bind fun s1=>(f tag eNil s1).map fun a=>(ePre (off s) s.tok.txt a.1,a.2)
  else (f (tag+1) eNil s).bind fun a=>f (10+tag) a.1 a.2
 else if Mil.opAt s=tag - 10 then (adv s).bind fun s1=>(f (tag - 10+1) eNil s1).bind fun b=>if tag=14 then some (eTwo (off s) s.tok.txt left b.1,b.2) else f tag (eTwo (off s) s.tok.txt left b.1) b.2
 else some (left,s)
def px:Nat→Nat→E→St→Option (E×St)
 | 0,_,_,_=>none
 | n+1,t,e,s=>step (px n) t e s
def Ok (t:Nat) (e:E) (s:St) (x:E×St):Prop:=∃n,px n t e s=some x
structure It where
 kind:Nat
 nm:Bytes
 at_:Nat
 ty:Nat
 every:Nat
 names:List (Bytes×Nat)
 body:E
def pnames:Nat→List (Bytes×Nat)→St→Option (List (Bytes×Nat)×St)
 | 0,_,_=>none
 | n+1,acc,s=>if sees s sComma then (adv s).bind fun s1=>(name s1).bind fun x=>pnames n (acc++[(x.1,off s1)]) x.2 else some (acc,s)
def pitem (n:Nat) (s:St):Option (It×St):=
 if sees s wInput then (adv s).bind fun s1=>(name s1).bind fun x=>(want x.2 sColon).bind fun s3=>(ftype s3).bind fun t=>(want t.2 wEvery).bind fun s5=>(number 1 1000000 s5).bind fun k=>(want k.2 sSemi).map fun s7=>(⟨1,x.1,off s1,t.1,k.1,[],eNil⟩,s7)
 else if sees s wOutput then (adv s).bind fun s1=>(name s1).bind fun x=>(pnames n [(x.1,off s1)] x.2).bind fun l=>(want l.2 sSemi).map fun s4=>(⟨2,[],0,0,0,l.1,eNil⟩,s4)
 else (name s).bind fun x=>(want x.2 sColon).bind fun s2=>(ftype s2).bind fun t=>(want t.2 sIs).bind fun s4=>(px n 0 eNil s4).bind fun e=>(want e.2 sSemi).map fun s6=>(⟨3,x.1,off s,t.1,0,[],e.1⟩,s6)
def pprog:Nat→List It→St→Option (List It)
 | 0,_,_=>none
 | n+1,acc,s=>if s.tok.kind=0 then some acc else if acc.length=60 then none else (pitem n s).bind fun x=>pprog n (acc++[x.1]) x.2
def parse (n:Nat) (b:Bytes):Option (List It):=if 4000 < b.length then none else (adv' b 0).bind fun s=>pprog n [] s
def Parsed (b:Bytes) (l:List It):Prop:=∃n,parse n b=some l
theorem step_le {f g:Nat→E→St→Option (E×St)} (h:∀t e s,Imp (f t e s) (g t e s)) (t:Nat) (e:E) (s:St):Imp (step f t e s) (step g t e s):=by
 unfold step atom
 repeat' first | exact h _ _ _ | exact Imp.refl _ | refine Imp.ite ?_ ?_ | refine Imp.bind ?_ (fun _=>?_) | refine Imp.map ?_
theorem px_succ (n:Nat) (t:Nat) (e:E) (s:St):px (n+1) t e s=step (px n) t e s:=rfl
theorem px_next:∀(n:Nat) (t:Nat) (e:E) (s:St),Imp (px n t e s) (px (n+1) t e s)
 | 0,_,_,_=>fun _ h=>by cases h
 | n+1,t,e,s=>by
  rw [px_succ,px_succ (n+1)]
  exact step_le (px_next n) t e s
theorem px_le {n m:Nat} (h:n≤m) {t:Nat} {e:E} {s:St} {x:E×St} (hx:px n t e s=some x):px m t e s=some x:=by
 induction h with
 | refl=>exact hx
 | step _ ih=>exact px_next _ _ _ _ _ ih
theorem Ok.unique {t:Nat} {e:E} {s:St} {x y:E×St} (h:Ok t e s x) (k:Ok t e s y):x=y:=by
 obtain ⟨n,hn⟩:=h
 obtain ⟨m,hm⟩:=k
 have h1:=px_le (Nat.le_max_left n m) hn
 have h2:=px_le (Nat.le_max_right n m) hm
 exact Option.some.inj (h1.symm.trans h2)
theorem ok_noif {s:St} {x:E×St} (h:sees s wIf=false) (k:Ok 1 eNil s x):Ok 0 eNil s x:=by
 obtain ⟨n,hn⟩:=k
 exact ⟨n+1,by rw [px_succ];unfold step;rw [if_pos rfl,h,if_neg (by decide)];exact hn⟩
theorem ok_if {s s1 s3 s5:St} {a b c:E×St} (h:sees s wIf=true) (h1:adv s=some s1) (ha:Ok 0 eNil s1 a) (h3:want a.2 wThen=some s3) (hb:Ok 0 eNil s3 b)
  (h5:want b.2 wElse=some s5) (hc:Ok 0 eNil s5 c):Ok 0 eNil s (eIf (off s) a.1 b.1 c.1,c.2):=by
 obtain ⟨n1,e1⟩:=ha
 obtain ⟨n2,e2⟩:=hb
 obtain ⟨n3,e3⟩:=hc
 have f1:=px_le (show n1≤n1+n2+n3 by omega) e1
 have f2:=px_le (show n2≤n1+n2+n3 by omega) e2
 have f3:=px_le (show n3≤n1+n2+n3 by omega) e3
 refine ⟨n1+n2+n3+1,?_⟩
 rw [px_succ];unfold step
 rw [if_pos rfl,if_pos h,h1,Option.bind_some,f1,Option.bind_some,h3,Option.bind_some,f2,Option.bind_some,h5,Option.bind_some,f3,Option.map_some]
theorem ok_pre {l:Nat} {s s1:St} {a:E×St} (h:(l=3∧sees s wNot=true)∨(l=7∧sees s sMinus=true)) (h1:adv s=some s1) (ha:Ok l eNil s1 a):Ok l eNil s (ePre (off s) s.tok.txt a.1,a.2):=by
 obtain ⟨n,e1⟩:=ha
 refine ⟨n+1,?_⟩
 rw [px_succ];unfold step
 rw [if_neg (by omega),if_neg (by omega),if_pos (by omega),if_pos h,h1,Option.bind_some,e1,Option.map_some]
theorem ok_level {l:Nat} (h0:0 < l) (h8:l < 8) {s:St} {a x:E×St} (h:¬((l=3∧sees s wNot=true)∨(l=7∧sees s sMinus=true))) (ha:Ok (l+1) eNil s a) (hx:Ok (10+l) a.1 a.2 x):Ok l eNil s x:=by
 obtain ⟨n1,e1⟩:=ha
 obtain ⟨n2,e2⟩:=hx
 have f1:=px_le (show n1≤n1+n2 by omega) e1
 have f2:=px_le (show n2≤n1+n2 by omega) e2
 refine ⟨n1+n2+1,?_⟩
 rw [px_succ];unfold step
 rw [if_neg (by omega),if_neg (by omega),if_pos h8,if_neg h,f1,Option.bind_some,f2]
theorem ok_stop {l:Nat} {s:St} {a:E} (h:Mil.opAt s≠l):Ok (10+l) a s (a,s):=by
 refine ⟨1,?_⟩
 rw [px_succ];unfold step
 rw [if_neg (by omega),if_neg (by omega),if_neg (by omega),if_neg (by omega)]
theorem ok_go {l:Nat} (h4:l≠4) {s s1:St} {a:E} {b x:E×St} (h:Mil.opAt s=l) (h1:adv s=some s1) (hb:Ok (l+1) eNil s1 b) (hx:Ok (10+l) (eTwo (off s) s.tok.txt a b.1) b.2 x):Ok (10+l) a s x:=by
 obtain ⟨n1,e1⟩:=hb
 obtain ⟨n2,e2⟩:=hx
 have f1:=px_le (show n1≤n1+n2 by omega) e1
 have f2:=px_le (show n2≤n1+n2 by omega) e2
 refine ⟨n1+n2+1,?_⟩
 rw [px_succ];unfold step
 rw [if_neg (by omega),if_neg (by omega),if_neg (by omega),if_pos (by omega),h1,Option.bind_some]
 have e:10+l - 10+1=l+1:=by omega
 rw [e,f1,Option.bind_some,if_neg (by omega),f2]
theorem ok_rel {s s1:St} {a:E} {b:E×St} (h:Mil.opAt s=4) (h1:adv s=some s1) (hb:Ok 5 eNil s1 b):Ok 14 a s (eTwo (off s) s.tok.txt a b.1,b.2):=by
 obtain ⟨n1,e1⟩:=hb
 refine ⟨n1+1,?_⟩
 rw [px_succ];unfold step
 rw [if_neg (by omega),if_neg (by omega),if_neg (by omega),if_pos (by omega),h1,Option.bind_some,e1,Option.bind_some,if_pos rfl]
theorem ok_atom0 {s:St} {x:E×St} (h:∀f,atom f s=some x):Ok 8 eNil s x:=by
 refine ⟨1,?_⟩
 rw [px_succ];unfold step
 rw [if_neg (by omega),if_pos rfl,h]
theorem ok_atom {s:St} {x:E×St} {n:Nat} (h:atom (px n) s=some x):Ok 8 eNil s x:=by
 refine ⟨n+1,?_⟩
 rw [px_succ];unfold step
 rw [if_neg (by omega),if_pos rfl,h]
theorem inv_level {l:Nat} (h0:0 < l) (h8:l < 8) {s:St} {x:E×St} (h:¬((l=3∧sees s wNot=true)∨(l=7∧sees s sMinus=true))) (k:Ok l eNil s x) :
  ∃a,Ok (l+1) eNil s a∧Ok (10+l) a.1 a.2 x:=by
 obtain ⟨n,hn⟩:=k
 cases n with
 | zero=>cases hn
 | succ n=>
  rw [px_succ] at hn;unfold step at hn
  rw [if_neg (by omega),if_neg (by omega),if_pos h8,if_neg h] at hn
  obtain ⟨a,h1,hn⟩:=Option.bind_eq_some_iff.1 hn
  exact ⟨a,⟨n,h1⟩,⟨n,hn⟩⟩
theorem inv_go {l:Nat} {s:St} {a:E} {x:E×St} (h:Mil.opAt s=l) (k:Ok (10+l) a s x) :
  ∃s1 b,adv s=some s1∧Ok (l+1) eNil s1 b∧((l=4∧x=(eTwo (off s) s.tok.txt a b.1,b.2))∨(l≠4∧Ok (10+l) (eTwo (off s) s.tok.txt a b.1) b.2 x)):=by
 obtain ⟨n,hn⟩:=k
 cases n with
 | zero=>cases hn
 | succ n=>
  rw [px_succ] at hn;unfold step at hn
  have e:10+l - 10=l:=by omega
  rw [if_neg (by omega),if_neg (by omega),if_neg (by omega),e,if_pos h] at hn
  obtain ⟨s1,h1,hn⟩:=Option.bind_eq_some_iff.1 hn
  obtain ⟨b,h2,hn⟩:=Option.bind_eq_some_iff.1 hn
  refine ⟨s1,b,h1,⟨n,h2⟩,?_⟩
  by_cases h4:10+l=14
  ·rw [if_pos h4] at hn
   exact Or.inl ⟨by omega,(Option.some.inj hn).symm⟩
  ·rw [if_neg h4] at hn
   exact Or.inr ⟨by omega,⟨n,hn⟩⟩
theorem inv_atom {s:St} {x:E×St} (k:Ok 8 eNil s x):∃n,atom (px n) s=some x:=by
 obtain ⟨n,hn⟩:=k
 cases n with
 | zero=>cases hn
 | succ n=>
  rw [px_succ] at hn;unfold step at hn
  rw [if_neg (by decide),if_pos rfl] at hn
  exact ⟨n,hn⟩
theorem literal_mu {s:St} {x:E×St} (h:literal s=some x):mu x.2 < mu s:=by
 unfold literal at h
 by_cases h1:sees s wTrue=true
 ·rw [if_pos h1] at h
  obtain ⟨s1,e1,rfl⟩:=Option.map_eq_some_iff.1 h
  exact adv_mu e1 (by rw [(sees_kind3 h1).1];decide)
 ·rw [if_neg h1] at h
  by_cases h2:sees s wFalse=true
  ·rw [if_pos h2] at h
   obtain ⟨s1,e1,rfl⟩:=Option.map_eq_some_iff.1 h
   exact adv_mu e1 (by rw [(sees_kind3 h2).1];decide)
  ·rw [if_neg h2] at h
   obtain ⟨y,e1,rfl⟩:=Option.map_eq_some_iff.1 h
   exact number_mu e1
theorem constant_mu {s:St} {x:E×St} (h:constant s=some x):mu x.2 < mu s:=by
 unfold constant at h
 by_cases h1:sees s sMinus=true
 ·rw [if_pos h1] at h
  obtain ⟨s1,e1,h2⟩:=Option.bind_eq_some_iff.1 h
  obtain ⟨y,e2,rfl⟩:=Option.map_eq_some_iff.1 h2
  exact Nat.lt_trans (number_mu e2) (adv_mu e1 (by rw [(sees_kind3 h1).1];decide))
 ·rw [if_neg h1] at h
  exact literal_mu h
def Dn (s:St) (o:Option (E×St)):Prop:=∀x,o=some x→mu x.2≤mu s
def Fd (f:Nat→E→St→Option (E×St)):Prop:=∀t e s,Dn s (f t e s)
theorem dn_adv {s:St} {k:St→Option (E×St)} (h:∀s1,Dn s1 (k s1)):Dn s ((adv s).bind k):=fun x hx=>by
 obtain ⟨s1,h1,h2⟩:=Option.bind_eq_some_iff.1 hx
 exact Nat.le_trans (h s1 x h2) (adv_le h1)
theorem dn_want {s:St} {w:Bytes} {k:St→Option (E×St)} (h:∀s1,Dn s1 (k s1)):Dn s ((want s w).bind k):=fun x hx=>by
 obtain ⟨s1,h1,h2⟩:=Option.bind_eq_some_iff.1 hx
 exact Nat.le_trans (h s1 x h2) (Nat.le_of_lt (want_mu h1))
theorem dn_wantm {s:St} {w:Bytes} {e:E}:Dn s ((want s w).map fun s3=>(e,s3)):=fun x hx=>by
 obtain ⟨s1,h1,rfl⟩:=Option.map_eq_some_iff.1 hx
 exact Nat.le_of_lt (want_mu h1)
theorem dn_const {s:St} {k:E×St→Option (E×St)} (h:∀c,Dn c.2 (k c)):Dn s ((constant s).bind k):=fun x hx=>by
 obtain ⟨c,h1,h2⟩:=Option.bind_eq_some_iff.1 hx
 exact Nat.le_trans (h c x h2) (Nat.le_of_lt (constant_mu h1))
theorem dn_num {s:St} {lo hi:Int} {k:Nat×St→Option (E×St)} (h:∀c,Dn c.2 (k c)):Dn s ((number lo hi s).bind k):=fun x hx=>by
 obtain ⟨c,h1,h2⟩:=Option.bind_eq_some_iff.1 hx
 exact Nat.le_trans (h c x h2) (Nat.le_of_lt (number_mu h1))
theorem dn_f {f:Nat→E→St→Option (E×St)} (hf:Fd f) {t:Nat} {e:E} {s:St} {k:E×St→Option (E×St)} (h:∀c,Dn c.2 (k c)):Dn s ((f t e s).bind k):=fun x hx=>by
 obtain ⟨c,h1,h2⟩:=Option.bind_eq_some_iff.1 hx
 exact Nat.le_trans (h c x h2) (hf t e s c h1)
theorem dn_fm {f:Nat→E→St→Option (E×St)} (hf:Fd f) {t:Nat} {e:E} {s:St} {g:E×St→E}:Dn s ((f t e s).map fun c=>(g c,c.2)):=fun x hx=>by
 obtain ⟨c,h1,rfl⟩:=Option.map_eq_some_iff.1 hx
 exact hf t e s c h1
theorem dn_ite {c:Prop} [Decidable c] {s:St} {a b:Option (E×St)} (h1:Dn s a) (h2:Dn s b):Dn s (if c then a else b):=by
 by_cases h:c
 ·rw [if_pos h];exact h1
 ·rw [if_neg h];exact h2
theorem dn_lit {s:St}:Dn s (literal s):=fun _ h=>Nat.le_of_lt (literal_mu h)
theorem dn_name {s:St}:Dn s ((name s).map fun x=>(eName (off s) x.1,x.2)):=fun x hx=>by
 obtain ⟨c,h1,rfl⟩:=Option.map_eq_some_iff.1 hx
 exact Nat.le_of_lt (name_mu h1)
theorem dn_some {s:St} {e:E}:Dn s (some (e,s)):=fun x hx=>by
 obtain rfl:=Option.some.inj hx
 exact Nat.le_refl _
theorem step_mu {f:Nat→E→St→Option (E×St)} (hf:Fd f):Fd (step f):=by
 intro t e s
 unfold step atom
 repeat' first | exact hf _ _ _ | exact dn_lit | exact dn_name | exact dn_wantm | exact dn_fm hf | exact dn_some | refine dn_ite ?_ ?_ | refine dn_adv (fun _=>?_) | refine dn_want (fun _=>?_) | refine dn_const (fun _=>?_) | refine dn_num (fun _=>?_) | refine dn_f hf (fun _=>?_)
theorem px_mu:∀n,Fd (px n)
 | 0=>fun _ _ _ _ h=>by cases h
 | n+1=>step_mu (px_mu n)
theorem ok_mu {t:Nat} {e:E} {s:St} {x:E×St} (h:Ok t e s x):mu x.2≤mu s:=by
 obtain ⟨n,hn⟩:=h
 exact px_mu n t e s x hn
def Rfby (q:Nat) (s:St) (x:E) (t:St):Prop:=∃s2 c s4 y,want s sOpen=some s2∧constant s2=some c∧want c.2 sComma=some s4∧Ok 0 eNil s4 y∧want y.2 sShut=some t∧x=eFby q c.1 y.1
def Runder (q:Nat) (s:St) (x:E) (t:St):Prop:=∃s2 y s4 k,want s sOpen=some s2∧Ok 0 eNil s2 y∧want y.2 sComma=some s4∧number 2 1000 s4=some k∧want k.2 sShut=some t∧x=eUnder q y.1 k.1
def Rhold (q:Nat) (s:St) (x:E) (t:St):Prop:=∃s2 c s4 y s6 k,want s sOpen=some s2∧constant s2=some c∧want c.2 sComma=some s4∧Ok 0 eNil s4 y∧want y.2 sComma=some s6∧number 2 1000 s6=some k∧want k.2 sShut=some t∧x=eHold q c.1 y.1 k.1
def Rleast (q:Nat) (m:Bytes) (s:St) (x:E) (t:St):Prop:=∃s2 y s4 z,want s sOpen=some s2∧Ok 0 eNil s2 y∧want y.2 sComma=some s4∧Ok 0 eNil s4 z∧want z.2 sShut=some t∧x=eLeast q m y.1 z.1
theorem atom_name {s:St} (h:s.tok.kind=1) (x:E×St):Ok 8 eNil s x↔(name s).map (fun y=>(eName (off s) y.1,y.2))=some x:=by
 constructor
 ·intro kk
  obtain ⟨n,hn⟩:=inv_atom kk
  unfold atom at hn
  rw [if_pos h] at hn
  exact hn
 ·intro kk
  refine ok_atom0 fun f=>?_
  unfold atom
  rw [if_pos h]
  exact kk
theorem atom_open {s:St} (h:sees s sOpen=true) (x:E×St):Ok 8 eNil s x↔∃s1 y s3,adv s=some s1∧Ok 0 eNil s1 y∧want y.2 sShut=some s3∧x=(y.1,s3):=by
 constructor
 ·intro kk
  obtain ⟨n,hn⟩:=inv_atom kk
  unfold atom at hn
  rw [if_neg (sees_no1 h),if_pos h] at hn
  obtain ⟨s1,h1,hn⟩:=Option.bind_eq_some_iff.1 hn
  obtain ⟨y,h2,hn⟩:=Option.bind_eq_some_iff.1 hn
  obtain ⟨s3,h3,hn⟩:=Option.map_eq_some_iff.1 hn
  exact ⟨s1,y,s3,h1,⟨n,h2⟩,h3,hn.symm⟩
 ·rintro ⟨s1,y,s3,h1,⟨n,h2⟩,h3,rfl⟩
  refine ok_atom (n:=n) ?_
  unfold atom
  rw [if_neg (sees_no1 h),if_pos h,h1,Option.bind_some,h2,Option.bind_some,h3];rfl
theorem atom_fby {s:St} (h:sees s wFby=true) (x:E×St):Ok 8 eNil s x↔∃s1,adv s=some s1∧Rfby (off s) s1 x.1 x.2:=by
 have o1:=sees_other h (y:=sOpen) (by decide)
 constructor
 ·intro kk
  obtain ⟨n,hn⟩:=inv_atom kk
  unfold atom at hn
  rw [if_neg (sees_no1 h),o1,if_neg (by decide),if_pos h] at hn
  obtain ⟨s1,h1,hn⟩:=Option.bind_eq_some_iff.1 hn
  obtain ⟨s2,h2,hn⟩:=Option.bind_eq_some_iff.1 hn
  obtain ⟨c,h3,hn⟩:=Option.bind_eq_some_iff.1 hn
  obtain ⟨s4,h4,hn⟩:=Option.bind_eq_some_iff.1 hn
  obtain ⟨y,h5,hn⟩:=Option.bind_eq_some_iff.1 hn
  obtain ⟨s6,h6,rfl⟩:=Option.map_eq_some_iff.1 hn
  exact ⟨s1,h1,s2,c,s4,y,h2,h3,h4,⟨n,h5⟩,h6,rfl⟩
 ·rintro ⟨s1,h1,s2,c,s4,y,h2,h3,h4,⟨n,h5⟩,h6,h7⟩
  refine ok_atom (n:=n) ?_
  unfold atom
  rw [if_neg (sees_no1 h),o1,if_neg (by decide),if_pos h,h1,Option.bind_some,h2,Option.bind_some,h3,Option.bind_some,h4,Option.bind_some,h5,Option.bind_some,h6,←h7];rfl
theorem atom_under {s:St} (h:sees s wUnder=true) (x:E×St):Ok 8 eNil s x↔∃s1,adv s=some s1∧Runder (off s) s1 x.1 x.2:=by
 have o1:=sees_other h (y:=sOpen) (by decide)
 have o2:=sees_other h (y:=wFby) (by decide)
 constructor
 ·intro kk
  obtain ⟨n,hn⟩:=inv_atom kk
  unfold atom at hn
  rw [if_neg (sees_no1 h),o1,if_neg (by decide),o2,if_neg (by decide),if_pos h] at hn
  obtain ⟨s1,h1,hn⟩:=Option.bind_eq_some_iff.1 hn
  obtain ⟨s2,h2,hn⟩:=Option.bind_eq_some_iff.1 hn
  obtain ⟨y,h3,hn⟩:=Option.bind_eq_some_iff.1 hn
  obtain ⟨s4,h4,hn⟩:=Option.bind_eq_some_iff.1 hn
  obtain ⟨k,h5,hn⟩:=Option.bind_eq_some_iff.1 hn
  obtain ⟨s6,h6,rfl⟩:=Option.map_eq_some_iff.1 hn
  exact ⟨s1,h1,s2,y,s4,k,h2,⟨n,h3⟩,h4,h5,h6,rfl⟩
 ·rintro ⟨s1,h1,s2,y,s4,k,h2,⟨n,h3⟩,h4,h5,h6,h7⟩
  refine ok_atom (n:=n) ?_
  unfold atom
  rw [if_neg (sees_no1 h),o1,if_neg (by decide),o2,if_neg (by decide),if_pos h,h1,Option.bind_some,h2,Option.bind_some,h3,Option.bind_some,h4,Option.bind_some,h5,Option.bind_some,h6,←h7];rfl
theorem atom_hold {s:St} (h:sees s wHold=true) (x:E×St):Ok 8 eNil s x↔∃s1,adv s=some s1∧Rhold (off s) s1 x.1 x.2:=by
 have o1:=sees_other h (y:=sOpen) (by decide)
 have o2:=sees_other h (y:=wFby) (by decide)
 have o3:=sees_other h (y:=wUnder) (by decide)
 constructor
 ·intro kk
  obtain ⟨n,hn⟩:=inv_atom kk
  unfold atom at hn
  rw [if_neg (sees_no1 h),o1,if_neg (by decide),o2,if_neg (by decide),o3,if_neg (by decide),if_pos h] at hn
  obtain ⟨s1,h1,hn⟩:=Option.bind_eq_some_iff.1 hn
  obtain ⟨s2,h2,hn⟩:=Option.bind_eq_some_iff.1 hn
  obtain ⟨c,h3,hn⟩:=Option.bind_eq_some_iff.1 hn
  obtain ⟨s4,h4,hn⟩:=Option.bind_eq_some_iff.1 hn
  obtain ⟨y,h5,hn⟩:=Option.bind_eq_some_iff.1 hn
  obtain ⟨s6,h6,hn⟩:=Option.bind_eq_some_iff.1 hn
  obtain ⟨k,h7,hn⟩:=Option.bind_eq_some_iff.1 hn
  obtain ⟨s8,h8,rfl⟩:=Option.map_eq_some_iff.1 hn
  exact ⟨s1,h1,s2,c,s4,y,s6,k,h2,h3,h4,⟨n,h5⟩,h6,h7,h8,rfl⟩
 ·rintro ⟨s1,h1,s2,c,s4,y,s6,k,h2,h3,h4,⟨n,h5⟩,h6,h7,h8,h9⟩
  refine ok_atom (n:=n) ?_
  unfold atom
  rw [if_neg (sees_no1 h),o1,if_neg (by decide),o2,if_neg (by decide),o3,if_neg (by decide),if_pos h,h1,Option.bind_some,h2,Option.bind_some,h3,Option.bind_some,h4,Option.bind_some,h5,Option.bind_some,h6,Option.bind_some,h7,Option.bind_some,h8,←h9];rfl
theorem atom_least {s:St} {m:Bytes} (hm:m=wMin∨m=wMax) (h:sees s m=true) (x:E×St):Ok 8 eNil s x↔∃s1,adv s=some s1∧Rleast (off s) m s1 x.1 x.2:=by
 have o1:sees s sOpen=false:=sees_other h (by rcases hm with rfl | rfl <;> decide)
 have o2:sees s wFby=false:=sees_other h (by rcases hm with rfl | rfl <;> decide)
 have o3:sees s wUnder=false:=sees_other h (by rcases hm with rfl | rfl <;> decide)
 have o4:sees s wHold=false:=sees_other h (by rcases hm with rfl | rfl <;> decide)
 have o5:(sees s wMin || sees s wMax)=true:=by
  rcases hm with rfl | rfl
  ·rw [h];rfl
  ·rw [h];simp
 have ht:=(sees_kind3 h).2
 constructor
 ·intro kk
  obtain ⟨n,hn⟩:=inv_atom kk
  unfold atom at hn
  rw [if_neg (sees_no1 h),o1,if_neg (by decide),o2,if_neg (by decide),o3,if_neg (by decide),o4,if_neg (by decide),if_pos o5] at hn
  obtain ⟨s1,h1,hn⟩:=Option.bind_eq_some_iff.1 hn
  obtain ⟨s2,h2,hn⟩:=Option.bind_eq_some_iff.1 hn
  obtain ⟨y,h3,hn⟩:=Option.bind_eq_some_iff.1 hn
  obtain ⟨s4,h4,hn⟩:=Option.bind_eq_some_iff.1 hn
  obtain ⟨z,h5,hn⟩:=Option.bind_eq_some_iff.1 hn
  obtain ⟨s6,h6,rfl⟩:=Option.map_eq_some_iff.1 hn
  exact ⟨s1,h1,s2,y,s4,z,h2,⟨n,h3⟩,h4,⟨n,h5⟩,h6,by rw [ht]⟩
 ·rintro ⟨s1,h1,s2,y,s4,z,h2,⟨n,h3⟩,h4,⟨n2,h5⟩,h6,h7⟩
  have f3:=px_le (show n≤n+n2 by omega) h3
  have f5:=px_le (show n2≤n+n2 by omega) h5
  refine ok_atom (n:=n+n2) ?_
  unfold atom
  rw [if_neg (sees_no1 h),o1,if_neg (by decide),o2,if_neg (by decide),o3,if_neg (by decide),o4,if_neg (by decide),if_pos o5,h1,Option.bind_some,h2,Option.bind_some,f3,Option.bind_some,h4,Option.bind_some,f5,Option.bind_some,h6,ht,←h7];rfl
theorem atom_lit {s:St} (h0:s.tok.kind≠1) (o1:sees s sOpen=false) (o2:sees s wFby=false) (o3:sees s wUnder=false) (o4:sees s wHold=false) (o5:sees s wMin=false) (o6:sees s wMax=false) (x:E×St) :
  Ok 8 eNil s x↔literal s=some x:=by
 constructor
 ·intro kk
  obtain ⟨n,hn⟩:=inv_atom kk
  unfold atom at hn
  rw [if_neg h0,o1,if_neg (by decide),o2,if_neg (by decide),o3,if_neg (by decide),o4,if_neg (by decide),o5,o6,if_neg (by decide)] at hn
  exact hn
 ·intro kk
  refine ok_atom0 fun f=>?_
  unfold atom
  rw [if_neg h0,o1,if_neg (by decide),o2,if_neg (by decide),o3,if_neg (by decide),o4,if_neg (by decide),o5,o6,if_neg (by decide)]
  exact kk
theorem pnames_le:∀(n m:Nat) (acc:List (Bytes×Nat)) (s:St) (x:List (Bytes×Nat)×St),n≤m→pnames n acc s=some x→pnames m acc s=some x
 | 0,_,_,_,_,_,h=>by cases h
 | n+1,0,_,_,_,hm,_=>by omega
 | n+1,m+1,acc,s,x,hm,h=>by
  rw [pnames] at h ⊢
  by_cases c:sees s sComma=true
  ·rw [if_pos c] at h ⊢
   obtain ⟨s1,h1,h⟩:=Option.bind_eq_some_iff.1 h
   obtain ⟨y,h2,h⟩:=Option.bind_eq_some_iff.1 h
   rw [h1,Option.bind_some,h2,Option.bind_some]
   exact pnames_le n m _ _ x (by omega) h
  ·rw [if_neg c] at h ⊢;exact h
theorem pitem_le {n m:Nat} (hm:n≤m) {s:St} {x:It×St} (h:pitem n s=some x):pitem m s=some x:=by
 unfold pitem at h ⊢
 by_cases c1:sees s wInput=true
 ·rw [if_pos c1] at h ⊢;exact h
 rw [if_neg c1] at h ⊢
 by_cases c2:sees s wOutput=true
 ·rw [if_pos c2] at h ⊢
  refine (Imp.refl _).bind (fun _=>(Imp.refl _).bind (fun _=>Imp.bind (fun y hy=>pnames_le n m _ _ y hm hy) (fun _=>Imp.refl _))) x h
 rw [if_neg c2] at h ⊢
 refine (Imp.refl _).bind (fun _=>(Imp.refl _).bind (fun _=>(Imp.refl _).bind (fun _=>(Imp.refl _).bind (fun _=>Imp.bind (fun y hy=>px_le hm hy) (fun _=>Imp.refl _))))) x h
theorem pprog_le:∀(n m:Nat) (acc:List It) (s:St) (l:List It),n≤m→pprog n acc s=some l→pprog m acc s=some l
 | 0,_,_,_,_,_,h=>by cases h
 | n+1,0,_,_,_,hm,_=>by omega
 | n+1,m+1,acc,s,l,hm,h=>by
  rw [pprog] at h ⊢
  by_cases c0:s.tok.kind=0
  ·rw [if_pos c0] at h ⊢;exact h
  ·rw [if_neg c0] at h ⊢
   by_cases c1:acc.length=60
   ·rw [if_pos c1] at h;cases h
   ·rw [if_neg c1] at h ⊢
    obtain ⟨x,h1,h2⟩:=Option.bind_eq_some_iff.1 h
    rw [pitem_le (show n≤m by omega) h1,Option.bind_some]
    exact pprog_le n m _ _ l (by omega) h2
def Rname (acc:List (Bytes×Nat)) (s:St) (l:List (Bytes×Nat)×St):Prop:=∃n,pnames n acc s=some l
theorem Rname.unique {acc:List (Bytes×Nat)} {s:St} {x y:List (Bytes×Nat)×St} (h:Rname acc s x) (k:Rname acc s y):x=y:=by
 obtain ⟨n,hn⟩:=h
 obtain ⟨m,hm⟩:=k
 have h1:=pnames_le n (n+m) acc s x (by omega) hn
 have h2:=pnames_le m (n+m) acc s y (by omega) hm
 exact Option.some.inj (h1.symm.trans h2)
theorem name_stop {acc:List (Bytes×Nat)} {s:St} (h:sees s sComma=false):Rname acc s (acc,s):=⟨1,by rw [pnames,h];rfl⟩
theorem name_go {acc:List (Bytes×Nat)} {s s1:St} {x:Bytes×St} {l:List (Bytes×Nat)×St} (h:sees s sComma=true) (h1:adv s=some s1) (h2:name s1=some x):Rname acc s l↔Rname (acc++[(x.1,off s1)]) x.2 l:=by
 constructor
 ·rintro ⟨n,hn⟩
  cases n with
  | zero=>cases hn
  | succ n=>
   rw [pnames,if_pos h,h1,Option.bind_some,h2,Option.bind_some] at hn
   exact ⟨n,hn⟩
 ·rintro ⟨n,hn⟩
  exact ⟨n+1,by rw [pnames,if_pos h,h1,Option.bind_some,h2,Option.bind_some];exact hn⟩
def Rin (s:St) (i:It) (t:St):Prop:=∃x s3 y s5 k,name s=some x∧want x.2 sColon=some s3∧ftype s3=some y∧want y.2 wEvery=some s5∧number 1 1000000 s5=some k∧want k.2 sSemi=some t∧i=⟨1,x.1,off s,y.1,k.1,[],eNil⟩
def Rout (s:St) (i:It) (t:St):Prop:=∃x l,name s=some x∧Rname [(x.1,off s)] x.2 l∧want l.2 sSemi=some t∧i=⟨2,[],0,0,0,l.1,eNil⟩
def Req (s:St) (i:It) (t:St):Prop:=∃x s2 y s4 e,name s=some x∧want x.2 sColon=some s2∧ftype s2=some y∧want y.2 sIs=some s4∧Ok 0 eNil s4 e∧want e.2 sSemi=some t∧i=⟨3,x.1,off s,y.1,0,[],e.1⟩
def Rit (s:St) (i:It) (t:St):Prop:=∃n,pitem n s=some (i,t)
theorem Rit.unique {s:St} {i j:It} {t u:St} (h:Rit s i t) (k:Rit s j u):(i,t)=(j,u):=by
 obtain ⟨n,hn⟩:=h
 obtain ⟨m,hm⟩:=k
 have h1:=pitem_le (show n≤n+m by omega) hn
 have h2:=pitem_le (show m≤n+m by omega) hm
 exact Option.some.inj (h1.symm.trans h2)
theorem it_in {s:St} (h:sees s wInput=true) (i:It) (t:St):Rit s i t↔∃s1,adv s=some s1∧Rin s1 i t:=by
 constructor
 ·rintro ⟨n,hn⟩
  unfold pitem at hn
  rw [if_pos h] at hn
  obtain ⟨s1,h1,hn⟩:=Option.bind_eq_some_iff.1 hn
  obtain ⟨x,h2,hn⟩:=Option.bind_eq_some_iff.1 hn
  obtain ⟨s3,h3,hn⟩:=Option.bind_eq_some_iff.1 hn
  obtain ⟨y,h4,hn⟩:=Option.bind_eq_some_iff.1 hn
  obtain ⟨s5,h5,hn⟩:=Option.bind_eq_some_iff.1 hn
  obtain ⟨k,h6,hn⟩:=Option.bind_eq_some_iff.1 hn
  obtain ⟨s7,h7,hn⟩:=Option.map_eq_some_iff.1 hn
  obtain ⟨rfl,rfl⟩:=Prod.mk.inj hn
  exact ⟨s1,h1,x,s3,y,s5,k,h2,h3,h4,h5,h6,h7,rfl⟩
 ·rintro ⟨s1,h1,x,s3,y,s5,k,h2,h3,h4,h5,h6,h7,rfl⟩
  refine ⟨0,?_⟩
  unfold pitem
  rw [if_pos h,h1,Option.bind_some,h2,Option.bind_some,h3,Option.bind_some,h4,Option.bind_some,h5,Option.bind_some,h6,Option.bind_some,h7];rfl
theorem it_out {s:St} (h:sees s wOutput=true) (i:It) (t:St):Rit s i t↔∃s1,adv s=some s1∧Rout s1 i t:=by
 have o1:=sees_other h (y:=wInput) (by decide)
 constructor
 ·rintro ⟨n,hn⟩
  unfold pitem at hn
  rw [o1,if_neg (by decide),if_pos h] at hn
  obtain ⟨s1,h1,hn⟩:=Option.bind_eq_some_iff.1 hn
  obtain ⟨x,h2,hn⟩:=Option.bind_eq_some_iff.1 hn
  obtain ⟨l,h3,hn⟩:=Option.bind_eq_some_iff.1 hn
  obtain ⟨s7,h7,hn⟩:=Option.map_eq_some_iff.1 hn
  obtain ⟨rfl,rfl⟩:=Prod.mk.inj hn
  exact ⟨s1,h1,x,l,h2,⟨n,h3⟩,h7,rfl⟩
 ·rintro ⟨s1,h1,x,l,h2,⟨n,h3⟩,h7,rfl⟩
  refine ⟨n,?_⟩
  unfold pitem
  rw [o1,if_neg (by decide),if_pos h,h1,Option.bind_some,h2,Option.bind_some,h3,Option.bind_some,h7];rfl
theorem it_eq {s:St} (o1:sees s wInput=false) (o2:sees s wOutput=false) (i:It) (t:St):Rit s i t↔Req s i t:=by
 constructor
 ·rintro ⟨n,hn⟩
  unfold pitem at hn
  rw [o1,if_neg (by decide),o2,if_neg (by decide)] at hn
  obtain ⟨x,h2,hn⟩:=Option.bind_eq_some_iff.1 hn
  obtain ⟨s3,h3,hn⟩:=Option.bind_eq_some_iff.1 hn
  obtain ⟨y,h4,hn⟩:=Option.bind_eq_some_iff.1 hn
  obtain ⟨s5,h5,hn⟩:=Option.bind_eq_some_iff.1 hn
  obtain ⟨e,h6,hn⟩:=Option.bind_eq_some_iff.1 hn
  obtain ⟨s7,h7,hn⟩:=Option.map_eq_some_iff.1 hn
  obtain ⟨rfl,rfl⟩:=Prod.mk.inj hn
  exact ⟨x,s3,y,s5,e,h2,h3,h4,h5,⟨n,h6⟩,h7,rfl⟩
 ·rintro ⟨x,s3,y,s5,e,h2,h3,h4,h5,⟨n,h6⟩,h7,rfl⟩
  refine ⟨n,?_⟩
  unfold pitem
  rw [o1,if_neg (by decide),o2,if_neg (by decide),h2,Option.bind_some,h3,Option.bind_some,h4,Option.bind_some,h5,Option.bind_some,h6,Option.bind_some,h7];rfl
def er:E→Mil.E
 | .nil=>.nil
 | .node t k x a b=>.node t k x.1 (er a) (er b)
def erx (x:E×St):Mil.E×St:=(er x.1,x.2)
def Sim {α β:Type} (g:α→β) (o:Option α) (p:Option β):Prop:=p=o.map g
theorem sim_bind {α β γ δ:Type} {g:α→β} {h:γ→δ} {o:Option α} {p:Option β} {f:α→Option γ} {k:β→Option δ} (e:Sim g o p) (r:∀x,Sim h (f x) (k (g x))):Sim h (o.bind f) (p.bind k):=by
 unfold Sim at *
 rw [e]
 cases o with
 | none=>rfl
 | some x=>exact r x
theorem sim_same {α γ δ:Type} {h:γ→δ} {o:Option α} {f:α→Option γ} {k:α→Option δ} (r:∀x,Sim h (f x) (k x)):Sim h (o.bind f) (o.bind k):=by
 cases o with
 | none=>rfl
 | some x=>exact r x
theorem sim_map {α β γ δ:Type} {g:α→β} {h:γ→δ} {o:Option α} {p:Option β} {f:α→γ} {k:β→δ} (e:Sim g o p) (r:∀x,k (g x)=h (f x)):Sim h (o.map f) (p.map k):=by
 unfold Sim at *
 rw [e]
 cases o with
 | none=>rfl
 | some x=>exact congrArg some (r x)
theorem sim_mapS {α γ δ:Type} {h:γ→δ} {o:Option α} {f:α→γ} {k:α→δ} (r:∀x,k x=h (f x)):Sim h (o.map f) (o.map k):=by
 cases o with
 | none=>rfl
 | some x=>exact congrArg some (r x)
theorem sim_ite {c:Prop} [Decidable c] {α β:Type} {g:α→β} {o o':Option α} {p p':Option β} (h:Sim g o p) (k:Sim g o' p'):Sim g (if c then o else o') (if c then p else p'):=by
 by_cases hc:c
 ·rw [if_pos hc,if_pos hc];exact h
 ·rw [if_neg hc,if_neg hc];exact k
theorem sim_some {α β:Type} {g:α→β} (x:α):Sim g (some x) (some (g x)):=rfl
theorem sim_literal (s:St):Sim erx (literal s) (Mil.literal s):=
 sim_ite (sim_mapS fun _=>rfl) (sim_ite (sim_mapS fun _=>rfl) (sim_mapS fun _=>rfl))
theorem sim_constant (s:St):Sim erx (constant s) (Mil.constant s):=
 sim_ite (sim_same fun _=>sim_mapS fun _=>rfl) (sim_literal s)
def SimF (f:Nat→E→St→Option (E×St)) (g:Nat→Mil.E→St→Option (Mil.E×St)):Prop:=∀t e s,Sim erx (f t e s) (g t (er e) s)
theorem sim_atom {f:Nat→E→St→Option (E×St)} {g:Nat→Mil.E→St→Option (Mil.E×St)} (hf:SimF f g) (s:St):Sim erx (atom f s) (Mil.atom g s):=
 sim_ite (sim_mapS fun _=>rfl)
 (sim_ite (sim_same fun s1=>sim_bind (hf 0 eNil s1) fun _=>sim_mapS fun _=>rfl)
 (sim_ite (sim_same fun _=>sim_same fun s2=>sim_bind (sim_constant s2) fun _=>sim_same fun s4=>sim_bind (hf 0 eNil s4) fun _=>sim_mapS fun _=>rfl)
 (sim_ite (sim_same fun _=>sim_same fun s2=>sim_bind (hf 0 eNil s2) fun _=>sim_same fun _=>sim_same fun _=>sim_mapS fun _=>rfl)
 (sim_ite (sim_same fun _=>sim_same fun s2=>sim_bind (sim_constant s2) fun _=>sim_same fun s4=>sim_bind (hf 0 eNil s4) fun _=>sim_same fun _=>sim_same fun _=>sim_mapS fun _=>rfl)
 (sim_ite (sim_same fun _=>sim_same fun s2=>sim_bind (hf 0 eNil s2) fun _=>sim_same fun s4=>sim_bind (hf 0 eNil s4) fun _=>sim_mapS fun _=>rfl)
 (sim_literal s))))))
theorem sim_step {f:Nat→E→St→Option (E×St)} {g:Nat→Mil.E→St→Option (Mil.E×St)} (hf:SimF f g):SimF (step f) (Mil.step g):=fun t _ s=>
 sim_ite (sim_ite (sim_same fun s1=>sim_bind (hf 0 eNil s1) fun _=>sim_same fun s3=>sim_bind (hf 0 eNil s3) fun _=>sim_same fun s5=>sim_map (hf 0 eNil s5) fun _=>rfl) (hf 1 eNil s))
 (sim_ite (sim_atom hf s)
 (sim_ite (sim_ite (sim_same fun s1=>sim_map (hf t eNil s1) fun _=>rfl) (sim_bind (hf (t+1) eNil s) fun a=>hf (10+t) a.1 a.2))
 (sim_ite (sim_same fun s1=>sim_bind (hf (t - 10+1) eNil s1) fun b=>sim_ite (sim_some _) (hf t _ b.2)) (sim_some _))))
theorem sim_px:∀n,SimF (px n) (Mil.px n)
 | 0=>fun _ _ _=>rfl
 | n+1=>sim_step (sim_px n)
theorem Ok.er {t:Nat} {e:E} {s:St} {x:E×St} (h:Ok t e s x):Mil.Ok t (er e) s (er x.1,x.2):=by
 obtain ⟨n,h⟩:=h
 exact ⟨n,by rw [sim_px n t e s,h];rfl⟩
theorem const_er {s:St} {x:E×St} (h:constant s=some x):Mil.constant s=some (er x.1,x.2):=by rw [sim_constant s,h];rfl
def eri (i:It):Mil.It:=⟨i.kind,i.nm,i.ty,i.every,i.names.map Prod.fst,er i.body⟩
theorem sim_names:∀(n:Nat) (acc:List (Bytes×Nat)) (s:St),Sim (fun x=>(x.1.map Prod.fst,x.2)) (pnames n acc s) (Mil.pnames n (acc.map Prod.fst) s)
 | 0,_,_=>rfl
 | n+1,acc,s=>by
  refine sim_ite (sim_same fun s1=>sim_same fun x=>?_) (sim_some _)
  have:=sim_names n (acc++[(x.1,off s1)]) x.2
  rw [List.map_append] at this
  exact this
theorem sim_item (n:Nat) (s:St):Sim (fun x=>(eri x.1,x.2)) (pitem n s) (Mil.pitem n s):=
 sim_ite (sim_same fun _=>sim_same fun _=>sim_same fun _=>sim_same fun _=>sim_same fun _=>sim_same fun _=>sim_mapS fun _=>rfl)
 (sim_ite (sim_same fun _=>sim_same fun x=>sim_bind (sim_names n _ x.2) fun _=>sim_mapS fun _=>rfl)
 (sim_same fun _=>sim_same fun _=>sim_same fun _=>sim_same fun s4=>sim_bind (sim_px n 0 eNil s4) fun _=>sim_mapS fun _=>rfl))
theorem sim_prog:∀(n:Nat) (acc:List It) (s:St),Sim (fun x=>x.map eri) (pprog n acc s) (Mil.pprog n (acc.map eri) s)
 | 0,_,_=>rfl
 | n+1,acc,s=>by
  have e:(acc.map eri).length=acc.length:=List.length_map ..
  unfold pprog Mil.pprog
  rw [e]
  refine sim_ite (sim_some _) (sim_ite rfl (sim_bind (sim_item n s) fun x=>?_))
  have:=sim_prog n (acc++[x.1]) x.2
  rw [List.map_append] at this
  exact this
theorem sim_parse (n:Nat) (b:Bytes):Sim (fun x=>x.map eri) (parse n b) (Mil.parse n b):=
 sim_ite rfl (sim_same fun s=>sim_prog n [] s)
theorem Parsed.er {b:Bytes} {l:List It} (h:Parsed b l):Mil.Parsed b (l.map eri):=by
 obtain ⟨n,h⟩:=h
 exact ⟨n,by rw [sim_parse n b,h];rfl⟩
theorem Parsed.pl {b:Bytes} {l:List Mil.It} (h:Mil.Parsed b l):∃m,Parsed b m∧m.map eri=l:=by
 obtain ⟨n,h⟩:=h
 rw [sim_parse n b] at h
 obtain ⟨m,h1,h2⟩:=Option.map_eq_some_iff.1 h
 exact ⟨m,⟨n,h1⟩,h2⟩
theorem rname_er {acc:List (Bytes×Nat)} {s:St} {l:List (Bytes×Nat)×St} (h:Rname acc s l):Mil.Rname (acc.map Prod.fst) s (l.1.map Prod.fst,l.2):=by
 obtain ⟨n,h⟩:=h
 exact ⟨n,by rw [sim_names n acc s,h];rfl⟩
theorem Rit.er {s:St} {i:It} {t:St} (h:Rit s i t):Mil.Rit s (eri i) t:=by
 obtain ⟨n,h⟩:=h
 exact ⟨n,by rw [sim_item n s,h];rfl⟩
end Mip
end
end Go.Proofs.YticbokabjhnagaaGreatDoor
