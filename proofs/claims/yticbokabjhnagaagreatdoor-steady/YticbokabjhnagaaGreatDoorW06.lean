import Derived.Test.YticbokabjhnagaaGreatDoorW05
namespace Go.Proofs.YticbokabjhnagaaGreatDoor
set_option maxHeartbeats 32000000
section
namespace Mil
abbrev Rz (α:Type):Type:=Option (Except (Nat×Int) α)
abbrev Rz.ok {α:Type} (x:α):Rz α:=some (.ok x)
abbrev Rz.bad {α:Type} (k:Nat) (p:Int):Rz α:=some (.error (k,p))
abbrev Rz.out {α:Type}:Rz α:=none
def Rz.bind {α β:Type} (r:Rz α) (f:α→Rz β):Rz β:=
 match r with
 | some (.ok x)=>f x
 | some (.error e)=>some (.error e)
 | none=>none
def Rz.map {α β:Type} (r:Rz α) (f:α→β):Rz β:=r.bind fun x=>.ok (f x)
def hereAt (N:Nat) (s:St):Int:=(N:Int) - s.rest.length - s.tok.txt.length
def advZ' (N:Nat) (b:Bytes) (n:Nat):Rz St:=
 match cut (skip false b) with
 | none=>.bad 2 ((N:Int) - (skip false b).length)
 | some (t,r)=>if t.kind=0 then .ok ⟨t,r,n⟩ else if 600 < n+1 then .bad 1 ((N:Int) - (skip false b).length) else .ok ⟨t,r,n+1⟩
def advZ (N:Nat) (s:St):Rz St:=advZ' N s.rest s.cnt
def refZ {α:Type} (N:Nat) (s:St):Rz α:=.bad 3 (hereAt N s)
def wantZ (N:Nat) (s:St) (x:Bytes):Rz St:=if sees s x then advZ N s else refZ N s
def nameZ (N:Nat) (s:St):Rz (Bytes×St):=if s.tok.kind=1 then (advZ N s).map fun s1=>(s.tok.txt,s1) else refZ N s
def numberZ (N:Nat) (lo hi:Int) (s:St):Rz (Nat×St):=if s.tok.kind=2∧lo≤s.tok.val∧s.tok.val≤hi then (advZ N s).map fun s1=>(s.tok.val.toNat,s1) else refZ N s
def ftypeZ (N:Nat) (s:St):Rz (Nat×St):=if sees s wInt then (advZ N s).map fun s1=>(0,s1) else if sees s wBool then (advZ N s).map fun s1=>(1,s1) else refZ N s
def literalZ (N:Nat) (s:St):Rz (E×St):=
 if sees s wTrue then (advZ N s).map fun s1=>(eBool 1,s1) else if sees s wFalse then (advZ N s).map fun s1=>(eBool 0,s1)
 else (numberZ N 0 maxInt s).map fun x=>(eInt x.1,x.2)
def constantZ (N:Nat) (s:St):Rz (E×St):=
 if sees s sMinus then (advZ N s).bind fun s1=>(numberZ N 0 maxInt s1).map fun x=>(ePre sMinus (eInt x.1),x.2) else literalZ N s
def atomZ (N:Nat) (f:Nat→E→St→Rz (E×St)) (s:St):Rz (E×St):=
 if s.tok.kind=1 then (nameZ N s).map fun x=>(eName x.1,x.2)
 else if sees s sOpen then (advZ N s).bind fun s1=>(f 0 eNil s1).bind fun x=>(wantZ N x.2 sShut).map fun s3=>(x.1,s3)
 else if sees s wFby then (advZ N s).bind fun s1=>(wantZ N s1 sOpen).bind fun s2=>(constantZ N s2).bind fun c=>(wantZ N c.2 sComma).bind fun s4=>(f 0 eNil s4).bind fun x=>(wantZ N x.2 sShut).map fun s6=>(eFby c.1 x.1,s6)
 else if sees s wUnder then (advZ N s).bind fun s1=>(wantZ N s1 sOpen).bind fun s2=>(f 0 eNil s2).bind fun x=>(wantZ N x.2 sComma).bind fun s4=>(numberZ N 2 1000 s4).bind fun k=>(wantZ N k.2 sShut).map fun s6=>(eUnder x.1 k.1,s6)
 else if sees s wHold then (advZ N s).bind fun s1=>(wantZ N s1 sOpen).bind fun s2=>(constantZ N s2).bind fun c=>(wantZ N c.2 sComma).bind fun s4=>(f 0 eNil s4).bind fun x=>(wantZ N x.2 sComma).bind fun s6=>(numberZ N 2 1000 s6).bind fun k=>(wantZ N k.2 sShut).map fun s8=>(eHold c.1 x.1 k.1,s8)
 else if sees s wMin || sees s wMax then (advZ N s).bind fun s1=>(wantZ N s1 sOpen).bind fun s2=>(f 0 eNil s2).bind fun a=>(wantZ N a.2 sComma).bind fun s4=>(f 0 eNil s4).bind fun b=>(wantZ N b.2 sShut).map fun s6=>(eLeast s.tok.txt a.1 b.1,s6)
 else literalZ N s
def stepZ (N:Nat) (f:Nat→E→St→Rz (E×St)) (tag:Nat) (left:E) (s:St):Rz (E×St):=
 if tag=0 then
  if sees s wIf then (advZ N s).bind fun s1=>(f 0 eNil s1).bind fun a=>(wantZ N a.2 wThen).bind fun s3=>(f 0 eNil s3).bind fun b=>(wantZ N b.2 wElse).bind fun s5=>(f 0 eNil s5).map fun c=>(eIf a.1 b.1 c.1,c.2)
  else f 1 eNil s
 else if tag=8 then atomZ N f s
 else if tag < 8 then
  if (tag=3∧sees s wNot=true)∨(tag=7∧sees s sMinus=true) then (advZ N s).bind fun s1=>(f tag eNil s1).map fun a=>(ePre s.tok.txt a.1,a.2)
  else (f (tag+1) eNil s).bind fun a=>f (10+tag) a.1 a.2
 else if Mil.opAt s=tag - 10 then (advZ N s).bind fun s1=>(f (tag - 10+1) eNil s1).bind fun b=>if tag=14 then .ok (eTwo s.tok.txt left b.1,b.2) else f tag (eTwo s.tok.txt left b.1) b.2
 else .ok (left,s)
def pz (N:Nat):Nat→Nat→E→St→Rz (E×St)
 | 0,_,_,_=>.out
 | n+1,t,e,s=>stepZ N (pz N n) t e s
def Imz {α:Type} (o:Option α) (r:Rz α):Prop:=∀x,o=some x→r=.ok x
theorem imz_bind {α β:Type} {o:Option α} {r:Rz α} {f:α→Option β} {g:α→Rz β} (h:Imz o r) (k:∀x,Imz (f x) (g x)):Imz (o.bind f) (r.bind g):=fun x hx=>by
 obtain ⟨y,h1,h2⟩:=Option.bind_eq_some_iff.1 hx
 rw [h y h1]
 exact k y x h2
theorem imz_map {α β:Type} {o:Option α} {r:Rz α} (f:α→β) (h:Imz o r):Imz (o.map f) (r.map f):=fun x hx=>by
 obtain ⟨y,h1,rfl⟩:=Option.map_eq_some_iff.1 hx
 rw [h y h1];rfl
theorem imz_ite {α:Type} {c:Prop} [Decidable c] {o o':Option α} {r r':Rz α} (h:Imz o r) (k:Imz o' r'):Imz (if c then o else o') (if c then r else r'):=by
 by_cases hc:c
 ·rw [if_pos hc,if_pos hc];exact h
 ·rw [if_neg hc,if_neg hc];exact k
theorem imz_none {α:Type} (r:Rz α):Imz (none:Option α) r:=fun _ h=>by cases h
theorem imz_some {α:Type} (x:α):Imz (some x) (.ok x):=fun y h=>by rw [Option.some.inj h]
theorem imz_adv' (N:Nat) (b:Bytes) (n:Nat):Imz (adv' b n) (advZ' N b n):=by
 unfold adv' advZ'
 cases cut (skip false b) with
 | none=>exact imz_none _
 | some x=>exact imz_ite (imz_some _) (imz_ite (imz_none _) (imz_some _))
theorem imz_adv (N:Nat) (s:St):Imz (adv s) (advZ N s):=imz_adv' N _ _
theorem imz_want (N:Nat) (s:St) (x:Bytes):Imz (want s x) (wantZ N s x):=imz_ite (imz_adv N s) (imz_none _)
theorem imz_name (N:Nat) (s:St):Imz (name s) (nameZ N s):=imz_ite (imz_map _ (imz_adv N s)) (imz_none _)
theorem imz_number (N:Nat) (lo hi:Int) (s:St):Imz (number lo hi s) (numberZ N lo hi s):=imz_ite (imz_map _ (imz_adv N s)) (imz_none _)
theorem imz_ftype (N:Nat) (s:St):Imz (ftype s) (ftypeZ N s):=imz_ite (imz_map _ (imz_adv N s)) (imz_ite (imz_map _ (imz_adv N s)) (imz_none _))
theorem imz_literal (N:Nat) (s:St):Imz (literal s) (literalZ N s):=imz_ite (imz_map _ (imz_adv N s)) (imz_ite (imz_map _ (imz_adv N s)) (imz_map _ (imz_number N _ _ s)))
theorem imz_constant (N:Nat) (s:St):Imz (constant s) (constantZ N s):=imz_ite (imz_bind (imz_adv N s) fun s1=>imz_map _ (imz_number N _ _ s1)) (imz_literal N s)
theorem imz_atom (N:Nat) {f:Nat→E→St→Option (E×St)} {g:Nat→E→St→Rz (E×St)} (hf:∀t e s,Imz (f t e s) (g t e s)) (s:St):Imz (atom f s) (atomZ N g s):=
 imz_ite (imz_map _ (imz_name N s))
 (imz_ite (imz_bind (imz_adv N s) fun s1=>imz_bind (hf 0 eNil s1) fun x=>imz_map _ (imz_want N x.2 _))
 (imz_ite (imz_bind (imz_adv N s) fun s1=>imz_bind (imz_want N s1 _) fun s2=>imz_bind (imz_constant N s2) fun c=>imz_bind (imz_want N c.2 _) fun s4=>imz_bind (hf 0 eNil s4) fun x=>imz_map _ (imz_want N x.2 _))
 (imz_ite (imz_bind (imz_adv N s) fun s1=>imz_bind (imz_want N s1 _) fun s2=>imz_bind (hf 0 eNil s2) fun x=>imz_bind (imz_want N x.2 _) fun s4=>imz_bind (imz_number N _ _ s4) fun k=>imz_map _ (imz_want N k.2 _))
 (imz_ite (imz_bind (imz_adv N s) fun s1=>imz_bind (imz_want N s1 _) fun s2=>imz_bind (imz_constant N s2) fun c=>imz_bind (imz_want N c.2 _) fun s4=>imz_bind (hf 0 eNil s4) fun x=>imz_bind (imz_want N x.2 _) fun s6=>imz_bind (imz_number N _ _ s6) fun k=>imz_map _ (imz_want N k.2 _))
 (imz_ite (imz_bind (imz_adv N s) fun s1=>imz_bind (imz_want N s1 _) fun s2=>imz_bind (hf 0 eNil s2) fun a=>imz_bind (imz_want N a.2 _) fun s4=>imz_bind (hf 0 eNil s4) fun b=>imz_map _ (imz_want N b.2 _))
 (imz_literal N s))))))
theorem imz_step (N:Nat) {f:Nat→E→St→Option (E×St)} {g:Nat→E→St→Rz (E×St)} (hf:∀t e s,Imz (f t e s) (g t e s)) (t:Nat) (e:E) (s:St):Imz (step f t e s) (stepZ N g t e s):=
 imz_ite (imz_ite (imz_bind (imz_adv N s) fun s1=>imz_bind (hf 0 eNil s1) fun a=>imz_bind (imz_want N a.2 _) fun s3=>imz_bind (hf 0 eNil s3) fun b=>imz_bind (imz_want N b.2 _) fun s5=>imz_map _ (hf 0 eNil s5)) (hf 1 eNil s))
 (imz_ite (imz_atom N hf s)
 (imz_ite (imz_ite (imz_bind (imz_adv N s) fun s1=>imz_map _ (hf t eNil s1)) (imz_bind (hf (t+1) eNil s) fun a=>hf (10+t) a.1 a.2))
 (imz_ite (imz_bind (imz_adv N s) fun s1=>imz_bind (hf (t - 10+1) eNil s1) fun b=>imz_ite (imz_some _) (hf t _ b.2)) (imz_some _))))
theorem imz_px (N:Nat):∀(n t:Nat) (e:E) (s:St),Imz (px n t e s) (pz N n t e s)
 | 0,_,_,_=>imz_none _
 | n+1,t,e,s=>imz_step N (imz_px N n) t e s
def Ev {α:Type} (r:Nat→Rz α) (v:Rz α):Prop:=∃n,∀m,n≤m→r m=v
theorem ev_const {α:Type} {r v:Rz α} (h:r=v):Ev (fun _=>r) v:=⟨0,fun _ _=>h⟩
theorem ev_bad {α β:Type} {r:Nat→Rz α} {f:Nat→α→Rz β} {k:Nat} {p:Int} (h:Ev r (.bad k p)):Ev (fun m=>(r m).bind (f m)) (.bad k p):=by
 obtain ⟨n,h⟩:=h
 exact ⟨n,fun m hm=>by show (r m).bind (f m)=_;rw [h m hm];rfl⟩
theorem ev_badm {α β:Type} {r:Nat→Rz α} {f:Nat→α→β} {k:Nat} {p:Int} (h:Ev r (.bad k p)):Ev (fun m=>(r m).map (f m)) (.bad k p):=by
 obtain ⟨n,h⟩:=h
 exact ⟨n,fun m hm=>by show (r m).map (f m)=_;rw [h m hm];rfl⟩
theorem ev_ok {α β:Type} {r:Nat→Rz α} {f:Nat→α→Rz β} {x:α} {v:Rz β} (h:Ev r (.ok x)) (k:Ev (fun m=>f m x) v):Ev (fun m=>(r m).bind (f m)) v:=by
 obtain ⟨n,h⟩:=h
 obtain ⟨n',k⟩:=k
 exact ⟨n+n',fun m hm=>by show (r m).bind (f m)=_;rw [h m (by omega)];exact k m (by omega)⟩
theorem ev_pz {N t:Nat} {e:E} {s:St} {v:Rz (E×St)} (h:Ev (fun m=>stepZ N (pz N m) t e s) v):Ev (fun m=>pz N m t e s) v:=by
 obtain ⟨n,h⟩:=h
 refine ⟨n+1,fun m hm=>?_⟩
 cases m with
 | zero=>omega
 | succ m=>exact h m (by omega)
theorem ev_eq {α:Type} {r r':Nat→Rz α} {v:Rz α} (e:∀m,r m=r' m) (h:Ev r' v):Ev r v:=by
 have:r=r':=funext e
 rw [this];exact h
def Bad (N t:Nat) (e:E) (s:St) (k:Nat) (p:Int):Prop:=Ev (fun m=>pz N m t e s) (.bad k p)
theorem okZ (N:Nat) {t:Nat} {e:E} {s:St} {x:E×St} (h:Ok t e s x):Ev (fun m=>pz N m t e s) (.ok x):=by
 obtain ⟨n,h⟩:=h
 exact ⟨n,fun m hm=>imz_px N m t e s x (px_le hm h)⟩
theorem bad_if {N:Nat} {s:St} {k:Nat} {p:Int} (h:sees s wIf=true) (c:advZ N s=.bad k p∨∃v1,adv s=some v1∧(Bad N 0 eNil v1 k p∨∃v2,Ok 0 eNil v1 v2∧(wantZ N v2.2 wThen=.bad k p∨∃v3,want v2.2 wThen=some v3∧(Bad N 0 eNil v3 k p∨∃v4,Ok 0 eNil v3 v4∧(wantZ N v4.2 wElse=.bad k p∨∃v5,want v4.2 wElse=some v5∧(Bad N 0 eNil v5 k p)))))):Bad N 0 eNil s k p:=by
 refine ev_pz (ev_eq (fun m=>by unfold stepZ;rw [if_pos rfl,if_pos h]) ?_)
 rcases c with c | ⟨v1,h1,c⟩
 ·exact ev_bad (ev_const c)
 refine ev_ok (ev_const (imz_adv N _ _ h1)) ?_
 rcases c with c | ⟨v2,h2,c⟩
 ·exact ev_bad (c)
 refine ev_ok (okZ N h2) ?_
 rcases c with c | ⟨v3,h3,c⟩
 ·exact ev_bad (ev_const c)
 refine ev_ok (ev_const (imz_want N _ _ _ h3)) ?_
 rcases c with c | ⟨v4,h4,c⟩
 ·exact ev_bad (c)
 refine ev_ok (okZ N h4) ?_
 rcases c with c | ⟨v5,h5,c⟩
 ·exact ev_bad (ev_const c)
 refine ev_ok (ev_const (imz_want N _ _ _ h5)) ?_
 exact ev_badm (c)
theorem bad_noif {N:Nat} {s:St} {k:Nat} {p:Int} (h:sees s wIf=false) (c:Bad N 1 eNil s k p):Bad N 0 eNil s k p:=
 ev_pz (ev_eq (fun m=>by unfold stepZ;rw [if_pos rfl,h,if_neg (by decide)]) c)
theorem bad_pre {N l:Nat} {s:St} {k:Nat} {p:Int} (h:(l=3∧sees s wNot=true)∨(l=7∧sees s sMinus=true)) (c:advZ N s=.bad k p∨∃v1,adv s=some v1∧Bad N l eNil v1 k p):Bad N l eNil s k p:=by
 refine ev_pz (ev_eq (fun m=>by unfold stepZ;rw [if_neg (by omega),if_neg (by omega),if_pos (by omega),if_pos h]) ?_)
 rcases c with c | ⟨v1,h1,c⟩
 ·exact ev_bad (ev_const c)
 refine ev_ok (ev_const (imz_adv N _ _ h1)) ?_
 exact ev_badm c
theorem bad_level {N l:Nat} (h0:0 < l) (h8:l < 8) {s:St} {k:Nat} {p:Int} (h:¬((l=3∧sees s wNot=true)∨(l=7∧sees s sMinus=true))) (c:Bad N (l+1) eNil s k p∨∃v1,Ok (l+1) eNil s v1∧Bad N (10+l) v1.1 v1.2 k p):Bad N l eNil s k p:=by
 refine ev_pz (ev_eq (fun m=>by unfold stepZ;rw [if_neg (by omega),if_neg (by omega),if_pos h8,if_neg h]) ?_)
 rcases c with c | ⟨v1,h1,c⟩
 ·exact ev_bad c
 exact ev_ok (okZ N h1) c
theorem bad_go {N l:Nat} {s:St} {a:E} {k:Nat} {p:Int} (h:Mil.opAt s=l) (c:advZ N s=.bad k p∨∃v1,adv s=some v1∧(Bad N (l+1) eNil v1 k p∨∃v2,Ok (l+1) eNil v1 v2∧(l≠4∧Bad N (10+l) (eTwo s.tok.txt a v2.1) v2.2 k p))):Bad N (10+l) a s k p:=by
 refine ev_pz (ev_eq (fun m=>by unfold stepZ;rw [if_neg (by omega),if_neg (by omega),if_neg (by omega),show 10+l - 10=l from by omega,if_pos h]) ?_)
 rcases c with c | ⟨v1,h1,c⟩
 ·exact ev_bad (ev_const c)
 refine ev_ok (ev_const (imz_adv N _ _ h1)) ?_
 rcases c with c | ⟨v2,h2,h4,c⟩
 ·exact ev_bad c
 exact ev_ok (okZ N h2) (ev_eq (fun m=>if_neg (by omega)) c)
theorem ev_atom {N:Nat} {s:St} {v:Rz (E×St)} (h:Ev (fun m=>atomZ N (pz N m) s) v):Ev (fun m=>pz N m 8 eNil s) v:=
 ev_pz (ev_eq (fun m=>by unfold stepZ;rw [if_neg (by decide),if_pos rfl]) h)
theorem bad_name {N:Nat} {s:St} (h:s.tok.kind=1) {k:Nat} {p:Int} (c:nameZ N s=.bad k p):Bad N 8 eNil s k p:=
 ev_atom (ev_eq (fun m=>by unfold atomZ;rw [if_pos h]) (ev_badm (ev_const c)))
theorem bad_open {N:Nat} {s:St} (h:sees s sOpen=true) {k:Nat} {p:Int} (c:advZ N s=.bad k p∨∃v1,adv s=some v1∧(Bad N 0 eNil v1 k p∨∃v2,Ok 0 eNil v1 v2∧(wantZ N v2.2 sShut=.bad k p))):Bad N 8 eNil s k p:=by
 refine ev_atom (ev_eq (fun m=>by unfold atomZ;rw [if_neg (sees_no1 h),if_pos h]) ?_)
 rcases c with c | ⟨v1,h1,c⟩
 ·exact ev_bad (ev_const c)
 refine ev_ok (ev_const (imz_adv N _ _ h1)) ?_
 rcases c with c | ⟨v2,h2,c⟩
 ·exact ev_bad (c)
 refine ev_ok (okZ N h2) ?_
 exact ev_badm (ev_const c)
def Bfby (N:Nat) (s:St) (k:Nat) (p:Int):Prop:=wantZ N s sOpen=.bad k p∨∃v1,want s sOpen=some v1∧(constantZ N v1=.bad k p∨∃v2,constant v1=some v2∧(wantZ N v2.2 sComma=.bad k p∨∃v3,want v2.2 sComma=some v3∧(Bad N 0 eNil v3 k p∨∃v4,Ok 0 eNil v3 v4∧(wantZ N v4.2 sShut=.bad k p))))
theorem bad_fby {N:Nat} {s:St} (h:sees s wFby=true) {k:Nat} {p:Int} (c:advZ N s=.bad k p∨∃v0,adv s=some v0∧Bfby N v0 k p):Bad N 8 eNil s k p:=by
 have o0:=sees_other h (y:=sOpen) (by decide)
 refine ev_atom (ev_eq (fun m=>by unfold atomZ;rw [if_neg (sees_no1 h),o0,if_neg (by decide),if_pos h]) ?_)
 rcases c with c | ⟨v0,h0,c⟩
 ·exact ev_bad (ev_const c)
 refine ev_ok (ev_const (imz_adv N _ _ h0)) ?_
 unfold Bfby at c
 rcases c with c | ⟨v1,h1,c⟩
 ·exact ev_bad (ev_const c)
 refine ev_ok (ev_const (imz_want N _ _ _ h1)) ?_
 rcases c with c | ⟨v2,h2,c⟩
 ·exact ev_bad (ev_const c)
 refine ev_ok (ev_const (imz_constant N _ _ h2)) ?_
 rcases c with c | ⟨v3,h3,c⟩
 ·exact ev_bad (ev_const c)
 refine ev_ok (ev_const (imz_want N _ _ _ h3)) ?_
 rcases c with c | ⟨v4,h4,c⟩
 ·exact ev_bad (c)
 refine ev_ok (okZ N h4) ?_
 exact ev_badm (ev_const c)
def Bunder (N:Nat) (s:St) (k:Nat) (p:Int):Prop:=wantZ N s sOpen=.bad k p∨∃v1,want s sOpen=some v1∧(Bad N 0 eNil v1 k p∨∃v2,Ok 0 eNil v1 v2∧(wantZ N v2.2 sComma=.bad k p∨∃v3,want v2.2 sComma=some v3∧(numberZ N 2 1000 v3=.bad k p∨∃v4,number 2 1000 v3=some v4∧(wantZ N v4.2 sShut=.bad k p))))
theorem bad_under {N:Nat} {s:St} (h:sees s wUnder=true) {k:Nat} {p:Int} (c:advZ N s=.bad k p∨∃v0,adv s=some v0∧Bunder N v0 k p):Bad N 8 eNil s k p:=by
 have o0:=sees_other h (y:=sOpen) (by decide)
 have o1:=sees_other h (y:=wFby) (by decide)
 refine ev_atom (ev_eq (fun m=>by unfold atomZ;rw [if_neg (sees_no1 h),o0,if_neg (by decide),o1,if_neg (by decide),if_pos h]) ?_)
 rcases c with c | ⟨v0,h0,c⟩
 ·exact ev_bad (ev_const c)
 refine ev_ok (ev_const (imz_adv N _ _ h0)) ?_
 unfold Bunder at c
 rcases c with c | ⟨v1,h1,c⟩
 ·exact ev_bad (ev_const c)
 refine ev_ok (ev_const (imz_want N _ _ _ h1)) ?_
 rcases c with c | ⟨v2,h2,c⟩
 ·exact ev_bad (c)
 refine ev_ok (okZ N h2) ?_
 rcases c with c | ⟨v3,h3,c⟩
 ·exact ev_bad (ev_const c)
 refine ev_ok (ev_const (imz_want N _ _ _ h3)) ?_
 rcases c with c | ⟨v4,h4,c⟩
 ·exact ev_bad (ev_const c)
 refine ev_ok (ev_const (imz_number N _ _ _ _ h4)) ?_
 exact ev_badm (ev_const c)
def Bhold (N:Nat) (s:St) (k:Nat) (p:Int):Prop:=wantZ N s sOpen=.bad k p∨∃v1,want s sOpen=some v1∧(constantZ N v1=.bad k p∨∃v2,constant v1=some v2∧(wantZ N v2.2 sComma=.bad k p∨∃v3,want v2.2 sComma=some v3∧(Bad N 0 eNil v3 k p∨∃v4,Ok 0 eNil v3 v4∧(wantZ N v4.2 sComma=.bad k p∨∃v5,want v4.2 sComma=some v5∧(numberZ N 2 1000 v5=.bad k p∨∃v6,number 2 1000 v5=some v6∧(wantZ N v6.2 sShut=.bad k p))))))
theorem bad_hold {N:Nat} {s:St} (h:sees s wHold=true) {k:Nat} {p:Int} (c:advZ N s=.bad k p∨∃v0,adv s=some v0∧Bhold N v0 k p):Bad N 8 eNil s k p:=by
 have o0:=sees_other h (y:=sOpen) (by decide)
 have o1:=sees_other h (y:=wFby) (by decide)
 have o2:=sees_other h (y:=wUnder) (by decide)
 refine ev_atom (ev_eq (fun m=>by unfold atomZ;rw [if_neg (sees_no1 h),o0,if_neg (by decide),o1,if_neg (by decide),o2,if_neg (by decide),if_pos h]) ?_)
 rcases c with c | ⟨v0,h0,c⟩
 ·exact ev_bad (ev_const c)
 refine ev_ok (ev_const (imz_adv N _ _ h0)) ?_
 unfold Bhold at c
 rcases c with c | ⟨v1,h1,c⟩
 ·exact ev_bad (ev_const c)
 refine ev_ok (ev_const (imz_want N _ _ _ h1)) ?_
 rcases c with c | ⟨v2,h2,c⟩
 ·exact ev_bad (ev_const c)
 refine ev_ok (ev_const (imz_constant N _ _ h2)) ?_
 rcases c with c | ⟨v3,h3,c⟩
 ·exact ev_bad (ev_const c)
 refine ev_ok (ev_const (imz_want N _ _ _ h3)) ?_
 rcases c with c | ⟨v4,h4,c⟩
 ·exact ev_bad (c)
 refine ev_ok (okZ N h4) ?_
 rcases c with c | ⟨v5,h5,c⟩
 ·exact ev_bad (ev_const c)
 refine ev_ok (ev_const (imz_want N _ _ _ h5)) ?_
 rcases c with c | ⟨v6,h6,c⟩
 ·exact ev_bad (ev_const c)
 refine ev_ok (ev_const (imz_number N _ _ _ _ h6)) ?_
 exact ev_badm (ev_const c)
def Bleast (N:Nat) (s:St) (k:Nat) (p:Int):Prop:=wantZ N s sOpen=.bad k p∨∃v1,want s sOpen=some v1∧(Bad N 0 eNil v1 k p∨∃v2,Ok 0 eNil v1 v2∧(wantZ N v2.2 sComma=.bad k p∨∃v3,want v2.2 sComma=some v3∧(Bad N 0 eNil v3 k p∨∃v4,Ok 0 eNil v3 v4∧(wantZ N v4.2 sShut=.bad k p))))
theorem bad_least {N:Nat} {s:St} {m:Bytes} (hm:m=wMin∨m=wMax) (h:sees s m=true) {k:Nat} {p:Int} (c:advZ N s=.bad k p∨∃v0,adv s=some v0∧Bleast N v0 k p):Bad N 8 eNil s k p:=by
 have o0:sees s sOpen=false:=sees_other h (by rcases hm with rfl | rfl <;> decide)
 have o1:sees s wFby=false:=sees_other h (by rcases hm with rfl | rfl <;> decide)
 have o2:sees s wUnder=false:=sees_other h (by rcases hm with rfl | rfl <;> decide)
 have o3:sees s wHold=false:=sees_other h (by rcases hm with rfl | rfl <;> decide)
 have o5:(sees s wMin || sees s wMax)=true:=by
  rcases hm with rfl | rfl
  ·rw [h];rfl
  ·rw [h];simp
 refine ev_atom (ev_eq (fun m=>by unfold atomZ;rw [if_neg (sees_no1 h),o0,if_neg (by decide),o1,if_neg (by decide),o2,if_neg (by decide),o3,if_neg (by decide),if_pos o5]) ?_)
 rcases c with c | ⟨v0,h0,c⟩
 ·exact ev_bad (ev_const c)
 refine ev_ok (ev_const (imz_adv N _ _ h0)) ?_
 unfold Bleast at c
 rcases c with c | ⟨v1,h1,c⟩
 ·exact ev_bad (ev_const c)
 refine ev_ok (ev_const (imz_want N _ _ _ h1)) ?_
 rcases c with c | ⟨v2,h2,c⟩
 ·exact ev_bad (c)
 refine ev_ok (okZ N h2) ?_
 rcases c with c | ⟨v3,h3,c⟩
 ·exact ev_bad (ev_const c)
 refine ev_ok (ev_const (imz_want N _ _ _ h3)) ?_
 rcases c with c | ⟨v4,h4,c⟩
 ·exact ev_bad (c)
 refine ev_ok (okZ N h4) ?_
 exact ev_badm (ev_const c)
theorem bad_lit {N:Nat} {s:St} (h0:s.tok.kind≠1) (o1:sees s sOpen=false) (o2:sees s wFby=false) (o3:sees s wUnder=false) (o4:sees s wHold=false) (o5:sees s wMin=false) (o6:sees s wMax=false) {k:Nat} {p:Int} (c:literalZ N s=.bad k p):Bad N 8 eNil s k p:=
 ev_atom (ev_eq (fun m=>by unfold atomZ;rw [if_neg h0,o1,if_neg (by decide),o2,if_neg (by decide),o3,if_neg (by decide),o4,if_neg (by decide),o5,o6,if_neg (by decide)]) (ev_const c))
def pnamesZ (N:Nat):Nat→List Bytes→St→Rz (List Bytes×St)
 | 0,_,_=>.out
 | n+1,acc,s=>if sees s sComma then (advZ N s).bind fun s1=>(nameZ N s1).bind fun x=>pnamesZ N n (acc++[x.1]) x.2 else .ok (acc,s)
def pitemZ (N n:Nat) (s:St):Rz (It×St):=
 if sees s wInput then (advZ N s).bind fun s1=>(nameZ N s1).bind fun x=>(wantZ N x.2 sColon).bind fun s3=>(ftypeZ N s3).bind fun t=>(wantZ N t.2 wEvery).bind fun s5=>(numberZ N 1 1000000 s5).bind fun k=>(wantZ N k.2 sSemi).map fun s7=>(⟨1,x.1,t.1,k.1,[],eNil⟩,s7)
 else if sees s wOutput then (advZ N s).bind fun s1=>(nameZ N s1).bind fun x=>(pnamesZ N n [x.1] x.2).bind fun l=>(wantZ N l.2 sSemi).map fun s4=>(⟨2,[],0,0,l.1,eNil⟩,s4)
 else (nameZ N s).bind fun x=>(wantZ N x.2 sColon).bind fun s2=>(ftypeZ N s2).bind fun t=>(wantZ N t.2 sIs).bind fun s4=>(pz N n 0 eNil s4).bind fun e=>(wantZ N e.2 sSemi).map fun s6=>(⟨3,x.1,t.1,0,[],e.1⟩,s6)
def pprogZ (N:Nat):Nat→List It→St→Rz (List It)
 | 0,_,_=>.out
 | n+1,acc,s=>if s.tok.kind=0 then .ok acc else if acc.length=60 then .bad 4 (hereAt N s) else (pitemZ N n s).bind fun x=>pprogZ N n (acc++[x.1]) x.2
theorem imz_pnames (N:Nat):∀(n:Nat) (acc:List Bytes) (s:St),Imz (pnames n acc s) (pnamesZ N n acc s)
 | 0,_,_=>imz_none _
 | n+1,_,s=>imz_ite (imz_bind (imz_adv N s) fun s1=>imz_bind (imz_name N s1) fun x=>imz_pnames N n _ x.2) (imz_some _)
theorem imz_pitem (N n:Nat) (s:St):Imz (pitem n s) (pitemZ N n s):=
 imz_ite (imz_bind (imz_adv N s) fun s1=>imz_bind (imz_name N s1) fun x=>imz_bind (imz_want N x.2 _) fun s3=>imz_bind (imz_ftype N s3) fun t=>imz_bind (imz_want N t.2 _) fun s5=>imz_bind (imz_number N _ _ s5) fun k=>imz_map _ (imz_want N k.2 _))
 (imz_ite (imz_bind (imz_adv N s) fun s1=>imz_bind (imz_name N s1) fun x=>imz_bind (imz_pnames N n _ x.2) fun l=>imz_map _ (imz_want N l.2 _))
 (imz_bind (imz_name N s) fun x=>imz_bind (imz_want N x.2 _) fun s2=>imz_bind (imz_ftype N s2) fun t=>imz_bind (imz_want N t.2 _) fun s4=>imz_bind (imz_px N n 0 eNil s4) fun e=>imz_map _ (imz_want N e.2 _)))
theorem imz_pprog (N:Nat):∀(n:Nat) (acc:List It) (s:St),Imz (pprog n acc s) (pprogZ N n acc s)
 | 0,_,_=>imz_none _
 | n+1,_,s=>imz_ite (imz_some _) (imz_ite (imz_none _) (imz_bind (imz_pitem N n s) fun x=>imz_pprog N n _ x.2))
def BadN (N:Nat) (acc:List Bytes) (s:St) (k:Nat) (p:Int):Prop:=Ev (fun m=>pnamesZ N m acc s) (.bad k p)
def BadI (N:Nat) (s:St) (k:Nat) (p:Int):Prop:=Ev (fun m=>pitemZ N m s) (.bad k p)
def BadP (N:Nat) (acc:List It) (s:St) (k:Nat) (p:Int):Prop:=Ev (fun m=>pprogZ N m acc s) (.bad k p)
theorem okN (N:Nat) {acc:List Bytes} {s:St} {l:List Bytes×St} (h:Rname acc s l):Ev (fun m=>pnamesZ N m acc s) (.ok l):=by
 obtain ⟨n,h⟩:=h
 exact ⟨n,fun m hm=>imz_pnames N m acc s l (pnames_le n m acc s l hm h)⟩
theorem okI (N:Nat) {s:St} {i:It} {t:St} (h:Rit s i t):Ev (fun m=>pitemZ N m s) (.ok (i,t)):=by
 obtain ⟨n,h⟩:=h
 exact ⟨n,fun m hm=>imz_pitem N m s _ (pitem_le hm h)⟩
theorem badN_go {N:Nat} {acc:List Bytes} {s:St} {k:Nat} {p:Int} (h:sees s sComma=true) (c:advZ N s=.bad k p∨∃v1,adv s=some v1∧(nameZ N v1=.bad k p∨∃v2,name v1=some v2∧BadN N (acc++[v2.1]) v2.2 k p)):BadN N acc s k p:=by
 have go:Ev (fun m=>(advZ N s).bind fun s1=>(nameZ N s1).bind fun x=>pnamesZ N m (acc++[x.1]) x.2) (.bad k p):=by
  rcases c with c | ⟨v1,h1,c⟩
  ·exact ev_bad (ev_const c)
  refine ev_ok (ev_const (imz_adv N _ _ h1)) ?_
  rcases c with c | ⟨v2,h2,c⟩
  ·exact ev_bad (ev_const c)
  exact ev_ok (ev_const (imz_name N _ _ h2)) c
 obtain ⟨n,go⟩:=go
 refine ⟨n+1,fun m hm=>?_⟩
 cases m with
 | zero=>omega
 | succ m=>
  show pnamesZ N (m+1) acc s=_
  rw [pnamesZ,if_pos h]
  exact go m (by omega)
def Bin (N:Nat) (s:St) (k:Nat) (p:Int):Prop:=nameZ N s=.bad k p∨∃v1,name s=some v1∧(wantZ N v1.2 sColon=.bad k p∨∃v2,want v1.2 sColon=some v2∧(ftypeZ N v2=.bad k p∨∃v3,ftype v2=some v3∧(wantZ N v3.2 wEvery=.bad k p∨∃v4,want v3.2 wEvery=some v4∧(numberZ N 1 1000000 v4=.bad k p∨∃v5,number 1 1000000 v4=some v5∧(wantZ N v5.2 sSemi=.bad k p)))))
def Bout (N:Nat) (s:St) (k:Nat) (p:Int):Prop:=nameZ N s=.bad k p∨∃v1,name s=some v1∧(BadN N [v1.1] v1.2 k p∨∃v2,Rname [v1.1] v1.2 v2∧(wantZ N v2.2 sSemi=.bad k p))
def Beq (N:Nat) (s:St) (k:Nat) (p:Int):Prop:=nameZ N s=.bad k p∨∃v1,name s=some v1∧(wantZ N v1.2 sColon=.bad k p∨∃v2,want v1.2 sColon=some v2∧(ftypeZ N v2=.bad k p∨∃v3,ftype v2=some v3∧(wantZ N v3.2 sIs=.bad k p∨∃v4,want v3.2 sIs=some v4∧(Bad N 0 eNil v4 k p∨∃v5,Ok 0 eNil v4 v5∧(wantZ N v5.2 sSemi=.bad k p)))))
theorem badI_in {N:Nat} {s:St} (h:sees s wInput=true) {k:Nat} {p:Int} (c:advZ N s=.bad k p∨∃v0,adv s=some v0∧Bin N v0 k p):BadI N s k p:=by
 refine ev_eq (fun m=>by unfold pitemZ;rw [if_pos h]) ?_
 rcases c with c | ⟨v0,h0,c⟩
 ·exact ev_bad (ev_const c)
 refine ev_ok (ev_const (imz_adv N _ _ h0)) ?_
 unfold Bin at c
 rcases c with c | ⟨v1,h1,c⟩
 ·exact ev_bad (ev_const c)
 refine ev_ok (ev_const (imz_name N _ _ h1)) ?_
 rcases c with c | ⟨v2,h2,c⟩
 ·exact ev_bad (ev_const c)
 refine ev_ok (ev_const (imz_want N _ _ _ h2)) ?_
 rcases c with c | ⟨v3,h3,c⟩
 ·exact ev_bad (ev_const c)
 refine ev_ok (ev_const (imz_ftype N _ _ h3)) ?_
 rcases c with c | ⟨v4,h4,c⟩
 ·exact ev_bad (ev_const c)
 refine ev_ok (ev_const (imz_want N _ _ _ h4)) ?_
 rcases c with c | ⟨v5,h5,c⟩
 ·exact ev_bad (ev_const c)
 refine ev_ok (ev_const (imz_number N _ _ _ _ h5)) ?_
 exact ev_badm (ev_const c)
theorem badI_out {N:Nat} {s:St} (h:sees s wOutput=true) {k:Nat} {p:Int} (c:advZ N s=.bad k p∨∃v0,adv s=some v0∧Bout N v0 k p):BadI N s k p:=by
 have o1:=sees_other h (y:=wInput) (by decide)
 refine ev_eq (fun m=>by unfold pitemZ;rw [o1,if_neg (by decide),if_pos h]) ?_
 rcases c with c | ⟨v0,h0,c⟩
 ·exact ev_bad (ev_const c)
 refine ev_ok (ev_const (imz_adv N _ _ h0)) ?_
 unfold Bout at c
 rcases c with c | ⟨v1,h1,c⟩
 ·exact ev_bad (ev_const c)
 refine ev_ok (ev_const (imz_name N _ _ h1)) ?_
 rcases c with c | ⟨v2,h2,c⟩
 ·exact ev_bad c
 refine ev_ok (okN N h2) ?_
 exact ev_badm (ev_const c)
theorem badI_eq {N:Nat} {s:St} (o1:sees s wInput=false) (o2:sees s wOutput=false) {k:Nat} {p:Int} (c:Beq N s k p):BadI N s k p:=by
 refine ev_eq (fun m=>by unfold pitemZ;rw [o1,if_neg (by decide),o2,if_neg (by decide)]) ?_
 unfold Beq at c
 rcases c with c | ⟨v1,h1,c⟩
 ·exact ev_bad (ev_const c)
 refine ev_ok (ev_const (imz_name N _ _ h1)) ?_
 rcases c with c | ⟨v2,h2,c⟩
 ·exact ev_bad (ev_const c)
 refine ev_ok (ev_const (imz_want N _ _ _ h2)) ?_
 rcases c with c | ⟨v3,h3,c⟩
 ·exact ev_bad (ev_const c)
 refine ev_ok (ev_const (imz_ftype N _ _ h3)) ?_
 rcases c with c | ⟨v4,h4,c⟩
 ·exact ev_bad (ev_const c)
 refine ev_ok (ev_const (imz_want N _ _ _ h4)) ?_
 rcases c with c | ⟨v5,h5,c⟩
 ·exact ev_bad (c)
 refine ev_ok (okZ N h5) ?_
 exact ev_badm (ev_const c)
theorem ev_prog {N:Nat} {acc:List It} {s:St} {v:Rz (List It)} (h:Ev (fun m=>if s.tok.kind=0 then .ok acc else if acc.length=60 then .bad 4 (hereAt N s) else (pitemZ N m s).bind fun x=>pprogZ N m (acc++[x.1]) x.2) v):Ev (fun m=>pprogZ N m acc s) v:=by
 obtain ⟨n,h⟩:=h
 refine ⟨n+1,fun m hm=>?_⟩
 cases m with
 | zero=>omega
 | succ m=>exact h m (by omega)
theorem badP_many {N:Nat} {acc:List It} {s:St} (h:s.tok.kind≠0) (h6:acc.length=60):BadP N acc s 4 (hereAt N s):=
 ev_prog (ev_eq (r':=fun _=>.bad 4 (hereAt N s)) (fun m=>by rw [if_neg h,if_pos h6]) (ev_const rfl))
theorem badP_item {N:Nat} {acc:List It} {s:St} {k:Nat} {p:Int} (h:s.tok.kind≠0) (h6:acc.length≠60) (c:BadI N s k p):BadP N acc s k p:=
 ev_prog (ev_eq (r':=fun m=>(pitemZ N m s).bind fun x=>pprogZ N m (acc++[x.1]) x.2) (fun m=>by rw [if_neg h,if_neg h6]) (ev_bad c))
theorem badP_go {N:Nat} {acc:List It} {s t:St} {i:It} {k:Nat} {p:Int} (h:s.tok.kind≠0) (h6:acc.length≠60) (hi:Rit s i t) (c:BadP N (acc++[i]) t k p):BadP N acc s k p:=by
 refine ev_prog (ev_eq (r':=fun m=>(pitemZ N m s).bind fun x=>pprogZ N m (acc++[x.1]) x.2) (fun m=>by rw [if_neg h,if_neg h6]) ?_)
 exact ev_ok (okI N hi) c
def Fault (b:Bytes) (k:Nat) (p:Int):Prop:=advZ' b.length b 0=.bad k p∨∃s,adv' b 0=some s∧BadP b.length [] s k p
end Mil
end
end Go.Proofs.YticbokabjhnagaaGreatDoor
