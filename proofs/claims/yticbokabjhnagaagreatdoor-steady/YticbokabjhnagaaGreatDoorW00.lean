import Derived.Deep.Trees
import Derived.Lib.ItoaNum
import Derived.Lib.ParseIntB
import Derived.Test.YticbokabjhnagaaGreatDoorProg
import Derived.KernelRfl
import Derived.RowKit
import Derived.WalkKit
import Derived.WalkSpells
import Derived.WalkLawsBesides
import Derived.Deep.LoopGhost
import Derived.Deep.CutRange
import Derived.Deep.QuietTactic
import Derived.BigQuiet
import Derived.Laws.Rows
namespace Go.Proofs.YticbokabjhnagaaGreatDoor
set_option maxHeartbeats 32000000
section
namespace Mil
abbrev Bytes:=List UInt8
def wInput:Bytes:=[105,110,112,117,116]
def wOutput:Bytes:=[111,117,116,112,117,116]
def wEvery:Bytes:=[101,118,101,114,121]
def wInt:Bytes:=[105,110,116]
def wBool:Bytes:=[98,111,111,108]
def wIf:Bytes:=[105,102]
def wThen:Bytes:=[116,104,101,110]
def wElse:Bytes:=[101,108,115,101]
def wOr:Bytes:=[111,114]
def wXor:Bytes:=[120,111,114]
def wAnd:Bytes:=[97,110,100]
def wNot:Bytes:=[110,111,116]
def wTrue:Bytes:=[116,114,117,101]
def wFalse:Bytes:=[102,97,108,115,101]
def wFby:Bytes:=[102,98,121]
def wUnder:Bytes:=[117,110,100,101,114]
def wHold:Bytes:=[104,111,108,100]
def wMin:Bytes:=[109,105,110]
def wMax:Bytes:=[109,97,120]
def sLe:Bytes:=[60,61]
def sGe:Bytes:=[62,61]
def sEq:Bytes:=[61,61]
def sNe:Bytes:=[33,61]
def sColon:Bytes:=[58]
def sSemi:Bytes:=[59]
def sIs:Bytes:=[61]
def sOpen:Bytes:=[40]
def sShut:Bytes:=[41]
def sComma:Bytes:=[44]
def sPlus:Bytes:=[43]
def sMinus:Bytes:=[45]
def sTimes:Bytes:=[42]
def sOver:Bytes:=[47]
def sRest:Bytes:=[37]
def sLt:Bytes:=[60]
def sGt:Bytes:=[62]
def words:List Bytes:=[wInput,wOutput,wEvery,wInt,wBool,wIf,wThen,wElse,wOr,wXor,wAnd,wNot,wTrue,wFalse,wFby,wUnder,wHold,wMin,wMax]
def signs:List Bytes:=[sLe,sGe,sEq,sNe,sColon,sSemi,sIs,sOpen,sShut,sComma,sPlus,sMinus,sTimes,sOver,sRest,sLt,sGt]
def isL (c:UInt8):Bool:=decide (97≤c.toNat) && decide (c.toNat≤122)
def isD (c:UInt8):Bool:=decide (48≤c.toNat) && decide (c.toNat≤57)
def isN (c:UInt8):Bool:=isL c || isD c || decide (c.toNat=95)
structure Tok where
 kind:Nat
 txt:Bytes
 val:Int
def fix (x:Bytes):Tok:=⟨3,x,0⟩
def nam (x:Bytes):Tok:=⟨1,x,0⟩
def num (k:Nat):Tok:=⟨2,Lib.decDigits k,k⟩
def skip:Bool→Bytes→Bytes
 | _,[]=>[]
 | true,c::r=>if c.toNat=10 then skip false r else skip true r
 | false,c::r=>if c.toNat=32∨c.toNat=9∨c.toNat=10 then skip false r else if c.toNat=35 then skip true r else c::r
def cutName (b:Bytes):Option (Tok×Bytes):=
 if 12 < (b.takeWhile isN).length then none else some (if words.contains (b.takeWhile isN) then fix (b.takeWhile isN) else nam (b.takeWhile isN),b.dropWhile isN)
def cutNum (b:Bytes):Option (Tok×Bytes):=
 match Lib.parseIntB 64 (b.takeWhile isD) with
 | .ok v=>if b.head?.map (·.toNat)=some 48∧1 < (b.takeWhile isD).length then none else some (⟨2,b.takeWhile isD,v⟩,b.dropWhile isD)
 | _=>none
def cutSign (b:Bytes):Option (Tok×Bytes):=
 match signs.find? (fun x=>x.isPrefixOf b) with
 | some x=>some (fix x,b.drop x.length)
 | none=>none
def cut (b:Bytes):Option (Tok×Bytes):=
 match b with
 | []=>some (⟨0,[],0⟩,[])
 | c::_=>if isL c then cutName b else if isD c then cutNum b else cutSign b
structure St where
 tok:Tok
 rest:Bytes
 cnt:Nat
def adv' (b:Bytes) (n:Nat):Option St:=
 match cut (skip false b) with
 | none=>none
 | some (t,r)=>if t.kind=0 then some ⟨t,r,n⟩ else if 600 < n+1 then none else some ⟨t,r,n+1⟩
def adv (s:St):Option St:=adv' s.rest s.cnt
def sees (s:St) (x:Bytes):Bool:=s.tok.kind==3 && s.tok.txt==x
def want (s:St) (x:Bytes):Option St:=if sees s x then adv s else none
def name (s:St):Option (Bytes×St):=if s.tok.kind=1 then (adv s).map fun s1=>(s.tok.txt,s1) else none
def number (lo hi:Int) (s:St):Option (Nat×St):=if s.tok.kind=2∧lo≤s.tok.val∧s.tok.val≤hi then (adv s).map fun s1=>(s.tok.val.toNat,s1) else none
def ftype (s:St):Option (Nat×St):=if sees s wInt then (adv s).map fun s1=>(0,s1) else if sees s wBool then (adv s).map fun s1=>(1,s1) else none
abbrev E:=Go.Deep.BT Bytes
def eNil:E:=.nil
def eInt (k:Nat):E:=.node 1 k [] .nil .nil
def eBool (k:Nat):E:=.node 2 k [] .nil .nil
def eName (x:Bytes):E:=.node 3 0 x .nil .nil
def ePre (x:Bytes) (a:E):E:=.node 4 0 x a .nil
def eTwo (x:Bytes) (a b:E):E:=.node 5 0 x a b
def eIf (a b c:E):E:=.node 6 0 [] a (.node 0 0 [] b c)
def eFby (a b:E):E:=.node 7 0 [] a b
def eUnder (a:E) (k:Nat):E:=.node 8 k [] a .nil
def eHold (a b:E) (k:Nat):E:=.node 9 k [] a b
def eLeast (x:Bytes) (a b:E):E:=.node 10 0 x a b
def tightOf (x:Bytes):Nat:=
 if x=wOr∨x=wXor then 1 else if x=wAnd then 2 else if x=sLt∨x=sLe∨x=sGt∨x=sGe∨x=sEq∨x=sNe then 4
 else if x=sPlus∨x=sMinus then 5 else if x=sTimes∨x=sOver∨x=sRest then 6 else 9
def opAt (s:St):Nat:=if s.tok.kind=3 then tightOf s.tok.txt else 9
def maxInt:Int:=9223372036854775807
def literal (s:St):Option (E×St):=
 if sees s wTrue then (adv s).map fun s1=>(eBool 1,s1) else if sees s wFalse then (adv s).map fun s1=>(eBool 0,s1)
 else (number 0 maxInt s).map fun x=>(eInt x.1,x.2)
def constant (s:St):Option (E×St):=
 if sees s sMinus then (adv s).bind fun s1=>(number 0 maxInt s1).map fun x=>(ePre sMinus (eInt x.1),x.2) else literal s
def atom (f:Nat→E→St→Option (E×St)) (s:St):Option (E×St):=
 if s.tok.kind=1 then (name s).map fun x=>(eName x.1,x.2)
 else if sees s sOpen then (adv s).bind fun s1=>(f 0 eNil s1).bind fun x=>(want x.2 sShut).map fun s3=>(x.1,s3)
 else if sees s wFby then (adv s).bind fun s1=>(want s1 sOpen).bind fun s2=>(constant s2).bind fun c=>(want c.2 sComma).bind fun s4=>(f 0 eNil s4).bind fun x=>(want x.2 sShut).map fun s6=>(eFby c.1 x.1,s6)
 else if sees s wUnder then (adv s).bind fun s1=>(want s1 sOpen).bind fun s2=>(f 0 eNil s2).bind fun x=>(want x.2 sComma).bind fun s4=>(number 2 1000 s4).bind fun k=>(want k.2 sShut).map fun s6=>(eUnder x.1 k.1,s6)
 else if sees s wHold then (adv s).bind fun s1=>(want s1 sOpen).bind fun s2=>(constant s2).bind fun c=>(want c.2 sComma).bind fun s4=>(f 0 eNil s4).bind fun x=>(want x.2 sComma).bind fun s6=>(number 2 1000 s6).bind fun k=>(want k.2 sShut).map fun s8=>(eHold c.1 x.1 k.1,s8)
 else if sees s wMin || sees s wMax then (adv s).bind fun s1=>(want s1 sOpen).bind fun s2=>(f 0 eNil s2).bind fun a=>(want a.2 sComma).bind fun s4=>(f 0 eNil s4).bind fun b=>(want b.2 sShut).map fun s6=>(eLeast s.tok.txt a.1 b.1,s6)
 else literal s
def step (f:Nat→E→St→Option (E×St)) (tag:Nat) (left:E) (s:St):Option (E×St):=
 if tag=0 then
  if sees s wIf then (adv s).bind fun s1=>(f 0 eNil s1).bind fun a=>(want a.2 wThen).bind fun s3=>(f 0 eNil s3).bind fun b=>(want b.2 wElse).bind fun s5=>(f 0 eNil s5).map fun c=>(eIf a.1 b.1 c.1,c.2)
  else f 1 eNil s
 else if tag=8 then atom f s
 else if tag < 8 then
  if (tag=3∧sees s wNot=true)∨(tag=7∧sees s sMinus=true) then (adv s).bind fun s1=>(f tag eNil s1).map fun a=>(ePre s.tok.txt a.1,a.2)
  else (f (tag+1) eNil s).bind fun a=>f (10+tag) a.1 a.2
 else if opAt s=tag - 10 then (adv s).bind fun s1=>(f (tag - 10+1) eNil s1).bind fun b=>if tag=14 then some (eTwo s.tok.txt left b.1,b.2) else f tag (eTwo s.tok.txt left b.1) b.2
 else some (left,s)
def px:Nat→Nat→E→St→Option (E×St)
 | 0,_,_,_=>none
 | n+1,t,e,s=>step (px n) t e s
def Ok (t:Nat) (e:E) (s:St) (x:E×St):Prop:=∃n,px n t e s=some x
structure It where
 kind:Nat
 nm:Bytes
 ty:Nat
 every:Nat
 names:List Bytes
 body:E
def pnames:Nat→List Bytes→St→Option (List Bytes×St)
 | 0,_,_=>none
 | n+1,acc,s=>if sees s sComma then (adv s).bind fun s1=>(name s1).bind fun x=>pnames n (acc++[x.1]) x.2 else some (acc,s)
def pitem (n:Nat) (s:St):Option (It×St):=
 if sees s wInput then (adv s).bind fun s1=>(name s1).bind fun x=>(want x.2 sColon).bind fun s3=>(ftype s3).bind fun t=>(want t.2 wEvery).bind fun s5=>(number 1 1000000 s5).bind fun k=>(want k.2 sSemi).map fun s7=>(⟨1,x.1,t.1,k.1,[],eNil⟩,s7)
 else if sees s wOutput then (adv s).bind fun s1=>(name s1).bind fun x=>(pnames n [x.1] x.2).bind fun l=>(want l.2 sSemi).map fun s4=>(⟨2,[],0,0,l.1,eNil⟩,s4)
 else (name s).bind fun x=>(want x.2 sColon).bind fun s2=>(ftype s2).bind fun t=>(want t.2 sIs).bind fun s4=>(px n 0 eNil s4).bind fun e=>(want e.2 sSemi).map fun s6=>(⟨3,x.1,t.1,0,[],e.1⟩,s6)
def pprog:Nat→List It→St→Option (List It)
 | 0,_,_=>none
 | n+1,acc,s=>if s.tok.kind=0 then some acc else if acc.length=60 then none else (pitem n s).bind fun x=>pprog n (acc++[x.1]) x.2
def parse (n:Nat) (b:Bytes):Option (List It):=if 4000 < b.length then none else (adv' b 0).bind fun s=>pprog n [] s
def Parsed (b:Bytes) (l:List It):Prop:=∃n,parse n b=some l
def tight:E→Nat
 | .node 4 _ x _ _=>if x=wNot then 3 else 7
 | .node 5 _ x _ _=>tightOf x
 | .node 6 _ _ _ _=>0
 | _=>8
def brack (t:Nat) (l:Nat) (x:Bytes):Bytes:=if t < l then sOpen++x++sShut else x
def leftOf (t:Nat):Nat:=if t=4 then 5 else t
def blank:Bytes:=[32]
def commaB:Bytes:=[44,32]
def txt:E→Bytes
 | .nil=>[]
 | .node 1 k _ _ _=>Lib.decDigits k
 | .node 2 k _ _ _=>if k=1 then wTrue else wFalse
 | .node 3 _ x _ _=>x
 | .node 4 _ x a _=>if x=wNot then wNot++blank++brack (tight a) 3 (txt a) else x++brack (tight a) 7 (txt a)
 | .node 5 _ x a b=>brack (tight a) (leftOf (tightOf x)) (txt a)++blank++x++blank++brack (tight b) (tightOf x+1) (txt b)
 | .node 6 _ _ a b=>wIf++blank++txt a++blank++txt b
 | .node 0 _ _ a b=>wThen++blank++txt a++blank++wElse++blank++txt b
 | .node 7 _ _ a b=>wFby++sOpen++txt a++commaB++txt b++sShut
 | .node 8 k _ a _=>wUnder++sOpen++txt a++commaB++Lib.decDigits k++sShut
 | .node 9 k _ a b=>wHold++sOpen++txt a++commaB++txt b++commaB++Lib.decDigits k++sShut
 | .node _ _ x a b=>x++sOpen++txt a++commaB++txt b++sShut
def tyText (t:Nat):Bytes:=if t=0 then wInt else wBool
end Mil
end
section
open Go.RowKit
structure Kp (b:Nat) (w w':World):Prop where
 os:w'.os=w.os
 tape:w'.tape=w.tape
 output:w'.output=w.output
 size:w.heap.size≤w'.heap.size
 block:∀k,k < w.heap.size→k≠b→w'.heap[k]?=w.heap[k]?
theorem Kp.refl (b:Nat) (w:World):Kp b w w:=⟨rfl,rfl,rfl,Nat.le_refl _,fun _ _ _=>rfl⟩
theorem Kp.trans {b:Nat} {u v w:World} (h:Kp b u v) (k:Kp b v w):Kp b u w:=
 ⟨k.os.trans h.os,k.tape.trans h.tape,k.output.trans h.output,Nat.le_trans h.size k.size,fun i h1 h2=>(k.block i (Nat.lt_of_lt_of_le h1 h.size) h2).trans (h.block i h1 h2)⟩
theorem Kp.of_below {b:Nat} {w w':World} (h:Below w.heap.size w w'):Kp b w w':=⟨h.os,h.tape,h.output,h.size,fun k h1 _=>h.block k h1⟩
theorem Kp.drew {b:Nat} {u w:World} (h:Kp b u w):Kp b u w.drew:=⟨h.os,h.tape,h.output,h.size,h.block⟩
theorem Kp.drewN {b:Nat} {u w:World} (h:Kp b u w) (n:Nat):Kp b u (w.drewN n):=h.trans (Kp.of_below (below_drewN (Below.refl _ _) n))
theorem Kp.setCell {b:Nat} {u w:World} (h:Kp b u w) (o:Nat) (v:Value):Kp b u (w.setCell ⟨b,o,none⟩ v):=
 ⟨h.os,h.tape,h.output,by simpa using h.size,fun k h1 h2=>(Below.heap_setCell w ⟨b,o,none⟩ v k h2).trans (h.block k h1 h2)⟩
theorem Kp.alloc {b:Nat} {u w:World} (h:Kp b u w) (o:Obj):Kp b u (w.alloc o):=
 ⟨h.os,h.tape,h.output,by simp;have:=h.size;omega,fun k h1 h2=>(Below.heap_alloc w o k (Nat.lt_of_lt_of_le h1 h.size)).trans (h.block k h1 h2)⟩
theorem Kp.setNew {b:Nat} {u w:World} (h:Kp b u w) {r:Nat} (hr:u.heap.size≤r) (o:Nat) (v:Value):Kp b u (w.setCell ⟨r,o,none⟩ v):=
 ⟨h.os,h.tape,h.output,by simpa using h.size,fun k h1 h2=>(Below.heap_setCell w ⟨r,o,none⟩ v k (by show k≠r;omega)).trans (h.block k h1 h2)⟩
theorem Kp.cell {b:Nat} {w w':World} (h:Kp b w w') {p:Addr} (hp:p.block < w.heap.size) (hb:p.block≠b):w'.cell? p=w.cell? p:=World.cell?_of_block (w:=w) (h.block p.block hp hb)
theorem lt_of_cell {w:World} {p:Addr} {v:Value} (h:w.cell? p=some v):p.block < w.heap.size:=by
 rcases Nat.lt_or_ge p.block w.heap.size with h' | h'
 ·exact h'
 ·obtain ⟨k,o,s⟩:=p
  cases s <;> simp [World.cell?,Array.getElem?_eq_none h'] at h
theorem Kp.held {b:Nat} {w w':World} (h:Kp b w w') {p:Addr} {v:Value} (hv:w.cell? p=some v) (hb:p.block≠b):w'.cell? p=some v:=(h.cell (lt_of_cell hv) hb).trans hv
structure Rd (w:World) (b:Nat) (s:ByteArray) (p n:Nat) (k tp:Int) (x:ByteArray) (v:Int):Prop where
 c0:w.cell? ⟨b,0,none⟩=some (.string s)
 c1:w.cell? ⟨b,1,none⟩=some (.int .i64 p)
 c2:w.cell? ⟨b,2,none⟩=some (.int .i64 n)
 c3:w.cell? ⟨b,3,none⟩=some (.int .i64 k)
 c4:w.cell? ⟨b,4,none⟩=some (.int .i64 tp)
 c5:w.cell? ⟨b,5,none⟩=some (.string x)
 c6:w.cell? ⟨b,6,none⟩=some (.int .i64 v)
 fz:∀o,w.frozen? ⟨b,o,none⟩=false
theorem Rd.drewN {w:World} {b:Nat} {s:ByteArray} {p n:Nat} {k tp:Int} {x:ByteArray} {v:Int} (h:Rd w b s p n k tp x v) (q:Nat):Rd (w.drewN q) b s p n k tp x v:=by
 have hb:=below_drewN (Below.refl w.heap.size w) q
 have hlt:b < w.heap.size:=lt_of_cell h.c0
 exact ⟨(hb.cell hlt).trans h.c0,(hb.cell hlt).trans h.c1,(hb.cell hlt).trans h.c2,(hb.cell hlt).trans h.c3,(hb.cell hlt).trans h.c4,(hb.cell hlt).trans h.c5,(hb.cell hlt).trans h.c6,fun o=>(hb.frozen hlt).trans (h.fz o)⟩
theorem Rd.kept {w w':World} {b c:Nat} {s:ByteArray} {p n:Nat} {k tp:Int} {x:ByteArray} {v:Int} (h:Rd w b s p n k tp x v) (hk:Kp c w w') (hc:b≠c):Rd w' b s p n k tp x v:=by
 have hlt:b < w.heap.size:=lt_of_cell h.c0
 have cell:∀o,w'.cell? ⟨b,o,none⟩=w.cell? ⟨b,o,none⟩:=fun o=>hk.cell (p:=⟨b,o,none⟩) hlt hc
 have fr:∀o,w'.frozen? ⟨b,o,none⟩=w.frozen? ⟨b,o,none⟩:=fun o=>World.frozen?_of_block (w:=w) (hk.block b hlt hc)
 exact ⟨(cell 0).trans h.c0,(cell 1).trans h.c1,(cell 2).trans h.c2,(cell 3).trans h.c3,(cell 4).trans h.c4,(cell 5).trans h.c5,(cell 6).trans h.c6,fun o=>(fr o).trans (h.fz o)⟩
theorem Rd.four {w:World} {b r:Nat} {s:ByteArray} {p n:Nat} {k tp:Int} {x:ByteArray} {v:Int} (h:Rd w b s p n k tp x v) (hr:b≠r) (v0 v1 v2 v3:Value) :
  Rd ((((w.setCell ⟨r,0,none⟩ v0).setCell ⟨r,1,none⟩ v1).setCell ⟨r,2,none⟩ v2).setCell ⟨r,3,none⟩ v3) b s p n k tp x v:=
 h.kept (((((Kp.refl r w).setCell 0 v0).setCell 1 v1).setCell 2 v2).setCell 3 v3) hr
theorem Kp.four {b r:Nat} {u w:World} (h:Kp b u w) (hr:u.heap.size≤r) (v0 v1 v2 v3:Value) :
  Kp b u ((((w.setCell ⟨r,0,none⟩ v0).setCell ⟨r,1,none⟩ v1).setCell ⟨r,2,none⟩ v2).setCell ⟨r,3,none⟩ v3):=
 (((h.setNew hr 0 v0).setNew hr 1 v1).setNew hr 2 v2).setNew hr 3 v3
theorem Rd.set1 {w:World} {b:Nat} {s:ByteArray} {p n:Nat} {k tp:Int} {x:ByteArray} {v:Int} (h:Rd w b s p n k tp x v) (q:Nat):Rd (w.setCell ⟨b,1,none⟩ (.int .i64 q)) b s q n k tp x v:=by
 have fr:∀o,(w.setCell ⟨b,1,none⟩ (.int .i64 q)).frozen? ⟨b,o,none⟩=false:=fun o=>by simp [h.fz]
 have oth:∀o,o≠1→(w.setCell ⟨b,1,none⟩ (.int .i64 q)).cell? ⟨b,o,none⟩=w.cell? ⟨b,o,none⟩:=fun o ho=>World.cell?_setCell_other _ ⟨b,1,none⟩ ⟨b,o,none⟩ _ (fun e=>ho (by cases e;rfl))
 exact ⟨(oth 0 (by decide)).trans h.c0,World.cell?_setCell_same _ _ _ h.c1,(oth 2 (by decide)).trans h.c2,(oth 3 (by decide)).trans h.c3,(oth 4 (by decide)).trans h.c4,(oth 5 (by decide)).trans h.c5,(oth 6 (by decide)).trans h.c6,fr⟩
theorem Rd.step1 {w:World} {b:Nat} {s:ByteArray} {p n:Nat} {k tp:Int} {x:ByteArray} {v:Int} (h:Rd w b s p n k tp x v):Rd (w.setCell ⟨b,1,none⟩ (.int .i64 ((p:Int)+1))) b s (p+1) n k tp x v:=by
 have:=h.set1 (p+1)
 rwa [show ((p+1:Nat):Int)=(p:Int)+1 from by omega] at this
end
section
open Go.RowKit
theorem ret_bool {a b:Bool} (h:a=b):Ending.returned (.bool a)=.returned (.bool b):=by rw [h]
theorem drop_at {s:ByteArray} {q:Nat} (h:q < s.size):s.data.toList.drop q=s[q]::s.data.toList.drop (q+1):=by
 rw [List.drop_eq_getElem_cons (by simpa using h)];rfl
theorem drop_end {s:ByteArray} {q:Nat} (h:s.size≤q):s.data.toList.drop q=[]:=List.drop_eq_nil_of_le (by simpa using h)
theorem isLetter_any (c:UInt8) (w:World):Calls Tryz.prog 117 #[.int .u8 c.toNat] w fun e w'=>e=.returned (.bool (Mil.isL c))∧w'=w:=by
 go_enter Tryz.func117,Tryz.ntmps117
 go_wp2
 all_goals
  go_ret
  refine ⟨ret_bool ?_,rfl⟩
  unfold Mil.isL
  rw [Bool.eq_iff_iff];simp;omega
theorem isDigit_any (c:UInt8) (w:World):Calls Tryz.prog 119 #[.int .u8 c.toNat] w fun e w'=>e=.returned (.bool (Mil.isD c))∧w'=w:=by
 go_enter Tryz.func119,Tryz.ntmps119
 go_wp2
 all_goals
  go_ret
  refine ⟨ret_bool ?_,rfl⟩
  unfold Mil.isD
  rw [Bool.eq_iff_iff];simp;omega
theorem isNameByte_any (c:UInt8) (w:World):Calls Tryz.prog 149 #[.int .u8 c.toNat] w fun e w'=>e=.returned (.bool (Mil.isN c))∧w'=w:=by
 go_enter Tryz.func149,Tryz.ntmps149
 go_wp2_with (first | (go_at_call 117;refine (isLetter_any c _).mono ?_;rintro e w' ⟨rfl,rfl⟩) | (go_at_call 119;refine (isDigit_any c _).mono ?_;rintro e w' ⟨rfl,rfl⟩))
 all_goals
  go_ret
  refine ⟨ret_bool ?_,rfl⟩
  unfold Mil.isN
  rw [Bool.eq_iff_iff];simp [*];try omega
theorem skip_here {s:ByteArray} {q:Nat} (h:q < s.size) (hc:s[q].toNat=32∨s[q].toNat=9∨s[q].toNat=10):Mil.skip false (s.data.toList.drop q)=Mil.skip false (s.data.toList.drop (q+1)):=by
 rw [drop_at h,Mil.skip,if_pos hc]
theorem skip_hash {c:UInt8} {r:Mil.Bytes} (h:c.toNat=35):Mil.skip true (c::r)=Mil.skip false (c::r):=by
 rw [Mil.skip,Mil.skip,if_neg (by omega),if_neg (by omega),if_pos h]
theorem skip_nl {c:UInt8} {r:Mil.Bytes} (h:c.toNat=10):Mil.skip true (c::r)=Mil.skip false (c::r):=by
 rw [Mil.skip,Mil.skip,if_pos h,if_pos (Or.inr (Or.inr h))]
theorem skip_more {c:UInt8} {r:Mil.Bytes} (h:c.toNat≠10):Mil.skip true (c::r)=Mil.skip true r:=by
 rw [Mil.skip,if_neg h]
theorem skipBlanks_any (b:Nat) (s:ByteArray) (p n:Nat) (k tp:Int) (x:ByteArray) (v:Int) (w:World) (h:Rd w b s p n k tp x v) (hp:p≤s.size) (hs:s.size≤4000) :
  Calls Tryz.prog 81 #[.pointer (some ⟨b,0,none⟩)] w fun e w'=>e=.returned (.tuple #[])∧∃q,p≤q∧q≤s.size∧s.data.toList.drop q=Mil.skip false (s.data.toList.drop p)∧Rd w' b s q n k tp x v∧Kp b w w':=by
 have H:Hid (Rd w b s p n k tp x v):=h
 clear h
 go_enter Tryz.func81,Tryz.ntmps81
 go_wp2
 go_step3
 go_wp2
 go_step3
 go_wp2
 go_loopg [] (s.size - p) (fun g wr=>∃q,p≤q∧q≤s.size∧g=s.size - q∧Hid (Mil.skip false (s.data.toList.drop q)=Mil.skip false (s.data.toList.drop p))∧Hid (Rd wr b s q n k tp x v)∧Hid (Kp b w wr))
 case atStart=>exact ⟨p,Nat.le_refl _,hp,rfl,rfl,H,Kp.refl _ _⟩
 case round=>
  obtain ⟨q,hpq,hq,hg,HS,HR,HK⟩:=hrel
  have HG:Hid (gk=s.size - q):=hg
  clear hg
  have c0:=HR.out.c0
  have c1:=HR.out.c1
  have f1:=HR.out.fz 1
  by_cases hlt:q < s.size
  ·go_wp2
   go_quiet (fail)
   go_wp2
   go_quiet (fail)
   go_wp2
   ·go_roundg (s.size - (q+1))
    case measure=>have:=HG.out;omega
    case rel=>exact ⟨q+1,by omega,by omega,rfl,by rw [←HS.out,skip_here hlt (by rename_i h1 h2;simp at h1 h2;omega)];rfl,(HR.out.drewN _).step1,(HK.out.drewN _).setCell _ _⟩
   ·go_roundg (s.size - (q+1))
    case measure=>have:=HG.out;omega
    case rel=>exact ⟨q+1,by omega,by omega,rfl,by rw [←HS.out,skip_here hlt (by rename_i h1 h2;simp at h1 h2;omega)];rfl,(HR.out.drewN _).step1,(HK.out.drewN _).setCell _ _⟩
   ·go_roundg (s.size - (q+1))
    case measure=>have:=HG.out;omega
    case rel=>exact ⟨q+1,by omega,by omega,rfl,by rw [←HS.out,skip_here hlt (by rename_i h1 h2;simp at h1 h2;omega)];rfl,(HR.out.drewN _).step1,(HK.out.drewN _).setCell _ _⟩
   ·rename_i h1 h2 h3 h4
    have H35:Hid (s[q].toNat=35):=by simp at h4;show _=_;omega
    clear h1 h2 h3 h4
    go_loopg [] (s.size - q) (fun g wi=>∃j,q≤j∧j≤s.size∧g=s.size - j∧Hid (Mil.skip true (s.data.toList.drop j)=Mil.skip false (s.data.toList.drop p))∧Hid (Rd wi b s j n k tp x v)∧Hid (Kp b w wi))
    case atStart=>exact ⟨q,Nat.le_refl _,hq,rfl,by rw [←HS.out,drop_at hlt];exact skip_hash H35.out,HR.out.drewN _,HK.out.drewN _⟩
    case round=>
     obtain ⟨j,hqj,hj,hg2,HS2,HR2,HK2⟩:=hrel
     have HG2:Hid (gk=s.size - j):=hg2
     clear hg2 c0 c1 f1
     have c0:=HR2.out.c0
     have c1:=HR2.out.c1
     have f1:=HR2.out.fz 1
     by_cases hjl:j < s.size
     ·by_cases hnl:s[j].toNat=10
      ·have hb:((s[j].toNat:Int) != 10)=false:=by simp;omega
       have HN:Hid (s[j].toNat=10):=hnl
       clear hnl
       go_wp2
       go_quiet (fail)
       go_wp2
       have hne:j≠q:=fun e=>by subst e;have:=HN.out;have:=H35.out;omega
       go_roundg (s.size - j)
       case measure=>have:=HG.out;omega
       case rel=>exact ⟨j,by omega,hj,rfl,by rw [←HS2.out,drop_at hjl];exact (skip_nl HN.out).symm,HR2.out.drewN _,HK2.out.drewN _⟩
      ·have hb:((s[j].toNat:Int) != 10)=true:=by simp;omega
       have HN:Hid (s[j].toNat≠10):=hnl
       clear hnl
       go_wp2
       go_quiet (fail)
       go_wp2
       go_roundg (s.size - (j+1))
       case measure=>have:=HG2.out;omega
       case rel=>exact ⟨j+1,by omega,by omega,rfl,by rw [←HS2.out,drop_at hjl];exact (skip_more HN.out).symm,(HR2.out.drewN _).step1,(HK2.out.drewN _).setCell _ _⟩
     ·have hd:decide ((j:Int) < (s.size:Int))=false:=by simp;omega
      go_wp2
      go_quiet (fail)
      go_wp2
      go_roundg (s.size - j)
      case measure=>have:=HG.out;omega
      case rel=>exact ⟨j,by omega,hj,rfl,by rw [←HS2.out,drop_end (by omega)];rfl,HR2.out.drewN _,HK2.out.drewN _⟩
   ·rw [Exit.noGoto_normal]
    go_end0
    rename_i h1 h2 h3 h4
    refine ⟨rfl,q,hpq,hq,?_,HR.out.drewN _,HK.out.drewN _⟩
    simp at h1 h2 h3 h4
    rw [←HS.out,drop_at hlt,Mil.skip,if_neg (by omega),if_neg (by omega)]
  ·go_wp2
   go_quiet (fail)
   go_wp2
   rw [Exit.noGoto_normal]
   go_end0
   refine ⟨rfl,q,hpq,hq,?_,HR.out.drewN nq,HK.out.drewN nq⟩
   rw [←HS.out,drop_end (by omega)];rfl
end
section
open Go.RowKit
def bs (x:Mil.Bytes):ByteArray:=⟨x.toArray⟩
theorem bs_list (x:Mil.Bytes):(bs x).data.toList=x:=rfl
theorem bs_of (s:ByteArray):bs s.data.toList=s:=by cases s;rfl
def strCells (l:List Mil.Bytes):Array Value:=(l.map fun x=>Value.string (bs x)).toArray
abbrev errV (a:Addr):Value:=.iface 285 (.pointer (some a))
def opsTab:List (Mil.Bytes×Int×Int×Int):=
 [(Mil.wOr,1,1,1),(Mil.wXor,1,1,1),(Mil.wAnd,2,1,1),(Mil.sLt,4,0,1),(Mil.sLe,4,0,1),(Mil.sGt,4,0,1),(Mil.sGe,4,0,1),(Mil.sEq,4,2,1),(Mil.sNe,4,2,1),(Mil.sPlus,5,0,0),(Mil.sMinus,5,0,0),(Mil.sTimes,6,0,0),(Mil.sOver,6,0,0),(Mil.sRest,6,0,0)]
def opCells:Array Value:=(opsTab.flatMap fun x=>[Value.string (bs x.1),.int .i64 x.2.1,.int .i64 x.2.2.1,.int .i64 x.2.2.2]).toArray
structure Laid (a:Nat→Addr) (w:World):Prop where
 size:23≤w.heap.size
 long:w.cell? ⟨2,0,none⟩=some (errV (a 1))
 token:w.cell? ⟨4,0,none⟩=some (errV (a 2))
 synt:w.cell? ⟨5,0,none⟩=some (errV (a 3))
 many:w.cell? ⟨6,0,none⟩=some (errV (a 4))
 words:∃t,w.heap[14]?=some (.cells (strCells Mil.words) t (0,0))
 signs:∃t,w.heap[15]?=some (.cells (strCells Mil.signs) t (0,0))
 types:∃t,w.heap[16]?=some (.cells (strCells [Mil.wInt,Mil.wBool]) t (0,0))
 ops:∃t,w.heap[17]?=some (.cells opCells t (0,0))
 rng:w.cell? ⟨19,0,none⟩=some (errV (a 20))
theorem Laid.kept {a:Nat→Addr} {b:Nat} {w w':World} (h:Laid a w) (k:Kp b w w') (hb:23≤b):Laid a w':=by
 have hs:=h.size
 have bl:∀g,g < 23→w'.heap[g]?=w.heap[g]?:=fun g hg=>k.block g (by omega) (by omega)
 refine ⟨Nat.le_trans hs k.size,k.held h.long ?_,k.held h.token ?_,k.held h.synt ?_,k.held h.many ?_,?_,?_,?_,?_,k.held h.rng ?_⟩
 ·show 2≠b;omega
 ·show 4≠b;omega
 ·show 5≠b;omega
 ·show 6≠b;omega
 ·obtain ⟨t,ht⟩:=h.words;exact ⟨t,(bl _ (by omega)).trans ht⟩
 ·obtain ⟨t,ht⟩:=h.signs;exact ⟨t,(bl _ (by omega)).trans ht⟩
 ·obtain ⟨t,ht⟩:=h.types;exact ⟨t,(bl _ (by omega)).trans ht⟩
 ·obtain ⟨t,ht⟩:=h.ops;exact ⟨t,(bl _ (by omega)).trans ht⟩
 ·show 19≠b;omega
def Thrown (a:Nat→Addr) (k:Nat) (at_:Int) (e:Ending) (w':World):Prop:=
 ∃d,e=.panicked [{ v:=.iface 69 (.pointer (some ⟨d,0,none⟩)),recovered:=false }]∧w'.heap[d]?=some (.cells #[.int .i64 at_,errV (a k)] 81 (0,0))
end
section
namespace Mil
def Imp {α:Type} (a b:Option α):Prop:=∀x,a=some x→b=some x
theorem Imp.refl {α:Type} (a:Option α):Imp a a:=fun _ h=>h
theorem Imp.bind {α β:Type} {a a':Option α} {k k':α→Option β} (ha:Imp a a') (hk:∀x,Imp (k x) (k' x)):Imp (a.bind k) (a'.bind k'):=by
 intro y h
 obtain ⟨x,hx,hy⟩:=Option.bind_eq_some_iff.1 h
 exact Option.bind_eq_some_iff.2 ⟨x,ha x hx,hk x y hy⟩
theorem Imp.map {α β:Type} {a a':Option α} {k:α→β} (ha:Imp a a'):Imp (a.map k) (a'.map k):=by
 intro y h
 obtain ⟨x,hx,hy⟩:=Option.map_eq_some_iff.1 h
 exact Option.map_eq_some_iff.2 ⟨x,ha x hx,hy⟩
theorem Imp.ite {α:Type} {c:Prop} [Decidable c] {a a' b b':Option α} (h1:Imp a a') (h2:Imp b b'):Imp (if c then a else b) (if c then a' else b'):=by
 by_cases h:c
 ·rw [if_pos h,if_pos h];exact h1
 ·rw [if_neg h,if_neg h];exact h2
theorem step_le {f g:Nat→E→St→Option (E×St)} (h:∀t e s,Imp (f t e s) (g t e s)) (t:Nat) (e:E) (s:St):Imp (step f t e s) (step g t e s):=by
 unfold step atom
 repeat' first | exact h _ _ _ | exact Imp.refl _ | refine Imp.ite ?_ ?_ | refine Imp.bind ?_ (fun _=>?_) | refine Imp.map ?_
theorem px_succ (n:Nat) (t:Nat) (e:E) (s:St):px (n+1) t e s=step (px n) t e s:=rfl
theorem px_next:∀(n:Nat) (t:Nat) (e:E) (s:St),Imp (px n t e s) (px (n+1) t e s)
 | 0,_,_,_=>fun _ h=>by cases h
 | n+1,t,e,s=>by
  rw [px_succ,px_succ (n+1)]
  exact step_le (px_next n) t e s
theorem px_le {n m:Nat} (h:n≤m) {t:Nat} {e:E} {s:St} {x:E×St} (hx:px n t e s=some x):px m t e s=some x:=by
 induction h with
 | refl=>exact hx
 | step _ ih=>exact px_next _ _ _ _ _ ih
theorem Ok.unique {t:Nat} {e:E} {s:St} {x y:E×St} (h:Ok t e s x) (k:Ok t e s y):x=y:=by
 obtain ⟨n,hn⟩:=h
 obtain ⟨m,hm⟩:=k
 have h1:=px_le (Nat.le_max_left n m) hn
 have h2:=px_le (Nat.le_max_right n m) hm
 exact Option.some.inj (h1.symm.trans h2)
theorem ok_noif {s:St} {x:E×St} (h:sees s wIf=false) (k:Ok 1 eNil s x):Ok 0 eNil s x:=by
 obtain ⟨n,hn⟩:=k
 exact ⟨n+1,by rw [px_succ];unfold step;rw [if_pos rfl,h,if_neg (by decide)];exact hn⟩
theorem ok_if {s s1 s3 s5:St} {a b c:E×St} (h:sees s wIf=true) (h1:adv s=some s1) (ha:Ok 0 eNil s1 a) (h3:want a.2 wThen=some s3) (hb:Ok 0 eNil s3 b)
  (h5:want b.2 wElse=some s5) (hc:Ok 0 eNil s5 c):Ok 0 eNil s (eIf a.1 b.1 c.1,c.2):=by
 obtain ⟨n1,e1⟩:=ha
 obtain ⟨n2,e2⟩:=hb
 obtain ⟨n3,e3⟩:=hc
 have f1:=px_le (show n1≤n1+n2+n3 by omega) e1
 have f2:=px_le (show n2≤n1+n2+n3 by omega) e2
 have f3:=px_le (show n3≤n1+n2+n3 by omega) e3
 refine ⟨n1+n2+n3+1,?_⟩
 rw [px_succ];unfold step
 rw [if_pos rfl,if_pos h,h1,Option.bind_some,f1,Option.bind_some,h3,Option.bind_some,f2,Option.bind_some,h5,Option.bind_some,f3,Option.map_some]
theorem ok_pre {l:Nat} {s s1:St} {a:E×St} (h:(l=3∧sees s wNot=true)∨(l=7∧sees s sMinus=true)) (h1:adv s=some s1) (ha:Ok l eNil s1 a):Ok l eNil s (ePre s.tok.txt a.1,a.2):=by
 obtain ⟨n,e1⟩:=ha
 refine ⟨n+1,?_⟩
 rw [px_succ];unfold step
 rw [if_neg (by omega),if_neg (by omega),if_pos (by omega),if_pos h,h1,Option.bind_some,e1,Option.map_some]
theorem ok_level {l:Nat} (h0:0 < l) (h8:l < 8) {s:St} {a x:E×St} (h:¬((l=3∧sees s wNot=true)∨(l=7∧sees s sMinus=true))) (ha:Ok (l+1) eNil s a) (hx:Ok (10+l) a.1 a.2 x):Ok l eNil s x:=by
 obtain ⟨n1,e1⟩:=ha
 obtain ⟨n2,e2⟩:=hx
 have f1:=px_le (show n1≤n1+n2 by omega) e1
 have f2:=px_le (show n2≤n1+n2 by omega) e2
 refine ⟨n1+n2+1,?_⟩
 rw [px_succ];unfold step
 rw [if_neg (by omega),if_neg (by omega),if_pos h8,if_neg h,f1,Option.bind_some,f2]
theorem ok_stop {l:Nat} {s:St} {a:E} (h:opAt s≠l):Ok (10+l) a s (a,s):=by
 refine ⟨1,?_⟩
 rw [px_succ];unfold step
 rw [if_neg (by omega),if_neg (by omega),if_neg (by omega),if_neg (by omega)]
theorem ok_go {l:Nat} (h4:l≠4) {s s1:St} {a:E} {b x:E×St} (h:opAt s=l) (h1:adv s=some s1) (hb:Ok (l+1) eNil s1 b) (hx:Ok (10+l) (eTwo s.tok.txt a b.1) b.2 x):Ok (10+l) a s x:=by
 obtain ⟨n1,e1⟩:=hb
 obtain ⟨n2,e2⟩:=hx
 have f1:=px_le (show n1≤n1+n2 by omega) e1
 have f2:=px_le (show n2≤n1+n2 by omega) e2
 refine ⟨n1+n2+1,?_⟩
 rw [px_succ];unfold step
 rw [if_neg (by omega),if_neg (by omega),if_neg (by omega),if_pos (by omega),h1,Option.bind_some]
 have e:10+l - 10+1=l+1:=by omega
 rw [e,f1,Option.bind_some,if_neg (by omega),f2]
theorem ok_rel {s s1:St} {a:E} {b:E×St} (h:opAt s=4) (h1:adv s=some s1) (hb:Ok 5 eNil s1 b):Ok 14 a s (eTwo s.tok.txt a b.1,b.2):=by
 obtain ⟨n1,e1⟩:=hb
 refine ⟨n1+1,?_⟩
 rw [px_succ];unfold step
 rw [if_neg (by omega),if_neg (by omega),if_neg (by omega),if_pos (by omega),h1,Option.bind_some,e1,Option.bind_some,if_pos rfl]
theorem ok_atom0 {s:St} {x:E×St} (h:∀f,atom f s=some x):Ok 8 eNil s x:=by
 refine ⟨1,?_⟩
 rw [px_succ];unfold step
 rw [if_neg (by omega),if_pos rfl,h]
theorem ok_atom {s:St} {x:E×St} {n:Nat} (h:atom (px n) s=some x):Ok 8 eNil s x:=by
 refine ⟨n+1,?_⟩
 rw [px_succ];unfold step
 rw [if_neg (by omega),if_pos rfl,h]
end Mil
end
end Go.Proofs.YticbokabjhnagaaGreatDoor
