import Derived.Deep.Trees
import Derived.Lib.ItoaNum
import Derived.Lib.ParseIntB
import Derived.Test.YtjehljjlcifndaaGreatDoorProg
import Derived.KernelRfl
import Derived.RowKit
import Derived.WalkKit
import Derived.WalkSpells
import Derived.WalkLawsBesides
import Derived.Deep.LoopGhost
import Derived.Deep.CutRange
import Derived.Deep.QuietTactic
import Derived.BigQuiet
import Derived.Laws.Rows
namespace Go.Proofs.YtjehljjlcifndaaGreatDoor
set_option maxHeartbeats 32000000
set_option maxRecDepth 100000
section
theorem obs {α β:Type} {o:Option α} {f:α->Option β} {b:β} (h:o.bind f=some b):∃a,o=some a/\f a=some b:=Option.bind_eq_some_iff.1 h
theorem oms {α β:Type} {o:Option α} {f:α->β} {b:β} (h:o.map f=some b):∃a,o=some a/\f a=b:=Option.map_eq_some_iff.1 h
theorem osi {α:Type} {a b:α} (h:some a=some b):a=b:=Option.some.inj h
theorem lgs {α:Type} {l:List α} {i:Nat} {a:α} (h:l[i]?=some a):∃h:i < l.length,l[i]=a:=List.getElem?_eq_some_iff.1 h
theorem ags {α:Type} {l:Array α} {i:Nat} {a:α} (h:l[i]?=some a):∃h:i < l.size,l[i]=a:=Array.getElem?_eq_some_iff.1 h
theorem nlr {n:Nat}:n<=n:=Nat.le_refl n
namespace Mil
abbrev Bytes:=List UInt8
def wInput:Bytes:=[105,110,112,117,116]
def wOutput:Bytes:=[111,117,116,112,117,116]
def wEvery:Bytes:=[101,118,101,114,121]
def wInt:Bytes:=[105,110,116]
def wBool:Bytes:=[98,111,111,108]
def wIf:Bytes:=[105,102]
def wThen:Bytes:=[116,104,101,110]
def wElse:Bytes:=[101,108,115,101]
def wOr:Bytes:=[111,114]
def wXor:Bytes:=[120,111,114]
def wAnd:Bytes:=[97,110,100]
def wNot:Bytes:=[110,111,116]
def wTrue:Bytes:=[116,114,117,101]
def wFalse:Bytes:=[102,97,108,115,101]
def wFby:Bytes:=[102,98,121]
def wUnder:Bytes:=[117,110,100,101,114]
def wHold:Bytes:=[104,111,108,100]
def wMin:Bytes:=[109,105,110]
def wMax:Bytes:=[109,97,120]
def sLe:Bytes:=[60,61]
def sGe:Bytes:=[62,61]
def sEq:Bytes:=[61,61]
def sNe:Bytes:=[33,61]
def sColon:Bytes:=[58]
def sSemi:Bytes:=[59]
def sIs:Bytes:=[61]
def sOpen:Bytes:=[40]
def sShut:Bytes:=[41]
def sComma:Bytes:=[44]
def sPlus:Bytes:=[43]
def sMinus:Bytes:=[45]
def sTimes:Bytes:=[42]
def sOver:Bytes:=[47]
def sRest:Bytes:=[37]
def sLt:Bytes:=[60]
def sGt:Bytes:=[62]
def words:List Bytes:=[wInput,wOutput,wEvery,wInt,wBool,wIf,wThen,wElse,wOr,wXor,wAnd,wNot,wTrue,wFalse,wFby,wUnder,wHold,wMin,wMax]
def signs:List Bytes:=[sLe,sGe,sEq,sNe,sColon,sSemi,sIs,sOpen,sShut,sComma,sPlus,sMinus,sTimes,sOver,sRest,sLt,sGt]
def isL (c:UInt8):Bool:=decide (97<=c.toNat) && decide (c.toNat<=122)
def isD (c:UInt8):Bool:=decide (48<=c.toNat) && decide (c.toNat<=57)
def isN (c:UInt8):Bool:=isL c || isD c || decide (c.toNat=95)
structure Tok where
 kind:Nat
 txt:Bytes
 val:Int
def fix (x:Bytes):Tok:=⟨3,x,0⟩
def nam (x:Bytes):Tok:=⟨1,x,0⟩
def num (k:Nat):Tok:=⟨2,Lib.decDigits k,k⟩
def skip:Bool->Bytes->Bytes
 | _,[]=>[]
 | true,c::r=>if c.toNat=10 then skip false r else skip true r
 | false,c::r=>if c.toNat=32\/c.toNat=9\/c.toNat=10 then skip false r else if c.toNat=35 then skip true r else c::r
def cutName (b:Bytes):Option (Tok×Bytes):=
 if 12 < (b.takeWhile isN).length then none else some (if words.contains (b.takeWhile isN) then fix (b.takeWhile isN) else nam (b.takeWhile isN),b.dropWhile isN)
def cutNum (b:Bytes):Option (Tok×Bytes):=
 match Lib.parseIntB 64 (b.takeWhile isD) with
 | .ok v=>if b.head?.map (·.toNat)=some 48/\1 < (b.takeWhile isD).length then none else some (⟨2,b.takeWhile isD,v⟩,b.dropWhile isD)
 | _=>none
def cutSign (b:Bytes):Option (Tok×Bytes):=
 match signs.find? (fun x=>x.isPrefixOf b) with
 | some x=>some (fix x,b.drop x.length)
 | none=>none
def cut (b:Bytes):Option (Tok×Bytes):=
 match b with
 | []=>some (⟨0,[],0⟩,[])
 | c::_=>if isL c then cutName b else if isD c then cutNum b else cutSign b
structure St where
 tok:Tok
 rest:Bytes
 cnt:Nat
def adv' (b:Bytes) (n:Nat):Option St:=
 match cut (skip false b) with
 | none=>none
 | some (t,r)=>if t.kind=0 then some ⟨t,r,n⟩ else if 600 < n+1 then none else some ⟨t,r,n+1⟩
def adv (s:St):Option St:=adv' s.rest s.cnt
def sees (s:St) (x:Bytes):Bool:=s.tok.kind==3 && s.tok.txt==x
def want (s:St) (x:Bytes):Option St:=if sees s x then adv s else none
def name (s:St):Option (Bytes×St):=if s.tok.kind=1 then (adv s).map fun s1=>(s.tok.txt,s1) else none
def number (lo hi:Int) (s:St):Option (Nat×St):=if s.tok.kind=2/\lo<=s.tok.val/\s.tok.val<=hi then (adv s).map fun s1=>(s.tok.val.toNat,s1) else none
def ftype (s:St):Option (Nat×St):=if sees s wInt then (adv s).map fun s1=>(0,s1) else if sees s wBool then (adv s).map fun s1=>(1,s1) else none
abbrev E:=Go.Deep.BT Bytes
def eNil:E:=.nil
def eInt (k:Nat):E:=.node 1 k [] .nil .nil
def eBool (k:Nat):E:=.node 2 k [] .nil .nil
def eName (x:Bytes):E:=.node 3 0 x .nil .nil
def ePre (x:Bytes) (a:E):E:=.node 4 0 x a .nil
def eTwo (x:Bytes) (a b:E):E:=.node 5 0 x a b
def eIf (a b c:E):E:=.node 6 0 [] a (.node 0 0 [] b c)
def eFby (a b:E):E:=.node 7 0 [] a b
def eUnder (a:E) (k:Nat):E:=.node 8 k [] a .nil
def eHold (a b:E) (k:Nat):E:=.node 9 k [] a b
def eLeast (x:Bytes) (a b:E):E:=.node 10 0 x a b
def tightOf (x:Bytes):Nat:=
 if x=wOr\/x=wXor then 1 else if x=wAnd then 2 else if x=sLt\/x=sLe\/x=sGt\/x=sGe\/x=sEq\/x=sNe then 4
 else if x=sPlus\/x=sMinus then 5 else if x=sTimes\/x=sOver\/x=sRest then 6 else 9
def opAt (s:St):Nat:=if s.tok.kind=3 then tightOf s.tok.txt else 9
def maxInt:Int:=9223372036854775807
def literal (s:St):Option (E×St):=
 if sees s wTrue then (adv s).map fun s1=>(eBool 1,s1) else if sees s wFalse then (adv s).map fun s1=>(eBool 0,s1)
 else (number 0 maxInt s).map fun x=>(eInt x.1,x.2)
def constant (s:St):Option (E×St):=
 if sees s sMinus then (adv s).bind fun s1=>(number 0 maxInt s1).map fun x=>(ePre sMinus (eInt x.1),x.2) else literal s
def atom (f:Nat->E->St->Option (E×St)) (s:St):Option (E×St):=
 if s.tok.kind=1 then (name s).map fun x=>(eName x.1,x.2)
 else if sees s sOpen then (adv s).bind fun s1=>(f 0 eNil s1).bind fun x=>(want x.2 sShut).map fun s3=>(x.1,s3)
 else if sees s wFby then (adv s).bind fun s1=>(want s1 sOpen).bind fun s2=>(constant s2).bind fun c=>(want c.2 sComma).bind fun s4=>(f 0 eNil s4).bind fun x=>(want x.2 sShut).map fun s6=>(eFby c.1 x.1,s6)
 else if sees s wUnder then (adv s).bind fun s1=>(want s1 sOpen).bind fun s2=>(f 0 eNil s2).bind fun x=>(want x.2 sComma).bind fun s4=>(number 2 1000 s4).bind fun k=>(want k.2 sShut).map fun s6=>(eUnder x.1 k.1,s6)
 else if sees s wHold then (adv s).bind fun s1=>(want s1 sOpen).bind fun s2=>(constant s2).bind fun c=>(want c.2 sComma).bind fun s4=>(f 0 eNil s4).bind fun x=>(want x.2 sComma).bind fun s6=>(number 2 1000 s6).bind fun k=>(want k.2 sShut).map fun s8=>(eHold c.1 x.1 k.1,s8)
 else if sees s wMin || sees s wMax then (adv s).bind fun s1=>(want s1 sOpen).bind fun s2=>(f 0 eNil s2).bind fun a=>(want a.2 sComma).bind fun s4=>(f 0 eNil s4).bind fun b=>(want b.2 sShut).map fun s6=>(eLeast s.tok.txt a.1 b.1,s6)
 else literal s
def step (f:Nat->E->St->Option (E×St)) (tag:Nat) (left:E) (s:St):Option (E×St):=
 if tag=0 then
  if sees s wIf then (adv s).bind fun s1=>(f 0 eNil s1).bind fun a=>(want a.2 wThen).bind fun s3=>(f 0 eNil s3).bind fun b=>(want b.2 wElse).bind fun s5=>(f 0 eNil s5).map fun c=>(eIf a.1 b.1 c.1,c.2)
  else f 1 eNil s
 else if tag=8 then atom f s
 else if tag < 8 then
  if (tag=3/\sees s wNot=true)\/(tag=7/\sees s sMinus=true) then (adv s).bind fun s1=>(f tag eNil s1).map fun a=>(ePre s.tok.txt a.1,a.2)
  else (f (tag+1) eNil s).bind fun a=>f (10+tag) a.1 a.2
 else if opAt s=tag - 10 then (adv s).bind fun s1=>(f (tag - 10+1) eNil s1).bind fun b=>if tag=14 then some (eTwo s.tok.txt left b.1,b.2) else f tag (eTwo s.tok.txt left b.1) b.2
 else some (left,s)
def px:Nat->Nat->E->St->Option (E×St)
 | 0,_,_,_=>none
 | n+1,t,e,s=>step (px n) t e s
def Ok (t:Nat) (e:E) (s:St) (x:E×St):Prop:=∃n,px n t e s=some x
structure It where
 kind:Nat
 nm:Bytes
 ty:Nat
 every:Nat
 names:List Bytes
 body:E
def pnames:Nat->List Bytes->St->Option (List Bytes×St)
 | 0,_,_=>none
 | n+1,acc,s=>if sees s sComma then (adv s).bind fun s1=>(name s1).bind fun x=>pnames n (acc++[x.1]) x.2 else some (acc,s)
def pitem (n:Nat) (s:St):Option (It×St):=
 if sees s wInput then (adv s).bind fun s1=>(name s1).bind fun x=>(want x.2 sColon).bind fun s3=>(ftype s3).bind fun t=>(want t.2 wEvery).bind fun s5=>(number 1 1000000 s5).bind fun k=>(want k.2 sSemi).map fun s7=>(⟨1,x.1,t.1,k.1,[],eNil⟩,s7)
 else if sees s wOutput then (adv s).bind fun s1=>(name s1).bind fun x=>(pnames n [x.1] x.2).bind fun l=>(want l.2 sSemi).map fun s4=>(⟨2,[],0,0,l.1,eNil⟩,s4)
 else (name s).bind fun x=>(want x.2 sColon).bind fun s2=>(ftype s2).bind fun t=>(want t.2 sIs).bind fun s4=>(px n 0 eNil s4).bind fun e=>(want e.2 sSemi).map fun s6=>(⟨3,x.1,t.1,0,[],e.1⟩,s6)
def pprog:Nat->List It->St->Option (List It)
 | 0,_,_=>none
 | n+1,acc,s=>if s.tok.kind=0 then some acc else if acc.length=60 then none else (pitem n s).bind fun x=>pprog n (acc++[x.1]) x.2
def parse (n:Nat) (b:Bytes):Option (List It):=if 4000 < b.length then none else (adv' b 0).bind fun s=>pprog n [] s
def Parsed (b:Bytes) (l:List It):Prop:=∃n,parse n b=some l
def tight:E->Nat
 | .node 4 _ x _ _=>if x=wNot then 3 else 7
 | .node 5 _ x _ _=>tightOf x
 | .node 6 _ _ _ _=>0
 | _=>8
def leftOf (t:Nat):Nat:=if t=4 then 5 else t
def tyText (t:Nat):Bytes:=if t=0 then wInt else wBool
end Mil
abbrev Mbo:=Mil.Bytes->Option Int
abbrev Mbi:=Mil.Bytes->Int->Int->Int
end
section
open Go.RowKit
variable {s x:ByteArray} {k tp v:Int} {b n p r:Nat} {u w w':World}
theorem hid {p:Prop} (h:p):Hid p:=h
theorem brf:Below n w w:=Below.refl n w
theorem bhs (w:World) (a:Addr) (v:Value) (k:Nat) (h:k≠a.block):(w.setCell a v).heap[k]?=w.heap[k]?:=Below.heap_setCell w a v k h
theorem han (w:World) (o:Obj):(w.alloc o).heap[w.heap.size]?=some o:=heap_alloc_new w o
theorem cor (w:World) (g j:Nat) (cs:Array Value) (t:TypeId) (fr:Nat×Nat) (hg:w.heap[g]?=some (.cells cs t fr)):w.cell? ⟨g,j,none⟩=cs[j]?:=cell_of_row w g j cs t fr hg
structure Kp (b:Nat) (w w':World):Prop where
 os:w'.os=w.os
 tape:w'.tape=w.tape
 output:w'.output=w.output
 size:w.heap.size<=w'.heap.size
 block:∀k,k < w.heap.size->k≠b->w'.heap[k]?=w.heap[k]?
theorem Kp.refl (b:Nat) (w:World):Kp b w w:=⟨rfl,rfl,rfl,Nat.le_refl _,fun _ _ _=>rfl⟩
theorem Kp.trans {v:World} (h:Kp b u v) (k:Kp b v w):Kp b u w:=
 ⟨k.os.trans h.os,k.tape.trans h.tape,k.output.trans h.output,Nat.le_trans h.size k.size,fun i h1 h2=>(k.block i (Nat.lt_of_lt_of_le h1 h.size) h2).trans (h.block i h1 h2)⟩
theorem Kp.of_below (h:Below w.heap.size w w'):Kp b w w':=⟨h.os,h.tape,h.output,h.size,fun k h1 _=>h.block k h1⟩
theorem Kp.drew (h:Kp b u w):Kp b u w.drew:=⟨h.os,h.tape,h.output,h.size,h.block⟩
theorem Kp.drewN (h:Kp b u w) (n:Nat):Kp b u (w.drewN n):=h.trans (Kp.of_below (below_drewN brf n))
theorem Kp.setCell (h:Kp b u w) (o:Nat) (v:Value):Kp b u (w.setCell ⟨b,o,none⟩ v):=
 ⟨h.os,h.tape,h.output,by simpa using h.size,fun k h1 h2=>(bhs w ⟨b,o,none⟩ v k h2).trans (h.block k h1 h2)⟩
theorem Kp.alloc (h:Kp b u w) (o:Obj):Kp b u (w.alloc o):=
 ⟨h.os,h.tape,h.output,by simp;have:=h.size;omega,fun k h1 h2=>(Below.heap_alloc w o k (Nat.lt_of_lt_of_le h1 h.size)).trans (h.block k h1 h2)⟩
theorem Kp.setNew (h:Kp b u w) {r:Nat} (hr:u.heap.size<=r) (o:Nat) (v:Value):Kp b u (w.setCell ⟨r,o,none⟩ v):=
 ⟨h.os,h.tape,h.output,by simpa using h.size,fun k h1 h2=>(bhs w ⟨r,o,none⟩ v k (by show k≠r;omega)).trans (h.block k h1 h2)⟩
theorem Kp.cell (h:Kp b w w') {p:Addr} (hp:p.block < w.heap.size) (hb:p.block≠b):w'.cell? p=w.cell? p:=World.cell?_of_block (w:=w) (h.block p.block hp hb)
theorem zab {p:Addr} {v:Value} (h:w.cell? p=some v):p.block < w.heap.size:=by
 rcases Nat.lt_or_ge p.block w.heap.size with h'|h'
 ·exact h'
 ·obtain⟨k,o,s⟩:=p
  cases s <;> simp[World.cell?,Array.getElem?_eq_none h'] at h
theorem Kp.held (h:Kp b w w') {p:Addr} {v:Value} (hv:w.cell? p=some v) (hb:p.block≠b):w'.cell? p=some v:=(h.cell (zab hv) hb).trans hv
structure Rd (w:World) (b:Nat) (s:ByteArray) (p n:Nat) (k tp:Int) (x:ByteArray) (v:Int):Prop where
 c0:w.cell? ⟨b,0,none⟩=some (.string s)
 c1:w.cell? ⟨b,1,none⟩=some (.int .i64 p)
 c2:w.cell? ⟨b,2,none⟩=some (.int .i64 n)
 c3:w.cell? ⟨b,3,none⟩=some (.int .i64 k)
 c4:w.cell? ⟨b,4,none⟩=some (.int .i64 tp)
 c5:w.cell? ⟨b,5,none⟩=some (.string x)
 c6:w.cell? ⟨b,6,none⟩=some (.int .i64 v)
 fz:∀o,w.frozen? ⟨b,o,none⟩=false
theorem Rd.drewN (h:Rd w b s p n k tp x v) (q:Nat):Rd (w.drewN q) b s p n k tp x v:=by
 have hb:=below_drewN (Below.refl w.heap.size w) q
 have hlt:b < w.heap.size:=zab h.c0
 exact⟨(hb.cell hlt).trans h.c0,(hb.cell hlt).trans h.c1,(hb.cell hlt).trans h.c2,(hb.cell hlt).trans h.c3,(hb.cell hlt).trans h.c4,(hb.cell hlt).trans h.c5,(hb.cell hlt).trans h.c6,fun o=>(hb.frozen hlt).trans (h.fz o)⟩
theorem Rd.kept {c:Nat} (h:Rd w b s p n k tp x v) (hk:Kp c w w') (hc:b≠c):Rd w' b s p n k tp x v:=by
 have hlt:b < w.heap.size:=zab h.c0
 have cell:∀o,w'.cell? ⟨b,o,none⟩=w.cell? ⟨b,o,none⟩:=fun o=>hk.cell (p:=⟨b,o,none⟩) hlt hc
 have fr:∀o,w'.frozen? ⟨b,o,none⟩=w.frozen? ⟨b,o,none⟩:=fun o=>World.frozen?_of_block (w:=w) (hk.block b hlt hc)
 exact⟨(cell 0).trans h.c0,(cell 1).trans h.c1,(cell 2).trans h.c2,(cell 3).trans h.c3,(cell 4).trans h.c4,(cell 5).trans h.c5,(cell 6).trans h.c6,fun o=>(fr o).trans (h.fz o)⟩
theorem Rd.four (h:Rd w b s p n k tp x v) (hr:b≠r) (v0 v1 v2 v3:Value) :
  Rd ((((w.setCell ⟨r,0,none⟩ v0).setCell ⟨r,1,none⟩ v1).setCell ⟨r,2,none⟩ v2).setCell ⟨r,3,none⟩ v3) b s p n k tp x v:=
 h.kept (((((Kp.refl r w).setCell 0 v0).setCell 1 v1).setCell 2 v2).setCell 3 v3) hr
theorem Kp.four (h:Kp b u w) (hr:u.heap.size<=r) (v0 v1 v2 v3:Value) :
  Kp b u ((((w.setCell ⟨r,0,none⟩ v0).setCell ⟨r,1,none⟩ v1).setCell ⟨r,2,none⟩ v2).setCell ⟨r,3,none⟩ v3):=
 (((h.setNew hr 0 v0).setNew hr 1 v1).setNew hr 2 v2).setNew hr 3 v3
theorem Rd.set1 (h:Rd w b s p n k tp x v) (q:Nat):Rd (w.setCell ⟨b,1,none⟩ (.int .i64 q)) b s q n k tp x v:=by
 have fr:∀o,(w.setCell ⟨b,1,none⟩ (.int .i64 q)).frozen? ⟨b,o,none⟩=false:=fun o=>by simp[h.fz]
 have oth:∀o,o≠1->(w.setCell ⟨b,1,none⟩ (.int .i64 q)).cell? ⟨b,o,none⟩=w.cell? ⟨b,o,none⟩:=fun o ho=>World.cell?_setCell_other _ ⟨b,1,none⟩ ⟨b,o,none⟩ _ (fun e=>ho (by cases e;rfl))
 exact⟨(oth 0 (by decide)).trans h.c0,World.cell?_setCell_same _ _ _ h.c1,(oth 2 (by decide)).trans h.c2,(oth 3 (by decide)).trans h.c3,(oth 4 (by decide)).trans h.c4,(oth 5 (by decide)).trans h.c5,(oth 6 (by decide)).trans h.c6,fr⟩
theorem Rd.step1 (h:Rd w b s p n k tp x v):Rd (w.setCell ⟨b,1,none⟩ (.int .i64 ((p:Int)+1))) b s (p+1) n k tp x v:=by
 have:=h.set1 (p+1)
 rwa [show ((p+1:Nat):Int)=(p:Int)+1 from by omega] at this
end
section
open Go.RowKit
variable {s:ByteArray} {r:Mil.Bytes} {q:Nat}
theorem zb0 {a b:Bool} (h:a=b):Ending.returned (.bool a)=.returned (.bool b):=by rw[h]
theorem zcl (h:q < s.size):s.data.toList.drop q=s[q]::s.data.toList.drop (q+1):=by
 rw[List.drop_eq_getElem_cons (by simpa using h)];rfl
theorem drop_end (h:s.size<=q):s.data.toList.drop q=[]:=List.drop_eq_nil_of_le (by simpa using h)
theorem isLetter_any (c:UInt8) (w:World):Calls Tryz.prog 140 #[.int .u8 c.toNat] w fun e w'=>e=.returned (.bool (Mil.isL c))/\w'=w:=by
 go_enter Tryz.func140,Tryz.ntmps140
 go_wp2
 all_goals
  go_ret
  refine⟨zb0 ?_,rfl⟩
  unfold Mil.isL
  rw[Bool.eq_iff_iff];simp;omega
theorem zcj (c:UInt8) (w:World):Calls Tryz.prog 142 #[.int .u8 c.toNat] w fun e w'=>e=.returned (.bool (Mil.isD c))/\w'=w:=by
 go_enter Tryz.func142,Tryz.ntmps142
 go_wp2
 all_goals
  go_ret
  refine⟨zb0 ?_,rfl⟩
  unfold Mil.isD
  rw[Bool.eq_iff_iff];simp;omega
theorem zc8 (c:UInt8) (w:World):Calls Tryz.prog 172 #[.int .u8 c.toNat] w fun e w'=>e=.returned (.bool (Mil.isN c))/\w'=w:=by
 go_enter Tryz.func172,Tryz.ntmps172
 go_wp2_with (first|(go_at_call 140;refine (isLetter_any c _).mono ?_;rintro e w' ⟨rfl,rfl⟩)|(go_at_call 142;refine (zcj c _).mono ?_;rintro e w' ⟨rfl,rfl⟩))
 all_goals
  go_ret
  refine⟨zb0 ?_,rfl⟩
  unfold Mil.isN
  rw[Bool.eq_iff_iff];simp[*];try omega
theorem skip_here (h:q < s.size) (hc:s[q].toNat=32\/s[q].toNat=9\/s[q].toNat=10):Mil.skip false (s.data.toList.drop q)=Mil.skip false (s.data.toList.drop (q+1)):=by
 rw[zcl h,Mil.skip,if_pos hc]
theorem skip_hash {c:UInt8} (h:c.toNat=35):Mil.skip true (c::r)=Mil.skip false (c::r):=by
 rw[Mil.skip,Mil.skip,if_neg (by omega),if_neg (by omega),if_pos h]
theorem skip_nl {c:UInt8} (h:c.toNat=10):Mil.skip true (c::r)=Mil.skip false (c::r):=by
 rw[Mil.skip,Mil.skip,if_pos h,if_pos (Or.inr (Or.inr h))]
theorem skip_more {c:UInt8} (h:c.toNat≠10):Mil.skip true (c::r)=Mil.skip true r:=by
 rw[Mil.skip,if_neg h]
theorem skipBlanks_any (b:Nat) (s:ByteArray) (p n:Nat) (k tp:Int) (x:ByteArray) (v:Int) (w:World) (h:Rd w b s p n k tp x v) (hp:p<=s.size) (hs:s.size<=4000) :
  Calls Tryz.prog 104 #[.pointer (some ⟨b,0,none⟩)] w fun e w'=>e=.returned (.tuple #[])/\∃q,p<=q/\q<=s.size/\s.data.toList.drop q=Mil.skip false (s.data.toList.drop p)/\Rd w' b s q n k tp x v/\Kp b w w':=by
 have H:=hid h
 clear h
 go_enter Tryz.func104,Tryz.ntmps104
 go_wp2
 go_step3
 go_wp2
 go_step3
 go_wp2
 go_loopg [] (s.size - p) (fun g wr=>∃q,p<=q/\q<=s.size/\g=s.size - q/\Hid (Mil.skip false (s.data.toList.drop q)=Mil.skip false (s.data.toList.drop p))/\Hid (Rd wr b s q n k tp x v)/\Hid (Kp b w wr))
 case atStart=>exact⟨p,Nat.le_refl _,hp,rfl,rfl,H,Kp.refl _ _⟩
 case round=>
  obtain⟨q,hpq,hq,hg,HS,HR,HK⟩:=hrel
  have HG:=hid hg
  clear hg
  have c0:=HR.out.c0
  have c1:=HR.out.c1
  have f1:=HR.out.fz 1
  by_cases hlt:q < s.size
  ·go_wp2
   go_quiet (fail)
   go_wp2
   go_quiet (fail)
   go_wp2
   ·go_roundg (s.size - (q+1))
    case measure=>have:=HG.out;omega
    case rel=>exact⟨q+1,by omega,by omega,rfl,by rw[<-HS.out,skip_here hlt (by rename_i h1 h2;simp at h1 h2;omega)];rfl,(HR.out.drewN _).step1,(HK.out.drewN _).setCell _ _⟩
   ·go_roundg (s.size - (q+1))
    case measure=>have:=HG.out;omega
    case rel=>exact⟨q+1,by omega,by omega,rfl,by rw[<-HS.out,skip_here hlt (by rename_i h1 h2;simp at h1 h2;omega)];rfl,(HR.out.drewN _).step1,(HK.out.drewN _).setCell _ _⟩
   ·go_roundg (s.size - (q+1))
    case measure=>have:=HG.out;omega
    case rel=>exact⟨q+1,by omega,by omega,rfl,by rw[<-HS.out,skip_here hlt (by rename_i h1 h2;simp at h1 h2;omega)];rfl,(HR.out.drewN _).step1,(HK.out.drewN _).setCell _ _⟩
   ·rename_i h1 h2 h3 h4
    have H35:Hid (s[q].toNat=35):=by simp at h4;show _=_;omega
    clear h1 h2 h3 h4
    go_loopg [] (s.size - q) (fun g wi=>∃j,q<=j/\j<=s.size/\g=s.size - j/\Hid (Mil.skip true (s.data.toList.drop j)=Mil.skip false (s.data.toList.drop p))/\Hid (Rd wi b s j n k tp x v)/\Hid (Kp b w wi))
    case atStart=>exact⟨q,Nat.le_refl _,hq,rfl,by rw[<-HS.out,zcl hlt];exact skip_hash H35.out,HR.out.drewN _,HK.out.drewN _⟩
    case round=>
     obtain⟨j,hqj,hj,hg2,HS2,HR2,HK2⟩:=hrel
     have HG2:=hid hg2
     clear hg2 c0 c1 f1
     have c0:=HR2.out.c0
     have c1:=HR2.out.c1
     have f1:=HR2.out.fz 1
     by_cases hjl:j < s.size
     ·by_cases hnl:s[j].toNat=10
      ·have hb:((s[j].toNat:Int) != 10)=false:=by simp;omega
       have HN:=hid hnl
       clear hnl
       go_wp2
       go_quiet (fail)
       go_wp2
       have hne:j≠q:=fun e=>by subst e;have:=HN.out;have:=H35.out;omega
       go_roundg (s.size - j)
       case measure=>have:=HG.out;omega
       case rel=>exact⟨j,by omega,hj,rfl,by rw[<-HS2.out,zcl hjl];exact (skip_nl HN.out).symm,HR2.out.drewN _,HK2.out.drewN _⟩
      ·have hb:((s[j].toNat:Int) != 10)=true:=by simp;omega
       have HN:=hid hnl
       clear hnl
       go_wp2
       go_quiet (fail)
       go_wp2
       go_roundg (s.size - (j+1))
       case measure=>have:=HG2.out;omega
       case rel=>exact⟨j+1,by omega,by omega,rfl,by rw[<-HS2.out,zcl hjl];exact (skip_more HN.out).symm,(HR2.out.drewN _).step1,(HK2.out.drewN _).setCell _ _⟩
     ·have hd:decide ((j:Int) < (s.size:Int))=false:=by simp;omega
      go_wp2
      go_quiet (fail)
      go_wp2
      go_roundg (s.size - j)
      case measure=>have:=HG.out;omega
      case rel=>exact⟨j,by omega,hj,rfl,by rw[<-HS2.out,drop_end (by omega)];rfl,HR2.out.drewN _,HK2.out.drewN _⟩
   ·rw[Exit.noGoto_normal]
    go_end0
    rename_i h1 h2 h3 h4
    refine⟨rfl,q,hpq,hq,?_,HR.out.drewN _,HK.out.drewN _⟩
    simp at h1 h2 h3 h4
    rw[<-HS.out,zcl hlt,Mil.skip,if_neg (by omega),if_neg (by omega)]
  ·go_wp2
   go_quiet (fail)
   go_wp2
   rw[Exit.noGoto_normal]
   go_end0
   refine⟨rfl,q,hpq,hq,?_,HR.out.drewN nq,HK.out.drewN nq⟩
   rw[<-HS.out,drop_end (by omega)];rfl
end
section
open Go.RowKit
def bs (x:Mil.Bytes):ByteArray:=⟨x.toArray⟩
theorem zcb (x:Mil.Bytes):(bs x).data.toList=x:=rfl
theorem bs_of (s:ByteArray):bs s.data.toList=s:=by cases s;rfl
def strCells (l:List Mil.Bytes):Array Value:=(l.map fun x=>Value.string (bs x)).toArray
abbrev errV (a:Addr):Value:=.iface 303 (.pointer (some a))
def opsTab:List (Mil.Bytes×Int×Int×Int):=
 [(Mil.wOr,1,1,1),(Mil.wXor,1,1,1),(Mil.wAnd,2,1,1),(Mil.sLt,4,0,1),(Mil.sLe,4,0,1),(Mil.sGt,4,0,1),(Mil.sGe,4,0,1),(Mil.sEq,4,2,1),(Mil.sNe,4,2,1),(Mil.sPlus,5,0,0),(Mil.sMinus,5,0,0),(Mil.sTimes,6,0,0),(Mil.sOver,6,0,0),(Mil.sRest,6,0,0)]
def opCells:Array Value:=(opsTab.flatMap fun x=>[Value.string (bs x.1),.int .i64 x.2.1,.int .i64 x.2.2.1,.int .i64 x.2.2.2]).toArray
structure Laid (a:Nat->Addr) (w:World):Prop where
 size:23<=w.heap.size
 long:w.cell? ⟨2,0,none⟩=some (errV (a 1))
 token:w.cell? ⟨4,0,none⟩=some (errV (a 2))
 synt:w.cell? ⟨5,0,none⟩=some (errV (a 3))
 many:w.cell? ⟨6,0,none⟩=some (errV (a 4))
 words:∃t,w.heap[14]?=some (.cells (strCells Mil.words) t (0,0))
 signs:∃t,w.heap[15]?=some (.cells (strCells Mil.signs) t (0,0))
 types:∃t,w.heap[16]?=some (.cells (strCells [Mil.wInt,Mil.wBool]) t (0,0))
 ops:∃t,w.heap[17]?=some (.cells opCells t (0,0))
 rng:w.cell? ⟨19,0,none⟩=some (errV (a 20))
theorem Laid.kept {a:Nat->Addr} {b:Nat} {w w':World} (h:Laid a w) (k:Kp b w w') (hb:23<=b):Laid a w':=by
 have hs:=h.size
 have bl:∀g,g < 23->w'.heap[g]?=w.heap[g]?:=fun g hg=>k.block g (by omega) (by omega)
 refine⟨Nat.le_trans hs k.size,k.held h.long ?_,k.held h.token ?_,k.held h.synt ?_,k.held h.many ?_,?_,?_,?_,?_,k.held h.rng ?_⟩
 ·show 2≠b;omega
 ·show 4≠b;omega
 ·show 5≠b;omega
 ·show 6≠b;omega
 ·obtain⟨t,ht⟩:=h.words;exact⟨t,(bl _ (by omega)).trans ht⟩
 ·obtain⟨t,ht⟩:=h.signs;exact⟨t,(bl _ (by omega)).trans ht⟩
 ·obtain⟨t,ht⟩:=h.types;exact⟨t,(bl _ (by omega)).trans ht⟩
 ·obtain⟨t,ht⟩:=h.ops;exact⟨t,(bl _ (by omega)).trans ht⟩
 ·show 19≠b;omega
def Thrown (a:Nat->Addr) (k:Nat) (at_:Int) (e:Ending) (w':World):Prop:=
 ∃d,e=.panicked [{ v:=.iface 78 (.pointer (some ⟨d,0,none⟩)),recovered:=false }]/\w'.heap[d]?=some (.cells #[.int .i64 at_,errV (a k)] 90 (0,0))
end
section
namespace Mil
def Imp {α:Type} (a b:Option α):Prop:=∀x,a=some x->b=some x
theorem Imp.refl {α:Type} (a:Option α):Imp a a:=fun _ h=>h
theorem Imp.bind {α β:Type} {a a':Option α} {k k':α->Option β} (ha:Imp a a') (hk:∀x,Imp (k x) (k' x)):Imp (a.bind k) (a'.bind k'):=by
 intro y h
 obtain⟨x,hx,hy⟩:=obs h
 exact Option.bind_eq_some_iff.2 ⟨x,ha x hx,hk x y hy⟩
theorem Imp.map {α β:Type} {a a':Option α} {k:α->β} (ha:Imp a a'):Imp (a.map k) (a'.map k):=by
 intro y h
 obtain⟨x,hx,hy⟩:=oms h
 exact Option.map_eq_some_iff.2 ⟨x,ha x hx,hy⟩
theorem Imp.ite {α:Type} {c:Prop} [Decidable c] {a a' b b':Option α} (h1:Imp a a') (h2:Imp b b'):Imp (if c then a else b) (if c then a' else b'):=by
 by_cases h:c
 ·rw[if_pos h,if_pos h];exact h1
 ·rw[if_neg h,if_neg h];exact h2
theorem step_le {f g:Nat->E->St->Option (E×St)} (h:∀t e s,Imp (f t e s) (g t e s)) (t:Nat) (e:E) (s:St):Imp (step f t e s) (step g t e s):=by
 unfold step atom
 repeat' first|exact h _ _ _|exact Imp.refl _|refine Imp.ite ?_ ?_|refine Imp.bind ?_ (fun _=>?_)|refine Imp.map ?_
theorem px_succ (n:Nat) (t:Nat) (e:E) (s:St):px (n+1) t e s=step (px n) t e s:=rfl
theorem px_next:∀(n:Nat) (t:Nat) (e:E) (s:St),Imp (px n t e s) (px (n+1) t e s)
 | 0,_,_,_=>fun _ h=>by cases h
 | n+1,t,e,s=>by
  rw[px_succ,px_succ (n+1)]
  exact step_le (px_next n) t e s
theorem px_le {n m:Nat} (h:n<=m) {t:Nat} {e:E} {s:St} {x:E×St} (hx:px n t e s=some x):px m t e s=some x:=by
 induction h with
 | refl=>exact hx
 | step _ ih=>exact px_next _ _ _ _ _ ih
end Mil
end
section
namespace Mil
open Go.Deep
def brackT (t l:Nat) (x:List Tok):List Tok:=if t < l then fix sOpen::(x++[fix sShut]) else x
def preLvl (x:Bytes):Nat:=if x=wNot then 3 else 7
def toks:E->List Tok
 | .nil=>[]
 | .node 1 k _ _ _=>[num k]
 | .node 2 k _ _ _=>[fix (if k=1 then wTrue else wFalse)]
 | .node 3 _ x _ _=>[nam x]
 | .node 4 _ x a _=>fix x::brackT (tight a) (preLvl x) (toks a)
 | .node 5 _ x a b=>brackT (tight a) (leftOf (tightOf x)) (toks a)++fix x::brackT (tight b) (tightOf x+1) (toks b)
 | .node 6 _ _ a b=>fix wIf::(toks a++toks b)
 | .node 0 _ _ a b=>fix wThen::(toks a++fix wElse::toks b)
 | .node 7 _ _ a b=>fix wFby::fix sOpen::(toks a++fix sComma::(toks b++[fix sShut]))
 | .node 8 k _ a _=>fix wUnder::fix sOpen::(toks a++[fix sComma,num k,fix sShut])
 | .node 9 k _ a b=>fix wHold::fix sOpen::(toks a++fix sComma::(toks b++[fix sComma,num k,fix sShut]))
 | .node _ _ x a b=>fix x::fix sOpen::(toks a++fix sComma::(toks b++[fix sShut]))
def NameOk (x:Bytes):Prop:=(∃c r,x=c::r/\isL c=true)/\(∀c,c∈x->isN c=true)/\x.length<=12/\words.contains x=false
def isConst (e:E):Prop:=(∃k:Nat,(k:Int)<=maxInt/\e=eInt k)\/(∃k,(k=0\/k=1)/\e=eBool k)\/(∃k:Nat,(k:Int)<=maxInt/\e=ePre sMinus (eInt k))
def wf:E->Bool->Prop
 | .nil,_=>False
 | .node t o x a b,true=>t=0/\o=0/\x=[]/\wf a false/\wf b false
 | .node t o x a b,false=>
  (t=1/\x=[]/\(o:Int)<=maxInt/\a=.nil/\b=.nil)\/(t=2/\x=[]/\(o=0\/o=1)/\a=.nil/\b=.nil)\/(t=3/\o=0/\NameOk x/\a=.nil/\b=.nil) \/
  (t=4/\o=0/\(x=wNot\/x=sMinus)/\wf a false/\b=.nil)\/(t=5/\o=0/\tightOf x≠9/\wf a false/\wf b false)\/(t=6/\o=0/\x=[]/\wf a false/\wf b true) \/
  (t=7/\o=0/\x=[]/\isConst a/\wf b false)\/(t=8/\x=[]/\2<=o/\o<=1000/\wf a false/\b=.nil)\/(t=9/\x=[]/\2<=o/\o<=1000/\isConst a/\wf b false) \/
  (t=10/\o=0/\(x=wMin\/x=wMax)/\wf a false/\wf b false)
theorem wf_induct {P:E->Prop}
  (hInt:∀k:Nat,(k:Int)<=maxInt->P (eInt k)) (hBool:∀k,k=0\/k=1->P (eBool k)) (hName:∀x,NameOk x->P (eName x))
  (hPre:∀x a,x=wNot\/x=sMinus->wf a false->P a->P (ePre x a)) (hTwo:∀x a b,tightOf x≠9->wf a false->wf b false->P a->P b->P (eTwo x a b))
  (hIf:∀a b c,wf a false->wf b false->wf c false->P a->P b->P c->P (eIf a b c)) (hFby:∀a b,isConst a->wf b false->P b->P (eFby a b))
  (hUnder:∀a k,2<=k->k<=1000->wf a false->P a->P (eUnder a k)) (hHold:∀a b k,2<=k->k<=1000->isConst a->wf b false->P b->P (eHold a b k))
  (hLeast:∀x a b,x=wMin\/x=wMax->wf a false->wf b false->P a->P b->P (eLeast x a b)) :
  ∀e:E,wf e false->P e:=by
 have main:∀e:E,(wf e false->P e)/\(wf e true->∃b c,e=.node 0 0 [] b c/\wf b false/\wf c false/\P b/\P c):=by
  intro e
  induction e with
  | nil=>exact⟨fun h=>h.elim,fun h=>h.elim⟩
  | node t o x a b iha ihb=>
   refine⟨fun h=>?_,fun h=>?_⟩
   ·rcases h with ⟨rfl,rfl,h,rfl,rfl⟩|⟨rfl,rfl,h,rfl,rfl⟩|⟨rfl,rfl,h,rfl,rfl⟩|⟨rfl,rfl,h,ha,rfl⟩|⟨rfl,rfl,h,ha,hb⟩|⟨rfl,rfl,rfl,ha,hb⟩|⟨rfl,rfl,rfl,ha,hb⟩|⟨rfl,rfl,h,k,ha,rfl⟩|⟨rfl,rfl,h,k,ha,hb⟩|⟨rfl,rfl,h,ha,hb⟩
    ·exact hInt o h
    ·exact hBool o h
    ·exact hName x h
    ·exact hPre x a h ha (iha.1 ha)
    ·exact hTwo x a b h ha hb (iha.1 ha) (ihb.1 hb)
    ·obtain⟨c,d,rfl,hc,hd,pc,pd⟩:=ihb.2 hb
     exact hIf a c d ha hc hd (iha.1 ha) pc pd
    ·exact hFby a b ha hb (ihb.1 hb)
    ·exact hUnder a o h k ha (iha.1 ha)
    ·exact hHold a b o h k ha hb (ihb.1 hb)
    ·exact hLeast x a b h ha hb (iha.1 ha) (ihb.1 hb)
   ·obtain⟨rfl,rfl,rfl,ha,hb⟩:=h
    exact⟨a,b,rfl,ha,hb,iha.1 ha,ihb.1 hb⟩
 exact fun e h=>(main e).1 h
theorem wf_const {c:E} (h:isConst c):wf c false:=by
 rcases h with ⟨k,hk,rfl⟩|⟨k,hk,rfl⟩|⟨k,hk,rfl⟩
 ·exact Or.inl ⟨rfl,rfl,hk,rfl,rfl⟩
 ·exact Or.inr (Or.inl ⟨rfl,rfl,hk,rfl,rfl⟩)
 ·exact Or.inr (Or.inr (Or.inr (Or.inl ⟨rfl,rfl,Or.inr rfl,Or.inl ⟨rfl,rfl,hk,rfl,rfl⟩,rfl⟩)))
theorem tight_two (x:Bytes) (a b:E):tight (eTwo x a b)=tightOf x:=rfl
theorem tight_pre (x:Bytes) (a:E):tight (ePre x a)=preLvl x:=rfl
end Mil
end
section
namespace Mil
open Go.Deep
end Mil
end
section
namespace Mil
open Go.Deep
def StOk (s:St):Prop:=(s.tok.kind=1->NameOk s.tok.txt)/\(s.tok.kind≠0->1<=s.cnt)/\s.cnt<=600
def used (s:St):Nat:=if s.tok.kind=0 then s.cnt else s.cnt - 1
theorem mem_while {p:UInt8->Bool}:∀(l:Bytes) (d:UInt8),d∈l.takeWhile p->p d=true
 | [],_,h=>by cases h
 | c::r,d,h=>by
  rw[List.takeWhile_cons] at h
  by_cases hc:p c=true
  ·rw[if_pos hc] at h
   rcases List.mem_cons.1 h with rfl|h'
   ·exact hc
   ·exact mem_while r d h'
  ·rw[if_neg hc] at h;cases h
theorem cutName_ok {c:UInt8} {r:Bytes} (hc:isL c=true) {t:Tok} {b:Bytes} (h:cutName (c::r)=some (t,b)):t.kind=1->NameOk t.txt:=by
 unfold cutName at h
 by_cases h12:12 < ((c::r).takeWhile isN).length
 ·rw[if_pos h12] at h;cases h
 ·rw[if_neg h12] at h
  have h':=osi h
  have ht:t=if words.contains ((c::r).takeWhile isN) then fix ((c::r).takeWhile isN) else nam ((c::r).takeWhile isN):=(congrArg Prod.fst h').symm
  by_cases hw:words.contains ((c::r).takeWhile isN)=true
  ·rw[if_pos hw] at ht;rw[ht];intro h1;exact absurd (show (3:Nat)=1 from h1) (by decide)
  ·rw[if_neg hw] at ht;rw[ht];intro _
   refine⟨⟨c,r.takeWhile isN,?_,hc⟩,?_,by show ((c::r).takeWhile isN).length<=12;omega,by show words.contains ((c::r).takeWhile isN)=false;exact Bool.eq_false_iff.2 hw⟩
   ·show (c::r).takeWhile isN=_
    rw[List.takeWhile_cons,if_pos (by simp[isN,hc])]
   ·intro d hd
    exact mem_while _ d hd
theorem cut_ok {b:Bytes} {t:Tok} {r:Bytes} (h:cut b=some (t,r)):t.kind=1->NameOk t.txt:=by
 cases b with
 | nil=>
  have h':=osi h
  have ht:t=⟨0,[],0⟩:=(congrArg Prod.fst h').symm
  rw[ht];intro h1;exact absurd h1 (by decide)
 | cons c q=>
  have h':(if isL c=true then cutName (c::q) else if isD c=true then cutNum (c::q) else cutSign (c::q))=some (t,r):=h
  by_cases hl:isL c=true
  ·rw[if_pos hl] at h';exact cutName_ok hl h'
  ·rw[if_neg hl] at h'
   by_cases hd:isD c=true
   ·rw[if_pos hd] at h'
    unfold cutNum at h'
    split at h'
    ·split at h'
     ·cases h'
     ·obtain⟨rfl,rfl⟩:=Prod.mk.inj (osi h')
      intro h1;exact absurd (show (2:Nat)=1 from h1) (by decide)
    ·cases h'
   ·rw[if_neg hd] at h'
    unfold cutSign at h'
    split at h'
    ·obtain⟨rfl,rfl⟩:=Prod.mk.inj (osi h')
     intro h1;exact absurd (show (3:Nat)=1 from h1) (by decide)
    ·cases h'
theorem adv'_ok {b:Bytes} {n:Nat} (hn:n<=600) {s:St} (h:adv' b n=some s):StOk s/\used s=n:=by
 unfold adv' at h
 split at h
 ·cases h
 ·rename_i t r hc
  have hk:=cut_ok hc
  by_cases h0:t.kind=0
  ·rw[if_pos h0] at h
   obtain rfl:=(osi h).symm
   exact⟨⟨fun h1=>hk h1,fun h1=>absurd h0 h1,hn⟩,by unfold used;rw[if_pos h0]⟩
  ·rw[if_neg h0] at h
   by_cases h6:600 < n+1
   ·rw[if_pos h6] at h;cases h
   ·rw[if_neg h6] at h
    obtain rfl:=(osi h).symm
    exact⟨⟨fun h1=>hk h1,fun _=>by show 1<=n+1;omega,by show n+1<=600;omega⟩,by unfold used;rw[if_neg h0];rfl⟩
def Fwd (s s1:St):Prop:=StOk s1/\used s1=used s+1
theorem zbo {s s1:St} (h:adv s=some s1) (hs:StOk s) (hk:s.tok.kind≠0):Fwd s s1:=by
 obtain⟨h1,h2⟩:=adv'_ok hs.2.2 h
 refine⟨h1,?_⟩
 rw[h2];unfold used;rw[if_neg hk]
 have:=hs.2.1 hk
 omega
theorem zap {s:St} {x:Bytes} (h:sees s x=true):s.tok.kind≠0/\s.tok.txt=x:=by
 unfold sees at h
 simp only[Bool.and_eq_true,beq_iff_eq] at h
 exact⟨by omega,h.2⟩
theorem za1 {s s1:St} {x:Bytes} (h:want s x=some s1) (hs:StOk s):Fwd s s1:=by
 unfold want at h
 by_cases hx:sees s x=true
 ·rw[if_pos hx] at h;exact zbo h hs (zap hx).1
 ·rw[if_neg hx] at h;cases h
theorem name_ok {s:St} {x:Bytes×St} (h:name s=some x) (hs:StOk s):NameOk x.1/\Fwd s x.2:=by
 unfold name at h
 by_cases hk:s.tok.kind=1
 ·rw[if_pos hk] at h
  obtain⟨s1,h1,rfl⟩:=oms h
  exact⟨hs.1 hk,zbo h1 hs (by omega)⟩
 ·rw[if_neg hk] at h;cases h
theorem zcx {s:St} {lo hi:Int} (h0:0<=lo) {x:Nat×St} (h:number lo hi s=some x) (hs:StOk s):lo<=(x.1:Int)/\(x.1:Int)<=hi/\Fwd s x.2:=by
 unfold number at h
 by_cases hk:s.tok.kind=2/\lo<=s.tok.val/\s.tok.val<=hi
 ·rw[if_pos hk] at h
  obtain⟨s1,h1,rfl⟩:=oms h
  obtain⟨k1,k2,k3⟩:=hk
  exact⟨by show lo<=(s.tok.val.toNat:Int);omega,by show (s.tok.val.toNat:Int)<=hi;omega,zbo h1 hs (by omega)⟩
 ·rw[if_neg hk] at h;cases h
theorem ftype_ok {s:St} {x:Nat×St} (h:ftype s=some x) (hs:StOk s):(x.1=0\/x.1=1)/\Fwd s x.2:=by
 unfold ftype at h
 by_cases h1:sees s wInt=true
 ·rw[if_pos h1] at h
  obtain⟨s1,e1,rfl⟩:=oms h
  exact⟨Or.inl rfl,zbo e1 hs (zap h1).1⟩
 ·rw[if_neg h1] at h
  by_cases h2:sees s wBool=true
  ·rw[if_pos h2] at h
   obtain⟨s1,e1,rfl⟩:=oms h
   exact⟨Or.inr rfl,zbo e1 hs (zap h2).1⟩
  ·rw[if_neg h2] at h;cases h
def len (e:E) (l:Nat):Nat:=(brackT (tight e) l (toks e)).length
theorem za2 {e:E} {l:Nat} (h:l<=tight e):len e l=(toks e).length:=by unfold len brackT;rw[if_neg (by omega)]
theorem zd8 {e:E} {l:Nat} (h:tight e < l):len e l=(toks e).length+2:=by unfold len brackT;rw[if_pos h];simp
theorem len_mono (e:E) {l k:Nat} (h:l<=k):len e l<=len e k:=by
 by_cases h1:tight e < l
 ·rw[zd8 h1,zd8 (by omega)];exact Nat.le_refl _
 ·rw[za2 (by omega)]
  by_cases h2:tight e < k
  ·rw[zd8 h2];omega
  ·rw[za2 (by omega)];exact Nat.le_refl _
theorem len_le (e:E) (l:Nat):(toks e).length<=len e l:=by
 by_cases h1:tight e < l
 ·rw[zd8 h1];omega
 ·rw[za2 (by omega)];exact Nat.le_refl _
theorem literal_ok {s:St} {x:E×St} (h:literal s=some x) (hs:StOk s):isConst x.1/\len x.1 8=1/\Fwd s x.2:=by
 unfold literal at h
 by_cases h1:sees s wTrue=true
 ·rw[if_pos h1] at h
  obtain⟨s1,e1,rfl⟩:=oms h
  exact⟨Or.inr (Or.inl ⟨1,Or.inr rfl,rfl⟩),rfl,zbo e1 hs (zap h1).1⟩
 ·rw[if_neg h1] at h
  by_cases h2:sees s wFalse=true
  ·rw[if_pos h2] at h
   obtain⟨s1,e1,rfl⟩:=oms h
   exact⟨Or.inr (Or.inl ⟨0,Or.inl rfl,rfl⟩),rfl,zbo e1 hs (zap h2).1⟩
  ·rw[if_neg h2] at h
   obtain⟨y,e1,rfl⟩:=oms h
   obtain⟨_,k2,k3⟩:=zcx (by omega) e1 hs
   exact⟨Or.inl ⟨y.1,k2,rfl⟩,rfl,k3⟩
theorem constant_ok {s:St} {x:E×St} (h:constant s=some x) (hs:StOk s):isConst x.1/\StOk x.2/\used s+(toks x.1).length<=used x.2:=by
 unfold constant at h
 by_cases h1:sees s sMinus=true
 ·rw[if_pos h1] at h
  obtain⟨s1,e1,h2⟩:=obs h
  obtain⟨y,e2,rfl⟩:=oms h2
  have f1:=zbo e1 hs (zap h1).1
  obtain⟨_,k2,k3⟩:=zcx (by omega) e2 f1.1
  refine⟨Or.inr (Or.inr ⟨y.1,k2,rfl⟩),k3.1,?_⟩
  have hl:(toks (ePre sMinus (eInt y.1))).length=2:=rfl
  show used s+(toks (ePre sMinus (eInt y.1))).length<=used y.2
  rw[hl,k3.2,f1.2];omega
 ·rw[if_neg h1] at h
  obtain⟨k1,k2,k3⟩:=literal_ok h hs
  refine⟨k1,k3.1,?_⟩
  have:=len_le x.1 8
  rw[k3.2];omega
end Mil
end
end Go.Proofs.YtjehljjlcifndaaGreatDoor
