/-
  Spec, Rules, Toks, Back, Count, Lex, Inv, Atom, Read, Items, Itr, Za, Mu, Pla, in one.
-/
import Derived.Deep.Trees
import Derived.Lib.ItoaNum
import Derived.Lib.ParseIntB
import Derived.Lib.ParseIntBTie
namespace Go.Proofs.YtibbjohkiigffaaGreatDoor
namespace Mil

abbrev Bytes := List UInt8

def wInput : Bytes := [105, 110, 112, 117, 116]
def wOutput : Bytes := [111, 117, 116, 112, 117, 116]
def wEvery : Bytes := [101, 118, 101, 114, 121]
def wInt : Bytes := [105, 110, 116]
def wBool : Bytes := [98, 111, 111, 108]
def wIf : Bytes := [105, 102]
def wThen : Bytes := [116, 104, 101, 110]
def wElse : Bytes := [101, 108, 115, 101]
def wOr : Bytes := [111, 114]
def wXor : Bytes := [120, 111, 114]
def wAnd : Bytes := [97, 110, 100]
def wNot : Bytes := [110, 111, 116]
def wTrue : Bytes := [116, 114, 117, 101]
def wFalse : Bytes := [102, 97, 108, 115, 101]
def wFby : Bytes := [102, 98, 121]
def wUnder : Bytes := [117, 110, 100, 101, 114]
def wHold : Bytes := [104, 111, 108, 100]
def wMin : Bytes := [109, 105, 110]
def wMax : Bytes := [109, 97, 120]
def sLe : Bytes := [60, 61]
def sGe : Bytes := [62, 61]
def sEq : Bytes := [61, 61]
def sNe : Bytes := [33, 61]
def sColon : Bytes := [58]
def sSemi : Bytes := [59]
def sIs : Bytes := [61]
def sOpen : Bytes := [40]
def sShut : Bytes := [41]
def sComma : Bytes := [44]
def sPlus : Bytes := [43]
def sMinus : Bytes := [45]
def sTimes : Bytes := [42]
def sOver : Bytes := [47]
def sRest : Bytes := [37]
def sLt : Bytes := [60]
def sGt : Bytes := [62]

def words : List Bytes := [wInput, wOutput, wEvery, wInt, wBool, wIf, wThen, wElse, wOr, wXor, wAnd, wNot, wTrue, wFalse, wFby, wUnder, wHold, wMin, wMax]
def signs : List Bytes := [sLe, sGe, sEq, sNe, sColon, sSemi, sIs, sOpen, sShut, sComma, sPlus, sMinus, sTimes, sOver, sRest, sLt, sGt]

def isL (c : UInt8) : Bool := decide (97 ≤ c.toNat) && decide (c.toNat ≤ 122)
def isD (c : UInt8) : Bool := decide (48 ≤ c.toNat) && decide (c.toNat ≤ 57)
def isN (c : UInt8) : Bool := isL c || isD c || decide (c.toNat = 95)

/-- A token: 0 the end, 1 a name, 2 a number, 3 a word or sign. -/
structure Tok where
  kind : Nat
  txt : Bytes
  val : Int

def fix (x : Bytes) : Tok := ⟨3, x, 0⟩
def nam (x : Bytes) : Tok := ⟨1, x, 0⟩
def num (k : Nat) : Tok := ⟨2, Lib.decDigits k, k⟩

/-- Blanks; the Bool: within a remark. -/
def skip : Bool → Bytes → Bytes
  | _, [] => []
  | true, c :: r => if c.toNat = 10 then skip false r else skip true r
  | false, c :: r => if c.toNat = 32 ∨ c.toNat = 9 ∨ c.toNat = 10 then skip false r else if c.toNat = 35 then skip true r else c :: r

def cutName (b : Bytes) : Option (Tok × Bytes) :=
  if 12 < (b.takeWhile isN).length then none else some (if words.contains (b.takeWhile isN) then fix (b.takeWhile isN) else nam (b.takeWhile isN), b.dropWhile isN)

def cutNum (b : Bytes) : Option (Tok × Bytes) :=
  match Lib.parseIntB 64 (b.takeWhile isD) with
  | .ok v => if b.head?.map (·.toNat) = some 48 ∧ 1 < (b.takeWhile isD).length then none else some (⟨2, b.takeWhile isD, v⟩, b.dropWhile isD)
  | _ => none

def cutSign (b : Bytes) : Option (Tok × Bytes) :=
  match signs.find? (fun x => x.isPrefixOf b) with
  | some x => some (fix x, b.drop x.length)
  | none => none

/-- The token with which a text begins. -/
def cut (b : Bytes) : Option (Tok × Bytes) :=
  match b with
  | [] => some (⟨0, [], 0⟩, [])
  | c :: _ => if isL c then cutName b else if isD c then cutNum b else cutSign b

/-- What the reader stands at: a token, what is behind it, how many tokens were cut. -/
structure St where
  tok : Tok
  rest : Bytes
  cnt : Nat

def adv' (b : Bytes) (n : Nat) : Option St :=
  match cut (skip false b) with
  | none => none
  | some (t, r) => if t.kind = 0 then some ⟨t, r, n⟩ else if 600 < n + 1 then none else some ⟨t, r, n + 1⟩
def adv (s : St) : Option St := adv' s.rest s.cnt

def sees (s : St) (x : Bytes) : Bool := s.tok.kind == 3 && s.tok.txt == x
def want (s : St) (x : Bytes) : Option St := if sees s x then adv s else none
def name (s : St) : Option (Bytes × St) := if s.tok.kind = 1 then (adv s).map fun s1 => (s.tok.txt, s1) else none
def number (lo hi : Int) (s : St) : Option (Nat × St) := if s.tok.kind = 2 ∧ lo ≤ s.tok.val ∧ s.tok.val ≤ hi then (adv s).map fun s1 => (s.tok.val.toNat, s1) else none
def ftype (s : St) : Option (Nat × St) := if sees s wInt then (adv s).map fun s1 => (0, s1) else if sees s wBool then (adv s).map fun s1 => (1, s1) else none

/-- Expressions: 1 a number, 2 a bool, 3 a name, 4 a sign ahead, 5 two sides, 6 if (its second side a pair, 0), 7 fby, 8 under, 9 hold, 10 min and max. -/
abbrev E := Go.Deep.BT Bytes
def eNil : E := .nil
def eInt (k : Nat) : E := .node 1 k [] .nil .nil
def eBool (k : Nat) : E := .node 2 k [] .nil .nil
def eName (x : Bytes) : E := .node 3 0 x .nil .nil
def ePre (x : Bytes) (a : E) : E := .node 4 0 x a .nil
def eTwo (x : Bytes) (a b : E) : E := .node 5 0 x a b
def eIf (a b c : E) : E := .node 6 0 [] a (.node 0 0 [] b c)
def eFby (a b : E) : E := .node 7 0 [] a b
def eUnder (a : E) (k : Nat) : E := .node 8 k [] a .nil
def eHold (a b : E) (k : Nat) : E := .node 9 k [] a b
def eLeast (x : Bytes) (a b : E) : E := .node 10 0 x a b

/-- How tightly an operator of two sides binds; 9: it is none. -/
def tightOf (x : Bytes) : Nat :=
  if x = wOr ∨ x = wXor then 1 else if x = wAnd then 2 else if x = sLt ∨ x = sLe ∨ x = sGt ∨ x = sGe ∨ x = sEq ∨ x = sNe then 4
  else if x = sPlus ∨ x = sMinus then 5 else if x = sTimes ∨ x = sOver ∨ x = sRest then 6 else 9
def opAt (s : St) : Nat := if s.tok.kind = 3 then tightOf s.tok.txt else 9

def maxInt : Int := 9223372036854775807
def literal (s : St) : Option (E × St) :=
  if sees s wTrue then (adv s).map fun s1 => (eBool 1, s1) else if sees s wFalse then (adv s).map fun s1 => (eBool 0, s1)
  else (number 0 maxInt s).map fun x => (eInt x.1, x.2)
def constant (s : St) : Option (E × St) :=
  if sees s sMinus then (adv s).bind fun s1 => (number 0 maxInt s1).map fun x => (ePre sMinus (eInt x.1), x.2) else literal s

/-- An atom, by what reads an expression. -/
def atom (f : Nat → E → St → Option (E × St)) (s : St) : Option (E × St) :=
  if s.tok.kind = 1 then (name s).map fun x => (eName x.1, x.2)
  else if sees s sOpen then (adv s).bind fun s1 => (f 0 eNil s1).bind fun x => (want x.2 sShut).map fun s3 => (x.1, s3)
  else if sees s wFby then (adv s).bind fun s1 => (want s1 sOpen).bind fun s2 => (constant s2).bind fun c => (want c.2 sComma).bind fun s4 => (f 0 eNil s4).bind fun x => (want x.2 sShut).map fun s6 => (eFby c.1 x.1, s6)
  else if sees s wUnder then (adv s).bind fun s1 => (want s1 sOpen).bind fun s2 => (f 0 eNil s2).bind fun x => (want x.2 sComma).bind fun s4 => (number 2 1000 s4).bind fun k => (want k.2 sShut).map fun s6 => (eUnder x.1 k.1, s6)
  else if sees s wHold then (adv s).bind fun s1 => (want s1 sOpen).bind fun s2 => (constant s2).bind fun c => (want c.2 sComma).bind fun s4 => (f 0 eNil s4).bind fun x => (want x.2 sComma).bind fun s6 => (number 2 1000 s6).bind fun k => (want k.2 sShut).map fun s8 => (eHold c.1 x.1 k.1, s8)
  else if sees s wMin || sees s wMax then (adv s).bind fun s1 => (want s1 sOpen).bind fun s2 => (f 0 eNil s2).bind fun a => (want a.2 sComma).bind fun s4 => (f 0 eNil s4).bind fun b => (want b.2 sShut).map fun s6 => (eLeast s.tok.txt a.1 b.1, s6)
  else literal s

/-- One step of reading an expression: tag 0: an expr; 1 to 7: what binds at least that tightly; 8: an atom; 10 + l: the operators of level l behind a left side. -/
def step (f : Nat → E → St → Option (E × St)) (tag : Nat) (left : E) (s : St) : Option (E × St) :=
  if tag = 0 then
    if sees s wIf then (adv s).bind fun s1 => (f 0 eNil s1).bind fun a => (want a.2 wThen).bind fun s3 => (f 0 eNil s3).bind fun b => (want b.2 wElse).bind fun s5 => (f 0 eNil s5).map fun c => (eIf a.1 b.1 c.1, c.2)
    else f 1 eNil s
  else if tag = 8 then atom f s
  else if tag < 8 then
    if (tag = 3 ∧ sees s wNot = true) ∨ (tag = 7 ∧ sees s sMinus = true) then (adv s).bind fun s1 => (f tag eNil s1).map fun a => (ePre s.tok.txt a.1, a.2)
    else (f (tag + 1) eNil s).bind fun a => f (10 + tag) a.1 a.2
  else if opAt s = tag - 10 then (adv s).bind fun s1 => (f (tag - 10 + 1) eNil s1).bind fun b => if tag = 14 then some (eTwo s.tok.txt left b.1, b.2) else f tag (eTwo s.tok.txt left b.1) b.2
  else some (left, s)

def px : Nat → Nat → E → St → Option (E × St)
  | 0, _, _, _ => none
  | n + 1, t, e, s => step (px n) t e s

/-- Reading comes to that, by whatever fuel. -/
def Ok (t : Nat) (e : E) (s : St) (x : E × St) : Prop := ∃ n, px n t e s = some x

/-- Items: 1 an input, 2 an output, 3 an equation. -/
structure It where
  kind : Nat
  nm : Bytes
  ty : Nat
  every : Nat
  names : List Bytes
  body : E

def pnames : Nat → List Bytes → St → Option (List Bytes × St)
  | 0, _, _ => none
  | n + 1, acc, s => if sees s sComma then (adv s).bind fun s1 => (name s1).bind fun x => pnames n (acc ++ [x.1]) x.2 else some (acc, s)

def pitem (n : Nat) (s : St) : Option (It × St) :=
  if sees s wInput then (adv s).bind fun s1 => (name s1).bind fun x => (want x.2 sColon).bind fun s3 => (ftype s3).bind fun t => (want t.2 wEvery).bind fun s5 => (number 1 1000000 s5).bind fun k => (want k.2 sSemi).map fun s7 => (⟨1, x.1, t.1, k.1, [], eNil⟩, s7)
  else if sees s wOutput then (adv s).bind fun s1 => (name s1).bind fun x => (pnames n [x.1] x.2).bind fun l => (want l.2 sSemi).map fun s4 => (⟨2, [], 0, 0, l.1, eNil⟩, s4)
  else (name s).bind fun x => (want x.2 sColon).bind fun s2 => (ftype s2).bind fun t => (want t.2 sIs).bind fun s4 => (px n 0 eNil s4).bind fun e => (want e.2 sSemi).map fun s6 => (⟨3, x.1, t.1, 0, [], e.1⟩, s6)

def pprog : Nat → List It → St → Option (List It)
  | 0, _, _ => none
  | n + 1, acc, s => if s.tok.kind = 0 then some acc else if acc.length = 60 then none else (pitem n s).bind fun x => pprog n (acc ++ [x.1]) x.2

def parse (n : Nat) (b : Bytes) : Option (List It) := if 4000 < b.length then none else (adv' b 0).bind fun s => pprog n [] s
def Parsed (b : Bytes) (l : List It) : Prop := ∃ n, parse n b = some l

/-- How tightly an expression binds. -/
def tight : E → Nat
  | .node 4 _ x _ _ => if x = wNot then 3 else 7
  | .node 5 _ x _ _ => tightOf x
  | .node 6 _ _ _ _ => 0
  | _ => 8

def brack (t : Nat) (l : Nat) (x : Bytes) : Bytes := if t < l then sOpen ++ x ++ sShut else x
def leftOf (t : Nat) : Nat := if t = 4 then 5 else t
def blank : Bytes := [32]
def commaB : Bytes := [44, 32]

/-- The text of an expression. -/
def txt : E → Bytes
  | .nil => []
  | .node 1 k _ _ _ => Lib.decDigits k
  | .node 2 k _ _ _ => if k = 1 then wTrue else wFalse
  | .node 3 _ x _ _ => x
  | .node 4 _ x a _ => if x = wNot then wNot ++ blank ++ brack (tight a) 3 (txt a) else x ++ brack (tight a) 7 (txt a)
  | .node 5 _ x a b => brack (tight a) (leftOf (tightOf x)) (txt a) ++ blank ++ x ++ blank ++ brack (tight b) (tightOf x + 1) (txt b)
  | .node 6 _ _ a b => wIf ++ blank ++ txt a ++ blank ++ txt b
  | .node 0 _ _ a b => wThen ++ blank ++ txt a ++ blank ++ wElse ++ blank ++ txt b
  | .node 7 _ _ a b => wFby ++ sOpen ++ txt a ++ commaB ++ txt b ++ sShut
  | .node 8 k _ a _ => wUnder ++ sOpen ++ txt a ++ commaB ++ Lib.decDigits k ++ sShut
  | .node 9 k _ a b => wHold ++ sOpen ++ txt a ++ commaB ++ txt b ++ commaB ++ Lib.decDigits k ++ sShut
  | .node _ _ x a b => x ++ sOpen ++ txt a ++ commaB ++ txt b ++ sShut

def tyText (t : Nat) : Bytes := if t = 0 then wInt else wBool
def colonB : Bytes := [32, 58, 32]
def isB : Bytes := [32, 61, 32]
def endB : Bytes := [59, 10]
def namesText : List Bytes → Bytes
  | [] => []
  | [x] => x
  | x :: r => x ++ commaB ++ namesText r

/-- The text of an item, its line's end with it. -/
def itemText (i : It) : Bytes :=
  if i.kind = 1 then wInput ++ blank ++ i.nm ++ colonB ++ tyText i.ty ++ blank ++ wEvery ++ blank ++ Lib.decDigits i.every ++ endB
  else if i.kind = 2 then wOutput ++ blank ++ namesText i.names ++ endB
  else i.nm ++ colonB ++ tyText i.ty ++ isB ++ txt i.body ++ endB
def print (l : List It) : Bytes := (l.map itemText).flatten

end Mil
end Go.Proofs.YtibbjohkiigffaaGreatDoor
namespace Go.Proofs.YtibbjohkiigffaaGreatDoor
namespace Mil

def Imp {α : Type} (a b : Option α) : Prop := ∀ x, a = some x → b = some x
theorem Imp.refl {α : Type} (a : Option α) : Imp a a := fun _ h => h
theorem Imp.bind {α β : Type} {a a' : Option α} {k k' : α → Option β} (ha : Imp a a') (hk : ∀ x, Imp (k x) (k' x)) : Imp (a.bind k) (a'.bind k') := by
  intro y h
  obtain ⟨x, hx, hy⟩ := Option.bind_eq_some_iff.1 h
  exact Option.bind_eq_some_iff.2 ⟨x, ha x hx, hk x y hy⟩
theorem Imp.map {α β : Type} {a a' : Option α} {k : α → β} (ha : Imp a a') : Imp (a.map k) (a'.map k) := by
  intro y h
  obtain ⟨x, hx, hy⟩ := Option.map_eq_some_iff.1 h
  exact Option.map_eq_some_iff.2 ⟨x, ha x hx, hy⟩
theorem Imp.ite {α : Type} {c : Prop} [Decidable c] {a a' b b' : Option α} (h1 : Imp a a') (h2 : Imp b b') : Imp (if c then a else b) (if c then a' else b') := by
  by_cases h : c
  · rw [if_pos h, if_pos h]; exact h1
  · rw [if_neg h, if_neg h]; exact h2

theorem step_le {f g : Nat → E → St → Option (E × St)} (h : ∀ t e s, Imp (f t e s) (g t e s)) (t : Nat) (e : E) (s : St) : Imp (step f t e s) (step g t e s) := by
  unfold step atom
  repeat' first | exact h _ _ _ | exact Imp.refl _ | refine Imp.ite ?_ ?_ | refine Imp.bind ?_ (fun _ => ?_) | refine Imp.map ?_

theorem px_succ (n : Nat) (t : Nat) (e : E) (s : St) : px (n + 1) t e s = step (px n) t e s := rfl
theorem px_next : ∀ (n : Nat) (t : Nat) (e : E) (s : St), Imp (px n t e s) (px (n + 1) t e s)
  | 0, _, _, _ => fun _ h => by cases h
  | n + 1, t, e, s => by
    rw [px_succ, px_succ (n + 1)]
    exact step_le (px_next n) t e s
theorem px_le {n m : Nat} (h : n ≤ m) {t : Nat} {e : E} {s : St} {x : E × St} (hx : px n t e s = some x) : px m t e s = some x := by
  induction h with
  | refl => exact hx
  | step _ ih => exact px_next _ _ _ _ _ ih
theorem Ok.unique {t : Nat} {e : E} {s : St} {x y : E × St} (h : Ok t e s x) (k : Ok t e s y) : x = y := by
  obtain ⟨n, hn⟩ := h
  obtain ⟨m, hm⟩ := k
  have h1 := px_le (Nat.le_max_left n m) hn
  have h2 := px_le (Nat.le_max_right n m) hm
  exact Option.some.inj (h1.symm.trans h2)

theorem ok_noif {s : St} {x : E × St} (h : sees s wIf = false) (k : Ok 1 eNil s x) : Ok 0 eNil s x := by
  obtain ⟨n, hn⟩ := k
  exact ⟨n + 1, by rw [px_succ]; unfold step; rw [if_pos rfl, h, if_neg (by decide)]; exact hn⟩

theorem ok_if {s s1 s3 s5 : St} {a b c : E × St} (h : sees s wIf = true) (h1 : adv s = some s1) (ha : Ok 0 eNil s1 a) (h3 : want a.2 wThen = some s3) (hb : Ok 0 eNil s3 b)
    (h5 : want b.2 wElse = some s5) (hc : Ok 0 eNil s5 c) : Ok 0 eNil s (eIf a.1 b.1 c.1, c.2) := by
  obtain ⟨n1, e1⟩ := ha
  obtain ⟨n2, e2⟩ := hb
  obtain ⟨n3, e3⟩ := hc
  have f1 := px_le (show n1 ≤ n1 + n2 + n3 by omega) e1
  have f2 := px_le (show n2 ≤ n1 + n2 + n3 by omega) e2
  have f3 := px_le (show n3 ≤ n1 + n2 + n3 by omega) e3
  refine ⟨n1 + n2 + n3 + 1, ?_⟩
  rw [px_succ]; unfold step
  rw [if_pos rfl, if_pos h, h1, Option.bind_some, f1, Option.bind_some, h3, Option.bind_some, f2, Option.bind_some, h5, Option.bind_some, f3, Option.map_some]

theorem ok_pre {l : Nat} {s s1 : St} {a : E × St} (h : (l = 3 ∧ sees s wNot = true) ∨ (l = 7 ∧ sees s sMinus = true)) (h1 : adv s = some s1) (ha : Ok l eNil s1 a) : Ok l eNil s (ePre s.tok.txt a.1, a.2) := by
  obtain ⟨n, e1⟩ := ha
  refine ⟨n + 1, ?_⟩
  rw [px_succ]; unfold step
  rw [if_neg (by omega), if_neg (by omega), if_pos (by omega), if_pos h, h1, Option.bind_some, e1, Option.map_some]

theorem ok_level {l : Nat} (h0 : 0 < l) (h8 : l < 8) {s : St} {a x : E × St} (h : ¬ ((l = 3 ∧ sees s wNot = true) ∨ (l = 7 ∧ sees s sMinus = true))) (ha : Ok (l + 1) eNil s a) (hx : Ok (10 + l) a.1 a.2 x) : Ok l eNil s x := by
  obtain ⟨n1, e1⟩ := ha
  obtain ⟨n2, e2⟩ := hx
  have f1 := px_le (show n1 ≤ n1 + n2 by omega) e1
  have f2 := px_le (show n2 ≤ n1 + n2 by omega) e2
  refine ⟨n1 + n2 + 1, ?_⟩
  rw [px_succ]; unfold step
  rw [if_neg (by omega), if_neg (by omega), if_pos h8, if_neg h, f1, Option.bind_some, f2]

theorem ok_stop {l : Nat} {s : St} {a : E} (h : opAt s ≠ l) : Ok (10 + l) a s (a, s) := by
  refine ⟨1, ?_⟩
  rw [px_succ]; unfold step
  rw [if_neg (by omega), if_neg (by omega), if_neg (by omega), if_neg (by omega)]

theorem ok_go {l : Nat} (h4 : l ≠ 4) {s s1 : St} {a : E} {b x : E × St} (h : opAt s = l) (h1 : adv s = some s1) (hb : Ok (l + 1) eNil s1 b) (hx : Ok (10 + l) (eTwo s.tok.txt a b.1) b.2 x) : Ok (10 + l) a s x := by
  obtain ⟨n1, e1⟩ := hb
  obtain ⟨n2, e2⟩ := hx
  have f1 := px_le (show n1 ≤ n1 + n2 by omega) e1
  have f2 := px_le (show n2 ≤ n1 + n2 by omega) e2
  refine ⟨n1 + n2 + 1, ?_⟩
  rw [px_succ]; unfold step
  rw [if_neg (by omega), if_neg (by omega), if_neg (by omega), if_pos (by omega), h1, Option.bind_some]
  have e : 10 + l - 10 + 1 = l + 1 := by omega
  rw [e, f1, Option.bind_some, if_neg (by omega), f2]

theorem ok_rel {s s1 : St} {a : E} {b : E × St} (h : opAt s = 4) (h1 : adv s = some s1) (hb : Ok 5 eNil s1 b) : Ok 14 a s (eTwo s.tok.txt a b.1, b.2) := by
  obtain ⟨n1, e1⟩ := hb
  refine ⟨n1 + 1, ?_⟩
  rw [px_succ]; unfold step
  rw [if_neg (by omega), if_neg (by omega), if_neg (by omega), if_pos (by omega), h1, Option.bind_some, e1, Option.bind_some, if_pos rfl]

/-- An atom whose reading asks for no expression within. -/
theorem ok_atom0 {s : St} {x : E × St} (h : ∀ f, atom f s = some x) : Ok 8 eNil s x := by
  refine ⟨1, ?_⟩
  rw [px_succ]; unfold step
  rw [if_neg (by omega), if_pos rfl, h]
theorem ok_atom {s : St} {x : E × St} {n : Nat} (h : atom (px n) s = some x) : Ok 8 eNil s x := by
  refine ⟨n + 1, ?_⟩
  rw [px_succ]; unfold step
  rw [if_neg (by omega), if_pos rfl, h]

end Mil
end Go.Proofs.YtibbjohkiigffaaGreatDoor
namespace Go.Proofs.YtibbjohkiigffaaGreatDoor
namespace Mil
open Go.Deep

def brackT (t l : Nat) (x : List Tok) : List Tok := if t < l then fix sOpen :: (x ++ [fix sShut]) else x
def preLvl (x : Bytes) : Nat := if x = wNot then 3 else 7

/-- The tokens of an expression as it is printed. -/
def toks : E → List Tok
  | .nil => []
  | .node 1 k _ _ _ => [num k]
  | .node 2 k _ _ _ => [fix (if k = 1 then wTrue else wFalse)]
  | .node 3 _ x _ _ => [nam x]
  | .node 4 _ x a _ => fix x :: brackT (tight a) (preLvl x) (toks a)
  | .node 5 _ x a b => brackT (tight a) (leftOf (tightOf x)) (toks a) ++ fix x :: brackT (tight b) (tightOf x + 1) (toks b)
  | .node 6 _ _ a b => fix wIf :: (toks a ++ toks b)
  | .node 0 _ _ a b => fix wThen :: (toks a ++ fix wElse :: toks b)
  | .node 7 _ _ a b => fix wFby :: fix sOpen :: (toks a ++ fix sComma :: (toks b ++ [fix sShut]))
  | .node 8 k _ a _ => fix wUnder :: fix sOpen :: (toks a ++ [fix sComma, num k, fix sShut])
  | .node 9 k _ a b => fix wHold :: fix sOpen :: (toks a ++ fix sComma :: (toks b ++ [fix sComma, num k, fix sShut]))
  | .node _ _ x a b => fix x :: fix sOpen :: (toks a ++ fix sComma :: (toks b ++ [fix sShut]))

/-- A name that is no word. -/
def NameOk (x : Bytes) : Prop := (∃ c r, x = c :: r ∧ isL c = true) ∧ (∀ c, c ∈ x → isN c = true) ∧ x.length ≤ 12 ∧ words.contains x = false

def isConst (e : E) : Prop := (∃ k : Nat, (k : Int) ≤ maxInt ∧ e = eInt k) ∨ (∃ k, (k = 0 ∨ k = 1) ∧ e = eBool k) ∨ (∃ k : Nat, (k : Int) ≤ maxInt ∧ e = ePre sMinus (eInt k))

/-- The trees that are read. (true: the two branches of an if.) -/
def wf : E → Bool → Prop
  | .nil, _ => False
  | .node t o x a b, true => t = 0 ∧ o = 0 ∧ x = [] ∧ wf a false ∧ wf b false
  | .node t o x a b, false =>
    (t = 1 ∧ x = [] ∧ (o : Int) ≤ maxInt ∧ a = .nil ∧ b = .nil) ∨ (t = 2 ∧ x = [] ∧ (o = 0 ∨ o = 1) ∧ a = .nil ∧ b = .nil) ∨ (t = 3 ∧ o = 0 ∧ NameOk x ∧ a = .nil ∧ b = .nil) ∨
    (t = 4 ∧ o = 0 ∧ (x = wNot ∨ x = sMinus) ∧ wf a false ∧ b = .nil) ∨ (t = 5 ∧ o = 0 ∧ tightOf x ≠ 9 ∧ wf a false ∧ wf b false) ∨ (t = 6 ∧ o = 0 ∧ x = [] ∧ wf a false ∧ wf b true) ∨
    (t = 7 ∧ o = 0 ∧ x = [] ∧ isConst a ∧ wf b false) ∨ (t = 8 ∧ x = [] ∧ 2 ≤ o ∧ o ≤ 1000 ∧ wf a false ∧ b = .nil) ∨ (t = 9 ∧ x = [] ∧ 2 ≤ o ∧ o ≤ 1000 ∧ isConst a ∧ wf b false) ∨
    (t = 10 ∧ o = 0 ∧ (x = wMin ∨ x = wMax) ∧ wf a false ∧ wf b false)

theorem wf_induct {P : E → Prop}
    (hInt : ∀ k : Nat, (k : Int) ≤ maxInt → P (eInt k)) (hBool : ∀ k, k = 0 ∨ k = 1 → P (eBool k)) (hName : ∀ x, NameOk x → P (eName x))
    (hPre : ∀ x a, x = wNot ∨ x = sMinus → wf a false → P a → P (ePre x a)) (hTwo : ∀ x a b, tightOf x ≠ 9 → wf a false → wf b false → P a → P b → P (eTwo x a b))
    (hIf : ∀ a b c, wf a false → wf b false → wf c false → P a → P b → P c → P (eIf a b c)) (hFby : ∀ a b, isConst a → wf b false → P b → P (eFby a b))
    (hUnder : ∀ a k, 2 ≤ k → k ≤ 1000 → wf a false → P a → P (eUnder a k)) (hHold : ∀ a b k, 2 ≤ k → k ≤ 1000 → isConst a → wf b false → P b → P (eHold a b k))
    (hLeast : ∀ x a b, x = wMin ∨ x = wMax → wf a false → wf b false → P a → P b → P (eLeast x a b)) :
    ∀ e : E, wf e false → P e := by
  have main : ∀ e : E, (wf e false → P e) ∧ (wf e true → ∃ b c, e = .node 0 0 [] b c ∧ wf b false ∧ wf c false ∧ P b ∧ P c) := by
    intro e
    induction e with
    | nil => exact ⟨fun h => h.elim, fun h => h.elim⟩
    | node t o x a b iha ihb =>
      refine ⟨fun h => ?_, fun h => ?_⟩
      · rcases h with ⟨rfl, rfl, h, rfl, rfl⟩ | ⟨rfl, rfl, h, rfl, rfl⟩ | ⟨rfl, rfl, h, rfl, rfl⟩ | ⟨rfl, rfl, h, ha, rfl⟩ | ⟨rfl, rfl, h, ha, hb⟩ | ⟨rfl, rfl, rfl, ha, hb⟩ | ⟨rfl, rfl, rfl, ha, hb⟩ | ⟨rfl, rfl, h, k, ha, rfl⟩ | ⟨rfl, rfl, h, k, ha, hb⟩ | ⟨rfl, rfl, h, ha, hb⟩
        · exact hInt o h
        · exact hBool o h
        · exact hName x h
        · exact hPre x a h ha (iha.1 ha)
        · exact hTwo x a b h ha hb (iha.1 ha) (ihb.1 hb)
        · obtain ⟨c, d, rfl, hc, hd, pc, pd⟩ := ihb.2 hb
          exact hIf a c d ha hc hd (iha.1 ha) pc pd
        · exact hFby a b ha hb (ihb.1 hb)
        · exact hUnder a o h k ha (iha.1 ha)
        · exact hHold a b o h k ha hb (ihb.1 hb)
        · exact hLeast x a b h ha hb (iha.1 ha) (ihb.1 hb)
      · obtain ⟨rfl, rfl, rfl, ha, hb⟩ := h
        exact ⟨a, b, rfl, ha, hb, iha.1 ha, ihb.1 hb⟩
  exact fun e h => (main e).1 h

theorem wf_const {c : E} (h : isConst c) : wf c false := by
  rcases h with ⟨k, hk, rfl⟩ | ⟨k, hk, rfl⟩ | ⟨k, hk, rfl⟩
  · exact Or.inl ⟨rfl, rfl, hk, rfl, rfl⟩
  · exact Or.inr (Or.inl ⟨rfl, rfl, hk, rfl, rfl⟩)
  · exact Or.inr (Or.inr (Or.inr (Or.inl ⟨rfl, rfl, Or.inr rfl, Or.inl ⟨rfl, rfl, hk, rfl, rfl⟩, rfl⟩)))

/-- From one state to another these tokens are seen. -/
def Sees : St → List Tok → St → Prop
  | s, [], s' => s = s'
  | s, t :: r, s' => s.tok = t ∧ ∃ s1, adv s = some s1 ∧ Sees s1 r s'
theorem Sees.append {s s' : St} : ∀ {x y : List Tok}, Sees s (x ++ y) s' → ∃ s1, Sees s x s1 ∧ Sees s1 y s'
  | [], _, h => ⟨s, rfl, h⟩
  | t :: r, y, h => by
    obtain ⟨ht, s1, h1, h2⟩ := h
    obtain ⟨s2, h3, h4⟩ := Sees.append (s := s1) (x := r) h2
    exact ⟨s2, ⟨ht, s1, h1, h3⟩, h4⟩
theorem Sees.one {s s' : St} {t : Tok} (h : Sees s [t] s') : s.tok = t ∧ adv s = some s' := by
  obtain ⟨ht, s1, h1, h2⟩ := h
  have : s1 = s' := h2
  subst this
  exact ⟨ht, h1⟩

/-- A token is that word or sign. -/
def isF (t : Tok) (x : Bytes) : Bool := t.kind == 3 && t.txt == x
theorem sees_isF (s : St) (x : Bytes) : sees s x = isF s.tok x := rfl
theorem isF_fix (x y : Bytes) : isF (fix x) y = (x == y) := by simp [isF, fix]
theorem isF_nam (x y : Bytes) : isF (nam x) y = false := by simp [isF, nam]
theorem isF_num (k : Nat) (y : Bytes) : isF (num k) y = false := by simp [isF, num]

theorem sees_fix {s : St} {x : Bytes} (h : s.tok = fix x) (y : Bytes) : sees s y = (x == y) := by rw [sees_isF, h, isF_fix]
theorem sees_nam {s : St} {x : Bytes} (h : s.tok = nam x) (y : Bytes) : sees s y = false := by rw [sees_isF, h, isF_nam]
theorem sees_num {s : St} {k : Nat} (h : s.tok = num k) (y : Bytes) : sees s y = false := by rw [sees_isF, h, isF_num]
theorem want_fix {s s' : St} {x : Bytes} (h : s.tok = fix x) (h1 : adv s = some s') : want s x = some s' := by
  unfold want; rw [sees_fix h]; simp [h1]
theorem number_num {s s' : St} {k : Nat} {lo hi : Int} (h : s.tok = num k) (h1 : adv s = some s') (hl : lo ≤ (k : Int)) (hh : (k : Int) ≤ hi) : number lo hi s = some (k, s') := by
  have hv : s.tok.val = (k : Int) := by rw [h]; rfl
  have hk : s.tok.kind = 2 := by rw [h]; rfl
  unfold number
  rw [if_pos ⟨hk, by rw [hv]; exact hl, by rw [hv]; exact hh⟩, h1, Option.map_some, hv]
  rfl

theorem tight_two (x : Bytes) (a b : E) : tight (eTwo x a b) = tightOf x := rfl
theorem tight_pre (x : Bytes) (a : E) : tight (ePre x a) = preLvl x := rfl
theorem tight_not (a : E) : tight (ePre wNot a) = 3 := by rw [tight_pre]; decide
theorem tight_minus (a : E) : tight (ePre sMinus a) = 7 := by rw [tight_pre]; decide
theorem tight_if (a b c : E) : tight (eIf a b c) = 0 := rfl
theorem tightOf_cases (x : Bytes) : tightOf x = 1 ∨ tightOf x = 2 ∨ tightOf x = 4 ∨ tightOf x = 5 ∨ tightOf x = 6 ∨ tightOf x = 9 := by
  unfold tightOf
  repeat' split
  all_goals simp
theorem preLvl_cases (x : Bytes) : preLvl x = 3 ∨ preLvl x = 7 := by
  unfold preLvl; split
  · exact Or.inl rfl
  · exact Or.inr rfl

/-- With what a printed expression begins. -/
def HeadOk (t : Tok) (k : Nat) : Prop := (0 < k → isF t wIf = false) ∧ (3 < k → isF t wNot = false) ∧ (7 < k → isF t sMinus = false)
theorem HeadOk.mono {t : Tok} {k l : Nat} (h : HeadOk t k) (hl : l ≤ k) : HeadOk t l := ⟨fun a => h.1 (by omega), fun a => h.2.1 (by omega), fun a => h.2.2 (by omega)⟩
theorem headOk_open : HeadOk (fix sOpen) 8 := ⟨fun _ => by decide, fun _ => by decide, fun _ => by decide⟩

theorem toks_head : ∀ e : E, wf e false → ∃ t r, toks e = t :: r ∧ HeadOk t (tight e) := by
  apply wf_induct
  · intro k _; exact ⟨num k, [], rfl, fun _ => isF_num _ _, fun _ => isF_num _ _, fun _ => isF_num _ _⟩
  · intro k hk
    rcases hk with rfl | rfl
    · exact ⟨fix wFalse, [], rfl, fun _ => by decide, fun _ => by decide, fun _ => by decide⟩
    · exact ⟨fix wTrue, [], rfl, fun _ => by decide, fun _ => by decide, fun _ => by decide⟩
  · intro x _; exact ⟨nam x, [], rfl, fun _ => isF_nam _ _, fun _ => isF_nam _ _, fun _ => isF_nam _ _⟩
  · intro x a hx _ _
    refine ⟨fix x, _, rfl, ?_⟩
    rcases hx with rfl | rfl
    · exact ⟨fun _ => by decide, fun h => by rw [tight_not] at h; omega, fun h => by rw [tight_not] at h; omega⟩
    · exact ⟨fun _ => by decide, fun _ => by decide, fun h => by rw [tight_minus] at h; omega⟩
  · intro x a b hx ha _ iha _
    obtain ⟨t, r, hr, ht⟩ := iha
    have hl : tightOf x ≤ leftOf (tightOf x) := by unfold leftOf; split <;> omega
    have hle : tightOf x ≤ 8 := by rcases tightOf_cases x with h | h | h | h | h | h <;> omega
    by_cases hb : tight a < leftOf (tightOf x)
    · refine ⟨fix sOpen, (toks a ++ [fix sShut]) ++ fix x :: brackT (tight b) (tightOf x + 1) (toks b), ?_, headOk_open.mono hle⟩
      show brackT (tight a) (leftOf (tightOf x)) (toks a) ++ _ = _
      rw [brackT, if_pos hb]; rfl
    · refine ⟨t, r ++ fix x :: brackT (tight b) (tightOf x + 1) (toks b), ?_, ht.mono (by show tightOf x ≤ tight a; omega)⟩
      show brackT (tight a) (leftOf (tightOf x)) (toks a) ++ _ = _
      rw [brackT, if_neg hb, hr]; rfl
  · intro a b c _ _ _ _ _ _
    exact ⟨fix wIf, _, rfl, fun h => by rw [tight_if] at h; omega, fun h => by rw [tight_if] at h; omega, fun h => by rw [tight_if] at h; omega⟩
  · intro a b _ _ _
    exact ⟨fix wFby, _, rfl, fun _ => by decide, fun _ => by decide, fun _ => by decide⟩
  · intro a k _ _ _ _
    exact ⟨fix wUnder, _, rfl, fun _ => by decide, fun _ => by decide, fun _ => by decide⟩
  · intro a b k _ _ _ _ _
    exact ⟨fix wHold, _, rfl, fun _ => by decide, fun _ => by decide, fun _ => by decide⟩
  · intro x a b hx _ _ _ _
    refine ⟨fix x, _, rfl, ?_⟩
    rcases hx with rfl | rfl
    · exact ⟨fun _ => by decide, fun _ => by decide, fun _ => by decide⟩
    · exact ⟨fun _ => by decide, fun _ => by decide, fun _ => by decide⟩

/-- Nothing goes on at that level or a tighter one. -/
def Stop (l : Nat) (s : St) : Prop := opAt s < l ∨ opAt s = 9
theorem Stop.mono {l k : Nat} {s : St} (h : Stop l s) (hk : l ≤ k) : Stop k s := by unfold Stop at *; omega
theorem opAt_fix {s : St} {x : Bytes} (h : s.tok = fix x) : opAt s = tightOf x := by unfold opAt; rw [h]; rfl

/-- From a tight level to a looser one. -/
theorem descend {e : E} {s s' : St} {t : Tok} (ht : s.tok = t) : ∀ (d l : Nat), l + d ≤ 8 → HeadOk t (l + d) → Stop l s' → Ok (l + d) eNil s (e, s') → Ok l eNil s (e, s')
  | 0, l, _, _, _, h => h
  | d + 1, l, h8, hh, hs, h => by
    have e1 : l + (d + 1) = (l + 1) + d := by omega
    rw [e1] at h h8 hh
    have h1 := descend ht d (l + 1) h8 hh (hs.mono (by omega)) h
    rcases Nat.eq_zero_or_pos l with rfl | hl
    · exact ok_noif (by rw [sees_isF, ht]; exact hh.1 (by omega)) h1
    · have hno : opAt s' ≠ l := by unfold Stop at hs; omega
      refine ok_level hl (by omega) ?_ h1 (ok_stop hno)
      rintro (⟨rfl, hx⟩ | ⟨rfl, hx⟩)
      · rw [sees_isF, ht, hh.2.1 (by omega)] at hx; cases hx
      · rw [sees_isF, ht, hh.2.2 (by omega)] at hx; cases hx

end Mil
end Go.Proofs.YtibbjohkiigffaaGreatDoor
namespace Go.Proofs.YtibbjohkiigffaaGreatDoor
namespace Mil
open Go.Deep

theorem kind_fix {s : St} {x : Bytes} (h : s.tok = fix x) : s.tok.kind = 3 := by rw [h]; rfl
theorem kind_num {s : St} {k : Nat} (h : s.tok = num k) : s.tok.kind = 2 := by rw [h]; rfl
theorem kind_nam {s : St} {x : Bytes} (h : s.tok = nam x) : s.tok.kind = 1 := by rw [h]; rfl

theorem tight_le : ∀ e : E, wf e false → tight e ≤ 8 := by
  apply wf_induct
  · intro k _; exact Nat.le_refl _
  · intro k _; exact Nat.le_refl _
  · intro x _; exact Nat.le_refl _
  · intro x a _ _ _; rw [tight_pre]; rcases preLvl_cases x with h | h <;> omega
  · intro x a b hx _ _ _ _; rw [tight_two]; rcases tightOf_cases x with h | h | h | h | h | h <;> omega
  · intro a b c _ _ _ _ _ _; exact Nat.zero_le _
  · intro a b _ _ _; exact Nat.le_refl _
  · intro a k _ _ _ _; exact Nat.le_refl _
  · intro a b k _ _ _ _ _; exact Nat.le_refl _
  · intro x a b _ _ _ _ _; exact Nat.le_refl _

theorem literal_num {s s' : St} {k : Nat} (h : s.tok = num k) (h1 : adv s = some s') (hk : (k : Int) ≤ maxInt) : literal s = some (eInt k, s') := by
  unfold literal
  rw [sees_num h, sees_num h, if_neg (by decide), if_neg (by decide), number_num h h1 (by omega) hk]; rfl
theorem literal_true {s s' : St} (h : s.tok = fix wTrue) (h1 : adv s = some s') : literal s = some (eBool 1, s') := by
  unfold literal
  rw [sees_fix h, if_pos (by decide), h1]; rfl
theorem literal_false {s s' : St} (h : s.tok = fix wFalse) (h1 : adv s = some s') : literal s = some (eBool 0, s') := by
  unfold literal
  rw [sees_fix h, sees_fix h, if_neg (by decide), if_pos (by decide), h1]; rfl

theorem constant_of {c : E} (hc : isConst c) {s s' : St} (h : Sees s (toks c) s') : constant s = some (c, s') := by
  rcases hc with ⟨k, hk, rfl⟩ | ⟨k, hk, rfl⟩ | ⟨k, hk, rfl⟩
  · obtain ⟨ht, h1⟩ := Sees.one h
    unfold constant
    rw [sees_num ht, if_neg (by decide)]
    exact literal_num ht h1 hk
  · unfold constant
    rcases hk with rfl | rfl
    · obtain ⟨ht, h1⟩ := Sees.one (t := fix wFalse) h
      rw [sees_fix ht, if_neg (by decide)]
      exact literal_false ht h1
    · obtain ⟨ht, h1⟩ := Sees.one (t := fix wTrue) h
      rw [sees_fix ht, if_neg (by decide)]
      exact literal_true ht h1
  · have h' : Sees s (fix sMinus :: [num k]) s' := h
    obtain ⟨ht, s1, h1, h2⟩ := h'
    obtain ⟨ht2, h3⟩ := Sees.one h2
    unfold constant
    rw [sees_fix ht, if_pos (by decide), h1, Option.bind_some, number_num ht2 h3 (by omega) hk]; rfl

/-- At its own level. -/
def Own (e : E) : Prop := ∀ s s', Sees s (toks e) s' → Stop (tight e) s' → Ok (tight e) eNil s (e, s')
/-- At a looser one. -/
def Bare (e : E) : Prop := ∀ l s s', l ≤ tight e → Sees s (toks e) s' → Stop l s' → Ok l eNil s (e, s')
/-- At any one, in brackets if it must. -/
def Brk (e : E) : Prop := ∀ l s s', l ≤ 8 → Sees s (brackT (tight e) l (toks e)) s' → Stop l s' → Ok l eNil s (e, s')
/-- As a left side. -/
def Lft (e : E) : Prop := ∀ l, l ≠ 4 → l + 1 ≤ 8 → ∀ s s1, Sees s (brackT (tight e) l (toks e)) s1 → opAt s1 = l → ∃ a0 s0, Ok (l + 1) eNil s (a0, s0) ∧ ∀ x, Ok (10 + l) e s1 x → Ok (10 + l) a0 s0 x

theorem bare_of {e : E} (hw : wf e false) (h : Own e) : Bare e := by
  intro l s s' hl hs hst
  obtain ⟨t, r, hr, hh⟩ := toks_head e hw
  have ht : s.tok = t := by rw [hr] at hs; exact hs.1
  have h1 := h s s' hs (hst.mono hl)
  have e1 : tight e = l + (tight e - l) := by omega
  rw [e1] at h1 hh
  exact descend ht (tight e - l) l (by have := tight_le e hw; omega) hh hst h1

theorem ok_brackets {s s1 s2 s' : St} {e : E} (ht : s.tok = fix sOpen) (h1 : adv s = some s1) (h2 : Ok 0 eNil s1 (e, s2)) (h3 : s2.tok = fix sShut) (h4 : adv s2 = some s') : Ok 8 eNil s (e, s') := by
  obtain ⟨n, hn⟩ := h2
  refine ok_atom (n := n) ?_
  unfold atom
  rw [if_neg (by rw [kind_fix ht]; decide), if_pos (by rw [sees_fix ht]; decide), h1, Option.bind_some, hn, Option.bind_some, want_fix h3 h4]; rfl

theorem brk_of {e : E} (hw : wf e false) (h : Own e) : Brk e := by
  intro l s s' hl hs hst
  by_cases hb : tight e < l
  · rw [brackT, if_pos hb] at hs
    obtain ⟨ht, s1, h1, h2⟩ := hs
    obtain ⟨s2, h3, h4⟩ := Sees.append h2
    obtain ⟨h5, h6⟩ := Sees.one h4
    have h7 := bare_of hw h 0 s1 s2 (Nat.zero_le _) h3 (Or.inr (by rw [opAt_fix h5]; decide))
    have h8 := ok_brackets ht h1 h7 h5 h6
    have e1 : 8 = l + (8 - l) := by omega
    rw [e1] at h8
    exact descend ht (8 - l) l (by omega) (headOk_open.mono (by omega)) hst h8
  · rw [brackT, if_neg hb] at hs
    exact bare_of hw h l s s' (by omega) hs hst

theorem lft_of {e : E} (hb : Brk e) (l : Nat) (hl : l + 1 ≤ 8) (hne : tight e ≠ l) {s s1 : St} (hs : Sees s (brackT (tight e) l (toks e)) s1) (ho : opAt s1 = l) :
    ∃ a0 s0, Ok (l + 1) eNil s (a0, s0) ∧ ∀ x, Ok (10 + l) e s1 x → Ok (10 + l) a0 s0 x := by
  have e1 : brackT (tight e) l (toks e) = brackT (tight e) (l + 1) (toks e) := by
    unfold brackT
    by_cases h : tight e < l
    · rw [if_pos h, if_pos (by omega)]
    · rw [if_neg h, if_neg (by omega)]
  rw [e1] at hs
  exact ⟨e, s1, hb (l + 1) s s1 hl hs (Or.inl (by omega)), fun _ h => h⟩

theorem own_two {x : Bytes} {a b : E} (hx : tightOf x ≠ 9) (ha : Brk a) (la : Lft a) (hb : Brk b) : Own (eTwo x a b) := by
  intro s s' hs hst
  have hs' : Sees s (brackT (tight a) (leftOf (tightOf x)) (toks a) ++ fix x :: brackT (tight b) (tightOf x + 1) (toks b)) s' := hs
  obtain ⟨s1, h1, ht, s2, h2, h3⟩ := Sees.append hs'
  rw [tight_two] at hst ⊢
  have ho := opAt_fix ht
  have hx1 : s1.tok.txt = x := by rw [ht]; rfl
  have hc := tightOf_cases x
  have hb' := hb (tightOf x + 1) s2 s' (by omega) h3 (hst.mono (by omega))
  by_cases h4 : tightOf x = 4
  · rw [leftOf, if_pos h4] at h1
    rw [h4] at ho hb' ⊢
    have ha' := ha 5 s s1 (by omega) h1 (Or.inl (by omega))
    refine ok_level (by omega) (by omega) (by omega) ha' ?_
    have := ok_rel (a := a) ho h2 hb'
    rw [hx1] at this
    exact this
  · rw [leftOf, if_neg h4] at h1
    obtain ⟨a0, s0, k1, k2⟩ := la (tightOf x) h4 (by omega) s s1 h1 ho
    have hno : opAt s' ≠ tightOf x := by unfold Stop at hst; omega
    have k3 := k2 (eTwo x a b, s') (by
      have := ok_go h4 (a := a) ho h2 hb' (x := (eTwo x a b, s')) (by rw [hx1]; exact ok_stop hno)
      exact this)
    exact ok_level (by omega) (by omega) (by omega) k1 k3

theorem lft_two {x : Bytes} {a b : E} (hw : wf (eTwo x a b) false) (ow : Own (eTwo x a b)) (la : Lft a) (hb : Brk b) : Lft (eTwo x a b) := by
  intro l h4 h8 s s' hs ho
  by_cases hne : tight (eTwo x a b) ≠ l
  · exact lft_of (brk_of hw ow) l h8 hne hs ho
  · have hl : tightOf x = l := by rw [← tight_two x a b]; omega
    rw [brackT, if_neg (by omega)] at hs
    have hs' : Sees s (brackT (tight a) (leftOf (tightOf x)) (toks a) ++ fix x :: brackT (tight b) (tightOf x + 1) (toks b)) s' := hs
    obtain ⟨s1, h1, ht, s2, h2, h3⟩ := Sees.append hs'
    have ho1 := opAt_fix ht
    have hx1 : s1.tok.txt = x := by rw [ht]; rfl
    rw [hl] at h1 h3 ho1
    rw [leftOf, if_neg h4] at h1
    obtain ⟨a0, s0, k1, k2⟩ := la l h4 h8 s s1 h1 ho1
    refine ⟨a0, s0, k1, fun y hy => k2 y ?_⟩
    have hb' := hb (l + 1) s2 s' h8 h3 (Or.inl (by omega))
    exact ok_go h4 ho1 h2 hb' (by rw [hx1]; exact hy)

theorem lft_default {e : E} (hw : wf e false) (ow : Own e) (h : ∀ l, l ≠ 4 → l + 1 ≤ 8 → tight e = l → (l = 0 ∨ l = 3 ∨ l = 7)) : Lft e := by
  intro l h4 h8 s s1 hs ho
  by_cases hne : tight e = l
  · have hc : opAt s1 = 1 ∨ opAt s1 = 2 ∨ opAt s1 = 4 ∨ opAt s1 = 5 ∨ opAt s1 = 6 ∨ opAt s1 = 9 := by
      unfold opAt; split
      · exact tightOf_cases _
      · simp
    have := h l h4 h8 hne
    omega
  · exact lft_of (brk_of hw ow) l h8 hne hs ho

theorem own_int {k : Nat} (hk : (k : Int) ≤ maxInt) : Own (eInt k) := by
  intro s s' hs _
  obtain ⟨ht, h1⟩ := Sees.one (t := num k) hs
  refine ok_atom0 fun f => ?_
  unfold atom
  rw [if_neg (by rw [kind_num ht]; decide)]
  simp only [sees_num ht, Bool.false_eq_true, if_false, Bool.or_false]
  exact literal_num ht h1 hk

theorem own_bool {k : Nat} (hk : k = 0 ∨ k = 1) : Own (eBool k) := by
  intro s s' hs _
  refine ok_atom0 fun f => ?_
  unfold atom
  rcases hk with rfl | rfl
  · obtain ⟨ht, h1⟩ := Sees.one (t := fix wFalse) hs
    rw [if_neg (by rw [kind_fix ht]; decide), if_neg (by rw [sees_fix ht]; decide), if_neg (by rw [sees_fix ht]; decide), if_neg (by rw [sees_fix ht]; decide), if_neg (by rw [sees_fix ht]; decide), if_neg (by rw [sees_fix ht, sees_fix ht]; decide)]
    exact literal_false ht h1
  · obtain ⟨ht, h1⟩ := Sees.one (t := fix wTrue) hs
    rw [if_neg (by rw [kind_fix ht]; decide), if_neg (by rw [sees_fix ht]; decide), if_neg (by rw [sees_fix ht]; decide), if_neg (by rw [sees_fix ht]; decide), if_neg (by rw [sees_fix ht]; decide), if_neg (by rw [sees_fix ht, sees_fix ht]; decide)]
    exact literal_true ht h1

theorem name_of {s s' : St} {x : Bytes} (ht : s.tok = nam x) (h1 : adv s = some s') : name s = some (x, s') := by
  unfold name
  rw [if_pos (kind_nam ht), h1, ht]; rfl

theorem own_name {x : Bytes} : Own (eName x) := by
  intro s s' hs _
  obtain ⟨ht, h1⟩ := Sees.one (t := nam x) hs
  refine ok_atom0 fun f => ?_
  unfold atom
  rw [if_pos (kind_nam ht), name_of ht h1]; rfl

theorem own_pre {x : Bytes} {a : E} (hx : x = wNot ∨ x = sMinus) (ha : Brk a) : Own (ePre x a) := by
  intro s s' hs hst
  have hs' : Sees s (fix x :: brackT (tight a) (preLvl x) (toks a)) s' := hs
  obtain ⟨ht, s1, h1, h2⟩ := hs'
  rw [tight_pre] at hst ⊢
  have hx1 : s.tok.txt = x := by rw [ht]; rfl
  have ha' := ha (preLvl x) s1 s' (by rcases preLvl_cases x with h | h <;> omega) h2 hst
  have hc : (preLvl x = 3 ∧ sees s wNot = true) ∨ (preLvl x = 7 ∧ sees s sMinus = true) := by
    rcases hx with rfl | rfl
    · exact Or.inl ⟨by decide, by rw [sees_fix ht]; decide⟩
    · exact Or.inr ⟨by decide, by rw [sees_fix ht]; decide⟩
  have := ok_pre hc h1 ha'
  rw [hx1] at this
  exact this

theorem stop_fix {s : St} {x : Bytes} (h : s.tok = fix x) (hx : tightOf x = 9) (l : Nat) : Stop l s := Or.inr (by rw [opAt_fix h]; exact hx)

theorem own_if {a b c : E} (ha : Bare a) (hb : Bare b) (hc : Bare c) : Own (eIf a b c) := by
  intro s s' hs hst
  have hs' : Sees s (fix wIf :: (toks a ++ fix wThen :: (toks b ++ fix wElse :: toks c))) s' := hs
  obtain ⟨ht, s1, h1, h2⟩ := hs'
  obtain ⟨s2, h3, ht2, s3, h4, h5⟩ := Sees.append h2
  obtain ⟨s4, h6, ht4, s5, h7, h8⟩ := Sees.append h5
  exact ok_if (by rw [sees_fix ht]; decide) h1 (ha 0 s1 s2 (Nat.zero_le _) h3 (stop_fix ht2 (by decide) 0)) (want_fix ht2 h4) (hb 0 s3 s4 (Nat.zero_le _) h6 (stop_fix ht4 (by decide) 0)) (want_fix ht4 h7) (hc 0 s5 s' (Nat.zero_le _) h8 hst)

theorem own_fby {a b : E} (ha : isConst a) (hb : Bare b) : Own (eFby a b) := by
  intro s s' hs _
  have hs' : Sees s (fix wFby :: fix sOpen :: (toks a ++ fix sComma :: (toks b ++ [fix sShut]))) s' := hs
  obtain ⟨ht, s1, h1, ht1, s2, h2, h3⟩ := hs'
  obtain ⟨s3, h4, ht3, s4, h5, h6⟩ := Sees.append h3
  obtain ⟨s5, h7, h8⟩ := Sees.append h6
  obtain ⟨ht5, h9⟩ := Sees.one h8
  obtain ⟨n, hn⟩ := hb 0 s4 s5 (Nat.zero_le _) h7 (stop_fix ht5 (by decide) 0)
  refine ok_atom (n := n) ?_
  unfold atom
  rw [if_neg (by rw [kind_fix ht]; decide), if_neg (by rw [sees_fix ht]; decide), if_pos (by rw [sees_fix ht]; decide), h1, Option.bind_some, want_fix ht1 h2, Option.bind_some, constant_of ha h4, Option.bind_some, want_fix ht3 h5, Option.bind_some, hn, Option.bind_some, want_fix ht5 h9]; rfl

theorem own_under {a : E} {k : Nat} (h2 : 2 ≤ k) (hk : k ≤ 1000) (ha : Bare a) : Own (eUnder a k) := by
  intro s s' hs _
  have hs' : Sees s (fix wUnder :: fix sOpen :: (toks a ++ [fix sComma, num k, fix sShut])) s' := hs
  obtain ⟨ht, s1, h1, ht1, s2, g2, h3⟩ := hs'
  obtain ⟨s3, h4, ht3, s4, h5, ht4, s5, h6, h7⟩ := Sees.append h3
  obtain ⟨ht5, h9⟩ := Sees.one h7
  obtain ⟨n, hn⟩ := ha 0 s2 s3 (Nat.zero_le _) h4 (stop_fix ht3 (by decide) 0)
  refine ok_atom (n := n) ?_
  unfold atom
  rw [if_neg (by rw [kind_fix ht]; decide), if_neg (by rw [sees_fix ht]; decide), if_neg (by rw [sees_fix ht]; decide), if_pos (by rw [sees_fix ht]; decide), h1, Option.bind_some, want_fix ht1 g2, Option.bind_some, hn, Option.bind_some, want_fix ht3 h5, Option.bind_some, number_num ht4 h6 (by omega) (by omega), Option.bind_some, want_fix ht5 h9]; rfl

theorem own_hold {a b : E} {k : Nat} (h2 : 2 ≤ k) (hk : k ≤ 1000) (ha : isConst a) (hb : Bare b) : Own (eHold a b k) := by
  intro s s' hs _
  have hs' : Sees s (fix wHold :: fix sOpen :: (toks a ++ fix sComma :: (toks b ++ [fix sComma, num k, fix sShut]))) s' := hs
  obtain ⟨ht, s1, h1, ht1, s2, g2, h3⟩ := hs'
  obtain ⟨s3, h4, ht3, s4, h5, h6⟩ := Sees.append h3
  obtain ⟨s5, h7, ht5, s6, h8, ht6, s7, h9, h10⟩ := Sees.append h6
  obtain ⟨ht7, h11⟩ := Sees.one h10
  obtain ⟨n, hn⟩ := hb 0 s4 s5 (Nat.zero_le _) h7 (stop_fix ht5 (by decide) 0)
  refine ok_atom (n := n) ?_
  unfold atom
  rw [if_neg (by rw [kind_fix ht]; decide), if_neg (by rw [sees_fix ht]; decide), if_neg (by rw [sees_fix ht]; decide), if_neg (by rw [sees_fix ht]; decide), if_pos (by rw [sees_fix ht]; decide), h1, Option.bind_some, want_fix ht1 g2, Option.bind_some, constant_of ha h4, Option.bind_some, want_fix ht3 h5, Option.bind_some, hn, Option.bind_some, want_fix ht5 h8, Option.bind_some, number_num ht6 h9 (by omega) (by omega), Option.bind_some, want_fix ht7 h11]; rfl

theorem own_least {x : Bytes} {a b : E} (hx : x = wMin ∨ x = wMax) (ha : Bare a) (hb : Bare b) : Own (eLeast x a b) := by
  intro s s' hs _
  have hs' : Sees s (fix x :: fix sOpen :: (toks a ++ fix sComma :: (toks b ++ [fix sShut]))) s' := hs
  obtain ⟨ht, s1, h1, ht1, s2, h2, h3⟩ := hs'
  obtain ⟨s3, h4, ht3, s4, h5, h6⟩ := Sees.append h3
  obtain ⟨s5, h7, h8⟩ := Sees.append h6
  obtain ⟨ht5, h9⟩ := Sees.one h8
  obtain ⟨n1, e1⟩ := ha 0 s2 s3 (Nat.zero_le _) h4 (stop_fix ht3 (by decide) 0)
  obtain ⟨n2, e2⟩ := hb 0 s4 s5 (Nat.zero_le _) h7 (stop_fix ht5 (by decide) 0)
  have f1 := px_le (show n1 ≤ n1 + n2 by omega) e1
  have f2 := px_le (show n2 ≤ n1 + n2 by omega) e2
  have hx1 : s.tok.txt = x := by rw [ht]; rfl
  refine ok_atom (n := n1 + n2) ?_
  unfold atom
  rw [hx1, if_neg (by rw [kind_fix ht]; decide)]
  rcases hx with rfl | rfl
  · rw [if_neg (by rw [sees_fix ht]; decide), if_neg (by rw [sees_fix ht]; decide), if_neg (by rw [sees_fix ht]; decide), if_neg (by rw [sees_fix ht]; decide), if_pos (by rw [sees_fix ht, sees_fix ht]; decide), h1, Option.bind_some, want_fix ht1 h2, Option.bind_some, f1, Option.bind_some, want_fix ht3 h5, Option.bind_some, f2, Option.bind_some, want_fix ht5 h9]; rfl
  · rw [if_neg (by rw [sees_fix ht]; decide), if_neg (by rw [sees_fix ht]; decide), if_neg (by rw [sees_fix ht]; decide), if_neg (by rw [sees_fix ht]; decide), if_pos (by rw [sees_fix ht, sees_fix ht]; decide), h1, Option.bind_some, want_fix ht1 h2, Option.bind_some, f1, Option.bind_some, want_fix ht3 h5, Option.bind_some, f2, Option.bind_some, want_fix ht5 h9]; rfl

theorem own_all : ∀ e : E, wf e false → Own e ∧ Lft e := by
  have tri : ∀ {e : E}, wf e false → Own e → tight e = 8 → Own e ∧ Lft e := fun hw ow h8 => ⟨ow, lft_default hw ow (fun l _ h1 h2 => by omega)⟩
  apply wf_induct
  · intro k hk
    exact tri (Or.inl ⟨rfl, rfl, hk, rfl, rfl⟩) (own_int hk) rfl
  · intro k hk
    exact tri (Or.inr (Or.inl ⟨rfl, rfl, hk, rfl, rfl⟩)) (own_bool hk) rfl
  · intro x hx
    exact tri (Or.inr (Or.inr (Or.inl ⟨rfl, rfl, hx, rfl, rfl⟩))) own_name rfl
  · intro x a hx hw ih
    have ow := own_pre hx (brk_of hw ih.1)
    refine ⟨ow, lft_default (Or.inr (Or.inr (Or.inr (Or.inl ⟨rfl, rfl, hx, hw, rfl⟩)))) ow (fun l _ _ h => ?_)⟩
    rw [tight_pre] at h
    rcases preLvl_cases x with h' | h' <;> omega
  · intro x a b hx ha hb iha ihb
    have ow := own_two hx (brk_of ha iha.1) iha.2 (brk_of hb ihb.1)
    exact ⟨ow, lft_two (Or.inr (Or.inr (Or.inr (Or.inr (Or.inl ⟨rfl, rfl, hx, ha, hb⟩))))) ow iha.2 (brk_of hb ihb.1)⟩
  · intro a b c ha hb hc iha ihb ihc
    have ow := own_if (bare_of ha iha.1) (bare_of hb ihb.1) (bare_of hc ihc.1)
    refine ⟨ow, lft_default (Or.inr (Or.inr (Or.inr (Or.inr (Or.inr (Or.inl ⟨rfl, rfl, rfl, ha, rfl, rfl, rfl, hb, hc⟩)))))) ow (fun l _ _ h => ?_)⟩
    rw [tight_if] at h
    omega
  · intro a b ha hb ih
    exact tri (Or.inr (Or.inr (Or.inr (Or.inr (Or.inr (Or.inr (Or.inl ⟨rfl, rfl, rfl, ha, hb⟩))))))) (own_fby ha (bare_of hb ih.1)) rfl
  · intro a k h2 hk ha ih
    exact tri (Or.inr (Or.inr (Or.inr (Or.inr (Or.inr (Or.inr (Or.inr (Or.inl ⟨rfl, rfl, h2, hk, ha, rfl⟩)))))))) (own_under h2 hk (bare_of ha ih.1)) rfl
  · intro a b k h2 hk ha hb ih
    exact tri (Or.inr (Or.inr (Or.inr (Or.inr (Or.inr (Or.inr (Or.inr (Or.inr (Or.inl ⟨rfl, rfl, h2, hk, ha, hb⟩))))))))) (own_hold h2 hk ha (bare_of hb ih.1)) rfl
  · intro x a b hx ha hb iha ihb
    exact tri (Or.inr (Or.inr (Or.inr (Or.inr (Or.inr (Or.inr (Or.inr (Or.inr (Or.inr ⟨rfl, rfl, hx, ha, hb⟩))))))))) (own_least hx (bare_of ha iha.1) (bare_of hb ihb.1)) rfl

/-- What is seen as a printed expression is read as it. -/
theorem back {e : E} (hw : wf e false) {s s' : St} (h : Sees s (toks e) s') (hs : Stop 0 s') : Ok 0 eNil s (e, s') :=
  bare_of hw (own_all e hw).1 0 s s' (Nat.zero_le _) h hs

end Mil
end Go.Proofs.YtibbjohkiigffaaGreatDoor
namespace Go.Proofs.YtibbjohkiigffaaGreatDoor
namespace Mil
open Go.Deep

def StOk (s : St) : Prop := (s.tok.kind = 1 → NameOk s.tok.txt) ∧ (s.tok.kind ≠ 0 → 1 ≤ s.cnt) ∧ s.cnt ≤ 600
/-- How many tokens lie behind the reader. -/
def used (s : St) : Nat := if s.tok.kind = 0 then s.cnt else s.cnt - 1

theorem mem_while {p : UInt8 → Bool} : ∀ (l : Bytes) (d : UInt8), d ∈ l.takeWhile p → p d = true
  | [], _, h => by cases h
  | c :: r, d, h => by
    rw [List.takeWhile_cons] at h
    by_cases hc : p c = true
    · rw [if_pos hc] at h
      rcases List.mem_cons.1 h with rfl | h'
      · exact hc
      · exact mem_while r d h'
    · rw [if_neg hc] at h; cases h

theorem cutName_ok {c : UInt8} {r : Bytes} (hc : isL c = true) {t : Tok} {b : Bytes} (h : cutName (c :: r) = some (t, b)) : t.kind = 1 → NameOk t.txt := by
  unfold cutName at h
  by_cases h12 : 12 < ((c :: r).takeWhile isN).length
  · rw [if_pos h12] at h; cases h
  · rw [if_neg h12] at h
    have h' := Option.some.inj h
    have ht : t = if words.contains ((c :: r).takeWhile isN) then fix ((c :: r).takeWhile isN) else nam ((c :: r).takeWhile isN) := (congrArg Prod.fst h').symm
    by_cases hw : words.contains ((c :: r).takeWhile isN) = true
    · rw [if_pos hw] at ht; rw [ht]; intro h1; exact absurd (show (3 : Nat) = 1 from h1) (by decide)
    · rw [if_neg hw] at ht; rw [ht]; intro _
      refine ⟨⟨c, r.takeWhile isN, ?_, hc⟩, ?_, by show ((c :: r).takeWhile isN).length ≤ 12; omega, by show words.contains ((c :: r).takeWhile isN) = false; exact Bool.eq_false_iff.2 hw⟩
      · show (c :: r).takeWhile isN = _
        rw [List.takeWhile_cons, if_pos (by simp [isN, hc])]
      · intro d hd
        exact mem_while _ d hd
theorem cut_ok {b : Bytes} {t : Tok} {r : Bytes} (h : cut b = some (t, r)) : t.kind = 1 → NameOk t.txt := by
  cases b with
  | nil =>
    have h' := Option.some.inj h
    have ht : t = ⟨0, [], 0⟩ := (congrArg Prod.fst h').symm
    rw [ht]; intro h1; exact absurd h1 (by decide)
  | cons c q =>
    have h' : (if isL c = true then cutName (c :: q) else if isD c = true then cutNum (c :: q) else cutSign (c :: q)) = some (t, r) := h
    by_cases hl : isL c = true
    · rw [if_pos hl] at h'; exact cutName_ok hl h'
    · rw [if_neg hl] at h'
      by_cases hd : isD c = true
      · rw [if_pos hd] at h'
        unfold cutNum at h'
        split at h'
        · split at h'
          · cases h'
          · obtain ⟨rfl, rfl⟩ := Prod.mk.inj (Option.some.inj h')
            intro h1; exact absurd (show (2 : Nat) = 1 from h1) (by decide)
        · cases h'
      · rw [if_neg hd] at h'
        unfold cutSign at h'
        split at h'
        · obtain ⟨rfl, rfl⟩ := Prod.mk.inj (Option.some.inj h')
          intro h1; exact absurd (show (3 : Nat) = 1 from h1) (by decide)
        · cases h'

theorem adv'_ok {b : Bytes} {n : Nat} (hn : n ≤ 600) {s : St} (h : adv' b n = some s) : StOk s ∧ used s = n := by
  unfold adv' at h
  split at h
  · cases h
  · rename_i t r hc
    have hk := cut_ok hc
    by_cases h0 : t.kind = 0
    · rw [if_pos h0] at h
      obtain rfl := (Option.some.inj h).symm
      exact ⟨⟨fun h1 => hk h1, fun h1 => absurd h0 h1, hn⟩, by unfold used; rw [if_pos h0]⟩
    · rw [if_neg h0] at h
      by_cases h6 : 600 < n + 1
      · rw [if_pos h6] at h; cases h
      · rw [if_neg h6] at h
        obtain rfl := (Option.some.inj h).symm
        exact ⟨⟨fun h1 => hk h1, fun _ => by show 1 ≤ n + 1; omega, by show n + 1 ≤ 600; omega⟩, by unfold used; rw [if_neg h0]; rfl⟩

/-- One token further. -/
def Fwd (s s1 : St) : Prop := StOk s1 ∧ used s1 = used s + 1
theorem adv_ok {s s1 : St} (h : adv s = some s1) (hs : StOk s) (hk : s.tok.kind ≠ 0) : Fwd s s1 := by
  obtain ⟨h1, h2⟩ := adv'_ok hs.2.2 h
  refine ⟨h1, ?_⟩
  rw [h2]; unfold used; rw [if_neg hk]
  have := hs.2.1 hk
  omega
theorem sees_kind {s : St} {x : Bytes} (h : sees s x = true) : s.tok.kind ≠ 0 ∧ s.tok.txt = x := by
  unfold sees at h
  simp only [Bool.and_eq_true, beq_iff_eq] at h
  exact ⟨by omega, h.2⟩
theorem want_ok {s s1 : St} {x : Bytes} (h : want s x = some s1) (hs : StOk s) : Fwd s s1 := by
  unfold want at h
  by_cases hx : sees s x = true
  · rw [if_pos hx] at h; exact adv_ok h hs (sees_kind hx).1
  · rw [if_neg hx] at h; cases h
theorem name_ok {s : St} {x : Bytes × St} (h : name s = some x) (hs : StOk s) : NameOk x.1 ∧ Fwd s x.2 := by
  unfold name at h
  by_cases hk : s.tok.kind = 1
  · rw [if_pos hk] at h
    obtain ⟨s1, h1, rfl⟩ := Option.map_eq_some_iff.1 h
    exact ⟨hs.1 hk, adv_ok h1 hs (by omega)⟩
  · rw [if_neg hk] at h; cases h
theorem number_ok {s : St} {lo hi : Int} (h0 : 0 ≤ lo) {x : Nat × St} (h : number lo hi s = some x) (hs : StOk s) : lo ≤ (x.1 : Int) ∧ (x.1 : Int) ≤ hi ∧ Fwd s x.2 := by
  unfold number at h
  by_cases hk : s.tok.kind = 2 ∧ lo ≤ s.tok.val ∧ s.tok.val ≤ hi
  · rw [if_pos hk] at h
    obtain ⟨s1, h1, rfl⟩ := Option.map_eq_some_iff.1 h
    obtain ⟨k1, k2, k3⟩ := hk
    exact ⟨by show lo ≤ (s.tok.val.toNat : Int); omega, by show (s.tok.val.toNat : Int) ≤ hi; omega, adv_ok h1 hs (by omega)⟩
  · rw [if_neg hk] at h; cases h
theorem ftype_ok {s : St} {x : Nat × St} (h : ftype s = some x) (hs : StOk s) : (x.1 = 0 ∨ x.1 = 1) ∧ Fwd s x.2 := by
  unfold ftype at h
  by_cases h1 : sees s wInt = true
  · rw [if_pos h1] at h
    obtain ⟨s1, e1, rfl⟩ := Option.map_eq_some_iff.1 h
    exact ⟨Or.inl rfl, adv_ok e1 hs (sees_kind h1).1⟩
  · rw [if_neg h1] at h
    by_cases h2 : sees s wBool = true
    · rw [if_pos h2] at h
      obtain ⟨s1, e1, rfl⟩ := Option.map_eq_some_iff.1 h
      exact ⟨Or.inr rfl, adv_ok e1 hs (sees_kind h2).1⟩
    · rw [if_neg h2] at h; cases h

def len (e : E) (l : Nat) : Nat := (brackT (tight e) l (toks e)).length
theorem len_tight {e : E} {l : Nat} (h : l ≤ tight e) : len e l = (toks e).length := by unfold len brackT; rw [if_neg (by omega)]
theorem len_less {e : E} {l : Nat} (h : tight e < l) : len e l = (toks e).length + 2 := by unfold len brackT; rw [if_pos h]; simp
theorem len_mono (e : E) {l k : Nat} (h : l ≤ k) : len e l ≤ len e k := by
  by_cases h1 : tight e < l
  · rw [len_less h1, len_less (by omega)]; exact Nat.le_refl _
  · rw [len_tight (by omega)]
    by_cases h2 : tight e < k
    · rw [len_less h2]; omega
    · rw [len_tight (by omega)]; exact Nat.le_refl _
theorem len_le (e : E) (l : Nat) : (toks e).length ≤ len e l := by
  by_cases h1 : tight e < l
  · rw [len_less h1]; omega
  · rw [len_tight (by omega)]; exact Nat.le_refl _

theorem literal_ok {s : St} {x : E × St} (h : literal s = some x) (hs : StOk s) : isConst x.1 ∧ len x.1 8 = 1 ∧ Fwd s x.2 := by
  unfold literal at h
  by_cases h1 : sees s wTrue = true
  · rw [if_pos h1] at h
    obtain ⟨s1, e1, rfl⟩ := Option.map_eq_some_iff.1 h
    exact ⟨Or.inr (Or.inl ⟨1, Or.inr rfl, rfl⟩), rfl, adv_ok e1 hs (sees_kind h1).1⟩
  · rw [if_neg h1] at h
    by_cases h2 : sees s wFalse = true
    · rw [if_pos h2] at h
      obtain ⟨s1, e1, rfl⟩ := Option.map_eq_some_iff.1 h
      exact ⟨Or.inr (Or.inl ⟨0, Or.inl rfl, rfl⟩), rfl, adv_ok e1 hs (sees_kind h2).1⟩
    · rw [if_neg h2] at h
      obtain ⟨y, e1, rfl⟩ := Option.map_eq_some_iff.1 h
      obtain ⟨_, k2, k3⟩ := number_ok (by omega) e1 hs
      exact ⟨Or.inl ⟨y.1, k2, rfl⟩, rfl, k3⟩

theorem constant_ok {s : St} {x : E × St} (h : constant s = some x) (hs : StOk s) : isConst x.1 ∧ StOk x.2 ∧ used s + (toks x.1).length ≤ used x.2 := by
  unfold constant at h
  by_cases h1 : sees s sMinus = true
  · rw [if_pos h1] at h
    obtain ⟨s1, e1, h2⟩ := Option.bind_eq_some_iff.1 h
    obtain ⟨y, e2, rfl⟩ := Option.map_eq_some_iff.1 h2
    have f1 := adv_ok e1 hs (sees_kind h1).1
    obtain ⟨_, k2, k3⟩ := number_ok (by omega) e2 f1.1
    refine ⟨Or.inr (Or.inr ⟨y.1, k2, rfl⟩), k3.1, ?_⟩
    have hl : (toks (ePre sMinus (eInt y.1))).length = 2 := rfl
    show used s + (toks (ePre sMinus (eInt y.1))).length ≤ used y.2
    rw [hl, k3.2, f1.2]; omega
  · rw [if_neg h1] at h
    obtain ⟨k1, k2, k3⟩ := literal_ok h hs
    refine ⟨k1, k3.1, ?_⟩
    have := len_le x.1 8
    rw [k3.2]; omega

end Mil
end Go.Proofs.YtibbjohkiigffaaGreatDoor
namespace Go.Proofs.YtibbjohkiigffaaGreatDoor
namespace Mil
open Go.Deep

theorem digit_toNat (u : Nat) : (UInt8.ofNat (48 + u % 10)).toNat = 48 + u % 10 := by
  rw [UInt8.toNat_ofNat']; omega
theorem dig_small {u : Nat} (h : u < 10) : Lib.decDigits u = [UInt8.ofNat (48 + u % 10)] := by rw [Lib.decDigits_one h, Nat.mod_eq_of_lt h]
theorem dig_big {u : Nat} (h : ¬ u < 10) : Lib.decDigits u = Lib.decDigits (u / 10) ++ [UInt8.ofNat (48 + u % 10)] := by rw [Lib.decDigits, dif_neg h]
theorem isD_digit (u : Nat) : isD (UInt8.ofNat (48 + u % 10)) = true := by
  unfold isD; rw [digit_toNat]
  have : u % 10 < 10 := Nat.mod_lt _ (by decide)
  simp; omega

theorem dig_all (u : Nat) : ∀ c, c ∈ Lib.decDigits u → isD c = true := by
  induction u using Nat.strongRecOn with
  | _ u ih =>
    by_cases h : u < 10
    · rw [dig_small h]; intro c hc
      rw [List.mem_singleton.1 hc]; exact isD_digit u
    · rw [dig_big h]; intro c hc
      rcases List.mem_append.1 hc with h1 | h1
      · exact ih (u / 10) (by omega) c h1
      · rw [List.mem_singleton.1 h1]; exact isD_digit u
theorem dig_head (u : Nat) : ∃ c r, Lib.decDigits u = c :: r ∧ (c.toNat = 48 → u = 0 ∧ r = []) := by
  induction u using Nat.strongRecOn with
  | _ u ih =>
    by_cases h : u < 10
    · refine ⟨_, [], dig_small h, fun hc => ⟨?_, rfl⟩⟩
      rw [digit_toNat] at hc; omega
    · obtain ⟨c, r, e, hc⟩ := ih (u / 10) (by omega)
      refine ⟨c, r ++ [UInt8.ofNat (48 + u % 10)], by rw [dig_big h, e]; rfl, fun h1 => ?_⟩
      have := (hc h1).1
      omega

theorem pum_append (M : Nat) : ∀ (l r : Bytes) (acc v : Nat), Lib.parseUintM M acc l = .ok v → Lib.parseUintM M acc (l ++ r) = Lib.parseUintM M v r
  | [], r, acc, v, h => by
    have : acc = v := by simpa [Lib.parseUintM] using h
    rw [this]; rfl
  | c :: l, r, acc, v, h => by
    rw [Lib.parseUintM] at h
    rw [List.cons_append, Lib.parseUintM]
    by_cases h1 : 48 ≤ c.toNat ∧ c.toNat ≤ 57
    · rw [if_pos h1] at h ⊢
      by_cases h2 : 1844674407370955162 ≤ acc
      · rw [if_pos h2] at h; cases h
      · rw [if_neg h2] at h ⊢
        by_cases h3 : M < acc * 10 + (c.toNat - 48)
        · rw [if_pos h3] at h; cases h
        · rw [if_neg h3] at h ⊢
          exact pum_append M l r _ v h
    · rw [if_neg h1] at h; cases h

theorem pum_dig (u : Nat) (hu : u ≤ 9223372036854775807) : Lib.parseUintM (2 ^ 64 - 1) 0 (Lib.decDigits u) = .ok u := by
  have one : ∀ (a d : Nat), a ≤ 922337203685477580 → Lib.parseUintM (2 ^ 64 - 1) a [UInt8.ofNat (48 + d % 10)] = .ok (a * 10 + d % 10) := fun a d ha => by
    have hd : d % 10 < 10 := Nat.mod_lt _ (by decide)
    have e := digit_toNat d
    rw [Lib.parseUintM, e, if_pos (by omega), if_neg (by omega), if_neg (by omega), Lib.parseUintM]
    congr 1; omega
  induction u using Nat.strongRecOn with
  | _ u ih =>
    by_cases h : u < 10
    · rw [dig_small h, one 0 u (by omega)]
      congr 1; omega
    · rw [dig_big h, pum_append _ _ _ 0 (u / 10) (ih (u / 10) (by omega) (by omega)), one (u / 10) u (by omega)]
      congr 1; omega

theorem parse_dig (u : Nat) (hu : (u : Int) ≤ maxInt) : Lib.parseIntB 64 (Lib.decDigits u) = .ok (u : Int) := by
  have hu' : u ≤ 9223372036854775807 := by unfold maxInt at hu; omega
  obtain ⟨c, r, e, _⟩ := dig_head u
  have hc : isD c = true := dig_all u c (by rw [e]; exact List.mem_cons_self)
  have hd : 48 ≤ c.toNat ∧ c.toNat ≤ 57 := by unfold isD at hc; simpa using hc
  have hp := pum_dig u hu'
  rw [e] at hp ⊢
  have hpb : Lib.parseUintB 64 (c :: r) = .ok u := by unfold Lib.parseUintB; rw [if_neg (by simp)]; exact hp
  unfold Lib.parseIntB
  simp only []
  rw [if_neg (by omega), hpb]
  simp only []
  rw [if_neg (by omega), if_neg (by omega), if_neg (by omega)]

/-- What may stand behind a name or a number. -/
def NotN (K : Bytes) : Prop := ∀ c r, K = c :: r → isN c = false
theorem while_append {p : UInt8 → Bool} : ∀ (x K : Bytes), (∀ c, c ∈ x → p c = true) → (∀ c r, K = c :: r → p c = false) → (x ++ K).takeWhile p = x ∧ (x ++ K).dropWhile p = K
  | [], K, _, hK => by
    cases K with
    | nil => exact ⟨rfl, rfl⟩
    | cons c r => simp [hK c r rfl]
  | c :: x, K, hx, hK => by
    obtain ⟨h1, h2⟩ := while_append x K (fun d hd => hx d (List.mem_cons_of_mem _ hd)) hK
    have hc := hx c List.mem_cons_self
    simp [hc, h1, h2]
theorem NotN.digit {K : Bytes} (h : NotN K) : ∀ c r, K = c :: r → isD c = false := fun c r e => by
  have := h c r e
  unfold isN at this
  simp only [Bool.or_eq_false_iff] at this
  exact this.1.2

theorem skip_stay {c : UInt8} (r : Bytes) (h : ¬ (c.toNat = 32 ∨ c.toNat = 9 ∨ c.toNat = 10)) (h2 : c.toNat ≠ 35) : skip false (c :: r) = c :: r := by
  rw [skip, if_neg h, if_neg h2]
theorem skip_blank (r : Bytes) : skip false (32 :: r) = skip false r := by rw [skip, if_pos (by decide)]
theorem skip_line (r : Bytes) : skip false (10 :: r) = skip false r := by rw [skip, if_pos (by decide)]

theorem cut_word {x K : Bytes} (h1 : ∃ c r, x = c :: r ∧ isL c = true) (h2 : ∀ c, c ∈ x → isN c = true) (h3 : x.length ≤ 12) (hK : NotN K) :
    cut (skip false (x ++ K)) = some (if words.contains x then fix x else nam x, K) := by
  obtain ⟨c, r, rfl, hc⟩ := h1
  have hl : 97 ≤ c.toNat ∧ c.toNat ≤ 122 := by unfold isL at hc; simpa using hc
  obtain ⟨w1, w2⟩ := while_append (c :: r) K h2 hK
  rw [List.cons_append] at w1 w2 ⊢
  rw [skip_stay _ (by omega) (by omega)]
  show (if isL c = true then cutName (c :: (r ++ K)) else _) = _
  rw [if_pos hc]
  unfold cutName
  rw [w1, w2, if_neg (by omega)]

theorem cut_num {k : Nat} (hk : (k : Int) ≤ maxInt) {K : Bytes} (hK : NotN K) : cut (skip false (Lib.decDigits k ++ K)) = some (num k, K) := by
  obtain ⟨c, r, e, hz⟩ := dig_head k
  have hall := dig_all k
  have hp := parse_dig k hk
  obtain ⟨w1, w2⟩ := while_append (Lib.decDigits k) K hall hK.digit
  have hc : isD c = true := hall c (by rw [e]; exact List.mem_cons_self)
  have hd : 48 ≤ c.toNat ∧ c.toNat ≤ 57 := by unfold isD at hc; simpa using hc
  have hnl : ¬ isL c = true := by unfold isL; simp; omega
  have hs : skip false (Lib.decDigits k ++ K) = Lib.decDigits k ++ K := by
    rw [e, List.cons_append]; exact skip_stay _ (by omega) (by omega)
  rw [hs]
  have hcut : cut (Lib.decDigits k ++ K) = cutNum (Lib.decDigits k ++ K) := by
    rw [e, List.cons_append]
    show (if isL c = true then _ else if isD c = true then cutNum (c :: (r ++ K)) else _) = _
    rw [if_neg hnl, if_pos hc]
  rw [hcut]
  unfold cutNum
  rw [w1, w2, hp]
  simp only []
  rw [if_neg]
  · rfl
  · rintro ⟨h0, h1⟩
    rw [e] at h0 h1
    simp at h0
    have := hz h0
    rw [this.2] at h1
    simp at h1

/-- A text that is these tokens, and then that. -/
def Lx : Bytes → List Tok → Bytes → Prop
  | b, [], b' => b = b'
  | b, t :: r, b' => ∃ b1, cut (skip false b) = some (t, b1) ∧ Lx b1 r b'
theorem Lx.append {b b1 b2 : Bytes} : ∀ {x y : List Tok}, Lx b x b1 → Lx b1 y b2 → Lx b (x ++ y) b2
  | [], _, h, k => by
    have : b = b1 := h
    rw [this]; exact k
  | t :: r, y, h, k => by
    obtain ⟨b3, h1, h2⟩ := h
    exact ⟨b3, h1, Lx.append (x := r) h2 k⟩
theorem Lx.blank {b b' : Bytes} {t : Tok} {r : List Tok} (h : Lx b (t :: r) b') : Lx (32 :: b) (t :: r) b' := by
  obtain ⟨b1, h1, h2⟩ := h
  exact ⟨b1, by rw [skip_blank]; exact h1, h2⟩
theorem Lx.line {b b' : Bytes} {t : Tok} {r : List Tok} (h : Lx b (t :: r) b') : Lx (10 :: b) (t :: r) b' := by
  obtain ⟨b1, h1, h2⟩ := h
  exact ⟨b1, by rw [skip_line]; exact h1, h2⟩

theorem notN_cons {c : UInt8} (r : Bytes) (h : isN c = false) : NotN (c :: r) := fun d q e => by
  have : c = d := (List.cons.inj e).1
  rw [← this]; exact h

/-- The words. -/
theorem cut_fixword {x K : Bytes} (hx : x ∈ words) (hK : NotN K) : cut (skip false (x ++ K)) = some (fix x, K) := by
  have main : ∀ y : Bytes, y ∈ words → ((∃ c r, y = c :: r ∧ isL c = true) ∧ (∀ c, c ∈ y → isN c = true) ∧ y.length ≤ 12) := by
    intro y hy
    simp only [words, List.mem_cons, List.not_mem_nil, or_false] at hy
    rcases hy with rfl | rfl | rfl | rfl | rfl | rfl | rfl | rfl | rfl | rfl | rfl | rfl | rfl | rfl | rfl | rfl | rfl | rfl | rfl <;> exact ⟨⟨_, _, rfl, by decide⟩, by decide, by decide⟩
  obtain ⟨h1, h2, h3⟩ := main x hx
  rw [cut_word h1 h2 h3 hK, if_pos (List.contains_iff_mem.2 hx)]

/-- Signs that no other one goes on. -/
theorem cut_colon (K : Bytes) : cut (skip false (58 :: K)) = some (fix sColon, K) := by rfl
theorem cut_semi (K : Bytes) : cut (skip false (59 :: K)) = some (fix sSemi, K) := by rfl
theorem cut_open (K : Bytes) : cut (skip false (40 :: K)) = some (fix sOpen, K) := by rfl
theorem cut_shut (K : Bytes) : cut (skip false (41 :: K)) = some (fix sShut, K) := by rfl
theorem cut_comma (K : Bytes) : cut (skip false (44 :: K)) = some (fix sComma, K) := by rfl
theorem cut_minus (K : Bytes) : cut (skip false (45 :: K)) = some (fix sMinus, K) := by rfl
theorem cut_is (K : Bytes) : cut (skip false (61 :: 32 :: K)) = some (fix sIs, 32 :: K) := by rfl

/-- Operators of two sides, a blank behind. -/
theorem cut_op {x : Bytes} (hx : tightOf x ≠ 9) (K : Bytes) : cut (skip false (x ++ 32 :: K)) = some (fix x, 32 :: K) := by
  have hb : NotN (32 :: K) := notN_cons K (by decide)
  unfold tightOf at hx
  by_cases h1 : x = wOr ∨ x = wXor
  · rcases h1 with rfl | rfl
    · exact cut_fixword (by decide) hb
    · exact cut_fixword (by decide) hb
  rw [if_neg h1] at hx
  by_cases h2 : x = wAnd
  · subst h2; exact cut_fixword (by decide) hb
  rw [if_neg h2] at hx
  by_cases h3 : x = sLt ∨ x = sLe ∨ x = sGt ∨ x = sGe ∨ x = sEq ∨ x = sNe
  · rcases h3 with rfl | rfl | rfl | rfl | rfl | rfl <;> rfl
  rw [if_neg h3] at hx
  by_cases h4 : x = sPlus ∨ x = sMinus
  · rcases h4 with rfl | rfl <;> rfl
  rw [if_neg h4] at hx
  by_cases h5 : x = sTimes ∨ x = sOver ∨ x = sRest
  · rcases h5 with rfl | rfl | rfl <;> rfl
  rw [if_neg h5] at hx
  exact absurd rfl hx

/-- What stands behind an expression. -/
def Del (K : Bytes) : Prop := ∃ c r, K = c :: r ∧ (c = 32 ∨ c = 41 ∨ c = 44 ∨ c = 59)
theorem Del.notN {K : Bytes} (h : Del K) : NotN K := by
  obtain ⟨c, r, rfl, hc⟩ := h
  rcases hc with rfl | rfl | rfl | rfl <;> exact notN_cons r (by decide)
theorem del_blank (r : Bytes) : Del (32 :: r) := ⟨32, r, rfl, Or.inl rfl⟩
theorem del_shut (r : Bytes) : Del (41 :: r) := ⟨41, r, rfl, Or.inr (Or.inl rfl)⟩
theorem del_comma (r : Bytes) : Del (44 :: r) := ⟨44, r, rfl, Or.inr (Or.inr (Or.inl rfl))⟩
theorem del_semi (r : Bytes) : Del (59 :: r) := ⟨59, r, rfl, Or.inr (Or.inr (Or.inr rfl))⟩

/-- An expression's text is its tokens. -/
def Cuts (e : E) : Prop := ∀ K, Del K → Lx (txt e ++ K) (toks e) K
theorem Lx.blankOf {b b' : Bytes} {ts : List Tok} (h : Lx b ts b') (hne : ts ≠ []) : Lx (32 :: b) ts b' := by
  cases ts with
  | nil => exact absurd rfl hne
  | cons t r => exact h.blank
theorem toks_ne {e : E} (h : wf e false) : toks e ≠ [] := by
  obtain ⟨t, r, e1, _⟩ := toks_head e h
  rw [e1]; simp
theorem brackT_ne {e : E} (h : wf e false) (l : Nat) : brackT (tight e) l (toks e) ≠ [] := by
  unfold brackT; split
  · simp
  · exact toks_ne h
theorem lx_brack {e : E} (h : Cuts e) (l : Nat) : ∀ K, Del K → Lx (brack (tight e) l (txt e) ++ K) (brackT (tight e) l (toks e)) K := by
  intro K hK
  unfold brack brackT
  by_cases c : tight e < l
  · rw [if_pos c, if_pos c]
    have e1 : sOpen ++ txt e ++ sShut ++ K = 40 :: (txt e ++ 41 :: K) := by simp [sOpen, sShut]
    rw [e1]
    exact ⟨_, cut_open _, (h _ (del_shut K)).append ⟨K, cut_shut K, rfl⟩⟩
  · rw [if_neg c, if_neg c]; exact h K hK

theorem cuts_const {a : E} (h : isConst a) : Cuts a := by
  rcases h with ⟨k, hk, rfl⟩ | ⟨k, hk, rfl⟩ | ⟨k, hk, rfl⟩
  · intro K hK; exact ⟨K, cut_num hk hK.notN, rfl⟩
  · intro K hK
    rcases hk with rfl | rfl
    · exact ⟨K, cut_fixword (x := wFalse) (by decide) hK.notN, rfl⟩
    · exact ⟨K, cut_fixword (x := wTrue) (by decide) hK.notN, rfl⟩
  · intro K hK
    exact ⟨_, cut_minus _, ⟨K, cut_num hk hK.notN, rfl⟩⟩

theorem cuts_all : ∀ e : E, wf e false → Cuts e := by
  apply wf_induct
  · intro k hk; exact cuts_const (Or.inl ⟨k, hk, rfl⟩)
  · intro k hk; exact cuts_const (Or.inr (Or.inl ⟨k, hk, rfl⟩))
  · intro x hx K hK
    refine ⟨K, ?_, rfl⟩
    show cut (skip false (x ++ K)) = some (nam x, K)
    rw [cut_word hx.1 hx.2.1 hx.2.2.1 hK.notN, if_neg (by rw [hx.2.2.2]; decide)]
  · intro x a hx ha ih K hK
    rcases hx with rfl | rfl
    · have e1 : txt (ePre wNot a) ++ K = wNot ++ 32 :: (brack (tight a) 3 (txt a) ++ K) := by
        show wNot ++ blank ++ brack (tight a) 3 (txt a) ++ K = _
        simp [blank]
      rw [e1]
      exact ⟨_, cut_fixword (by decide) (del_blank _).notN, (lx_brack ih 3 K hK).blankOf (brackT_ne ha 3)⟩
    · have e1 : txt (ePre sMinus a) ++ K = 45 :: (brack (tight a) 7 (txt a) ++ K) := by
        show sMinus ++ brack (tight a) 7 (txt a) ++ K = _
        simp [sMinus]
      rw [e1]
      exact ⟨_, cut_minus _, lx_brack ih 7 K hK⟩
  · intro x a b hx ha hb iha ihb K hK
    have e1 : txt (eTwo x a b) ++ K = brack (tight a) (leftOf (tightOf x)) (txt a) ++ 32 :: (x ++ 32 :: (brack (tight b) (tightOf x + 1) (txt b) ++ K)) := by
      show brack (tight a) (leftOf (tightOf x)) (txt a) ++ blank ++ x ++ blank ++ brack (tight b) (tightOf x + 1) (txt b) ++ K = _
      simp [blank]
    rw [e1]
    refine Lx.append (lx_brack iha _ _ (del_blank _)) (Lx.blank ⟨_, cut_op hx _, ?_⟩)
    exact (lx_brack ihb _ K hK).blankOf (brackT_ne hb _)
  · intro a b c ha hb hc iha ihb ihc K hK
    have e1 : txt (eIf a b c) ++ K = wIf ++ 32 :: (txt a ++ 32 :: (wThen ++ 32 :: (txt b ++ 32 :: (wElse ++ 32 :: (txt c ++ K))))) := by
      show wIf ++ blank ++ txt a ++ blank ++ (wThen ++ blank ++ txt b ++ blank ++ wElse ++ blank ++ txt c) ++ K = _
      simp [blank]
    rw [e1]
    refine ⟨_, cut_fixword (by decide) (del_blank _).notN, ?_⟩
    show Lx _ (toks a ++ fix wThen :: (toks b ++ fix wElse :: toks c)) K
    refine Lx.blankOf (Lx.append (iha _ (del_blank _)) (Lx.blank ⟨_, cut_fixword (by decide) (del_blank _).notN, ?_⟩)) (by simp)
    refine Lx.blankOf (Lx.append (ihb _ (del_blank _)) (Lx.blank ⟨_, cut_fixword (by decide) (del_blank _).notN, ?_⟩)) (by simp)
    exact Lx.blankOf (ihc K hK) (toks_ne hc)
  · intro a b ha hb ih K hK
    have e1 : txt (eFby a b) ++ K = wFby ++ 40 :: (txt a ++ 44 :: 32 :: (txt b ++ 41 :: K)) := by
      show wFby ++ sOpen ++ txt a ++ commaB ++ txt b ++ sShut ++ K = _
      simp [sOpen, sShut, commaB]
    rw [e1]
    refine ⟨_, cut_fixword (by decide) (notN_cons _ (by decide)), _, cut_open _, ?_⟩
    refine Lx.append (cuts_const ha _ (del_comma _)) ⟨_, cut_comma _, ?_⟩
    exact Lx.blankOf (Lx.append (ih _ (del_shut K)) ⟨K, cut_shut K, rfl⟩) (by simp)
  · intro a k h2 hk ha ih K hK
    have e1 : txt (eUnder a k) ++ K = wUnder ++ 40 :: (txt a ++ 44 :: 32 :: (Lib.decDigits k ++ 41 :: K)) := by
      show wUnder ++ sOpen ++ txt a ++ commaB ++ Lib.decDigits k ++ sShut ++ K = _
      simp [sOpen, sShut, commaB]
    rw [e1]
    refine ⟨_, cut_fixword (by decide) (notN_cons _ (by decide)), _, cut_open _, ?_⟩
    refine Lx.append (ih _ (del_comma _)) ⟨_, cut_comma _, ?_⟩
    exact Lx.blank ⟨_, cut_num (by unfold maxInt; omega) (del_shut K).notN, ⟨K, cut_shut K, rfl⟩⟩
  · intro a b k h2 hk ha hb ih K hK
    have e1 : txt (eHold a b k) ++ K = wHold ++ 40 :: (txt a ++ 44 :: 32 :: (txt b ++ 44 :: 32 :: (Lib.decDigits k ++ 41 :: K))) := by
      show wHold ++ sOpen ++ txt a ++ commaB ++ txt b ++ commaB ++ Lib.decDigits k ++ sShut ++ K = _
      simp [sOpen, sShut, commaB]
    rw [e1]
    refine ⟨_, cut_fixword (by decide) (notN_cons _ (by decide)), _, cut_open _, ?_⟩
    refine Lx.append (cuts_const ha _ (del_comma _)) ⟨_, cut_comma _, ?_⟩
    refine Lx.blankOf (Lx.append (ih _ (del_comma _)) ⟨_, cut_comma _, ?_⟩) (by simp)
    exact Lx.blank ⟨_, cut_num (by unfold maxInt; omega) (del_shut K).notN, ⟨K, cut_shut K, rfl⟩⟩
  · intro x a b hx ha hb iha ihb K hK
    have e1 : txt (eLeast x a b) ++ K = x ++ 40 :: (txt a ++ 44 :: 32 :: (txt b ++ 41 :: K)) := by
      show x ++ sOpen ++ txt a ++ commaB ++ txt b ++ sShut ++ K = _
      simp [sOpen, sShut, commaB]
    rw [e1]
    have hw : x ∈ words := by rcases hx with rfl | rfl <;> decide
    refine ⟨_, cut_fixword hw (notN_cons _ (by decide)), _, cut_open _, ?_⟩
    refine Lx.append (iha _ (del_comma _)) ⟨_, cut_comma _, ?_⟩
    exact Lx.blankOf (Lx.append (ihb _ (del_shut K)) ⟨K, cut_shut K, rfl⟩) (by simp)

end Mil
end Go.Proofs.YtibbjohkiigffaaGreatDoor
namespace Go.Proofs.YtibbjohkiigffaaGreatDoor
namespace Mil

theorem inv_if {s : St} {x : E × St} (h : sees s wIf = true) (k : Ok 0 eNil s x) :
    ∃ s1 a s3 b s5 c, adv s = some s1 ∧ Ok 0 eNil s1 a ∧ want a.2 wThen = some s3 ∧ Ok 0 eNil s3 b ∧ want b.2 wElse = some s5 ∧ Ok 0 eNil s5 c ∧ x = (eIf a.1 b.1 c.1, c.2) := by
  obtain ⟨n, hn⟩ := k
  cases n with
  | zero => cases hn
  | succ n =>
    rw [px_succ] at hn; unfold step at hn
    rw [if_pos rfl, if_pos h] at hn
    obtain ⟨s1, h1, hn⟩ := Option.bind_eq_some_iff.1 hn
    obtain ⟨a, h2, hn⟩ := Option.bind_eq_some_iff.1 hn
    obtain ⟨s3, h3, hn⟩ := Option.bind_eq_some_iff.1 hn
    obtain ⟨b, h4, hn⟩ := Option.bind_eq_some_iff.1 hn
    obtain ⟨s5, h5, hn⟩ := Option.bind_eq_some_iff.1 hn
    obtain ⟨c, h6, hn⟩ := Option.map_eq_some_iff.1 hn
    exact ⟨s1, a, s3, b, s5, c, h1, ⟨n, h2⟩, h3, ⟨n, h4⟩, h5, ⟨n, h6⟩, hn.symm⟩
theorem inv_noif {s : St} {x : E × St} (h : sees s wIf = false) (k : Ok 0 eNil s x) : Ok 1 eNil s x := by
  obtain ⟨n, hn⟩ := k
  cases n with
  | zero => cases hn
  | succ n =>
    rw [px_succ] at hn; unfold step at hn
    rw [if_pos rfl, h, if_neg (by decide)] at hn
    exact ⟨n, hn⟩
theorem inv_pre {l : Nat} {s : St} {x : E × St} (h : (l = 3 ∧ sees s wNot = true) ∨ (l = 7 ∧ sees s sMinus = true)) (k : Ok l eNil s x) :
    ∃ s1 a, adv s = some s1 ∧ Ok l eNil s1 a ∧ x = (ePre s.tok.txt a.1, a.2) := by
  obtain ⟨n, hn⟩ := k
  cases n with
  | zero => cases hn
  | succ n =>
    rw [px_succ] at hn; unfold step at hn
    rw [if_neg (by omega), if_neg (by omega), if_pos (by omega), if_pos h] at hn
    obtain ⟨s1, h1, hn⟩ := Option.bind_eq_some_iff.1 hn
    obtain ⟨a, h2, hn⟩ := Option.map_eq_some_iff.1 hn
    exact ⟨s1, a, h1, ⟨n, h2⟩, hn.symm⟩
theorem inv_level {l : Nat} (h0 : 0 < l) (h8 : l < 8) {s : St} {x : E × St} (h : ¬ ((l = 3 ∧ sees s wNot = true) ∨ (l = 7 ∧ sees s sMinus = true))) (k : Ok l eNil s x) :
    ∃ a, Ok (l + 1) eNil s a ∧ Ok (10 + l) a.1 a.2 x := by
  obtain ⟨n, hn⟩ := k
  cases n with
  | zero => cases hn
  | succ n =>
    rw [px_succ] at hn; unfold step at hn
    rw [if_neg (by omega), if_neg (by omega), if_pos h8, if_neg h] at hn
    obtain ⟨a, h1, hn⟩ := Option.bind_eq_some_iff.1 hn
    exact ⟨a, ⟨n, h1⟩, ⟨n, hn⟩⟩
theorem inv_stop {l : Nat} {s : St} {a : E} {x : E × St} (h : opAt s ≠ l) (k : Ok (10 + l) a s x) : x = (a, s) := by
  exact Ok.unique k (ok_stop h)
theorem inv_go {l : Nat} {s : St} {a : E} {x : E × St} (h : opAt s = l) (k : Ok (10 + l) a s x) :
    ∃ s1 b, adv s = some s1 ∧ Ok (l + 1) eNil s1 b ∧ ((l = 4 ∧ x = (eTwo s.tok.txt a b.1, b.2)) ∨ (l ≠ 4 ∧ Ok (10 + l) (eTwo s.tok.txt a b.1) b.2 x)) := by
  obtain ⟨n, hn⟩ := k
  cases n with
  | zero => cases hn
  | succ n =>
    rw [px_succ] at hn; unfold step at hn
    have e : 10 + l - 10 = l := by omega
    rw [if_neg (by omega), if_neg (by omega), if_neg (by omega), e, if_pos h] at hn
    obtain ⟨s1, h1, hn⟩ := Option.bind_eq_some_iff.1 hn
    obtain ⟨b, h2, hn⟩ := Option.bind_eq_some_iff.1 hn
    refine ⟨s1, b, h1, ⟨n, h2⟩, ?_⟩
    by_cases h4 : 10 + l = 14
    · rw [if_pos h4] at hn
      exact Or.inl ⟨by omega, (Option.some.inj hn).symm⟩
    · rw [if_neg h4] at hn
      exact Or.inr ⟨by omega, ⟨n, hn⟩⟩
theorem inv_atom {s : St} {x : E × St} (k : Ok 8 eNil s x) : ∃ n, atom (px n) s = some x := by
  obtain ⟨n, hn⟩ := k
  cases n with
  | zero => cases hn
  | succ n =>
    rw [px_succ] at hn; unfold step at hn
    rw [if_neg (by decide), if_pos rfl] at hn
    exact ⟨n, hn⟩

/-- What is left: bytes, and the token at hand. -/
def mu (s : St) : Nat := s.rest.length + if s.tok.kind = 0 then 0 else 1

theorem dropWhile_len (f : UInt8 → Bool) : ∀ l : Bytes, (l.dropWhile f).length ≤ l.length
  | [] => Nat.le_refl _
  | c :: r => by
    rw [List.dropWhile_cons]
    have := dropWhile_len f r
    split
    · simp; omega
    · exact Nat.le_refl _
theorem cut_short {c : UInt8} {q : Bytes} {t : Tok} {r : Bytes} (h : cut (c :: q) = some (t, r)) : r.length ≤ q.length := by
  have h' : (if isL c = true then cutName (c :: q) else if isD c = true then cutNum (c :: q) else cutSign (c :: q)) = some (t, r) := h
  by_cases hl : isL c = true
  · rw [if_pos hl] at h'
    unfold cutName at h'
    split at h'
    · cases h'
    · obtain ⟨_, rfl⟩ := Prod.mk.inj (Option.some.inj h')
      rw [List.dropWhile_cons, if_pos (by simp [isN, hl])]
      exact dropWhile_len _ _
  · rw [if_neg hl] at h'
    by_cases hd : isD c = true
    · rw [if_pos hd] at h'
      unfold cutNum at h'
      split at h'
      · split at h'
        · cases h'
        · obtain ⟨_, rfl⟩ := Prod.mk.inj (Option.some.inj h')
          rw [List.dropWhile_cons, if_pos hd]
          exact dropWhile_len _ _
      · cases h'
    · rw [if_neg hd] at h'
      unfold cutSign at h'
      split at h'
      · rename_i x hf
        obtain ⟨_, rfl⟩ := Prod.mk.inj (Option.some.inj h')
        have hm := List.mem_of_find?_eq_some hf
        have hpos : 1 ≤ x.length := by
          simp only [signs, List.mem_cons, List.not_mem_nil, or_false] at hm
          rcases hm with rfl | rfl | rfl | rfl | rfl | rfl | rfl | rfl | rfl | rfl | rfl | rfl | rfl | rfl | rfl | rfl | rfl <;> decide
        simp; omega
      · cases h'
theorem skip_short : ∀ (f : Bool) (l : Bytes), (skip f l).length ≤ l.length
  | true, [] => Nat.le_refl _
  | false, [] => Nat.le_refl _
  | true, c :: r => by
    rw [skip]
    have := skip_short true r
    have := skip_short false r
    split <;> simp <;> omega
  | false, c :: r => by
    rw [skip]
    have := skip_short true r
    have := skip_short false r
    split
    · simp; omega
    · split
      · simp; omega
      · exact Nat.le_refl _
theorem adv_mu {s s1 : St} (h : adv s = some s1) (hk : s.tok.kind ≠ 0) : mu s1 < mu s := by
  unfold adv adv' at h
  have hsk := skip_short false s.rest
  unfold mu
  rw [if_neg hk]
  split at h
  · cases h
  · rename_i t r hc
    cases hq : skip false s.rest with
    | nil =>
      rw [hq] at hc
      obtain ⟨rfl, rfl⟩ := Prod.mk.inj (Option.some.inj hc)
      rw [if_pos rfl] at h
      obtain rfl := (Option.some.inj h).symm
      simp
    | cons c q =>
      rw [hq] at hc hsk
      have hr := cut_short hc
      simp at hsk
      by_cases h0 : t.kind = 0
      · rw [if_pos h0] at h
        obtain rfl := (Option.some.inj h).symm
        simp only [h0, if_true]
        omega
      · rw [if_neg h0] at h
        split at h
        · cases h
        · obtain rfl := (Option.some.inj h).symm
          simp only [h0, if_false]
          omega
theorem sees_kind3 {s : St} {x : Bytes} (h : sees s x = true) : s.tok.kind = 3 ∧ s.tok.txt = x := by
  unfold sees at h
  simpa using h
theorem want_mu {s s1 : St} {x : Bytes} (h : want s x = some s1) : mu s1 < mu s := by
  unfold want at h
  by_cases hx : sees s x = true
  · rw [if_pos hx] at h; exact adv_mu h (by rw [(sees_kind3 hx).1]; decide)
  · rw [if_neg hx] at h; cases h
theorem number_mu {s : St} {lo hi : Int} {x : Nat × St} (h : number lo hi s = some x) : mu x.2 < mu s := by
  unfold number at h
  by_cases hk : s.tok.kind = 2 ∧ lo ≤ s.tok.val ∧ s.tok.val ≤ hi
  · rw [if_pos hk] at h
    obtain ⟨s1, h1, rfl⟩ := Option.map_eq_some_iff.1 h
    exact adv_mu h1 (by omega)
  · rw [if_neg hk] at h; cases h
theorem name_mu {s : St} {x : Bytes × St} (h : name s = some x) : mu x.2 < mu s := by
  unfold name at h
  by_cases hk : s.tok.kind = 1
  · rw [if_pos hk] at h
    obtain ⟨s1, h1, rfl⟩ := Option.map_eq_some_iff.1 h
    exact adv_mu h1 (by omega)
  · rw [if_neg hk] at h; cases h
theorem literal_mu {s : St} {x : E × St} (h : literal s = some x) : mu x.2 < mu s := by
  unfold literal at h
  by_cases h1 : sees s wTrue = true
  · rw [if_pos h1] at h
    obtain ⟨s1, e1, rfl⟩ := Option.map_eq_some_iff.1 h
    exact adv_mu e1 (by rw [(sees_kind3 h1).1]; decide)
  · rw [if_neg h1] at h
    by_cases h2 : sees s wFalse = true
    · rw [if_pos h2] at h
      obtain ⟨s1, e1, rfl⟩ := Option.map_eq_some_iff.1 h
      exact adv_mu e1 (by rw [(sees_kind3 h2).1]; decide)
    · rw [if_neg h2] at h
      obtain ⟨y, e1, rfl⟩ := Option.map_eq_some_iff.1 h
      exact number_mu e1
theorem constant_mu {s : St} {x : E × St} (h : constant s = some x) : mu x.2 < mu s := by
  unfold constant at h
  by_cases h1 : sees s sMinus = true
  · rw [if_pos h1] at h
    obtain ⟨s1, e1, h2⟩ := Option.bind_eq_some_iff.1 h
    obtain ⟨y, e2, rfl⟩ := Option.map_eq_some_iff.1 h2
    exact Nat.lt_trans (number_mu e2) (adv_mu e1 (by rw [(sees_kind3 h1).1]; decide))
  · rw [if_neg h1] at h
    exact literal_mu h

end Mil
end Go.Proofs.YtibbjohkiigffaaGreatDoor
namespace Go.Proofs.YtibbjohkiigffaaGreatDoor
namespace Mil

theorem sees_other {s : St} {x y : Bytes} (h : sees s x = true) (hxy : (x == y) = false) : sees s y = false := by
  obtain ⟨h1, h2⟩ := sees_kind3 h
  unfold sees
  rw [h2, hxy]; simp
theorem sees_no1 {s : St} {x : Bytes} (h : sees s x = true) : ¬ s.tok.kind = 1 := by
  rw [(sees_kind3 h).1]; decide
theorem sees_nam1 {s : St} (h : s.tok.kind = 1) (x : Bytes) : sees s x = false := by
  unfold sees; rw [h]; rfl

def Rfby (s : St) (x : E) (t : St) : Prop := ∃ s2 c s4 y, want s sOpen = some s2 ∧ constant s2 = some c ∧ want c.2 sComma = some s4 ∧ Ok 0 eNil s4 y ∧ want y.2 sShut = some t ∧ x = eFby c.1 y.1
def Runder (s : St) (x : E) (t : St) : Prop := ∃ s2 y s4 k, want s sOpen = some s2 ∧ Ok 0 eNil s2 y ∧ want y.2 sComma = some s4 ∧ number 2 1000 s4 = some k ∧ want k.2 sShut = some t ∧ x = eUnder y.1 k.1
def Rhold (s : St) (x : E) (t : St) : Prop := ∃ s2 c s4 y s6 k, want s sOpen = some s2 ∧ constant s2 = some c ∧ want c.2 sComma = some s4 ∧ Ok 0 eNil s4 y ∧ want y.2 sComma = some s6 ∧ number 2 1000 s6 = some k ∧ want k.2 sShut = some t ∧ x = eHold c.1 y.1 k.1
def Rleast (m : Bytes) (s : St) (x : E) (t : St) : Prop := ∃ s2 y s4 z, want s sOpen = some s2 ∧ Ok 0 eNil s2 y ∧ want y.2 sComma = some s4 ∧ Ok 0 eNil s4 z ∧ want z.2 sShut = some t ∧ x = eLeast m y.1 z.1

theorem atom_name {s : St} (h : s.tok.kind = 1) (x : E × St) : Ok 8 eNil s x ↔ (name s).map (fun y => (eName y.1, y.2)) = some x := by
  constructor
  · intro kk
    obtain ⟨n, hn⟩ := inv_atom kk
    unfold atom at hn
    rw [if_pos h] at hn
    exact hn
  · intro kk
    refine ok_atom0 fun f => ?_
    unfold atom
    rw [if_pos h]
    exact kk
theorem atom_open {s : St} (h : sees s sOpen = true) (x : E × St) : Ok 8 eNil s x ↔ ∃ s1 y s3, adv s = some s1 ∧ Ok 0 eNil s1 y ∧ want y.2 sShut = some s3 ∧ x = (y.1, s3) := by
  constructor
  · intro kk
    obtain ⟨n, hn⟩ := inv_atom kk
    unfold atom at hn
    rw [if_neg (sees_no1 h), if_pos h] at hn
    obtain ⟨s1, h1, hn⟩ := Option.bind_eq_some_iff.1 hn
    obtain ⟨y, h2, hn⟩ := Option.bind_eq_some_iff.1 hn
    obtain ⟨s3, h3, hn⟩ := Option.map_eq_some_iff.1 hn
    exact ⟨s1, y, s3, h1, ⟨n, h2⟩, h3, hn.symm⟩
  · rintro ⟨s1, y, s3, h1, ⟨n, h2⟩, h3, rfl⟩
    refine ok_atom (n := n) ?_
    unfold atom
    rw [if_neg (sees_no1 h), if_pos h, h1, Option.bind_some, h2, Option.bind_some, h3]; rfl
theorem atom_fby {s : St} (h : sees s wFby = true) (x : E × St) : Ok 8 eNil s x ↔ ∃ s1, adv s = some s1 ∧ Rfby s1 x.1 x.2 := by
  have o1 := sees_other h (y := sOpen) (by decide)
  constructor
  · intro kk
    obtain ⟨n, hn⟩ := inv_atom kk
    unfold atom at hn
    rw [if_neg (sees_no1 h), o1, if_neg (by decide), if_pos h] at hn
    obtain ⟨s1, h1, hn⟩ := Option.bind_eq_some_iff.1 hn
    obtain ⟨s2, h2, hn⟩ := Option.bind_eq_some_iff.1 hn
    obtain ⟨c, h3, hn⟩ := Option.bind_eq_some_iff.1 hn
    obtain ⟨s4, h4, hn⟩ := Option.bind_eq_some_iff.1 hn
    obtain ⟨y, h5, hn⟩ := Option.bind_eq_some_iff.1 hn
    obtain ⟨s6, h6, rfl⟩ := Option.map_eq_some_iff.1 hn
    exact ⟨s1, h1, s2, c, s4, y, h2, h3, h4, ⟨n, h5⟩, h6, rfl⟩
  · rintro ⟨s1, h1, s2, c, s4, y, h2, h3, h4, ⟨n, h5⟩, h6, h7⟩
    refine ok_atom (n := n) ?_
    unfold atom
    rw [if_neg (sees_no1 h), o1, if_neg (by decide), if_pos h, h1, Option.bind_some, h2, Option.bind_some, h3, Option.bind_some, h4, Option.bind_some, h5, Option.bind_some, h6, ← h7]; rfl
theorem atom_under {s : St} (h : sees s wUnder = true) (x : E × St) : Ok 8 eNil s x ↔ ∃ s1, adv s = some s1 ∧ Runder s1 x.1 x.2 := by
  have o1 := sees_other h (y := sOpen) (by decide)
  have o2 := sees_other h (y := wFby) (by decide)
  constructor
  · intro kk
    obtain ⟨n, hn⟩ := inv_atom kk
    unfold atom at hn
    rw [if_neg (sees_no1 h), o1, if_neg (by decide), o2, if_neg (by decide), if_pos h] at hn
    obtain ⟨s1, h1, hn⟩ := Option.bind_eq_some_iff.1 hn
    obtain ⟨s2, h2, hn⟩ := Option.bind_eq_some_iff.1 hn
    obtain ⟨y, h3, hn⟩ := Option.bind_eq_some_iff.1 hn
    obtain ⟨s4, h4, hn⟩ := Option.bind_eq_some_iff.1 hn
    obtain ⟨k, h5, hn⟩ := Option.bind_eq_some_iff.1 hn
    obtain ⟨s6, h6, rfl⟩ := Option.map_eq_some_iff.1 hn
    exact ⟨s1, h1, s2, y, s4, k, h2, ⟨n, h3⟩, h4, h5, h6, rfl⟩
  · rintro ⟨s1, h1, s2, y, s4, k, h2, ⟨n, h3⟩, h4, h5, h6, h7⟩
    refine ok_atom (n := n) ?_
    unfold atom
    rw [if_neg (sees_no1 h), o1, if_neg (by decide), o2, if_neg (by decide), if_pos h, h1, Option.bind_some, h2, Option.bind_some, h3, Option.bind_some, h4, Option.bind_some, h5, Option.bind_some, h6, ← h7]; rfl
theorem atom_hold {s : St} (h : sees s wHold = true) (x : E × St) : Ok 8 eNil s x ↔ ∃ s1, adv s = some s1 ∧ Rhold s1 x.1 x.2 := by
  have o1 := sees_other h (y := sOpen) (by decide)
  have o2 := sees_other h (y := wFby) (by decide)
  have o3 := sees_other h (y := wUnder) (by decide)
  constructor
  · intro kk
    obtain ⟨n, hn⟩ := inv_atom kk
    unfold atom at hn
    rw [if_neg (sees_no1 h), o1, if_neg (by decide), o2, if_neg (by decide), o3, if_neg (by decide), if_pos h] at hn
    obtain ⟨s1, h1, hn⟩ := Option.bind_eq_some_iff.1 hn
    obtain ⟨s2, h2, hn⟩ := Option.bind_eq_some_iff.1 hn
    obtain ⟨c, h3, hn⟩ := Option.bind_eq_some_iff.1 hn
    obtain ⟨s4, h4, hn⟩ := Option.bind_eq_some_iff.1 hn
    obtain ⟨y, h5, hn⟩ := Option.bind_eq_some_iff.1 hn
    obtain ⟨s6, h6, hn⟩ := Option.bind_eq_some_iff.1 hn
    obtain ⟨k, h7, hn⟩ := Option.bind_eq_some_iff.1 hn
    obtain ⟨s8, h8, rfl⟩ := Option.map_eq_some_iff.1 hn
    exact ⟨s1, h1, s2, c, s4, y, s6, k, h2, h3, h4, ⟨n, h5⟩, h6, h7, h8, rfl⟩
  · rintro ⟨s1, h1, s2, c, s4, y, s6, k, h2, h3, h4, ⟨n, h5⟩, h6, h7, h8, h9⟩
    refine ok_atom (n := n) ?_
    unfold atom
    rw [if_neg (sees_no1 h), o1, if_neg (by decide), o2, if_neg (by decide), o3, if_neg (by decide), if_pos h, h1, Option.bind_some, h2, Option.bind_some, h3, Option.bind_some, h4, Option.bind_some, h5, Option.bind_some, h6, Option.bind_some, h7, Option.bind_some, h8, ← h9]; rfl
theorem atom_least {s : St} {m : Bytes} (hm : m = wMin ∨ m = wMax) (h : sees s m = true) (x : E × St) : Ok 8 eNil s x ↔ ∃ s1, adv s = some s1 ∧ Rleast m s1 x.1 x.2 := by
  have o1 : sees s sOpen = false := sees_other h (by rcases hm with rfl | rfl <;> decide)
  have o2 : sees s wFby = false := sees_other h (by rcases hm with rfl | rfl <;> decide)
  have o3 : sees s wUnder = false := sees_other h (by rcases hm with rfl | rfl <;> decide)
  have o4 : sees s wHold = false := sees_other h (by rcases hm with rfl | rfl <;> decide)
  have o5 : (sees s wMin || sees s wMax) = true := by
    rcases hm with rfl | rfl
    · rw [h]; rfl
    · rw [h]; simp
  have ht := (sees_kind3 h).2
  constructor
  · intro kk
    obtain ⟨n, hn⟩ := inv_atom kk
    unfold atom at hn
    rw [if_neg (sees_no1 h), o1, if_neg (by decide), o2, if_neg (by decide), o3, if_neg (by decide), o4, if_neg (by decide), if_pos o5] at hn
    obtain ⟨s1, h1, hn⟩ := Option.bind_eq_some_iff.1 hn
    obtain ⟨s2, h2, hn⟩ := Option.bind_eq_some_iff.1 hn
    obtain ⟨y, h3, hn⟩ := Option.bind_eq_some_iff.1 hn
    obtain ⟨s4, h4, hn⟩ := Option.bind_eq_some_iff.1 hn
    obtain ⟨z, h5, hn⟩ := Option.bind_eq_some_iff.1 hn
    obtain ⟨s6, h6, rfl⟩ := Option.map_eq_some_iff.1 hn
    exact ⟨s1, h1, s2, y, s4, z, h2, ⟨n, h3⟩, h4, ⟨n, h5⟩, h6, by rw [ht]⟩
  · rintro ⟨s1, h1, s2, y, s4, z, h2, ⟨n, h3⟩, h4, ⟨n2, h5⟩, h6, h7⟩
    have f3 := px_le (show n ≤ n + n2 by omega) h3
    have f5 := px_le (show n2 ≤ n + n2 by omega) h5
    refine ok_atom (n := n + n2) ?_
    unfold atom
    rw [if_neg (sees_no1 h), o1, if_neg (by decide), o2, if_neg (by decide), o3, if_neg (by decide), o4, if_neg (by decide), if_pos o5, h1, Option.bind_some, h2, Option.bind_some, f3, Option.bind_some, h4, Option.bind_some, f5, Option.bind_some, h6, ht, ← h7]; rfl
theorem atom_lit {s : St} (h0 : s.tok.kind ≠ 1) (o1 : sees s sOpen = false) (o2 : sees s wFby = false) (o3 : sees s wUnder = false) (o4 : sees s wHold = false) (o5 : sees s wMin = false) (o6 : sees s wMax = false) (x : E × St) :
    Ok 8 eNil s x ↔ literal s = some x := by
  constructor
  · intro kk
    obtain ⟨n, hn⟩ := inv_atom kk
    unfold atom at hn
    rw [if_neg h0, o1, if_neg (by decide), o2, if_neg (by decide), o3, if_neg (by decide), o4, if_neg (by decide), o5, o6, if_neg (by decide)] at hn
    exact hn
  · intro kk
    refine ok_atom0 fun f => ?_
    unfold atom
    rw [if_neg h0, o1, if_neg (by decide), o2, if_neg (by decide), o3, if_neg (by decide), o4, if_neg (by decide), o5, o6, if_neg (by decide)]
    exact kk

end Mil
end Go.Proofs.YtibbjohkiigffaaGreatDoor
namespace Go.Proofs.YtibbjohkiigffaaGreatDoor
namespace Mil
open Go.Deep

def Res (s : St) (l : Nat) (x : E × St) : Prop := wf x.1 false ∧ StOk x.2 ∧ used s + len x.1 l ≤ used x.2
def Fine (f : Nat → E → St → Option (E × St)) : Prop := ∀ t e s x, f t e s = some x → StOk s → (t ≤ 8 → Res s t x) ∧
  (∀ l, t = 10 + l → 0 < l → l < 8 → wf e false → wf x.1 false ∧ StOk x.2 ∧ used s + len x.1 l ≤ used x.2 + len e (leftOf l))

theorem Fwd.ok {s s1 : St} (h : Fwd s s1) : StOk s1 := h.1
theorem Fwd.eq {s s1 : St} (h : Fwd s s1) : used s1 = used s + 1 := h.2

theorem atom_ok {f : Nat → E → St → Option (E × St)} (hf : Fine f) {s : St} {x : E × St} (h : atom f s = some x) (hs : StOk s) : Res s 8 x := by
  have ex : ∀ {s1 : St} {y : E × St}, f 0 eNil s1 = some y → StOk s1 → wf y.1 false ∧ StOk y.2 ∧ used s1 + (toks y.1).length ≤ used y.2 := fun {s1 y} h1 h2 => by
    obtain ⟨a, b, c⟩ := (hf 0 eNil s1 y h1 h2).1 (by omega)
    rw [len_tight (Nat.zero_le _)] at c
    exact ⟨a, b, c⟩
  unfold atom at h
  by_cases c1 : s.tok.kind = 1
  · rw [if_pos c1] at h
    obtain ⟨y, h1, rfl⟩ := Option.map_eq_some_iff.1 h
    obtain ⟨k1, k2⟩ := name_ok h1 hs
    exact ⟨Or.inr (Or.inr (Or.inl ⟨rfl, rfl, k1, rfl, rfl⟩)), k2.1, by rw [k2.2]; exact Nat.le_refl _⟩
  rw [if_neg c1] at h
  by_cases c2 : sees s sOpen = true
  · rw [if_pos c2] at h
    obtain ⟨s1, h1, h⟩ := Option.bind_eq_some_iff.1 h
    obtain ⟨y, h2, h⟩ := Option.bind_eq_some_iff.1 h
    obtain ⟨s3, h3, rfl⟩ := Option.map_eq_some_iff.1 h
    have f1 := adv_ok h1 hs (sees_kind c2).1
    obtain ⟨k1, k2, k3⟩ := ex h2 f1.1
    have f3 := want_ok h3 k2
    refine ⟨k1, f3.1, ?_⟩
    show used s + len y.1 8 ≤ used s3
    have := f1.2
    have := f3.2
    by_cases ht : tight y.1 < 8
    · rw [len_less ht]; omega
    · rw [len_tight (by omega)]; omega
  rw [if_neg c2] at h
  by_cases c3 : sees s wFby = true
  · rw [if_pos c3] at h
    obtain ⟨s1, h1, h⟩ := Option.bind_eq_some_iff.1 h
    obtain ⟨s2, h2, h⟩ := Option.bind_eq_some_iff.1 h
    obtain ⟨c, h3, h⟩ := Option.bind_eq_some_iff.1 h
    obtain ⟨s4, h4, h⟩ := Option.bind_eq_some_iff.1 h
    obtain ⟨y, h5, h⟩ := Option.bind_eq_some_iff.1 h
    obtain ⟨s6, h6, rfl⟩ := Option.map_eq_some_iff.1 h
    have f1 := adv_ok h1 hs (sees_kind c3).1
    have f2 := want_ok h2 f1.1
    obtain ⟨k1, k2, k3⟩ := constant_ok h3 f2.1
    have f4 := want_ok h4 k2
    obtain ⟨g1, g2, g3⟩ := ex h5 f4.1
    have f6 := want_ok h6 g2
    refine ⟨Or.inr (Or.inr (Or.inr (Or.inr (Or.inr (Or.inr (Or.inl ⟨rfl, rfl, rfl, k1, g1⟩)))))), f6.1, ?_⟩
    have hl : len (eFby c.1 y.1) 8 = (toks c.1).length + (toks y.1).length + 4 := by
      rw [len_tight (e := eFby c.1 y.1) (l := 8) (Nat.le_refl 8)]
      show (fix wFby :: fix sOpen :: (toks c.1 ++ fix sComma :: (toks y.1 ++ [fix sShut]))).length = _
      simp; omega
    show used s + len (eFby c.1 y.1) 8 ≤ used s6
    have := f1.2; have := f2.2; have := f4.2; have := f6.2
    omega
  rw [if_neg c3] at h
  by_cases c4 : sees s wUnder = true
  · rw [if_pos c4] at h
    obtain ⟨s1, h1, h⟩ := Option.bind_eq_some_iff.1 h
    obtain ⟨s2, h2, h⟩ := Option.bind_eq_some_iff.1 h
    obtain ⟨y, h3, h⟩ := Option.bind_eq_some_iff.1 h
    obtain ⟨s4, h4, h⟩ := Option.bind_eq_some_iff.1 h
    obtain ⟨k, h5, h⟩ := Option.bind_eq_some_iff.1 h
    obtain ⟨s6, h6, rfl⟩ := Option.map_eq_some_iff.1 h
    have f1 := adv_ok h1 hs (sees_kind c4).1
    have f2 := want_ok h2 f1.1
    obtain ⟨g1, g2, g3⟩ := ex h3 f2.1
    have f4 := want_ok h4 g2
    obtain ⟨b1, b2, f5⟩ := number_ok (by omega) h5 f4.1
    have f6 := want_ok h6 f5.1
    refine ⟨Or.inr (Or.inr (Or.inr (Or.inr (Or.inr (Or.inr (Or.inr (Or.inl ⟨rfl, rfl, by omega, by omega, g1, rfl⟩))))))), f6.1, ?_⟩
    have hl : len (eUnder y.1 k.1) 8 = (toks y.1).length + 5 := by
      rw [len_tight (e := eUnder y.1 k.1) (l := 8) (Nat.le_refl 8)]
      show (fix wUnder :: fix sOpen :: (toks y.1 ++ [fix sComma, num k.1, fix sShut])).length = _
      simp
    show used s + len (eUnder y.1 k.1) 8 ≤ used s6
    have := f1.2; have := f2.2; have := f4.2; have := f5.2; have := f6.2
    omega
  rw [if_neg c4] at h
  by_cases c5 : sees s wHold = true
  · rw [if_pos c5] at h
    obtain ⟨s1, h1, h⟩ := Option.bind_eq_some_iff.1 h
    obtain ⟨s2, h2, h⟩ := Option.bind_eq_some_iff.1 h
    obtain ⟨c, h3, h⟩ := Option.bind_eq_some_iff.1 h
    obtain ⟨s4, h4, h⟩ := Option.bind_eq_some_iff.1 h
    obtain ⟨y, h5, h⟩ := Option.bind_eq_some_iff.1 h
    obtain ⟨s6, h6, h⟩ := Option.bind_eq_some_iff.1 h
    obtain ⟨k, h7, h⟩ := Option.bind_eq_some_iff.1 h
    obtain ⟨s8, h8, rfl⟩ := Option.map_eq_some_iff.1 h
    have f1 := adv_ok h1 hs (sees_kind c5).1
    have f2 := want_ok h2 f1.1
    obtain ⟨k1, k2, k3⟩ := constant_ok h3 f2.1
    have f4 := want_ok h4 k2
    obtain ⟨g1, g2, g3⟩ := ex h5 f4.1
    have f6 := want_ok h6 g2
    obtain ⟨b1, b2, f7⟩ := number_ok (by omega) h7 f6.1
    have f8 := want_ok h8 f7.1
    refine ⟨Or.inr (Or.inr (Or.inr (Or.inr (Or.inr (Or.inr (Or.inr (Or.inr (Or.inl ⟨rfl, rfl, by omega, by omega, k1, g1⟩)))))))), f8.1, ?_⟩
    have hl : len (eHold c.1 y.1 k.1) 8 = (toks c.1).length + (toks y.1).length + 6 := by
      rw [len_tight (e := eHold c.1 y.1 k.1) (l := 8) (Nat.le_refl 8)]
      show (fix wHold :: fix sOpen :: (toks c.1 ++ fix sComma :: (toks y.1 ++ [fix sComma, num k.1, fix sShut]))).length = _
      simp; omega
    show used s + len (eHold c.1 y.1 k.1) 8 ≤ used s8
    have := f1.2; have := f2.2; have := f4.2; have := f6.2; have := f7.2; have := f8.2
    omega
  rw [if_neg c5] at h
  by_cases c6 : (sees s wMin || sees s wMax) = true
  · rw [if_pos c6] at h
    obtain ⟨s1, h1, h⟩ := Option.bind_eq_some_iff.1 h
    obtain ⟨s2, h2, h⟩ := Option.bind_eq_some_iff.1 h
    obtain ⟨y, h3, h⟩ := Option.bind_eq_some_iff.1 h
    obtain ⟨s4, h4, h⟩ := Option.bind_eq_some_iff.1 h
    obtain ⟨z, h5, h⟩ := Option.bind_eq_some_iff.1 h
    obtain ⟨s6, h6, rfl⟩ := Option.map_eq_some_iff.1 h
    have hx : s.tok.kind ≠ 0 ∧ (s.tok.txt = wMin ∨ s.tok.txt = wMax) := by
      rcases Bool.or_eq_true_iff.1 c6 with c | c
      · exact ⟨(sees_kind c).1, Or.inl (sees_kind c).2⟩
      · exact ⟨(sees_kind c).1, Or.inr (sees_kind c).2⟩
    have f1 := adv_ok h1 hs hx.1
    have f2 := want_ok h2 f1.1
    obtain ⟨g1, g2, g3⟩ := ex h3 f2.1
    have f4 := want_ok h4 g2
    obtain ⟨k1, k2, k3⟩ := ex h5 f4.1
    have f6 := want_ok h6 k2
    refine ⟨Or.inr (Or.inr (Or.inr (Or.inr (Or.inr (Or.inr (Or.inr (Or.inr (Or.inr ⟨rfl, rfl, hx.2, g1, k1⟩)))))))), f6.1, ?_⟩
    have hl : len (eLeast s.tok.txt y.1 z.1) 8 = (toks y.1).length + (toks z.1).length + 4 := by
      rw [len_tight (e := eLeast s.tok.txt y.1 z.1) (l := 8) (Nat.le_refl 8)]
      show (fix s.tok.txt :: fix sOpen :: (toks y.1 ++ fix sComma :: (toks z.1 ++ [fix sShut]))).length = _
      simp; omega
    show used s + len (eLeast s.tok.txt y.1 z.1) 8 ≤ used s6
    have := f1.2; have := f2.2; have := f4.2; have := f6.2
    omega
  rw [if_neg c6] at h
  obtain ⟨k1, k2, k3⟩ := literal_ok h hs
  exact ⟨wf_const k1, k3.1, by rw [k2, k3.2]; exact Nat.le_refl _⟩

theorem step_ok {f : Nat → E → St → Option (E × St)} (hf : Fine f) : Fine (step f) := by
  intro t e s x h hs
  have ex : ∀ {s1 : St} {y : E × St}, f 0 eNil s1 = some y → StOk s1 → wf y.1 false ∧ StOk y.2 ∧ used s1 + (toks y.1).length ≤ used y.2 := fun {s1 y} h1 h2 => by
    obtain ⟨a, b, c⟩ := (hf 0 eNil s1 y h1 h2).1 (by omega)
    rw [len_tight (Nat.zero_le _)] at c
    exact ⟨a, b, c⟩
  unfold step at h
  by_cases t0 : t = 0
  · rw [if_pos t0] at h
    subst t0
    refine ⟨fun _ => ?_, fun l hl => by omega⟩
    by_cases c1 : sees s wIf = true
    · rw [if_pos c1] at h
      obtain ⟨s1, h1, h⟩ := Option.bind_eq_some_iff.1 h
      obtain ⟨a, h2, h⟩ := Option.bind_eq_some_iff.1 h
      obtain ⟨s3, h3, h⟩ := Option.bind_eq_some_iff.1 h
      obtain ⟨b, h4, h⟩ := Option.bind_eq_some_iff.1 h
      obtain ⟨s5, h5, h⟩ := Option.bind_eq_some_iff.1 h
      obtain ⟨c, h6, rfl⟩ := Option.map_eq_some_iff.1 h
      have f1 := adv_ok h1 hs (sees_kind c1).1
      obtain ⟨a1, a2, a3⟩ := ex h2 f1.1
      have f3 := want_ok h3 a2
      obtain ⟨b1, b2, b3⟩ := ex h4 f3.1
      have f5 := want_ok h5 b2
      obtain ⟨d1, d2, d3⟩ := ex h6 f5.1
      refine ⟨Or.inr (Or.inr (Or.inr (Or.inr (Or.inr (Or.inl ⟨rfl, rfl, rfl, a1, rfl, rfl, rfl, b1, d1⟩))))), d2, ?_⟩
      have hl : len (eIf a.1 b.1 c.1) 0 = (toks a.1).length + (toks b.1).length + (toks c.1).length + 3 := by
        rw [len_tight (Nat.zero_le _)]
        show (fix wIf :: (toks a.1 ++ fix wThen :: (toks b.1 ++ fix wElse :: toks c.1))).length = _
        simp; omega
      show used s + len (eIf a.1 b.1 c.1) 0 ≤ used c.2
      have := f1.2; have := f3.2; have := f5.2
      omega
    · rw [if_neg c1] at h
      obtain ⟨k1, k2, k3⟩ := (hf 1 eNil s x h hs).1 (by omega)
      exact ⟨k1, k2, by have := len_mono x.1 (Nat.zero_le 1); omega⟩
  rw [if_neg t0] at h
  by_cases t8 : t = 8
  · rw [if_pos t8] at h
    subst t8
    exact ⟨fun _ => atom_ok hf h hs, fun l hl => by omega⟩
  rw [if_neg t8] at h
  by_cases tl : t < 8
  · rw [if_pos tl] at h
    refine ⟨fun _ => ?_, fun l hl => by omega⟩
    by_cases c1 : (t = 3 ∧ sees s wNot = true) ∨ (t = 7 ∧ sees s sMinus = true)
    · rw [if_pos c1] at h
      obtain ⟨s1, h1, h⟩ := Option.bind_eq_some_iff.1 h
      obtain ⟨a, h2, rfl⟩ := Option.map_eq_some_iff.1 h
      have hk : s.tok.kind ≠ 0 ∧ (s.tok.txt = wNot ∨ s.tok.txt = sMinus) ∧ preLvl s.tok.txt = t := by
        rcases c1 with ⟨rfl, c⟩ | ⟨rfl, c⟩
        · exact ⟨(sees_kind c).1, Or.inl (sees_kind c).2, by rw [(sees_kind c).2]; decide⟩
        · exact ⟨(sees_kind c).1, Or.inr (sees_kind c).2, by rw [(sees_kind c).2]; decide⟩
      have f1 := adv_ok h1 hs hk.1
      obtain ⟨a1, a2, a3⟩ := (hf t eNil s1 a h2 f1.1).1 (by omega)
      refine ⟨Or.inr (Or.inr (Or.inr (Or.inl ⟨rfl, rfl, hk.2.1, a1, rfl⟩))), a2, ?_⟩
      have hl : len (ePre s.tok.txt a.1) t = len a.1 t + 1 := by
        rw [len_tight (by rw [tight_pre, hk.2.2]; exact Nat.le_refl _)]
        show (fix s.tok.txt :: brackT (tight a.1) (preLvl s.tok.txt) (toks a.1)).length = _
        rw [hk.2.2]; rfl
      show used s + len (ePre s.tok.txt a.1) t ≤ used a.2
      have := f1.2
      omega
    · rw [if_neg c1] at h
      obtain ⟨a, h1, h2⟩ := Option.bind_eq_some_iff.1 h
      obtain ⟨a1, a2, a3⟩ := (hf (t + 1) eNil s a h1 hs).1 (by omega)
      obtain ⟨b1, b2, b3⟩ := (hf (10 + t) a.1 a.2 x h2 a2).2 t rfl (by omega) tl a1
      refine ⟨b1, b2, ?_⟩
      have hle : leftOf t ≤ t + 1 := by unfold leftOf; split <;> omega
      have := len_mono a.1 hle
      omega
  rw [if_neg tl] at h
  refine ⟨fun h8 => by omega, fun l hl l0 l8 he => ?_⟩
  have e10 : t - 10 = l := by omega
  rw [e10] at h
  by_cases c1 : opAt s = l
  · rw [if_pos c1] at h
    obtain ⟨s1, h1, h⟩ := Option.bind_eq_some_iff.1 h
    obtain ⟨b, h2, h⟩ := Option.bind_eq_some_iff.1 h
    have hk : s.tok.kind = 3 ∧ tightOf s.tok.txt = l := by
      unfold opAt at c1
      by_cases k3 : s.tok.kind = 3
      · rw [if_pos k3] at c1; exact ⟨k3, c1⟩
      · rw [if_neg k3] at c1; omega
    have f1 := adv_ok h1 hs (by omega)
    obtain ⟨b1, b2, b3⟩ := (hf (l + 1) eNil s1 b h2 f1.1).1 (by omega)
    have hw : wf (eTwo s.tok.txt e b.1) false := Or.inr (Or.inr (Or.inr (Or.inr (Or.inl ⟨rfl, rfl, by omega, he, b1⟩))))
    have hlen : (toks (eTwo s.tok.txt e b.1)).length = len e (leftOf l) + len b.1 (l + 1) + 1 := by
      show (brackT (tight e) (leftOf (tightOf s.tok.txt)) (toks e) ++ fix s.tok.txt :: brackT (tight b.1) (tightOf s.tok.txt + 1) (toks b.1)).length = _
      rw [hk.2]; simp [len]; omega
    have := f1.2
    by_cases c4 : t = 14
    · rw [if_pos c4] at h
      obtain rfl := Option.some.inj h
      refine ⟨hw, b2, ?_⟩
      show used s + len (eTwo s.tok.txt e b.1) l ≤ used b.2 + len e (leftOf l)
      rw [len_tight (by rw [tight_two]; omega)]
      omega
    · rw [if_neg c4] at h
      obtain ⟨d1, d2, d3⟩ := (hf t _ b.2 x h b2).2 l hl l0 l8 hw
      refine ⟨d1, d2, ?_⟩
      have e1 : leftOf l = l := by unfold leftOf; rw [if_neg (by omega)]
      rw [e1] at d3 hlen ⊢
      rw [len_tight (e := eTwo s.tok.txt e b.1) (by rw [tight_two]; omega)] at d3
      omega
  · rw [if_neg c1] at h
    obtain rfl := Option.some.inj h
    refine ⟨he, hs, ?_⟩
    show used s + len e l ≤ used s + len e (leftOf l)
    have hle : l ≤ leftOf l := by unfold leftOf; split <;> omega
    have := len_mono e hle
    omega

theorem px_ok : ∀ n, Fine (px n)
  | 0 => fun _ _ _ _ h => by cases h
  | n + 1 => step_ok (px_ok n)

end Mil
end Go.Proofs.YtibbjohkiigffaaGreatDoor
namespace Go.Proofs.YtibbjohkiigffaaGreatDoor
namespace Mil
open Go.Deep

def moreToks : List Bytes → List Tok
  | [] => []
  | y :: r => fix sComma :: nam y :: moreToks r
def moreText : List Bytes → Bytes
  | [] => []
  | y :: r => commaB ++ y ++ moreText r
theorem namesText_cons : ∀ (x : Bytes) (r : List Bytes), namesText (x :: r) = x ++ moreText r
  | x, [] => by simp [namesText, moreText]
  | x, y :: r => by
    rw [namesText, namesText_cons y r, moreText]
    · simp
    · intro h; cases h

/-- The tokens of an item. -/
def itemToks (i : It) : List Tok :=
  if i.kind = 1 then [fix wInput, nam i.nm, fix sColon, fix (tyText i.ty), fix wEvery, num i.every, fix sSemi]
  else if i.kind = 2 then fix wOutput :: nam (i.names.headD []) :: (moreToks i.names.tail ++ [fix sSemi])
  else nam i.nm :: fix sColon :: fix (tyText i.ty) :: fix sIs :: (toks i.body ++ [fix sSemi])

def ItOk (i : It) : Prop :=
  (∃ x t k, i = ⟨1, x, t, k, [], eNil⟩ ∧ NameOk x ∧ (t = 0 ∨ t = 1) ∧ 1 ≤ k ∧ k ≤ 1000000) ∨ (∃ x r, i = ⟨2, [], 0, 0, x :: r, eNil⟩ ∧ NameOk x ∧ ∀ y, y ∈ r → NameOk y) ∨
  (∃ x t e, i = ⟨3, x, t, 0, [], e⟩ ∧ NameOk x ∧ (t = 0 ∨ t = 1) ∧ wf e false)

theorem moreToks_len : ∀ l : List Bytes, (moreToks l).length = 2 * l.length
  | [] => rfl
  | _ :: r => by rw [moreToks, List.length_cons, List.length_cons, moreToks_len r, List.length_cons]; omega

theorem pnames_ok : ∀ (n : Nat) (acc : List Bytes) (s : St) (x : List Bytes × St), pnames n acc s = some x → StOk s → ∃ more, x.1 = acc ++ more ∧ (∀ y, y ∈ more → NameOk y) ∧ StOk x.2 ∧ used s + 2 * more.length ≤ used x.2
  | 0, _, _, _, h, _ => by cases h
  | n + 1, acc, s, x, h, hs => by
    rw [pnames] at h
    by_cases c : sees s sComma = true
    · rw [if_pos c] at h
      obtain ⟨s1, h1, h⟩ := Option.bind_eq_some_iff.1 h
      obtain ⟨y, h2, h⟩ := Option.bind_eq_some_iff.1 h
      have f1 := adv_ok h1 hs (sees_kind c).1
      obtain ⟨k1, f2⟩ := name_ok h2 f1.1
      obtain ⟨more, e1, e2, e3, e4⟩ := pnames_ok n _ _ x h f2.1
      refine ⟨y.1 :: more, by rw [e1]; simp, ?_, e3, ?_⟩
      · intro z hz
        rcases List.mem_cons.1 hz with rfl | hz
        · exact k1
        · exact e2 z hz
      · have := f1.2; have := f2.2
        simp; omega
    · rw [if_neg c] at h
      obtain rfl := Option.some.inj h
      exact ⟨[], by simp, (fun y hy => by cases hy), hs, by simp⟩

theorem pitem_ok {n : Nat} {s : St} {x : It × St} (h : pitem n s = some x) (hs : StOk s) : ItOk x.1 ∧ StOk x.2 ∧ used s + (itemToks x.1).length ≤ used x.2 := by
  unfold pitem at h
  by_cases c1 : sees s wInput = true
  · rw [if_pos c1] at h
    obtain ⟨s1, h1, h⟩ := Option.bind_eq_some_iff.1 h
    obtain ⟨y, h2, h⟩ := Option.bind_eq_some_iff.1 h
    obtain ⟨s3, h3, h⟩ := Option.bind_eq_some_iff.1 h
    obtain ⟨t, h4, h⟩ := Option.bind_eq_some_iff.1 h
    obtain ⟨s5, h5, h⟩ := Option.bind_eq_some_iff.1 h
    obtain ⟨k, h6, h⟩ := Option.bind_eq_some_iff.1 h
    obtain ⟨s7, h7, rfl⟩ := Option.map_eq_some_iff.1 h
    have f1 := adv_ok h1 hs (sees_kind c1).1
    obtain ⟨n1, f2⟩ := name_ok h2 f1.1
    have f3 := want_ok h3 f2.1
    obtain ⟨t1, f4⟩ := ftype_ok h4 f3.1
    have f5 := want_ok h5 f4.1
    obtain ⟨b1, b2, f6⟩ := number_ok (by omega) h6 f5.1
    have f7 := want_ok h7 f6.1
    refine ⟨Or.inl ⟨y.1, t.1, k.1, rfl, n1, t1, by omega, by omega⟩, f7.1, ?_⟩
    have := f1.2; have := f2.2; have := f3.2; have := f4.2; have := f5.2; have := f6.2; have := f7.2
    show used s + 7 ≤ used s7
    omega
  rw [if_neg c1] at h
  by_cases c2 : sees s wOutput = true
  · rw [if_pos c2] at h
    obtain ⟨s1, h1, h⟩ := Option.bind_eq_some_iff.1 h
    obtain ⟨y, h2, h⟩ := Option.bind_eq_some_iff.1 h
    obtain ⟨l, h3, h⟩ := Option.bind_eq_some_iff.1 h
    obtain ⟨s4, h4, rfl⟩ := Option.map_eq_some_iff.1 h
    have f1 := adv_ok h1 hs (sees_kind c2).1
    obtain ⟨n1, f2⟩ := name_ok h2 f1.1
    obtain ⟨more, e1, e2, e3, e4⟩ := pnames_ok n _ _ l h3 f2.1
    have f4 := want_ok h4 e3
    refine ⟨Or.inr (Or.inl ⟨y.1, more, by rw [e1]; rfl, n1, e2⟩), f4.1, ?_⟩
    have := f1.2; have := f2.2; have := f4.2
    have hl : (itemToks ⟨2, [], 0, 0, l.1, eNil⟩).length = 2 * more.length + 3 := by
      rw [e1]
      show (fix wOutput :: nam y.1 :: (moreToks more ++ [fix sSemi])).length = _
      simp [moreToks_len]
    show used s + (itemToks ⟨2, [], 0, 0, l.1, eNil⟩).length ≤ used s4
    omega
  rw [if_neg c2] at h
  obtain ⟨y, h1, h⟩ := Option.bind_eq_some_iff.1 h
  obtain ⟨s2, h2, h⟩ := Option.bind_eq_some_iff.1 h
  obtain ⟨t, h3, h⟩ := Option.bind_eq_some_iff.1 h
  obtain ⟨s4, h4, h⟩ := Option.bind_eq_some_iff.1 h
  obtain ⟨e, h5, h⟩ := Option.bind_eq_some_iff.1 h
  obtain ⟨s6, h6, rfl⟩ := Option.map_eq_some_iff.1 h
  obtain ⟨n1, f1⟩ := name_ok h1 hs
  have f2 := want_ok h2 f1.1
  obtain ⟨t1, f3⟩ := ftype_ok h3 f2.1
  have f4 := want_ok h4 f3.1
  obtain ⟨e1, e2, e3⟩ := (px_ok n 0 eNil s4 e h5 f4.1).1 (by omega)
  rw [len_tight (Nat.zero_le _)] at e3
  have f6 := want_ok h6 e2
  refine ⟨Or.inr (Or.inr ⟨y.1, t.1, e.1, rfl, n1, t1, e1⟩), f6.1, ?_⟩
  have := f1.2; have := f2.2; have := f3.2; have := f4.2; have := f6.2
  have hl : (itemToks ⟨3, y.1, t.1, 0, [], e.1⟩).length = (toks e.1).length + 5 := by
    show (nam y.1 :: fix sColon :: fix (tyText t.1) :: fix sIs :: (toks e.1 ++ [fix sSemi])).length = _
    simp
  show used s + (itemToks ⟨3, y.1, t.1, 0, [], e.1⟩).length ≤ used s6
  omega

def allToks (l : List It) : List Tok := (l.map itemToks).flatten

theorem pprog_ok : ∀ (n : Nat) (acc : List It) (s : St) (l : List It), pprog n acc s = some l → StOk s → acc.length ≤ 60 → ∃ more, l = acc ++ more ∧ (∀ i, i ∈ more → ItOk i) ∧ l.length ≤ 60 ∧ used s + (allToks more).length ≤ 600
  | 0, _, _, _, h, _, _ => by cases h
  | n + 1, acc, s, l, h, hs, ha => by
    rw [pprog] at h
    by_cases c0 : s.tok.kind = 0
    · rw [if_pos c0] at h
      obtain rfl := Option.some.inj h
      refine ⟨[], by simp, (fun i hi => by cases hi), ha, ?_⟩
      unfold used; rw [if_pos c0]
      exact hs.2.2
    · rw [if_neg c0] at h
      by_cases c1 : acc.length = 60
      · rw [if_pos c1] at h; cases h
      · rw [if_neg c1] at h
        obtain ⟨x, h1, h2⟩ := Option.bind_eq_some_iff.1 h
        obtain ⟨k1, k2, k3⟩ := pitem_ok h1 hs
        obtain ⟨more, e1, e2, e3, e4⟩ := pprog_ok n _ _ l h2 k2 (by simp; omega)
        refine ⟨x.1 :: more, by rw [e1]; simp, ?_, e3, ?_⟩
        · intro i hi
          rcases List.mem_cons.1 hi with rfl | hi
          · exact k1
          · exact e2 i hi
        · have : (allToks (x.1 :: more)).length = (itemToks x.1).length + (allToks more).length := by simp [allToks]
          omega

theorem parsed_ok {b : Bytes} {l : List It} (h : Parsed b l) : (∀ i, i ∈ l → ItOk i) ∧ l.length ≤ 60 ∧ (allToks l).length ≤ 600 := by
  obtain ⟨n, h⟩ := h
  unfold parse at h
  by_cases c : 4000 < b.length
  · rw [if_pos c] at h; cases h
  · rw [if_neg c] at h
    obtain ⟨s, h1, h2⟩ := Option.bind_eq_some_iff.1 h
    obtain ⟨k1, k2⟩ := adv'_ok (Nat.zero_le _) h1
    obtain ⟨more, e1, e2, e3, e4⟩ := pprog_ok n [] s l h2 k1 (by simp)
    have e5 : l = more := by simpa using e1
    rw [← e5] at e2 e4
    exact ⟨e2, e3, by omega⟩

/- From the text to the tokens. -/
theorem tyText_word {t : Nat} (h : t = 0 ∨ t = 1) : tyText t ∈ words := by rcases h with rfl | rfl <;> decide
theorem cut_name {x K : Bytes} (hx : NameOk x) (hK : NotN K) : cut (skip false (x ++ K)) = some (nam x, K) := by
  rw [cut_word hx.1 hx.2.1 hx.2.2.1 hK, if_neg (by rw [hx.2.2.2]; decide)]
theorem lx_more : ∀ (r : List Bytes) (K : Bytes), (∀ y, y ∈ r → NameOk y) → Lx (moreText r ++ 59 :: K) (moreToks r) (59 :: K)
  | [], _, _ => rfl
  | y :: r, K, h => by
    have e1 : moreText (y :: r) ++ 59 :: K = 44 :: 32 :: (y ++ (moreText r ++ 59 :: K)) := by simp [moreText, commaB]
    rw [e1]
    refine ⟨_, cut_comma _, Lx.blank ⟨_, cut_name (h y List.mem_cons_self) ?_, lx_more r K fun z hz => h z (List.mem_cons_of_mem _ hz)⟩⟩
    cases r with
    | nil => exact (del_semi K).notN
    | cons z q =>
      have : moreText (z :: q) ++ 59 :: K = 44 :: (32 :: (z ++ moreText q) ++ 59 :: K) := by simp [moreText, commaB]
      rw [this]
      exact (del_comma _).notN

theorem lx_item {i : It} (h : ItOk i) (K : Bytes) : Lx (itemText i ++ K) (itemToks i) (10 :: K) := by
  rcases h with ⟨x, t, k, rfl, hx, ht, h1, h2⟩ | ⟨x, r, rfl, hx, hr⟩ | ⟨x, t, e, rfl, hx, ht, he⟩
  · have e1 : itemText ⟨1, x, t, k, [], eNil⟩ ++ K = wInput ++ 32 :: (x ++ 32 :: 58 :: 32 :: (tyText t ++ 32 :: (wEvery ++ 32 :: (Lib.decDigits k ++ 59 :: 10 :: K)))) := by
      show wInput ++ blank ++ x ++ colonB ++ tyText t ++ blank ++ wEvery ++ blank ++ Lib.decDigits k ++ endB ++ K = _
      simp [blank, colonB, endB]
    rw [e1]
    refine ⟨_, cut_fixword (by decide) (del_blank _).notN, ?_⟩
    refine Lx.blank ⟨_, cut_name hx (del_blank _).notN, ?_⟩
    refine Lx.blank ⟨_, cut_colon _, ?_⟩
    refine Lx.blank ⟨_, cut_fixword (tyText_word ht) (del_blank _).notN, ?_⟩
    refine Lx.blank ⟨_, cut_fixword (by decide) (del_blank _).notN, ?_⟩
    refine Lx.blank ⟨_, cut_num (by unfold maxInt; omega) (del_semi _).notN, ?_⟩
    exact ⟨_, cut_semi _, rfl⟩
  · have e1 : itemText ⟨2, [], 0, 0, x :: r, eNil⟩ ++ K = wOutput ++ 32 :: (x ++ (moreText r ++ 59 :: 10 :: K)) := by
      show wOutput ++ blank ++ namesText (x :: r) ++ endB ++ K = _
      rw [namesText_cons]; simp [blank, endB]
    rw [e1]
    refine ⟨_, cut_fixword (by decide) (del_blank _).notN, ?_⟩
    refine Lx.blank ⟨_, cut_name hx ?_, ?_⟩
    · cases r with
      | nil => exact (del_semi _).notN
      | cons z q =>
        have : moreText (z :: q) ++ 59 :: 10 :: K = 44 :: (32 :: (z ++ moreText q) ++ 59 :: 10 :: K) := by simp [moreText, commaB]
        rw [this]
        exact (del_comma _).notN
    · exact Lx.append (lx_more r (10 :: K) hr) ⟨_, cut_semi _, rfl⟩
  · have e1 : itemText ⟨3, x, t, 0, [], e⟩ ++ K = x ++ 32 :: 58 :: 32 :: (tyText t ++ 32 :: 61 :: 32 :: (txt e ++ 59 :: 10 :: K)) := by
      show x ++ colonB ++ tyText t ++ isB ++ txt e ++ endB ++ K = _
      simp [colonB, isB, endB]
    rw [e1]
    refine ⟨_, cut_name hx (del_blank _).notN, ?_⟩
    refine Lx.blank ⟨_, cut_colon _, ?_⟩
    refine Lx.blank ⟨_, cut_fixword (tyText_word ht) (del_blank _).notN, ?_⟩
    refine Lx.blank ⟨_, cut_is _, ?_⟩
    show Lx _ (toks e ++ [fix sSemi]) _
    exact Lx.blankOf (Lx.append (cuts_all e he _ (del_semi _)) ⟨_, cut_semi _, rfl⟩) (by simp)

theorem itemToks_ne {i : It} (h : ItOk i) : itemToks i ≠ [] := by
  rcases h with ⟨x, t, k, rfl, _⟩ | ⟨x, r, rfl, _⟩ | ⟨x, t, e, rfl, _⟩ <;> simp [itemToks]

theorem Lx.lineOf {b b' : Bytes} {ts : List Tok} (h : Lx b ts b') (hne : ts ≠ []) : Lx (10 :: b) ts b' := by
  cases ts with
  | nil => exact absurd rfl hne
  | cons t r => exact h.line

/-- What is left behind a program's text: nothing, or a line's end. -/
def Left (K : Bytes) : Prop := K = [] ∨ K = [10]
theorem lx_print : ∀ l : List It, (∀ i, i ∈ l → ItOk i) → ∃ K, Left K ∧ Lx (print l) (allToks l) K
  | [], _ => ⟨[], Or.inl rfl, rfl⟩
  | i :: l, h => by
    obtain ⟨K, hK, hl⟩ := lx_print l fun j hj => h j (List.mem_cons_of_mem _ hj)
    have e1 : print (i :: l) = itemText i ++ print l := by simp [print]
    have e2 : allToks (i :: l) = itemToks i ++ allToks l := by simp [allToks]
    have h1 := lx_item (h i List.mem_cons_self) (print l)
    rw [e1, e2]
    cases l with
    | nil => exact ⟨[10], Or.inr rfl, h1.append rfl⟩
    | cons j r =>
      have hne : allToks (j :: r) ≠ [] := by
        have := itemToks_ne (h j (by simp))
        simp [allToks, this]
      exact ⟨K, hK, h1.append (hl.lineOf hne)⟩

theorem kind_toks : ∀ e : E, wf e false → ∀ t, t ∈ toks e → t.kind ≠ 0 := by
  have br : ∀ {e : E} {l : Nat} {t : Tok}, (∀ t, t ∈ toks e → t.kind ≠ 0) → t ∈ brackT (tight e) l (toks e) → t.kind ≠ 0 := fun {e l t} h ht => by
    unfold brackT at ht
    split at ht
    · rcases List.mem_cons.1 ht with rfl | ht
      · exact (by decide)
      · rcases List.mem_append.1 ht with ht | ht
        · exact h t ht
        · rw [List.mem_singleton.1 ht]; decide
    · exact h t ht
  have fx : ∀ x : Bytes, (fix x).kind ≠ 0 := fun x => by simp [fix]
  have nm : ∀ k : Nat, (num k).kind ≠ 0 := fun k => by simp [num]
  have cs : ∀ {e : E}, isConst e → ∀ t, t ∈ toks e → t.kind ≠ 0 := fun {e} h t ht => by
    rcases h with ⟨k, hk, rfl⟩ | ⟨k, hk, rfl⟩ | ⟨k, hk, rfl⟩
    · rw [List.mem_singleton.1 ht]; exact nm k
    · rw [List.mem_singleton.1 ht]; exact fx _
    · have ht' : t ∈ [fix sMinus, num k] := ht
      simp only [List.mem_cons, List.not_mem_nil, or_false] at ht'
      rcases ht' with rfl | rfl
      · exact fx _
      · exact nm _
  apply wf_induct
  · intro k _ t ht; rw [List.mem_singleton.1 ht]; exact nm k
  · intro k _ t ht; rw [List.mem_singleton.1 ht]; exact fx _
  · intro x _ t ht; rw [List.mem_singleton.1 ht]; simp [nam]
  · intro x a _ _ ih t ht
    rcases List.mem_cons.1 ht with rfl | ht
    · exact fx _
    · exact br ih ht
  · intro x a b _ _ _ iha ihb t ht
    have ht' : t ∈ brackT (tight a) (leftOf (tightOf x)) (toks a) ++ fix x :: brackT (tight b) (tightOf x + 1) (toks b) := ht
    rcases List.mem_append.1 ht' with ht | ht
    · exact br iha ht
    · rcases List.mem_cons.1 ht with rfl | ht
      · exact fx _
      · exact br ihb ht
  · intro a b c _ _ _ iha ihb ihc t ht
    have ht' : t ∈ fix wIf :: (toks a ++ fix wThen :: (toks b ++ fix wElse :: toks c)) := ht
    simp only [List.mem_cons, List.mem_append] at ht'
    rcases ht' with rfl | ht | rfl | ht | rfl | ht
    · exact fx _
    · exact iha t ht
    · exact fx _
    · exact ihb t ht
    · exact fx _
    · exact ihc t ht
  · intro a b ha _ ih t ht
    have ht' : t ∈ fix wFby :: fix sOpen :: (toks a ++ fix sComma :: (toks b ++ [fix sShut])) := ht
    simp only [List.mem_cons, List.mem_append, List.not_mem_nil, or_false] at ht'
    rcases ht' with rfl | rfl | ht | rfl | ht | rfl
    · exact fx _
    · exact fx _
    · exact cs ha t ht
    · exact fx _
    · exact ih t ht
    · exact fx _
  · intro a k _ _ _ ih t ht
    have ht' : t ∈ fix wUnder :: fix sOpen :: (toks a ++ [fix sComma, num k, fix sShut]) := ht
    simp only [List.mem_cons, List.mem_append, List.not_mem_nil, or_false] at ht'
    rcases ht' with rfl | rfl | ht | rfl | rfl | rfl
    · exact fx _
    · exact fx _
    · exact ih t ht
    · exact fx _
    · exact nm _
    · exact fx _
  · intro a b k _ _ ha _ ih t ht
    have ht' : t ∈ fix wHold :: fix sOpen :: (toks a ++ fix sComma :: (toks b ++ [fix sComma, num k, fix sShut])) := ht
    simp only [List.mem_cons, List.mem_append, List.not_mem_nil, or_false] at ht'
    rcases ht' with rfl | rfl | ht | rfl | ht | rfl | rfl | rfl
    · exact fx _
    · exact fx _
    · exact cs ha t ht
    · exact fx _
    · exact ih t ht
    · exact fx _
    · exact nm _
    · exact fx _
  · intro x a b _ _ _ iha ihb t ht
    have ht' : t ∈ fix x :: fix sOpen :: (toks a ++ fix sComma :: (toks b ++ [fix sShut])) := ht
    simp only [List.mem_cons, List.mem_append, List.not_mem_nil, or_false] at ht'
    rcases ht' with rfl | rfl | ht | rfl | ht | rfl
    · exact fx _
    · exact fx _
    · exact iha t ht
    · exact fx _
    · exact ihb t ht
    · exact fx _

theorem kind_more : ∀ (r : List Bytes) (t : Tok), t ∈ moreToks r → t.kind ≠ 0
  | [], _, h => by cases h
  | y :: r, t, h => by
    rw [moreToks] at h
    simp only [List.mem_cons] at h
    rcases h with rfl | rfl | h
    · simp [fix]
    · simp [nam]
    · exact kind_more r t h
theorem kind_item {i : It} (h : ItOk i) : ∀ t, t ∈ itemToks i → t.kind ≠ 0 := by
  have fx : ∀ x : Bytes, (fix x).kind ≠ 0 := fun x => by simp [fix]
  have na : ∀ x : Bytes, (nam x).kind ≠ 0 := fun x => by simp [nam]
  intro t ht
  rcases h with ⟨x, q, k, rfl, _⟩ | ⟨x, r, rfl, _⟩ | ⟨x, q, e, rfl, _, _, he⟩
  · have ht' : t ∈ [fix wInput, nam x, fix sColon, fix (tyText q), fix wEvery, num k, fix sSemi] := ht
    simp only [List.mem_cons, List.not_mem_nil, or_false] at ht'
    rcases ht' with rfl | rfl | rfl | rfl | rfl | rfl | rfl
    · exact fx _
    · exact na _
    · exact fx _
    · exact fx _
    · exact fx _
    · simp [num]
    · exact fx _
  · have ht' : t ∈ fix wOutput :: nam x :: (moreToks r ++ [fix sSemi]) := ht
    simp only [List.mem_cons, List.mem_append, List.not_mem_nil, or_false] at ht'
    rcases ht' with rfl | rfl | ht | rfl
    · exact fx _
    · exact na _
    · exact kind_more r t ht
    · exact fx _
  · have ht' : t ∈ nam x :: fix sColon :: fix (tyText q) :: fix sIs :: (toks e ++ [fix sSemi]) := ht
    simp only [List.mem_cons, List.mem_append, List.not_mem_nil, or_false] at ht'
    rcases ht' with rfl | rfl | rfl | rfl | ht | rfl
    · exact na _
    · exact fx _
    · exact fx _
    · exact fx _
    · exact kind_toks e he t ht
    · exact fx _

/-- From the text's tokens to what the reader sees. -/
theorem sees_of_lx : ∀ (ts : List Tok) (b K : Bytes) (n : Nat) (s' : St), Lx b ts K → (∀ t, t ∈ ts → t.kind ≠ 0) → n + ts.length ≤ 600 → adv' K (n + ts.length) = some s' → ∃ s, adv' b n = some s ∧ Sees s ts s'
  | [], b, K, n, s', h, _, _, h' => by
    have e1 : b = K := h
    rw [e1]
    exact ⟨s', h', rfl⟩
  | t :: r, b, K, n, s', h, hk, hl, h' => by
    obtain ⟨b1, h1, h2⟩ := h
    have e1 : n + (t :: r).length = (n + 1) + r.length := by rw [List.length_cons]; omega
    rw [e1] at hl h'
    obtain ⟨s1, h3, h4⟩ := sees_of_lx r b1 K (n + 1) s' h2 (fun x hx => hk x (List.mem_cons_of_mem _ hx)) hl h'
    refine ⟨⟨t, b1, n + 1⟩, ?_, rfl, s1, h3, h4⟩
    unfold adv'
    rw [h1]
    simp only []
    rw [if_neg (hk t List.mem_cons_self), if_neg (by omega)]

theorem ftype_of {t : Nat} (ht : t = 0 ∨ t = 1) {s s' : St} (h : s.tok = fix (tyText t)) (h1 : adv s = some s') : ftype s = some (t, s') := by
  unfold ftype
  rcases ht with rfl | rfl
  · rw [sees_fix h, if_pos (by decide), h1]; rfl
  · rw [sees_fix h, if_neg (by decide), sees_fix h, if_pos (by decide), h1]; rfl

theorem pnames_of : ∀ (r acc : List Bytes) (s s' : St), Sees s (moreToks r) s' → sees s' sComma = false → ∃ n, pnames n acc s = some (acc ++ r, s')
  | [], acc, s, s', h, hc => by
    have : s = s' := h
    subst this
    exact ⟨1, by rw [pnames, if_neg (by rw [hc]; decide)]; simp⟩
  | y :: r, acc, s, s', h, hc => by
    obtain ⟨ht, s1, h1, ht1, s2, h2, h3⟩ := h
    obtain ⟨n, hn⟩ := pnames_of r (acc ++ [y]) s2 s' h3 hc
    refine ⟨n + 1, ?_⟩
    rw [pnames, if_pos (by rw [sees_fix ht]; decide), h1, Option.bind_some, name_of ht1 h2, Option.bind_some, hn]
    simp

theorem pnames_le : ∀ (n m : Nat) (acc : List Bytes) (s : St) (x : List Bytes × St), n ≤ m → pnames n acc s = some x → pnames m acc s = some x
  | 0, _, _, _, _, _, h => by cases h
  | n + 1, 0, _, _, _, hm, _ => by omega
  | n + 1, m + 1, acc, s, x, hm, h => by
    rw [pnames] at h ⊢
    by_cases c : sees s sComma = true
    · rw [if_pos c] at h ⊢
      obtain ⟨s1, h1, h⟩ := Option.bind_eq_some_iff.1 h
      obtain ⟨y, h2, h⟩ := Option.bind_eq_some_iff.1 h
      rw [h1, Option.bind_some, h2, Option.bind_some]
      exact pnames_le n m _ _ x (by omega) h
    · rw [if_neg c] at h ⊢; exact h

theorem pitem_le {n m : Nat} (hm : n ≤ m) {s : St} {x : It × St} (h : pitem n s = some x) : pitem m s = some x := by
  unfold pitem at h ⊢
  by_cases c1 : sees s wInput = true
  · rw [if_pos c1] at h ⊢; exact h
  rw [if_neg c1] at h ⊢
  by_cases c2 : sees s wOutput = true
  · rw [if_pos c2] at h ⊢
    refine (Imp.refl _).bind (fun _ => (Imp.refl _).bind (fun _ => Imp.bind (fun y hy => pnames_le n m _ _ y hm hy) (fun _ => Imp.refl _))) x h
  rw [if_neg c2] at h ⊢
  refine (Imp.refl _).bind (fun _ => (Imp.refl _).bind (fun _ => (Imp.refl _).bind (fun _ => (Imp.refl _).bind (fun _ => Imp.bind (fun y hy => px_le hm hy) (fun _ => Imp.refl _))))) x h

theorem pitem_of {i : It} (h : ItOk i) {s s' : St} (hs : Sees s (itemToks i) s') : ∃ n, pitem n s = some (i, s') := by
  rcases h with ⟨x, t, k, rfl, hx, ht, h1, h2⟩ | ⟨x, r, rfl, hx, hr⟩ | ⟨x, t, e, rfl, hx, ht, he⟩
  · have hs' : Sees s [fix wInput, nam x, fix sColon, fix (tyText t), fix wEvery, num k, fix sSemi] s' := hs
    obtain ⟨t0, s1, a1, t1, s2, a2, t2, s3, a3, t3, s4, a4, t4, s5, a5, t5, s6, a6, t6, s7, a7, a8⟩ := hs'
    have a9 : s7 = s' := a8
    subst a9
    refine ⟨0, ?_⟩
    unfold pitem
    rw [if_pos (by rw [sees_fix t0]; decide), a1, Option.bind_some, name_of t1 a2, Option.bind_some, want_fix t2 a3, Option.bind_some, ftype_of ht t3 a4, Option.bind_some, want_fix t4 a5, Option.bind_some, number_num t5 a6 (by omega) (by omega), Option.bind_some, want_fix t6 a7]
    rfl
  · have hs' : Sees s (fix wOutput :: nam x :: (moreToks r ++ [fix sSemi])) s' := hs
    obtain ⟨t0, s1, a1, t1, s2, a2, a3⟩ := hs'
    obtain ⟨s3, b1, b2⟩ := Sees.append a3
    obtain ⟨t3, b3⟩ := Sees.one b2
    obtain ⟨n, hn⟩ := pnames_of r [x] s2 s3 b1 (by rw [sees_fix t3]; decide)
    refine ⟨n, ?_⟩
    unfold pitem
    rw [if_neg (by rw [sees_fix t0]; decide), if_pos (by rw [sees_fix t0]; decide), a1, Option.bind_some, name_of t1 a2, Option.bind_some, hn, Option.bind_some, want_fix t3 b3]
    rfl
  · have hs' : Sees s (nam x :: fix sColon :: fix (tyText t) :: fix sIs :: (toks e ++ [fix sSemi])) s' := hs
    obtain ⟨t0, s1, a1, t1, s2, a2, t2, s3, a3, t3, s4, a4, a5⟩ := hs'
    obtain ⟨s5, b1, b2⟩ := Sees.append a5
    obtain ⟨t5, b3⟩ := Sees.one b2
    obtain ⟨n, hn⟩ := back he b1 (stop_fix t5 (by decide) 0)
    refine ⟨n, ?_⟩
    unfold pitem
    rw [if_neg (by rw [sees_nam t0]; decide), if_neg (by rw [sees_nam t0]; decide), name_of t0 a1, Option.bind_some, want_fix t1 a2, Option.bind_some, ftype_of ht t2 a3, Option.bind_some, want_fix t3 a4, Option.bind_some, hn, Option.bind_some, want_fix t5 b3]
    rfl

theorem pprog_le : ∀ (n m : Nat) (acc : List It) (s : St) (l : List It), n ≤ m → pprog n acc s = some l → pprog m acc s = some l
  | 0, _, _, _, _, _, h => by cases h
  | n + 1, 0, _, _, _, hm, _ => by omega
  | n + 1, m + 1, acc, s, l, hm, h => by
    rw [pprog] at h ⊢
    by_cases c0 : s.tok.kind = 0
    · rw [if_pos c0] at h ⊢; exact h
    · rw [if_neg c0] at h ⊢
      by_cases c1 : acc.length = 60
      · rw [if_pos c1] at h; cases h
      · rw [if_neg c1] at h ⊢
        obtain ⟨x, h1, h2⟩ := Option.bind_eq_some_iff.1 h
        rw [pitem_le (show n ≤ m by omega) h1, Option.bind_some]
        exact pprog_le n m _ _ l (by omega) h2

theorem pprog_of : ∀ (l acc : List It) (s s' : St), (∀ i, i ∈ l → ItOk i) → Sees s (allToks l) s' → s'.tok.kind = 0 → acc.length + l.length ≤ 60 → ∃ n, pprog n acc s = some (acc ++ l)
  | [], acc, s, s', _, hs, hk, _ => by
    have : s = s' := hs
    subst this
    exact ⟨1, by rw [pprog, if_pos hk]; simp⟩
  | i :: l, acc, s, s', h, hs, hk, hl => by
    have e1 : allToks (i :: l) = itemToks i ++ allToks l := by simp [allToks]
    rw [e1] at hs
    obtain ⟨s1, h1, h2⟩ := Sees.append hs
    have hi := h i List.mem_cons_self
    obtain ⟨n1, e2⟩ := pitem_of hi h1
    rw [List.length_cons] at hl
    obtain ⟨n2, e3⟩ := pprog_of l (acc ++ [i]) s1 s' (fun j hj => h j (List.mem_cons_of_mem _ hj)) h2 hk (by simp; omega)
    have hk0 : s.tok.kind ≠ 0 := by
      cases hq : itemToks i with
      | nil => exact absurd hq (itemToks_ne hi)
      | cons t r =>
        have := kind_item hi t (by rw [hq]; exact List.mem_cons_self)
        rw [hq] at h1
        rw [h1.1]; exact this
    refine ⟨n1 + n2 + 1, ?_⟩
    rw [pprog, if_neg hk0, if_neg (by omega), pitem_le (show n1 ≤ n1 + n2 by omega) e2, Option.bind_some]
    have := pprog_le n2 (n1 + n2) _ _ _ (by omega) e3
    rw [this]; simp

/-- What is printed is read again. -/
theorem reads_again {b : Bytes} {l : List It} (h : Parsed b l) (h4 : (print l).length ≤ 4000) : Parsed (print l) l := by
  obtain ⟨k1, k2, k3⟩ := parsed_ok h
  obtain ⟨K, hK, hl⟩ := lx_print l k1
  have hkind : ∀ t, t ∈ allToks l → t.kind ≠ 0 := by
    intro t ht
    unfold allToks at ht
    obtain ⟨ts, h1, h2⟩ := List.mem_flatten.1 ht
    obtain ⟨i, h3, rfl⟩ := List.mem_map.1 h1
    exact kind_item (k1 i h3) t h2
  have hend : adv' K (0 + (allToks l).length) = some ⟨⟨0, [], 0⟩, [], 0 + (allToks l).length⟩ := by
    rcases hK with rfl | rfl <;> rfl
  obtain ⟨s, h1, h2⟩ := sees_of_lx (allToks l) (print l) K 0 _ hl hkind (by omega) hend
  obtain ⟨n, hn⟩ := pprog_of l [] s _ k1 h2 rfl (by simpa using k2)
  refine ⟨n, ?_⟩
  unfold parse
  rw [if_neg (by omega), h1, Option.bind_some, hn]
  rfl

end Mil
end Go.Proofs.YtibbjohkiigffaaGreatDoor
namespace Go.Proofs.YtibbjohkiigffaaGreatDoor
namespace Mil

def Rname (acc : List Bytes) (s : St) (l : List Bytes × St) : Prop := ∃ n, pnames n acc s = some l
theorem Rname.unique {acc : List Bytes} {s : St} {x y : List Bytes × St} (h : Rname acc s x) (k : Rname acc s y) : x = y := by
  obtain ⟨n, hn⟩ := h
  obtain ⟨m, hm⟩ := k
  have h1 := pnames_le n (n + m) acc s x (by omega) hn
  have h2 := pnames_le m (n + m) acc s y (by omega) hm
  exact Option.some.inj (h1.symm.trans h2)
theorem name_stop {acc : List Bytes} {s : St} (h : sees s sComma = false) : Rname acc s (acc, s) := ⟨1, by rw [pnames, h]; rfl⟩
theorem name_go {acc : List Bytes} {s s1 : St} {x : Bytes × St} {l : List Bytes × St} (h : sees s sComma = true) (h1 : adv s = some s1) (h2 : name s1 = some x) : Rname acc s l ↔ Rname (acc ++ [x.1]) x.2 l := by
  constructor
  · rintro ⟨n, hn⟩
    cases n with
    | zero => cases hn
    | succ n =>
      rw [pnames, if_pos h, h1, Option.bind_some, h2, Option.bind_some] at hn
      exact ⟨n, hn⟩
  · rintro ⟨n, hn⟩
    exact ⟨n + 1, by rw [pnames, if_pos h, h1, Option.bind_some, h2, Option.bind_some]; exact hn⟩
theorem name_inv {acc : List Bytes} {s : St} {l : List Bytes × St} (h : sees s sComma = true) (k : Rname acc s l) : ∃ s1 x, adv s = some s1 ∧ name s1 = some x := by
  obtain ⟨n, hn⟩ := k
  cases n with
  | zero => cases hn
  | succ n =>
    rw [pnames, if_pos h] at hn
    obtain ⟨s1, h1, hn⟩ := Option.bind_eq_some_iff.1 hn
    obtain ⟨x, h2, hn⟩ := Option.bind_eq_some_iff.1 hn
    exact ⟨s1, x, h1, h2⟩

def Rin (s : St) (i : It) (t : St) : Prop := ∃ x s3 y s5 k, name s = some x ∧ want x.2 sColon = some s3 ∧ ftype s3 = some y ∧ want y.2 wEvery = some s5 ∧ number 1 1000000 s5 = some k ∧ want k.2 sSemi = some t ∧ i = ⟨1, x.1, y.1, k.1, [], eNil⟩
def Rout (s : St) (i : It) (t : St) : Prop := ∃ x l, name s = some x ∧ Rname [x.1] x.2 l ∧ want l.2 sSemi = some t ∧ i = ⟨2, [], 0, 0, l.1, eNil⟩
def Req (s : St) (i : It) (t : St) : Prop := ∃ x s2 y s4 e, name s = some x ∧ want x.2 sColon = some s2 ∧ ftype s2 = some y ∧ want y.2 sIs = some s4 ∧ Ok 0 eNil s4 e ∧ want e.2 sSemi = some t ∧ i = ⟨3, x.1, y.1, 0, [], e.1⟩
def Rit (s : St) (i : It) (t : St) : Prop := ∃ n, pitem n s = some (i, t)
theorem Rit.unique {s : St} {i j : It} {t u : St} (h : Rit s i t) (k : Rit s j u) : (i, t) = (j, u) := by
  obtain ⟨n, hn⟩ := h
  obtain ⟨m, hm⟩ := k
  have h1 := pitem_le (show n ≤ n + m by omega) hn
  have h2 := pitem_le (show m ≤ n + m by omega) hm
  exact Option.some.inj (h1.symm.trans h2)

theorem it_in {s : St} (h : sees s wInput = true) (i : It) (t : St) : Rit s i t ↔ ∃ s1, adv s = some s1 ∧ Rin s1 i t := by
  constructor
  · rintro ⟨n, hn⟩
    unfold pitem at hn
    rw [if_pos h] at hn
    obtain ⟨s1, h1, hn⟩ := Option.bind_eq_some_iff.1 hn
    obtain ⟨x, h2, hn⟩ := Option.bind_eq_some_iff.1 hn
    obtain ⟨s3, h3, hn⟩ := Option.bind_eq_some_iff.1 hn
    obtain ⟨y, h4, hn⟩ := Option.bind_eq_some_iff.1 hn
    obtain ⟨s5, h5, hn⟩ := Option.bind_eq_some_iff.1 hn
    obtain ⟨k, h6, hn⟩ := Option.bind_eq_some_iff.1 hn
    obtain ⟨s7, h7, hn⟩ := Option.map_eq_some_iff.1 hn
    obtain ⟨rfl, rfl⟩ := Prod.mk.inj hn
    exact ⟨s1, h1, x, s3, y, s5, k, h2, h3, h4, h5, h6, h7, rfl⟩
  · rintro ⟨s1, h1, x, s3, y, s5, k, h2, h3, h4, h5, h6, h7, rfl⟩
    refine ⟨0, ?_⟩
    unfold pitem
    rw [if_pos h, h1, Option.bind_some, h2, Option.bind_some, h3, Option.bind_some, h4, Option.bind_some, h5, Option.bind_some, h6, Option.bind_some, h7]; rfl
theorem it_out {s : St} (h : sees s wOutput = true) (i : It) (t : St) : Rit s i t ↔ ∃ s1, adv s = some s1 ∧ Rout s1 i t := by
  have o1 := sees_other h (y := wInput) (by decide)
  constructor
  · rintro ⟨n, hn⟩
    unfold pitem at hn
    rw [o1, if_neg (by decide), if_pos h] at hn
    obtain ⟨s1, h1, hn⟩ := Option.bind_eq_some_iff.1 hn
    obtain ⟨x, h2, hn⟩ := Option.bind_eq_some_iff.1 hn
    obtain ⟨l, h3, hn⟩ := Option.bind_eq_some_iff.1 hn
    obtain ⟨s7, h7, hn⟩ := Option.map_eq_some_iff.1 hn
    obtain ⟨rfl, rfl⟩ := Prod.mk.inj hn
    exact ⟨s1, h1, x, l, h2, ⟨n, h3⟩, h7, rfl⟩
  · rintro ⟨s1, h1, x, l, h2, ⟨n, h3⟩, h7, rfl⟩
    refine ⟨n, ?_⟩
    unfold pitem
    rw [o1, if_neg (by decide), if_pos h, h1, Option.bind_some, h2, Option.bind_some, h3, Option.bind_some, h7]; rfl
theorem it_eq {s : St} (o1 : sees s wInput = false) (o2 : sees s wOutput = false) (i : It) (t : St) : Rit s i t ↔ Req s i t := by
  constructor
  · rintro ⟨n, hn⟩
    unfold pitem at hn
    rw [o1, if_neg (by decide), o2, if_neg (by decide)] at hn
    obtain ⟨x, h2, hn⟩ := Option.bind_eq_some_iff.1 hn
    obtain ⟨s3, h3, hn⟩ := Option.bind_eq_some_iff.1 hn
    obtain ⟨y, h4, hn⟩ := Option.bind_eq_some_iff.1 hn
    obtain ⟨s5, h5, hn⟩ := Option.bind_eq_some_iff.1 hn
    obtain ⟨e, h6, hn⟩ := Option.bind_eq_some_iff.1 hn
    obtain ⟨s7, h7, hn⟩ := Option.map_eq_some_iff.1 hn
    obtain ⟨rfl, rfl⟩ := Prod.mk.inj hn
    exact ⟨x, s3, y, s5, e, h2, h3, h4, h5, ⟨n, h6⟩, h7, rfl⟩
  · rintro ⟨x, s3, y, s5, e, h2, h3, h4, h5, ⟨n, h6⟩, h7, rfl⟩
    refine ⟨n, ?_⟩
    unfold pitem
    rw [o1, if_neg (by decide), o2, if_neg (by decide), h2, Option.bind_some, h3, Option.bind_some, h4, Option.bind_some, h5, Option.bind_some, h6, Option.bind_some, h7]; rfl

end Mil
end Go.Proofs.YtibbjohkiigffaaGreatDoor
namespace Go.Proofs.YtibbjohkiigffaaGreatDoor
namespace Mil

/-- What reading comes to: something; a fault and its place; or no end by that fuel. -/
abbrev Rz (α : Type) : Type := Option (Except (Nat × Int) α)
abbrev Rz.ok {α : Type} (x : α) : Rz α := some (.ok x)
abbrev Rz.bad {α : Type} (k : Nat) (p : Int) : Rz α := some (.error (k, p))
abbrev Rz.out {α : Type} : Rz α := none
def Rz.bind {α β : Type} (r : Rz α) (f : α → Rz β) : Rz β :=
  match r with
  | some (.ok x) => f x
  | some (.error e) => some (.error e)
  | none => none
def Rz.map {α β : Type} (r : Rz α) (f : α → β) : Rz β := r.bind fun x => .ok (f x)

/-- Where the token at hand begins, in a text of N bytes. -/
def hereAt (N : Nat) (s : St) : Int := (N : Int) - s.rest.length - s.tok.txt.length
def advZ' (N : Nat) (b : Bytes) (n : Nat) : Rz St :=
  match cut (skip false b) with
  | none => .bad 2 ((N : Int) - (skip false b).length)
  | some (t, r) => if t.kind = 0 then .ok ⟨t, r, n⟩ else if 600 < n + 1 then .bad 1 ((N : Int) - (skip false b).length) else .ok ⟨t, r, n + 1⟩
def advZ (N : Nat) (s : St) : Rz St := advZ' N s.rest s.cnt
def refZ {α : Type} (N : Nat) (s : St) : Rz α := .bad 3 (hereAt N s)
def wantZ (N : Nat) (s : St) (x : Bytes) : Rz St := if sees s x then advZ N s else refZ N s
def nameZ (N : Nat) (s : St) : Rz (Bytes × St) := if s.tok.kind = 1 then (advZ N s).map fun s1 => (s.tok.txt, s1) else refZ N s
def numberZ (N : Nat) (lo hi : Int) (s : St) : Rz (Nat × St) := if s.tok.kind = 2 ∧ lo ≤ s.tok.val ∧ s.tok.val ≤ hi then (advZ N s).map fun s1 => (s.tok.val.toNat, s1) else refZ N s
def ftypeZ (N : Nat) (s : St) : Rz (Nat × St) := if sees s wInt then (advZ N s).map fun s1 => (0, s1) else if sees s wBool then (advZ N s).map fun s1 => (1, s1) else refZ N s
def literalZ (N : Nat) (s : St) : Rz (E × St) :=
  if sees s wTrue then (advZ N s).map fun s1 => (eBool 1, s1) else if sees s wFalse then (advZ N s).map fun s1 => (eBool 0, s1)
  else (numberZ N 0 maxInt s).map fun x => (eInt x.1, x.2)
def constantZ (N : Nat) (s : St) : Rz (E × St) :=
  if sees s sMinus then (advZ N s).bind fun s1 => (numberZ N 0 maxInt s1).map fun x => (ePre sMinus (eInt x.1), x.2) else literalZ N s

/-- An atom, by what reads an expression. -/
def atomZ (N : Nat) (f : Nat → E → St → Rz (E × St)) (s : St) : Rz (E × St) :=
  if s.tok.kind = 1 then (nameZ N s).map fun x => (eName x.1, x.2)
  else if sees s sOpen then (advZ N s).bind fun s1 => (f 0 eNil s1).bind fun x => (wantZ N x.2 sShut).map fun s3 => (x.1, s3)
  else if sees s wFby then (advZ N s).bind fun s1 => (wantZ N s1 sOpen).bind fun s2 => (constantZ N s2).bind fun c => (wantZ N c.2 sComma).bind fun s4 => (f 0 eNil s4).bind fun x => (wantZ N x.2 sShut).map fun s6 => (eFby c.1 x.1, s6)
  else if sees s wUnder then (advZ N s).bind fun s1 => (wantZ N s1 sOpen).bind fun s2 => (f 0 eNil s2).bind fun x => (wantZ N x.2 sComma).bind fun s4 => (numberZ N 2 1000 s4).bind fun k => (wantZ N k.2 sShut).map fun s6 => (eUnder x.1 k.1, s6)
  else if sees s wHold then (advZ N s).bind fun s1 => (wantZ N s1 sOpen).bind fun s2 => (constantZ N s2).bind fun c => (wantZ N c.2 sComma).bind fun s4 => (f 0 eNil s4).bind fun x => (wantZ N x.2 sComma).bind fun s6 => (numberZ N 2 1000 s6).bind fun k => (wantZ N k.2 sShut).map fun s8 => (eHold c.1 x.1 k.1, s8)
  else if sees s wMin || sees s wMax then (advZ N s).bind fun s1 => (wantZ N s1 sOpen).bind fun s2 => (f 0 eNil s2).bind fun a => (wantZ N a.2 sComma).bind fun s4 => (f 0 eNil s4).bind fun b => (wantZ N b.2 sShut).map fun s6 => (eLeast s.tok.txt a.1 b.1, s6)
  else literalZ N s
def stepZ (N : Nat) (f : Nat → E → St → Rz (E × St)) (tag : Nat) (left : E) (s : St) : Rz (E × St) :=
  if tag = 0 then
    if sees s wIf then (advZ N s).bind fun s1 => (f 0 eNil s1).bind fun a => (wantZ N a.2 wThen).bind fun s3 => (f 0 eNil s3).bind fun b => (wantZ N b.2 wElse).bind fun s5 => (f 0 eNil s5).map fun c => (eIf a.1 b.1 c.1, c.2)
    else f 1 eNil s
  else if tag = 8 then atomZ N f s
  else if tag < 8 then
    if (tag = 3 ∧ sees s wNot = true) ∨ (tag = 7 ∧ sees s sMinus = true) then (advZ N s).bind fun s1 => (f tag eNil s1).map fun a => (ePre s.tok.txt a.1, a.2)
    else (f (tag + 1) eNil s).bind fun a => f (10 + tag) a.1 a.2
  else if opAt s = tag - 10 then (advZ N s).bind fun s1 => (f (tag - 10 + 1) eNil s1).bind fun b => if tag = 14 then .ok (eTwo s.tok.txt left b.1, b.2) else f tag (eTwo s.tok.txt left b.1) b.2
  else .ok (left, s)
def pz (N : Nat) : Nat → Nat → E → St → Rz (E × St)
  | 0, _, _, _ => .out
  | n + 1, t, e, s => stepZ N (pz N n) t e s

/-! ### What is read is read so here too -/
def Imz {α : Type} (o : Option α) (r : Rz α) : Prop := ∀ x, o = some x → r = .ok x
theorem imz_bind {α β : Type} {o : Option α} {r : Rz α} {f : α → Option β} {g : α → Rz β} (h : Imz o r) (k : ∀ x, Imz (f x) (g x)) : Imz (o.bind f) (r.bind g) := fun x hx => by
  obtain ⟨y, h1, h2⟩ := Option.bind_eq_some_iff.1 hx
  rw [h y h1]
  exact k y x h2
theorem imz_map {α β : Type} {o : Option α} {r : Rz α} (f : α → β) (h : Imz o r) : Imz (o.map f) (r.map f) := fun x hx => by
  obtain ⟨y, h1, rfl⟩ := Option.map_eq_some_iff.1 hx
  rw [h y h1]; rfl
theorem imz_ite {α : Type} {c : Prop} [Decidable c] {o o' : Option α} {r r' : Rz α} (h : Imz o r) (k : Imz o' r') : Imz (if c then o else o') (if c then r else r') := by
  by_cases hc : c
  · rw [if_pos hc, if_pos hc]; exact h
  · rw [if_neg hc, if_neg hc]; exact k
theorem imz_none {α : Type} (r : Rz α) : Imz (none : Option α) r := fun _ h => by cases h
theorem imz_some {α : Type} (x : α) : Imz (some x) (.ok x) := fun y h => by rw [Option.some.inj h]
theorem imz_adv' (N : Nat) (b : Bytes) (n : Nat) : Imz (adv' b n) (advZ' N b n) := by
  unfold adv' advZ'
  cases cut (skip false b) with
  | none => exact imz_none _
  | some x => exact imz_ite (imz_some _) (imz_ite (imz_none _) (imz_some _))
theorem imz_adv (N : Nat) (s : St) : Imz (adv s) (advZ N s) := imz_adv' N _ _
theorem imz_want (N : Nat) (s : St) (x : Bytes) : Imz (want s x) (wantZ N s x) := imz_ite (imz_adv N s) (imz_none _)
theorem imz_name (N : Nat) (s : St) : Imz (name s) (nameZ N s) := imz_ite (imz_map _ (imz_adv N s)) (imz_none _)
theorem imz_number (N : Nat) (lo hi : Int) (s : St) : Imz (number lo hi s) (numberZ N lo hi s) := imz_ite (imz_map _ (imz_adv N s)) (imz_none _)
theorem imz_ftype (N : Nat) (s : St) : Imz (ftype s) (ftypeZ N s) := imz_ite (imz_map _ (imz_adv N s)) (imz_ite (imz_map _ (imz_adv N s)) (imz_none _))
theorem imz_literal (N : Nat) (s : St) : Imz (literal s) (literalZ N s) := imz_ite (imz_map _ (imz_adv N s)) (imz_ite (imz_map _ (imz_adv N s)) (imz_map _ (imz_number N _ _ s)))
theorem imz_constant (N : Nat) (s : St) : Imz (constant s) (constantZ N s) := imz_ite (imz_bind (imz_adv N s) fun s1 => imz_map _ (imz_number N _ _ s1)) (imz_literal N s)
theorem imz_atom (N : Nat) {f : Nat → E → St → Option (E × St)} {g : Nat → E → St → Rz (E × St)} (hf : ∀ t e s, Imz (f t e s) (g t e s)) (s : St) : Imz (atom f s) (atomZ N g s) :=
  imz_ite (imz_map _ (imz_name N s))
  (imz_ite (imz_bind (imz_adv N s) fun s1 => imz_bind (hf 0 eNil s1) fun x => imz_map _ (imz_want N x.2 _))
  (imz_ite (imz_bind (imz_adv N s) fun s1 => imz_bind (imz_want N s1 _) fun s2 => imz_bind (imz_constant N s2) fun c => imz_bind (imz_want N c.2 _) fun s4 => imz_bind (hf 0 eNil s4) fun x => imz_map _ (imz_want N x.2 _))
  (imz_ite (imz_bind (imz_adv N s) fun s1 => imz_bind (imz_want N s1 _) fun s2 => imz_bind (hf 0 eNil s2) fun x => imz_bind (imz_want N x.2 _) fun s4 => imz_bind (imz_number N _ _ s4) fun k => imz_map _ (imz_want N k.2 _))
  (imz_ite (imz_bind (imz_adv N s) fun s1 => imz_bind (imz_want N s1 _) fun s2 => imz_bind (imz_constant N s2) fun c => imz_bind (imz_want N c.2 _) fun s4 => imz_bind (hf 0 eNil s4) fun x => imz_bind (imz_want N x.2 _) fun s6 => imz_bind (imz_number N _ _ s6) fun k => imz_map _ (imz_want N k.2 _))
  (imz_ite (imz_bind (imz_adv N s) fun s1 => imz_bind (imz_want N s1 _) fun s2 => imz_bind (hf 0 eNil s2) fun a => imz_bind (imz_want N a.2 _) fun s4 => imz_bind (hf 0 eNil s4) fun b => imz_map _ (imz_want N b.2 _))
  (imz_literal N s))))))
theorem imz_step (N : Nat) {f : Nat → E → St → Option (E × St)} {g : Nat → E → St → Rz (E × St)} (hf : ∀ t e s, Imz (f t e s) (g t e s)) (t : Nat) (e : E) (s : St) : Imz (step f t e s) (stepZ N g t e s) :=
  imz_ite (imz_ite (imz_bind (imz_adv N s) fun s1 => imz_bind (hf 0 eNil s1) fun a => imz_bind (imz_want N a.2 _) fun s3 => imz_bind (hf 0 eNil s3) fun b => imz_bind (imz_want N b.2 _) fun s5 => imz_map _ (hf 0 eNil s5)) (hf 1 eNil s))
  (imz_ite (imz_atom N hf s)
  (imz_ite (imz_ite (imz_bind (imz_adv N s) fun s1 => imz_map _ (hf t eNil s1)) (imz_bind (hf (t + 1) eNil s) fun a => hf (10 + t) a.1 a.2))
  (imz_ite (imz_bind (imz_adv N s) fun s1 => imz_bind (hf (t - 10 + 1) eNil s1) fun b => imz_ite (imz_some _) (hf t _ b.2)) (imz_some _))))
theorem imz_px (N : Nat) : ∀ (n t : Nat) (e : E) (s : St), Imz (px n t e s) (pz N n t e s)
  | 0, _, _, _ => imz_none _
  | n + 1, t, e, s => imz_step N (imz_px N n) t e s

/-! ### What it comes to in the end -/
def Ev {α : Type} (r : Nat → Rz α) (v : Rz α) : Prop := ∃ n, ∀ m, n ≤ m → r m = v
theorem ev_const {α : Type} {r v : Rz α} (h : r = v) : Ev (fun _ => r) v := ⟨0, fun _ _ => h⟩
theorem ev_bad {α β : Type} {r : Nat → Rz α} {f : Nat → α → Rz β} {k : Nat} {p : Int} (h : Ev r (.bad k p)) : Ev (fun m => (r m).bind (f m)) (.bad k p) := by
  obtain ⟨n, h⟩ := h
  exact ⟨n, fun m hm => by show (r m).bind (f m) = _; rw [h m hm]; rfl⟩
theorem ev_badm {α β : Type} {r : Nat → Rz α} {f : Nat → α → β} {k : Nat} {p : Int} (h : Ev r (.bad k p)) : Ev (fun m => (r m).map (f m)) (.bad k p) := by
  obtain ⟨n, h⟩ := h
  exact ⟨n, fun m hm => by show (r m).map (f m) = _; rw [h m hm]; rfl⟩
theorem ev_ok {α β : Type} {r : Nat → Rz α} {f : Nat → α → Rz β} {x : α} {v : Rz β} (h : Ev r (.ok x)) (k : Ev (fun m => f m x) v) : Ev (fun m => (r m).bind (f m)) v := by
  obtain ⟨n, h⟩ := h
  obtain ⟨n', k⟩ := k
  exact ⟨n + n', fun m hm => by show (r m).bind (f m) = _; rw [h m (by omega)]; exact k m (by omega)⟩
theorem ev_pz {N t : Nat} {e : E} {s : St} {v : Rz (E × St)} (h : Ev (fun m => stepZ N (pz N m) t e s) v) : Ev (fun m => pz N m t e s) v := by
  obtain ⟨n, h⟩ := h
  refine ⟨n + 1, fun m hm => ?_⟩
  cases m with
  | zero => omega
  | succ m => exact h m (by omega)
theorem ev_eq {α : Type} {r r' : Nat → Rz α} {v : Rz α} (e : ∀ m, r m = r' m) (h : Ev r' v) : Ev r v := by
  have : r = r' := funext e
  rw [this]; exact h
/-- Reading ends with that fault. -/
def Bad (N t : Nat) (e : E) (s : St) (k : Nat) (p : Int) : Prop := Ev (fun m => pz N m t e s) (.bad k p)
theorem okZ (N : Nat) {t : Nat} {e : E} {s : St} {x : E × St} (h : Ok t e s x) : Ev (fun m => pz N m t e s) (.ok x) := by
  obtain ⟨n, h⟩ := h
  exact ⟨n, fun m hm => imz_px N m t e s x (px_le hm h)⟩

theorem bad_if {N : Nat} {s : St} {k : Nat} {p : Int} (h : sees s wIf = true) (c : advZ N s = .bad k p ∨ ∃ v1, adv s = some v1 ∧ (Bad N 0 eNil v1 k p ∨ ∃ v2, Ok 0 eNil v1 v2 ∧ (wantZ N v2.2 wThen = .bad k p ∨ ∃ v3, want v2.2 wThen = some v3 ∧ (Bad N 0 eNil v3 k p ∨ ∃ v4, Ok 0 eNil v3 v4 ∧ (wantZ N v4.2 wElse = .bad k p ∨ ∃ v5, want v4.2 wElse = some v5 ∧ (Bad N 0 eNil v5 k p)))))) : Bad N 0 eNil s k p := by
  refine ev_pz (ev_eq (fun m => by unfold stepZ; rw [if_pos rfl, if_pos h]) ?_)
  rcases c with c | ⟨v1, h1, c⟩
  · exact ev_bad (ev_const c)
  refine ev_ok (ev_const (imz_adv N _ _ h1)) ?_
  rcases c with c | ⟨v2, h2, c⟩
  · exact ev_bad (c)
  refine ev_ok (okZ N h2) ?_
  rcases c with c | ⟨v3, h3, c⟩
  · exact ev_bad (ev_const c)
  refine ev_ok (ev_const (imz_want N _ _ _ h3)) ?_
  rcases c with c | ⟨v4, h4, c⟩
  · exact ev_bad (c)
  refine ev_ok (okZ N h4) ?_
  rcases c with c | ⟨v5, h5, c⟩
  · exact ev_bad (ev_const c)
  refine ev_ok (ev_const (imz_want N _ _ _ h5)) ?_
  exact ev_badm (c)
theorem bad_noif {N : Nat} {s : St} {k : Nat} {p : Int} (h : sees s wIf = false) (c : Bad N 1 eNil s k p) : Bad N 0 eNil s k p :=
  ev_pz (ev_eq (fun m => by unfold stepZ; rw [if_pos rfl, h, if_neg (by decide)]) c)
theorem bad_pre {N l : Nat} {s : St} {k : Nat} {p : Int} (h : (l = 3 ∧ sees s wNot = true) ∨ (l = 7 ∧ sees s sMinus = true)) (c : advZ N s = .bad k p ∨ ∃ v1, adv s = some v1 ∧ Bad N l eNil v1 k p) : Bad N l eNil s k p := by
  refine ev_pz (ev_eq (fun m => by unfold stepZ; rw [if_neg (by omega), if_neg (by omega), if_pos (by omega), if_pos h]) ?_)
  rcases c with c | ⟨v1, h1, c⟩
  · exact ev_bad (ev_const c)
  refine ev_ok (ev_const (imz_adv N _ _ h1)) ?_
  exact ev_badm c
theorem bad_level {N l : Nat} (h0 : 0 < l) (h8 : l < 8) {s : St} {k : Nat} {p : Int} (h : ¬ ((l = 3 ∧ sees s wNot = true) ∨ (l = 7 ∧ sees s sMinus = true))) (c : Bad N (l + 1) eNil s k p ∨ ∃ v1, Ok (l + 1) eNil s v1 ∧ Bad N (10 + l) v1.1 v1.2 k p) : Bad N l eNil s k p := by
  refine ev_pz (ev_eq (fun m => by unfold stepZ; rw [if_neg (by omega), if_neg (by omega), if_pos h8, if_neg h]) ?_)
  rcases c with c | ⟨v1, h1, c⟩
  · exact ev_bad c
  exact ev_ok (okZ N h1) c
theorem bad_go {N l : Nat} {s : St} {a : E} {k : Nat} {p : Int} (h : opAt s = l) (c : advZ N s = .bad k p ∨ ∃ v1, adv s = some v1 ∧ (Bad N (l + 1) eNil v1 k p ∨ ∃ v2, Ok (l + 1) eNil v1 v2 ∧ (l ≠ 4 ∧ Bad N (10 + l) (eTwo s.tok.txt a v2.1) v2.2 k p))) : Bad N (10 + l) a s k p := by
  refine ev_pz (ev_eq (fun m => by unfold stepZ; rw [if_neg (by omega), if_neg (by omega), if_neg (by omega), show 10 + l - 10 = l from by omega, if_pos h]) ?_)
  rcases c with c | ⟨v1, h1, c⟩
  · exact ev_bad (ev_const c)
  refine ev_ok (ev_const (imz_adv N _ _ h1)) ?_
  rcases c with c | ⟨v2, h2, h4, c⟩
  · exact ev_bad c
  exact ev_ok (okZ N h2) (ev_eq (fun m => if_neg (by omega)) c)
theorem ev_atom {N : Nat} {s : St} {v : Rz (E × St)} (h : Ev (fun m => atomZ N (pz N m) s) v) : Ev (fun m => pz N m 8 eNil s) v :=
  ev_pz (ev_eq (fun m => by unfold stepZ; rw [if_neg (by decide), if_pos rfl]) h)
theorem bad_name {N : Nat} {s : St} (h : s.tok.kind = 1) {k : Nat} {p : Int} (c : nameZ N s = .bad k p) : Bad N 8 eNil s k p :=
  ev_atom (ev_eq (fun m => by unfold atomZ; rw [if_pos h]) (ev_badm (ev_const c)))
theorem bad_open {N : Nat} {s : St} (h : sees s sOpen = true) {k : Nat} {p : Int} (c : advZ N s = .bad k p ∨ ∃ v1, adv s = some v1 ∧ (Bad N 0 eNil v1 k p ∨ ∃ v2, Ok 0 eNil v1 v2 ∧ (wantZ N v2.2 sShut = .bad k p))) : Bad N 8 eNil s k p := by
  refine ev_atom (ev_eq (fun m => by unfold atomZ; rw [if_neg (sees_no1 h), if_pos h]) ?_)
  rcases c with c | ⟨v1, h1, c⟩
  · exact ev_bad (ev_const c)
  refine ev_ok (ev_const (imz_adv N _ _ h1)) ?_
  rcases c with c | ⟨v2, h2, c⟩
  · exact ev_bad (c)
  refine ev_ok (okZ N h2) ?_
  exact ev_badm (ev_const c)
def Bfby (N : Nat) (s : St) (k : Nat) (p : Int) : Prop := wantZ N s sOpen = .bad k p ∨ ∃ v1, want s sOpen = some v1 ∧ (constantZ N v1 = .bad k p ∨ ∃ v2, constant v1 = some v2 ∧ (wantZ N v2.2 sComma = .bad k p ∨ ∃ v3, want v2.2 sComma = some v3 ∧ (Bad N 0 eNil v3 k p ∨ ∃ v4, Ok 0 eNil v3 v4 ∧ (wantZ N v4.2 sShut = .bad k p))))
theorem bad_fby {N : Nat} {s : St} (h : sees s wFby = true) {k : Nat} {p : Int} (c : advZ N s = .bad k p ∨ ∃ v0, adv s = some v0 ∧ Bfby N v0 k p) : Bad N 8 eNil s k p := by
  have o0 := sees_other h (y := sOpen) (by decide)
  refine ev_atom (ev_eq (fun m => by unfold atomZ; rw [if_neg (sees_no1 h), o0, if_neg (by decide), if_pos h]) ?_)
  rcases c with c | ⟨v0, h0, c⟩
  · exact ev_bad (ev_const c)
  refine ev_ok (ev_const (imz_adv N _ _ h0)) ?_
  unfold Bfby at c
  rcases c with c | ⟨v1, h1, c⟩
  · exact ev_bad (ev_const c)
  refine ev_ok (ev_const (imz_want N _ _ _ h1)) ?_
  rcases c with c | ⟨v2, h2, c⟩
  · exact ev_bad (ev_const c)
  refine ev_ok (ev_const (imz_constant N _ _ h2)) ?_
  rcases c with c | ⟨v3, h3, c⟩
  · exact ev_bad (ev_const c)
  refine ev_ok (ev_const (imz_want N _ _ _ h3)) ?_
  rcases c with c | ⟨v4, h4, c⟩
  · exact ev_bad (c)
  refine ev_ok (okZ N h4) ?_
  exact ev_badm (ev_const c)
def Bunder (N : Nat) (s : St) (k : Nat) (p : Int) : Prop := wantZ N s sOpen = .bad k p ∨ ∃ v1, want s sOpen = some v1 ∧ (Bad N 0 eNil v1 k p ∨ ∃ v2, Ok 0 eNil v1 v2 ∧ (wantZ N v2.2 sComma = .bad k p ∨ ∃ v3, want v2.2 sComma = some v3 ∧ (numberZ N 2 1000 v3 = .bad k p ∨ ∃ v4, number 2 1000 v3 = some v4 ∧ (wantZ N v4.2 sShut = .bad k p))))
theorem bad_under {N : Nat} {s : St} (h : sees s wUnder = true) {k : Nat} {p : Int} (c : advZ N s = .bad k p ∨ ∃ v0, adv s = some v0 ∧ Bunder N v0 k p) : Bad N 8 eNil s k p := by
  have o0 := sees_other h (y := sOpen) (by decide)
  have o1 := sees_other h (y := wFby) (by decide)
  refine ev_atom (ev_eq (fun m => by unfold atomZ; rw [if_neg (sees_no1 h), o0, if_neg (by decide), o1, if_neg (by decide), if_pos h]) ?_)
  rcases c with c | ⟨v0, h0, c⟩
  · exact ev_bad (ev_const c)
  refine ev_ok (ev_const (imz_adv N _ _ h0)) ?_
  unfold Bunder at c
  rcases c with c | ⟨v1, h1, c⟩
  · exact ev_bad (ev_const c)
  refine ev_ok (ev_const (imz_want N _ _ _ h1)) ?_
  rcases c with c | ⟨v2, h2, c⟩
  · exact ev_bad (c)
  refine ev_ok (okZ N h2) ?_
  rcases c with c | ⟨v3, h3, c⟩
  · exact ev_bad (ev_const c)
  refine ev_ok (ev_const (imz_want N _ _ _ h3)) ?_
  rcases c with c | ⟨v4, h4, c⟩
  · exact ev_bad (ev_const c)
  refine ev_ok (ev_const (imz_number N _ _ _ _ h4)) ?_
  exact ev_badm (ev_const c)
def Bhold (N : Nat) (s : St) (k : Nat) (p : Int) : Prop := wantZ N s sOpen = .bad k p ∨ ∃ v1, want s sOpen = some v1 ∧ (constantZ N v1 = .bad k p ∨ ∃ v2, constant v1 = some v2 ∧ (wantZ N v2.2 sComma = .bad k p ∨ ∃ v3, want v2.2 sComma = some v3 ∧ (Bad N 0 eNil v3 k p ∨ ∃ v4, Ok 0 eNil v3 v4 ∧ (wantZ N v4.2 sComma = .bad k p ∨ ∃ v5, want v4.2 sComma = some v5 ∧ (numberZ N 2 1000 v5 = .bad k p ∨ ∃ v6, number 2 1000 v5 = some v6 ∧ (wantZ N v6.2 sShut = .bad k p))))))
theorem bad_hold {N : Nat} {s : St} (h : sees s wHold = true) {k : Nat} {p : Int} (c : advZ N s = .bad k p ∨ ∃ v0, adv s = some v0 ∧ Bhold N v0 k p) : Bad N 8 eNil s k p := by
  have o0 := sees_other h (y := sOpen) (by decide)
  have o1 := sees_other h (y := wFby) (by decide)
  have o2 := sees_other h (y := wUnder) (by decide)
  refine ev_atom (ev_eq (fun m => by unfold atomZ; rw [if_neg (sees_no1 h), o0, if_neg (by decide), o1, if_neg (by decide), o2, if_neg (by decide), if_pos h]) ?_)
  rcases c with c | ⟨v0, h0, c⟩
  · exact ev_bad (ev_const c)
  refine ev_ok (ev_const (imz_adv N _ _ h0)) ?_
  unfold Bhold at c
  rcases c with c | ⟨v1, h1, c⟩
  · exact ev_bad (ev_const c)
  refine ev_ok (ev_const (imz_want N _ _ _ h1)) ?_
  rcases c with c | ⟨v2, h2, c⟩
  · exact ev_bad (ev_const c)
  refine ev_ok (ev_const (imz_constant N _ _ h2)) ?_
  rcases c with c | ⟨v3, h3, c⟩
  · exact ev_bad (ev_const c)
  refine ev_ok (ev_const (imz_want N _ _ _ h3)) ?_
  rcases c with c | ⟨v4, h4, c⟩
  · exact ev_bad (c)
  refine ev_ok (okZ N h4) ?_
  rcases c with c | ⟨v5, h5, c⟩
  · exact ev_bad (ev_const c)
  refine ev_ok (ev_const (imz_want N _ _ _ h5)) ?_
  rcases c with c | ⟨v6, h6, c⟩
  · exact ev_bad (ev_const c)
  refine ev_ok (ev_const (imz_number N _ _ _ _ h6)) ?_
  exact ev_badm (ev_const c)
def Bleast (N : Nat) (s : St) (k : Nat) (p : Int) : Prop := wantZ N s sOpen = .bad k p ∨ ∃ v1, want s sOpen = some v1 ∧ (Bad N 0 eNil v1 k p ∨ ∃ v2, Ok 0 eNil v1 v2 ∧ (wantZ N v2.2 sComma = .bad k p ∨ ∃ v3, want v2.2 sComma = some v3 ∧ (Bad N 0 eNil v3 k p ∨ ∃ v4, Ok 0 eNil v3 v4 ∧ (wantZ N v4.2 sShut = .bad k p))))
theorem bad_least {N : Nat} {s : St} {m : Bytes} (hm : m = wMin ∨ m = wMax) (h : sees s m = true) {k : Nat} {p : Int} (c : advZ N s = .bad k p ∨ ∃ v0, adv s = some v0 ∧ Bleast N v0 k p) : Bad N 8 eNil s k p := by
  have o0 : sees s sOpen = false := sees_other h (by rcases hm with rfl | rfl <;> decide)
  have o1 : sees s wFby = false := sees_other h (by rcases hm with rfl | rfl <;> decide)
  have o2 : sees s wUnder = false := sees_other h (by rcases hm with rfl | rfl <;> decide)
  have o3 : sees s wHold = false := sees_other h (by rcases hm with rfl | rfl <;> decide)
  have o5 : (sees s wMin || sees s wMax) = true := by
    rcases hm with rfl | rfl
    · rw [h]; rfl
    · rw [h]; simp
  refine ev_atom (ev_eq (fun m => by unfold atomZ; rw [if_neg (sees_no1 h), o0, if_neg (by decide), o1, if_neg (by decide), o2, if_neg (by decide), o3, if_neg (by decide), if_pos o5]) ?_)
  rcases c with c | ⟨v0, h0, c⟩
  · exact ev_bad (ev_const c)
  refine ev_ok (ev_const (imz_adv N _ _ h0)) ?_
  unfold Bleast at c
  rcases c with c | ⟨v1, h1, c⟩
  · exact ev_bad (ev_const c)
  refine ev_ok (ev_const (imz_want N _ _ _ h1)) ?_
  rcases c with c | ⟨v2, h2, c⟩
  · exact ev_bad (c)
  refine ev_ok (okZ N h2) ?_
  rcases c with c | ⟨v3, h3, c⟩
  · exact ev_bad (ev_const c)
  refine ev_ok (ev_const (imz_want N _ _ _ h3)) ?_
  rcases c with c | ⟨v4, h4, c⟩
  · exact ev_bad (c)
  refine ev_ok (okZ N h4) ?_
  exact ev_badm (ev_const c)
theorem bad_lit {N : Nat} {s : St} (h0 : s.tok.kind ≠ 1) (o1 : sees s sOpen = false) (o2 : sees s wFby = false) (o3 : sees s wUnder = false) (o4 : sees s wHold = false) (o5 : sees s wMin = false) (o6 : sees s wMax = false) {k : Nat} {p : Int} (c : literalZ N s = .bad k p) : Bad N 8 eNil s k p :=
  ev_atom (ev_eq (fun m => by unfold atomZ; rw [if_neg h0, o1, if_neg (by decide), o2, if_neg (by decide), o3, if_neg (by decide), o4, if_neg (by decide), o5, o6, if_neg (by decide)]) (ev_const c))

/-! ### Items -/
def pnamesZ (N : Nat) : Nat → List Bytes → St → Rz (List Bytes × St)
  | 0, _, _ => .out
  | n + 1, acc, s => if sees s sComma then (advZ N s).bind fun s1 => (nameZ N s1).bind fun x => pnamesZ N n (acc ++ [x.1]) x.2 else .ok (acc, s)
def pitemZ (N n : Nat) (s : St) : Rz (It × St) :=
  if sees s wInput then (advZ N s).bind fun s1 => (nameZ N s1).bind fun x => (wantZ N x.2 sColon).bind fun s3 => (ftypeZ N s3).bind fun t => (wantZ N t.2 wEvery).bind fun s5 => (numberZ N 1 1000000 s5).bind fun k => (wantZ N k.2 sSemi).map fun s7 => (⟨1, x.1, t.1, k.1, [], eNil⟩, s7)
  else if sees s wOutput then (advZ N s).bind fun s1 => (nameZ N s1).bind fun x => (pnamesZ N n [x.1] x.2).bind fun l => (wantZ N l.2 sSemi).map fun s4 => (⟨2, [], 0, 0, l.1, eNil⟩, s4)
  else (nameZ N s).bind fun x => (wantZ N x.2 sColon).bind fun s2 => (ftypeZ N s2).bind fun t => (wantZ N t.2 sIs).bind fun s4 => (pz N n 0 eNil s4).bind fun e => (wantZ N e.2 sSemi).map fun s6 => (⟨3, x.1, t.1, 0, [], e.1⟩, s6)
def pprogZ (N : Nat) : Nat → List It → St → Rz (List It)
  | 0, _, _ => .out
  | n + 1, acc, s => if s.tok.kind = 0 then .ok acc else if acc.length = 60 then .bad 4 (hereAt N s) else (pitemZ N n s).bind fun x => pprogZ N n (acc ++ [x.1]) x.2
def parseZ (n : Nat) (b : Bytes) : Rz (List It) := (advZ' b.length b 0).bind fun s => pprogZ b.length n [] s

theorem imz_pnames (N : Nat) : ∀ (n : Nat) (acc : List Bytes) (s : St), Imz (pnames n acc s) (pnamesZ N n acc s)
  | 0, _, _ => imz_none _
  | n + 1, _, s => imz_ite (imz_bind (imz_adv N s) fun s1 => imz_bind (imz_name N s1) fun x => imz_pnames N n _ x.2) (imz_some _)
theorem imz_pitem (N n : Nat) (s : St) : Imz (pitem n s) (pitemZ N n s) :=
  imz_ite (imz_bind (imz_adv N s) fun s1 => imz_bind (imz_name N s1) fun x => imz_bind (imz_want N x.2 _) fun s3 => imz_bind (imz_ftype N s3) fun t => imz_bind (imz_want N t.2 _) fun s5 => imz_bind (imz_number N _ _ s5) fun k => imz_map _ (imz_want N k.2 _))
  (imz_ite (imz_bind (imz_adv N s) fun s1 => imz_bind (imz_name N s1) fun x => imz_bind (imz_pnames N n _ x.2) fun l => imz_map _ (imz_want N l.2 _))
  (imz_bind (imz_name N s) fun x => imz_bind (imz_want N x.2 _) fun s2 => imz_bind (imz_ftype N s2) fun t => imz_bind (imz_want N t.2 _) fun s4 => imz_bind (imz_px N n 0 eNil s4) fun e => imz_map _ (imz_want N e.2 _)))
theorem imz_pprog (N : Nat) : ∀ (n : Nat) (acc : List It) (s : St), Imz (pprog n acc s) (pprogZ N n acc s)
  | 0, _, _ => imz_none _
  | n + 1, _, s => imz_ite (imz_some _) (imz_ite (imz_none _) (imz_bind (imz_pitem N n s) fun x => imz_pprog N n _ x.2))
def BadN (N : Nat) (acc : List Bytes) (s : St) (k : Nat) (p : Int) : Prop := Ev (fun m => pnamesZ N m acc s) (.bad k p)
def BadI (N : Nat) (s : St) (k : Nat) (p : Int) : Prop := Ev (fun m => pitemZ N m s) (.bad k p)
def BadP (N : Nat) (acc : List It) (s : St) (k : Nat) (p : Int) : Prop := Ev (fun m => pprogZ N m acc s) (.bad k p)
theorem okN (N : Nat) {acc : List Bytes} {s : St} {l : List Bytes × St} (h : Rname acc s l) : Ev (fun m => pnamesZ N m acc s) (.ok l) := by
  obtain ⟨n, h⟩ := h
  exact ⟨n, fun m hm => imz_pnames N m acc s l (pnames_le n m acc s l hm h)⟩
theorem okI (N : Nat) {s : St} {i : It} {t : St} (h : Rit s i t) : Ev (fun m => pitemZ N m s) (.ok (i, t)) := by
  obtain ⟨n, h⟩ := h
  exact ⟨n, fun m hm => imz_pitem N m s _ (pitem_le hm h)⟩
theorem badN_go {N : Nat} {acc : List Bytes} {s : St} {k : Nat} {p : Int} (h : sees s sComma = true) (c : advZ N s = .bad k p ∨ ∃ v1, adv s = some v1 ∧ (nameZ N v1 = .bad k p ∨ ∃ v2, name v1 = some v2 ∧ BadN N (acc ++ [v2.1]) v2.2 k p)) : BadN N acc s k p := by
  have go : Ev (fun m => (advZ N s).bind fun s1 => (nameZ N s1).bind fun x => pnamesZ N m (acc ++ [x.1]) x.2) (.bad k p) := by
    rcases c with c | ⟨v1, h1, c⟩
    · exact ev_bad (ev_const c)
    refine ev_ok (ev_const (imz_adv N _ _ h1)) ?_
    rcases c with c | ⟨v2, h2, c⟩
    · exact ev_bad (ev_const c)
    exact ev_ok (ev_const (imz_name N _ _ h2)) c
  obtain ⟨n, go⟩ := go
  refine ⟨n + 1, fun m hm => ?_⟩
  cases m with
  | zero => omega
  | succ m =>
    show pnamesZ N (m + 1) acc s = _
    rw [pnamesZ, if_pos h]
    exact go m (by omega)
def Bin (N : Nat) (s : St) (k : Nat) (p : Int) : Prop := nameZ N s = .bad k p ∨ ∃ v1, name s = some v1 ∧ (wantZ N v1.2 sColon = .bad k p ∨ ∃ v2, want v1.2 sColon = some v2 ∧ (ftypeZ N v2 = .bad k p ∨ ∃ v3, ftype v2 = some v3 ∧ (wantZ N v3.2 wEvery = .bad k p ∨ ∃ v4, want v3.2 wEvery = some v4 ∧ (numberZ N 1 1000000 v4 = .bad k p ∨ ∃ v5, number 1 1000000 v4 = some v5 ∧ (wantZ N v5.2 sSemi = .bad k p)))))
def Bout (N : Nat) (s : St) (k : Nat) (p : Int) : Prop := nameZ N s = .bad k p ∨ ∃ v1, name s = some v1 ∧ (BadN N [v1.1] v1.2 k p ∨ ∃ v2, Rname [v1.1] v1.2 v2 ∧ (wantZ N v2.2 sSemi = .bad k p))
def Beq (N : Nat) (s : St) (k : Nat) (p : Int) : Prop := nameZ N s = .bad k p ∨ ∃ v1, name s = some v1 ∧ (wantZ N v1.2 sColon = .bad k p ∨ ∃ v2, want v1.2 sColon = some v2 ∧ (ftypeZ N v2 = .bad k p ∨ ∃ v3, ftype v2 = some v3 ∧ (wantZ N v3.2 sIs = .bad k p ∨ ∃ v4, want v3.2 sIs = some v4 ∧ (Bad N 0 eNil v4 k p ∨ ∃ v5, Ok 0 eNil v4 v5 ∧ (wantZ N v5.2 sSemi = .bad k p)))))
theorem badI_in {N : Nat} {s : St} (h : sees s wInput = true) {k : Nat} {p : Int} (c : advZ N s = .bad k p ∨ ∃ v0, adv s = some v0 ∧ Bin N v0 k p) : BadI N s k p := by
  refine ev_eq (fun m => by unfold pitemZ; rw [if_pos h]) ?_
  rcases c with c | ⟨v0, h0, c⟩
  · exact ev_bad (ev_const c)
  refine ev_ok (ev_const (imz_adv N _ _ h0)) ?_
  unfold Bin at c
  rcases c with c | ⟨v1, h1, c⟩
  · exact ev_bad (ev_const c)
  refine ev_ok (ev_const (imz_name N _ _ h1)) ?_
  rcases c with c | ⟨v2, h2, c⟩
  · exact ev_bad (ev_const c)
  refine ev_ok (ev_const (imz_want N _ _ _ h2)) ?_
  rcases c with c | ⟨v3, h3, c⟩
  · exact ev_bad (ev_const c)
  refine ev_ok (ev_const (imz_ftype N _ _ h3)) ?_
  rcases c with c | ⟨v4, h4, c⟩
  · exact ev_bad (ev_const c)
  refine ev_ok (ev_const (imz_want N _ _ _ h4)) ?_
  rcases c with c | ⟨v5, h5, c⟩
  · exact ev_bad (ev_const c)
  refine ev_ok (ev_const (imz_number N _ _ _ _ h5)) ?_
  exact ev_badm (ev_const c)
theorem badI_out {N : Nat} {s : St} (h : sees s wOutput = true) {k : Nat} {p : Int} (c : advZ N s = .bad k p ∨ ∃ v0, adv s = some v0 ∧ Bout N v0 k p) : BadI N s k p := by
  have o1 := sees_other h (y := wInput) (by decide)
  refine ev_eq (fun m => by unfold pitemZ; rw [o1, if_neg (by decide), if_pos h]) ?_
  rcases c with c | ⟨v0, h0, c⟩
  · exact ev_bad (ev_const c)
  refine ev_ok (ev_const (imz_adv N _ _ h0)) ?_
  unfold Bout at c
  rcases c with c | ⟨v1, h1, c⟩
  · exact ev_bad (ev_const c)
  refine ev_ok (ev_const (imz_name N _ _ h1)) ?_
  rcases c with c | ⟨v2, h2, c⟩
  · exact ev_bad c
  refine ev_ok (okN N h2) ?_
  exact ev_badm (ev_const c)
theorem badI_eq {N : Nat} {s : St} (o1 : sees s wInput = false) (o2 : sees s wOutput = false) {k : Nat} {p : Int} (c : Beq N s k p) : BadI N s k p := by
  refine ev_eq (fun m => by unfold pitemZ; rw [o1, if_neg (by decide), o2, if_neg (by decide)]) ?_
  unfold Beq at c
  rcases c with c | ⟨v1, h1, c⟩
  · exact ev_bad (ev_const c)
  refine ev_ok (ev_const (imz_name N _ _ h1)) ?_
  rcases c with c | ⟨v2, h2, c⟩
  · exact ev_bad (ev_const c)
  refine ev_ok (ev_const (imz_want N _ _ _ h2)) ?_
  rcases c with c | ⟨v3, h3, c⟩
  · exact ev_bad (ev_const c)
  refine ev_ok (ev_const (imz_ftype N _ _ h3)) ?_
  rcases c with c | ⟨v4, h4, c⟩
  · exact ev_bad (ev_const c)
  refine ev_ok (ev_const (imz_want N _ _ _ h4)) ?_
  rcases c with c | ⟨v5, h5, c⟩
  · exact ev_bad (c)
  refine ev_ok (okZ N h5) ?_
  exact ev_badm (ev_const c)
theorem ev_prog {N : Nat} {acc : List It} {s : St} {v : Rz (List It)} (h : Ev (fun m => if s.tok.kind = 0 then .ok acc else if acc.length = 60 then .bad 4 (hereAt N s) else (pitemZ N m s).bind fun x => pprogZ N m (acc ++ [x.1]) x.2) v) : Ev (fun m => pprogZ N m acc s) v := by
  obtain ⟨n, h⟩ := h
  refine ⟨n + 1, fun m hm => ?_⟩
  cases m with
  | zero => omega
  | succ m => exact h m (by omega)
theorem badP_many {N : Nat} {acc : List It} {s : St} (h : s.tok.kind ≠ 0) (h6 : acc.length = 60) : BadP N acc s 4 (hereAt N s) :=
  ev_prog (ev_eq (r' := fun _ => .bad 4 (hereAt N s)) (fun m => by rw [if_neg h, if_pos h6]) (ev_const rfl))
theorem badP_item {N : Nat} {acc : List It} {s : St} {k : Nat} {p : Int} (h : s.tok.kind ≠ 0) (h6 : acc.length ≠ 60) (c : BadI N s k p) : BadP N acc s k p :=
  ev_prog (ev_eq (r' := fun m => (pitemZ N m s).bind fun x => pprogZ N m (acc ++ [x.1]) x.2) (fun m => by rw [if_neg h, if_neg h6]) (ev_bad c))
theorem badP_go {N : Nat} {acc : List It} {s t : St} {i : It} {k : Nat} {p : Int} (h : s.tok.kind ≠ 0) (h6 : acc.length ≠ 60) (hi : Rit s i t) (c : BadP N (acc ++ [i]) t k p) : BadP N acc s k p := by
  refine ev_prog (ev_eq (r' := fun m => (pitemZ N m s).bind fun x => pprogZ N m (acc ++ [x.1]) x.2) (fun m => by rw [if_neg h, if_neg h6]) ?_)
  exact ev_ok (okI N hi) c
/-- A text is refused so. -/
def Fault (b : Bytes) (k : Nat) (p : Int) : Prop := advZ' b.length b 0 = .bad k p ∨ ∃ s, adv' b 0 = some s ∧ BadP b.length [] s k p

end Mil
end Go.Proofs.YtibbjohkiigffaaGreatDoor
namespace Go.Proofs.YtibbjohkiigffaaGreatDoor
namespace Mil

theorem adv_le {s s1 : St} (h : adv s = some s1) : mu s1 ≤ mu s := by
  by_cases hk : s.tok.kind = 0
  · unfold adv adv' at h
    have hsk := skip_short false s.rest
    unfold mu
    rw [if_pos hk]
    split at h
    · cases h
    · rename_i t r hc
      cases hq : skip false s.rest with
      | nil =>
        rw [hq] at hc
        obtain ⟨rfl, rfl⟩ := Prod.mk.inj (Option.some.inj hc)
        rw [if_pos rfl] at h
        obtain rfl := (Option.some.inj h).symm
        simp
      | cons c q =>
        rw [hq] at hc hsk
        have hr := cut_short hc
        simp at hsk
        by_cases h0 : t.kind = 0
        · rw [if_pos h0] at h
          obtain rfl := (Option.some.inj h).symm
          simp only [h0, if_true]
          omega
        · rw [if_neg h0] at h
          split at h
          · cases h
          · obtain rfl := (Option.some.inj h).symm
            simp only [h0, if_false]
            omega
  · exact Nat.le_of_lt (adv_mu h hk)

def Dn (s : St) (o : Option (E × St)) : Prop := ∀ x, o = some x → mu x.2 ≤ mu s
def Fd (f : Nat → E → St → Option (E × St)) : Prop := ∀ t e s, Dn s (f t e s)
theorem dn_adv {s : St} {k : St → Option (E × St)} (h : ∀ s1, Dn s1 (k s1)) : Dn s ((adv s).bind k) := fun x hx => by
  obtain ⟨s1, h1, h2⟩ := Option.bind_eq_some_iff.1 hx
  exact Nat.le_trans (h s1 x h2) (adv_le h1)
theorem dn_want {s : St} {w : Bytes} {k : St → Option (E × St)} (h : ∀ s1, Dn s1 (k s1)) : Dn s ((want s w).bind k) := fun x hx => by
  obtain ⟨s1, h1, h2⟩ := Option.bind_eq_some_iff.1 hx
  exact Nat.le_trans (h s1 x h2) (Nat.le_of_lt (want_mu h1))
theorem dn_wantm {s : St} {w : Bytes} {e : E} : Dn s ((want s w).map fun s3 => (e, s3)) := fun x hx => by
  obtain ⟨s1, h1, rfl⟩ := Option.map_eq_some_iff.1 hx
  exact Nat.le_of_lt (want_mu h1)
theorem dn_const {s : St} {k : E × St → Option (E × St)} (h : ∀ c, Dn c.2 (k c)) : Dn s ((constant s).bind k) := fun x hx => by
  obtain ⟨c, h1, h2⟩ := Option.bind_eq_some_iff.1 hx
  exact Nat.le_trans (h c x h2) (Nat.le_of_lt (constant_mu h1))
theorem dn_num {s : St} {lo hi : Int} {k : Nat × St → Option (E × St)} (h : ∀ c, Dn c.2 (k c)) : Dn s ((number lo hi s).bind k) := fun x hx => by
  obtain ⟨c, h1, h2⟩ := Option.bind_eq_some_iff.1 hx
  exact Nat.le_trans (h c x h2) (Nat.le_of_lt (number_mu h1))
theorem dn_f {f : Nat → E → St → Option (E × St)} (hf : Fd f) {t : Nat} {e : E} {s : St} {k : E × St → Option (E × St)} (h : ∀ c, Dn c.2 (k c)) : Dn s ((f t e s).bind k) := fun x hx => by
  obtain ⟨c, h1, h2⟩ := Option.bind_eq_some_iff.1 hx
  exact Nat.le_trans (h c x h2) (hf t e s c h1)
theorem dn_fm {f : Nat → E → St → Option (E × St)} (hf : Fd f) {t : Nat} {e : E} {s : St} {g : E × St → E} : Dn s ((f t e s).map fun c => (g c, c.2)) := fun x hx => by
  obtain ⟨c, h1, rfl⟩ := Option.map_eq_some_iff.1 hx
  exact hf t e s c h1
theorem dn_ite {c : Prop} [Decidable c] {s : St} {a b : Option (E × St)} (h1 : Dn s a) (h2 : Dn s b) : Dn s (if c then a else b) := by
  by_cases h : c
  · rw [if_pos h]; exact h1
  · rw [if_neg h]; exact h2
theorem dn_lit {s : St} : Dn s (literal s) := fun _ h => Nat.le_of_lt (literal_mu h)
theorem dn_name {s : St} : Dn s ((name s).map fun x => (eName x.1, x.2)) := fun x hx => by
  obtain ⟨c, h1, rfl⟩ := Option.map_eq_some_iff.1 hx
  exact Nat.le_of_lt (name_mu h1)
theorem dn_some {s : St} {e : E} : Dn s (some (e, s)) := fun x hx => by
  obtain rfl := Option.some.inj hx
  exact Nat.le_refl _
theorem step_mu {f : Nat → E → St → Option (E × St)} (hf : Fd f) : Fd (step f) := by
  intro t e s
  unfold step atom
  repeat' first | exact hf _ _ _ | exact dn_lit | exact dn_name | exact dn_wantm | exact dn_fm hf | exact dn_some | refine dn_ite ?_ ?_ | refine dn_adv (fun _ => ?_) | refine dn_want (fun _ => ?_) | refine dn_const (fun _ => ?_) | refine dn_num (fun _ => ?_) | refine dn_f hf (fun _ => ?_)
theorem px_mu : ∀ n, Fd (px n)
  | 0 => fun _ _ _ _ h => by cases h
  | n + 1 => step_mu (px_mu n)
theorem ok_mu {t : Nat} {e : E} {s : St} {x : E × St} (h : Ok t e s x) : mu x.2 ≤ mu s := by
  obtain ⟨n, hn⟩ := h
  exact px_mu n t e s x hn

end Mil
end Go.Proofs.YtibbjohkiigffaaGreatDoor
namespace Go.Proofs.YtibbjohkiigffaaGreatDoor
namespace Mip
open Mil

/-- How many bytes are left from the token at hand on. -/
def off (s : St) : Nat := s.rest.length + s.tok.txt.length
/-- Expressions: 1 a number, 2 a bool, 3 a name, 4 a sign ahead, 5 two sides, 6 if (its second side a pair, 0), 7 fby, 8 under, 9 hold, 10 min and max. -/
abbrev E := Go.Deep.BT (Bytes × Nat)
def eNil : E := .nil
def eInt (p : Nat) (k : Nat) : E := .node 1 k ([], p) .nil .nil
def eBool (p : Nat) (k : Nat) : E := .node 2 k ([], p) .nil .nil
def eName (p : Nat) (x : Bytes) : E := .node 3 0 (x, p) .nil .nil
def ePre (p : Nat) (x : Bytes) (a : E) : E := .node 4 0 (x, p) a .nil
def eTwo (p : Nat) (x : Bytes) (a b : E) : E := .node 5 0 (x, p) a b
def eIf (p : Nat) (a b c : E) : E := .node 6 0 ([], p) a (.node 0 0 ([], 0) b c)
def eFby (p : Nat) (a b : E) : E := .node 7 0 ([], p) a b
def eUnder (p : Nat) (a : E) (k : Nat) : E := .node 8 k ([], p) a .nil
def eHold (p : Nat) (a b : E) (k : Nat) : E := .node 9 k ([], p) a b
def eLeast (p : Nat) (x : Bytes) (a b : E) : E := .node 10 0 (x, p) a b

def literal (s : St) : Option (E × St) :=
  if sees s wTrue then (adv s).map fun s1 => (eBool (off s) 1, s1) else if sees s wFalse then (adv s).map fun s1 => (eBool (off s) 0, s1)
  else (number 0 maxInt s).map fun x => (eInt (off s) x.1, x.2)
def constant (s : St) : Option (E × St) :=
  if sees s sMinus then (adv s).bind fun s1 => (number 0 maxInt s1).map fun x => (ePre (off s) sMinus (eInt (off s1) x.1), x.2) else literal s

/-- An atom, by what reads an expression. -/
def atom (f : Nat → E → St → Option (E × St)) (s : St) : Option (E × St) :=
  if s.tok.kind = 1 then (name s).map fun x => (eName (off s) x.1, x.2)
  else if sees s sOpen then (adv s).bind fun s1 => (f 0 eNil s1).bind fun x => (want x.2 sShut).map fun s3 => (x.1, s3)
  else if sees s wFby then (adv s).bind fun s1 => (want s1 sOpen).bind fun s2 => (constant s2).bind fun c => (want c.2 sComma).bind fun s4 => (f 0 eNil s4).bind fun x => (want x.2 sShut).map fun s6 => (eFby (off s) c.1 x.1, s6)
  else if sees s wUnder then (adv s).bind fun s1 => (want s1 sOpen).bind fun s2 => (f 0 eNil s2).bind fun x => (want x.2 sComma).bind fun s4 => (number 2 1000 s4).bind fun k => (want k.2 sShut).map fun s6 => (eUnder (off s) x.1 k.1, s6)
  else if sees s wHold then (adv s).bind fun s1 => (want s1 sOpen).bind fun s2 => (constant s2).bind fun c => (want c.2 sComma).bind fun s4 => (f 0 eNil s4).bind fun x => (want x.2 sComma).bind fun s6 => (number 2 1000 s6).bind fun k => (want k.2 sShut).map fun s8 => (eHold (off s) c.1 x.1 k.1, s8)
  else if sees s wMin || sees s wMax then (adv s).bind fun s1 => (want s1 sOpen).bind fun s2 => (f 0 eNil s2).bind fun a => (want a.2 sComma).bind fun s4 => (f 0 eNil s4).bind fun b => (want b.2 sShut).map fun s6 => (eLeast (off s) s.tok.txt a.1 b.1, s6)
  else literal s

/-- One step of reading an expression: tag 0: an expr; 1 to 7: what binds at least that tightly; 8: an atom; 10 + l: the operators of level l behind a left side. -/
def step (f : Nat → E → St → Option (E × St)) (tag : Nat) (left : E) (s : St) : Option (E × St) :=
  if tag = 0 then
    if sees s wIf then (adv s).bind fun s1 => (f 0 eNil s1).bind fun a => (want a.2 wThen).bind fun s3 => (f 0 eNil s3).bind fun b => (want b.2 wElse).bind fun s5 => (f 0 eNil s5).map fun c => (eIf (off s) a.1 b.1 c.1, c.2)
    else f 1 eNil s
  else if tag = 8 then atom f s
  else if tag < 8 then
    if (tag = 3 ∧ sees s wNot = true) ∨ (tag = 7 ∧ sees s sMinus = true) then (adv s).bind fun s1 => (f tag eNil s1).map fun a => (ePre (off s) s.tok.txt a.1, a.2)
    else (f (tag + 1) eNil s).bind fun a => f (10 + tag) a.1 a.2
  else if opAt s = tag - 10 then (adv s).bind fun s1 => (f (tag - 10 + 1) eNil s1).bind fun b => if tag = 14 then some (eTwo (off s) s.tok.txt left b.1, b.2) else f tag (eTwo (off s) s.tok.txt left b.1) b.2
  else some (left, s)

def px : Nat → Nat → E → St → Option (E × St)
  | 0, _, _, _ => none
  | n + 1, t, e, s => step (px n) t e s

/-- Reading comes to that, by whatever fuel. -/
def Ok (t : Nat) (e : E) (s : St) (x : E × St) : Prop := ∃ n, px n t e s = some x

/-- Items: 1 an input, 2 an output, 3 an equation. -/
structure It where
  kind : Nat
  nm : Bytes
  at_ : Nat
  ty : Nat
  every : Nat
  names : List (Bytes × Nat)
  body : E

def pnames : Nat → List (Bytes × Nat) → St → Option (List (Bytes × Nat) × St)
  | 0, _, _ => none
  | n + 1, acc, s => if sees s sComma then (adv s).bind fun s1 => (name s1).bind fun x => pnames n (acc ++ [(x.1, off s1)]) x.2 else some (acc, s)

def pitem (n : Nat) (s : St) : Option (It × St) :=
  if sees s wInput then (adv s).bind fun s1 => (name s1).bind fun x => (want x.2 sColon).bind fun s3 => (ftype s3).bind fun t => (want t.2 wEvery).bind fun s5 => (number 1 1000000 s5).bind fun k => (want k.2 sSemi).map fun s7 => (⟨1, x.1, off s1, t.1, k.1, [], eNil⟩, s7)
  else if sees s wOutput then (adv s).bind fun s1 => (name s1).bind fun x => (pnames n [(x.1, off s1)] x.2).bind fun l => (want l.2 sSemi).map fun s4 => (⟨2, [], 0, 0, 0, l.1, eNil⟩, s4)
  else (name s).bind fun x => (want x.2 sColon).bind fun s2 => (ftype s2).bind fun t => (want t.2 sIs).bind fun s4 => (px n 0 eNil s4).bind fun e => (want e.2 sSemi).map fun s6 => (⟨3, x.1, off s, t.1, 0, [], e.1⟩, s6)

def pprog : Nat → List It → St → Option (List It)
  | 0, _, _ => none
  | n + 1, acc, s => if s.tok.kind = 0 then some acc else if acc.length = 60 then none else (pitem n s).bind fun x => pprog n (acc ++ [x.1]) x.2

def parse (n : Nat) (b : Bytes) : Option (List It) := if 4000 < b.length then none else (adv' b 0).bind fun s => pprog n [] s
def Parsed (b : Bytes) (l : List It) : Prop := ∃ n, parse n b = some l

theorem step_le {f g : Nat → E → St → Option (E × St)} (h : ∀ t e s, Imp (f t e s) (g t e s)) (t : Nat) (e : E) (s : St) : Imp (step f t e s) (step g t e s) := by
  unfold step atom
  repeat' first | exact h _ _ _ | exact Imp.refl _ | refine Imp.ite ?_ ?_ | refine Imp.bind ?_ (fun _ => ?_) | refine Imp.map ?_

theorem px_succ (n : Nat) (t : Nat) (e : E) (s : St) : px (n + 1) t e s = step (px n) t e s := rfl
theorem px_next : ∀ (n : Nat) (t : Nat) (e : E) (s : St), Imp (px n t e s) (px (n + 1) t e s)
  | 0, _, _, _ => fun _ h => by cases h
  | n + 1, t, e, s => by
    rw [px_succ, px_succ (n + 1)]
    exact step_le (px_next n) t e s
theorem px_le {n m : Nat} (h : n ≤ m) {t : Nat} {e : E} {s : St} {x : E × St} (hx : px n t e s = some x) : px m t e s = some x := by
  induction h with
  | refl => exact hx
  | step _ ih => exact px_next _ _ _ _ _ ih
theorem Ok.unique {t : Nat} {e : E} {s : St} {x y : E × St} (h : Ok t e s x) (k : Ok t e s y) : x = y := by
  obtain ⟨n, hn⟩ := h
  obtain ⟨m, hm⟩ := k
  have h1 := px_le (Nat.le_max_left n m) hn
  have h2 := px_le (Nat.le_max_right n m) hm
  exact Option.some.inj (h1.symm.trans h2)

theorem ok_noif {s : St} {x : E × St} (h : sees s wIf = false) (k : Ok 1 eNil s x) : Ok 0 eNil s x := by
  obtain ⟨n, hn⟩ := k
  exact ⟨n + 1, by rw [px_succ]; unfold step; rw [if_pos rfl, h, if_neg (by decide)]; exact hn⟩

theorem ok_if {s s1 s3 s5 : St} {a b c : E × St} (h : sees s wIf = true) (h1 : adv s = some s1) (ha : Ok 0 eNil s1 a) (h3 : want a.2 wThen = some s3) (hb : Ok 0 eNil s3 b)
    (h5 : want b.2 wElse = some s5) (hc : Ok 0 eNil s5 c) : Ok 0 eNil s (eIf (off s) a.1 b.1 c.1, c.2) := by
  obtain ⟨n1, e1⟩ := ha
  obtain ⟨n2, e2⟩ := hb
  obtain ⟨n3, e3⟩ := hc
  have f1 := px_le (show n1 ≤ n1 + n2 + n3 by omega) e1
  have f2 := px_le (show n2 ≤ n1 + n2 + n3 by omega) e2
  have f3 := px_le (show n3 ≤ n1 + n2 + n3 by omega) e3
  refine ⟨n1 + n2 + n3 + 1, ?_⟩
  rw [px_succ]; unfold step
  rw [if_pos rfl, if_pos h, h1, Option.bind_some, f1, Option.bind_some, h3, Option.bind_some, f2, Option.bind_some, h5, Option.bind_some, f3, Option.map_some]

theorem ok_pre {l : Nat} {s s1 : St} {a : E × St} (h : (l = 3 ∧ sees s wNot = true) ∨ (l = 7 ∧ sees s sMinus = true)) (h1 : adv s = some s1) (ha : Ok l eNil s1 a) : Ok l eNil s (ePre (off s) s.tok.txt a.1, a.2) := by
  obtain ⟨n, e1⟩ := ha
  refine ⟨n + 1, ?_⟩
  rw [px_succ]; unfold step
  rw [if_neg (by omega), if_neg (by omega), if_pos (by omega), if_pos h, h1, Option.bind_some, e1, Option.map_some]

theorem ok_level {l : Nat} (h0 : 0 < l) (h8 : l < 8) {s : St} {a x : E × St} (h : ¬ ((l = 3 ∧ sees s wNot = true) ∨ (l = 7 ∧ sees s sMinus = true))) (ha : Ok (l + 1) eNil s a) (hx : Ok (10 + l) a.1 a.2 x) : Ok l eNil s x := by
  obtain ⟨n1, e1⟩ := ha
  obtain ⟨n2, e2⟩ := hx
  have f1 := px_le (show n1 ≤ n1 + n2 by omega) e1
  have f2 := px_le (show n2 ≤ n1 + n2 by omega) e2
  refine ⟨n1 + n2 + 1, ?_⟩
  rw [px_succ]; unfold step
  rw [if_neg (by omega), if_neg (by omega), if_pos h8, if_neg h, f1, Option.bind_some, f2]

theorem ok_stop {l : Nat} {s : St} {a : E} (h : opAt s ≠ l) : Ok (10 + l) a s (a, s) := by
  refine ⟨1, ?_⟩
  rw [px_succ]; unfold step
  rw [if_neg (by omega), if_neg (by omega), if_neg (by omega), if_neg (by omega)]

theorem ok_go {l : Nat} (h4 : l ≠ 4) {s s1 : St} {a : E} {b x : E × St} (h : opAt s = l) (h1 : adv s = some s1) (hb : Ok (l + 1) eNil s1 b) (hx : Ok (10 + l) (eTwo (off s) s.tok.txt a b.1) b.2 x) : Ok (10 + l) a s x := by
  obtain ⟨n1, e1⟩ := hb
  obtain ⟨n2, e2⟩ := hx
  have f1 := px_le (show n1 ≤ n1 + n2 by omega) e1
  have f2 := px_le (show n2 ≤ n1 + n2 by omega) e2
  refine ⟨n1 + n2 + 1, ?_⟩
  rw [px_succ]; unfold step
  rw [if_neg (by omega), if_neg (by omega), if_neg (by omega), if_pos (by omega), h1, Option.bind_some]
  have e : 10 + l - 10 + 1 = l + 1 := by omega
  rw [e, f1, Option.bind_some, if_neg (by omega), f2]

theorem ok_rel {s s1 : St} {a : E} {b : E × St} (h : opAt s = 4) (h1 : adv s = some s1) (hb : Ok 5 eNil s1 b) : Ok 14 a s (eTwo (off s) s.tok.txt a b.1, b.2) := by
  obtain ⟨n1, e1⟩ := hb
  refine ⟨n1 + 1, ?_⟩
  rw [px_succ]; unfold step
  rw [if_neg (by omega), if_neg (by omega), if_neg (by omega), if_pos (by omega), h1, Option.bind_some, e1, Option.bind_some, if_pos rfl]

/-- An atom whose reading asks for no expression within. -/
theorem ok_atom0 {s : St} {x : E × St} (h : ∀ f, atom f s = some x) : Ok 8 eNil s x := by
  refine ⟨1, ?_⟩
  rw [px_succ]; unfold step
  rw [if_neg (by omega), if_pos rfl, h]
theorem ok_atom {s : St} {x : E × St} {n : Nat} (h : atom (px n) s = some x) : Ok 8 eNil s x := by
  refine ⟨n + 1, ?_⟩
  rw [px_succ]; unfold step
  rw [if_neg (by omega), if_pos rfl, h]


theorem inv_if {s : St} {x : E × St} (h : sees s wIf = true) (k : Ok 0 eNil s x) :
    ∃ s1 a s3 b s5 c, adv s = some s1 ∧ Ok 0 eNil s1 a ∧ want a.2 wThen = some s3 ∧ Ok 0 eNil s3 b ∧ want b.2 wElse = some s5 ∧ Ok 0 eNil s5 c ∧ x = (eIf (off s) a.1 b.1 c.1, c.2) := by
  obtain ⟨n, hn⟩ := k
  cases n with
  | zero => cases hn
  | succ n =>
    rw [px_succ] at hn; unfold step at hn
    rw [if_pos rfl, if_pos h] at hn
    obtain ⟨s1, h1, hn⟩ := Option.bind_eq_some_iff.1 hn
    obtain ⟨a, h2, hn⟩ := Option.bind_eq_some_iff.1 hn
    obtain ⟨s3, h3, hn⟩ := Option.bind_eq_some_iff.1 hn
    obtain ⟨b, h4, hn⟩ := Option.bind_eq_some_iff.1 hn
    obtain ⟨s5, h5, hn⟩ := Option.bind_eq_some_iff.1 hn
    obtain ⟨c, h6, hn⟩ := Option.map_eq_some_iff.1 hn
    exact ⟨s1, a, s3, b, s5, c, h1, ⟨n, h2⟩, h3, ⟨n, h4⟩, h5, ⟨n, h6⟩, hn.symm⟩
theorem inv_noif {s : St} {x : E × St} (h : sees s wIf = false) (k : Ok 0 eNil s x) : Ok 1 eNil s x := by
  obtain ⟨n, hn⟩ := k
  cases n with
  | zero => cases hn
  | succ n =>
    rw [px_succ] at hn; unfold step at hn
    rw [if_pos rfl, h, if_neg (by decide)] at hn
    exact ⟨n, hn⟩
theorem inv_pre {l : Nat} {s : St} {x : E × St} (h : (l = 3 ∧ sees s wNot = true) ∨ (l = 7 ∧ sees s sMinus = true)) (k : Ok l eNil s x) :
    ∃ s1 a, adv s = some s1 ∧ Ok l eNil s1 a ∧ x = (ePre (off s) s.tok.txt a.1, a.2) := by
  obtain ⟨n, hn⟩ := k
  cases n with
  | zero => cases hn
  | succ n =>
    rw [px_succ] at hn; unfold step at hn
    rw [if_neg (by omega), if_neg (by omega), if_pos (by omega), if_pos h] at hn
    obtain ⟨s1, h1, hn⟩ := Option.bind_eq_some_iff.1 hn
    obtain ⟨a, h2, hn⟩ := Option.map_eq_some_iff.1 hn
    exact ⟨s1, a, h1, ⟨n, h2⟩, hn.symm⟩
theorem inv_level {l : Nat} (h0 : 0 < l) (h8 : l < 8) {s : St} {x : E × St} (h : ¬ ((l = 3 ∧ sees s wNot = true) ∨ (l = 7 ∧ sees s sMinus = true))) (k : Ok l eNil s x) :
    ∃ a, Ok (l + 1) eNil s a ∧ Ok (10 + l) a.1 a.2 x := by
  obtain ⟨n, hn⟩ := k
  cases n with
  | zero => cases hn
  | succ n =>
    rw [px_succ] at hn; unfold step at hn
    rw [if_neg (by omega), if_neg (by omega), if_pos h8, if_neg h] at hn
    obtain ⟨a, h1, hn⟩ := Option.bind_eq_some_iff.1 hn
    exact ⟨a, ⟨n, h1⟩, ⟨n, hn⟩⟩
theorem inv_stop {l : Nat} {s : St} {a : E} {x : E × St} (h : opAt s ≠ l) (k : Ok (10 + l) a s x) : x = (a, s) := by
  exact Ok.unique k (ok_stop h)
theorem inv_go {l : Nat} {s : St} {a : E} {x : E × St} (h : opAt s = l) (k : Ok (10 + l) a s x) :
    ∃ s1 b, adv s = some s1 ∧ Ok (l + 1) eNil s1 b ∧ ((l = 4 ∧ x = (eTwo (off s) s.tok.txt a b.1, b.2)) ∨ (l ≠ 4 ∧ Ok (10 + l) (eTwo (off s) s.tok.txt a b.1) b.2 x)) := by
  obtain ⟨n, hn⟩ := k
  cases n with
  | zero => cases hn
  | succ n =>
    rw [px_succ] at hn; unfold step at hn
    have e : 10 + l - 10 = l := by omega
    rw [if_neg (by omega), if_neg (by omega), if_neg (by omega), e, if_pos h] at hn
    obtain ⟨s1, h1, hn⟩ := Option.bind_eq_some_iff.1 hn
    obtain ⟨b, h2, hn⟩ := Option.bind_eq_some_iff.1 hn
    refine ⟨s1, b, h1, ⟨n, h2⟩, ?_⟩
    by_cases h4 : 10 + l = 14
    · rw [if_pos h4] at hn
      exact Or.inl ⟨by omega, (Option.some.inj hn).symm⟩
    · rw [if_neg h4] at hn
      exact Or.inr ⟨by omega, ⟨n, hn⟩⟩
theorem inv_atom {s : St} {x : E × St} (k : Ok 8 eNil s x) : ∃ n, atom (px n) s = some x := by
  obtain ⟨n, hn⟩ := k
  cases n with
  | zero => cases hn
  | succ n =>
    rw [px_succ] at hn; unfold step at hn
    rw [if_neg (by decide), if_pos rfl] at hn
    exact ⟨n, hn⟩

theorem literal_mu {s : St} {x : E × St} (h : literal s = some x) : mu x.2 < mu s := by
  unfold literal at h
  by_cases h1 : sees s wTrue = true
  · rw [if_pos h1] at h
    obtain ⟨s1, e1, rfl⟩ := Option.map_eq_some_iff.1 h
    exact adv_mu e1 (by rw [(sees_kind3 h1).1]; decide)
  · rw [if_neg h1] at h
    by_cases h2 : sees s wFalse = true
    · rw [if_pos h2] at h
      obtain ⟨s1, e1, rfl⟩ := Option.map_eq_some_iff.1 h
      exact adv_mu e1 (by rw [(sees_kind3 h2).1]; decide)
    · rw [if_neg h2] at h
      obtain ⟨y, e1, rfl⟩ := Option.map_eq_some_iff.1 h
      exact number_mu e1
theorem constant_mu {s : St} {x : E × St} (h : constant s = some x) : mu x.2 < mu s := by
  unfold constant at h
  by_cases h1 : sees s sMinus = true
  · rw [if_pos h1] at h
    obtain ⟨s1, e1, h2⟩ := Option.bind_eq_some_iff.1 h
    obtain ⟨y, e2, rfl⟩ := Option.map_eq_some_iff.1 h2
    exact Nat.lt_trans (number_mu e2) (adv_mu e1 (by rw [(sees_kind3 h1).1]; decide))
  · rw [if_neg h1] at h
    exact literal_mu h

def Dn (s : St) (o : Option (E × St)) : Prop := ∀ x, o = some x → mu x.2 ≤ mu s
def Fd (f : Nat → E → St → Option (E × St)) : Prop := ∀ t e s, Dn s (f t e s)
theorem dn_adv {s : St} {k : St → Option (E × St)} (h : ∀ s1, Dn s1 (k s1)) : Dn s ((adv s).bind k) := fun x hx => by
  obtain ⟨s1, h1, h2⟩ := Option.bind_eq_some_iff.1 hx
  exact Nat.le_trans (h s1 x h2) (adv_le h1)
theorem dn_want {s : St} {w : Bytes} {k : St → Option (E × St)} (h : ∀ s1, Dn s1 (k s1)) : Dn s ((want s w).bind k) := fun x hx => by
  obtain ⟨s1, h1, h2⟩ := Option.bind_eq_some_iff.1 hx
  exact Nat.le_trans (h s1 x h2) (Nat.le_of_lt (want_mu h1))
theorem dn_wantm {s : St} {w : Bytes} {e : E} : Dn s ((want s w).map fun s3 => (e, s3)) := fun x hx => by
  obtain ⟨s1, h1, rfl⟩ := Option.map_eq_some_iff.1 hx
  exact Nat.le_of_lt (want_mu h1)
theorem dn_const {s : St} {k : E × St → Option (E × St)} (h : ∀ c, Dn c.2 (k c)) : Dn s ((constant s).bind k) := fun x hx => by
  obtain ⟨c, h1, h2⟩ := Option.bind_eq_some_iff.1 hx
  exact Nat.le_trans (h c x h2) (Nat.le_of_lt (constant_mu h1))
theorem dn_num {s : St} {lo hi : Int} {k : Nat × St → Option (E × St)} (h : ∀ c, Dn c.2 (k c)) : Dn s ((number lo hi s).bind k) := fun x hx => by
  obtain ⟨c, h1, h2⟩ := Option.bind_eq_some_iff.1 hx
  exact Nat.le_trans (h c x h2) (Nat.le_of_lt (number_mu h1))
theorem dn_f {f : Nat → E → St → Option (E × St)} (hf : Fd f) {t : Nat} {e : E} {s : St} {k : E × St → Option (E × St)} (h : ∀ c, Dn c.2 (k c)) : Dn s ((f t e s).bind k) := fun x hx => by
  obtain ⟨c, h1, h2⟩ := Option.bind_eq_some_iff.1 hx
  exact Nat.le_trans (h c x h2) (hf t e s c h1)
theorem dn_fm {f : Nat → E → St → Option (E × St)} (hf : Fd f) {t : Nat} {e : E} {s : St} {g : E × St → E} : Dn s ((f t e s).map fun c => (g c, c.2)) := fun x hx => by
  obtain ⟨c, h1, rfl⟩ := Option.map_eq_some_iff.1 hx
  exact hf t e s c h1
theorem dn_ite {c : Prop} [Decidable c] {s : St} {a b : Option (E × St)} (h1 : Dn s a) (h2 : Dn s b) : Dn s (if c then a else b) := by
  by_cases h : c
  · rw [if_pos h]; exact h1
  · rw [if_neg h]; exact h2
theorem dn_lit {s : St} : Dn s (literal s) := fun _ h => Nat.le_of_lt (literal_mu h)
theorem dn_name {s : St} : Dn s ((name s).map fun x => (eName (off s) x.1, x.2)) := fun x hx => by
  obtain ⟨c, h1, rfl⟩ := Option.map_eq_some_iff.1 hx
  exact Nat.le_of_lt (name_mu h1)
theorem dn_some {s : St} {e : E} : Dn s (some (e, s)) := fun x hx => by
  obtain rfl := Option.some.inj hx
  exact Nat.le_refl _
theorem step_mu {f : Nat → E → St → Option (E × St)} (hf : Fd f) : Fd (step f) := by
  intro t e s
  unfold step atom
  repeat' first | exact hf _ _ _ | exact dn_lit | exact dn_name | exact dn_wantm | exact dn_fm hf | exact dn_some | refine dn_ite ?_ ?_ | refine dn_adv (fun _ => ?_) | refine dn_want (fun _ => ?_) | refine dn_const (fun _ => ?_) | refine dn_num (fun _ => ?_) | refine dn_f hf (fun _ => ?_)
theorem px_mu : ∀ n, Fd (px n)
  | 0 => fun _ _ _ _ h => by cases h
  | n + 1 => step_mu (px_mu n)
theorem ok_mu {t : Nat} {e : E} {s : St} {x : E × St} (h : Ok t e s x) : mu x.2 ≤ mu s := by
  obtain ⟨n, hn⟩ := h
  exact px_mu n t e s x hn

def Rfby (q : Nat) (s : St) (x : E) (t : St) : Prop := ∃ s2 c s4 y, want s sOpen = some s2 ∧ constant s2 = some c ∧ want c.2 sComma = some s4 ∧ Ok 0 eNil s4 y ∧ want y.2 sShut = some t ∧ x = eFby q c.1 y.1
def Runder (q : Nat) (s : St) (x : E) (t : St) : Prop := ∃ s2 y s4 k, want s sOpen = some s2 ∧ Ok 0 eNil s2 y ∧ want y.2 sComma = some s4 ∧ number 2 1000 s4 = some k ∧ want k.2 sShut = some t ∧ x = eUnder q y.1 k.1
def Rhold (q : Nat) (s : St) (x : E) (t : St) : Prop := ∃ s2 c s4 y s6 k, want s sOpen = some s2 ∧ constant s2 = some c ∧ want c.2 sComma = some s4 ∧ Ok 0 eNil s4 y ∧ want y.2 sComma = some s6 ∧ number 2 1000 s6 = some k ∧ want k.2 sShut = some t ∧ x = eHold q c.1 y.1 k.1
def Rleast (q : Nat) (m : Bytes) (s : St) (x : E) (t : St) : Prop := ∃ s2 y s4 z, want s sOpen = some s2 ∧ Ok 0 eNil s2 y ∧ want y.2 sComma = some s4 ∧ Ok 0 eNil s4 z ∧ want z.2 sShut = some t ∧ x = eLeast q m y.1 z.1

theorem atom_name {s : St} (h : s.tok.kind = 1) (x : E × St) : Ok 8 eNil s x ↔ (name s).map (fun y => (eName (off s) y.1, y.2)) = some x := by
  constructor
  · intro kk
    obtain ⟨n, hn⟩ := inv_atom kk
    unfold atom at hn
    rw [if_pos h] at hn
    exact hn
  · intro kk
    refine ok_atom0 fun f => ?_
    unfold atom
    rw [if_pos h]
    exact kk
theorem atom_open {s : St} (h : sees s sOpen = true) (x : E × St) : Ok 8 eNil s x ↔ ∃ s1 y s3, adv s = some s1 ∧ Ok 0 eNil s1 y ∧ want y.2 sShut = some s3 ∧ x = (y.1, s3) := by
  constructor
  · intro kk
    obtain ⟨n, hn⟩ := inv_atom kk
    unfold atom at hn
    rw [if_neg (sees_no1 h), if_pos h] at hn
    obtain ⟨s1, h1, hn⟩ := Option.bind_eq_some_iff.1 hn
    obtain ⟨y, h2, hn⟩ := Option.bind_eq_some_iff.1 hn
    obtain ⟨s3, h3, hn⟩ := Option.map_eq_some_iff.1 hn
    exact ⟨s1, y, s3, h1, ⟨n, h2⟩, h3, hn.symm⟩
  · rintro ⟨s1, y, s3, h1, ⟨n, h2⟩, h3, rfl⟩
    refine ok_atom (n := n) ?_
    unfold atom
    rw [if_neg (sees_no1 h), if_pos h, h1, Option.bind_some, h2, Option.bind_some, h3]; rfl
theorem atom_fby {s : St} (h : sees s wFby = true) (x : E × St) : Ok 8 eNil s x ↔ ∃ s1, adv s = some s1 ∧ Rfby (off s) s1 x.1 x.2 := by
  have o1 := sees_other h (y := sOpen) (by decide)
  constructor
  · intro kk
    obtain ⟨n, hn⟩ := inv_atom kk
    unfold atom at hn
    rw [if_neg (sees_no1 h), o1, if_neg (by decide), if_pos h] at hn
    obtain ⟨s1, h1, hn⟩ := Option.bind_eq_some_iff.1 hn
    obtain ⟨s2, h2, hn⟩ := Option.bind_eq_some_iff.1 hn
    obtain ⟨c, h3, hn⟩ := Option.bind_eq_some_iff.1 hn
    obtain ⟨s4, h4, hn⟩ := Option.bind_eq_some_iff.1 hn
    obtain ⟨y, h5, hn⟩ := Option.bind_eq_some_iff.1 hn
    obtain ⟨s6, h6, rfl⟩ := Option.map_eq_some_iff.1 hn
    exact ⟨s1, h1, s2, c, s4, y, h2, h3, h4, ⟨n, h5⟩, h6, rfl⟩
  · rintro ⟨s1, h1, s2, c, s4, y, h2, h3, h4, ⟨n, h5⟩, h6, h7⟩
    refine ok_atom (n := n) ?_
    unfold atom
    rw [if_neg (sees_no1 h), o1, if_neg (by decide), if_pos h, h1, Option.bind_some, h2, Option.bind_some, h3, Option.bind_some, h4, Option.bind_some, h5, Option.bind_some, h6, ← h7]; rfl
theorem atom_under {s : St} (h : sees s wUnder = true) (x : E × St) : Ok 8 eNil s x ↔ ∃ s1, adv s = some s1 ∧ Runder (off s) s1 x.1 x.2 := by
  have o1 := sees_other h (y := sOpen) (by decide)
  have o2 := sees_other h (y := wFby) (by decide)
  constructor
  · intro kk
    obtain ⟨n, hn⟩ := inv_atom kk
    unfold atom at hn
    rw [if_neg (sees_no1 h), o1, if_neg (by decide), o2, if_neg (by decide), if_pos h] at hn
    obtain ⟨s1, h1, hn⟩ := Option.bind_eq_some_iff.1 hn
    obtain ⟨s2, h2, hn⟩ := Option.bind_eq_some_iff.1 hn
    obtain ⟨y, h3, hn⟩ := Option.bind_eq_some_iff.1 hn
    obtain ⟨s4, h4, hn⟩ := Option.bind_eq_some_iff.1 hn
    obtain ⟨k, h5, hn⟩ := Option.bind_eq_some_iff.1 hn
    obtain ⟨s6, h6, rfl⟩ := Option.map_eq_some_iff.1 hn
    exact ⟨s1, h1, s2, y, s4, k, h2, ⟨n, h3⟩, h4, h5, h6, rfl⟩
  · rintro ⟨s1, h1, s2, y, s4, k, h2, ⟨n, h3⟩, h4, h5, h6, h7⟩
    refine ok_atom (n := n) ?_
    unfold atom
    rw [if_neg (sees_no1 h), o1, if_neg (by decide), o2, if_neg (by decide), if_pos h, h1, Option.bind_some, h2, Option.bind_some, h3, Option.bind_some, h4, Option.bind_some, h5, Option.bind_some, h6, ← h7]; rfl
theorem atom_hold {s : St} (h : sees s wHold = true) (x : E × St) : Ok 8 eNil s x ↔ ∃ s1, adv s = some s1 ∧ Rhold (off s) s1 x.1 x.2 := by
  have o1 := sees_other h (y := sOpen) (by decide)
  have o2 := sees_other h (y := wFby) (by decide)
  have o3 := sees_other h (y := wUnder) (by decide)
  constructor
  · intro kk
    obtain ⟨n, hn⟩ := inv_atom kk
    unfold atom at hn
    rw [if_neg (sees_no1 h), o1, if_neg (by decide), o2, if_neg (by decide), o3, if_neg (by decide), if_pos h] at hn
    obtain ⟨s1, h1, hn⟩ := Option.bind_eq_some_iff.1 hn
    obtain ⟨s2, h2, hn⟩ := Option.bind_eq_some_iff.1 hn
    obtain ⟨c, h3, hn⟩ := Option.bind_eq_some_iff.1 hn
    obtain ⟨s4, h4, hn⟩ := Option.bind_eq_some_iff.1 hn
    obtain ⟨y, h5, hn⟩ := Option.bind_eq_some_iff.1 hn
    obtain ⟨s6, h6, hn⟩ := Option.bind_eq_some_iff.1 hn
    obtain ⟨k, h7, hn⟩ := Option.bind_eq_some_iff.1 hn
    obtain ⟨s8, h8, rfl⟩ := Option.map_eq_some_iff.1 hn
    exact ⟨s1, h1, s2, c, s4, y, s6, k, h2, h3, h4, ⟨n, h5⟩, h6, h7, h8, rfl⟩
  · rintro ⟨s1, h1, s2, c, s4, y, s6, k, h2, h3, h4, ⟨n, h5⟩, h6, h7, h8, h9⟩
    refine ok_atom (n := n) ?_
    unfold atom
    rw [if_neg (sees_no1 h), o1, if_neg (by decide), o2, if_neg (by decide), o3, if_neg (by decide), if_pos h, h1, Option.bind_some, h2, Option.bind_some, h3, Option.bind_some, h4, Option.bind_some, h5, Option.bind_some, h6, Option.bind_some, h7, Option.bind_some, h8, ← h9]; rfl
theorem atom_least {s : St} {m : Bytes} (hm : m = wMin ∨ m = wMax) (h : sees s m = true) (x : E × St) : Ok 8 eNil s x ↔ ∃ s1, adv s = some s1 ∧ Rleast (off s) m s1 x.1 x.2 := by
  have o1 : sees s sOpen = false := sees_other h (by rcases hm with rfl | rfl <;> decide)
  have o2 : sees s wFby = false := sees_other h (by rcases hm with rfl | rfl <;> decide)
  have o3 : sees s wUnder = false := sees_other h (by rcases hm with rfl | rfl <;> decide)
  have o4 : sees s wHold = false := sees_other h (by rcases hm with rfl | rfl <;> decide)
  have o5 : (sees s wMin || sees s wMax) = true := by
    rcases hm with rfl | rfl
    · rw [h]; rfl
    · rw [h]; simp
  have ht := (sees_kind3 h).2
  constructor
  · intro kk
    obtain ⟨n, hn⟩ := inv_atom kk
    unfold atom at hn
    rw [if_neg (sees_no1 h), o1, if_neg (by decide), o2, if_neg (by decide), o3, if_neg (by decide), o4, if_neg (by decide), if_pos o5] at hn
    obtain ⟨s1, h1, hn⟩ := Option.bind_eq_some_iff.1 hn
    obtain ⟨s2, h2, hn⟩ := Option.bind_eq_some_iff.1 hn
    obtain ⟨y, h3, hn⟩ := Option.bind_eq_some_iff.1 hn
    obtain ⟨s4, h4, hn⟩ := Option.bind_eq_some_iff.1 hn
    obtain ⟨z, h5, hn⟩ := Option.bind_eq_some_iff.1 hn
    obtain ⟨s6, h6, rfl⟩ := Option.map_eq_some_iff.1 hn
    exact ⟨s1, h1, s2, y, s4, z, h2, ⟨n, h3⟩, h4, ⟨n, h5⟩, h6, by rw [ht]⟩
  · rintro ⟨s1, h1, s2, y, s4, z, h2, ⟨n, h3⟩, h4, ⟨n2, h5⟩, h6, h7⟩
    have f3 := px_le (show n ≤ n + n2 by omega) h3
    have f5 := px_le (show n2 ≤ n + n2 by omega) h5
    refine ok_atom (n := n + n2) ?_
    unfold atom
    rw [if_neg (sees_no1 h), o1, if_neg (by decide), o2, if_neg (by decide), o3, if_neg (by decide), o4, if_neg (by decide), if_pos o5, h1, Option.bind_some, h2, Option.bind_some, f3, Option.bind_some, h4, Option.bind_some, f5, Option.bind_some, h6, ht, ← h7]; rfl
theorem atom_lit {s : St} (h0 : s.tok.kind ≠ 1) (o1 : sees s sOpen = false) (o2 : sees s wFby = false) (o3 : sees s wUnder = false) (o4 : sees s wHold = false) (o5 : sees s wMin = false) (o6 : sees s wMax = false) (x : E × St) :
    Ok 8 eNil s x ↔ literal s = some x := by
  constructor
  · intro kk
    obtain ⟨n, hn⟩ := inv_atom kk
    unfold atom at hn
    rw [if_neg h0, o1, if_neg (by decide), o2, if_neg (by decide), o3, if_neg (by decide), o4, if_neg (by decide), o5, o6, if_neg (by decide)] at hn
    exact hn
  · intro kk
    refine ok_atom0 fun f => ?_
    unfold atom
    rw [if_neg h0, o1, if_neg (by decide), o2, if_neg (by decide), o3, if_neg (by decide), o4, if_neg (by decide), o5, o6, if_neg (by decide)]
    exact kk

theorem pnames_le : ∀ (n m : Nat) (acc : List (Bytes × Nat)) (s : St) (x : List (Bytes × Nat) × St), n ≤ m → pnames n acc s = some x → pnames m acc s = some x
  | 0, _, _, _, _, _, h => by cases h
  | n + 1, 0, _, _, _, hm, _ => by omega
  | n + 1, m + 1, acc, s, x, hm, h => by
    rw [pnames] at h ⊢
    by_cases c : sees s sComma = true
    · rw [if_pos c] at h ⊢
      obtain ⟨s1, h1, h⟩ := Option.bind_eq_some_iff.1 h
      obtain ⟨y, h2, h⟩ := Option.bind_eq_some_iff.1 h
      rw [h1, Option.bind_some, h2, Option.bind_some]
      exact pnames_le n m _ _ x (by omega) h
    · rw [if_neg c] at h ⊢; exact h

theorem pitem_le {n m : Nat} (hm : n ≤ m) {s : St} {x : It × St} (h : pitem n s = some x) : pitem m s = some x := by
  unfold pitem at h ⊢
  by_cases c1 : sees s wInput = true
  · rw [if_pos c1] at h ⊢; exact h
  rw [if_neg c1] at h ⊢
  by_cases c2 : sees s wOutput = true
  · rw [if_pos c2] at h ⊢
    refine (Imp.refl _).bind (fun _ => (Imp.refl _).bind (fun _ => Imp.bind (fun y hy => pnames_le n m _ _ y hm hy) (fun _ => Imp.refl _))) x h
  rw [if_neg c2] at h ⊢
  refine (Imp.refl _).bind (fun _ => (Imp.refl _).bind (fun _ => (Imp.refl _).bind (fun _ => (Imp.refl _).bind (fun _ => Imp.bind (fun y hy => px_le hm hy) (fun _ => Imp.refl _))))) x h

theorem pprog_le : ∀ (n m : Nat) (acc : List It) (s : St) (l : List It), n ≤ m → pprog n acc s = some l → pprog m acc s = some l
  | 0, _, _, _, _, _, h => by cases h
  | n + 1, 0, _, _, _, hm, _ => by omega
  | n + 1, m + 1, acc, s, l, hm, h => by
    rw [pprog] at h ⊢
    by_cases c0 : s.tok.kind = 0
    · rw [if_pos c0] at h ⊢; exact h
    · rw [if_neg c0] at h ⊢
      by_cases c1 : acc.length = 60
      · rw [if_pos c1] at h; cases h
      · rw [if_neg c1] at h ⊢
        obtain ⟨x, h1, h2⟩ := Option.bind_eq_some_iff.1 h
        rw [pitem_le (show n ≤ m by omega) h1, Option.bind_some]
        exact pprog_le n m _ _ l (by omega) h2


def Rname (acc : List (Bytes × Nat)) (s : St) (l : List (Bytes × Nat) × St) : Prop := ∃ n, pnames n acc s = some l
theorem Rname.unique {acc : List (Bytes × Nat)} {s : St} {x y : List (Bytes × Nat) × St} (h : Rname acc s x) (k : Rname acc s y) : x = y := by
  obtain ⟨n, hn⟩ := h
  obtain ⟨m, hm⟩ := k
  have h1 := pnames_le n (n + m) acc s x (by omega) hn
  have h2 := pnames_le m (n + m) acc s y (by omega) hm
  exact Option.some.inj (h1.symm.trans h2)
theorem name_stop {acc : List (Bytes × Nat)} {s : St} (h : sees s sComma = false) : Rname acc s (acc, s) := ⟨1, by rw [pnames, h]; rfl⟩
theorem name_go {acc : List (Bytes × Nat)} {s s1 : St} {x : Bytes × St} {l : List (Bytes × Nat) × St} (h : sees s sComma = true) (h1 : adv s = some s1) (h2 : name s1 = some x) : Rname acc s l ↔ Rname (acc ++ [(x.1, off s1)]) x.2 l := by
  constructor
  · rintro ⟨n, hn⟩
    cases n with
    | zero => cases hn
    | succ n =>
      rw [pnames, if_pos h, h1, Option.bind_some, h2, Option.bind_some] at hn
      exact ⟨n, hn⟩
  · rintro ⟨n, hn⟩
    exact ⟨n + 1, by rw [pnames, if_pos h, h1, Option.bind_some, h2, Option.bind_some]; exact hn⟩
theorem name_inv {acc : List (Bytes × Nat)} {s : St} {l : List (Bytes × Nat) × St} (h : sees s sComma = true) (k : Rname acc s l) : ∃ s1 x, adv s = some s1 ∧ name s1 = some x := by
  obtain ⟨n, hn⟩ := k
  cases n with
  | zero => cases hn
  | succ n =>
    rw [pnames, if_pos h] at hn
    obtain ⟨s1, h1, hn⟩ := Option.bind_eq_some_iff.1 hn
    obtain ⟨x, h2, hn⟩ := Option.bind_eq_some_iff.1 hn
    exact ⟨s1, x, h1, h2⟩

def Rin (s : St) (i : It) (t : St) : Prop := ∃ x s3 y s5 k, name s = some x ∧ want x.2 sColon = some s3 ∧ ftype s3 = some y ∧ want y.2 wEvery = some s5 ∧ number 1 1000000 s5 = some k ∧ want k.2 sSemi = some t ∧ i = ⟨1, x.1, off s, y.1, k.1, [], eNil⟩
def Rout (s : St) (i : It) (t : St) : Prop := ∃ x l, name s = some x ∧ Rname [(x.1, off s)] x.2 l ∧ want l.2 sSemi = some t ∧ i = ⟨2, [], 0, 0, 0, l.1, eNil⟩
def Req (s : St) (i : It) (t : St) : Prop := ∃ x s2 y s4 e, name s = some x ∧ want x.2 sColon = some s2 ∧ ftype s2 = some y ∧ want y.2 sIs = some s4 ∧ Ok 0 eNil s4 e ∧ want e.2 sSemi = some t ∧ i = ⟨3, x.1, off s, y.1, 0, [], e.1⟩
def Rit (s : St) (i : It) (t : St) : Prop := ∃ n, pitem n s = some (i, t)
theorem Rit.unique {s : St} {i j : It} {t u : St} (h : Rit s i t) (k : Rit s j u) : (i, t) = (j, u) := by
  obtain ⟨n, hn⟩ := h
  obtain ⟨m, hm⟩ := k
  have h1 := pitem_le (show n ≤ n + m by omega) hn
  have h2 := pitem_le (show m ≤ n + m by omega) hm
  exact Option.some.inj (h1.symm.trans h2)

theorem it_in {s : St} (h : sees s wInput = true) (i : It) (t : St) : Rit s i t ↔ ∃ s1, adv s = some s1 ∧ Rin s1 i t := by
  constructor
  · rintro ⟨n, hn⟩
    unfold pitem at hn
    rw [if_pos h] at hn
    obtain ⟨s1, h1, hn⟩ := Option.bind_eq_some_iff.1 hn
    obtain ⟨x, h2, hn⟩ := Option.bind_eq_some_iff.1 hn
    obtain ⟨s3, h3, hn⟩ := Option.bind_eq_some_iff.1 hn
    obtain ⟨y, h4, hn⟩ := Option.bind_eq_some_iff.1 hn
    obtain ⟨s5, h5, hn⟩ := Option.bind_eq_some_iff.1 hn
    obtain ⟨k, h6, hn⟩ := Option.bind_eq_some_iff.1 hn
    obtain ⟨s7, h7, hn⟩ := Option.map_eq_some_iff.1 hn
    obtain ⟨rfl, rfl⟩ := Prod.mk.inj hn
    exact ⟨s1, h1, x, s3, y, s5, k, h2, h3, h4, h5, h6, h7, rfl⟩
  · rintro ⟨s1, h1, x, s3, y, s5, k, h2, h3, h4, h5, h6, h7, rfl⟩
    refine ⟨0, ?_⟩
    unfold pitem
    rw [if_pos h, h1, Option.bind_some, h2, Option.bind_some, h3, Option.bind_some, h4, Option.bind_some, h5, Option.bind_some, h6, Option.bind_some, h7]; rfl
theorem it_out {s : St} (h : sees s wOutput = true) (i : It) (t : St) : Rit s i t ↔ ∃ s1, adv s = some s1 ∧ Rout s1 i t := by
  have o1 := sees_other h (y := wInput) (by decide)
  constructor
  · rintro ⟨n, hn⟩
    unfold pitem at hn
    rw [o1, if_neg (by decide), if_pos h] at hn
    obtain ⟨s1, h1, hn⟩ := Option.bind_eq_some_iff.1 hn
    obtain ⟨x, h2, hn⟩ := Option.bind_eq_some_iff.1 hn
    obtain ⟨l, h3, hn⟩ := Option.bind_eq_some_iff.1 hn
    obtain ⟨s7, h7, hn⟩ := Option.map_eq_some_iff.1 hn
    obtain ⟨rfl, rfl⟩ := Prod.mk.inj hn
    exact ⟨s1, h1, x, l, h2, ⟨n, h3⟩, h7, rfl⟩
  · rintro ⟨s1, h1, x, l, h2, ⟨n, h3⟩, h7, rfl⟩
    refine ⟨n, ?_⟩
    unfold pitem
    rw [o1, if_neg (by decide), if_pos h, h1, Option.bind_some, h2, Option.bind_some, h3, Option.bind_some, h7]; rfl
theorem it_eq {s : St} (o1 : sees s wInput = false) (o2 : sees s wOutput = false) (i : It) (t : St) : Rit s i t ↔ Req s i t := by
  constructor
  · rintro ⟨n, hn⟩
    unfold pitem at hn
    rw [o1, if_neg (by decide), o2, if_neg (by decide)] at hn
    obtain ⟨x, h2, hn⟩ := Option.bind_eq_some_iff.1 hn
    obtain ⟨s3, h3, hn⟩ := Option.bind_eq_some_iff.1 hn
    obtain ⟨y, h4, hn⟩ := Option.bind_eq_some_iff.1 hn
    obtain ⟨s5, h5, hn⟩ := Option.bind_eq_some_iff.1 hn
    obtain ⟨e, h6, hn⟩ := Option.bind_eq_some_iff.1 hn
    obtain ⟨s7, h7, hn⟩ := Option.map_eq_some_iff.1 hn
    obtain ⟨rfl, rfl⟩ := Prod.mk.inj hn
    exact ⟨x, s3, y, s5, e, h2, h3, h4, h5, ⟨n, h6⟩, h7, rfl⟩
  · rintro ⟨x, s3, y, s5, e, h2, h3, h4, h5, ⟨n, h6⟩, h7, rfl⟩
    refine ⟨n, ?_⟩
    unfold pitem
    rw [o1, if_neg (by decide), o2, if_neg (by decide), h2, Option.bind_some, h3, Option.bind_some, h4, Option.bind_some, h5, Option.bind_some, h6, Option.bind_some, h7]; rfl


/-! ### Without the places -/
def er : E → Mil.E
  | .nil => .nil
  | .node t k x a b => .node t k x.1 (er a) (er b)
def erx (x : E × St) : Mil.E × St := (er x.1, x.2)
def Sim {α β : Type} (g : α → β) (o : Option α) (p : Option β) : Prop := p = o.map g
theorem sim_bind {α β γ δ : Type} {g : α → β} {h : γ → δ} {o : Option α} {p : Option β} {f : α → Option γ} {k : β → Option δ} (e : Sim g o p) (r : ∀ x, Sim h (f x) (k (g x))) : Sim h (o.bind f) (p.bind k) := by
  unfold Sim at *
  rw [e]
  cases o with
  | none => rfl
  | some x => exact r x
theorem sim_same {α γ δ : Type} {h : γ → δ} {o : Option α} {f : α → Option γ} {k : α → Option δ} (r : ∀ x, Sim h (f x) (k x)) : Sim h (o.bind f) (o.bind k) := by
  cases o with
  | none => rfl
  | some x => exact r x
theorem sim_map {α β γ δ : Type} {g : α → β} {h : γ → δ} {o : Option α} {p : Option β} {f : α → γ} {k : β → δ} (e : Sim g o p) (r : ∀ x, k (g x) = h (f x)) : Sim h (o.map f) (p.map k) := by
  unfold Sim at *
  rw [e]
  cases o with
  | none => rfl
  | some x => exact congrArg some (r x)
theorem sim_mapS {α γ δ : Type} {h : γ → δ} {o : Option α} {f : α → γ} {k : α → δ} (r : ∀ x, k x = h (f x)) : Sim h (o.map f) (o.map k) := by
  cases o with
  | none => rfl
  | some x => exact congrArg some (r x)
theorem sim_ite {c : Prop} [Decidable c] {α β : Type} {g : α → β} {o o' : Option α} {p p' : Option β} (h : Sim g o p) (k : Sim g o' p') : Sim g (if c then o else o') (if c then p else p') := by
  by_cases hc : c
  · rw [if_pos hc, if_pos hc]; exact h
  · rw [if_neg hc, if_neg hc]; exact k
theorem sim_some {α β : Type} {g : α → β} (x : α) : Sim g (some x) (some (g x)) := rfl
theorem sim_literal (s : St) : Sim erx (literal s) (Mil.literal s) :=
  sim_ite (sim_mapS fun _ => rfl) (sim_ite (sim_mapS fun _ => rfl) (sim_mapS fun _ => rfl))
theorem sim_constant (s : St) : Sim erx (constant s) (Mil.constant s) :=
  sim_ite (sim_same fun _ => sim_mapS fun _ => rfl) (sim_literal s)
def SimF (f : Nat → E → St → Option (E × St)) (g : Nat → Mil.E → St → Option (Mil.E × St)) : Prop := ∀ t e s, Sim erx (f t e s) (g t (er e) s)
theorem sim_atom {f : Nat → E → St → Option (E × St)} {g : Nat → Mil.E → St → Option (Mil.E × St)} (hf : SimF f g) (s : St) : Sim erx (atom f s) (Mil.atom g s) :=
  sim_ite (sim_mapS fun _ => rfl)
  (sim_ite (sim_same fun s1 => sim_bind (hf 0 eNil s1) fun _ => sim_mapS fun _ => rfl)
  (sim_ite (sim_same fun _ => sim_same fun s2 => sim_bind (sim_constant s2) fun _ => sim_same fun s4 => sim_bind (hf 0 eNil s4) fun _ => sim_mapS fun _ => rfl)
  (sim_ite (sim_same fun _ => sim_same fun s2 => sim_bind (hf 0 eNil s2) fun _ => sim_same fun _ => sim_same fun _ => sim_mapS fun _ => rfl)
  (sim_ite (sim_same fun _ => sim_same fun s2 => sim_bind (sim_constant s2) fun _ => sim_same fun s4 => sim_bind (hf 0 eNil s4) fun _ => sim_same fun _ => sim_same fun _ => sim_mapS fun _ => rfl)
  (sim_ite (sim_same fun _ => sim_same fun s2 => sim_bind (hf 0 eNil s2) fun _ => sim_same fun s4 => sim_bind (hf 0 eNil s4) fun _ => sim_mapS fun _ => rfl)
  (sim_literal s))))))
theorem sim_step {f : Nat → E → St → Option (E × St)} {g : Nat → Mil.E → St → Option (Mil.E × St)} (hf : SimF f g) : SimF (step f) (Mil.step g) := fun t _ s =>
  sim_ite (sim_ite (sim_same fun s1 => sim_bind (hf 0 eNil s1) fun _ => sim_same fun s3 => sim_bind (hf 0 eNil s3) fun _ => sim_same fun s5 => sim_map (hf 0 eNil s5) fun _ => rfl) (hf 1 eNil s))
  (sim_ite (sim_atom hf s)
  (sim_ite (sim_ite (sim_same fun s1 => sim_map (hf t eNil s1) fun _ => rfl) (sim_bind (hf (t + 1) eNil s) fun a => hf (10 + t) a.1 a.2))
  (sim_ite (sim_same fun s1 => sim_bind (hf (t - 10 + 1) eNil s1) fun b => sim_ite (sim_some _) (hf t _ b.2)) (sim_some _))))
theorem sim_px : ∀ n, SimF (px n) (Mil.px n)
  | 0 => fun _ _ _ => rfl
  | n + 1 => sim_step (sim_px n)
theorem Ok.er {t : Nat} {e : E} {s : St} {x : E × St} (h : Ok t e s x) : Mil.Ok t (er e) s (er x.1, x.2) := by
  obtain ⟨n, h⟩ := h
  exact ⟨n, by rw [sim_px n t e s, h]; rfl⟩
theorem const_er {s : St} {x : E × St} (h : constant s = some x) : Mil.constant s = some (er x.1, x.2) := by rw [sim_constant s, h]; rfl
theorem lit_er {s : St} {x : E × St} (h : literal s = some x) : Mil.literal s = some (er x.1, x.2) := by rw [sim_literal s, h]; rfl
def eri (i : It) : Mil.It := ⟨i.kind, i.nm, i.ty, i.every, i.names.map Prod.fst, er i.body⟩
theorem sim_names : ∀ (n : Nat) (acc : List (Bytes × Nat)) (s : St), Sim (fun x => (x.1.map Prod.fst, x.2)) (pnames n acc s) (Mil.pnames n (acc.map Prod.fst) s)
  | 0, _, _ => rfl
  | n + 1, acc, s => by
    refine sim_ite (sim_same fun s1 => sim_same fun x => ?_) (sim_some _)
    have := sim_names n (acc ++ [(x.1, off s1)]) x.2
    rw [List.map_append] at this
    exact this
theorem sim_item (n : Nat) (s : St) : Sim (fun x => (eri x.1, x.2)) (pitem n s) (Mil.pitem n s) :=
  sim_ite (sim_same fun _ => sim_same fun _ => sim_same fun _ => sim_same fun _ => sim_same fun _ => sim_same fun _ => sim_mapS fun _ => rfl)
  (sim_ite (sim_same fun _ => sim_same fun x => sim_bind (sim_names n _ x.2) fun _ => sim_mapS fun _ => rfl)
  (sim_same fun _ => sim_same fun _ => sim_same fun _ => sim_same fun s4 => sim_bind (sim_px n 0 eNil s4) fun _ => sim_mapS fun _ => rfl))
theorem sim_prog : ∀ (n : Nat) (acc : List It) (s : St), Sim (fun x => x.map eri) (pprog n acc s) (Mil.pprog n (acc.map eri) s)
  | 0, _, _ => rfl
  | n + 1, acc, s => by
    have e : (acc.map eri).length = acc.length := List.length_map ..
    unfold pprog Mil.pprog
    rw [e]
    refine sim_ite (sim_some _) (sim_ite rfl (sim_bind (sim_item n s) fun x => ?_))
    have := sim_prog n (acc ++ [x.1]) x.2
    rw [List.map_append] at this
    exact this
theorem sim_parse (n : Nat) (b : Bytes) : Sim (fun x => x.map eri) (parse n b) (Mil.parse n b) :=
  sim_ite rfl (sim_same fun s => sim_prog n [] s)
theorem Parsed.er {b : Bytes} {l : List It} (h : Parsed b l) : Mil.Parsed b (l.map eri) := by
  obtain ⟨n, h⟩ := h
  exact ⟨n, by rw [sim_parse n b, h]; rfl⟩
theorem Parsed.pl {b : Bytes} {l : List Mil.It} (h : Mil.Parsed b l) : ∃ m, Parsed b m ∧ m.map eri = l := by
  obtain ⟨n, h⟩ := h
  rw [sim_parse n b] at h
  obtain ⟨m, h1, h2⟩ := Option.map_eq_some_iff.1 h
  exact ⟨m, ⟨n, h1⟩, h2⟩
theorem rname_er {acc : List (Bytes × Nat)} {s : St} {l : List (Bytes × Nat) × St} (h : Rname acc s l) : Mil.Rname (acc.map Prod.fst) s (l.1.map Prod.fst, l.2) := by
  obtain ⟨n, h⟩ := h
  exact ⟨n, by rw [sim_names n acc s, h]; rfl⟩
theorem Rit.er {s : St} {i : It} {t : St} (h : Rit s i t) : Mil.Rit s (eri i) t := by
  obtain ⟨n, h⟩ := h
  exact ⟨n, by rw [sim_item n s, h]; rfl⟩

end Mip
end Go.Proofs.YtibbjohkiigffaaGreatDoor
