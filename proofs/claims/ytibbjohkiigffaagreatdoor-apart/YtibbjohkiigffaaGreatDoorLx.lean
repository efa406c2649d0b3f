/-
  Base, Lexa, Laid, Cutn, Cuts, Cutd, Cut, in one.
-/
import Derived.Test.YtibbjohkiigffaaGreatDoorProg
import Derived.KernelRfl
import Derived.RowKit
import Derived.Test.YtibbjohkiigffaaGreatDoorPap
import Derived.WalkKit
import Derived.WalkSpells
import Derived.WalkLawsBesides
import Derived.Deep.LoopGhost
import Derived.Deep.CutRange
import Derived.Deep.QuietTactic
import Derived.BigQuiet
import Derived.Laws.Rows
import Derived.Deep.CutBlock
import Derived.Lib.Strings
import Derived.RegionTactic
import Derived.BigRegion
import Derived.Deep.RegionHeld2
import Derived.Test.YtibbjohkiigffaaGreatDoorShelf
import Derived.Lib.SmallJoins
namespace Go.Proofs.YtibbjohkiigffaaGreatDoor
open Go.RowKit

/-- All blocks that there were are as they were, but for block b. -/
structure Kp (b : Nat) (w w' : World) : Prop where
  os : w'.os = w.os
  tape : w'.tape = w.tape
  output : w'.output = w.output
  size : w.heap.size ≤ w'.heap.size
  block : ∀ k, k < w.heap.size → k ≠ b → w'.heap[k]? = w.heap[k]?

theorem Kp.refl (b : Nat) (w : World) : Kp b w w := ⟨rfl, rfl, rfl, Nat.le_refl _, fun _ _ _ => rfl⟩
theorem Kp.trans {b : Nat} {u v w : World} (h : Kp b u v) (k : Kp b v w) : Kp b u w :=
  ⟨k.os.trans h.os, k.tape.trans h.tape, k.output.trans h.output, Nat.le_trans h.size k.size, fun i h1 h2 => (k.block i (Nat.lt_of_lt_of_le h1 h.size) h2).trans (h.block i h1 h2)⟩
theorem Kp.of_below {b : Nat} {w w' : World} (h : Below w.heap.size w w') : Kp b w w' := ⟨h.os, h.tape, h.output, h.size, fun k h1 _ => h.block k h1⟩
theorem Kp.drew {b : Nat} {u w : World} (h : Kp b u w) : Kp b u w.drew := ⟨h.os, h.tape, h.output, h.size, h.block⟩
theorem Kp.drewN {b : Nat} {u w : World} (h : Kp b u w) (n : Nat) : Kp b u (w.drewN n) := h.trans (Kp.of_below (below_drewN (Below.refl _ _) n))
theorem Kp.setCell {b : Nat} {u w : World} (h : Kp b u w) (o : Nat) (v : Value) : Kp b u (w.setCell ⟨b, o, none⟩ v) :=
  ⟨h.os, h.tape, h.output, by simpa using h.size, fun k h1 h2 => (Below.heap_setCell w ⟨b, o, none⟩ v k h2).trans (h.block k h1 h2)⟩
theorem Kp.alloc {b : Nat} {u w : World} (h : Kp b u w) (o : Obj) : Kp b u (w.alloc o) :=
  ⟨h.os, h.tape, h.output, by simp; have := h.size; omega, fun k h1 h2 => (Below.heap_alloc w o k (Nat.lt_of_lt_of_le h1 h.size)).trans (h.block k h1 h2)⟩
theorem Kp.setNew {b : Nat} {u w : World} (h : Kp b u w) {r : Nat} (hr : u.heap.size ≤ r) (o : Nat) (v : Value) : Kp b u (w.setCell ⟨r, o, none⟩ v) :=
  ⟨h.os, h.tape, h.output, by simpa using h.size, fun k h1 h2 => (Below.heap_setCell w ⟨r, o, none⟩ v k (by show k ≠ r; omega)).trans (h.block k h1 h2)⟩
theorem Kp.cell {b : Nat} {w w' : World} (h : Kp b w w') {p : Addr} (hp : p.block < w.heap.size) (hb : p.block ≠ b) : w'.cell? p = w.cell? p := World.cell?_of_block (w := w) (h.block p.block hp hb)
theorem lt_of_cell {w : World} {p : Addr} {v : Value} (h : w.cell? p = some v) : p.block < w.heap.size := by
  rcases Nat.lt_or_ge p.block w.heap.size with h' | h'
  · exact h'
  · obtain ⟨k, o, s⟩ := p
    cases s <;> simp [World.cell?, Array.getElem?_eq_none h'] at h
theorem Kp.held {b : Nat} {w w' : World} (h : Kp b w w') {p : Addr} {v : Value} (hv : w.cell? p = some v) (hb : p.block ≠ b) : w'.cell? p = some v := (h.cell (lt_of_cell hv) hb).trans hv

/-- A reader: its text, its place, its count; its token. -/
structure Rd (w : World) (b : Nat) (s : ByteArray) (p n : Nat) (k tp : Int) (x : ByteArray) (v : Int) : Prop where
  c0 : w.cell? ⟨b, 0, none⟩ = some (.string s)
  c1 : w.cell? ⟨b, 1, none⟩ = some (.int .i64 p)
  c2 : w.cell? ⟨b, 2, none⟩ = some (.int .i64 n)
  c3 : w.cell? ⟨b, 3, none⟩ = some (.int .i64 k)
  c4 : w.cell? ⟨b, 4, none⟩ = some (.int .i64 tp)
  c5 : w.cell? ⟨b, 5, none⟩ = some (.string x)
  c6 : w.cell? ⟨b, 6, none⟩ = some (.int .i64 v)
  fz : ∀ o, w.frozen? ⟨b, o, none⟩ = false

theorem Rd.drewN {w : World} {b : Nat} {s : ByteArray} {p n : Nat} {k tp : Int} {x : ByteArray} {v : Int} (h : Rd w b s p n k tp x v) (q : Nat) : Rd (w.drewN q) b s p n k tp x v := by
  have hb := below_drewN (Below.refl w.heap.size w) q
  have hlt : b < w.heap.size := lt_of_cell h.c0
  exact ⟨(hb.cell hlt).trans h.c0, (hb.cell hlt).trans h.c1, (hb.cell hlt).trans h.c2, (hb.cell hlt).trans h.c3, (hb.cell hlt).trans h.c4, (hb.cell hlt).trans h.c5, (hb.cell hlt).trans h.c6, fun o => (hb.frozen hlt).trans (h.fz o)⟩
theorem Rd.kept {w w' : World} {b c : Nat} {s : ByteArray} {p n : Nat} {k tp : Int} {x : ByteArray} {v : Int} (h : Rd w b s p n k tp x v) (hk : Kp c w w') (hc : b ≠ c) : Rd w' b s p n k tp x v := by
  have hlt : b < w.heap.size := lt_of_cell h.c0
  have cell : ∀ o, w'.cell? ⟨b, o, none⟩ = w.cell? ⟨b, o, none⟩ := fun o => hk.cell (p := ⟨b, o, none⟩) hlt hc
  have fr : ∀ o, w'.frozen? ⟨b, o, none⟩ = w.frozen? ⟨b, o, none⟩ := fun o => World.frozen?_of_block (w := w) (hk.block b hlt hc)
  exact ⟨(cell 0).trans h.c0, (cell 1).trans h.c1, (cell 2).trans h.c2, (cell 3).trans h.c3, (cell 4).trans h.c4, (cell 5).trans h.c5, (cell 6).trans h.c6, fun o => (fr o).trans (h.fz o)⟩
/-- The same behind four stores into another block. -/
theorem Rd.four {w : World} {b r : Nat} {s : ByteArray} {p n : Nat} {k tp : Int} {x : ByteArray} {v : Int} (h : Rd w b s p n k tp x v) (hr : b ≠ r) (v0 v1 v2 v3 : Value) :
    Rd ((((w.setCell ⟨r, 0, none⟩ v0).setCell ⟨r, 1, none⟩ v1).setCell ⟨r, 2, none⟩ v2).setCell ⟨r, 3, none⟩ v3) b s p n k tp x v :=
  h.kept (((((Kp.refl r w).setCell 0 v0).setCell 1 v1).setCell 2 v2).setCell 3 v3) hr
theorem Kp.four {b r : Nat} {u w : World} (h : Kp b u w) (hr : u.heap.size ≤ r) (v0 v1 v2 v3 : Value) :
    Kp b u ((((w.setCell ⟨r, 0, none⟩ v0).setCell ⟨r, 1, none⟩ v1).setCell ⟨r, 2, none⟩ v2).setCell ⟨r, 3, none⟩ v3) :=
  (((h.setNew hr 0 v0).setNew hr 1 v1).setNew hr 2 v2).setNew hr 3 v3
theorem Rd.set1 {w : World} {b : Nat} {s : ByteArray} {p n : Nat} {k tp : Int} {x : ByteArray} {v : Int} (h : Rd w b s p n k tp x v) (q : Nat) : Rd (w.setCell ⟨b, 1, none⟩ (.int .i64 q)) b s q n k tp x v := by
  have fr : ∀ o, (w.setCell ⟨b, 1, none⟩ (.int .i64 q)).frozen? ⟨b, o, none⟩ = false := fun o => by simp [h.fz]
  have oth : ∀ o, o ≠ 1 → (w.setCell ⟨b, 1, none⟩ (.int .i64 q)).cell? ⟨b, o, none⟩ = w.cell? ⟨b, o, none⟩ := fun o ho => World.cell?_setCell_other _ ⟨b, 1, none⟩ ⟨b, o, none⟩ _ (fun e => ho (by cases e; rfl))
  exact ⟨(oth 0 (by decide)).trans h.c0, World.cell?_setCell_same _ _ _ h.c1, (oth 2 (by decide)).trans h.c2, (oth 3 (by decide)).trans h.c3, (oth 4 (by decide)).trans h.c4, (oth 5 (by decide)).trans h.c5, (oth 6 (by decide)).trans h.c6, fr⟩

theorem Rd.step1 {w : World} {b : Nat} {s : ByteArray} {p n : Nat} {k tp : Int} {x : ByteArray} {v : Int} (h : Rd w b s p n k tp x v) : Rd (w.setCell ⟨b, 1, none⟩ (.int .i64 ((p : Int) + 1))) b s (p + 1) n k tp x v := by
  have := h.set1 (p + 1)
  rwa [show ((p + 1 : Nat) : Int) = (p : Int) + 1 from by omega] at this

end Go.Proofs.YtibbjohkiigffaaGreatDoor
namespace Go.Proofs.YtibbjohkiigffaaGreatDoor
open Go.RowKit

theorem ret_bool {a b : Bool} (h : a = b) : Ending.returned (.bool a) = .returned (.bool b) := by rw [h]
theorem drop_at {s : ByteArray} {q : Nat} (h : q < s.size) : s.data.toList.drop q = s[q] :: s.data.toList.drop (q + 1) := by
  rw [List.drop_eq_getElem_cons (by simpa using h)]; rfl
theorem drop_end {s : ByteArray} {q : Nat} (h : s.size ≤ q) : s.data.toList.drop q = [] := List.drop_eq_nil_of_le (by simpa using h)

set_option maxHeartbeats 400000 in
theorem isLetter_any (c : UInt8) (w : World) : Calls Tryz.prog 75 #[.int .u8 c.toNat] w fun e w' => e = .returned (.bool (Mil.isL c)) ∧ w' = w := by
  go_enter Tryz.func75, Tryz.ntmps75
  go_wp2
  all_goals
    go_ret
    refine ⟨ret_bool ?_, rfl⟩
    unfold Mil.isL
    rw [Bool.eq_iff_iff]; simp; omega
set_option maxHeartbeats 400000 in
theorem isDigit_any (c : UInt8) (w : World) : Calls Tryz.prog 77 #[.int .u8 c.toNat] w fun e w' => e = .returned (.bool (Mil.isD c)) ∧ w' = w := by
  go_enter Tryz.func77, Tryz.ntmps77
  go_wp2
  all_goals
    go_ret
    refine ⟨ret_bool ?_, rfl⟩
    unfold Mil.isD
    rw [Bool.eq_iff_iff]; simp; omega
set_option maxHeartbeats 400000 in
theorem isNameByte_any (c : UInt8) (w : World) : Calls Tryz.prog 100 #[.int .u8 c.toNat] w fun e w' => e = .returned (.bool (Mil.isN c)) ∧ w' = w := by
  go_enter Tryz.func100, Tryz.ntmps100
  go_wp2_with (first | (go_at_call 75; refine (isLetter_any c _).mono ?_; rintro e w' ⟨rfl, rfl⟩) | (go_at_call 77; refine (isDigit_any c _).mono ?_; rintro e w' ⟨rfl, rfl⟩))
  all_goals
    go_ret
    refine ⟨ret_bool ?_, rfl⟩
    unfold Mil.isN
    rw [Bool.eq_iff_iff]; simp [*]; try omega

theorem skip_here {s : ByteArray} {q : Nat} (h : q < s.size) (hc : s[q].toNat = 32 ∨ s[q].toNat = 9 ∨ s[q].toNat = 10) : Mil.skip false (s.data.toList.drop q) = Mil.skip false (s.data.toList.drop (q + 1)) := by
  rw [drop_at h, Mil.skip, if_pos hc]

theorem skip_hash {c : UInt8} {r : Mil.Bytes} (h : c.toNat = 35) : Mil.skip true (c :: r) = Mil.skip false (c :: r) := by
  rw [Mil.skip, Mil.skip, if_neg (by omega), if_neg (by omega), if_pos h]

theorem skip_nl {c : UInt8} {r : Mil.Bytes} (h : c.toNat = 10) : Mil.skip true (c :: r) = Mil.skip false (c :: r) := by
  rw [Mil.skip, Mil.skip, if_pos h, if_pos (Or.inr (Or.inr h))]
theorem skip_more {c : UInt8} {r : Mil.Bytes} (h : c.toNat ≠ 10) : Mil.skip true (c :: r) = Mil.skip true r := by
  rw [Mil.skip, if_neg h]

set_option maxHeartbeats 1000000 in
theorem skipBlanks_any (b : Nat) (s : ByteArray) (p n : Nat) (k tp : Int) (x : ByteArray) (v : Int) (w : World) (h : Rd w b s p n k tp x v) (hp : p ≤ s.size) (hs : s.size ≤ 4000) :
    Calls Tryz.prog 58 #[.pointer (some ⟨b, 0, none⟩)] w fun e w' => e = .returned (.tuple #[]) ∧ ∃ q, p ≤ q ∧ q ≤ s.size ∧ s.data.toList.drop q = Mil.skip false (s.data.toList.drop p) ∧ Rd w' b s q n k tp x v ∧ Kp b w w' := by
  have H : Hid (Rd w b s p n k tp x v) := h
  clear h
  go_enter Tryz.func58, Tryz.ntmps58
  go_wp2
  go_step3
  go_wp2
  go_step3
  go_wp2
  go_loopg [] (s.size - p) (fun g wr => ∃ q, p ≤ q ∧ q ≤ s.size ∧ g = s.size - q ∧ Hid (Mil.skip false (s.data.toList.drop q) = Mil.skip false (s.data.toList.drop p)) ∧ Hid (Rd wr b s q n k tp x v) ∧ Hid (Kp b w wr))
  case atStart => exact ⟨p, Nat.le_refl _, hp, rfl, rfl, H, Kp.refl _ _⟩
  case round =>
    obtain ⟨q, hpq, hq, hg, HS, HR, HK⟩ := hrel
    have HG : Hid (gk = s.size - q) := hg
    clear hg
    have c0 := HR.out.c0
    have c1 := HR.out.c1
    have f1 := HR.out.fz 1
    by_cases hlt : q < s.size
    · go_wp2
      go_quiet (fail)
      go_wp2
      go_quiet (fail)
      go_wp2
      · go_roundg (s.size - (q + 1))
        case measure => have := HG.out; omega
        case rel => exact ⟨q + 1, by omega, by omega, rfl, by rw [← HS.out, skip_here hlt (by rename_i h1 h2; simp at h1 h2; omega)]; rfl, (HR.out.drewN _).step1, (HK.out.drewN _).setCell _ _⟩
      · go_roundg (s.size - (q + 1))
        case measure => have := HG.out; omega
        case rel => exact ⟨q + 1, by omega, by omega, rfl, by rw [← HS.out, skip_here hlt (by rename_i h1 h2; simp at h1 h2; omega)]; rfl, (HR.out.drewN _).step1, (HK.out.drewN _).setCell _ _⟩
      · go_roundg (s.size - (q + 1))
        case measure => have := HG.out; omega
        case rel => exact ⟨q + 1, by omega, by omega, rfl, by rw [← HS.out, skip_here hlt (by rename_i h1 h2; simp at h1 h2; omega)]; rfl, (HR.out.drewN _).step1, (HK.out.drewN _).setCell _ _⟩
      · rename_i h1 h2 h3 h4
        have H35 : Hid (s[q].toNat = 35) := by simp at h4; show _ = _; omega
        clear h1 h2 h3 h4
        go_loopg [] (s.size - q) (fun g wi => ∃ j, q ≤ j ∧ j ≤ s.size ∧ g = s.size - j ∧ Hid (Mil.skip true (s.data.toList.drop j) = Mil.skip false (s.data.toList.drop p)) ∧ Hid (Rd wi b s j n k tp x v) ∧ Hid (Kp b w wi))
        case atStart => exact ⟨q, Nat.le_refl _, hq, rfl, by rw [← HS.out, drop_at hlt]; exact skip_hash H35.out, HR.out.drewN _, HK.out.drewN _⟩
        case round =>
          obtain ⟨j, hqj, hj, hg2, HS2, HR2, HK2⟩ := hrel
          have HG2 : Hid (gk = s.size - j) := hg2
          clear hg2 c0 c1 f1
          have c0 := HR2.out.c0
          have c1 := HR2.out.c1
          have f1 := HR2.out.fz 1
          by_cases hjl : j < s.size
          · by_cases hnl : s[j].toNat = 10
            · have hb : ((s[j].toNat : Int) != 10) = false := by simp; omega
              have HN : Hid (s[j].toNat = 10) := hnl
              clear hnl
              go_wp2
              go_quiet (fail)
              go_wp2
              have hne : j ≠ q := fun e => by subst e; have := HN.out; have := H35.out; omega
              go_roundg (s.size - j)
              case measure => have := HG.out; omega
              case rel => exact ⟨j, by omega, hj, rfl, by rw [← HS2.out, drop_at hjl]; exact (skip_nl HN.out).symm, HR2.out.drewN _, HK2.out.drewN _⟩
            · have hb : ((s[j].toNat : Int) != 10) = true := by simp; omega
              have HN : Hid (s[j].toNat ≠ 10) := hnl
              clear hnl
              go_wp2
              go_quiet (fail)
              go_wp2
              go_roundg (s.size - (j + 1))
              case measure => have := HG2.out; omega
              case rel => exact ⟨j + 1, by omega, by omega, rfl, by rw [← HS2.out, drop_at hjl]; exact (skip_more HN.out).symm, (HR2.out.drewN _).step1, (HK2.out.drewN _).setCell _ _⟩
          · have hd : decide ((j : Int) < (s.size : Int)) = false := by simp; omega
            go_wp2
            go_quiet (fail)
            go_wp2
            go_roundg (s.size - j)
            case measure => have := HG.out; omega
            case rel => exact ⟨j, by omega, hj, rfl, by rw [← HS2.out, drop_end (by omega)]; rfl, HR2.out.drewN _, HK2.out.drewN _⟩
      · rw [Exit.noGoto_normal]
        go_end0
        rename_i h1 h2 h3 h4
        refine ⟨rfl, q, hpq, hq, ?_, HR.out.drewN _, HK.out.drewN _⟩
        simp at h1 h2 h3 h4
        rw [← HS.out, drop_at hlt, Mil.skip, if_neg (by omega), if_neg (by omega)]
    · go_wp2
      go_quiet (fail)
      go_wp2
      rw [Exit.noGoto_normal]
      go_end0
      refine ⟨rfl, q, hpq, hq, ?_, HR.out.drewN nq, HK.out.drewN nq⟩
      rw [← HS.out, drop_end (by omega)]; rfl

end Go.Proofs.YtibbjohkiigffaaGreatDoor
namespace Go.Proofs.YtibbjohkiigffaaGreatDoor
open Go.RowKit

def bs (x : Mil.Bytes) : ByteArray := ⟨x.toArray⟩
theorem bs_list (x : Mil.Bytes) : (bs x).data.toList = x := rfl
theorem bs_of (s : ByteArray) : bs s.data.toList = s := by cases s; rfl
theorem bs_inj {x y : Mil.Bytes} (h : bs x = bs y) : x = y := by rw [← bs_list x, h, bs_list]
def strCells (l : List Mil.Bytes) : Array Value := (l.map fun x => Value.string (bs x)).toArray
abbrev strs (l : List Mil.Bytes) : List Value := l.map fun x => Value.string (bs x)
abbrev errV (a : Addr) : Value := .iface 250 (.pointer (some a))
/-- The operators' table: a sign, how tightly it binds, the type that it wants, that it gives. -/
def opsTab : List (Mil.Bytes × Int × Int × Int) :=
  [(Mil.wOr, 1, 1, 1), (Mil.wXor, 1, 1, 1), (Mil.wAnd, 2, 1, 1), (Mil.sLt, 4, 0, 1), (Mil.sLe, 4, 0, 1), (Mil.sGt, 4, 0, 1), (Mil.sGe, 4, 0, 1), (Mil.sEq, 4, 2, 1), (Mil.sNe, 4, 2, 1), (Mil.sPlus, 5, 0, 0), (Mil.sMinus, 5, 0, 0), (Mil.sTimes, 6, 0, 0), (Mil.sOver, 6, 0, 0), (Mil.sRest, 6, 0, 0)]
def opCells : Array Value := (opsTab.flatMap fun x => [Value.string (bs x.1), .int .i64 x.2.1, .int .i64 x.2.2.1, .int .i64 x.2.2.2]).toArray

/-- The variables: blocks below 24. -/
structure Laid (a : Nat → Addr) (w : World) : Prop where
  size : 23 ≤ w.heap.size
  long : w.cell? ⟨0, 0, none⟩ = some (errV (a 1))
  token : w.cell? ⟨2, 0, none⟩ = some (errV (a 2))
  synt : w.cell? ⟨3, 0, none⟩ = some (errV (a 3))
  many : w.cell? ⟨4, 0, none⟩ = some (errV (a 4))
  words : ∃ t, w.heap[14]? = some (.cells (strCells Mil.words) t (0, 0))
  signs : ∃ t, w.heap[15]? = some (.cells (strCells Mil.signs) t (0, 0))
  types : ∃ t, w.heap[16]? = some (.cells (strCells [Mil.wInt, Mil.wBool]) t (0, 0))
  ops : ∃ t, w.heap[17]? = some (.cells opCells t (0, 0))
  rng : w.cell? ⟨19, 0, none⟩ = some (errV (a 20))

theorem Laid.kept {a : Nat → Addr} {b : Nat} {w w' : World} (h : Laid a w) (k : Kp b w w') (hb : 23 ≤ b) : Laid a w' := by
  have hs := h.size
  have bl : ∀ g, g < 23 → w'.heap[g]? = w.heap[g]? := fun g hg => k.block g (by omega) (by omega)
  refine ⟨Nat.le_trans hs k.size, k.held h.long ?_, k.held h.token ?_, k.held h.synt ?_, k.held h.many ?_, ?_, ?_, ?_, ?_, k.held h.rng ?_⟩
  · show 0 ≠ b; omega
  · show 2 ≠ b; omega
  · show 3 ≠ b; omega
  · show 4 ≠ b; omega
  · obtain ⟨t, ht⟩ := h.words; exact ⟨t, (bl _ (by omega)).trans ht⟩
  · obtain ⟨t, ht⟩ := h.signs; exact ⟨t, (bl _ (by omega)).trans ht⟩
  · obtain ⟨t, ht⟩ := h.types; exact ⟨t, (bl _ (by omega)).trans ht⟩
  · obtain ⟨t, ht⟩ := h.ops; exact ⟨t, (bl _ (by omega)).trans ht⟩
  · show 19 ≠ b; omega

/-- A Diag is thrown: error number k (1 long, 2 token, 3 syntax, 4 many), at a place. -/
def Thrown (a : Nat → Addr) (k : Nat) (at_ : Int) (e : Ending) (w' : World) : Prop :=
  ∃ d, e = .panicked [{ v := .iface 59 (.pointer (some ⟨d, 0, none⟩)), recovered := false }] ∧ w'.heap[d]? = some (.cells #[.int .i64 at_, errV (a k)] 70 (0, 0))

end Go.Proofs.YtibbjohkiigffaaGreatDoor
namespace Go.Proofs.YtibbjohkiigffaaGreatDoor
open Go.RowKit

/-- The place of a token that is answered: laid, and nothing in it yet. -/
def Slot (w : World) (r : Nat) : Prop := w.heap[r]? = some (.cells #[.int .i64 0, .int .i64 0, .string ByteArray.empty, .int .i64 0] 114 (0, 0))
theorem Slot.kept {w w' : World} {r b : Nat} (h : Slot w r) (k : Kp b w w') (hr : r ≠ b) : Slot w' r := by
  have : r < w.heap.size := by
    rcases Nat.lt_or_ge r w.heap.size with h' | h'
    · exact h'
    · unfold Slot at h; simp [Array.getElem?_eq_none h'] at h
  exact (k.block r this hr).trans h

theorem Slot.cell {w : World} {r : Nat} (h : Slot w r) : w.cell? ⟨r, 0, none⟩ = some (.int .i64 0) ∧ w.cell? ⟨r, 1, none⟩ = some (.int .i64 0) ∧ w.cell? ⟨r, 2, none⟩ = some (.string ByteArray.empty) ∧ w.cell? ⟨r, 3, none⟩ = some (.int .i64 0) ∧
    w.frozen? ⟨r, 0, none⟩ = false ∧ w.frozen? ⟨r, 1, none⟩ = false ∧ w.frozen? ⟨r, 2, none⟩ = false ∧ w.frozen? ⟨r, 3, none⟩ = false := by
  unfold Slot at h
  refine ⟨?_, ?_, ?_, ?_, ?_, ?_, ?_, ?_⟩ <;> simp [World.cell?, World.frozen?, h]

/-- A piece of a text. -/
theorem while_drop {s : ByteArray} {q : Nat} (h : q < s.size) (f : UInt8 → Bool) (hf : f s[q] = true) :
    (s.data.toList.drop q).takeWhile f = s[q] :: (s.data.toList.drop (q + 1)).takeWhile f ∧ (s.data.toList.drop q).dropWhile f = (s.data.toList.drop (q + 1)).dropWhile f := by
  rw [drop_at h]; simp [hf]
theorem while_stop {s : ByteArray} {q : Nat} (f : UInt8 → Bool) (hf : ∀ h : q < s.size, f s[q] = false) :
    (s.data.toList.drop q).takeWhile f = [] ∧ (s.data.toList.drop q).dropWhile f = s.data.toList.drop q := by
  by_cases h : q < s.size
  · rw [drop_at h]; simp [hf h]
  · rw [drop_end (by omega)]; simp

/-- From p on up to q all is of the kind f; the rest of them begins at q. -/
def Run (f : UInt8 → Bool) (s : ByteArray) (p q : Nat) : Prop :=
  (s.data.toList.drop p).takeWhile f = (s.data.toList.drop p).take (q - p) ++ (s.data.toList.drop q).takeWhile f ∧ (s.data.toList.drop p).dropWhile f = (s.data.toList.drop q).dropWhile f
theorem Run.start (f : UInt8 → Bool) (s : ByteArray) (p : Nat) : Run f s p p := ⟨by simp, rfl⟩
theorem Run.next {f : UInt8 → Bool} {s : ByteArray} {p q : Nat} (h : Run f s p q) (hpq : p ≤ q) (hq : q < s.size) (hf : f s[q] = true) : Run f s p (q + 1) := by
  obtain ⟨h1, h2⟩ := h
  obtain ⟨w1, w2⟩ := while_drop hq f hf
  refine ⟨?_, by rw [h2, w2]⟩
  rw [h1, w1]
  have e : q + 1 - p = (q - p) + 1 := by omega
  have hl : q - p < (s.data.toList.drop p).length := by simp; omega
  rw [e, List.take_succ_eq_append_getElem hl]
  have hg : (s.data.toList.drop p)[q - p] = s[q] := by
    rw [List.getElem_drop]
    have : p + (q - p) = q := by omega
    simp only [this]; rfl
  rw [hg]; simp
theorem Run.done {f : UInt8 → Bool} {s : ByteArray} {p q : Nat} (h : Run f s p q) (hf : ∀ h : q < s.size, f s[q] = false) :
    (s.data.toList.drop p).takeWhile f = (s.data.toList.drop p).take (q - p) ∧ (s.data.toList.drop p).dropWhile f = s.data.toList.drop q := by
  obtain ⟨h1, h2⟩ := h
  obtain ⟨w1, w2⟩ := while_stop f hf
  rw [w1] at h1; rw [w2] at h2
  exact ⟨by rw [h1]; simp, h2⟩

/-- What a cutting leaves: a token, or a fault. -/
def TokPost (c : Option (Mil.Tok × Mil.Bytes)) (a : Nat → Addr) (b : Nat) (s : ByteArray) (p n : Nat) (k tp : Int) (x : ByteArray) (v : Int) (w : World) (e : Ending) (w' : World) : Prop :=
  Kp b w w' ∧ ((∃ t q xt, e = .returned (.agg #[.int .i64 (t.kind : Nat), .int .i64 p, .string xt, .int .i64 t.val]) ∧ p ≤ q ∧ q ≤ s.size ∧ Rd w' b s q n k tp x v ∧ c = some (t, s.data.toList.drop q) ∧ xt.data.toList = t.txt) ∨ (Thrown a 2 p e w' ∧ c = none))

/-- The j-th word. -/
def wordAt (j : Nat) : Mil.Bytes := Mil.words.getD j []
theorem lt19 {i : Nat} (h : i < 19) : i = 0 ∨ i = 1 ∨ i = 2 ∨ i = 3 ∨ i = 4 ∨ i = 5 ∨ i = 6 ∨ i = 7 ∨ i = 8 ∨ i = 9 ∨ i = 10 ∨ i = 11 ∨ i = 12 ∨ i = 13 ∨ i = 14 ∨ i = 15 ∨ i = 16 ∨ i = 17 ∨ i = 18 := by omega
theorem word_in (j : Nat) (h : j < 19) : Mil.words.contains (wordAt j) = true := by
  rcases lt19 h with rfl | rfl | rfl | rfl | rfl | rfl | rfl | rfl | rfl | rfl | rfl | rfl | rfl | rfl | rfl | rfl | rfl | rfl | rfl <;> decide
theorem word_of {x : Mil.Bytes} (h : x ∈ Mil.words) : ∃ m, m < 19 ∧ wordAt m = x := by
  obtain ⟨m, hm, e⟩ := List.mem_iff_getElem.1 h
  refine ⟨m, by simpa [Mil.words] using hm, ?_⟩
  unfold wordAt
  rw [List.getD_eq_getElem?_getD, List.getElem?_eq_getElem hm]; exact e
theorem index_words (j : Nat) (h : j < 19) (w : World) : (Instr.index 214 (.agg (strCells Mil.words)) (.int .i64 j)).run Tryz.prog w = .ok (.string (bs (wordAt j))) w := by
  rcases lt19 h with rfl | rfl | rfl | rfl | rfl | rfl | rfl | rfl | rfl | rfl | rfl | rfl | rfl | rfl | rfl | rfl | rfl | rfl | rfl <;> kernel_rfl

set_option maxHeartbeats 1000000 in
theorem cutName_any (a : Nat → Addr) (b : Nat) (s : ByteArray) (p n : Nat) (k tp : Int) (x : ByteArray) (v : Int) (w : World) (L : Laid a w) (hb : 23 ≤ b) (h : Rd w b s p n k tp x v) (hp : p < s.size) (hs : s.size ≤ 4000) :
    Calls Tryz.prog 76 #[.pointer (some ⟨b, 0, none⟩)] w (TokPost (Mil.cutName (s.data.toList.drop p)) a b s p n k tp x v w) := by
  have H : Hid (Rd w b s p n k tp x v) := h
  have HL : Hid (Laid a w) := L
  have c1 := h.c1
  have hbw : b < w.heap.size := lt_of_cell h.c0
  clear h L
  go_enter Tryz.func76, Tryz.ntmps76
  go_upto_block 0 with fail
  go_cut [] from 11 to 39 (fun wl => ∃ q, p ≤ q ∧ q ≤ s.size ∧ Hid (Run Mil.isN s p q) ∧ Hid (∀ h : q < s.size, Mil.isN s[q] = false) ∧ Hid (Rd wl b s q n k tp x v) ∧ Hid (Kp b w wl) ∧ Hid (Slot wl w.heap.size))
  case first =>
    go_wp2
    go_loopg [] (s.size - p) (fun g wr => ∃ q, p ≤ q ∧ q ≤ s.size ∧ g = s.size - q ∧ Hid (Run Mil.isN s p q) ∧ Hid (Rd wr b s q n k tp x v) ∧ Hid (Kp b w wr) ∧ Hid (Slot wr w.heap.size))
    case atStart => exact ⟨p, Nat.le_refl _, by omega, rfl, Run.start _ _ _, H.out.kept ((Kp.refl (b + 1) _).alloc _) (by omega), (Kp.refl b _).alloc _, heap_alloc_new _ _⟩
    case round =>
      obtain ⟨q, hpq, hq, hg, HU, HR, HK, HT⟩ := hrel
      have HG : Hid (gk = s.size - q) := hg
      clear hg c1
      have c0 := HR.out.c0
      have c1 := HR.out.c1
      have f1 := HR.out.fz 1
      by_cases hlt : q < s.size
      · by_cases hn : Mil.isN s[q] = true
        · go_wp2_with fail
          go_quiet ((go_at_call 100; exact Calls.quiet_of_same (isNameByte_any _ _)))
          go_wp2
          go_roundg (s.size - (q + 1))
          case measure => have := HG.out; omega
          case rel => exact ⟨q + 1, by omega, by omega, rfl, HU.out.next hpq hlt hn, (HR.out.drewN _).step1, (HK.out.drewN _).setCell _ _, HT.out.kept (((Kp.refl b _).drewN _).setCell _ _) (by omega)⟩
        · have hn' : Mil.isN s[q] = false := by simpa using hn
          clear hn
          go_wp2_with fail
          go_quiet ((go_at_call 100; exact Calls.quiet_of_same (isNameByte_any _ _)))
          go_wp2
          go_meet
          case rel => exact ⟨q, hpq, hq, HU, fun _ => hn', HR.out.drewN _, HK.out.drewN _, HT.out.kept ((Kp.refl b _).drewN _) (by omega)⟩
      · have hd : decide ((q : Int) < (s.size : Int)) = false := by simp; omega
        go_wp2_with fail
        go_quiet (fail)
        go_wp2
        go_meet
        case rel => exact ⟨q, hpq, hq, HU, fun h => absurd h hlt, HR.out.drewN _, HK.out.drewN _, HT.out.kept ((Kp.refl b _).drewN _) (by omega)⟩
  case rest =>
    obtain ⟨q, hpq, hq, HU, HF, HR, HK, HT⟩ := hcut
    clear c1
    have c0 := HR.out.c0
    have c1 := HR.out.c1
    have ct := (HL.out.kept HK.out hb).token
    obtain ⟨tw, hw⟩ := (HL.out.kept HK.out hb).words
    by_cases h12 : 12 < q - p
    · go_wp2
      go_quiet (fail)
      go_wp2
      refine ⟨rfl, (HK.out.drewN nq).alloc _, Or.inr ⟨⟨_, rfl, ?_⟩, ?_⟩⟩
      · have := heap_alloc_new (wc.drewN nq) (.cells #[.int .i64 (p : Int), errV (a 2)] 70)
        simpa using this
      · obtain ⟨e1, _⟩ := HU.out.done HF.out
        unfold Mil.cutName
        rw [e1, if_pos (by simp; omega)]
    · have hix := fun (j : Nat) (h : j < 19) (w : World) => index_words j h w
      obtain ⟨r0, r1, r2, r3, z0, z1, z2, z3⟩ := HT.out.cell
      go_wp2
      go_quiet (fail)
      go_wp2_with (refine wpList_load_row rfl 214 _ rfl 14 rfl tw _ (0, 0) _ hw Tryz.underlying214 rfl (by kernel_rfl) ?_)
      go_loop [59] (fun s59 => ∃ j : Nat, j ≤ 19 ∧ s59 = .int .i64 j ∧ Hid (∀ m, m < j → wordAt m ≠ (s.data.toList.drop p).take (q - p))) (fun s59 => 19 - (intOf s59).toNat)
      case atStart => exact ⟨0, by decide, rfl, fun m hm => by omega⟩
      case round =>
        obtain ⟨j, hj, rfl, HW⟩ := hrel
        by_cases hlt : j < 19
        · have hi := hix j hlt
          by_cases heq : wordAt j = (s.data.toList.drop p).take (q - p)
          · have hbq : ((bs (wordAt j)).toList == (s.extract p q).toList) = true := by
              rw [Lib.toList_data, Lib.toList_data, bs_list, Lib.extract_data, heq]; simp
            have HE : Hid (wordAt j = (s.data.toList.drop p).take (q - p)) := heq
            clear heq
            go_wp2
            refine bodyPost_ret (v := .agg #[.int .i64 3, .int .i64 p, .string (bs (wordAt j)), .int .i64 0]) (by simp [results, Tryz.results76, go_sem, r0, r1, r2, r3]) rfl ?_
            refine ⟨(HK.out.drewN nq).four (Nat.le_refl _) _ _ _ _, Or.inl ⟨Mil.fix (wordAt j), q, bs (wordAt j), rfl, hpq, hq, (HR.out.drewN nq).four (by omega) _ _ _ _, ?_, rfl⟩⟩
            obtain ⟨e1, e2⟩ := HU.out.done HF.out
            unfold Mil.cutName
            rw [e1, e2, if_neg (by simp; omega), ← HE.out, if_pos (word_in j hlt)]
          · have hbq : ((bs (wordAt j)).toList == (s.extract p q).toList) = false := by
              rw [Lib.toList_data, Lib.toList_data, bs_list, Lib.extract_data]; simpa using heq
            have HE : Hid (wordAt j ≠ (s.data.toList.drop p).take (q - p)) := heq
            clear heq
            go_wp2
            go_round
            case rel =>
              refine ⟨j + 1, by omega, by go_num, ?_⟩
              intro m hm
              rcases Nat.lt_or_ge m j with h | h
              · exact HW.out m h
              · have : m = j := by omega
                rw [this]; exact HE.out
            case measure => simp [intOf]; omega
        · go_wp2
          refine bodyPost_ret (v := .agg #[.int .i64 1, .int .i64 p, .string (s.extract p q), .int .i64 0]) (by simp [results, Tryz.results76, go_sem, r0, r1, r2, r3]) rfl ?_
          have hno : Mil.words.contains ((s.data.toList.drop p).take (q - p)) = false := by
            rw [Bool.eq_false_iff]
            intro hc
            obtain ⟨m, hm, e⟩ := word_of (List.contains_iff_mem.1 hc)
            exact HW.out m (by omega) e
          refine ⟨(HK.out.drewN nq).four (Nat.le_refl _) _ _ _ _, Or.inl ⟨Mil.nam ((s.data.toList.drop p).take (q - p)), q, s.extract p q, rfl, hpq, hq, (HR.out.drewN nq).four (by omega) _ _ _ _, ?_, Lib.extract_data _ _ _⟩⟩
          obtain ⟨e1, e2⟩ := HU.out.done HF.out
          unfold Mil.cutName
          rw [e1, e2, if_neg (by simp; omega), if_neg (by rw [hno]; decide)]

end Go.Proofs.YtibbjohkiigffaaGreatDoor
namespace Go.Proofs.YtibbjohkiigffaaGreatDoor
open Go.RowKit

theorem extract0 (x : ByteArray) (n : Nat) : (x.extract 0 n).data.toList = x.data.toList.take n := by rw [Lib.extract_data]; simp
theorem prefix_take {x y : Mil.Bytes} : (x.take y.length == y) = y.isPrefixOf x := by
  rw [Bool.eq_iff_iff, beq_iff_eq, List.isPrefixOf_iff_prefix]
  constructor
  · intro e; rw [← e]; exact List.take_prefix _ _
  · intro e; exact (List.prefix_iff_eq_take.1 e).symm
theorem prefix_long {x y : Mil.Bytes} (h : x.length < y.length) : y.isPrefixOf x = false := by
  rw [Bool.eq_false_iff]
  intro e
  have := (List.isPrefixOf_iff_prefix.1 e).length_le
  omega

/-- Is y what x begins with? -/
def pre (y x : ByteArray) : Bool := y.data.toList.isPrefixOf x.data.toList

set_option maxHeartbeats 400000 in
theorem hasPrefix_in (x y : ByteArray) (w : World) : Calls Tryz.prog 116 #[.string x, .string y] w fun e w' => e = .returned (.bool (pre y x)) ∧ w' = w := by
  by_cases h : y.size ≤ x.size
  · go_enter Tryz.func116, Tryz.ntmps116
    go_wp2
    go_ret
    refine ⟨ret_bool ?_, rfl⟩
    unfold pre
    rw [Lib.toList_data, Lib.toList_data, extract0]
    have := prefix_take (x := x.data.toList) (y := y.data.toList)
    rw [← this]; simp
  · go_enter Tryz.func116, Tryz.ntmps116
    go_wp2
    go_ret
    refine ⟨ret_bool ?_, rfl⟩
    unfold pre
    rw [prefix_long (by simp; omega)]
set_option maxHeartbeats 400000 in
theorem hasPrefix_any (x y : ByteArray) (w : World) : Calls Tryz.prog 102 #[.string x, .string y] w fun e w' => e = .returned (.bool (pre y x)) ∧ w' = w := by
  go_enter Tryz.func102, Tryz.ntmps102
  go_wp2_with (go_at_call 116; refine (hasPrefix_in _ _ _).mono ?_; rintro e w' ⟨rfl, rfl⟩)
  go_ret
  exact ⟨rfl, rfl⟩

/-- The j-th sign. -/
def signAt (j : Nat) : Mil.Bytes := Mil.signs.getD j []
theorem lt17 {i : Nat} (h : i < 17) : i = 0 ∨ i = 1 ∨ i = 2 ∨ i = 3 ∨ i = 4 ∨ i = 5 ∨ i = 6 ∨ i = 7 ∨ i = 8 ∨ i = 9 ∨ i = 10 ∨ i = 11 ∨ i = 12 ∨ i = 13 ∨ i = 14 ∨ i = 15 ∨ i = 16 := by omega
theorem index_signs (j : Nat) (h : j < 17) (w : World) : (Instr.index 217 (.agg (strCells Mil.signs)) (.int .i64 j)).run Tryz.prog w = .ok (.string (bs (signAt j))) w := by
  rcases lt17 h with rfl | rfl | rfl | rfl | rfl | rfl | rfl | rfl | rfl | rfl | rfl | rfl | rfl | rfl | rfl | rfl | rfl <;> kernel_rfl
theorem sign_size (j : Nat) (h : j < 17) : (bs (signAt j)).size ≤ 2 ∧ (signAt j).length = (bs (signAt j)).size := by
  rcases lt17 h with rfl | rfl | rfl | rfl | rfl | rfl | rfl | rfl | rfl | rfl | rfl | rfl | rfl | rfl | rfl | rfl | rfl <;> decide
/-- The first sign that fits. -/
theorem find_at {f : Mil.Bytes → Bool} : ∀ (l : List Mil.Bytes) (j : Nat), j < l.length → f (l.getD j []) = true → (∀ m, m < j → f (l.getD m []) = false) → l.find? f = some (l.getD j [])
  | [], _, h, _, _ => by simp at h
  | x :: r, 0, _, h1, _ => by
    have h1' : f x = true := h1
    rw [List.find?_cons]
    simp [h1']
  | x :: r, j + 1, h, h1, h2 => by
    have h0 : f x = false := h2 0 (by omega)
    have := find_at r j (by simpa using h) h1 (fun m hm => h2 (m + 1) (by omega))
    rw [List.find?_cons, h0]
    exact this
theorem find_none {f : Mil.Bytes → Bool} : ∀ (l : List Mil.Bytes), (∀ m, m < l.length → f (l.getD m []) = false) → l.find? f = none
  | [], _ => rfl
  | x :: r, h => by
    have h0 : f x = false := h 0 (by simp)
    rw [List.find?_cons, h0]
    exact find_none r (fun m hm => h (m + 1) (by simpa using hm))

set_option maxHeartbeats 1000000 in
theorem cutSign_any (a : Nat → Addr) (b : Nat) (s : ByteArray) (p n : Nat) (k tp : Int) (x : ByteArray) (v : Int) (w : World) (L : Laid a w) (hb : 23 ≤ b) (h : Rd w b s p n k tp x v) (hp : p < s.size) (hs : s.size ≤ 4000) :
    Calls Tryz.prog 79 #[.pointer (some ⟨b, 0, none⟩)] w (TokPost (Mil.cutSign (s.data.toList.drop p)) a b s p n k tp x v w) := by
  have HL : Hid (Laid a w) := L
  have hbw : b < w.heap.size := lt_of_cell h.c0
  have hgw := L.size
  let o : Obj := .cells #[.int .i64 0, .int .i64 0, .string ⟨#[]⟩, .int .i64 0] 114
  have ho : o = .cells #[.int .i64 0, .int .i64 0, .string ⟨#[]⟩, .int .i64 0] 114 := rfl
  have hR : Rd (w.alloc o) b s p n k tp x v := h.kept ((Kp.refl (b + 1) _).alloc _) (by omega)
  have HR : Hid (Rd (w.alloc o) b s p n k tp x v) := hR
  have HK : Hid (Kp b w (w.alloc o)) := (Kp.refl b _).alloc _
  obtain ⟨tg, hg⟩ := (L.kept HK.out hb).signs
  have hT : Slot (w.alloc o) w.heap.size := heap_alloc_new _ _
  have hix := fun (j : Nat) (h : j < 17) (w : World) => index_signs j h w
  clear h L
  go_enter Tryz.func79, Tryz.ntmps79
  go_wp2_with (refine wpList_load_row rfl 217 _ rfl 15 rfl tg _ (0, 0) _ hg Tryz.underlying217 rfl (by kernel_rfl) ?_)
  rw [← ho]
  generalize w.alloc o = w1 at *
  have c0 := hR.c0
  have c1 := hR.c1
  have f1 := hR.fz 1
  have ct := (HL.out.kept HK.out hb).token
  obtain ⟨r0, r1, r2, r3, z0, z1, z2, z3⟩ := hT.cell
  have HT : Hid (Slot w1 w.heap.size) := hT
  clear hR hT
  have hes : (s.extract p s.size).data.toList = s.data.toList.drop p := by rw [Lib.extract_data, List.take_of_length_le (by simp)]
  have HES : Hid ((s.extract p s.size).data.toList = s.data.toList.drop p) := hes
  clear hes
  have hple : p ≤ s.size := by omega
  go_loopg [7] 17 (fun g s7 wr => ∃ j : Nat, j ≤ 17 ∧ s7 = .int .i64 j ∧ g = 17 - j ∧ Hid (Rd wr b s p n k tp x v) ∧ Hid (Kp b w wr) ∧ Hid (Slot wr w.heap.size) ∧ Hid (∀ i, i < j → (signAt i).isPrefixOf (s.data.toList.drop p) = false))
  case atStart => exact ⟨0, by decide, rfl, rfl, HR, HK, HT, fun m hm => by omega⟩
  case round =>
    clear c0 c1 f1 ct r0 r1 r2 r3 z0 z1 z2 z3
    obtain ⟨j, hj, rfl, hgk, HR2, HK2, HT2, HW⟩ := hrel
    have HG : Hid (gk = 17 - j) := hgk
    clear hgk
    have c0 := HR2.out.c0
    have c1 := HR2.out.c1
    have f1 := HR2.out.fz 1
    have ct := (HL.out.kept HK2.out hb).token
    obtain ⟨r0, r1, r2, r3, z0, z1, z2, z3⟩ := HT2.out.cell
    by_cases hlt : j < 17
    · have hi := hix j hlt
      obtain ⟨hz2, hzl⟩ := sign_size j hlt
      have HZ : Hid ((signAt j).length = (bs (signAt j)).size) := hzl
      clear hzl
      by_cases heq : (signAt j).isPrefixOf (s.data.toList.drop p) = true
      · have hbq : pre (bs (signAt j)) (s.extract p s.size) = true := by unfold pre; rw [HES.out]; exact heq
        have HE : Hid ((signAt j).isPrefixOf (s.data.toList.drop p) = true) := heq
        clear heq
        go_wp2
        go_quiet ((go_at_call 102; exact Calls.quiet_of_same (hasPrefix_any _ _ _)))
        rw [hbq]
        go_wp2
        refine bodyPost_ret (v := .agg #[.int .i64 3, .int .i64 p, .string (bs (signAt j)), .int .i64 0]) (by simp [results, Tryz.results79, go_sem, r0, r1, r2, r3]) rfl ?_
        have hle : (signAt j).length ≤ (s.data.toList.drop p).length := (List.isPrefixOf_iff_prefix.1 HE.out).length_le
        have hzl := HZ.out
        have hps : p + (bs (signAt j)).size ≤ s.size := by simp at hle; omega
        have e1 : (p : Int) + ((bs (signAt j)).size : Int) = ((p + (bs (signAt j)).size : Nat) : Int) := by omega
        rw [e1]
        refine ⟨((HK2.out.drewN nq).setCell _ _).four (Nat.le_refl _) _ _ _ _, Or.inl ⟨Mil.fix (signAt j), p + (bs (signAt j)).size, bs (signAt j), rfl, by omega, hps, ((HR2.out.drewN nq).set1 _).four (by omega) _ _ _ _, ?_, rfl⟩⟩
        unfold Mil.cutSign
        have hf : Mil.signs.find? (fun x => x.isPrefixOf (s.data.toList.drop p)) = some (signAt j) := find_at Mil.signs j hlt HE.out HW.out
        rw [hf, ← hzl]
        show some (Mil.fix (signAt j), List.drop (signAt j).length (List.drop p s.data.toList)) = _
        rw [List.drop_drop]
      · have hbq : pre (bs (signAt j)) (s.extract p s.size) = false := by unfold pre; rw [HES.out]; exact Bool.eq_false_iff.2 heq
        have HE : Hid ((signAt j).isPrefixOf (s.data.toList.drop p) = false) := Bool.eq_false_iff.2 heq
        clear heq
        go_wp2
        go_quiet ((go_at_call 102; exact Calls.quiet_of_same (hasPrefix_any _ _ _)))
        rw [hbq]
        go_wp2
        go_roundg (17 - (j + 1))
        case measure => have := HG.out; omega
        case rel =>
          refine ⟨j + 1, by omega, by go_num, rfl, HR2.out.drewN _, HK2.out.drewN _, HT2.out.kept ((Kp.refl b _).drewN _) (by omega), ?_⟩
          intro i hi
          rcases Nat.lt_or_ge i j with h | h
          · exact HW.out i h
          · have : i = j := by omega
            rw [this]; exact HE.out
    · have hpp : ∀ tm : Array Value, bodyPost Tryz.prog Tryz.f79 (TokPost (Mil.cutSign (s.data.toList.drop p)) a b s p n k tp x v w) (Exit.panic [{ v := .iface 59 (.pointer (some ⟨wr.heap.size, 0, none⟩)), recovered := false }]) { tmps := tm, defers := [] } (wr.alloc (.cells #[.int .i64 p, errV (a 2)] 70)).drew := by
        intro tm
        refine ⟨rfl, (HK2.out.alloc _).drew, Or.inr ⟨⟨wr.heap.size, rfl, heap_alloc_new wr _⟩, ?_⟩⟩
        unfold Mil.cutSign
        rw [find_none Mil.signs (fun m hm => HW.out m (by have : Mil.signs.length = 17 := rfl; omega))]
      go_wp2
      refine wp_region_any (by kernel_rfl) ?_
      change wpAny _ _ _ _ _ _ _ (World.drew _)
      refine wpAny_take (i := 0) (v := .pointer (some ⟨b, 0, none⟩)) rfl (by kernel_rfl) (by kernel_rfl) (by kernel_rfl) (fun _ _ _ h => h) (Or.inl ⟨by rfl, fun w => by go_simp⟩) ?_
      refine wpAny_take (i := 1) (v := .pointer (some ⟨b, 0, none⟩)) rfl (by kernel_rfl) (by kernel_rfl) (by kernel_rfl) (fun _ _ _ h => h) (Or.inl ⟨by rfl, fun w => by go_simp⟩) ?_
      refine wpAny_take (i := 2) (v := .pointer (some ⟨b, 1, none⟩)) rfl (by kernel_rfl) (by kernel_rfl) (by kernel_rfl) (fun _ _ _ h => h) (Or.inl ⟨by rfl, fun w => by go_simp⟩) ?_
      refine wpAny_ready (rs := [3, 4]) (by kernel_rfl) (by simp) ?_
      refine AllReady.cons rfl (fun K hK => ?_) (AllReady.cons rfl (fun K hK => ?_) AllReady.nil)
      · go_simp
        refine hK _ _ ?_
        clear hK K
        refine wpAny_ready (rs := [4]) (by kernel_rfl) (by simp) ?_
        refine AllReady.cons rfl (fun K hK => ?_) AllReady.nil
        go_simp
        refine hK _ _ ?_
        clear hK K
        refine wpAny_take (i := 5) (v := .agg #[.int .i64 p, errV (a 2)]) rfl (by kernel_rfl) (by kernel_rfl) (by kernel_rfl) (fun _ _ _ h => h) (Or.inl ⟨by rfl, fun w => by go_simp⟩) ?_
        refine wpAny_ready (rs := [6]) (by kernel_rfl) (by simp) ?_
        refine AllReady.cons rfl (fun K hK => ?_) AllReady.nil
        go_simp
        refine hK _ _ ?_
        clear hK K
        refine wpAny_take (i := 7) (v := .iface 59 (.pointer (some ⟨wr.heap.size, 0, none⟩))) rfl (by kernel_rfl) (by kernel_rfl) (by kernel_rfl) (fun _ _ _ h => h) (Or.inl ⟨by rfl, fun w => by go_simp⟩) ?_
        refine wpAny_ready (rs := [8]) (by kernel_rfl) (by simp) ?_
        refine AllReady.cons rfl (fun K hK => ?_) AllReady.nil
        go_simp
      · go_simp
        refine hK _ _ ?_
        clear hK K
        refine wpAny_ready (rs := [3]) (by kernel_rfl) (by simp) ?_
        refine AllReady.cons rfl (fun K hK => ?_) AllReady.nil
        go_simp
        refine hK _ _ ?_
        clear hK K
        refine wpAny_take (i := 5) (v := .agg #[.int .i64 p, errV (a 2)]) rfl (by kernel_rfl) (by kernel_rfl) (by kernel_rfl) (fun _ _ _ h => h) (Or.inl ⟨by rfl, fun w => by go_simp⟩) ?_
        refine wpAny_ready (rs := [6]) (by kernel_rfl) (by simp) ?_
        refine AllReady.cons rfl (fun K hK => ?_) AllReady.nil
        go_simp
        refine hK _ _ ?_
        clear hK K
        refine wpAny_take (i := 7) (v := .iface 59 (.pointer (some ⟨wr.heap.size, 0, none⟩))) rfl (by kernel_rfl) (by kernel_rfl) (by kernel_rfl) (fun _ _ _ h => h) (Or.inl ⟨by rfl, fun w => by go_simp⟩) ?_
        refine wpAny_ready (rs := [8]) (by kernel_rfl) (by simp) ?_
        refine AllReady.cons rfl (fun K hK => ?_) AllReady.nil
        go_simp

end Go.Proofs.YtibbjohkiigffaaGreatDoor
namespace Go.Proofs.YtibbjohkiigffaaGreatDoor
open Go.RowKit

/-- Digits are a number, or too great a one. -/
theorem pum_cases (M : Nat) : ∀ (l : Mil.Bytes) (acc : Nat), (∀ c, c ∈ l → Mil.isD c = true) → (∃ u, Lib.parseUintM M acc l = .ok u) ∨ Lib.parseUintM M acc l = .range
  | [], acc, _ => Or.inl ⟨acc, rfl⟩
  | c :: l, acc, h => by
    have hc := h c List.mem_cons_self
    have hd : 48 ≤ c.toNat ∧ c.toNat ≤ 57 := by unfold Mil.isD at hc; simpa using hc
    rw [Lib.parseUintM, if_pos hd]
    by_cases h2 : 1844674407370955162 ≤ acc
    · rw [if_pos h2]; exact Or.inr rfl
    · rw [if_neg h2]
      by_cases h3 : M < acc * 10 + (c.toNat - 48)
      · rw [if_pos h3]; exact Or.inr rfl
      · rw [if_neg h3]
        exact pum_cases M l _ fun d hd => h d (List.mem_cons_of_mem _ hd)
theorem parse_cases (l : Mil.Bytes) (hne : l ≠ []) (h : ∀ c, c ∈ l → Mil.isD c = true) : (∃ v, Lib.parseIntB 64 l = .ok v) ∨ Lib.parseIntB 64 l = .range := by
  cases l with
  | nil => exact absurd rfl hne
  | cons c r =>
    have hc := h c List.mem_cons_self
    have hd : 48 ≤ c.toNat ∧ c.toNat ≤ 57 := by unfold Mil.isD at hc; simpa using hc
    have hu := pum_cases (2 ^ 64 - 1) (c :: r) 0 h
    have hpb : Lib.parseUintB 64 (c :: r) = Lib.parseUintM (2 ^ 64 - 1) 0 (c :: r) := by unfold Lib.parseUintB; rw [if_neg (by simp)]
    unfold Lib.parseIntB
    simp only []
    rw [if_neg (by omega), hpb]
    rcases hu with ⟨u, hu⟩ | hu
    · rw [hu]
      simp only []
      by_cases h1 : ¬ c.toNat = 45 ∧ 2 ^ (64 - 1) ≤ u
      · rw [if_pos h1]; exact Or.inr rfl
      · rw [if_neg h1, if_neg (by omega)]; exact Or.inl ⟨_, rfl⟩
    · rw [hu]; exact Or.inr rfl

theorem pInt_ok (x : ByteArray) (hx : x.size ≤ 4000) (u : Int) (h : Lib.parseIntB 64 x.data.toList = .ok u) (w : World) :
    Calls Tryz.prog 101 #[.string x, .int .i64 10, .int .i64 64] w fun e w' => e = .returned (.tuple #[.int .i64 u, .nilIface]) ∧ Below w.heap.size w w' := by
  refine (Tryz.strconv_ParseInt_10_at64_ok x (by omega) u h w).mono ?_
  rintro e w' ⟨he, hw⟩
  rcases hw with rfl | ⟨t, rfl⟩
  · exact ⟨he, Below.refl _ _⟩
  · exact ⟨he, Joins.below_bytesWorld _ _ _ _ (Nat.le_refl _)⟩
theorem pInt_range (a : Nat → Addr) (x : ByteArray) (hx : x.size ≤ 4000) (h : Lib.parseIntB 64 x.data.toList = .range) (w : World) (L : w.cell? ⟨19, 0, none⟩ = some (errV (a 20))) :
    Calls Tryz.prog 101 #[.string x, .int .i64 10, .int .i64 64] w fun e w' => ∃ N, e = .returned (.tuple #[.int .i64 (Lib.intSat 64 x.data.toList), .iface 238 (.pointer (some ⟨N, 0, none⟩))]) ∧ Below w.heap.size w w' := by
  refine (Tryz.strconv_ParseInt_10_at64_range x (by omega) h (errV (a 20)) w L (Or.inr ⟨_, _, rfl⟩)).mono ?_
  rintro e w' ⟨N, he, _, _, hb⟩
  exact ⟨N, he, hb⟩

theorem run_len {f : UInt8 → Bool} {s : ByteArray} {p q : Nat} (h : Run f s p q) (hf : ∀ h : q < s.size, f s[q] = false) (hp : p < s.size) (h0 : f s[p] = true) : p < q := by
  rcases Nat.lt_or_ge p q with hl | hl
  · exact hl
  · have e := h.done hf
    rw [(while_drop hp f h0).1] at e
    have : q - p = 0 := by omega
    rw [this] at e
    simp at e

set_option maxHeartbeats 1000000 in
theorem cutNumber_any (a : Nat → Addr) (b : Nat) (s : ByteArray) (p n : Nat) (k tp : Int) (x : ByteArray) (v : Int) (w : World) (L : Laid a w) (hb : 23 ≤ b) (h : Rd w b s p n k tp x v) (hp : p < s.size) (h0 : Mil.isD s[p] = true) (hs : s.size ≤ 4000) :
    Calls Tryz.prog 78 #[.pointer (some ⟨b, 0, none⟩)] w (TokPost (Mil.cutNum (s.data.toList.drop p)) a b s p n k tp x v w) := by
  have H : Hid (Rd w b s p n k tp x v) := h
  have HL : Hid (Laid a w) := L
  have H0 : Hid (Mil.isD s[p] = true) := h0
  have c1 := h.c1
  have hbw : b < w.heap.size := lt_of_cell h.c0
  clear h L h0
  go_enter Tryz.func78, Tryz.ntmps78
  go_upto_block 0 with fail
  go_cut [] from 11 to 39 (fun wl => ∃ q, p ≤ q ∧ q ≤ s.size ∧ Hid (Run Mil.isD s p q) ∧ Hid (∀ h : q < s.size, Mil.isD s[q] = false) ∧ Hid (Rd wl b s q n k tp x v) ∧ Hid (Kp b w wl) ∧ Hid (Slot wl w.heap.size))
  case first =>
    go_wp2
    go_loopg [] (s.size - p) (fun g wr => ∃ q, p ≤ q ∧ q ≤ s.size ∧ g = s.size - q ∧ Hid (Run Mil.isD s p q) ∧ Hid (Rd wr b s q n k tp x v) ∧ Hid (Kp b w wr) ∧ Hid (Slot wr w.heap.size))
    case atStart => exact ⟨p, Nat.le_refl _, by omega, rfl, Run.start _ _ _, H.out.kept ((Kp.refl (b + 1) _).alloc _) (by omega), (Kp.refl b _).alloc _, heap_alloc_new _ _⟩
    case round =>
      obtain ⟨q, hpq, hq, hg, HU, HR, HK, HT⟩ := hrel
      have HG : Hid (gk = s.size - q) := hg
      clear hg c1
      have c0 := HR.out.c0
      have c1 := HR.out.c1
      have f1 := HR.out.fz 1
      by_cases hlt : q < s.size
      · by_cases hn : Mil.isD s[q] = true
        · go_wp2_with fail
          go_quiet ((go_at_call 77; exact Calls.quiet_of_same (isDigit_any _ _)))
          go_wp2
          go_roundg (s.size - (q + 1))
          case measure => have := HG.out; omega
          case rel => exact ⟨q + 1, by omega, by omega, rfl, HU.out.next hpq hlt hn, (HR.out.drewN _).step1, (HK.out.drewN _).setCell _ _, HT.out.kept (((Kp.refl b _).drewN _).setCell _ _) (by omega)⟩
        · have hn' : Mil.isD s[q] = false := by simpa using hn
          clear hn
          go_wp2_with fail
          go_quiet ((go_at_call 77; exact Calls.quiet_of_same (isDigit_any _ _)))
          go_wp2
          go_meet
          case rel => exact ⟨q, hpq, hq, HU, fun _ => hn', HR.out.drewN _, HK.out.drewN _, HT.out.kept ((Kp.refl b _).drewN _) (by omega)⟩
      · have hd : decide ((q : Int) < (s.size : Int)) = false := by simp; omega
        go_wp2_with fail
        go_quiet (fail)
        go_wp2
        go_meet
        case rel => exact ⟨q, hpq, hq, HU, fun h => absurd h hlt, HR.out.drewN _, HK.out.drewN _, HT.out.kept ((Kp.refl b _).drewN _) (by omega)⟩
  case rest =>
    obtain ⟨q, hpq, hq, HU, HF, HR, HK, HT⟩ := hcut
    clear c1
    have hlt : p < q := run_len HU.out HF.out hp H0.out
    have HC : Hid ((∃ v, Lib.parseIntB 64 ((s.data.toList.drop p).take (q - p)) = .ok v) ∨ Lib.parseIntB 64 ((s.data.toList.drop p).take (q - p)) = .range) := by
      refine parse_cases _ ?_ ?_
      · intro e
        have := congrArg List.length e
        simp at this
        omega
      · rw [← (HU.out.done HF.out).1]
        exact fun c hc => Mil.mem_while _ c hc
    have c0 := HR.out.c0
    have c1 := HR.out.c1
    have ct := (HL.out.kept HK.out hb).token
    have cr := (HL.out.kept HK.out hb).rng
    have hxl : (s.extract p q).data.toList = (s.data.toList.drop p).take (q - p) := Lib.extract_data _ _ _
    have HX : Hid ((s.extract p q).data.toList = (s.data.toList.drop p).take (q - p)) := hxl
    clear hxl
    rcases HC.out with ⟨u, hu⟩ | hu
    · have HU2 : Hid (Lib.parseIntB 64 ((s.data.toList.drop p).take (q - p)) = .ok u) := hu
      clear hu HC
      go_wp2
      go_quiet (fail)
      go_wp2_with fail
      refine (pInt_ok _ (by simp; omega) u (by rw [HX.out]; exact HU2.out) _).mono ?_
      rintro e w1 ⟨rfl, hb1⟩
      have HK1 : Hid (Kp b w w1) := (HK.out.drewN nq).trans (Kp.of_below hb1)
      have HR1 : Hid (Rd w1 b s q n k tp x v) := (HR.out.drewN nq).kept (Kp.of_below (b := b + 1) hb1) (by omega)
      have HT1 : Hid (Slot w1 w.heap.size) := (HT.out.kept ((Kp.refl b _).drewN nq) (by omega)).kept (Kp.of_below (b := b) hb1) (by omega)
      have ct1 := (HL.out.kept HK1.out hb).token
      obtain ⟨r0, r1, r2, r3, z0, z1, z2, z3⟩ := HT1.out.cell
      clear hb1 c0 c1 ct cr
      have hx0 : 0 < (s.extract p q).size := by simp; omega
      have e0 : (s.extract p q)[0]'hx0 = s[p] := by rw [ByteArray.getElem_extract]; rfl
      have hh : (s.data.toList.drop p).head?.map (·.toNat) = some s[p].toNat := by rw [drop_at hp]; rfl
      have HH : Hid ((s.data.toList.drop p).head?.map (·.toNat) = some s[p].toNat) := hh
      have E0 : Hid ((s.extract p q)[0]'hx0 = s[p]) := e0
      clear hh e0
      by_cases hz : (s.extract p q)[0].toNat = 48 ∧ 1 < q - p
      · obtain ⟨hz1, hz2⟩ := hz
        have hzi : ((s.extract p q)[0].toNat : Int) = 48 := by omega
        have HZ : Hid (s[p].toNat = 48) := by rw [← E0.out]; exact hz1
        clear hz1
        go_wp2
        refine ⟨rfl, HK1.out.alloc _, Or.inr ⟨⟨w1.heap.size, rfl, heap_alloc_new w1 _⟩, ?_⟩⟩
        obtain ⟨e1, e2⟩ := HU.out.done HF.out
        unfold Mil.cutNum
        rw [e1, HU2.out, HH.out]
        simp only []
        rw [if_pos ⟨by rw [HZ.out], by simp; omega⟩]
      · have hnz : ¬ (s[p].toNat = 48 ∧ 1 < q - p) := by rw [← E0.out]; exact hz
        have HN : Hid (¬ (s[p].toNat = 48 ∧ 1 < q - p)) := hnz
        clear hnz
        have fin : TokPost (Mil.cutNum (s.data.toList.drop p)) a b s p n k tp x v w (.returned (.agg #[.int .i64 2, .int .i64 p, .string (s.extract p q), .int .i64 u]))
            ((((w1.setCell ⟨w.heap.size, 0, none⟩ (.int .i64 2)).setCell ⟨w.heap.size, 1, none⟩ (.int .i64 p)).setCell ⟨w.heap.size, 2, none⟩ (.string (s.extract p q))).setCell ⟨w.heap.size, 3, none⟩ (.int .i64 u)) := by
          refine ⟨HK1.out.four (Nat.le_refl _) _ _ _ _, Or.inl ⟨⟨2, (s.data.toList.drop p).take (q - p), u⟩, q, s.extract p q, rfl, hpq, hq, HR1.out.four (by omega) _ _ _ _, ?_, HX.out⟩⟩
          obtain ⟨e1, e2⟩ := HU.out.done HF.out
          unfold Mil.cutNum
          rw [e1, e2, HU2.out, HH.out]
          have hlen : ((s.data.toList.drop p).take (q - p)).length = q - p := by simp; omega
          simp only []
          rw [if_neg (by rw [hlen]; intro hc; exact HN.out ⟨Option.some.inj hc.1, hc.2⟩)]
        have FIN : Hid _ := fin
        clear fin
        by_cases hz1 : (s.extract p q)[0].toNat = 48
        · have hz2 : ¬ 1 < q - p := fun h => hz ⟨hz1, h⟩
          have hzi : ((s.extract p q)[0].toNat : Int) = 48 := by omega
          clear hz1 hz
          go_wp2
          exact bodyPost_ret (v := .agg #[.int .i64 2, .int .i64 p, .string (s.extract p q), .int .i64 u]) (by simp [results, Tryz.results78, go_sem, r0, r1, r2, r3]) rfl FIN.out
        · have hzi : ¬ ((s.extract p q)[0].toNat : Int) = 48 := by omega
          clear hz1 hz
          go_wp2
          exact bodyPost_ret (v := .agg #[.int .i64 2, .int .i64 p, .string (s.extract p q), .int .i64 u]) (by simp [results, Tryz.results78, go_sem, r0, r1, r2, r3]) rfl FIN.out
    · have HU2 : Hid (Lib.parseIntB 64 ((s.data.toList.drop p).take (q - p)) = .range) := hu
      clear hu HC
      go_wp2
      go_quiet (fail)
      go_wp2_with fail
      refine (pInt_range a _ (by simp; omega) (by rw [HX.out]; exact HU2.out) _ (by exact ((Kp.refl b _).drewN _).held cr (by show 19 ≠ b; omega))).mono ?_
      rintro e w1 ⟨N, rfl, hb1⟩
      have HK1 : Hid (Kp b w w1) := (HK.out.drewN nq).trans (Kp.of_below hb1)
      have HR1 : Hid (Rd w1 b s q n k tp x v) := (HR.out.drewN nq).kept (Kp.of_below (b := b + 1) hb1) (by omega)
      have HT1 : Hid (Slot w1 w.heap.size) := (HT.out.kept ((Kp.refl b _).drewN nq) (by omega)).kept (Kp.of_below (b := b) hb1) (by omega)
      have ct1 := (HL.out.kept HK1.out hb).token
      obtain ⟨r0, r1, r2, r3, z0, z1, z2, z3⟩ := HT1.out.cell
      clear hb1 c0 c1 ct cr
      go_wp2
      refine ⟨rfl, HK1.out.alloc _, Or.inr ⟨⟨w1.heap.size, rfl, heap_alloc_new w1 _⟩, ?_⟩⟩
      obtain ⟨e1, e2⟩ := HU.out.done HF.out
      unfold Mil.cutNum
      rw [e1, HU2.out]

end Go.Proofs.YtibbjohkiigffaaGreatDoor
namespace Go.Proofs.YtibbjohkiigffaaGreatDoor
open Go.RowKit

theorem cut_cons {c : UInt8} {r : Mil.Bytes} : Mil.cut (c :: r) = if Mil.isL c then Mil.cutName (c :: r) else if Mil.isD c then Mil.cutNum (c :: r) else Mil.cutSign (c :: r) := rfl

theorem tok_through {c : Option (Mil.Tok × Mil.Bytes)} {a : Nat → Addr} {b : Nat} {s : ByteArray} {p n q : Nat} {k tp : Int} {x xt : ByteArray} {v : Int} {w w1 w2 : World} {t : Mil.Tok}
    (h1 : Kp b w w1) (h2 : Kp b w1 w2) (hr : b ≠ w.heap.size) (hpq : p ≤ q) (hq : q ≤ s.size) (hR : Rd w2 b s q n k tp x v) (hc : c = some (t, s.data.toList.drop q)) (hx : xt.data.toList = t.txt) :
    TokPost c a b s p n k tp x v w (.returned (.agg #[.int .i64 (t.kind : Nat), .int .i64 p, .string xt, .int .i64 t.val]))
      ((((w2.setCell ⟨w.heap.size, 0, none⟩ (.int .i64 (t.kind : Nat))).setCell ⟨w.heap.size, 1, none⟩ (.int .i64 p)).setCell ⟨w.heap.size, 2, none⟩ (.string xt)).setCell ⟨w.heap.size, 3, none⟩ (.int .i64 t.val)) :=
  ⟨(h1.trans h2).four (Nat.le_refl _) _ _ _ _, Or.inl ⟨t, q, xt, rfl, hpq, hq, hR.four hr _ _ _ _, hc, hx⟩⟩

set_option maxHeartbeats 1000000 in
theorem cut_any (a : Nat → Addr) (b : Nat) (s : ByteArray) (p n : Nat) (k tp : Int) (x : ByteArray) (v : Int) (w : World) (L : Laid a w) (hb : 23 ≤ b) (h : Rd w b s p n k tp x v) (hp : p ≤ s.size) (hs : s.size ≤ 4000) :
    Calls Tryz.prog 59 #[.pointer (some ⟨b, 0, none⟩)] w (TokPost (Mil.cut (s.data.toList.drop p)) a b s p n k tp x v w) := by
  have HL : Hid (Laid a w) := L
  have hbw : b < w.heap.size := lt_of_cell h.c0
  have hgw := L.size
  let o : Obj := .cells #[.int .i64 0, .int .i64 0, .string ⟨#[]⟩, .int .i64 0] 114
  have ho : o = .cells #[.int .i64 0, .int .i64 0, .string ⟨#[]⟩, .int .i64 0] 114 := rfl
  have hR : Rd (w.alloc o) b s p n k tp x v := h.kept ((Kp.refl (b + 1) _).alloc _) (by omega)
  have HR : Hid (Rd (w.alloc o) b s p n k tp x v) := hR
  have HK : Hid (Kp b w (w.alloc o)) := (Kp.refl b _).alloc _
  have HL1 : Hid (Laid a (w.alloc o)) := L.kept HK.out hb
  have hT : Slot (w.alloc o) w.heap.size := heap_alloc_new _ _
  have HT : Hid (Slot (w.alloc o) w.heap.size) := hT
  have hsz : w.heap.size < (w.alloc o).heap.size := by simp
  clear h L
  go_enter Tryz.func59, Tryz.ntmps59
  go_wp2
  rw [← ho]
  generalize w.alloc o = w1 at *
  have c0 := hR.c0
  have c1 := hR.c1
  obtain ⟨r0, r1, r2, r3, z0, z1, z2, z3⟩ := hT.cell
  clear hR hT
  by_cases hlt : p < s.size
  · have hq : ((p : Int) == (s.size : Int)) = false := by simp; omega
    have hc : Mil.cut (s.data.toList.drop p) = if Mil.isL s[p] then Mil.cutName (s.data.toList.drop p) else if Mil.isD s[p] then Mil.cutNum (s.data.toList.drop p) else Mil.cutSign (s.data.toList.drop p) := by
      rw [drop_at hlt]; rfl
    have HC : Hid _ := hc
    clear hc
    go_quiet (fail)
    go_wp2
    go_quiet (fail)
    go_wp2_with fail
    refine (isLetter_any _ _).mono ?_
    rintro e w' ⟨rfl, rfl⟩
    by_cases hl : Mil.isL s[p] = true
    · have HC1 : Hid (Mil.cut (s.data.toList.drop p) = Mil.cutName (s.data.toList.drop p)) := HC.out.trans (by rw [if_pos hl])
      go_wp2_with fail
      refine (cutName_any a b s p n k tp x v _ (HL1.out.kept ((Kp.refl b _).drewN _) hb) hb (HR.out.drewN _) hlt hs).mono ?_
      rintro e w2 ⟨hk2, (⟨t, q, xt, rfl, h1, h2, hR2, hc2, hx2⟩ | ⟨⟨d, rfl, hd⟩, hn⟩)⟩
      · have HF : Hid (TokPost (Mil.cut (s.data.toList.drop p)) a b s p n k tp x v w (.returned (.agg #[.int .i64 (t.kind : Nat), .int .i64 p, .string xt, .int .i64 t.val])) ((((w2.setCell ⟨w.heap.size, 0, none⟩ (.int .i64 (t.kind : Nat))).setCell ⟨w.heap.size, 1, none⟩ (.int .i64 p)).setCell ⟨w.heap.size, 2, none⟩ (.string xt)).setCell ⟨w.heap.size, 3, none⟩ (.int .i64 t.val))) :=
          tok_through (HK.out.drewN _) hk2 (by omega) h1 h2 hR2 (HC1.out.trans hc2) hx2
        have hT2 : Slot w2 w.heap.size := (HT.out.kept ((Kp.refl b _).drewN _) (by omega)).kept hk2 (by omega)
        clear r0 r1 r2 r3 z0 z1 z2 z3
        obtain ⟨r0, r1, r2, r3, z0, z1, z2, z3⟩ := hT2.cell
        clear hk2 h1 h2 hR2 hc2 hx2 hT2
        go_wp2
        exact bodyPost_ret (v := .agg #[.int .i64 (t.kind : Nat), .int .i64 p, .string xt, .int .i64 t.val]) (by simp [results, Tryz.results59, go_sem, r0, r1, r2, r3]) rfl HF.out
      · go_wp2
        exact ⟨rfl, (HK.out.drewN _).trans hk2, Or.inr ⟨⟨d, rfl, hd⟩, HC1.out.trans hn⟩⟩
    · have hl' : Mil.isL s[p] = false := by simpa using hl
      have HC1 : Hid (Mil.cut (s.data.toList.drop p) = if Mil.isD s[p] then Mil.cutNum (s.data.toList.drop p) else Mil.cutSign (s.data.toList.drop p)) := HC.out.trans (by rw [if_neg hl])
      clear hl
      go_wp2_with fail
      refine (isDigit_any _ _).mono ?_
      rintro e w' ⟨rfl, rfl⟩
      by_cases hd : Mil.isD s[p] = true
      · have HC2 : Hid (Mil.cut (s.data.toList.drop p) = Mil.cutNum (s.data.toList.drop p)) := HC1.out.trans (by rw [if_pos hd])
        have HD : Hid (Mil.isD s[p] = true) := hd
        go_wp2_with fail
        refine (cutNumber_any a b s p n k tp x v _ (HL1.out.kept ((Kp.refl b _).drewN _) hb) hb (HR.out.drewN _) hlt HD.out hs).mono ?_
        rintro e w2 ⟨hk2, (⟨t, q, xt, rfl, h1, h2, hR2, hc2, hx2⟩ | ⟨⟨d, rfl, hd⟩, hn⟩)⟩
        · have HF : Hid (TokPost (Mil.cut (s.data.toList.drop p)) a b s p n k tp x v w (.returned (.agg #[.int .i64 (t.kind : Nat), .int .i64 p, .string xt, .int .i64 t.val])) ((((w2.setCell ⟨w.heap.size, 0, none⟩ (.int .i64 (t.kind : Nat))).setCell ⟨w.heap.size, 1, none⟩ (.int .i64 p)).setCell ⟨w.heap.size, 2, none⟩ (.string xt)).setCell ⟨w.heap.size, 3, none⟩ (.int .i64 t.val))) :=
            tok_through (HK.out.drewN _) hk2 (by omega) h1 h2 hR2 (HC2.out.trans hc2) hx2
          have hT2 : Slot w2 w.heap.size := (HT.out.kept ((Kp.refl b _).drewN _) (by omega)).kept hk2 (by omega)
          clear r0 r1 r2 r3 z0 z1 z2 z3
          obtain ⟨r0, r1, r2, r3, z0, z1, z2, z3⟩ := hT2.cell
          clear hk2 h1 h2 hR2 hc2 hx2 hT2
          go_wp2
          exact bodyPost_ret (v := .agg #[.int .i64 (t.kind : Nat), .int .i64 p, .string xt, .int .i64 t.val]) (by simp [results, Tryz.results59, go_sem, r0, r1, r2, r3]) rfl HF.out
        · go_wp2
          exact ⟨rfl, (HK.out.drewN _).trans hk2, Or.inr ⟨⟨d, rfl, hd⟩, HC2.out.trans hn⟩⟩
      · have hd' : Mil.isD s[p] = false := by simpa using hd
        have HC2 : Hid (Mil.cut (s.data.toList.drop p) = Mil.cutSign (s.data.toList.drop p)) := HC1.out.trans (by rw [if_neg hd])
        clear hd
        go_wp2_with fail
        refine (cutSign_any a b s p n k tp x v _ (HL1.out.kept ((Kp.refl b _).drewN _) hb) hb (HR.out.drewN _) hlt hs).mono ?_
        rintro e w2 ⟨hk2, (⟨t, q, xt, rfl, h1, h2, hR2, hc2, hx2⟩ | ⟨⟨d, rfl, hd⟩, hn⟩)⟩
        · have HF : Hid (TokPost (Mil.cut (s.data.toList.drop p)) a b s p n k tp x v w (.returned (.agg #[.int .i64 (t.kind : Nat), .int .i64 p, .string xt, .int .i64 t.val])) ((((w2.setCell ⟨w.heap.size, 0, none⟩ (.int .i64 (t.kind : Nat))).setCell ⟨w.heap.size, 1, none⟩ (.int .i64 p)).setCell ⟨w.heap.size, 2, none⟩ (.string xt)).setCell ⟨w.heap.size, 3, none⟩ (.int .i64 t.val))) :=
            tok_through (HK.out.drewN _) hk2 (by omega) h1 h2 hR2 (HC2.out.trans hc2) hx2
          have hT2 : Slot w2 w.heap.size := (HT.out.kept ((Kp.refl b _).drewN _) (by omega)).kept hk2 (by omega)
          clear r0 r1 r2 r3 z0 z1 z2 z3
          obtain ⟨r0, r1, r2, r3, z0, z1, z2, z3⟩ := hT2.cell
          clear hk2 h1 h2 hR2 hc2 hx2 hT2
          go_wp2
          exact bodyPost_ret (v := .agg #[.int .i64 (t.kind : Nat), .int .i64 p, .string xt, .int .i64 t.val]) (by simp [results, Tryz.results59, go_sem, r0, r1, r2, r3]) rfl HF.out
        · go_wp2
          exact ⟨rfl, (HK.out.drewN _).trans hk2, Or.inr ⟨⟨d, rfl, hd⟩, HC2.out.trans hn⟩⟩
  · have hq : ((p : Int) == (s.size : Int)) = true := by simp; omega
    go_quiet (fail)
    go_wp2
    refine bodyPost_ret (v := .agg #[.int .i64 0, .int .i64 p, .string ⟨#[]⟩, .int .i64 0]) (by simp [results, Tryz.results59, go_sem, r0, r1, r2, r3]) rfl ?_
    refine ⟨(HK.out.drewN nq).four (Nat.le_refl _) _ _ _ _, Or.inl ⟨⟨0, [], 0⟩, p, ⟨#[]⟩, rfl, Nat.le_refl _, hp, (HR.out.drewN nq).four (by omega) _ _ _ _, ?_, rfl⟩⟩
    rw [drop_end (by omega)]; rfl

end Go.Proofs.YtibbjohkiigffaaGreatDoor
