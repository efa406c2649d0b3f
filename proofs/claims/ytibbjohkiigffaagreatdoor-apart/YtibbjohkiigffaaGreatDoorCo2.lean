/-
  Cg, Ch, Ci, Cj, Ck, Co, Qb, Qc, in one.
-/
import Derived.Test.YtibbjohkiigffaaGreatDoorCo1
import Derived.Deep.RegionHeld3
import Derived.Test.YtibbjohkiigffaaGreatDoorPau
namespace Go.Proofs.YtibbjohkiigffaaGreatDoor
open Go.RowKit

namespace Mip
theorem first_each (m : Mil.Bytes → Option Int) : ∀ l : List E, firstOf m l = none → ∀ q ∈ l, unres m q = none
  | [], _, q, h => by cases h
  | q0 :: r, h, q, hq => by
    rw [firstOf, Option.or_eq_none_iff] at h
    rcases List.mem_cons.1 hq with rfl | hq
    · exact h.1
    · exact first_each m r h.2 q hq
/-- The period of an expression, as far as it is known. -/
def perOf (m : Mil.Bytes → Option Int) (F : List Flo) : E → Nat
  | .nil => 0
  | .node t k x a b =>
    if t = 3 then ((F[((m x.1).getD 0).toNat]?).map (·.per)).getD 0
    else if t = 8 then (if perOf m F a * k ≤ 1000000 then perOf m F a * k else 0)
    else if t = 9 then (if perOf m F b % k = 0 then perOf m F b / k else 0)
    else if perOf m F a ≠ 0 then perOf m F a else perOf m F b
theorem perOf_le (m : Mil.Bytes → Option Int) (F : List Flo) (h : ∀ f ∈ F, f.per ≤ 1000000) : ∀ e : E, perOf m F e ≤ 1000000
  | .nil => Nat.zero_le _
  | .node t k x a b => by
    have ha := perOf_le m F h a
    have hb := perOf_le m F h b
    have hd : perOf m F b / k ≤ perOf m F b := Nat.div_le_self _ _
    unfold perOf
    split
    · cases hf : F[((m x.1).getD 0).toNat]? with
      | none => exact Nat.zero_le _
      | some f => exact h f (List.mem_of_getElem? hf)
    · split
      · split
        · assumption
        · exact Nat.zero_le _
      · split
        · split
          · omega
          · exact Nat.zero_le _
        · split
          · exact ha
          · exact hb
def firstPer (m : Mil.Bytes → Option Int) (F : List Flo) : List E → Nat
  | [] => 0
  | q :: r => if perOf m F q ≠ 0 then perOf m F q else firstPer m F r
/-- A node whose period is that of its first operand that has one. -/
def Plain (e : E) : Prop := (∀ p x, e ≠ eName p x) ∧ (∀ p a k, e ≠ eUnder p a k) ∧ (∀ p a b k, e ≠ eHold p a b k)
theorem per_kids (m : Mil.Bytes → Option Int) (F : List Flo) : ∀ e : E, Mil.wf (er e) false → Plain e → perOf m F e = firstPer m F (kids e) := by
  refine tree_induct ?_ ?_ ?_ ?_ ?_ ?_ ?_ ?_ ?_ ?_
  · intro p k _ _; rfl
  · intro p k _ _; rfl
  · intro p x _ h; exact absurd rfl (h.1 p x)
  · intro p x a _ _ _; simp [perOf, kids, firstPer, ePre]
  · intro p x a b _ _ _ _; by_cases h : perOf m F b = 0 <;> simp [perOf, kids, firstPer, eTwo, h]
  · intro p y a b c _ _ _ _; by_cases h : perOf m F c = 0 <;> simp [perOf, kids, firstPer, h]
  · intro p a b _ _ _; by_cases h : perOf m F b = 0 <;> simp [perOf, kids, firstPer, eFby, h]
  · intro p a k _ _ _ h; exact absurd rfl (h.2.1 p a k)
  · intro p a b k _ _ _ _ h; exact absurd rfl (h.2.2 p a b k)
  · intro p x a b _ _ _ _; by_cases h : perOf m F b = 0 <;> simp [perOf, kids, firstPer, eLeast, h]
theorem per_none (m : Mil.Bytes → Option Int) (F : List Flo) : ∀ l : List E, (∀ (i : Nat) (q : E), l[i]? = some q → perOf m F q = 0) → firstPer m F l = 0
  | [], _ => rfl
  | q :: r, h => by
    rw [firstPer, h 0 q rfl, if_neg (by simp), per_none m F r (fun i q' hq => h (i + 1) q' hq)]
theorem per_some (m : Mil.Bytes → Option Int) (F : List Flo) : ∀ (l : List E) (j : Nat) (q : E), (∀ (i : Nat) (q' : E), i < j → l[i]? = some q' → perOf m F q' = 0) → l[j]? = some q → perOf m F q ≠ 0 → firstPer m F l = perOf m F q
  | [], _, _, _, h, _ => by simp at h
  | q0 :: r, 0, q, _, h, k => by
    have e : q0 = q := by simpa using h
    rw [firstPer, e, if_pos k]
  | q0 :: r, j + 1, q, h0, h, k => by
    rw [firstPer, h0 0 q0 (Nat.succ_pos _) rfl, if_neg (by simp), per_some m F r j q (fun i q' hi hq => h0 (i + 1) q' (Nat.succ_lt_succ hi) hq) (by simpa using h) k]
end Mip

/-- Each name that is known is one of a flow. -/
def Fit (m : Mil.Bytes → Option Int) (F : List Flo) : Prop := ∀ x k, m x = some k → ∃ i : Nat, k = (i : Int) ∧ i < F.length
def Pp (v : Nat) (w : World) (E : Ending) (w' : World) : Prop := Below w.heap.size w w' ∧ E = .returned (.int .i64 (v : Nat))
def PC (N : Nat) (a : Nat → Addr) (c b n : Nat) (m : Mil.Bytes → Option Int) (g : Nat) (F : List Flo) (e : Mip.E) : Prop :=
  Mip.unres m e = none → ∀ w, Cw a c b n m g F w → Calls Tryz.prog 48 #[.pointer (some ⟨c, 0, none⟩), ev N e] w (Pp (Mip.perOf m F e) w)

def slow (p k : Nat) : Nat := if p * k ≤ 1000000 then p * k else 0
def fast (p k : Nat) : Nat := if p % k = 0 then p / k else 0
theorem slower_slow (p k : Nat) (hp : p ≤ 1000000) (hk : k ≤ 1000) (w : World) : Calls Tryz.prog 69 #[.int .i64 (p : Nat), .int .i64 (k : Nat)] w (Pp (slow p k) w) := slower_any p k hp hk w
theorem faster_fast (p k : Nat) (hp : p ≤ 1000000) (h2 : 2 ≤ k) (hk : k ≤ 1000) (w : World) : Calls Tryz.prog 70 #[.int .i64 (p : Nat), .int .i64 (k : Nat)] w (Pp (fast p k) w) := faster_any p k hp h2 hk w
theorem fieldPer (f : Flo) (w : World) : (Instr.field 42 (floV f) 2).run Tryz.prog w = .ok (.int .i64 (f.per : Nat)) w := by kernel_rfl
set_option maxHeartbeats 4000000 in
theorem period_name (N : Nat) (a : Nat → Addr) (c b n : Nat) (m : Mil.Bytes → Option Int) (g : Nat) (F : List Flo) (hfit : Fit m F) (p : Nat) (x : Mil.Bytes) (hx : Mil.NameOk x) : PC N a c b n m g F (Mip.eName p x) := by
  intro hu w hC
  have HC : Hid (Cw a c b n m g F w) := hC
  have HX : Hid (x.length ≤ 4000) := by have := hx.2.2.1; show _ ≤ _; omega
  obtain ⟨i, hi, hlt⟩ : ∃ i : Nat, m x = some (i : Int) ∧ i < F.length := by
    cases hm : m x with
    | none => simp [Mip.unres, Mip.eName, hm] at hu
    | some k =>
      obtain ⟨i, rfl, h⟩ := hfit x k hm
      exact ⟨i, rfl, h⟩
  obtain ⟨f, hf⟩ : ∃ f, F[i]? = some f := ⟨_, List.getElem?_eq_getElem hlt⟩
  have HP : Hid (Mip.perOf m F (Mip.eName p x) = f.per) := by
    show _ = _
    simp [Mip.perOf, Mip.eName, hi, hf]
  have HI : Hid (m x = some (i : Int) ∧ F[i]? = some f) := ⟨hi, hf⟩
  have HB : Hid (Below w.heap.size w (w.alloc (.cells #[.int .i64 ((N : Int) - (p : Nat)), .string (bs x)] 85))) := (Below.refl _ _).alloc (Nat.le_refl _) _
  have hta := ta_name_name (.agg #[.int .i64 ((N : Int) - (p : Nat)), .string (bs x)])
  have hfp := fieldPer f
  clear hC hx hu hi hf hlt hfit
  show Calls Tryz.prog 48 #[.pointer (some ⟨c, 0, none⟩), .iface 85 (.agg #[.int .i64 ((N : Int) - (p : Nat)), .string (bs x)])] w _
  go_enter Tryz.func48, Tryz.ntmps48
  go_wp2_with fail
  refine (flowOf_any (HC.out.below HB.out) x HX.out _ i HI.out.1 f HI.out.2).mono ?_
  rintro E w1 ⟨hb1, rfl⟩
  have HB1 : Hid (Below w.heap.size w w1) := below_step HB.out hb1
  clear hb1 hta
  go_wp2
  go_ret
  exact ⟨HB1.out, by rw [HP.out]; rfl⟩

/-- What a plain node looks like. -/
theorem not_three (N : Nat) : ∀ e : Mip.E, Mil.wf (Mip.er e) false → Mip.Plain e → ∃ T y, ev N e = .iface T y ∧ (∀ w, (Instr.typeAssert (.iface T y) 87 85 true).run Tryz.prog w = .ok (.tuple #[.agg #[.int .i64 0, .string ⟨#[]⟩], .bool false]) w) ∧
    (∀ w, (Instr.typeAssert (.iface T y) 87 168 true).run Tryz.prog w = .ok (.tuple #[.agg #[.int .i64 0, .nilIface, .int .i64 0], .bool false]) w) ∧ (∀ w, (Instr.typeAssert (.iface T y) 87 171 true).run Tryz.prog w = .ok (.tuple #[.agg #[.int .i64 0, .nilIface, .nilIface, .int .i64 0], .bool false]) w) := by
  refine Mip.tree_induct ?_ ?_ ?_ ?_ ?_ ?_ ?_ ?_ ?_ ?_
  · intro p k _ _; exact ⟨_, _, rfl, ta_int_name _, ta_int_under _, ta_int_hold _⟩
  · intro p k _ _; exact ⟨_, _, rfl, ta_bool_name _, ta_bool_under _, ta_bool_hold _⟩
  · intro p x _ h; exact absurd rfl (h.1 p x)
  · intro p x a _ _ _; exact ⟨_, _, rfl, ta_pre_name _, ta_pre_under _, ta_pre_hold _⟩
  · intro p x a b _ _ _ _; exact ⟨_, _, rfl, ta_two_name _, ta_two_under _, ta_two_hold _⟩
  · intro p y a b c _ _ _ _; exact ⟨_, _, rfl, ta_if_name _, ta_if_under _, ta_if_hold _⟩
  · intro p a b _ _ _; exact ⟨_, _, rfl, ta_fby_name _, ta_fby_under _, ta_fby_hold _⟩
  · intro p a k _ _ _ h; exact absurd rfl (h.2.1 p a k)
  · intro p a b k _ _ _ _ h; exact absurd rfl (h.2.2 p a b k)
  · intro p x a b _ _ _ _; exact ⟨_, _, rfl, ta_least_name _, ta_least_under _, ta_least_hold _⟩

set_option maxHeartbeats 4000000 in
theorem period_plain (N : Nat) (a : Nat → Addr) (c b n : Nat) (m : Mil.Bytes → Option Int) (g : Nat) (F : List Flo) (e : Mip.E) (hw : Mil.wf (Mip.er e) false) (hp : Mip.Plain e) (ih : ∀ q ∈ Mip.kids e, PC N a c b n m g F q) : PC N a c b n m g F e := by
  intro hu w hC
  have HC : Hid (Cw a c b n m g F w) := hC
  have HP : Hid (Mip.perOf m F e = Mip.firstPer m F (Mip.kids e)) := Mip.per_kids m F e hw hp
  have IH : Hid (∀ q ∈ Mip.kids e, ∀ w, Cw a c b n m g F w → Calls Tryz.prog 48 #[.pointer (some ⟨c, 0, none⟩), ev N q] w (Pp (Mip.perOf m F q) w)) := fun q hq => ih q hq (Mip.first_each m _ (by rw [← Mip.unres_kids m e hw hp.1]; exact hu) q hq)
  obtain ⟨T, y, he, hta, htb, htc⟩ := not_three N e hw hp
  have HO := operands_any N e hw
  rw [he] at HO
  have HO' : Hid (∀ w, Calls Tryz.prog 66 #[.iface T y] w (OpPost N e w)) := HO
  clear hC ih HO hp hw hu
  show Calls Tryz.prog 48 #[.pointer (some ⟨c, 0, none⟩), ev N e] w _
  rw [he]
  clear he
  go_enter Tryz.func48, Tryz.ntmps48
  go_wp2_with fail
  refine (HO'.out _).mono ?_
  rintro E w1 ⟨hb1, v, rfl, hK⟩
  have HB1 : Hid (Below w.heap.size w w1) := hb1
  have hl3 := Mip.kids_le e
  generalize hl : Mip.kids e = l at hK IH HP hl3
  clear hl
  rcases hK with ⟨rfl, rfl⟩ | ⟨gg, rfl, hcells⟩
  · clear hb1 hta htb htc hl3
    go_wp2_with fail
    go_loopg [42] 0 (fun gk s42 wr => s42 = .int .i64 0 ∧ wr = w1)
    case atStart => exact ⟨rfl, rfl⟩
    case round =>
      obtain ⟨rfl, rfl⟩ := hrel
      go_wp2
      go_ret
      exact ⟨HB1.out, by rw [HP.out]; rfl⟩
  · have HCL : Hid (∀ (j : Nat) (q : Mip.E), l[j]? = some q → w1.cell? ⟨gg, j, none⟩ = some (ev N q)) := hcells
    have HL : Hid (l.length ≤ 3) := hl3
    clear hb1 hta htb htc hcells hl3
    go_wp2_with fail
    go_loopg [42] l.length (fun gk s42 wr => ∃ j : Nat, j ≤ l.length ∧ s42 = .int .i64 j ∧ gk = l.length - j ∧ Hid (∀ (i : Nat) (q : Mip.E), i < j → l[i]? = some q → Mip.perOf m F q = 0) ∧ Hid (Below w.heap.size w wr) ∧ Hid (Below w1.heap.size w1 wr))
    case atStart => exact ⟨0, Nat.zero_le _, rfl, rfl, fun i q hi => by omega, HB1, Below.refl _ _⟩
    case round =>
      obtain ⟨j, hj, rfl, hg, HPR, HW, HW1⟩ := hrel
      have HG : Hid (gk = l.length - j) := hg
      clear hg
      by_cases hlt : j < l.length
      · obtain ⟨q, hq⟩ : ∃ q, l[j]? = some q := ⟨_, List.getElem?_eq_getElem hlt⟩
        have hcq := (HW1.out.cell (lt_of_cell (HCL.out j q hq))).trans (HCL.out j q hq)
        have HQ : Hid (l[j]? = some q) := hq
        have hmem : q ∈ l := List.mem_of_getElem? hq
        have hbig := HL.out
        clear hq
        go_wp2_with fail
        refine (IH.out q hmem _ (HC.out.below HW.out)).mono ?_
        rintro E w2 ⟨hb2, rfl⟩
        have HW2 : Hid (Below w.heap.size w w2) := below_step HW.out hb2
        have HV2 : Hid (Below w1.heap.size w1 w2) := below_step HW1.out hb2
        generalize hpq : Mip.perOf m F q = pq
        have HPQ : Hid (Mip.perOf m F q = pq) := hpq
        clear hb2 hcq hpq
        by_cases h0 : pq = 0
        · subst h0
          go_wp2
          go_roundg (l.length - (j + 1))
          case measure => have := HG.out; omega
          case rel => exact ⟨j + 1, hlt, by go_num, rfl, fun i q' hi hq' => by
            rcases Nat.lt_or_ge i j with h | h
            · exact HPR.out i q' h hq'
            · have e : i = j := by omega
              rw [e, HQ.out] at hq'
              rw [← Option.some.inj hq']
              exact HPQ.out, HW2, HV2⟩
        · have h0' : ((pq : Int) == 0) = false := by simpa using h0
          have h0n : (pq : Int) ≠ 0 := by omega
          go_wp2
          go_ret
          exact ⟨HW2.out, by rw [HP.out, Mip.per_some m F l j q HPR.out HQ.out (by rw [HPQ.out]; exact h0), HPQ.out]; rfl⟩
      · have hle : (l.length : Int) ≤ (j : Int) := by omega
        go_wp2
        go_ret
        refine ⟨HW.out, ?_⟩
        rw [HP.out, Mip.per_none m F l (fun i q hq => HPR.out i q (by have := (List.getElem?_eq_some_iff.1 hq).1; omega) hq)]
        rfl


set_option maxHeartbeats 4000000 in
theorem period_under (N : Nat) (a : Nat → Addr) (c b n : Nat) (m : Mil.Bytes → Option Int) (g : Nat) (F : List Flo) (hF : ∀ f ∈ F, f.per ≤ 1000000) (p : Nat) (q : Mip.E) (k : Nat) (h2 : 2 ≤ k) (hk : k ≤ 1000) (hwq : Mil.wf (Mip.er q) false) (ih : PC N a c b n m g F q) : PC N a c b n m g F (Mip.eUnder p q k) := by
  intro hu w hC
  have HC : Hid (Cw a c b n m g F w) := hC
  have hu' : Mip.unres m q = none := by
    simp [Mip.unres, Mip.eUnder] at hu
    exact hu
  have IH : Hid (∀ w, Cw a c b n m g F w → Calls Tryz.prog 48 #[.pointer (some ⟨c, 0, none⟩), ev N q] w (Pp (Mip.perOf m F q) w)) := ih hu'
  have HLE : Hid (Mip.perOf m F q ≤ 1000000) := Mip.perOf_le m F hF q
  have HK : Hid (2 ≤ k ∧ k ≤ 1000) := ⟨h2, hk⟩
  have HP : Hid (Mip.perOf m F (Mip.eUnder p q k) = slow (Mip.perOf m F q) k) := by show _ = _; simp [Mip.perOf, Mip.eUnder, slow]
  obtain ⟨tq, yq, eq⟩ := ev_iface N q hwq
  rw [eq] at IH
  have e0 : ev N (Mip.eUnder p q k) = .iface 168 (.agg #[.int .i64 ((N : Int) - (p : Nat)), .iface tq yq, .int .i64 (k : Nat)]) := by show Value.iface _ (.agg #[.int .i64 ((N : Int) - (p : Nat)), ev N q, .int .i64 (k : Nat)]) = _; rw [eq]
  have ta := ta_under_name (.agg #[.int .i64 ((N : Int) - (p : Nat)), .iface tq yq, .int .i64 (k : Nat)])
  have tb := ta_under_under (.agg #[.int .i64 ((N : Int) - (p : Nat)), .iface tq yq, .int .i64 (k : Nat)])
  have HB : Hid (Below w.heap.size w (w.alloc (.cells #[.int .i64 ((N : Int) - (p : Nat)), .iface tq yq, .int .i64 (k : Nat)] 168))) := (Below.refl _ _).alloc (Nat.le_refl _) _
  have k1 : ∀ w', Below (w.alloc (.cells #[.int .i64 ((N : Int) - (p : Nat)), .iface tq yq, .int .i64 (k : Nat)] 168)).heap.size (w.alloc (.cells #[.int .i64 ((N : Int) - (p : Nat)), .iface tq yq, .int .i64 (k : Nat)] 168)) w' → w'.cell? ⟨w.heap.size, 1, none⟩ = some (.iface tq yq) := fun w' hb => (hb.cell (by simp)).trans (by simp)
  have k2 : ∀ w', Below (w.alloc (.cells #[.int .i64 ((N : Int) - (p : Nat)), .iface tq yq, .int .i64 (k : Nat)] 168)).heap.size (w.alloc (.cells #[.int .i64 ((N : Int) - (p : Nat)), .iface tq yq, .int .i64 (k : Nat)] 168)) w' → w'.cell? ⟨w.heap.size, 2, none⟩ = some (.int .i64 (k : Nat)) := fun w' hb => (hb.cell (by simp)).trans (by simp)
  clear hC hu hu' ih hF h2 hk
  show Calls Tryz.prog 48 #[.pointer (some ⟨c, 0, none⟩), ev N (Mip.eUnder p q k)] w _
  rw [e0]
  clear e0 eq
  go_enter Tryz.func48, Tryz.ntmps48
  go_wp2_with fail
  generalize hW : w.alloc (.cells #[.int .i64 ((N : Int) - (p : Nat)), .iface tq yq, .int .i64 (k : Nat)] 168) = W at HB k1 k2 ⊢
  clear hW ta tb
  go_region_held3 (fun w' => Below W.heap.size W w') (first | assumption | exact (Below.refl _ _).drew | exact Below.alloc (by assumption) (Below.size (by assumption)) _) (first
    | (go_at_call 48; (with_reducible refine (IH.out _ ?_).mono ?_); exact (HC.out.below HB.out).below (by assumption); rintro e w3 ⟨hbw3, rfl⟩; have hBw3 : Below W.heap.size W w3 := below_step (by assumption) hbw3)
    | (go_at_call 69; (with_reducible refine (slower_slow _ k HLE.out HK.out.2 _).mono ?_); rintro e w4 ⟨hbw4, rfl⟩; have hBw4 : Below W.heap.size W w4 := below_step (by assumption) hbw4))
  all_goals go_wp2
  all_goals go_ret
  all_goals exact ⟨below_step HB.out (by assumption), by rw [HP.out]; rfl⟩

set_option maxHeartbeats 4000000 in
theorem period_hold (N : Nat) (a : Nat → Addr) (c b n : Nat) (m : Mil.Bytes → Option Int) (g : Nat) (F : List Flo) (hF : ∀ f ∈ F, f.per ≤ 1000000) (p : Nat) (q0 q : Mip.E) (k : Nat) (h2 : 2 ≤ k) (hk : k ≤ 1000) (hw0 : Mil.wf (Mip.er q0) false) (hwq : Mil.wf (Mip.er q) false) (ih : PC N a c b n m g F q) : PC N a c b n m g F (Mip.eHold p q0 q k) := by
  intro hu w hC
  have HC : Hid (Cw a c b n m g F w) := hC
  have hu' : Mip.unres m q = none := by
    simp [Mip.unres, Mip.eHold] at hu
    exact hu.2
  have IH : Hid (∀ w, Cw a c b n m g F w → Calls Tryz.prog 48 #[.pointer (some ⟨c, 0, none⟩), ev N q] w (Pp (Mip.perOf m F q) w)) := ih hu'
  have HLE : Hid (Mip.perOf m F q ≤ 1000000) := Mip.perOf_le m F hF q
  have HK : Hid (2 ≤ k ∧ k ≤ 1000) := ⟨h2, hk⟩
  have HP : Hid (Mip.perOf m F (Mip.eHold p q0 q k) = fast (Mip.perOf m F q) k) := by show _ = _; simp [Mip.perOf, Mip.eHold, fast]
  obtain ⟨tq, yq, eq⟩ := ev_iface N q hwq
  obtain ⟨t0, y0, eq0⟩ := ev_iface N q0 hw0
  rw [eq] at IH
  have e0 : ev N (Mip.eHold p q0 q k) = .iface 171 (.agg #[.int .i64 ((N : Int) - (p : Nat)), .iface t0 y0, .iface tq yq, .int .i64 (k : Nat)]) := by show Value.iface _ (.agg #[.int .i64 ((N : Int) - (p : Nat)), ev N q0, ev N q, .int .i64 (k : Nat)]) = _; rw [eq0, eq]
  have ta := ta_hold_name (.agg #[.int .i64 ((N : Int) - (p : Nat)), .iface t0 y0, .iface tq yq, .int .i64 (k : Nat)])
  have tb := ta_hold_under (.agg #[.int .i64 ((N : Int) - (p : Nat)), .iface t0 y0, .iface tq yq, .int .i64 (k : Nat)])
  have tc := ta_hold_hold (.agg #[.int .i64 ((N : Int) - (p : Nat)), .iface t0 y0, .iface tq yq, .int .i64 (k : Nat)])
  have HB : Hid (Below w.heap.size w (w.alloc (.cells #[.int .i64 ((N : Int) - (p : Nat)), .iface t0 y0, .iface tq yq, .int .i64 (k : Nat)] 171))) := (Below.refl _ _).alloc (Nat.le_refl _) _
  have k1 : ∀ w', Below (w.alloc (.cells #[.int .i64 ((N : Int) - (p : Nat)), .iface t0 y0, .iface tq yq, .int .i64 (k : Nat)] 171)).heap.size (w.alloc (.cells #[.int .i64 ((N : Int) - (p : Nat)), .iface t0 y0, .iface tq yq, .int .i64 (k : Nat)] 171)) w' → w'.cell? ⟨w.heap.size, 2, none⟩ = some (.iface tq yq) := fun w' hb => (hb.cell (by simp)).trans (by simp)
  have k2 : ∀ w', Below (w.alloc (.cells #[.int .i64 ((N : Int) - (p : Nat)), .iface t0 y0, .iface tq yq, .int .i64 (k : Nat)] 171)).heap.size (w.alloc (.cells #[.int .i64 ((N : Int) - (p : Nat)), .iface t0 y0, .iface tq yq, .int .i64 (k : Nat)] 171)) w' → w'.cell? ⟨w.heap.size, 3, none⟩ = some (.int .i64 (k : Nat)) := fun w' hb => (hb.cell (by simp)).trans (by simp)
  clear hC hu hu' ih hF h2 hk
  show Calls Tryz.prog 48 #[.pointer (some ⟨c, 0, none⟩), ev N (Mip.eHold p q0 q k)] w _
  rw [e0]
  clear e0 eq eq0
  go_enter Tryz.func48, Tryz.ntmps48
  go_wp2_with fail
  generalize hW : w.alloc (.cells #[.int .i64 ((N : Int) - (p : Nat)), .iface t0 y0, .iface tq yq, .int .i64 (k : Nat)] 171) = W at HB k1 k2 ⊢
  clear hW ta tb tc
  go_region_held3 (fun w' => Below W.heap.size W w') (first | assumption | exact (Below.refl _ _).drew | exact Below.alloc (by assumption) (Below.size (by assumption)) _) (first
    | (go_at_call 48; (with_reducible refine (IH.out _ ?_).mono ?_); exact (HC.out.below HB.out).below (by assumption); rintro e w3 ⟨hbw3, rfl⟩; have hBw3 : Below W.heap.size W w3 := below_step (by assumption) hbw3)
    | (go_at_call 70; (with_reducible refine (faster_fast _ k HLE.out HK.out.1 HK.out.2 _).mono ?_); rintro e w4 ⟨hbw4, rfl⟩; have hBw4 : Below W.heap.size W w4 := below_step (by assumption) hbw4))
  all_goals go_wp2
  all_goals go_ret
  all_goals exact ⟨below_step HB.out (by assumption), by rw [HP.out]; rfl⟩

theorem wf_8 {k : Nat} {x : Mil.Bytes} {a b : Mil.E} (h : Mil.wf (.node 8 k x a b) false) : 2 ≤ k ∧ k ≤ 1000 := by
  rcases h with ⟨h, _⟩ | ⟨h, _⟩ | ⟨h, _⟩ | ⟨h, _⟩ | ⟨h, _⟩ | ⟨h, _⟩ | ⟨h, _⟩ | ⟨_, _, h1, h2, _⟩ | ⟨h, _⟩ | ⟨h, _⟩
  all_goals first | exact ⟨h1, h2⟩ | (exact absurd h (by decide))
theorem wf_9 {k : Nat} {x : Mil.Bytes} {a b : Mil.E} (h : Mil.wf (.node 9 k x a b) false) : 2 ≤ k ∧ k ≤ 1000 := by
  rcases h with ⟨h, _⟩ | ⟨h, _⟩ | ⟨h, _⟩ | ⟨h, _⟩ | ⟨h, _⟩ | ⟨h, _⟩ | ⟨h, _⟩ | ⟨h, _⟩ | ⟨_, _, h1, h2, _⟩ | ⟨h, _⟩
  all_goals first | exact ⟨h1, h2⟩ | (exact absurd h (by decide))
theorem periodOf_any (N : Nat) (a : Nat → Addr) (c b n : Nat) (m : Mil.Bytes → Option Int) (g : Nat) (F : List Flo) (hfit : Fit m F) (hF : ∀ f ∈ F, f.per ≤ 1000000) : ∀ e, Mil.wf (Mip.er e) false → PC N a c b n m g F e := by
  refine Mip.tree_ind (fun p x hx _ => period_name N a c b n m g F hfit p x hx) (fun e hw hn hk => ?_)
  by_cases h8 : ∃ p q k, e = Mip.eUnder p q k
  · obtain ⟨p, q, k, rfl⟩ := h8
    obtain ⟨h2, h1000⟩ := wf_8 (show Mil.wf (.node 8 k [] (Mip.er q) (Mip.er .nil)) false from hw)
    obtain ⟨h3, h4⟩ := hk q (List.mem_singleton.2 rfl)
    exact period_under N a c b n m g F hF p q k h2 h1000 h3 h4
  by_cases h9 : ∃ p q0 q k, e = Mip.eHold p q0 q k
  · obtain ⟨p, q0, q, k, rfl⟩ := h9
    obtain ⟨h2, h1000⟩ := wf_9 (show Mil.wf (.node 9 k [] (Mip.er q0) (Mip.er q)) false from hw)
    obtain ⟨h3, _⟩ := hk q0 (List.mem_cons_self ..)
    obtain ⟨h5, h6⟩ := hk q (List.mem_cons_of_mem _ (List.mem_singleton.2 rfl))
    exact period_hold N a c b n m g F hF p q0 q k h2 h1000 h3 h5 h6
  exact period_plain N a c b n m g F e hw ⟨hn, fun p q k e => h8 ⟨p, q, k, e⟩, fun p q0 q k e => h9 ⟨p, q0, q, k, e⟩⟩ (fun q hq => (hk q hq).2)

end Go.Proofs.YtibbjohkiigffaaGreatDoor
namespace Go.Proofs.YtibbjohkiigffaaGreatDoor
open Go.RowKit

set_option maxRecDepth 100000 in
set_option maxHeartbeats 8000000 in
theorem commonDivisor_any (a b : Nat) (ha2 : a ≤ 1000000000000) (hb : b ≤ 1000000000000) (w : World) :
    Calls Tryz.prog 49 #[.int .i64 (a : Nat), .int .i64 (b : Nat)] w (Pp (Nat.gcd a b) w) := by
  have HE : Hid (∃ G, G = Nat.gcd a b) := ⟨_, rfl⟩
  obtain ⟨G, hG⟩ := HE.out
  rw [← hG]
  have HG : Hid (G = Nat.gcd a b) := hG
  clear hG HE
  go_enter Tryz.func49, Tryz.ntmps49
  go_wp2_with fail
  go_loopg [0, 1] b (fun gk s0 s1 wr => ∃ (x y : Nat), s0 = .int .i64 (x : Nat) ∧ s1 = .int .i64 (y : Nat) ∧ gk = y ∧ x ≤ 1000000000000 ∧ y ≤ 1000000000000 ∧ Hid (Nat.gcd x y = Nat.gcd a b) ∧ Hid (Below w.heap.size w wr))
  case atStart => exact ⟨a, b, rfl, rfl, rfl, ha2, hb, rfl, Below.refl _ _⟩
  case round =>
    clear ha2 hb
    obtain ⟨x, y, rfl, rfl, rfl, hx2, hy, HQ, HB⟩ := hrel
    by_cases h0 : gk = 0
    · have q0 : ((gk : Int) != 0) = false := by rw [bne_eq_false_iff_eq]; omega
      have HX : Hid (x = G) := by
        have h := HQ.out
        rw [h0, Nat.gcd_zero_right] at h
        exact h.trans HG.out.symm
      clear h0 hx2 hy
      go_wp2_with fail
      all_goals go_ret
      exact ⟨HB.out, by rw [← HX.out]; rfl⟩
    · have q0 : ((gk : Int) != 0) = true := by rw [bne_iff_ne]; omega
      have q1 : ((gk : Int) == 0) = false := by rw [beq_eq_false_iff_ne]; omega
      have q2 : ((gk : Int) == -1) = false := by rw [beq_eq_false_iff_ne]; omega
      have q3 : ¬ gk = 0 := h0
      have hlt : x % gk < gk := Nat.mod_lt _ (by omega)
      have wr2 : IntKind.i64.wrap ((x : Int).tmod (gk : Int)) = (x : Int) % (gk : Int) := by
        have e : (x : Int).tmod (gk : Int) = ((x % gk : Nat) : Int) := by rw [Int.tmod_eq_emod_of_nonneg (by omega)]; rfl
        have e2 : (x : Int) % (gk : Int) = ((x % gk : Nat) : Int) := rfl
        rw [e, e2]
        generalize x % gk = q at hlt ⊢
        simp only [IntKind.wrap_i64]; omega
      have wr3 : IntKind.i64.wrap ((x : Int) % (gk : Int)) = (x : Int) % (gk : Int) := by
        have e2 : (x : Int) % (gk : Int) = ((x % gk : Nat) : Int) := rfl
        rw [e2]
        generalize x % gk = q at hlt ⊢
        simp only [IntKind.wrap_i64]; omega
      have HX : Hid (gk ≤ 1000000000000 ∧ x % gk ≤ 1000000000000 ∧ x % gk < gk) := ⟨hy, by omega, hlt⟩
      have HQ2 : Hid (Nat.gcd gk (x % gk) = Nat.gcd a b) := by
        show _ = _
        rw [← HQ.out, Nat.gcd_comm x gk, Nat.gcd_rec gk x]
        exact Nat.gcd_comm _ _
      clear h0 hx2 hy hlt
      go_wp2_with fail
      go_region
      go_wp2
      go_roundg (x % gk)
      case measure => exact HX.out.2.2
      case rel => exact ⟨gk, x % gk, rfl, rfl, rfl, HX.out.1, HX.out.2.1, HQ2, HB.out.drew⟩

end Go.Proofs.YtibbjohkiigffaaGreatDoor
namespace Go.Proofs.YtibbjohkiigffaaGreatDoor
open Go.RowKit

/-- One common multiple more. -/
def mult (c p : Nat) : Nat := c / Nat.gcd c p * p
/-- Is a common multiple too great? -/
def tooGreat : Nat → List Flo → Bool
  | _, [] => false
  | c, f :: r => if 1000000 < mult c f.per then true else tooGreat (mult c f.per) r
theorem tooGreat_drop {c : Nat} {F : List Flo} {j : Nat} {f : Flo} (h : F[j]? = some f) : tooGreat c (F.drop j) = if 1000000 < mult c f.per then true else tooGreat (mult c f.per) (F.drop (j + 1)) := by
  obtain ⟨hj, rfl⟩ := List.getElem?_eq_some_iff.1 h
  rw [List.drop_eq_getElem_cons hj]; rfl
theorem mult_pos {c p : Nat} (hc : 0 < c) (hp : 0 < p) : 0 < mult c p := by
  unfold mult
  exact Nat.mul_pos (Nat.div_pos (Nat.le_of_dvd hc (Nat.gcd_dvd_left c p)) (Nat.gcd_pos_of_pos_left p hc)) hp
theorem mult_le {c p : Nat} (hc : c ≤ 1000000) (hp : p ≤ 1000000) : mult c p ≤ 1000000000000 :=
  Nat.le_trans (Nat.mul_le_mul (Nat.le_trans (Nat.div_le_self _ _) hc) hp) (by decide)
def CkPost (a : Nat → Addr) (at_ : Int) (k : Nat) (bad : Bool) (w : World) (E : Ending) (w' : World) : Prop :=
  Below w.heap.size w w' ∧ ((bad = false ∧ E = .returned (.pointer none)) ∨ ∃ d, bad = true ∧ E = .returned (.pointer (some ⟨d, 0, none⟩)) ∧ Dg a w' d at_ k)

set_option maxRecDepth 100000 in
set_option maxHeartbeats 8000000 in
theorem checkCommon_any {a : Nat → Addr} {c b n : Nat} {m : Mil.Bytes → Option Int} {g : Nat} {F : List Flo} {w : World} (h : Cw a c b n m g F w) (hF : F.length ≤ 1000) (hP : ∀ f ∈ F, 0 < f.per ∧ f.per ≤ 1000000) :
    Calls Tryz.prog 27 #[.pointer (some ⟨c, 0, none⟩)] w (CkPost a 0 8 (tooGreat 1 F) w) := by
  have HC : Hid (Cw a c b n m g F w) := h
  have HP : Hid (∀ f ∈ F, 0 < f.per ∧ f.per ≤ 1000000) := hP
  obtain ⟨cap, hc1⟩ := h.c1
  clear h hP
  go_enter Tryz.func27, Tryz.ntmps27
  go_wp2_with fail
  go_loopg [3, 11] F.length (fun gk s3 s11 wr => ∃ (j q : Nat), j ≤ F.length ∧ s3 = .int .i64 (q : Nat) ∧ s11 = .int .i64 (j : Nat) ∧ gk = F.length - j ∧ Hid (0 < q ∧ q ≤ 1000000) ∧ Hid (tooGreat 1 F = tooGreat q (F.drop j)) ∧ Hid (Below w.heap.size w wr))
  case atStart => exact ⟨0, 1, Nat.zero_le _, rfl, rfl, rfl, ⟨by decide, by decide⟩, rfl, Below.refl _ _⟩
  case round =>
    obtain ⟨j, q, hj, rfl, rfl, hg, HQ, HR, HB⟩ := hrel
    have HG : Hid (gk = F.length - j) := hg
    clear hg
    by_cases hlt : j < F.length
    · obtain ⟨f, hf⟩ : ∃ f, F[j]? = some f := ⟨_, List.getElem?_eq_getElem hlt⟩
      obtain ⟨q0, q1, q2, q3, q4⟩ := (HC.out.below HB.out).fl j f hf
      have HD : Hid (tooGreat 1 F = if 1000000 < mult q f.per then true else tooGreat (mult q f.per) (F.drop (j + 1))) := HR.out.trans (tooGreat_drop hf)
      have HPF : Hid (0 < f.per ∧ f.per ≤ 1000000) := HP.out f (List.mem_of_getElem? hf)
      clear hf
      go_wp2_with fail
      have HB1 : Hid (Below w.heap.size w (wr.alloc (.cells #[.string (bs f.nm), .int .i64 (f.ty : Nat), .int .i64 (f.per : Nat), .bool f.inp, .bool f.out] 42))) := below_step HB.out ((Below.refl _ _).alloc (Nat.le_refl _) _)
      have k2 : ∀ w', Below (wr.alloc (.cells #[.string (bs f.nm), .int .i64 (f.ty : Nat), .int .i64 (f.per : Nat), .bool f.inp, .bool f.out] 42)).heap.size (wr.alloc (.cells #[.string (bs f.nm), .int .i64 (f.ty : Nat), .int .i64 (f.per : Nat), .bool f.inp, .bool f.out] 42)) w' → w'.cell? ⟨wr.heap.size, 2, none⟩ = some (.int .i64 (f.per : Nat)) := fun w' hb => (hb.cell (by simp)).trans (by simp)
      generalize hW : wr.alloc (.cells #[.string (bs f.nm), .int .i64 (f.ty : Nat), .int .i64 (f.per : Nat), .bool f.inp, .bool f.out] 42) = W at HB1 k2 ⊢
      clear hW q0 q1 q2 q3 q4
      have HGP : Hid (0 < Nat.gcd q f.per ∧ Nat.gcd q f.per ≤ 1000000) := ⟨Nat.gcd_pos_of_pos_left _ HQ.out.1, Nat.le_trans (Nat.le_of_dvd HQ.out.1 (Nat.gcd_dvd_left _ _)) HQ.out.2⟩
      have HMU : Hid (mult q f.per = q / Nat.gcd q f.per * f.per ∧ mult q f.per ≤ 1000000000000 ∧ 0 < mult q f.per ∧ q / Nat.gcd q f.per ≤ 1000000) := ⟨rfl, mult_le HQ.out.2 HPF.out.2, mult_pos HQ.out.1 HPF.out.1, Nat.le_trans (Nat.div_le_self _ _) HQ.out.2⟩
      have HCD : Hid (∀ w, Calls Tryz.prog 49 #[.int .i64 (q : Nat), .int .i64 (f.per : Nat)] w (Pp (Nat.gcd q f.per) w)) := fun w => commonDivisor_any q f.per (by have := HQ.out.2; omega) (by have := HPF.out.2; omega) w
      generalize hd : Nat.gcd q f.per = d at HGP HMU HCD
      clear hd
      have d0 : ((d : Int) == 0) = false := by have := HGP.out.1; simp; omega
      have dn : ¬ (d : Int) = 0 := by have := HGP.out.1; omega
      have dm : ((d : Int) == -1) = false := by rw [beq_eq_false_iff_ne]; omega
      have dz : ¬ d = 0 := by have := HGP.out.1; omega
      have c2 : ((q / d : Nat) : Int) = (q : Int) / (d : Int) := by simp
      have w2 : IntKind.i64.wrap ((q : Int) / (d : Int)) = (q : Int) / (d : Int) := by
        rw [← c2]
        have b2 := HMU.out.2.2.2
        generalize q / d = z at b2
        simp only [IntKind.wrap_i64]; omega
      have t2 : IntKind.i64.wrap (Int.tdiv (q : Int) (d : Int)) = (q : Int) / (d : Int) := by
        rw [Int.tdiv_eq_ediv_of_nonneg (by omega)]; exact w2
      have w3 : IntKind.i64.wrap ((q : Int) / (d : Int) * (f.per : Int)) = (q : Int) / (d : Int) * (f.per : Int) := by
        have c3 : ((q / d * f.per : Nat) : Int) = (q : Int) / (d : Int) * (f.per : Int) := by simp
        rw [← c3, ← HMU.out.1]
        have b2 := HMU.out.2.1
        generalize mult q f.per = z at b2
        simp only [IntKind.wrap_i64]; omega
      clear c2
      have HCC : Hid ((q : Int) / (d : Int) * (f.per : Int) = ((mult q f.per : Nat) : Int)) := by
        show _ = _
        rw [HMU.out.1]; simp
      go_region_held3 (fun w' => Below W.heap.size W w') (first | assumption | exact (Below.refl _ _).drew | exact Below.alloc (by assumption) (Below.size (by assumption)) _) (first
        | (go_at_call 49; (with_reducible refine (HCD.out _).mono ?_); rintro e w4 ⟨hbw4, rfl⟩; have hBw4 : Below W.heap.size W w4 := below_step (by assumption) hbw4))
      have HW4 : Hid (Below w.heap.size w w4) := below_step HB1.out (by assumption)
      have HCW : Hid (Cw a c b n m g F w4) := HC.out.below HW4.out
      rw [HCC.out]
      have HMV : Hid (mult q f.per ≤ 1000000000000 ∧ 0 < mult q f.per) := ⟨HMU.out.2.1, HMU.out.2.2.1⟩
      clear HCC w2 t2 w3 d0 dn dm dz HCD HMU HGP k2 hbw4
      clear hBw4
      generalize mult q f.per = v at HD HMV ⊢
      by_cases hv : 1000000 < v
      · have i1 : (1000000 : Int) < (v : Int) := by omega
        have e8 := HCW.out.nm.ce.e8
        have HV : Hid (1000000 < v) := hv
        clear hv
        go_wp2
        go_ret
        refine ⟨below_step HW4.out ((Below.refl _ _).alloc (Nat.le_refl _) _), Or.inr ⟨_, by rw [HD.out, if_pos HV.out], rfl, dg_new a _ _ rfl _ _⟩⟩
      · have i1 : (v : Int) ≤ 1000000 := by omega
        have i2 : ((1000000 : Int) < (v : Int)) = False := by rw [eq_iff_iff, iff_false]; omega
        have HV : Hid (v ≤ 1000000) := by show _ ≤ _; omega
        clear hv
        go_wp2
        go_roundg (F.length - (j + 1))
        case measure => have := HG.out; omega
        case rel => exact ⟨j + 1, v, hlt, rfl, by go_num, rfl, ⟨HMV.out.2, HV.out⟩, by have h := HD.out; rw [if_neg (by have := HV.out; omega)] at h; exact h, HW4⟩
    · have hle : (F.length : Int) ≤ (j : Int) := by omega
      have HJ : Hid (j = F.length) := by show _ = _; omega
      go_wp2
      go_ret
      exact ⟨HB.out, Or.inl ⟨by rw [HR.out, HJ.out, List.drop_length]; rfl, rfl⟩⟩

end Go.Proofs.YtibbjohkiigffaaGreatDoor
namespace Go.Proofs.YtibbjohkiigffaaGreatDoor
open Go.RowKit

theorem pl_int (u0 u1 : Value) (w : World) : (Go.method 391 194 (.agg #[u0, u1]) "ratemill/mill.place").run Tryz.prog w = .ok (167, .agg #[u0]) w := by kernel_rfl
theorem pl_bool (u0 u1 : Value) (w : World) : (Go.method 391 196 (.agg #[u0, u1]) "ratemill/mill.place").run Tryz.prog w = .ok (167, .agg #[u0]) w := by kernel_rfl
theorem pl_name (u0 u1 : Value) (w : World) : (Go.method 391 85 (.agg #[u0, u1]) "ratemill/mill.place").run Tryz.prog w = .ok (167, .agg #[u0]) w := by kernel_rfl
theorem pl_pre (u0 u1 u2 : Value) (w : World) : (Go.method 391 186 (.agg #[u0, u1, u2]) "ratemill/mill.place").run Tryz.prog w = .ok (167, .agg #[u0]) w := by kernel_rfl
theorem pl_two (u0 u1 u2 u3 : Value) (w : World) : (Go.method 391 188 (.agg #[u0, u1, u2, u3]) "ratemill/mill.place").run Tryz.prog w = .ok (167, .agg #[u0]) w := by kernel_rfl
theorem pl_if (u0 u1 u2 u3 : Value) (w : World) : (Go.method 391 190 (.agg #[u0, u1, u2, u3]) "ratemill/mill.place").run Tryz.prog w = .ok (167, .agg #[u0]) w := by kernel_rfl
theorem pl_fby (u0 u1 u2 : Value) (w : World) : (Go.method 391 173 (.agg #[u0, u1, u2]) "ratemill/mill.place").run Tryz.prog w = .ok (167, .agg #[u0]) w := by kernel_rfl
theorem pl_under (u0 u1 u2 : Value) (w : World) : (Go.method 391 168 (.agg #[u0, u1, u2]) "ratemill/mill.place").run Tryz.prog w = .ok (167, .agg #[u0]) w := by kernel_rfl
theorem pl_hold (u0 u1 u2 u3 : Value) (w : World) : (Go.method 391 171 (.agg #[u0, u1, u2, u3]) "ratemill/mill.place").run Tryz.prog w = .ok (167, .agg #[u0]) w := by kernel_rfl
theorem pl_least (u0 u1 u2 u3 : Value) (w : World) : (Go.method 391 192 (.agg #[u0, u1, u2, u3]) "ratemill/mill.place").run Tryz.prog w = .ok (167, .agg #[u0]) w := by kernel_rfl

set_option maxHeartbeats 1000000 in
theorem place_any (u : Int) (w : World) : Calls Tryz.prog 167 #[.agg #[.int .i64 u]] w fun E w' => Below w.heap.size w w' ∧ E = .returned (.int .i64 u) := by
  go_enter Tryz.func167, Tryz.ntmps167
  go_wp2
  go_ret
  exact ⟨(Below.refl _ _).alloc (Nat.le_refl _) _, rfl⟩
namespace Mip
/-- How many bytes are left from an expression's own token on. -/
def pl : E → Nat
  | .nil => 0
  | .node _ _ x _ _ => x.2
end Mip
/-- How an expression's place is asked. -/
theorem place_of (N : Nat) : ∀ e : Mip.E, Mil.wf (Mip.er e) false → ∃ T y, ev N e = .iface T y ∧ ∀ w, (Go.method 391 T y "ratemill/mill.place").run Tryz.prog w = .ok (167, .agg #[.int .i64 ((N : Int) - (Mip.pl e : Nat))]) w := by
  refine Mip.tree_induct ?_ ?_ ?_ ?_ ?_ ?_ ?_ ?_ ?_ ?_
  · intro p k _; exact ⟨_, _, rfl, pl_int _ _⟩
  · intro p k _; exact ⟨_, _, rfl, pl_bool _ _⟩
  · intro p x _; exact ⟨_, _, rfl, pl_name _ _⟩
  · intro p x a _ _; exact ⟨_, _, rfl, pl_pre _ _ _⟩
  · intro p x a b _ _ _; exact ⟨_, _, rfl, pl_two _ _ _ _⟩
  · intro p y a b c _ _ _; exact ⟨_, _, rfl, pl_if _ _ _ _⟩
  · intro p a b _ _; exact ⟨_, _, rfl, pl_fby _ _ _⟩
  · intro p a k _ _ _; exact ⟨_, _, rfl, pl_under _ _ _⟩
  · intro p a b k _ _ _ _; exact ⟨_, _, rfl, pl_hold _ _ _ _⟩
  · intro p x a b _ _ _; exact ⟨_, _, rfl, pl_least _ _ _ _⟩

end Go.Proofs.YtibbjohkiigffaaGreatDoor
namespace Go.Proofs.YtibbjohkiigffaaGreatDoor
open Go.RowKit

theorem hidden {p : Prop} (h : p) : Hid p := h
namespace Mip
/-- The first period among operands, and whether they differ. -/
def fd (m : Mil.Bytes → Option Int) (F : List Flo) : Nat → Bool → List E → Nat × Bool
  | f, d, [] => (f, d)
  | f, d, q :: r => fd m F (if f = 0 then perOf m F q else f) (d || (perOf m F q != 0 && perOf m F q != (if f = 0 then perOf m F q else f))) r
def clash (m : Mil.Bytes → Option Int) (F : List Flo) (l : List E) (pe : Nat) : Bool := (fd m F 0 false l).2 || ((fd m F 0 false l).1 != 0 && pe == 0)
/-- Where the first fault of periods is told. -/
def pfault (m : Mil.Bytes → Option Int) (F : List Flo) : E → Option Nat
  | .nil => none
  | .node t k x a b => if t = 0 then (pfault m F a).or (pfault m F b)
    else ((pfault m F a).or (pfault m F b)).or (if clash m F (kids (.node t k x a b)) (perOf m F (.node t k x a b)) then some x.2 else none)
def faultOf (m : Mil.Bytes → Option Int) (F : List Flo) : List E → Option Nat
  | [] => none
  | q :: r => (pfault m F q).or (faultOf m F r)
theorem pf_kids (m : Mil.Bytes → Option Int) (F : List Flo) : ∀ e : E, Mil.wf (er e) false → pfault m F e = (faultOf m F (kids e)).or (if clash m F (kids e) (perOf m F e) then some (pl e) else none) := by
  refine tree_induct ?_ ?_ ?_ ?_ ?_ ?_ ?_ ?_ ?_ ?_
  · intro p k _; rfl
  · intro p k _; rfl
  · intro p x _; rfl
  · intro p x a _ _; show ((pfault m F a).or none).or _ = ((pfault m F a).or none).or _; rfl
  · intro p x a b _ _ _; show ((pfault m F a).or (pfault m F b)).or _ = ((pfault m F a).or ((pfault m F b).or none)).or _; rw [Option.or_none]; rfl
  · intro p y a b c _ _ _; show ((pfault m F a).or ((pfault m F b).or (pfault m F c))).or _ = ((pfault m F a).or ((pfault m F b).or ((pfault m F c).or none))).or _; rw [Option.or_none]; rfl
  · intro p a b _ _; show ((pfault m F a).or (pfault m F b)).or _ = ((pfault m F a).or ((pfault m F b).or none)).or _; rw [Option.or_none]; rfl
  · intro p a k _ _ _; show ((pfault m F a).or none).or _ = ((pfault m F a).or none).or _; rfl
  · intro p a b k _ _ _ _; show ((pfault m F a).or (pfault m F b)).or _ = ((pfault m F a).or ((pfault m F b).or none)).or _; rw [Option.or_none]; rfl
  · intro p x a b _ _ _; show ((pfault m F a).or (pfault m F b)).or _ = ((pfault m F a).or ((pfault m F b).or none)).or _; rw [Option.or_none]; rfl
theorem fault_none (m : Mil.Bytes → Option Int) (F : List Flo) : ∀ l : List E, (∀ (i : Nat) (q : E), l[i]? = some q → pfault m F q = none) → faultOf m F l = none
  | [], _ => rfl
  | q :: r, h => by
    rw [faultOf, h 0 q rfl, fault_none m F r (fun i q' hq => h (i + 1) q' hq)]; rfl
theorem fault_some (m : Mil.Bytes → Option Int) (F : List Flo) : ∀ (l : List E) (j : Nat) (q : E) (p : Nat), (∀ (i : Nat) (q' : E), i < j → l[i]? = some q' → pfault m F q' = none) → l[j]? = some q → pfault m F q = some p → faultOf m F l = some p
  | [], _, _, _, _, h, _ => by simp at h
  | q0 :: r, 0, q, p, _, h, k => by
    have e : q0 = q := by simpa using h
    rw [faultOf, e, k]; rfl
  | q0 :: r, j + 1, q, p, h0, h, k => by
    rw [faultOf, h0 0 q0 (Nat.succ_pos _) rfl, fault_some m F r j q p (fun i q' hi hq => h0 (i + 1) q' (Nat.succ_lt_succ hi) hq) (by simpa using h) k]; rfl
theorem fd_drop (m : Mil.Bytes → Option Int) (F : List Flo) {f : Nat} {d : Bool} {l : List E} {j : Nat} {q : E} (h : l[j]? = some q) : fd m F f d (l.drop j) = fd m F (if f = 0 then perOf m F q else f) (d || (perOf m F q != 0 && perOf m F q != (if f = 0 then perOf m F q else f))) (l.drop (j + 1)) := by
  obtain ⟨hj, rfl⟩ := List.getElem?_eq_some_iff.1 h
  rw [List.drop_eq_getElem_cons hj]; rfl
end Mip

def Rk (N : Nat) (a : Nat → Addr) (k : Nat) (o : Option Nat) (w : World) (E : Ending) (w' : World) : Prop :=
  Below w.heap.size w w' ∧ ((o = none ∧ E = .returned (.pointer none)) ∨ ∃ p d, o = some p ∧ E = .returned (.pointer (some ⟨d, 0, none⟩)) ∧ Dg a w' d ((N : Int) - (p : Nat)) k)
def FC (N : Nat) (a : Nat → Addr) (c b n : Nat) (m : Mil.Bytes → Option Int) (g : Nat) (F : List Flo) (e : Mip.E) : Prop :=
  Mip.unres m e = none → ∀ w, Cw a c b n m g F w → Calls Tryz.prog 47 #[.pointer (some ⟨c, 0, none⟩), ev N e] w (Rk N a 8 (Mip.pfault m F e) w)

set_option maxRecDepth 100000 in
set_option maxHeartbeats 16000000 in
theorem fault_node (N : Nat) (a : Nat → Addr) (c b n : Nat) (m : Mil.Bytes → Option Int) (g : Nat) (F : List Flo) (hfit : Fit m F) (hF : ∀ f ∈ F, f.per ≤ 1000000) (e : Mip.E) (hw : Mil.wf (Mip.er e) false) (hku : Mip.unres m e = none → ∀ q ∈ Mip.kids e, Mip.unres m q = none) (ih : ∀ q ∈ Mip.kids e, Mil.wf (Mip.er q) false ∧ FC N a c b n m g F q) : FC N a c b n m g F e := by
  intro hu w hC
  have HC : Hid (Cw a c b n m g F w) := hC
  have HP : Hid (Mip.pfault m F e = (Mip.faultOf m F (Mip.kids e)).or (if Mip.clash m F (Mip.kids e) (Mip.perOf m F e) then some (Mip.pl e) else none)) := Mip.pf_kids m F e hw
  have IH : Hid (∀ q ∈ Mip.kids e, ∀ w, Cw a c b n m g F w → Calls Tryz.prog 47 #[.pointer (some ⟨c, 0, none⟩), ev N q] w (Rk N a 8 (Mip.pfault m F q) w)) := fun q hq => (ih q hq).2 (hku hu q hq)
  have IP : Hid (∀ q ∈ Mip.kids e, ∀ w, Cw a c b n m g F w → Calls Tryz.prog 48 #[.pointer (some ⟨c, 0, none⟩), ev N q] w (Pp (Mip.perOf m F q) w)) := fun q hq => periodOf_any N a c b n m g F hfit hF q (ih q hq).1 (hku hu q hq)
  have IE : Hid (∀ w, Cw a c b n m g F w → Calls Tryz.prog 48 #[.pointer (some ⟨c, 0, none⟩), ev N e] w (Pp (Mip.perOf m F e) w)) := periodOf_any N a c b n m g F hfit hF e hw hu
  obtain ⟨T, y, he, hpl⟩ := place_of N e hw
  have HO := operands_any N e hw
  rw [he] at HO IE
  have HO' : Hid (∀ w, Calls Tryz.prog 66 #[.iface T y] w (OpPost N e w)) := HO
  clear hC ih HO hw hu hku hfit hF
  show Calls Tryz.prog 47 #[.pointer (some ⟨c, 0, none⟩), ev N e] w _
  rw [he]
  clear he
  go_enter Tryz.func47, Tryz.ntmps47
  go_wp2_with fail
  refine (HO'.out _).mono ?_
  rintro E w1 ⟨hb1, v, rfl, hK⟩
  have HB1 : Hid (Below w.heap.size w w1) := hb1
  have hl3 := Mip.kids_le e
  generalize hl : Mip.kids e = l at hK IH IP HP hl3
  clear hl
  obtain ⟨gg, cc, rfl, HCL⟩ : ∃ (gg : Option Addr) (cc : Nat), v = .slice gg l.length cc ∧ Hid (∀ (j : Nat) (q : Mip.E), l[j]? = some q → ∃ k, gg = some ⟨k, 0, none⟩ ∧ w1.cell? ⟨k, j, none⟩ = some (ev N q)) := by
    rcases hK with ⟨rfl, rfl⟩ | ⟨k, rfl, hcells⟩
    · exact ⟨none, 0, rfl, fun j q hq => by simp at hq⟩
    · exact ⟨some ⟨k, 0, none⟩, l.length, rfl, fun j q hq => ⟨k, rfl, hcells j q hq⟩⟩
  have HL : Hid (l.length ≤ 3) := hl3
  clear hb1 hl3 hK
  go_wp2_with fail
  go_loopg [5, 6, 14] l.length (fun gk s5 s6 s14 wr => ∃ (j f : Nat) (d : Bool), j ≤ l.length ∧ s5 = .int .i64 (f : Nat) ∧ s6 = .bool d ∧ s14 = .int .i64 (j : Nat) ∧ gk = l.length - j ∧ Hid (Mip.fd m F 0 false l = Mip.fd m F f d (l.drop j)) ∧ Hid (∀ (i : Nat) (q : Mip.E), i < j → l[i]? = some q → Mip.pfault m F q = none) ∧ Hid (Below w.heap.size w wr) ∧ Hid (Below w1.heap.size w1 wr))
  case atStart => exact ⟨0, 0, false, Nat.zero_le _, rfl, rfl, rfl, rfl, rfl, fun i q hi => by omega, HB1, Below.refl _ _⟩
  case round =>
    obtain ⟨j, f, d, hj, rfl, rfl, rfl, hg, HR, HPR, HW, HW1⟩ := hrel
    have HG : Hid (gk = l.length - j) := hg
    clear hg
    by_cases hlt : j < l.length
    · obtain ⟨q, hq⟩ : ∃ q, l[j]? = some q := ⟨_, List.getElem?_eq_getElem hlt⟩
      obtain ⟨kk, rfl, hck⟩ := HCL.out j q hq
      have hcq := (HW1.out.cell (lt_of_cell hck)).trans hck
      have HQ : Hid (l[j]? = some q) := hq
      have hmem : q ∈ l := List.mem_of_getElem? hq
      have HR2 : Hid (Mip.fd m F 0 false l = _) := HR.out.trans (Mip.fd_drop m F hq)
      have hbig := HL.out
      clear hq hck
      go_wp2_with fail
      refine (IH.out q hmem _ (HC.out.below HW.out)).mono ?_
      rintro E w2 ⟨hb2, hr⟩
      have HW2 : Hid (Below w.heap.size w w2) := below_step HW.out hb2
      have HV2 : Hid (Below w1.heap.size w1 w2) := below_step HW1.out hb2
      rcases hr with ⟨hu, rfl⟩ | ⟨p, dd, hu, rfl, hd⟩
      · have HU2 : Hid (Mip.pfault m F q = none) := hu
        have HPR2 : Hid (∀ (i : Nat) (q : Mip.E), i < j + 1 → l[i]? = some q → Mip.pfault m F q = none) := fun i q' hi hq' => by
          rcases Nat.lt_or_ge i j with h | h
          · exact HPR.out i q' h hq'
          · have e : i = j := by omega
            rw [e, HQ.out] at hq'
            rw [← Option.some.inj hq']
            exact HU2.out
        clear hb2 hu hcq
        go_wp2_with fail
        refine (IP.out q hmem _ (HC.out.below HW2.out)).mono ?_
        rintro E w3 ⟨hb3, rfl⟩
        have HW3 : Hid (Below w.heap.size w w3) := below_step HW2.out hb3
        have HV3 : Hid (Below w1.heap.size w1 w3) := below_step HV2.out hb3
        generalize Mip.perOf m F q = pq at HR2
        clear hb3
        have step : ∀ (f' : Nat) (d' : Bool), Hid (f' = (if f = 0 then pq else f) ∧ d' = (d || (pq != 0 && pq != (if f = 0 then pq else f)))) → ∃ (j' f0 : Nat) (d0 : Bool), j' ≤ l.length ∧ Value.int .i64 (f' : Nat) = .int .i64 (f0 : Nat) ∧ Value.bool d' = .bool d0 ∧ Value.int .i64 ((j : Int) + 1) = .int .i64 (j' : Nat) ∧ l.length - (j + 1) = l.length - j' ∧ Hid (Mip.fd m F 0 false l = Mip.fd m F f0 d0 (l.drop j')) ∧ Hid (∀ (i : Nat) (q : Mip.E), i < j' → l[i]? = some q → Mip.pfault m F q = none) ∧ Hid (Below w.heap.size w w3) ∧ Hid (Below w1.heap.size w1 w3) := fun f' d' h => by
          obtain ⟨rfl, rfl⟩ := h.out
          exact ⟨j + 1, _, _, hlt, rfl, rfl, by simp, rfl, HR2, HPR2, HW3, HV3⟩
        have STEP := hidden step
        clear step
        by_cases f0 : f = 0
        · subst f0
          by_cases p0 : pq = 0
          · subst p0
            cases d
            · go_wp2
              go_roundg (l.length - (j + 1))
              case measure => have := HG.out; omega
              case rel => exact STEP.out _ _ ⟨by simp , by simp ⟩
            · go_wp2
              go_roundg (l.length - (j + 1))
              case measure => have := HG.out; omega
              case rel => exact STEP.out _ _ ⟨by simp , by simp ⟩
          · have p1 : ((pq : Int) == 0) = false := by simpa using p0
            have p2 : (pq : Int) ≠ 0 := by omega
            cases d
            · go_wp2
              go_roundg (l.length - (j + 1))
              case measure => have := HG.out; omega
              case rel => exact STEP.out _ _ ⟨by simp , by simp ⟩
            · go_wp2
              go_roundg (l.length - (j + 1))
              case measure => have := HG.out; omega
              case rel => exact STEP.out _ _ ⟨by simp , by simp ⟩
        · have f1 : ((f : Int) == 0) = false := by simpa using f0
          have f2 : (f : Int) ≠ 0 := by omega
          by_cases p0 : pq = 0
          · subst p0
            cases d
            · go_wp2
              go_roundg (l.length - (j + 1))
              case measure => have := HG.out; omega
              case rel => exact STEP.out _ _ ⟨by first | rfl | (simp; done) | (simp [f0]; done) | (simp [f0, pf]; done) | (simp [f0, p0, pf]; done), by first | rfl | (simp; done) | (simp [f0]; done) | (simp [f0, pf]; done) | (simp [f0, p0, pf]; done)⟩
            · go_wp2
              go_roundg (l.length - (j + 1))
              case measure => have := HG.out; omega
              case rel => exact STEP.out _ _ ⟨by first | rfl | (simp; done) | (simp [f0]; done) | (simp [f0, pf]; done) | (simp [f0, p0, pf]; done), by first | rfl | (simp; done) | (simp [f0]; done) | (simp [f0, pf]; done) | (simp [f0, p0, pf]; done)⟩
          · have p1 : ((pq : Int) == 0) = false := by simpa using p0
            have p2 : (pq : Int) ≠ 0 := by omega
            by_cases pf : pq = f
            · subst pf
              cases d
              · go_wp2
                go_roundg (l.length - (j + 1))
                case measure => have := HG.out; omega
                case rel => exact STEP.out _ _ ⟨by first | rfl | (simp; done) | (simp [f0]; done) | (simp [f0, pf]; done) | (simp [f0, p0, pf]; done), by first | rfl | (simp; done) | (simp [f0]; done) | (simp [f0, pf]; done) | (simp [f0, p0, pf]; done)⟩
              · go_wp2
                go_roundg (l.length - (j + 1))
                case measure => have := HG.out; omega
                case rel => exact STEP.out _ _ ⟨by first | rfl | (simp; done) | (simp [f0]; done) | (simp [f0, pf]; done) | (simp [f0, p0, pf]; done), by first | rfl | (simp; done) | (simp [f0]; done) | (simp [f0, pf]; done) | (simp [f0, p0, pf]; done)⟩
            · have p3 : ((pq : Int) == (f : Int)) = false := by simp; omega
              have p4 : (pq : Int) ≠ (f : Int) := by omega
              have p5 : ((pq : Int) != 0) = true := by rw [bne_iff_ne]; omega
              have p6 : ((pq : Int) != (f : Int)) = true := by rw [bne_iff_ne]; omega
              cases d
              · go_wp2
                go_roundg (l.length - (j + 1))
                case measure => have := HG.out; omega
                case rel => exact STEP.out _ _ ⟨by first | rfl | (simp; done) | (simp [f0]; done) | (simp [f0, pf]; done) | (simp [f0, p0, pf]; done), by first | rfl | (simp; done) | (simp [f0]; done) | (simp [f0, pf]; done) | (simp [f0, p0, pf]; done)⟩
              · go_wp2
                go_roundg (l.length - (j + 1))
                case measure => have := HG.out; omega
                case rel => exact STEP.out _ _ ⟨by first | rfl | (simp; done) | (simp [f0]; done) | (simp [f0, pf]; done) | (simp [f0, p0, pf]; done), by first | rfl | (simp; done) | (simp [f0]; done) | (simp [f0, pf]; done) | (simp [f0, p0, pf]; done)⟩
      · have HU2 : Hid (Mip.pfault m F q = some p) := hu
        have HD : Hid (Dg a w2 dd ((N : Int) - (p : Nat)) 8) := hd
        clear hb2 hu hcq hd
        go_wp2
        go_ret
        refine ⟨HW2.out, Or.inr ⟨p, dd, ?_, rfl, HD.out⟩⟩
        rw [HP.out, Mip.fault_some m F l j q p HPR.out HQ.out HU2.out]; rfl
    · have hle : (l.length : Int) ≤ (j : Int) := by omega
      have HJ : Hid (j = l.length) := by show _ = _; omega
      have HFD : Hid (Mip.fd m F 0 false l = (f, d)) := by have h := HR.out; rw [HJ.out, List.drop_length] at h; exact h
      have HFN : Hid (Mip.pfault m F e = if (d || (f != 0 && Mip.perOf m F e == 0)) then some (Mip.pl e) else none) := by
        show _ = _
        rw [HP.out, Mip.fault_none m F l (fun i q hq => HPR.out i q (by have := (List.getElem?_eq_some_iff.1 hq).1; have := HJ.out; omega) hq)]
        unfold Mip.clash
        rw [HFD.out]; rfl
      have HE8 : Hid (∀ w', Below w.heap.size w w' → w'.cell? ⟨8, 0, none⟩ = some (errV (a 8))) := fun w' h => (HC.out.below h).nm.ce.e8
      clear HR HPR HFD HP hlt
      cases d
      · by_cases f0 : f = 0
        · subst f0
          go_wp2
          go_ret
          exact ⟨HW.out, Or.inl ⟨HFN.out, rfl⟩⟩
        · have f1 : ((f : Int) == 0) = false := by simpa using f0
          have f2 : (f : Int) ≠ 0 := by omega
          have HF0 : Hid (f ≠ 0) := f0
          clear f0
          go_wp2_with fail
          refine (IE.out _ (HC.out.below HW.out)).mono ?_
          rintro E w3 ⟨hb3, rfl⟩
          have HW3 : Hid (Below w.heap.size w w3) := below_step HW.out hb3
          generalize Mip.perOf m F e = pe at HFN
          clear hb3 IE
          by_cases p0 : pe = 0
          · subst p0
            have HFT : Hid (Mip.pfault m F e = some (Mip.pl e)) := by show _ = _; have h := HFN.out; simpa [HF0.out] using h
            have k8 : ∀ w', Below w3.heap.size w3 w' → w'.cell? ⟨8, 0, none⟩ = some (errV (a 8)) := fun w' h => HE8.out w' (below_step HW3.out h)
            clear HFN HE8
            go_wp2_with fail
            go_region_held3 (fun w' => Below w3.heap.size w3 w') (first | assumption | exact (Below.refl _ _).drew | exact Below.alloc (by assumption) (Below.size (by assumption)) _) (first
              | (go_at_call 167; (with_reducible refine (place_any _ _).mono ?_); rintro e w4 ⟨hbw4, rfl⟩; have hBw4 : Below w3.heap.size w3 w4 := below_step (by assumption) hbw4))
            all_goals go_wp2
            all_goals go_ret
            all_goals exact ⟨below_step (below_step HW3.out (by assumption)) ((Below.refl _ _).alloc (Nat.le_refl _) _), Or.inr ⟨Mip.pl e, _, HFT.out, rfl, dg_new a _ _ rfl _ _⟩⟩
          · have p1 : ((pe : Int) == 0) = false := by simpa using p0
            have p2 : (pe : Int) ≠ 0 := by omega
            have HFT : Hid (Mip.pfault m F e = none) := by show _ = _; have h := HFN.out; simpa [p0] using h
            clear HFN HE8 p0
            go_wp2
            go_ret
            exact ⟨HW3.out, Or.inl ⟨HFT.out, rfl⟩⟩
      · have HFT : Hid (Mip.pfault m F e = some (Mip.pl e)) := by show _ = _; have h := HFN.out; simpa using h
        have HW3 := HW
        have k8 : ∀ w', Below wr.heap.size wr w' → w'.cell? ⟨8, 0, none⟩ = some (errV (a 8)) := fun w' h => HE8.out w' (below_step HW3.out h)
        clear HFN HE8 IE
        go_wp2_with fail
        go_region_held3 (fun w' => Below wr.heap.size wr w') (first | assumption | exact (Below.refl _ _).drew | exact Below.alloc (by assumption) (Below.size (by assumption)) _) (first
          | (go_at_call 167; (with_reducible refine (place_any _ _).mono ?_); rintro e w4 ⟨hbw4, rfl⟩; have hBw4 : Below wr.heap.size wr w4 := below_step (by assumption) hbw4))
        all_goals go_wp2
        all_goals go_ret
        all_goals exact ⟨below_step (below_step HW3.out (by assumption)) ((Below.refl _ _).alloc (Nat.le_refl _) _), Or.inr ⟨Mip.pl e, _, HFT.out, rfl, dg_new a _ _ rfl _ _⟩⟩
theorem periodFault_any (N : Nat) (a : Nat → Addr) (c b n : Nat) (m : Mil.Bytes → Option Int) (g : Nat) (F : List Flo) (hfit : Fit m F) (hF : ∀ f ∈ F, f.per ≤ 1000000) : ∀ e, Mil.wf (Mip.er e) false → FC N a c b n m g F e :=
  Mip.tree_ind (fun p x _ hw => fault_node N a c b n m g F hfit hF _ hw (fun _ q hq => by cases hq) (fun q hq => by cases hq))
    (fun e hw hn hk => fault_node N a c b n m g F hfit hF e hw (fun hu => Mip.first_each m _ (by rw [← Mip.unres_kids m e hw hn]; exact hu)) hk)

end Go.Proofs.YtibbjohkiigffaaGreatDoor
namespace Go.Proofs.YtibbjohkiigffaaGreatDoor
open Go.RowKit

theorem op_inj : ∀ i, i < 14 → ∀ j, j < 14 → opName i = opName j → i = j := by decide
set_option maxHeartbeats 1000000 in
theorem operatorOf_at (a : Nat → Addr) (k : Nat) (hk : k < 14) (w : World) (L : Laid a w) :
    Calls Tryz.prog 87 #[.string (bs (opName k))] w fun e w' => e = .returned (.agg #[.string (bs (opName k)), .int .i64 (opBind k), .int .i64 (opWant k), .int .i64 (opGive k)]) ∧ Below w.heap.size w w' := by
  obtain ⟨tq, ho⟩ := L.ops
  have hix := fun (j : Nat) (h : j < 14) (w : World) => index_ops j h w
  have HB0 : Hid (Below w.heap.size w (w.alloc (.cells #[.string ⟨#[]⟩, .int .i64 0, .int .i64 0, .int .i64 0] 199))) := (Below.refl _ _).alloc (Nat.le_refl _) _
  have HN0 : Hid (NewFour (w.alloc (.cells #[.string ⟨#[]⟩, .int .i64 0, .int .i64 0, .int .i64 0] 199)) w.heap.size) := heap_alloc_new w _
  have ho' : (w.alloc (.cells #[.string ⟨#[]⟩, .int .i64 0, .int .i64 0, .int .i64 0] 199)).heap[17]? = some (.cells opCells tq (0, 0)) := (HB0.out.block _ (Array.getElem?_eq_some_iff.1 ho).1).trans ho
  have HK : Hid (k < 14) := hk
  clear L ho hk
  go_enter Tryz.func87, Tryz.ntmps87
  go_wp2_with (refine wpList_load_row rfl 224 _ rfl 17 rfl tq _ (0, 0) _ ho' Tryz.underlying224 rfl (by kernel_rfl) ?_)
  clear ho'
  go_loopg [6] 14 (fun g s6 wr => ∃ j : Nat, j ≤ k ∧ s6 = .int .i64 j ∧ g = 14 - j ∧ Hid (Below w.heap.size w wr) ∧ Hid (NewFour wr w.heap.size))
  case atStart => exact ⟨0, Nat.zero_le _, rfl, rfl, HB0, HN0⟩
  case round =>
    obtain ⟨j, hj, rfl, hg, HB, HN⟩ := hrel
    have HG : Hid (gk = 14 - j) := hg
    have HJ : Hid (j ≤ k) := hj
    clear hg hj
    have hlt : j < 14 := by have := HJ.out; have := HK.out; omega
    have hi := hix j hlt
    by_cases heq : j = k
    · subst heq
      have hbq : ((bs (opName j)).toList == (bs (opName j)).toList) = true := by simp
      have HN' : Hid (NewFour (wr.alloc (.cells #[.string (bs (opName j)), .int .i64 (opBind j), .int .i64 (opWant j), .int .i64 (opGive j)] 199)) w.heap.size) := HN.out.later ((Below.refl _ _).alloc (Nat.le_refl _) _)
      obtain ⟨r0, r1, r2, r3, z0, z1, z2, z3⟩ := HN'.out.facts
      go_wp2
      have q0 := other_cell (v := .int .i64 (opGive j)) (other_cell (v := .int .i64 (opWant j)) (other_cell (v := .int .i64 (opBind j)) (same_cell (v := .string (bs (opName j))) r0) (by decide : 1 ≠ 0)) (by decide : 2 ≠ 0)) (by decide : 3 ≠ 0)
      have q1 := other_cell (v := .int .i64 (opGive j)) (other_cell (v := .int .i64 (opWant j)) (same_cell (v := .int .i64 (opBind j)) (other_cell (v := .string (bs (opName j))) r1 (by decide : 0 ≠ 1))) (by decide : 2 ≠ 1)) (by decide : 3 ≠ 1)
      have q2 := other_cell (v := .int .i64 (opGive j)) (same_cell (v := .int .i64 (opWant j)) (other_cell (v := .int .i64 (opBind j)) (other_cell (v := .string (bs (opName j))) r2 (by decide : 0 ≠ 2)) (by decide : 1 ≠ 2))) (by decide : 3 ≠ 2)
      have q3 := same_cell (v := .int .i64 (opGive j)) (other_cell (v := .int .i64 (opWant j)) (other_cell (v := .int .i64 (opBind j)) (other_cell (v := .string (bs (opName j))) r3 (by decide : 0 ≠ 3)) (by decide : 1 ≠ 3)) (by decide : 2 ≠ 3))
      exact bodyPost_ret (v := .agg #[.string (bs (opName j)), .int .i64 (opBind j), .int .i64 (opWant j), .int .i64 (opGive j)]) (by simp [results, Tryz.results87, go_sem, q0, q1, q2, q3]) rfl ⟨rfl, below_four (HB.out.alloc HB.out.size _) _ _ _ _⟩
    · have hne : opName j ≠ opName k := fun e => heq (op_inj j hlt k HK.out e)
      have hbq : ((bs (opName j)).toList == (bs (opName k)).toList) = false := by rw [Lib.toList_data, Lib.toList_data, bs_list, bs_list]; simpa using hne
      have HE : Hid (j ≠ k) := heq
      clear heq hne
      go_wp2
      go_roundg (14 - (j + 1))
      case measure => have := HG.out; omega
      case rel => exact ⟨j + 1, by have := HJ.out; have := HE.out; omega, by go_num, rfl, HB.out.alloc HB.out.size _, HN.out.later ((Below.refl _ _).alloc (Nat.le_refl _) _)⟩
/-- An operator of two sides is one of the table. -/
theorem op_some {x : Mil.Bytes} (h : Mil.tightOf x ≠ 9) : ∃ k, k < 14 ∧ x = opName k := by
  apply Classical.byContradiction
  intro hno
  exact h (op_none (fun m hm e => hno ⟨m, hm, e.symm⟩))
def opNo (x : Mil.Bytes) : Nat := (List.range 14).findIdx fun j => opName j == x
theorem opNo_at : ∀ k, k < 14 → opNo (opName k) = k := by decide

namespace Mip
/-- What type a prefix wants. -/
def preTy (x : Mil.Bytes) : Nat := if x = Mil.wNot then 1 else 0
def wantTy (x : Mil.Bytes) : Nat := (opWant (opNo x)).toNat
def giveTy (x : Mil.Bytes) : Nat := (opGive (opNo x)).toNat
def tyFlow (m : Mil.Bytes → Option Int) (F : List Flo) (x : Mil.Bytes) : Nat := (F[((m x).getD 0).toNat]?.map Flo.ty).getD 0
/-- The type of an expression by those of its operands, and whether they fit. -/
def tyBy (m : Mil.Bytes → Option Int) (F : List Flo) (t : Nat) (x : Mil.Bytes) : List Nat → Nat × Bool
  | ts => if t = 1 then (0, true) else if t = 2 then (1, true) else if t = 3 then (tyFlow m F x, true)
    else if t = 4 then (ts.getD 0 0, ts.getD 0 0 == preTy x)
    else if t = 5 then (giveTy x, ts.getD 0 0 == ts.getD 1 0 && (wantTy x == 2 || wantTy x == ts.getD 0 0))
    else if t = 6 then (ts.getD 1 0, ts.getD 0 0 == 1 && ts.getD 1 0 == ts.getD 2 0)
    else if t = 7 ∨ t = 9 then (ts.getD 1 0, ts.getD 0 0 == ts.getD 1 0)
    else if t = 10 then (0, ts.getD 0 0 == 0 && ts.getD 1 0 == 0)
    else (ts.getD 0 0, true)
def tyPick (r : Nat × Bool) : Option Nat := if r.2 then some r.1 else none
/-- The types of an expression, or of a pair, if their parts fit. -/
def tyl (m : Mil.Bytes → Option Int) (F : List Flo) : E → Option (List Nat)
  | .nil => some []
  | .node t _ x a b => (tyl m F a).bind fun us => (tyl m F b).bind fun vs => if t = 0 then some (us ++ vs) else (tyPick (tyBy m F t x.1 (us ++ vs))).map fun u => [u]
/-- The type of an expression, if its parts fit. -/
def tyOf (m : Mil.Bytes → Option Int) (F : List Flo) (e : E) : Option Nat := (tyl m F e).bind List.head?
def tyAll (m : Mil.Bytes → Option Int) (F : List Flo) : List E → Option (List Nat)
  | [] => some []
  | q :: r => (tyOf m F q).bind fun u => (tyAll m F r).map fun us => u :: us
def tg : E → Nat
  | .nil => 0
  | .node t _ _ _ _ => t
def tx : E → Mil.Bytes
  | .nil => []
  | .node _ _ x _ _ => x.1
theorem ty_one (m : Mil.Bytes → Option Int) (F : List Flo) {t k : Nat} {x : Mil.Bytes × Nat} {a b : E} (h : t ≠ 0) : tyl m F (.node t k x a b) = (tyOf m F (.node t k x a b)).map fun u => [u] := by
  unfold tyOf
  rw [tyl]
  cases tyl m F a with
  | none => rfl
  | some us =>
    cases tyl m F b with
    | none => rfl
    | some vs =>
      rw [Option.bind_some, Option.bind_some, if_neg h]
      cases tyPick (tyBy m F t x.1 (us ++ vs)) <;> rfl
theorem ty_all (m : Mil.Bytes → Option Int) (F : List Flo) : ∀ e : E, Mil.wf (er e) false → tyl m F e = (tyOf m F e).map fun u => [u] := by
  refine tree_induct ?_ ?_ ?_ ?_ ?_ ?_ ?_ ?_ ?_ ?_
  · intro p k _; exact ty_one m F (by decide)
  · intro p k _; exact ty_one m F (by decide)
  · intro p x _; exact ty_one m F (by decide)
  · intro p x a _ _; exact ty_one m F (by decide)
  · intro p x a b _ _ _; exact ty_one m F (by decide)
  · intro p y a b c _ _ _; exact ty_one m F (by decide)
  · intro p a b _ _; exact ty_one m F (by decide)
  · intro p a k _ _ _; exact ty_one m F (by decide)
  · intro p a b k _ _ _ _; exact ty_one m F (by decide)
  · intro p x a b _ _ _; exact ty_one m F (by decide)
def tyJoin (m : Mil.Bytes → Option Int) (F : List Flo) (t : Nat) (x : Mil.Bytes) (us vs : Option (List Nat)) : Option Nat := us.bind fun us => vs.bind fun vs => tyPick (tyBy m F t x (us ++ vs))
theorem ty_node (m : Mil.Bytes → Option Int) (F : List Flo) {t k : Nat} {x : Mil.Bytes × Nat} {a b : E} (h : t ≠ 0) : tyOf m F (.node t k x a b) = tyJoin m F t x.1 (tyl m F a) (tyl m F b) := by
  unfold tyOf tyJoin
  rw [tyl]
  cases tyl m F a with
  | none => rfl
  | some us =>
    cases tyl m F b with
    | none => rfl
    | some vs =>
      show (if t = 0 then some (us ++ vs) else (tyPick (tyBy m F t x.1 (us ++ vs))).map fun u => [u]).bind List.head? = tyPick (tyBy m F t x.1 (us ++ vs))
      rw [if_neg h]
      cases tyPick (tyBy m F t x.1 (us ++ vs)) <;> rfl
theorem ty_kids (m : Mil.Bytes → Option Int) (F : List Flo) : ∀ e : E, Mil.wf (er e) false → tyOf m F e = (tyAll m F (kids e)).bind fun ts => tyPick (tyBy m F (tg e) (tx e) ts) := by
  have one : ∀ (t : Nat) (x : Mil.Bytes) (o : Option Nat), tyJoin m F t x (o.map fun u => [u]) (some []) = (o.bind fun u => ((some []).map fun us => u :: us)).bind fun ts => tyPick (tyBy m F t x ts) := fun t x o => by cases o <;> rfl
  have two : ∀ (t : Nat) (x : Mil.Bytes) (o o' : Option Nat), tyJoin m F t x (o.map fun u => [u]) (o'.map fun u => [u]) = (o.bind fun u => ((o'.bind fun u => ((some []).map fun us => u :: us)).map fun us => u :: us)).bind fun ts => tyPick (tyBy m F t x ts) := fun t x o o' => by cases o <;> cases o' <;> rfl
  refine tree_ind (fun p x hx _ => rfl) ?_
  intro e hw hn hk
  have h1 : ∀ q ∈ kids e, tyl m F q = (tyOf m F q).map fun u => [u] := fun q hq => ty_all m F q (hk q hq).1
  clear hk
  revert h1 hn
  revert e
  intro e hw
  refine tree_induct (Q := fun e => (∀ p x, e ≠ eName p x) → (∀ q ∈ kids e, tyl m F q = (tyOf m F q).map fun u => [u]) → tyOf m F e = (tyAll m F (kids e)).bind fun ts => tyPick (tyBy m F (tg e) (tx e) ts)) ?_ ?_ ?_ ?_ ?_ ?_ ?_ ?_ ?_ ?_ e hw
  · intro p k _ _ _; rfl
  · intro p k _ _ _; rfl
  · intro p x _ _ _; rfl
  · intro p x a _ _ _ h; exact (ty_node m F (by decide)).trans (by rw [h a (by simp [kids, ePre])]; exact one 4 x _)
  · intro p x a b _ _ _ _ h; exact (ty_node m F (by decide)).trans (by rw [h a (by simp [kids, eTwo]), h b (by simp [kids, eTwo])]; exact two 5 x _ _)
  · intro p y a b c _ _ _ _ h
    refine (ty_node m F (by decide)).trans ?_
    rw [tyl, h a (by simp [kids]), h b (by simp [kids]), h c (by simp [kids])]
    show _ = ((tyOf m F a).bind fun u => ((tyOf m F b).bind fun v => ((tyOf m F c).bind fun z => ((some []).map fun us => z :: us)).map fun us => v :: us).map fun us => u :: us).bind fun ts => tyPick (tyBy m F 6 [] ts)
    cases tyOf m F a <;> cases tyOf m F b <;> cases tyOf m F c <;> rfl
  · intro p a b _ _ _ h; exact (ty_node m F (by decide)).trans (by rw [h a (by simp [kids, eFby]), h b (by simp [kids, eFby])]; exact two 7 [] _ _)
  · intro p a k _ _ _ _ h; exact (ty_node m F (by decide)).trans (by rw [h a (by simp [kids, eUnder])]; exact one 8 [] _)
  · intro p a b k _ _ _ _ _ h; exact (ty_node m F (by decide)).trans (by rw [h a (by simp [kids, eHold]), h b (by simp [kids, eHold])]; exact two 9 [] _ _)
  · intro p x a b _ _ _ _ h; exact (ty_node m F (by decide)).trans (by rw [h a (by simp [kids, eLeast]), h b (by simp [kids, eLeast])]; exact two 10 x _ _)
end Mip

end Go.Proofs.YtibbjohkiigffaaGreatDoor
namespace Go.Proofs.YtibbjohkiigffaaGreatDoor

/-- An equation with the number of its flow. -/
structure Nq where
  nm : Mil.Bytes
  at_ : Nat
  ty : Nat
  body : Mip.E
  flow : Nat

/-- What is declared so far. -/
structure Ds where
  m : Mil.Bytes → Option Int
  F : List Flo
  Q : List Nq
  om : Mil.Bytes → Option Int
def Ds.zero : Ds := ⟨fun _ => none, [], [], fun _ => none⟩
def Ds.inp (s : Ds) (i : Mip.It) : Ds := ⟨upd s.m i.nm (s.F.length : Nat), s.F ++ [⟨i.nm, i.ty, i.every, true, false⟩], s.Q, s.om⟩
def Ds.eqn (s : Ds) (i : Mip.It) : Ds := ⟨upd s.m i.nm (s.F.length : Nat), s.F ++ [⟨i.nm, i.ty, 0, false, false⟩], s.Q ++ [⟨i.nm, i.at_, i.ty, i.body, s.F.length⟩], s.om⟩
/-- Items declared one behind another: where a name stands for the second time, or all. -/
def decl (N : Nat) : Ds → List Mip.It → Option Nat × Ds
  | s, [] => (none, s)
  | s, i :: r =>
    if i.kind = 1 then (if (s.m i.nm).isSome then (some i.at_, s) else decl N (s.inp i) r)
    else if i.kind = 3 then (if (s.m i.nm).isSome then (some i.at_, s) else decl N (s.eqn i) r)
    else if ((entAll N s.om i.names).1).isSome then ((entAll N s.om i.names).1, s) else decl N ⟨s.m, s.F, s.Q, (entAll N s.om i.names).2⟩ r
/-- Items whose names are looked up one behind another; outputs are marked. -/
def reso (m : Mil.Bytes → Option Int) : List Flo → List Mip.It → Option Nat × List Flo
  | F, [] => (none, F)
  | F, i :: r =>
    if i.kind = 3 then (if (Mip.unres m i.body).isSome then (Mip.unres m i.body, F) else reso m F r)
    else if i.kind = 2 then (if ((markAll m F i.names).1).isSome then ((markAll m F i.names).1, F) else reso m (markAll m F i.names).2 r)
    else reso m F r
theorem decl_drop (N : Nat) {s : Ds} {l : List Mip.It} {j : Nat} {i : Mip.It} (h : l[j]? = some i) : decl N s (l.drop j) = decl N s (i :: l.drop (j + 1)) := by
  obtain ⟨hj, rfl⟩ := List.getElem?_eq_some_iff.1 h
  rw [List.drop_eq_getElem_cons hj]
theorem reso_drop (m : Mil.Bytes → Option Int) {F : List Flo} {l : List Mip.It} {j : Nat} {i : Mip.It} (h : l[j]? = some i) : reso m F (l.drop j) = reso m F (i :: l.drop (j + 1)) := by
  obtain ⟨hj, rfl⟩ := List.getElem?_eq_some_iff.1 h
  rw [List.drop_eq_getElem_cons hj]

/-- An item that was read. -/
def IOk (i : Mip.It) : Prop :=
  (i.kind = 1 ∧ Mil.NameOk i.nm ∧ (i.ty = 0 ∨ i.ty = 1) ∧ 1 ≤ i.every ∧ i.every ≤ 1000000) ∨ (i.kind = 2 ∧ ∀ y ∈ i.names, Mil.NameOk y.1) ∨
  (i.kind = 3 ∧ Mil.NameOk i.nm ∧ (i.ty = 0 ∨ i.ty = 1) ∧ Mil.wf (Mip.er i.body) false)

/-- What stands of flows and equations once declared. -/
structure Fq (m : Mil.Bytes → Option Int) (F : List Flo) (Q : List Nq) : Prop where
  fit : Fit' m F
  eqf : ∀ q ∈ Q, ∃ f, F[q.flow]? = some f ∧ f.inp = false
  fe : ∀ i f, F[i]? = some f → f.inp = false → ∃ q ∈ Q, q.flow = i
  up : (Q.map Nq.flow).Pairwise (· < ·)
  inp : ∀ f ∈ F, f.inp = true → 1 ≤ f.per
  per : ∀ f ∈ F, f.per ≤ 1000000
  ty : ∀ f ∈ F, f.ty = 0 ∨ f.ty = 1
  wf : ∀ q ∈ Q, Mil.wf (Mip.er q.body) false ∧ Mil.NameOk q.nm ∧ (q.ty = 0 ∨ q.ty = 1)
theorem Fq.zero : Fq Ds.zero.m Ds.zero.F Ds.zero.Q :=
  ⟨(fun x k h => by cases h), (fun q h => by cases h), (fun i f h => by simp [Ds.zero] at h), List.Pairwise.nil, (fun f h => by cases h), (fun f h => by cases h), (fun f h => by cases h), (fun q h => by cases h)⟩
theorem fit_grow {m : Mil.Bytes → Option Int} {F : List Flo} (h : Fit' m F) (x : Mil.Bytes) (f : Flo) : Fit' (upd m x (F.length : Nat)) (F ++ [f]) := fun y k hk => by
  by_cases e : y = x
  · have e1 : upd m x (F.length : Nat) y = some (F.length : Nat) := if_pos e
    rw [e1] at hk
    exact ⟨F.length, (Option.some.inj hk).symm, by simp⟩
  · have e1 : upd m x (F.length : Nat) y = m y := if_neg e
    rw [e1] at hk
    obtain ⟨i, h1, h2⟩ := h y k hk
    exact ⟨i, h1, by simp; omega⟩
theorem at_grow {F : List Flo} {f g : Flo} {i : Nat} (h : (F ++ [f])[i]? = some g) : F[i]? = some g ∨ (i = F.length ∧ g = f) := by
  rcases Nat.lt_or_ge i F.length with hi | hi
  · rw [List.getElem?_append_left hi] at h; exact Or.inl h
  · rw [List.getElem?_append_right hi] at h
    rcases Nat.eq_zero_or_pos (i - F.length) with h0 | h0
    · rw [h0] at h
      exact Or.inr ⟨by omega, by simpa using h.symm⟩
    · rw [List.getElem?_eq_none (by simp; omega)] at h; cases h
theorem Fq.inp_ {s : Ds} (h : Fq s.m s.F s.Q) {i : Mip.It} (hi : IOk i) (hk : i.kind = 1) : Fq (s.inp i).m (s.inp i).F (s.inp i).Q := by
  obtain ⟨_, hn, ht, h1, h2⟩ | ⟨h0, _⟩ | ⟨h0, _⟩ := hi
  · refine ⟨fit_grow h.fit _ _, fun q hq => ?_, fun j f hj hf => ?_, h.up, fun f hf => ?_, fun f hf => ?_, fun f hf => ?_, h.wf⟩
    · obtain ⟨f, e1, e2⟩ := h.eqf q hq
      exact ⟨f, (List.getElem?_append_left (List.getElem?_eq_some_iff.1 e1).1).trans e1, e2⟩
    · rcases at_grow hj with e | ⟨_, e⟩
      · exact h.fe j f e hf
      · rw [e] at hf; cases hf
    · rcases List.mem_append.1 hf with e | e
      · exact h.inp f e
      · simp at e; rw [e]; exact fun _ => h1
    · rcases List.mem_append.1 hf with e | e
      · exact h.per f e
      · simp at e; rw [e]; exact h2
    · rcases List.mem_append.1 hf with e | e
      · exact h.ty f e
      · simp at e; rw [e]; exact ht
  · omega
  · omega
theorem Fq.eqn_ {s : Ds} (h : Fq s.m s.F s.Q) {i : Mip.It} (hi : IOk i) (hk : i.kind = 3) : Fq (s.eqn i).m (s.eqn i).F (s.eqn i).Q := by
  obtain ⟨h0, _⟩ | ⟨h0, _⟩ | ⟨_, hn, ht, hw⟩ := hi
  · omega
  · omega
  · refine ⟨fit_grow h.fit _ _, fun q hq => ?_, fun j f hj hf => ?_, ?_, fun f hf => ?_, fun f hf => ?_, fun f hf => ?_, fun q hq => ?_⟩
    · rcases List.mem_append.1 hq with e | e
      · obtain ⟨f, e1, e2⟩ := h.eqf q e
        exact ⟨f, (List.getElem?_append_left (List.getElem?_eq_some_iff.1 e1).1).trans e1, e2⟩
      · simp at e; rw [e]
        exact ⟨⟨i.nm, i.ty, 0, false, false⟩, by show (s.F ++ _)[s.F.length]? = _; rw [List.getElem?_append_right (Nat.le_refl _)]; simp, rfl⟩
    · rcases at_grow hj with e | ⟨e, _⟩
      · obtain ⟨q, e1, e2⟩ := h.fe j f e hf
        exact ⟨q, List.mem_append_left _ e1, e2⟩
      · exact ⟨⟨i.nm, i.at_, i.ty, i.body, s.F.length⟩, List.mem_append_right _ (by simp), e.symm⟩
    · show ((s.Q ++ _).map Nq.flow).Pairwise (· < ·)
      rw [List.map_append, List.pairwise_append]
      refine ⟨h.up, by simp, fun a ha b hb => ?_⟩
      simp at hb
      obtain ⟨q, e1, e2⟩ := List.mem_map.1 ha
      obtain ⟨f, e3, _⟩ := h.eqf q e1
      have := (List.getElem?_eq_some_iff.1 e3).1
      omega
    · rcases List.mem_append.1 hf with e | e
      · exact h.inp f e
      · simp at e; rw [e]; intro e'; cases e'
    · rcases List.mem_append.1 hf with e | e
      · exact h.per f e
      · simp at e; rw [e]; exact Nat.zero_le _
    · rcases List.mem_append.1 hf with e | e
      · exact h.ty f e
      · simp at e; rw [e]; exact ht
    · rcases List.mem_append.1 hq with e | e
      · exact h.wf q e
      · simp at e; rw [e]; exact ⟨hw, hn, ht⟩
theorem decl_ok (N : Nat) : ∀ (l : List Mip.It) (s : Ds), (∀ i ∈ l, IOk i) → Fq s.m s.F s.Q → (decl N s l).1 = none → Fq (decl N s l).2.m (decl N s l).2.F (decl N s l).2.Q
  | [], s, _, h, _ => h
  | i :: r, s, hl, h, hn => by
    have hi := hl i (by simp)
    have hr : ∀ i ∈ r, IOk i := fun j hj => hl j (by simp [hj])
    rw [decl] at hn ⊢
    by_cases k1 : i.kind = 1
    · rw [if_pos k1] at hn ⊢
      by_cases k2 : (s.m i.nm).isSome = true
      · rw [if_pos k2] at hn; cases hn
      · rw [if_neg k2] at hn ⊢
        exact decl_ok N r _ hr (h.inp_ hi k1) hn
    · rw [if_neg k1] at hn ⊢
      by_cases k3 : i.kind = 3
      · rw [if_pos k3] at hn ⊢
        by_cases k2 : (s.m i.nm).isSome = true
        · rw [if_pos k2] at hn; cases hn
        · rw [if_neg k2] at hn ⊢
          exact decl_ok N r _ hr (h.eqn_ hi k3) hn
      · rw [if_neg k3] at hn ⊢
        by_cases k2 : ((entAll N s.om i.names).1).isSome = true
        · rw [if_pos k2] at hn
          rw [hn] at k2; cases k2
        · rw [if_neg k2] at hn ⊢
          exact decl_ok N r _ hr h hn
end Go.Proofs.YtibbjohkiigffaaGreatDoor
namespace Go.Proofs.YtibbjohkiigffaaGreatDoor

def perAt (F : List Flo) (i : Nat) : Nat := (F[i]?.map Flo.per).getD 0
def setPer (F : List Flo) (i p : Nat) : List Flo := F.modify i fun f => { f with per := p }
theorem perAt_of {F : List Flo} {i : Nat} {f : Flo} (h : F[i]? = some f) : perAt F i = f.per := by rw [perAt, h]; rfl
theorem setPer_len (F : List Flo) (i p : Nat) : (setPer F i p).length = F.length := by simp [setPer]
theorem setPer_at {F : List Flo} {i p j : Nat} {f : Flo} (h : (setPer F i p)[j]? = some f) : ∃ f0, F[j]? = some f0 ∧ f = if i = j then { f0 with per := p } else f0 := by
  unfold setPer at h
  rw [List.getElem?_modify] at h
  cases hf : F[j]? with
  | none => rw [hf] at h; simp at h
  | some f0 =>
    rw [hf] at h
    refine ⟨f0, rfl, ?_⟩
    split at h
    · rename_i e; rw [if_pos e]; simpa using h.symm
    · rename_i e; rw [if_neg e]; simpa using h.symm
theorem setPer_get {F : List Flo} {i p j : Nat} {f0 : Flo} (h : F[j]? = some f0) : (setPer F i p)[j]? = some (if i = j then { f0 with per := p } else f0) := by
  unfold setPer
  rw [List.getElem?_modify, h]
  split <;> rfl
theorem perAt_set_same {F : List Flo} {i p : Nat} (h : i < F.length) : perAt (setPer F i p) i = p := by
  have e := setPer_get (i := i) (p := p) (List.getElem?_eq_getElem h)
  rw [if_pos rfl] at e
  rw [perAt_of e]
theorem perAt_set_other {F : List Flo} {i p j : Nat} (h : i ≠ j) : perAt (setPer F i p) j = perAt F j := by
  unfold perAt setPer
  rw [List.getElem?_modify]
  simp [h]

/-- One round of finding periods. -/
def once (m : Mil.Bytes → Option Int) : List Nq → List Flo → Bool → List Flo × Bool
  | [], F, more => (F, more)
  | q :: r, F, more => if perAt F q.flow = 0 then once m r (setPer F q.flow (Mip.perOf m F q.body)) (more || Mip.perOf m F q.body != 0) else once m r F more
theorem once_drop (m : Mil.Bytes → Option Int) {Q : List Nq} {F : List Flo} {more : Bool} {j : Nat} {q : Nq} (h : Q[j]? = some q) : once m (Q.drop j) F more = if perAt F q.flow = 0 then once m (Q.drop (j + 1)) (setPer F q.flow (Mip.perOf m F q.body)) (more || Mip.perOf m F q.body != 0) else once m (Q.drop (j + 1)) F more := by
  obtain ⟨hj, rfl⟩ := List.getElem?_eq_some_iff.1 h
  rw [List.drop_eq_getElem_cons hj]; rfl
/-- Flows but for their periods. -/
structure Alike (F F' : List Flo) : Prop where
  len : F'.length = F.length
  at_ : ∀ (i : Nat) (f : Flo), F[i]? = some f → ∃ f' : Flo, F'[i]? = some f' ∧ f'.inp = f.inp ∧ f'.out = f.out ∧ f'.ty = f.ty ∧ f'.nm = f.nm ∧ (f.per ≠ 0 → f'.per = f.per)
theorem Alike.refl (F : List Flo) : Alike F F := ⟨rfl, fun _ f h => ⟨f, h, rfl, rfl, rfl, rfl, fun _ => rfl⟩⟩
theorem Alike.trans {F G H : List Flo} (h : Alike F G) (k : Alike G H) : Alike F H := by
  refine ⟨k.len.trans h.len, fun i f hf => ?_⟩
  obtain ⟨g, g1, g2, g3, g4, g5, g6⟩ := h.at_ i f hf
  obtain ⟨f', e1, e2, e3, e4, e5, e6⟩ := k.at_ i g g1
  exact ⟨f', e1, e2.trans g2, e3.trans g3, e4.trans g4, e5.trans g5, fun h0 => (e6 (by rw [g6 h0]; exact h0)).trans (g6 h0)⟩
theorem alike_set {F : List Flo} {i p : Nat} (h : perAt F i = 0) : Alike F (setPer F i p) := by
  refine ⟨setPer_len _ _ _, fun j f hf => ⟨_, setPer_get hf, ?_⟩⟩
  by_cases e : i = j
  · rw [if_pos e]
    refine ⟨rfl, rfl, rfl, rfl, fun h0 => ?_⟩
    rw [e, perAt_of hf] at h
    exact absurd h h0
  · rw [if_neg e]
    exact ⟨rfl, rfl, rfl, rfl, fun _ => rfl⟩
theorem once_alike (m : Mil.Bytes → Option Int) : ∀ (Q : List Nq) (F : List Flo) (b : Bool), Alike F (once m Q F b).1
  | [], F, b => Alike.refl F
  | q :: r, F, b => by
    rw [once]
    split
    · exact (alike_set (by assumption)).trans (once_alike m r _ _)
    · exact once_alike m r F b
theorem Alike.perAt {F G : List Flo} (h : Alike F G) {i : Nat} (hi : perAt F i ≠ 0) : perAt G i = perAt F i := by
  cases hf : F[i]? with
  | none => unfold Go.Proofs.YtibbjohkiigffaaGreatDoor.perAt at hi; rw [hf] at hi; exact absurd rfl hi
  | some f =>
    obtain ⟨g, g1, _, _, _, _, g6⟩ := h.at_ i f hf
    rw [perAt_of hf] at hi ⊢
    rw [perAt_of g1]
    exact g6 hi
theorem once_more (m : Mil.Bytes → Option Int) : ∀ (Q : List Nq) (F : List Flo) (b : Bool), (∀ q ∈ Q, q.flow < F.length) → (once m Q F b).2 = true → b = true ∨ ∃ q ∈ Q, perAt F q.flow = 0 ∧ perAt (once m Q F b).1 q.flow ≠ 0
  | [], F, b, _, h => Or.inl h
  | q :: r, F, b, hl, h => by
    rw [once] at h ⊢
    by_cases h0 : perAt F q.flow = 0
    · rw [if_pos h0] at h ⊢
      by_cases hp : Mip.perOf m F q.body = 0
      · have hset : ∀ j, perAt (setPer F q.flow (Mip.perOf m F q.body)) j = perAt F j := fun j => by
          by_cases e : q.flow = j
          · rw [← e, perAt_set_same (hl q (by simp)), hp, h0]
          · exact perAt_set_other e
        rcases once_more m r _ _ (fun q' hq' => by rw [setPer_len]; exact hl q' (by simp [hq'])) h with h1 | ⟨q', h1, h2, h3⟩
        · rw [hp] at h1
          left
          simpa using h1
        · right
          exact ⟨q', by simp [h1], by rw [← hset]; exact h2, h3⟩
      · right
        refine ⟨q, by simp, h0, ?_⟩
        have e1 : perAt (setPer F q.flow (Mip.perOf m F q.body)) q.flow = Mip.perOf m F q.body := perAt_set_same (hl q (by simp))
        rw [(once_alike m r _ _).perAt (by rw [e1]; exact hp), e1]
        exact hp
    · rw [if_neg h0] at h ⊢
      rcases once_more m r F b (fun q' hq' => hl q' (by simp [hq'])) h with h1 | ⟨q', h1, h2, h3⟩
      · exact Or.inl h1
      · exact Or.inr ⟨q', by simp [h1], h2, h3⟩
/-- How many periods are not found yet. -/
def opn (Q : List Nq) (F : List Flo) : Nat := (Q.filter fun q => perAt F q.flow == 0).length
theorem opn_less (m : Mil.Bytes → Option Int) (Q : List Nq) (F : List Flo) (hl : ∀ q ∈ Q, q.flow < F.length) (h : (once m Q F false).2 = true) : opn Q (once m Q F false).1 < opn Q F := by
  rcases once_more m Q F false hl h with h1 | ⟨q, h1, h2, h3⟩
  · cases h1
  · have e1 : Q.filter (fun q => perAt (once m Q F false).1 q.flow == 0) = (Q.filter fun q => perAt F q.flow == 0).filter (fun q => perAt (once m Q F false).1 q.flow == 0) := by
      rw [List.filter_filter]
      apply List.filter_congr
      intro x _
      by_cases hx : perAt F x.flow = 0
      · simp [hx]
      · rw [(once_alike m Q F false).perAt hx]; simp
    unfold opn
    rw [e1]
    refine Nat.lt_of_le_of_ne (List.length_filter_le _ _) (fun e => ?_)
    have h4 := (List.length_filter_eq_length_iff.1 e) q (List.mem_filter.2 ⟨h1, by simp [h2]⟩)
    exact h3 (by simpa using h4)
/-- Rounds, till one finds no more. -/
def rnds (m : Mil.Bytes → Option Int) (Q : List Nq) : Nat → List Flo → List Flo
  | 0, F => F
  | k + 1, F => if (once m Q F false).2 then rnds m Q k (once m Q F false).1 else (once m Q F false).1
theorem rnds_alike (m : Mil.Bytes → Option Int) (Q : List Nq) : ∀ (k : Nat) (F : List Flo), Alike F (rnds m Q k F)
  | 0, F => Alike.refl F
  | k + 1, F => by
    rw [rnds]
    split
    · exact (once_alike m Q F false).trans (rnds_alike m Q k _)
    · exact once_alike m Q F false
theorem once_le (m : Mil.Bytes → Option Int) : ∀ (Q : List Nq) (F : List Flo) (b : Bool), (∀ f ∈ F, f.per ≤ 1000000) → ∀ f ∈ (once m Q F b).1, f.per ≤ 1000000
  | [], F, b, h => h
  | q :: r, F, b, h => by
    rw [once]
    split
    · refine once_le m r _ _ (fun f hf => ?_)
      obtain ⟨j, hj⟩ := List.getElem?_of_mem hf
      obtain ⟨f0, e0, rfl⟩ := setPer_at hj
      split
      · exact Mip.perOf_le m F h q.body
      · exact h f0 (List.mem_of_getElem? e0)
    · exact once_le m r F b h
theorem rnds_le (m : Mil.Bytes → Option Int) (Q : List Nq) : ∀ (k : Nat) (F : List Flo), (∀ f ∈ F, f.per ≤ 1000000) → ∀ f ∈ rnds m Q k F, f.per ≤ 1000000
  | 0, F, h => h
  | k + 1, F, h => by
    rw [rnds]
    split
    · exact rnds_le m Q k _ (once_le m Q F false h)
    · exact once_le m Q F false h
theorem Fq.alike {m : Mil.Bytes → Option Int} {F G : List Flo} {Q : List Nq} (h : Fq m F Q) (k : Alike F G) (hle : ∀ f ∈ G, f.per ≤ 1000000) : Fq m G Q := by
  have back : ∀ (i : Nat) (g : Flo), G[i]? = some g → ∃ f : Flo, F[i]? = some f ∧ g.inp = f.inp ∧ g.ty = f.ty ∧ (f.per ≠ 0 → g.per = f.per) := fun i g hg => by
    have hi : i < F.length := by rw [← k.len]; exact (List.getElem?_eq_some_iff.1 hg).1
    obtain ⟨g', e1, e2, e3, e4, e5, e6⟩ := k.at_ i _ (List.getElem?_eq_getElem hi)
    rw [hg] at e1
    obtain rfl := Option.some.inj e1
    exact ⟨_, List.getElem?_eq_getElem hi, e2, e4, e6⟩
  refine ⟨fun x i hx => ?_, fun q hq => ?_, fun i g hg hi => ?_, h.up, fun g hg hi => ?_, hle, fun g hg => ?_, h.wf⟩
  · obtain ⟨j, e1, e2⟩ := h.fit x i hx
    exact ⟨j, e1, by rw [k.len]; exact e2⟩
  · obtain ⟨f, e1, e2⟩ := h.eqf q hq
    obtain ⟨g, g1, g2, _⟩ := k.at_ _ f e1
    exact ⟨g, g1, g2.trans e2⟩
  · obtain ⟨f, e1, e2, _⟩ := back i g hg
    exact h.fe i f e1 (e2.symm.trans hi)
  · obtain ⟨j, hj⟩ := List.getElem?_of_mem hg
    obtain ⟨f, e1, e2, _, e4⟩ := back j g hj
    have := h.inp f (List.mem_of_getElem? e1) (e2.symm.trans hi)
    rw [e4 (by omega)]
    exact this
  · obtain ⟨j, hj⟩ := List.getElem?_of_mem hg
    obtain ⟨f, e1, _, e3, _⟩ := back j g hj
    rw [e3]
    exact h.ty f (List.mem_of_getElem? e1)
theorem mark_alike (F : List Flo) (k : Nat) : ∀ (i : Nat) (f : Flo), F[i]? = some f → ∃ f' : Flo, (mark F k)[i]? = some f' ∧ f'.inp = f.inp ∧ f'.ty = f.ty ∧ f'.per = f.per := fun i f hf => by
  unfold mark
  rw [List.getElem?_modify, hf]
  by_cases e : k = i
  · simp [e]
  · simp [e]
theorem markAll_keeps (m : Mil.Bytes → Option Int) : ∀ (l : List (Mil.Bytes × Nat)) (F : List Flo), (markAll m F l).2.length = F.length ∧ ∀ (i : Nat) (f : Flo), F[i]? = some f → ∃ f' : Flo, (markAll m F l).2[i]? = some f' ∧ f'.inp = f.inp ∧ f'.ty = f.ty ∧ f'.per = f.per
  | [], F => ⟨rfl, fun _ f h => ⟨f, h, rfl, rfl, rfl⟩⟩
  | x :: r, F => by
    rw [markAll]
    cases m x.1 with
    | none => exact ⟨rfl, fun _ f h => ⟨f, h, rfl, rfl, rfl⟩⟩
    | some k =>
      obtain ⟨h1, h2⟩ := markAll_keeps m r (mark F k.toNat)
      refine ⟨h1.trans (mark_len _ _), fun i f hf => ?_⟩
      obtain ⟨f1, a1, a2, a3, a4⟩ := mark_alike F k.toNat i f hf
      obtain ⟨f2, b1, b2, b3, b4⟩ := h2 i f1 a1
      exact ⟨f2, b1, b2.trans a2, b3.trans a3, b4.trans a4⟩
theorem reso_keeps (m : Mil.Bytes → Option Int) : ∀ (l : List Mip.It) (F : List Flo), (reso m F l).2.length = F.length ∧ ∀ (i : Nat) (f : Flo), F[i]? = some f → ∃ f' : Flo, (reso m F l).2[i]? = some f' ∧ f'.inp = f.inp ∧ f'.ty = f.ty ∧ f'.per = f.per
  | [], F => ⟨rfl, fun _ f h => ⟨f, h, rfl, rfl, rfl⟩⟩
  | x :: r, F => by
    rw [reso]
    split
    · split
      · exact ⟨rfl, fun _ f h => ⟨f, h, rfl, rfl, rfl⟩⟩
      · exact reso_keeps m r F
    · split
      · split
        · exact ⟨rfl, fun _ f h => ⟨f, h, rfl, rfl, rfl⟩⟩
        · obtain ⟨h1, h2⟩ := markAll_keeps m x.names F
          obtain ⟨k1, k2⟩ := reso_keeps m r (markAll m F x.names).2
          refine ⟨k1.trans h1, fun i f hf => ?_⟩
          obtain ⟨f1, a1, a2, a3, a4⟩ := h2 i f hf
          obtain ⟨f2, b1, b2, b3, b4⟩ := k2 i f1 a1
          exact ⟨f2, b1, b2.trans a2, b3.trans a3, b4.trans a4⟩
      · exact reso_keeps m r F
theorem Fq.kept {m : Mil.Bytes → Option Int} {F G : List Flo} {Q : List Nq} (h : Fq m F Q) (hl : G.length = F.length) (k : ∀ (i : Nat) (f : Flo), F[i]? = some f → ∃ f' : Flo, G[i]? = some f' ∧ f'.inp = f.inp ∧ f'.ty = f.ty ∧ f'.per = f.per) : Fq m G Q := by
  have back : ∀ (i : Nat) (g : Flo), G[i]? = some g → ∃ f : Flo, F[i]? = some f ∧ g.inp = f.inp ∧ g.ty = f.ty ∧ g.per = f.per := fun i g hg => by
    have hi : i < F.length := by rw [← hl]; exact (List.getElem?_eq_some_iff.1 hg).1
    obtain ⟨g', e1, e2, e3, e4⟩ := k i _ (List.getElem?_eq_getElem hi)
    rw [hg] at e1
    obtain rfl := Option.some.inj e1
    exact ⟨_, List.getElem?_eq_getElem hi, e2, e3, e4⟩
  refine ⟨fun x i hx => ?_, fun q hq => ?_, fun i g hg hi => ?_, h.up, fun g hg hi => ?_, fun g hg => ?_, fun g hg => ?_, h.wf⟩
  · obtain ⟨j, e1, e2⟩ := h.fit x i hx
    exact ⟨j, e1, by rw [hl]; exact e2⟩
  · obtain ⟨f, e1, e2⟩ := h.eqf q hq
    obtain ⟨g, g1, g2, _⟩ := k _ f e1
    exact ⟨g, g1, g2.trans e2⟩
  · obtain ⟨f, e1, e2, _⟩ := back i g hg
    exact h.fe i f e1 (e2.symm.trans hi)
  · obtain ⟨j, hj⟩ := List.getElem?_of_mem hg
    obtain ⟨f, e1, e2, _, e4⟩ := back j g hj
    rw [e4]
    exact h.inp f (List.mem_of_getElem? e1) (e2.symm.trans hi)
  · obtain ⟨j, hj⟩ := List.getElem?_of_mem hg
    obtain ⟨f, e1, _, _, e4⟩ := back j g hj
    rw [e4]
    exact h.per f (List.mem_of_getElem? e1)
  · obtain ⟨j, hj⟩ := List.getElem?_of_mem hg
    obtain ⟨f, e1, _, e3, _⟩ := back j g hj
    rw [e3]
    exact h.ty f (List.mem_of_getElem? e1)

namespace Mip
/-- The flows whose values at the same instant are asked for. -/
def nds (m : Mil.Bytes → Option Int) : E → List Nat
  | .nil => []
  | .node t _ x a b => if t = 3 then [((m x.1).getD 0).toNat] else if t = 7 ∨ t = 9 then [] else nds m a ++ nds m b
end Mip
def ndf (m : Mil.Bytes → Option Int) (Q : List Nq) (k : Nat) : List Nat := ((Q.find? fun q => q.flow == k).map fun q => Mip.nds m q.body).getD []
/-- The equations of a period. -/
def part (F : List Flo) (Q : List Nq) (p : Nat) : List Nq := Q.filter fun q => perAt F q.flow == p
/-- The tasks. -/
structure Tks (m : Mil.Bytes → Option Int) (F : List Flo) (Q : List Nq) (T : List (Nat × List Nat)) : Prop where
  up : (T.map Prod.fst).Pairwise (· < ·)
  all : ∀ p, p ∈ T.map Prod.fst ↔ ∃ q ∈ Q, perAt F q.flow = p
  ord : ∀ t ∈ T, t.2 = Mip.ord (ndf m Q) ((part F Q t.1).map Nq.flow) (part F Q t.1).length []
theorem flows_nodup {l : List Nat} (h : l.Pairwise (· < ·)) : l.Nodup := h.imp (fun e => Nat.ne_of_lt e)
theorem Tks.order {m : Mil.Bytes → Option Int} {F : List Flo} {Q : List Nq} {T : List (Nat × List Nat)} (h : Tks m F Q T) (hq : Fq m F Q) (hc : ∀ q ∈ Q, ¬ Mip.Way (ndf m Q) q.flow q.flow) {t : Nat × List Nat} (ht : t ∈ T) : t.2.Nodup ∧ ∀ e, e ∈ t.2 ↔ ∃ q ∈ Q, q.flow = e ∧ perAt F e = t.1 := by
  have hn : ((part F Q t.1).map Nq.flow).Nodup := flows_nodup ((hq.up.sublist (List.Sublist.map _ List.filter_sublist)))
  have hm : ∀ e, e ∈ (part F Q t.1).map Nq.flow ↔ ∃ q ∈ Q, q.flow = e ∧ perAt F e = t.1 := fun e => by
    constructor
    · intro he
      obtain ⟨q, h1, rfl⟩ := List.mem_map.1 he
      obtain ⟨h2, h3⟩ := List.mem_filter.1 h1
      exact ⟨q, h2, rfl, by simpa using h3⟩
    · rintro ⟨q, h1, rfl, h2⟩
      exact List.mem_map.2 ⟨q, List.mem_filter.2 ⟨h1, by simp [h2]⟩, rfl⟩
  obtain ⟨k1, k2⟩ := Mip.ord_all (nd := ndf m Q) (l := (part F Q t.1).map Nq.flow) (fun f hf => by
    obtain ⟨q, h1, rfl, _⟩ := (hm f).1 hf
    exact hc q h1) hn (part F Q t.1).length [] List.nodup_nil (fun x hx => by cases hx) (by simp)
  rw [← h.ord t ht] at k1 k2
  exact ⟨k1, fun e => (k2 e).trans (hm e)⟩
/-- How often a flow stands in tasks. -/
theorem Tks.count {m : Mil.Bytes → Option Int} {F : List Flo} {Q : List Nq} {T : List (Nat × List Nat)} (h : Tks m F Q T) (hq : Fq m F Q) (hc : ∀ q ∈ Q, ¬ Mip.Way (ndf m Q) q.flow q.flow) {e : Nat} {f : Flo} (hf : F[e]? = some f) : (T.flatMap Prod.snd).count e = if f.inp then 0 else 1 := by
  have hmem : e ∈ T.flatMap Prod.snd ↔ ∃ q ∈ Q, q.flow = e := by
    constructor
    · intro he
      obtain ⟨t, h1, h2⟩ := List.mem_flatMap.1 he
      obtain ⟨q, h3, h4, _⟩ := ((h.order hq hc h1).2 e).1 h2
      exact ⟨q, h3, h4⟩
    · rintro ⟨q, h1, rfl⟩
      obtain ⟨t, h2, h3⟩ := List.mem_map.1 ((h.all (perAt F q.flow)).2 ⟨q, h1, rfl⟩)
      exact List.mem_flatMap.2 ⟨t, h2, ((h.order hq hc h2).2 q.flow).2 ⟨q, h1, rfl, h3.symm⟩⟩
  have hnd : (T.flatMap Prod.snd).Nodup := by
    unfold List.Nodup
    rw [List.pairwise_flatMap]
    refine ⟨fun t ht => (h.order hq hc ht).1, ?_⟩
    have hu := h.up
    rw [List.pairwise_map] at hu
    refine List.Pairwise.imp_of_mem (fun {a b} ha hb hlt x hx y hy e => ?_) hu
    obtain ⟨_, _, _, e1⟩ := ((h.order hq hc ha).2 x).1 hx
    obtain ⟨_, _, _, e2⟩ := ((h.order hq hc hb).2 y).1 hy
    rw [e] at e1
    omega
  cases hi : f.inp with
  | true =>
    have : e ∉ T.flatMap Prod.snd := fun he => by
      obtain ⟨q, h1, rfl⟩ := hmem.1 he
      obtain ⟨f', h2, h3⟩ := hq.eqf q h1
      rw [hf] at h2
      obtain rfl := Option.some.inj h2
      rw [hi] at h3; cases h3
    simpa using List.count_eq_zero.2 this
  | false =>
    have : e ∈ T.flatMap Prod.snd := hmem.2 (hq.fe e f hf hi)
    have h1 := hnd.count (a := e)
    rw [if_pos this] at h1
    simpa using h1
end Go.Proofs.YtibbjohkiigffaaGreatDoor
