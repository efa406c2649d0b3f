/-
  typeOf, walked. (Printed by gen_ct.py.)
-/
import Derived.Test.YtibbjohkiigffaaGreatDoorCr
import Derived.Deep.OwnRows
namespace Go.Proofs.YtibbjohkiigffaaGreatDoor
open Go.RowKit

def TB (N : Nat) (a : Nat → Addr) (c b n : Nat) (m : Mil.Bytes → Option Int) (g : Nat) (F : List Flo) (e : Mip.E) : Prop :=
  (∃ T y, ev N e = .iface T y) ∧ (Mip.unres m e = none → ∀ (ts : List Nat) (q : Nat) (w : World), ts.length = (Mip.kids e).length → Cw a c b n m g F w → Laid a w → Tyc w q ts →
    Calls Tryz.prog 67 #[.pointer (some ⟨c, 0, none⟩), ev N e, .slice (some ⟨q, 0, none⟩) ts.length ts.length] w (TbPost (Mip.tyBy m F (Mip.tg e) (Mip.tx e) ts) w))
theorem len_one {ts : List Nat} (h : ts.length = 1) : ∃ u, ts = [u] := by
  match ts, h with
  | [u], _ => exact ⟨u, rfl⟩
theorem len_two {ts : List Nat} (h : ts.length = 2) : ∃ u v, ts = [u, v] := by
  match ts, h with
  | [u, v], _ => exact ⟨u, v, rfl⟩
theorem len_three {ts : List Nat} (h : ts.length = 3) : ∃ u v z, ts = [u, v, z] := by
  match ts, h with
  | [u, v, z], _ => exact ⟨u, v, z, rfl⟩
theorem typeBy_any (N : Nat) (a' : Nat → Addr) (c b' n : Nat) (m : Mil.Bytes → Option Int) (g : Nat) (F : List Flo) (hfit : Fit' m F) : ∀ e, Mil.wf (Mip.er e) false → TB N a' c b' n m g F e := by
  refine Mip.tree_induct ?_ ?_ ?_ ?_ ?_ ?_ ?_ ?_ ?_ ?_
  · intro p k _
    have e0 : ev N (Mip.eInt p k) = .iface 194 (.agg #[.int .i64 ((N : Int) - (p : Nat)), .int .i64 (k : Nat)]) := by
      show Value.iface 194 (.agg #[.int .i64 ((N : Int) - (p : Nat)), .int .i64 (k : Nat)]) = _
      rfl
    refine ⟨⟨_, _, e0⟩, fun hu ts q w hl hC hL hT => ?_⟩
    obtain rfl : ts = [] := List.length_eq_zero_iff.1 hl
    rw [e0]
    exact typeBy_int N a' c b' n m g F p k q w hC hL hT
  · intro p k _
    have e0 : ev N (Mip.eBool p k) = .iface 196 (.agg #[.int .i64 ((N : Int) - (p : Nat)), .bool (k == 1)]) := by
      show Value.iface 196 (.agg #[.int .i64 ((N : Int) - (p : Nat)), .bool (k == 1)]) = _
      rfl
    refine ⟨⟨_, _, e0⟩, fun hu ts q w hl hC hL hT => ?_⟩
    obtain rfl : ts = [] := List.length_eq_zero_iff.1 hl
    rw [e0]
    exact typeBy_bool N a' c b' n m g F p k q w hC hL hT
  · intro p x hx
    have e0 : ev N (Mip.eName p x) = .iface 85 (.agg #[.int .i64 ((N : Int) - (p : Nat)), .string (bs x)]) := by
      show Value.iface 85 (.agg #[.int .i64 ((N : Int) - (p : Nat)), .string (bs x)]) = _
      rfl
    refine ⟨⟨_, _, e0⟩, fun hu ts q w hl hC hL hT => ?_⟩
    obtain rfl : ts = [] := List.length_eq_zero_iff.1 hl
    rw [e0]
    exact typeBy_name N a' c b' n m g F p x (by have := hx.2.2.1; omega) (by simp [Mip.unres, Mip.eName] at hu; exact Option.isSome_iff_ne_none.2 hu) hfit q w hC hL hT
  · intro p x a hx iha
    obtain ⟨⟨ta, ya, ea⟩, _⟩ := iha
    have e0 : ev N (Mip.ePre p x a) = .iface 186 (.agg #[.int .i64 ((N : Int) - (p : Nat)), .string (bs x), .iface ta ya]) := by
      show Value.iface 186 (.agg #[.int .i64 ((N : Int) - (p : Nat)), .string (bs x), ev N a]) = _
      rw [ea]
    refine ⟨⟨_, _, e0⟩, fun hu ts q w hl hC hL hT => ?_⟩
    obtain ⟨ua, rfl⟩ := len_one hl
    rw [e0]
    exact typeBy_pre N a' c b' n m g F p x ta ya ua q w hC hL hT
  · intro p x a b hx iha ihb
    obtain ⟨⟨ta, ya, ea⟩, _⟩ := iha
    obtain ⟨⟨tb, yb, eb⟩, _⟩ := ihb
    have e0 : ev N (Mip.eTwo p x a b) = .iface 188 (.agg #[.int .i64 ((N : Int) - (p : Nat)), .string (bs x), .iface ta ya, .iface tb yb]) := by
      show Value.iface 188 (.agg #[.int .i64 ((N : Int) - (p : Nat)), .string (bs x), ev N a, ev N b]) = _
      rw [ea, eb]
    refine ⟨⟨_, _, e0⟩, fun hu ts q w hl hC hL hT => ?_⟩
    obtain ⟨ua, ub, rfl⟩ := len_two hl
    rw [e0]
    exact typeBy_two N a' c b' n m g F p x ta ya ua tb yb ub hx q w hC hL hT
  · intro p y a b d iha ihb ihd
    obtain ⟨⟨ta, ya, ea⟩, _⟩ := iha
    obtain ⟨⟨tb, yb, eb⟩, _⟩ := ihb
    obtain ⟨⟨td, yd, ed⟩, _⟩ := ihd
    have e0 : ev N ((.node 6 0 ([], p) a (.node 0 0 ([], y) b d))) = .iface 190 (.agg #[.int .i64 ((N : Int) - (p : Nat)), .iface ta ya, .iface tb yb, .iface td yd]) := by
      show Value.iface 190 (.agg #[.int .i64 ((N : Int) - (p : Nat)), ev N a, ev N b, ev N d]) = _
      rw [ea, eb, ed]
    refine ⟨⟨_, _, e0⟩, fun hu ts q w hl hC hL hT => ?_⟩
    obtain ⟨ua, ub, ud, rfl⟩ := len_three hl
    rw [e0]
    exact typeBy_if N a' c b' n m g F p ta ya ua tb yb ub td yd ud q w hC hL hT
  · intro p a b iha ihb
    obtain ⟨⟨ta, ya, ea⟩, _⟩ := iha
    obtain ⟨⟨tb, yb, eb⟩, _⟩ := ihb
    have e0 : ev N (Mip.eFby p a b) = .iface 173 (.agg #[.int .i64 ((N : Int) - (p : Nat)), .iface ta ya, .iface tb yb]) := by
      show Value.iface 173 (.agg #[.int .i64 ((N : Int) - (p : Nat)), ev N a, ev N b]) = _
      rw [ea, eb]
    refine ⟨⟨_, _, e0⟩, fun hu ts q w hl hC hL hT => ?_⟩
    obtain ⟨ua, ub, rfl⟩ := len_two hl
    rw [e0]
    exact typeBy_fby N a' c b' n m g F p ta ya ua tb yb ub q w hC hL hT
  · intro p a k h2 hk iha
    obtain ⟨⟨ta, ya, ea⟩, _⟩ := iha
    have e0 : ev N (Mip.eUnder p a k) = .iface 168 (.agg #[.int .i64 ((N : Int) - (p : Nat)), .iface ta ya, .int .i64 (k : Nat)]) := by
      show Value.iface 168 (.agg #[.int .i64 ((N : Int) - (p : Nat)), ev N a, .int .i64 (k : Nat)]) = _
      rw [ea]
    refine ⟨⟨_, _, e0⟩, fun hu ts q w hl hC hL hT => ?_⟩
    obtain ⟨ua, rfl⟩ := len_one hl
    rw [e0]
    exact typeBy_under N a' c b' n m g F p k ta ya ua q w hC hL hT
  · intro p a b k h2 hk iha ihb
    obtain ⟨⟨ta, ya, ea⟩, _⟩ := iha
    obtain ⟨⟨tb, yb, eb⟩, _⟩ := ihb
    have e0 : ev N (Mip.eHold p a b k) = .iface 171 (.agg #[.int .i64 ((N : Int) - (p : Nat)), .iface ta ya, .iface tb yb, .int .i64 (k : Nat)]) := by
      show Value.iface 171 (.agg #[.int .i64 ((N : Int) - (p : Nat)), ev N a, ev N b, .int .i64 (k : Nat)]) = _
      rw [ea, eb]
    refine ⟨⟨_, _, e0⟩, fun hu ts q w hl hC hL hT => ?_⟩
    obtain ⟨ua, ub, rfl⟩ := len_two hl
    rw [e0]
    exact typeBy_hold N a' c b' n m g F p k ta ya ua tb yb ub q w hC hL hT
  · intro p x a b hx iha ihb
    obtain ⟨⟨ta, ya, ea⟩, _⟩ := iha
    obtain ⟨⟨tb, yb, eb⟩, _⟩ := ihb
    have e0 : ev N (Mip.eLeast p x a b) = .iface 192 (.agg #[.int .i64 ((N : Int) - (p : Nat)), .string (bs x), .iface ta ya, .iface tb yb]) := by
      show Value.iface 192 (.agg #[.int .i64 ((N : Int) - (p : Nat)), .string (bs x), ev N a, ev N b]) = _
      rw [ea, eb]
    refine ⟨⟨_, _, e0⟩, fun hu ts q w hl hC hL hT => ?_⟩
    obtain ⟨ua, ub, rfl⟩ := len_two hl
    rw [e0]
    exact typeBy_least N a' c b' n m g F p x ta ya ua tb yb ub q w hC hL hT

/-- What typeOf answers. -/
def ToPost (a : Nat → Addr) (o : Option Nat) (w : World) (E : Ending) (w' : World) : Prop :=
  Below w.heap.size w w' ∧ ((∃ t, o = some t ∧ E = .returned (.tuple #[.int .i64 (t : Nat), .pointer none])) ∨ (o = none ∧ ∃ d p, E = .returned (.tuple #[.int .i64 0, .pointer (some ⟨d, 0, none⟩)]) ∧ Dg a w' d p 7))
def TC (N : Nat) (a : Nat → Addr) (c b n : Nat) (m : Mil.Bytes → Option Int) (g : Nat) (F : List Flo) (e : Mip.E) : Prop :=
  Mip.unres m e = none → ∀ w, Cw a c b n m g F w → Laid a w → Calls Tryz.prog 45 #[.pointer (some ⟨c, 0, none⟩), ev N e] w (ToPost a (Mip.tyOf m F e) w)
def tyF (us : List Nat) (j : Nat) : Value := .int .i64 ((us.getD j 0 : Nat) : Int)
theorem tyF_snoc (us : List Nat) (t j : Nat) : (if j = us.length then Value.int .i64 (t : Nat) else tyF us j) = tyF (us ++ [t]) j := by
  unfold tyF
  by_cases h : j = us.length
  · rw [if_pos h, h]
    simp
  · rw [if_neg h]
    rcases Nat.lt_or_ge j us.length with h1 | h1
    · simp [List.getElem?_append_left h1]
    · rw [List.getD_eq_getElem?_getD, List.getD_eq_getElem?_getD, List.getElem?_eq_none h1, List.getElem?_eq_none (by simp; omega)]
namespace Mip
theorem tyAll_snoc (m : Mil.Bytes → Option Int) (F : List Flo) : ∀ (l : List E) (q : E), tyAll m F (l ++ [q]) = (tyAll m F l).bind fun us => (tyOf m F q).map fun u => us ++ [u]
  | [], q => by
    show (tyOf m F q).bind _ = _
    cases tyOf m F q <;> rfl
  | x :: r, q => by
    show (tyOf m F x).bind (fun u => (tyAll m F (r ++ [q])).map fun us => u :: us) = ((tyOf m F x).bind fun u => (tyAll m F r).map fun us => u :: us).bind _
    rw [tyAll_snoc m F r q]
    cases tyOf m F x <;> cases tyAll m F r <;> cases tyOf m F q <;> rfl
theorem tyAll_none (m : Mil.Bytes → Option Int) (F : List Flo) : ∀ (l : List E) (j : Nat) (q : E), l[j]? = some q → tyOf m F q = none → tyAll m F l = none
  | [], _, _, h, _ => by simp at h
  | x :: r, 0, q, h, k => by
    have e : x = q := by simpa using h
    show (tyOf m F x).bind _ = none
    rw [e, k]; rfl
  | x :: r, j + 1, q, h, k => by
    show (tyOf m F x).bind (fun u => (tyAll m F r).map fun us => u :: us) = none
    rw [tyAll_none m F r j q (by simpa using h) k]
    cases tyOf m F x <;> rfl
end Mip
theorem kids_list {N : Nat} {w : World} {v : Value} {l : List Mip.E} (h : Kids N w v l) : ∃ o cap, v = .slice o l.length cap ∧ ∀ (j : Nat) (q : Mip.E), l[j]? = some q → ∃ g, o = some ⟨g, 0, none⟩ ∧ w.cell? ⟨g, j, none⟩ = some (ev N q) := by
  rcases h with ⟨rfl, rfl⟩ | ⟨g, rfl, h⟩
  · exact ⟨none, 0, rfl, fun j q hq => by simp at hq⟩
  · exact ⟨_, _, rfl, fun j q hq => ⟨g, rfl, h j q hq⟩⟩
theorem Tryz.infoI : (Tryz.prog.info? 3).map (fun i => (i.zero, i.size, i.bytes)) = some (some (.int .i64 0), 1, 8) := by kernel_rfl

set_option maxRecDepth 100000 in
set_option maxHeartbeats 16000000 in
theorem typeOf_node (N : Nat) (a : Nat → Addr) (c b n : Nat) (m : Mil.Bytes → Option Int) (g : Nat) (F : List Flo) (hfit : Fit' m F) (e : Mip.E) (hw : Mil.wf (Mip.er e) false) (hku : Mip.unres m e = none → ∀ q ∈ Mip.kids e, Mip.unres m q = none) (ih : ∀ q ∈ Mip.kids e, Mil.wf (Mip.er q) false ∧ TC N a c b n m g F q) : TC N a c b n m g F e := by
  intro hu w hC hL
  have HC : Hid (Cw a c b n m g F w) := hC
  have HL : Hid (Laid a w) := hL
  have HH : Hid (23 ≤ w.heap.size) := hC.nm.ce.size
  have HTB := (typeBy_any N a c b n m g F hfit e hw).2 hu
  have IH : Hid (∀ q ∈ Mip.kids e, ∀ w, Cw a c b n m g F w → Laid a w → Calls Tryz.prog 45 #[.pointer (some ⟨c, 0, none⟩), ev N q] w (ToPost a (Mip.tyOf m F q) w)) := fun q hq => (ih q hq).2 (hku hu q hq)
  have HV : Hid (∀ q ∈ Mip.kids e, ∃ T y, ev N q = .iface T y) := fun q hq => ev_iface N q (ih q hq).1
  have HTY : Hid (Mip.tyOf m F e = (Mip.tyAll m F (Mip.kids e)).bind fun ts => Mip.tyPick (Mip.tyBy m F (Mip.tg e) (Mip.tx e) ts)) := Mip.ty_kids m F e hw
  obtain ⟨T, y, he, hpl⟩ := place_of N e hw
  have HO := operands_any N e hw
  rw [he] at HO HTB
  have HO' : Hid (∀ w, Calls Tryz.prog 66 #[.iface T y] w (OpPost N e w)) := HO
  have HB' : Hid (∀ (ts : List Nat) (q : Nat) (w : World), ts.length = (Mip.kids e).length → Cw a c b n m g F w → Laid a w → Tyc w q ts → Calls Tryz.prog 67 #[.pointer (some ⟨c, 0, none⟩), .iface T y, .slice (some ⟨q, 0, none⟩) ts.length ts.length] w (TbPost (Mip.tyBy m F (Mip.tg e) (Mip.tx e) ts) w)) := HTB
  clear hC hL hu hku ih hfit hw HO HTB
  show Calls Tryz.prog 45 #[.pointer (some ⟨c, 0, none⟩), ev N e] w _
  rw [he]
  clear he
  go_enter Tryz.func45, Tryz.ntmps45
  go_wp2_with fail
  refine (HO'.out _).mono ?_
  rintro E w1 ⟨hb1, v, rfl, hK⟩
  obtain ⟨o, cap, rfl, hK2⟩ := kids_list hK
  have HB1 : Hid (Below w.heap.size w w1) := hb1
  have hl3 := Mip.kids_le e
  generalize hl : Mip.kids e = l at hK hK2 IH HV HTY HB' hl3
  have HK2 : Hid (∀ (j : Nat) (q : Mip.E), l[j]? = some q → ∃ g, o = some ⟨g, 0, none⟩ ∧ w1.cell? ⟨g, j, none⟩ = some (ev N q)) := hK2
  clear hl hK hK2 hb1
  have hmk := fun w => run_make_row' (P := Tryz.prog) 36 3 (.int .i64 0) 8 Tryz.underlying36 Tryz.infoI rfl .i64 .i64 l.length (by omega) (by omega) w
  have HR0 : Hid ((w1.alloc (.cells (madeCells #[.int .i64 0] l.length) 3)).rowIs w1.heap.size 3 l.length (tyF [])) := (World.rowIs_made w1 (.int .i64 0) l.length 3).congr (fun i _ => rfl)
  have HBW : Hid (Below w1.heap.size w1 (w1.alloc (.cells (madeCells #[.int .i64 0] l.length) 3))) := (Below.refl _ _).alloc (Nat.le_refl _) _
  have HL3 : Hid (l.length ≤ 3) := hl3
  go_wp2_with fail
  clear hmk
  go_loopg [21] l.length (fun gk s21 wr => ∃ (j : Nat) (us : List Nat), j ≤ l.length ∧ s21 = .int .i64 (j : Nat) ∧ gk = l.length - j ∧ Hid (us.length = j ∧ Mip.tyAll m F (l.take j) = some us) ∧ Hid (Below w1.heap.size w1 wr) ∧ Hid (wr.rowIs w1.heap.size 3 l.length (tyF us)))
  case atStart => exact ⟨0, [], Nat.zero_le _, rfl, rfl, ⟨rfl, rfl⟩, HBW, HR0⟩
  case round =>
    obtain ⟨j, us, hj, rfl, hg, HUS, HW1, HRW⟩ := hrel
    have HG : Hid (gk = l.length - j) := hg
    have HWW : Hid (Below w.heap.size w wr) := below_step HB1.out HW1.out
    clear hg HR0 HBW
    by_cases hlt : j < l.length
    · have HLT : Hid (j < l.length) := hlt
      obtain ⟨q, hq⟩ : ∃ q, l[j]? = some q := ⟨_, List.getElem?_eq_getElem hlt⟩
      obtain ⟨gk2, rfl, hcell⟩ := HK2.out j q hq
      have HQ : Hid (l[j]? = some q) := hq
      have hmem : q ∈ l := List.mem_of_getElem? hq
      obtain ⟨Tq, yq, hev⟩ := HV.out q hmem
      have hcq := (HW1.out.cell (lt_of_cell hcell)).trans hcell
      rw [hev] at hcq
      have IQ := IH.out q hmem
      rw [hev] at IQ
      have IQ' : Hid (∀ w, Cw a c b n m g F w → Laid a w → Calls Tryz.prog 45 #[.pointer (some ⟨c, 0, none⟩), .iface Tq yq] w (ToPost a (Mip.tyOf m F q) w)) := IQ
      have h0 : (0 : Int) ≤ (j : Int) := by omega
      have h1 : (j : Int) < (l.length : Int) := by omega
      clear hq hmem hev IQ hcell
      go_wp2_with fail
      refine (IQ'.out _ (HC.out.below HWW.out) (HL.out.below HH.out HWW.out)).mono ?_
      rintro E w2 ⟨hb2, (⟨t, ht, rfl⟩ | ⟨ht, d, p, rfl, hd⟩)⟩
      · have HT : Hid (Mip.tyOf m F q = some t) := ht
        have HW2 : Hid (Below w1.heap.size w1 w2) := below_step HW1.out hb2
        have HR2 : Hid (w2.rowIs w1.heap.size 3 l.length (tyF us)) := HRW.out.of_block (hb2.block _ HRW.out.lt)
        have c2 := HR2.out.cell HLT.out
        have z2 := HR2.out.frozen j
        have HR3 : Hid ((w2.setCell ⟨w1.heap.size, j, none⟩ (.int .i64 (t : Nat))).rowIs w1.heap.size 3 l.length (tyF (us ++ [t]))) := (HR2.out.set j (.int .i64 (t : Nat))).congr (fun i _ => by rw [← HUS.out.1]; exact tyF_snoc us t i)
        have HU3 : Hid ((us ++ [t]).length = j + 1 ∧ Mip.tyAll m F (l.take (j + 1)) = some (us ++ [t])) := by
          refine ⟨by rw [List.length_append, HUS.out.1]; rfl, ?_⟩
          rw [List.take_add_one, HQ.out]
          show Mip.tyAll m F (l.take j ++ [q]) = _
          rw [Mip.tyAll_snoc, HUS.out.2, HT.out]; rfl
        clear ht hb2 hcq
        go_wp2
        go_roundg (l.length - (j + 1))
        case measure => have := HG.out; have := HLT.out; omega
        case rel => exact ⟨j + 1, us ++ [t], HLT.out, by go_num, rfl, HU3, HW2.out.setCell (Nat.le_refl _) _, HR3⟩
      · have HN : Hid (Mip.tyOf m F e = none) := by show _ = _; rw [HTY.out, Mip.tyAll_none m F l j q HQ.out ht]; rfl
        have HD : Hid (Dg a w2 d p 7) := hd
        have HW2 : Hid (Below w.heap.size w w2) := below_step HWW.out hb2
        clear ht hd hb2 hcq
        go_wp2
        go_ret2
        exact ⟨HW2.out, Or.inr ⟨HN.out, d, p, rfl, HD.out⟩⟩
    · have hle : (l.length : Int) ≤ (j : Int) := by omega
      have HJ : Hid (j = l.length) := by show _ = _; omega
      have HUL : Hid (us.length = l.length ∧ Mip.tyOf m F e = Mip.tyPick (Mip.tyBy m F (Mip.tg e) (Mip.tx e) us)) := by
        have h1 := HUS.out
        rw [HJ.out, List.take_length] at h1
        exact ⟨h1.1, by rw [HTY.out, h1.2]; rfl⟩
      have HTC : Hid (Tyc wr w1.heap.size us) := fun i t hi => by
        have h1 := (List.getElem?_eq_some_iff.1 hi).1
        rw [HRW.out.cell (i := i) (by have := HUL.out.1; omega)]
        unfold tyF
        rw [List.getD_eq_getElem?_getD, hi]; rfl
      clear hlt
      go_wp2_with fail
      have BB := HB'.out us w1.heap.size wr HUL.out.1 (HC.out.below HWW.out) (HL.out.below HH.out HWW.out) HTC.out
      rw [HUL.out.1] at BB
      refine BB.mono ?_
      rintro E w3 ⟨hb3, rfl⟩
      have HW3 : Hid (Below w.heap.size w w3) := below_step HWW.out hb3
      clear BB hb3
      obtain ⟨t, f, hr⟩ : ∃ t f, Mip.tyBy m F (Mip.tg e) (Mip.tx e) us = (t, f) := ⟨_, _, rfl⟩
      have HTF : Hid (Mip.tyOf m F e = Mip.tyPick (t, f)) := by have h := HUL.out.2; rw [hr] at h; exact h
      rw [hr]
      clear hr HUL HUS HTC
      cases f
      · have k7 : ∀ w', Below w3.heap.size w3 w' → w'.cell? ⟨7, 0, none⟩ = some (errV (a 7)) := fun w' h => (HC.out.below (below_step HW3.out h)).nm.ce.e7
        go_wp2_with fail
        go_region_held3 (fun w' => Below w3.heap.size w3 w') (first | assumption | exact (Below.refl _ _).drew | exact Below.alloc (by assumption) (Below.size (by assumption)) _) (first
          | (go_at_call 167; (with_reducible refine (place_any _ _).mono ?_); rintro e w4 ⟨hbw4, rfl⟩; have hBw4 : Below w3.heap.size w3 w4 := below_step (by assumption) hbw4))
        all_goals go_wp2
        all_goals go_ret2
        all_goals exact ⟨below_step (below_step HW3.out (by assumption)) ((Below.refl _ _).alloc (Nat.le_refl _) _), Or.inr ⟨HTF.out, _, _, rfl, dg_new a _ _ rfl _ _⟩⟩
      · go_wp2
        go_ret2
        exact ⟨HW3.out, Or.inl ⟨t, HTF.out, rfl⟩⟩
theorem typeOf_any (N : Nat) (a : Nat → Addr) (c b n : Nat) (m : Mil.Bytes → Option Int) (g : Nat) (F : List Flo) (hfit : Fit' m F) : ∀ e, Mil.wf (Mip.er e) false → TC N a c b n m g F e :=
  Mip.tree_ind (fun p x _ hw => typeOf_node N a c b n m g F hfit _ hw (fun _ q hq => by cases hq) (fun q hq => by cases hq))
    (fun e hw hn hk => typeOf_node N a c b n m g F hfit e hw (fun hu => Mip.first_each m _ (by rw [← Mip.unres_kids m e hw hn]; exact hu)) hk)

end Go.Proofs.YtibbjohkiigffaaGreatDoor
