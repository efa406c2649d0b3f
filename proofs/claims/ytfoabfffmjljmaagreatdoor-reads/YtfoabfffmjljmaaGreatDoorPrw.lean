/-
  Print's walk: over the lines of its items, whatever they are.
-/
import Derived.Test.YtfoabfffmjljmaaGreatDoorPrt
namespace Go.Proofs.YtfoabfffmjljmaaGreatDoor
open Go.RowKit

theorem own_below {w w' : World} {base : Nat} {e : TypeId} {size : Nat} {v : Value} {n : Nat} {xs : List Value} (ho : w.ownsRow base e size v n xs) (hb : Below w.heap.size w w') : w'.ownsRow base e size v n xs := by
  refine ⟨ho.1, ?_⟩
  rcases ho.2 with hn | ⟨g, cap, cur, rfl, hbg, hgg, rest⟩
  · exact .inl hn
  · exact .inr ⟨g, cap, cur, rfl, hbg, (hb.block g (Array.getElem?_eq_some_iff.1 hgg).1).trans hgg, rest⟩
theorem isB_below {T e : TypeId} {B b : Nat} {x : List Value} {w w' : World} (h : Lib.IsBuilder T e B b x w) (hb : Below w.heap.size w w') : Lib.IsBuilder T e B b x w' := by
  have k : ∀ p, Lib.BuilderAt T e B b p x w → Lib.BuilderAt T e B b p x w' := by
    rintro p ⟨h1, v, h2, h3, h4⟩
    exact ⟨h1, v, (hb.block b (Array.getElem?_eq_some_iff.1 h2).1).trans h2, own_below h3 hb, h4⟩
  exact h.imp (k _) (k _)

/-- What a line's call is. -/
def LineOk (W : World) (x : Mil.Bytes) (fn : FuncId) (ty : TypeId) (y : Value) : Prop :=
  ((ty = 112 ∧ fn = 124) ∨ (ty = 115 ∧ fn = 126) ∨ (ty = 120 ∧ fn = 131)) ∧ ∀ w, Below W.heap.size W w → Calls Tryz.prog fn #[y] w (TxPost x w)
theorem kLine1 (v : Value) (w : World) : (Go.method 326 112 v "ratemill/mill.line").run Tryz.prog w = .ok (124, v) w := by kernel_rfl
theorem kLine2 (v : Value) (w : World) : (Go.method 326 115 v "ratemill/mill.line").run Tryz.prog w = .ok (126, v) w := by kernel_rfl
theorem kLine3 (v : Value) (w : World) : (Go.method 326 120 v "ratemill/mill.line").run Tryz.prog w = .ok (131, v) w := by kernel_rfl
def lines (xs : List Mil.Bytes) : Mil.Bytes := (xs.map (· ++ Mil.endB)).flatten
theorem lines_len : ∀ xs : List Mil.Bytes, (∀ x, x ∈ xs → x.length ≤ 30000) → (lines xs).length ≤ 30002 * xs.length
  | [], _ => by simp [lines]
  | x :: r, h => by
    have h1 := h x (by simp)
    have h2 := lines_len r (fun y hy => h y (by simp [hy]))
    simp [lines, Mil.endB] at h2 ⊢
    omega
theorem lines_take (xs : List Mil.Bytes) (j : Nat) (x : Mil.Bytes) (h : xs[j]? = some x) : lines (xs.take (j + 1)) = lines (xs.take j) ++ x ++ Mil.endB := by
  obtain ⟨hj, rfl⟩ := List.getElem?_eq_some_iff.1 h
  rw [List.take_succ_eq_append_getElem hj]
  unfold lines
  rw [List.map_append, List.flatten_append]
  simp only [List.map_cons, List.map_nil, List.flatten_cons, List.flatten_nil, List.append_nil, List.append_assoc]

theorem writeString_any (B b : Nat) (l : List UInt8) (x : Mil.Bytes) (w : World) (h : Lib.IsBuilder 43 5 B b (Lib.byteCells l) w) (hlen : l.length + x.length ≤ 140737488355328) (hBw : B ≤ w.heap.size) :
    Calls Tryz.prog 9 #[.pointer (some ⟨b, 0, none⟩), .string (bs x)] w fun e w' => e = .returned (.tuple #[.int .i64 (bs x).size, .nilIface]) ∧ Lib.IsBuilder 43 5 B b (Lib.byteCells (l ++ x)) w' ∧ Below B w w' := by
  refine (Any.Builder_WriteString (P := Tryz.prog) (ρ := Tryz.lays156_ren) { Tryz.lays156 with } Tryz.Builder_Extra_156 B b (Lib.byteCells l) (bs x) w h (by simpa [Lib.byteCells, bs_size] using hlen) hBw).mono ?_
  rintro e w' ⟨rfl, h1, h2⟩
  refine ⟨rfl, Or.inr ?_, h2⟩
  rw [Lib.byteCells_append]
  have e1 : Lib.strCells (bs x) = Lib.byteCells x := Lib.strCells_toArray x
  rw [← e1]
  exact h1

theorem print_nil (w : World) : Calls Tryz.prog 6 #[.pointer none] w (TxPost [] w) := by
  go_enter Tryz.func6, Tryz.ntmps6
  go_wp2
  go_ret
  exact ⟨rfl, Below.refl _ _⟩

set_option maxHeartbeats 4000000 in
theorem print_walk (w : World) (t g cap : Nat) (xs : List Mil.Bytes) (hn : xs.length ≤ 60) (hx : ∀ x, x ∈ xs → x.length ≤ 30000)
    (ht : w.heap[t]? = some (.cells #[.slice (some ⟨g, 0, none⟩) xs.length cap] 46 (0, 0))) (hg : g < w.heap.size)
    (hl : ∀ (j : Nat) (x : Mil.Bytes), xs[j]? = some x → ∃ fn ty y, w.cell? ⟨g, j, none⟩ = some (.iface ty y) ∧ LineOk w x fn ty y) :
    Calls Tryz.prog 6 #[.pointer (some ⟨t, 0, none⟩)] w (TxPost (lines xs) w) := by
  have ct : w.cell? ⟨t, 0, none⟩ = some (.slice (some ⟨g, 0, none⟩) xs.length cap) := by rw [cell_of_row w t 0 _ _ _ ht]; rfl
  have htl : t < w.heap.size := (Array.getElem?_eq_some_iff.1 ht).1
  have HN : Hid (xs.length ≤ 60) := hn
  have HX : Hid (∀ x, x ∈ xs → x.length ≤ 30000) := hx
  have HL : Hid (∀ (j : Nat) (x : Mil.Bytes), xs[j]? = some x → ∃ fn ty y, w.cell? ⟨g, j, none⟩ = some (.iface ty y) ∧ LineOk w x fn ty y) := hl
  have HGl : Hid (g < w.heap.size) := hg
  have ct1 : (w.alloc (.cells #[.pointer none, .slice none 0 0] 43)).cell? ⟨t, 0, none⟩ = some (.slice (some ⟨g, 0, none⟩) xs.length cap) := by
    rw [← ct]
    exact ((Below.refl w.heap.size w).alloc (Nat.le_refl _) _).cell htl
  have HI : Hid (Lib.IsBuilder 43 5 w.heap.size w.heap.size (Lib.byteCells (lines (xs.take 0))) (w.alloc (.cells #[.pointer none, .slice none 0 0] 43))) := Lib.fresh_isBuilder _ _ _
  have HB : Hid (Below w.heap.size w (w.alloc (.cells #[.pointer none, .slice none 0 0] 43))) := (Below.refl _ _).alloc (Nat.le_refl _) _
  clear hn hx ht hg hl ct htl
  go_enter Tryz.func6, Tryz.ntmps6
  go_wp2_with fail
  go_loopg [13] xs.length (fun gk s13 wr => ∃ j : Nat, j ≤ xs.length ∧ s13 = .int .i64 j ∧ gk = xs.length - j ∧ Hid (Lib.IsBuilder 43 5 w.heap.size w.heap.size (Lib.byteCells (lines (xs.take j))) wr) ∧ Hid (Below w.heap.size w wr))
  case atStart => exact ⟨0, Nat.zero_le _, rfl, rfl, HI, HB⟩
  case round =>
    obtain ⟨j, hj, rfl, hgk, HIj, HBj⟩ := hrel
    have HG : Hid (gk = xs.length - j) := hgk
    have HJ : Hid (j ≤ xs.length) := hj
    have h60 := HN.out
    have HLn : Hid ((lines (xs.take j)).length ≤ 1800120) := by
      have h1 := lines_len (xs.take j) (fun x hx => HX.out x (List.mem_of_mem_take hx))
      have h2 : (xs.take j).length ≤ 60 := by rw [List.length_take]; omega
      show _ ≤ _
      omega
    clear hgk HI HB ct1
    by_cases hlt : j < xs.length
    · obtain ⟨x, hxj⟩ : ∃ x, xs[j]? = some x := ⟨_, List.getElem?_eq_getElem hlt⟩
      obtain ⟨fn, ty, y, hc, hM, hC⟩ := HL.out j x hxj
      have hcj : wr.cell? ⟨g, j, none⟩ = some (.iface ty y) := (HBj.out.cell HGl.out).trans hc
      have HC : Hid (∀ w', Below w.heap.size w w' → Calls Tryz.prog fn #[y] w' (TxPost x w')) := hC
      have HXJ : Hid (xs[j]? = some x) := hxj
      have HX1 : Hid (x.length ≤ 30000) := HX.out x (List.mem_of_getElem? hxj)
      clear hc hC hxj
      rcases hM with ⟨rfl, rfl⟩ | ⟨rfl, rfl⟩ | ⟨rfl, rfl⟩
      · have hk := kLine1
        go_wp2_with fail
        refine (HC.out _ HBj.out).mono ?_
        rintro e w1 ⟨rfl, hb1⟩
        have HI1 : Hid (Lib.IsBuilder 43 5 w.heap.size w.heap.size (Lib.byteCells (lines (xs.take j))) w1) := isB_below HIj.out hb1
        have HB1 : Hid (Below w.heap.size w w1) := below_step HBj.out hb1
        clear hb1 hcj
        go_wp2_with fail
        refine (writeString_any _ _ _ x _ HI1.out (by have := HLn.out; have := HX1.out; omega) HB1.out.size).mono ?_
        rintro e w2 ⟨rfl, hi2, hb2⟩
        have HI2 : Hid (Lib.IsBuilder 43 5 w.heap.size w.heap.size (Lib.byteCells (lines (xs.take j) ++ x)) w2) := hi2
        have HB2 : Hid (Below w.heap.size w w2) := HB1.out.trans hb2
        clear hi2 hb2
        go_wp2_with fail
        refine (writeString_any _ _ _ Mil.endB _ HI2.out (by have := HLn.out; have := HX1.out; rw [List.length_append]; simp only [Mil.endB, List.length_cons, List.length_nil]; omega) HB2.out.size).mono ?_
        rintro e w3 ⟨rfl, hi3, hb3⟩
        have HI3 : Hid (Lib.IsBuilder 43 5 w.heap.size w.heap.size (Lib.byteCells (lines (xs.take (j + 1)))) w3) := by rw [lines_take xs j x HXJ.out]; exact hi3
        have HB3 : Hid (Below w.heap.size w w3) := HB2.out.trans hb3
        clear hi3 hb3 HI1 HI2
        go_wp2
        go_roundg (xs.length - (j + 1))
        case measure => have := HG.out; omega
        case rel => exact ⟨j + 1, hlt, by go_num, rfl, HI3, HB3⟩
      · have hk := kLine2
        go_wp2_with fail
        refine (HC.out _ HBj.out).mono ?_
        rintro e w1 ⟨rfl, hb1⟩
        have HI1 : Hid (Lib.IsBuilder 43 5 w.heap.size w.heap.size (Lib.byteCells (lines (xs.take j))) w1) := isB_below HIj.out hb1
        have HB1 : Hid (Below w.heap.size w w1) := below_step HBj.out hb1
        clear hb1 hcj
        go_wp2_with fail
        refine (writeString_any _ _ _ x _ HI1.out (by have := HLn.out; have := HX1.out; omega) HB1.out.size).mono ?_
        rintro e w2 ⟨rfl, hi2, hb2⟩
        have HI2 : Hid (Lib.IsBuilder 43 5 w.heap.size w.heap.size (Lib.byteCells (lines (xs.take j) ++ x)) w2) := hi2
        have HB2 : Hid (Below w.heap.size w w2) := HB1.out.trans hb2
        clear hi2 hb2
        go_wp2_with fail
        refine (writeString_any _ _ _ Mil.endB _ HI2.out (by have := HLn.out; have := HX1.out; rw [List.length_append]; simp only [Mil.endB, List.length_cons, List.length_nil]; omega) HB2.out.size).mono ?_
        rintro e w3 ⟨rfl, hi3, hb3⟩
        have HI3 : Hid (Lib.IsBuilder 43 5 w.heap.size w.heap.size (Lib.byteCells (lines (xs.take (j + 1)))) w3) := by rw [lines_take xs j x HXJ.out]; exact hi3
        have HB3 : Hid (Below w.heap.size w w3) := HB2.out.trans hb3
        clear hi3 hb3 HI1 HI2
        go_wp2
        go_roundg (xs.length - (j + 1))
        case measure => have := HG.out; omega
        case rel => exact ⟨j + 1, hlt, by go_num, rfl, HI3, HB3⟩
      · have hk := kLine3
        go_wp2_with fail
        refine (HC.out _ HBj.out).mono ?_
        rintro e w1 ⟨rfl, hb1⟩
        have HI1 : Hid (Lib.IsBuilder 43 5 w.heap.size w.heap.size (Lib.byteCells (lines (xs.take j))) w1) := isB_below HIj.out hb1
        have HB1 : Hid (Below w.heap.size w w1) := below_step HBj.out hb1
        clear hb1 hcj
        go_wp2_with fail
        refine (writeString_any _ _ _ x _ HI1.out (by have := HLn.out; have := HX1.out; omega) HB1.out.size).mono ?_
        rintro e w2 ⟨rfl, hi2, hb2⟩
        have HI2 : Hid (Lib.IsBuilder 43 5 w.heap.size w.heap.size (Lib.byteCells (lines (xs.take j) ++ x)) w2) := hi2
        have HB2 : Hid (Below w.heap.size w w2) := HB1.out.trans hb2
        clear hi2 hb2
        go_wp2_with fail
        refine (writeString_any _ _ _ Mil.endB _ HI2.out (by have := HLn.out; have := HX1.out; rw [List.length_append]; simp only [Mil.endB, List.length_cons, List.length_nil]; omega) HB2.out.size).mono ?_
        rintro e w3 ⟨rfl, hi3, hb3⟩
        have HI3 : Hid (Lib.IsBuilder 43 5 w.heap.size w.heap.size (Lib.byteCells (lines (xs.take (j + 1)))) w3) := by rw [lines_take xs j x HXJ.out]; exact hi3
        have HB3 : Hid (Below w.heap.size w w3) := HB2.out.trans hb3
        clear hi3 hb3 HI1 HI2
        go_wp2
        go_roundg (xs.length - (j + 1))
        case measure => have := HG.out; omega
        case rel => exact ⟨j + 1, hlt, by go_num, rfl, HI3, HB3⟩
    · have HE : Hid (xs.take j = xs) := List.take_of_length_le (by omega)
      go_wp2_with fail
      rw [HE.out] at HIj
      refine (Tryz.Builder_String_any _ _ _ _ HIj.out HBj.out.size).mono ?_
      rintro e w1 ⟨rfl, hb1⟩
      go_wp2
      go_ret
      exact ⟨rfl, HBj.out.trans hb1⟩

set_option maxHeartbeats 1000000 in
theorem print_empty (w : World) (t : Nat) (ht : w.heap[t]? = some (.cells #[.slice none 0 0] 46 (0, 0))) :
    Calls Tryz.prog 6 #[.pointer (some ⟨t, 0, none⟩)] w (TxPost [] w) := by
  have ct : w.cell? ⟨t, 0, none⟩ = some (.slice none 0 0) := by rw [cell_of_row w t 0 _ _ _ ht]; rfl
  have htl : t < w.heap.size := (Array.getElem?_eq_some_iff.1 ht).1
  have ct1 : (w.alloc (.cells #[.pointer none, .slice none 0 0] 43)).cell? ⟨t, 0, none⟩ = some (.slice none 0 0) := by
    rw [← ct]
    exact ((Below.refl w.heap.size w).alloc (Nat.le_refl _) _).cell htl
  have HI : Hid (Lib.IsBuilder 43 5 w.heap.size w.heap.size (Lib.byteCells []) (w.alloc (.cells #[.pointer none, .slice none 0 0] 43))) := Lib.fresh_isBuilder _ _ _
  have HB : Hid (Below w.heap.size w (w.alloc (.cells #[.pointer none, .slice none 0 0] 43))) := (Below.refl _ _).alloc (Nat.le_refl _) _
  clear ht ct htl
  go_enter Tryz.func6, Tryz.ntmps6
  go_wp2_with fail
  refine wp_loop_rounds 1 ?_
  rw [rounds_succ]
  go_wp2_with fail
  refine (Tryz.Builder_String_any _ _ _ _ HI.out HB.out.size).mono ?_
  rintro e w1 ⟨rfl, hb1⟩
  go_wp2
  go_ret
  exact ⟨rfl, HB.out.trans hb1⟩

end Go.Proofs.YtfoabfffmjljmaaGreatDoor
