/-
  The walks: 'all', 'Different', 'Names'.
-/
import Derived.Test.YtogomoocnnbjoaaDoorRows
import Derived.Test.YtogomoocnnbjoaaDoorErrs
import Derived.WalkKit
import Derived.WalkSpells
import Derived.WalkLawsBesides
import Derived.LaidEql
import Derived.Deep.RegionWith
import Derived.Deep.RegionHeld3
import Derived.Deep.CutRange
namespace Go.Proofs.YtogomoocnnbjoaaDoor
open Go.RowKit

/-- An error: a pointer to an errorString. -/
abbrev er (a : Nat → Addr) (i : Nat) : Value := .iface 28 (.pointer (some (a i)))

/-- The list that 'all' makes. -/
abbrev allCells (a : Nat → Addr) : Array Value := #[er a 4, er a 5, er a 6, er a 7, er a 8, er a 9, er a 10, er a 11, er a 12, er a 13, er a 14, er a 15, er a 16]

set_option maxHeartbeats 400000 in
theorem all_any (a : Nat → Addr) (w : World) (h : ∀ i, i < 17 → w.cell? ⟨i, 0, none⟩ = some (er a i)) :
    Calls Tryd.prog 5 #[] w fun e w' => e = .returned (.slice (some ⟨w.heap.size, 0, none⟩) 13 13) ∧ w' = w.alloc (.cells (allCells a) 26) := by
  have h4 := h 4 (by decide)
  have h5 := h 5 (by decide)
  have h6 := h 6 (by decide)
  have h7 := h 7 (by decide)
  have h8 := h 8 (by decide)
  have h9 := h 9 (by decide)
  have h10 := h 10 (by decide)
  have h11 := h 11 (by decide)
  have h12 := h 12 (by decide)
  have h13 := h 13 (by decide)
  have h14 := h 14 (by decide)
  have h15 := h 15 (by decide)
  have h16 := h 16 (by decide)
  clear h
  go_enter Tryd.func5, Tryd.ntmps5
  go_wp2
  go_ret
  exact ⟨rfl, rfl⟩



theorem size_of_cell {w : World} {b o : Nat} {v : Value} (h : w.cell? ⟨b, o, none⟩ = some v) : b < w.heap.size := by
  rcases Nat.lt_or_ge b w.heap.size with h' | h'
  · exact h'
  · simp [World.cell?, Array.getElem?_eq_none h'] at h

/-- What 'Different' has made ahead of its loops. -/
def Made (a : Nat → Addr) (w w1 : World) (s12 : Value) : Prop :=
  ∃ b1 b2 b3, s12 = .slice (some ⟨b3, 0, none⟩) 2 2 ∧ w1.cell? ⟨b3, 0, none⟩ = some (.slice (some ⟨b1, 0, none⟩) 13 13) ∧ w1.cell? ⟨b3, 1, none⟩ = some (.slice (some ⟨b2, 0, none⟩) 4 4) ∧
    (∀ i, i < 13 → w1.cell? ⟨b1, i, none⟩ = some (er a (4 + i))) ∧ (∀ i, i < 4 → w1.cell? ⟨b2, i, none⟩ = some (er a i)) ∧ Below w.heap.size w w1

theorem lt13 {i : Nat} (h : i < 13) : i = 0 ∨ i = 1 ∨ i = 2 ∨ i = 3 ∨ i = 4 ∨ i = 5 ∨ i = 6 ∨ i = 7 ∨ i = 8 ∨ i = 9 ∨ i = 10 ∨ i = 11 ∨ i = 12 := by omega
theorem lt4 {i : Nat} (h : i < 4) : i = 0 ∨ i = 1 ∨ i = 2 ∨ i = 3 := by omega

theorem made_first (a : Nat → Addr) (w : World) :
    Made a w (((w.alloc (.cells (allCells a) 26)).alloc (.cells #[er a 0, er a 1, er a 2, er a 3] 26)).alloc (.cells #[.slice (some ⟨w.heap.size, 0, none⟩) 13 13, .slice (some ⟨w.heap.size + 1, 0, none⟩) 4 4] 23)).drew (.slice (some ⟨w.heap.size + 1 + 1, 0, none⟩) 2 2) := by
  refine ⟨w.heap.size, w.heap.size + 1, w.heap.size + 1 + 1, rfl, by go_simp, by go_simp, ?_, ?_, ?_⟩
  · intro i hi
    rcases lt13 hi with rfl | rfl | rfl | rfl | rfl | rfl | rfl | rfl | rfl | rfl | rfl | rfl | rfl <;> go_simp
  · intro i hi
    rcases lt4 hi with rfl | rfl | rfl | rfl <;> go_simp
  · exact ((((Below.refl _ _).alloc (Nat.le_refl _) _).alloc (by simp) _).alloc (by simp; omega) _).drew

theorem made_second (a : Nat → Addr) (w : World) :
    Made a w (((w.alloc (.cells #[er a 0, er a 1, er a 2, er a 3] 26)).alloc (.cells (allCells a) 26)).alloc (.cells #[.slice (some ⟨w.heap.size + 1, 0, none⟩) 13 13, .slice (some ⟨w.heap.size, 0, none⟩) 4 4] 23)).drew (.slice (some ⟨w.heap.size + 1 + 1, 0, none⟩) 2 2) := by
  refine ⟨w.heap.size + 1, w.heap.size, w.heap.size + 1 + 1, rfl, by go_simp, by go_simp, ?_, ?_, ?_⟩
  · intro i hi
    rcases lt13 hi with rfl | rfl | rfl | rfl | rfl | rfl | rfl | rfl | rfl | rfl | rfl | rfl | rfl <;> go_simp
  · intro i hi
    rcases lt4 hi with rfl | rfl | rfl | rfl <;> go_simp
  · exact ((((Below.refl _ _).alloc (Nat.le_refl _) _).alloc (by simp) _).alloc (by simp; omega) _).drew

/-- One of the two lists. -/
theorem list_at {a : Nat → Addr} {w1 : World} {b1 b2 b3 : Nat} (c0 : w1.cell? ⟨b3, 0, none⟩ = some (.slice (some ⟨b1, 0, none⟩) 13 13)) (c1 : w1.cell? ⟨b3, 1, none⟩ = some (.slice (some ⟨b2, 0, none⟩) 4 4))
    (l1 : ∀ i, i < 13 → w1.cell? ⟨b1, i, none⟩ = some (er a (4 + i))) (l2 : ∀ i, i < 4 → w1.cell? ⟨b2, i, none⟩ = some (er a i)) (t : Nat) (ht : t < 2) :
    ∃ b n o : Nat, w1.cell? ⟨b3, t, none⟩ = some (.slice (some ⟨b, 0, none⟩) n n) ∧ (∀ i, i < n → w1.cell? ⟨b, i, none⟩ = some (er a (o + i))) ∧ n ≤ 13 ∧ o + n ≤ 17 := by
  have h : t = 0 ∨ t = 1 := by omega
  rcases h with rfl | rfl
  · exact ⟨b1, 13, 4, c0, l1, by decide, by decide⟩
  · exact ⟨b2, 4, 0, c1, fun i hi => by rw [Nat.zero_add]; exact l2 i hi, by decide, by decide⟩

/-- All errors are different ones. -/
def Parted (a : Nat → Addr) (w : World) : Prop := ∀ i k, k < i → i < 17 → (binOp .eql 26 (er a k) (er a i)).run Tryd.prog w = .ok (.bool false) w

set_option maxHeartbeats 1000000 in
theorem different_any (a : Nat → Addr) (w : World) (h : ∀ i, i < 17 → w.cell? ⟨i, 0, none⟩ = some (er a i)) (hp : ∀ w1, Below w.heap.size w w1 → Parted a w1) :
    Calls Tryd.prog 4 #[] w fun e w' => e = .returned (.bool true) ∧ Below w.heap.size w w' := by
  have h0 := h 0 (by decide)
  have h1 := h 1 (by decide)
  have h2 := h 2 (by decide)
  have h3 := h 3 (by decide)
  have z0 := size_of_cell h0
  have z1 := size_of_cell h1
  have z2 := size_of_cell h2
  have z3 := size_of_cell h3
  have H : Hid (∀ i, i < 17 → w.cell? ⟨i, 0, none⟩ = some (er a i)) := h
  clear h
  go_enter Tryd.func4, Tryd.ntmps4
  go_upto_region 1 with fail
  go_cut [12, 13, 14] from 6 to 14 (fun s12 s13 s14 w1 => Made a w w1 s12 ∧ s13 = .int .i64 2 ∧ s14 = .int .i64 0)
  case first =>
    go_region_held3 (fun w' => w'.cell? ⟨0, 0, none⟩ = some (er a 0) ∧ w'.cell? ⟨1, 0, none⟩ = some (er a 1) ∧ w'.cell? ⟨2, 0, none⟩ = some (er a 2) ∧ w'.cell? ⟨3, 0, none⟩ = some (er a 3)) (exact ⟨cell_later (by repeat (first | exact Below.refl _ _ | refine Below.drew ?_ | refine Below.alloc ?_ (by first | (simp; done) | (simp; omega)) _)) h0, cell_later (by repeat (first | exact Below.refl _ _ | refine Below.drew ?_ | refine Below.alloc ?_ (by first | (simp; done) | (simp; omega)) _)) h1, cell_later (by repeat (first | exact Below.refl _ _ | refine Below.drew ?_ | refine Below.alloc ?_ (by first | (simp; done) | (simp; omega)) _)) h2, cell_later (by repeat (first | exact Below.refl _ _ | refine Below.drew ?_ | refine Below.alloc ?_ (by first | (simp; done) | (simp; omega)) _)) h3⟩) (first | (go_at_call 5; refine (all_any a _ ?_).mono ?_; exact fun i hi => cell_later (by repeat (first | exact Below.refl _ _ | refine Below.drew ?_ | refine Below.alloc ?_ (by first | (simp; done) | (simp; omega)) _)) (H.out i hi); rintro e w' ⟨rfl, rfl⟩))
    all_goals (go_wp2_with fail; go_meet)
    case rel => first | exact ⟨made_first a w, rfl, rfl⟩ | exact ⟨made_second a w, rfl, rfl⟩
    case rel => first | exact ⟨made_first a w, rfl, rfl⟩ | exact ⟨made_second a w, rfl, rfl⟩
  case rest =>
    obtain ⟨⟨b1, b2, b3, rfl, c0, c1, l1, l2, hb⟩, rfl, rfl⟩ := hcut
    have hpp := hp wc hb
    have HP : Hid (Parted a wc) := hpp
    have HB : Hid (Below w.heap.size w wc) := hb
    have HL : Hid (∀ t, t < 2 → ∃ b n o : Nat, wc.cell? ⟨b3, t, none⟩ = some (.slice (some ⟨b, 0, none⟩) n n) ∧ (∀ i, i < n → wc.cell? ⟨b, i, none⟩ = some (er a (o + i))) ∧ n ≤ 13 ∧ o + n ≤ 17) := fun t ht => list_at c0 c1 l1 l2 t ht
    clear hp hpp hb c0 c1 l1 l2 h0 h1 h2 h3 z0 z1 z2 z3 H
    go_wp2
    go_loop [14] (fun s14 => ∃ t : Nat, t ≤ 2 ∧ s14 = .int .i64 t) (fun s14 => 2 - (intOf s14).toNat)
    case atStart => exact ⟨0, by decide, rfl⟩
    case round =>
      obtain ⟨t, ht, rfl⟩ := hrel
      by_cases htt : t < 2
      · obtain ⟨b, n, o, hc, hl, hn, hon⟩ := HL.out t htt
        go_wp2
        go_loop [20] (fun s20 => ∃ i : Nat, i ≤ n ∧ s20 = .int .i64 i) (fun s20 => n - (intOf s20).toNat)
        case atStart => exact ⟨0, Nat.zero_le _, rfl⟩
        case round =>
          obtain ⟨i, hi, rfl⟩ := hrel
          by_cases hin : i < n
          · have hci := hl i hin
            go_wp2
            go_loop [5] (fun s5 => ∃ k : Nat, k ≤ i ∧ s5 = .int .i64 k) (fun s5 => i - (intOf s5).toNat)
            case atStart => exact ⟨0, Nat.zero_le _, rfl⟩
            case round =>
              obtain ⟨k, hk, rfl⟩ := hrel
              by_cases hki : k < i
              · have hck := hl k (by omega)
                have hkn : k < n := by omega
                have hq := HP.out (o + i) (o + k) (by omega) (by omega)
                go_wp2
                go_round
                case rel => exact ⟨k + 1, by omega, by go_num⟩
                case measure => simp [intOf]; omega
              · go_wp2
                go_round
                case rel => exact ⟨i + 1, by omega, by go_num⟩
                case measure => simp [intOf]; omega
          · go_wp2
            go_round
            case rel => exact ⟨t + 1, by omega, by go_num⟩
            case measure => simp [intOf]; omega
      · go_wp2
        go_ret
        exact ⟨rfl, HB.out⟩

set_option maxHeartbeats 400000 in
theorem names_any (a : Nat → Addr) (w : World) (h : ∀ i, i < 17 → w.cell? ⟨i, 0, none⟩ = some (er a i)) (hp : ∀ w1, Below w.heap.size w w1 → Parted a w1) :
    Calls Tryd.prog 3 #[] w fun e w' => e = .returned (.bool true) ∧ Below w.heap.size w w' := by
  have hd := different_any a w h hp
  have HD : Hid (Calls Tryd.prog 4 #[] w fun e w' => e = .returned (.bool true) ∧ Below w.heap.size w w') := hd
  clear hd h hp
  go_enter Tryd.func3, Tryd.ntmps3
  go_wp2_with (go_at_call 4; refine HD.out.mono ?_; rintro e w' ⟨rfl, hb⟩)
  go_ret
  exact ⟨rfl, hb⟩

end Go.Proofs.YtogomoocnnbjoaaDoor
