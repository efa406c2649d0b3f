/-
  Parse, with the place of a fault.
-/
import Derived.Test.YtfoabfffmjljmaaGreatDoorReadw
namespace Go.Proofs.YtfoabfffmjljmaaGreatDoor
open Go.RowKit

/-- What Parse answers: a tree, a Diag, or ErrLong. -/
def PaPost (N : Nat) (r : Mil.Bytes) (a : Nat → Addr) (w : World) (e : Ending) (w' : World) : Prop :=
  Below w.heap.size w w' ∧
  ((∃ l b o n c t, w.heap.size ≤ b ∧ e = .returned (.tuple #[.pointer (some ⟨t, 0, none⟩), .nilIface]) ∧ Mip.Parsed r l ∧ w'.heap[t]? = some (.cells #[.slice o n c] 46 (0, 0)) ∧ Row N w' b l (.slice o n c)) ∨
   (∃ k at_ d, (k = 1 ∨ k = 2 ∨ k = 3 ∨ k = 4) ∧ e = .returned (.tuple #[.pointer none, .iface 52 (.pointer (some ⟨d, 0, none⟩))]) ∧ w'.heap[d]? = some (.cells #[.int .i64 at_, errV (a k)] 59 (0, 0)) ∧ (∀ l, ¬ Mil.Parsed r l) ∧ r.length ≤ 4000 ∧ Mil.Fault r k at_) ∨
   (e = .returned (.tuple #[.pointer none, errV (a 1)]) ∧ (∀ l, ¬ Mil.Parsed r l) ∧ 4000 < r.length))

set_option maxHeartbeats 1000000 in
theorem parse_any (a : Nat → Addr) (s : ByteArray) (w : World) (L : Laid a w) :
    Calls Tryz.prog 7 #[.string s] w (PaPost s.size s.data.toList a w) := by
  have HL : Hid (Laid a w) := L
  have hlen : s.data.toList.length = s.size := by simp
  have HLN : Hid (s.data.toList.length = s.size) := hlen
  clear hlen
  by_cases hs : s.size ≤ 4000
  · have hgt : ¬ (4000 : Int) < (s.size : Int) := by omega
    have HP : Hid (∀ l, Mil.Parsed s.data.toList l ↔ Mil.Rprog' s.data.toList l) := by
      intro l
      have e4 : ¬ 4000 < s.data.toList.length := by rw [HLN.out]; omega
      constructor
      · rintro ⟨n, hn⟩
        unfold Mil.parse at hn
        rw [if_neg e4] at hn
        obtain ⟨q, h1, h2⟩ := Option.bind_eq_some_iff.1 hn
        exact ⟨q, h1, n, h2⟩
      · rintro ⟨q, h1, n, h2⟩
        refine ⟨n, ?_⟩
        unfold Mil.parse
        rw [if_neg e4, h1, Option.bind_some, h2]
    have HPP : Hid (∀ l, Mip.Rprog' s.data.toList l → Mip.Parsed s.data.toList l) := by
      rintro l ⟨q, h1, n, h2⟩
      refine ⟨n, ?_⟩
      unfold Mip.parse
      rw [if_neg (by rw [HLN.out]; omega), h1, Option.bind_some, h2]
    clear L
    go_enter Tryz.func7, Tryz.ntmps7
    go_wp2_with fail
    refine (readItems_any a s hs _ HL.out).mono ?_
    rintro e w1 ⟨hb1, (⟨l, b, o, n, c, hwb, rfl, hl, hR⟩ | ⟨k, at_, d, hk, rfl, hd, hno⟩)⟩
    · have HR : Hid (Row s.size w1 b l (.slice o n c)) := hR
      have HLL : Hid (Mip.Rprog' s.data.toList l) := hl
      clear hR hl
      go_wp2
      refine bodyPost_ret (v := .tuple #[.pointer (some ⟨w1.heap.size, 0, none⟩), .nilIface]) (by simp [results, Tryz.results7, go_sem]) rfl ⟨hb1.alloc hb1.size _, Or.inl ⟨l, b, o, n, c, w1.heap.size, hwb, rfl, HPP.out l HLL.out, heap_alloc_new w1 _, HR.out.kept ((Kp.refl b w1).alloc _) (Nat.le_refl _)⟩⟩
    · have HN : Hid _ := hno
      clear hno
      go_wp2
      refine bodyPost_ret (v := .tuple #[.pointer none, .iface 52 (.pointer (some ⟨d, 0, none⟩))]) (by simp [results, Tryz.results7, go_sem]) rfl ⟨hb1, Or.inr (Or.inl ⟨k, at_, d, hk, rfl, hd, fun l h => Mil.fault_no HN.out l ((HP.out l).1 h), by have := HLN.out; omega, HN.out⟩)⟩
  · have hgt : (4000 : Int) < (s.size : Int) := by omega
    have cl := L.long
    have HN : Hid (∀ l, ¬ Mil.Parsed s.data.toList l) := by
      rintro l ⟨n, hn⟩
      unfold Mil.parse at hn
      rw [if_pos (by rw [HLN.out]; omega)] at hn
      cases hn
    clear L
    go_enter Tryz.func7, Tryz.ntmps7
    go_wp2
    go_quiet (fail)
    go_wp2
    refine bodyPost_ret (v := .tuple #[.pointer none, errV (a 1)]) (by simp [results, Tryz.results7, go_sem]) rfl ⟨?_, Or.inr (Or.inr ⟨rfl, HN.out, by have := HLN.out; omega⟩)⟩
    first | exact below_drewN (Below.refl _ _) _ | exact (Below.refl _ _).drew | exact Below.refl _ _

end Go.Proofs.YtfoabfffmjljmaaGreatDoor
