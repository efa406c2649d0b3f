/-
  The two texts that reads() tries; reads(), walked.
-/
import Derived.Test.YtfoabfffmjljmaaGreatDoorPlp
import Derived.Test.YtfoabfffmjljmaaGreatDoorPrn
namespace Go.Proofs.YtfoabfffmjljmaaGreatDoor
open Go.RowKit

namespace Mil
theorem Parsed.unique {b : Bytes} {x y : List It} (h : Parsed b x) (k : Parsed b y) : x = y := by
  obtain ⟨n, h⟩ := h
  obtain ⟨m, k⟩ := k
  unfold parse at h k
  by_cases c : 4000 < b.length
  · rw [if_pos c] at h; cases h
  · rw [if_neg c] at h k
    obtain ⟨s, h1, h2⟩ := Option.bind_eq_some_iff.1 h
    obtain ⟨s', k1, k2⟩ := Option.bind_eq_some_iff.1 k
    obtain rfl := Option.some.inj (h1.symm.trans k1)
    exact Rprog.unique ⟨n, h2⟩ ⟨m, k2⟩

def text1 : Bytes := [97, 58, 105, 110, 116, 61, 40, 49, 43, 50, 41, 42, 51, 45, 40, 52, 42, 53, 41, 59, 111, 117, 116, 112, 117, 116, 32, 97, 59]
def text2 : Bytes := [97, 32, 58, 32, 105, 110, 116, 32, 61, 32, 40, 49, 32, 43, 32, 50, 41, 32, 42, 32, 51, 32, 45, 32, 52, 32, 42, 32, 53, 59, 10, 111, 117, 116, 112, 117, 116, 32, 97, 59, 10]
def text3 : Bytes := [97, 32, 58, 32, 105, 110, 116, 32, 61, 32, 59]
def tree1 : List It := [⟨3, [97], 0, 0, [], eTwo sMinus (eTwo sTimes (eTwo sPlus (eInt 1) (eInt 2)) (eInt 3)) (eTwo sTimes (eInt 4) (eInt 5))⟩, ⟨2, [], 0, 0, [[97]], eNil⟩]
theorem text1_parsed : Parsed text1 tree1 := ⟨30, by kernel_rfl⟩
theorem tree1_print : print tree1 = text2 := by kernel_rfl

def st0 : St := ⟨nam [97], [32, 58, 32, 105, 110, 116, 32, 61, 32, 59], 1⟩
def st1 : St := ⟨fix sColon, [32, 105, 110, 116, 32, 61, 32, 59], 2⟩
def st2 : St := ⟨fix wInt, [32, 61, 32, 59], 3⟩
def st3 : St := ⟨fix sIs, [32, 59], 4⟩
def st4 : St := ⟨fix sSemi, [], 5⟩
theorem k0 : adv' (bs text3).data.toList 0 = some st0 := by kernel_rfl
theorem k1 : name st0 = some ([97], st1) := by kernel_rfl
theorem k2 : want st1 sColon = some st2 := by kernel_rfl
theorem k3 : ftype st2 = some (0, st3) := by kernel_rfl
theorem k4 : want st3 sIs = some st4 := by kernel_rfl
theorem place4 : place (bs text3).size st4 = 10 := by kernel_rfl
end Mil

namespace Mil
theorem fault_unique {b : Bytes} {k k' : Nat} {p p' : Int} (h : Fault b k p) (h' : Fault b k' p') : k = k' ∧ p = p' := by
  have inj : ∀ {α : Type}, (Rz.bad k p : Rz α) = Rz.bad k' p' → k = k' ∧ p = p' := fun e => by
    have := Prod.mk.inj (Except.error.inj (Option.some.inj e))
    exact this
  rcases h with h | ⟨s, h1, n, h2⟩
  · rcases h' with h' | ⟨s', h3, m, h4⟩
    · exact inj (h.symm.trans h')
    · rw [imz_adv' b.length _ _ _ h3] at h; cases h
  · rcases h' with h' | ⟨s', h3, m, h4⟩
    · rw [imz_adv' b.length _ _ _ h1] at h'; cases h'
    · obtain rfl := Option.some.inj (h1.symm.trans h3)
      exact inj ((h2 (n + m) (by omega)).symm.trans (h4 (n + m) (by omega)))
theorem text3_run (m : Nat) : pprogZ 11 (m + 20) [] st0 = .bad 3 10 := by kernel_rfl
theorem text3_fault : Fault text3 3 10 := Or.inr ⟨st0, k0, 20, fun m hm => by
  obtain ⟨q, rfl⟩ : ∃ q, m = q + 20 := ⟨m - 20, by omega⟩
  exact text3_run q⟩
theorem text3_no (l : List It) : ¬ Parsed text3 l := by
  rintro ⟨n, hn⟩
  unfold parse at hn
  rw [if_neg (by decide)] at hn
  obtain ⟨q, h1, h2⟩ := Option.bind_eq_some_iff.1 hn
  exact fault_no text3_fault l ⟨q, h1, n, h2⟩
end Mil

/-- All that the law leans on. -/
structure All (al a : Nat → Addr) (w : World) : Prop where
  p : Pl a w
  e : Errs al w
  s : Same al a
  d : ∀ i k, k < i → i < 13 → al k ≠ al i
theorem All.below {al a : Nat → Addr} {w w' : World} (h : All al a w) (hb : Below w.heap.size w w') : All al a w' := ⟨h.p.below hb, h.e.below hb, h.s, h.d⟩

theorem plain_text3 (al a : Nat → Addr) (w : World) (h : All al a w) :
    Calls Tryz.prog 5 #[.string (bs Mil.text3)] w fun e w' => e = .returned (.tuple #[.pointer none, .agg #[.int .i64 3, .int .i64 10]]) ∧ Below w.heap.size w w' := by
  refine (plainParse_any al a h.s (bs Mil.text3) w h.p.l h.e).mono ?_
  rintro e w' ⟨hb, ⟨l, t, rfl, hp, hT⟩ | ⟨f, at_, _, rfl, _, hF⟩⟩
  · exact absurd hp (Mil.text3_no l)
  · rcases hF with ⟨k, _, rfl, _, hf⟩ | ⟨hl, _⟩
    · obtain ⟨rfl, rfl⟩ := Mil.fault_unique hf Mil.text3_fault
      refine ⟨?_, hb⟩
      have : lastOf al (a 3) 13 = 3 := by
        rw [h.s.h3]
        have n0 : ∀ j, 2 < j → j < 13 → al 2 ≠ al j := fun j h1 h2 => h.d j 2 h1 h2
        simp [lastOf, n0]
      rw [this]
    · exact absurd hl (by decide)
theorem plain_text1 (al a : Nat → Addr) (w : World) (h : All al a w) :
    Calls Tryz.prog 5 #[.string (bs Mil.text1)] w fun e w' => ∃ t, e = .returned (.tuple #[.pointer (some ⟨t, 0, none⟩), .agg #[.int .i64 0, .int .i64 0]]) ∧ TreeAt w' Mil.tree1 t ∧ Below w.heap.size w w' := by
  refine (plainParse_any al a h.s (bs Mil.text1) w h.p.l h.e).mono ?_
  rintro e w' ⟨hb, ⟨l, t, rfl, hp, hT⟩ | ⟨f, at_, _, _, hno, _⟩⟩
  · obtain rfl := Mil.Parsed.unique hp Mil.text1_parsed
    exact ⟨t, rfl, hT, hb⟩
  · exact absurd Mil.text1_parsed (hno _)
theorem print_tree (al a : Nat → Addr) (l : List Mil.It) (r : Mil.Bytes) (hr : Mil.Parsed r l) (t : Nat) (w : World) (h : All al a w) (hT : TreeAt w l t) :
    Calls Tryz.prog 6 #[.pointer (some ⟨t, 0, none⟩)] w (TxPost (Mil.print l) w) := by
  obtain ⟨N, m, rfl, b, o, n, c, h1, h2⟩ := hT
  exact print_any a N m r hr t b o n c w h.p h1 h2

set_option maxHeartbeats 1000000 in
theorem reads_small (al a : Nat → Addr) (w : World) (h : All al a w) :
    Calls Tryz.prog 4 #[] w fun e w' => e = .returned (.bool true) ∧ Below w.heap.size w w' := by
  have H : Hid (All al a w) := h
  clear h
  go_enter Tryz.func4, Tryz.ntmps4
  go_wp2_with fail
  refine (plain_text1 al a _ H.out).mono ?_
  rintro e w1 ⟨t, rfl, hT, hb1⟩
  have H1 : Hid (All al a w1) := H.out.below hb1
  have HT : Hid (TreeAt w1 Mil.tree1 t) := hT
  have HB1 : Hid (Below w.heap.size w w1) := hb1
  clear H hT hb1
  go_wp2_with fail
  have HA1 : Hid (Below w1.heap.size w1 (w1.alloc (.cells #[.int .i64 0, .int .i64 0] 26))) := (Below.refl _ _).alloc (Nat.le_refl _) _
  refine (print_tree al a _ _ Mil.text1_parsed t _ (H1.out.below HA1.out) (HT.out.below HA1.out)).mono ?_
  rintro e w2 ⟨rfl, hb2⟩
  have HB2 : Hid (Below w.heap.size w w2) := below_step (below_step HB1.out HA1.out) hb2
  have H2 : Hid (All al a w2) := (H1.out.below HA1.out).below hb2
  rw [Mil.tree1_print]
  clear H1 HT HB1 HA1 hb2
  go_wp2_with fail
  refine (plain_text3 al a _ H2.out).mono ?_
  rintro e w3 ⟨rfl, hb3⟩
  have HB3 : Hid (Below w.heap.size w w3) := below_step HB2.out hb3
  have hq : (bs Mil.text2).toList = [97, 32, 58, 32, 105, 110, 116, 32, 61, 32, 40, 49, 32, 43, 32, 50, 41, 32, 42, 32, 51, 32, 45, 32, 52, 32, 42, 32, 53, 59, 10, 111, 117, 116, 112, 117, 116, 32, 97, 59, 10] := by decide +kernel
  clear H2 HB2 hb3
  go_wp2
  go_ret
  exact ⟨rfl, below_step HB3.out ((Below.refl _ _).alloc (Nat.le_refl _) _)⟩

end Go.Proofs.YtfoabfffmjljmaaGreatDoor
