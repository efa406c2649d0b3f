/-
  Items, way by way: what reading one must have come through.
-/
import Derived.Test.YteheagaiphhhlaaGreatDoorAtom
import Derived.Test.YteheagaiphhhlaaGreatDoorPap
namespace Go.Proofs.YteheagaiphhhlaaGreatDoor
namespace Mil

def Rname (acc : List Bytes) (s : St) (l : List Bytes × St) : Prop := ∃ n, pnames n acc s = some l
theorem Rname.unique {acc : List Bytes} {s : St} {x y : List Bytes × St} (h : Rname acc s x) (k : Rname acc s y) : x = y := by
  obtain ⟨n, hn⟩ := h
  obtain ⟨m, hm⟩ := k
  have h1 := pnames_le n (n + m) acc s x (by omega) hn
  have h2 := pnames_le m (n + m) acc s y (by omega) hm
  exact Option.some.inj (h1.symm.trans h2)
theorem name_stop {acc : List Bytes} {s : St} (h : sees s sComma = false) : Rname acc s (acc, s) := ⟨1, by rw [pnames, h]; rfl⟩
theorem name_go {acc : List Bytes} {s s1 : St} {x : Bytes × St} {l : List Bytes × St} (h : sees s sComma = true) (h1 : adv s = some s1) (h2 : name s1 = some x) : Rname acc s l ↔ Rname (acc ++ [x.1]) x.2 l := by
  constructor
  · rintro ⟨n, hn⟩
    cases n with
    | zero => cases hn
    | succ n =>
      rw [pnames, if_pos h, h1, Option.bind_some, h2, Option.bind_some] at hn
      exact ⟨n, hn⟩
  · rintro ⟨n, hn⟩
    exact ⟨n + 1, by rw [pnames, if_pos h, h1, Option.bind_some, h2, Option.bind_some]; exact hn⟩
theorem name_inv {acc : List Bytes} {s : St} {l : List Bytes × St} (h : sees s sComma = true) (k : Rname acc s l) : ∃ s1 x, adv s = some s1 ∧ name s1 = some x := by
  obtain ⟨n, hn⟩ := k
  cases n with
  | zero => cases hn
  | succ n =>
    rw [pnames, if_pos h] at hn
    obtain ⟨s1, h1, hn⟩ := Option.bind_eq_some_iff.1 hn
    obtain ⟨x, h2, hn⟩ := Option.bind_eq_some_iff.1 hn
    exact ⟨s1, x, h1, h2⟩

def Rin (s : St) (i : It) (t : St) : Prop := ∃ x s3 y s5 k, name s = some x ∧ want x.2 sColon = some s3 ∧ ftype s3 = some y ∧ want y.2 wEvery = some s5 ∧ number 1 1000000 s5 = some k ∧ want k.2 sSemi = some t ∧ i = ⟨1, x.1, y.1, k.1, [], eNil⟩
def Rout (s : St) (i : It) (t : St) : Prop := ∃ x l, name s = some x ∧ Rname [x.1] x.2 l ∧ want l.2 sSemi = some t ∧ i = ⟨2, [], 0, 0, l.1, eNil⟩
def Req (s : St) (i : It) (t : St) : Prop := ∃ x s2 y s4 e, name s = some x ∧ want x.2 sColon = some s2 ∧ ftype s2 = some y ∧ want y.2 sIs = some s4 ∧ Ok 0 eNil s4 e ∧ want e.2 sSemi = some t ∧ i = ⟨3, x.1, y.1, 0, [], e.1⟩
def Rit (s : St) (i : It) (t : St) : Prop := ∃ n, pitem n s = some (i, t)
theorem Rit.unique {s : St} {i j : It} {t u : St} (h : Rit s i t) (k : Rit s j u) : (i, t) = (j, u) := by
  obtain ⟨n, hn⟩ := h
  obtain ⟨m, hm⟩ := k
  have h1 := pitem_le (show n ≤ n + m by omega) hn
  have h2 := pitem_le (show m ≤ n + m by omega) hm
  exact Option.some.inj (h1.symm.trans h2)

theorem it_in {s : St} (h : sees s wInput = true) (i : It) (t : St) : Rit s i t ↔ ∃ s1, adv s = some s1 ∧ Rin s1 i t := by
  constructor
  · rintro ⟨n, hn⟩
    unfold pitem at hn
    rw [if_pos h] at hn
    obtain ⟨s1, h1, hn⟩ := Option.bind_eq_some_iff.1 hn
    obtain ⟨x, h2, hn⟩ := Option.bind_eq_some_iff.1 hn
    obtain ⟨s3, h3, hn⟩ := Option.bind_eq_some_iff.1 hn
    obtain ⟨y, h4, hn⟩ := Option.bind_eq_some_iff.1 hn
    obtain ⟨s5, h5, hn⟩ := Option.bind_eq_some_iff.1 hn
    obtain ⟨k, h6, hn⟩ := Option.bind_eq_some_iff.1 hn
    obtain ⟨s7, h7, hn⟩ := Option.map_eq_some_iff.1 hn
    obtain ⟨rfl, rfl⟩ := Prod.mk.inj hn
    exact ⟨s1, h1, x, s3, y, s5, k, h2, h3, h4, h5, h6, h7, rfl⟩
  · rintro ⟨s1, h1, x, s3, y, s5, k, h2, h3, h4, h5, h6, h7, rfl⟩
    refine ⟨0, ?_⟩
    unfold pitem
    rw [if_pos h, h1, Option.bind_some, h2, Option.bind_some, h3, Option.bind_some, h4, Option.bind_some, h5, Option.bind_some, h6, Option.bind_some, h7]; rfl
theorem it_out {s : St} (h : sees s wOutput = true) (i : It) (t : St) : Rit s i t ↔ ∃ s1, adv s = some s1 ∧ Rout s1 i t := by
  have o1 := sees_other h (y := wInput) (by decide)
  constructor
  · rintro ⟨n, hn⟩
    unfold pitem at hn
    rw [o1, if_neg (by decide), if_pos h] at hn
    obtain ⟨s1, h1, hn⟩ := Option.bind_eq_some_iff.1 hn
    obtain ⟨x, h2, hn⟩ := Option.bind_eq_some_iff.1 hn
    obtain ⟨l, h3, hn⟩ := Option.bind_eq_some_iff.1 hn
    obtain ⟨s7, h7, hn⟩ := Option.map_eq_some_iff.1 hn
    obtain ⟨rfl, rfl⟩ := Prod.mk.inj hn
    exact ⟨s1, h1, x, l, h2, ⟨n, h3⟩, h7, rfl⟩
  · rintro ⟨s1, h1, x, l, h2, ⟨n, h3⟩, h7, rfl⟩
    refine ⟨n, ?_⟩
    unfold pitem
    rw [o1, if_neg (by decide), if_pos h, h1, Option.bind_some, h2, Option.bind_some, h3, Option.bind_some, h7]; rfl
theorem it_eq {s : St} (o1 : sees s wInput = false) (o2 : sees s wOutput = false) (i : It) (t : St) : Rit s i t ↔ Req s i t := by
  constructor
  · rintro ⟨n, hn⟩
    unfold pitem at hn
    rw [o1, if_neg (by decide), o2, if_neg (by decide)] at hn
    obtain ⟨x, h2, hn⟩ := Option.bind_eq_some_iff.1 hn
    obtain ⟨s3, h3, hn⟩ := Option.bind_eq_some_iff.1 hn
    obtain ⟨y, h4, hn⟩ := Option.bind_eq_some_iff.1 hn
    obtain ⟨s5, h5, hn⟩ := Option.bind_eq_some_iff.1 hn
    obtain ⟨e, h6, hn⟩ := Option.bind_eq_some_iff.1 hn
    obtain ⟨s7, h7, hn⟩ := Option.map_eq_some_iff.1 hn
    obtain ⟨rfl, rfl⟩ := Prod.mk.inj hn
    exact ⟨x, s3, y, s5, e, h2, h3, h4, h5, ⟨n, h6⟩, h7, rfl⟩
  · rintro ⟨x, s3, y, s5, e, h2, h3, h4, h5, ⟨n, h6⟩, h7, rfl⟩
    refine ⟨n, ?_⟩
    unfold pitem
    rw [o1, if_neg (by decide), o2, if_neg (by decide), h2, Option.bind_some, h3, Option.bind_some, h4, Option.bind_some, h5, Option.bind_some, h6, Option.bind_some, h7]; rfl

end Mil
end Go.Proofs.YteheagaiphhhlaaGreatDoor
