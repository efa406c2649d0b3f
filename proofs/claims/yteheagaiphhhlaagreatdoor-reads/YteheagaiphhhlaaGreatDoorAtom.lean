/-
  Atoms, branch by branch.
-/
import Derived.Test.YteheagaiphhhlaaGreatDoorPap
namespace Go.Proofs.YteheagaiphhhlaaGreatDoor
namespace Mil

theorem sees_other {s : St} {x y : Bytes} (h : sees s x = true) (hxy : (x == y) = false) : sees s y = false := by
  obtain ⟨h1, h2⟩ := sees_kind3 h
  unfold sees
  rw [h2, hxy]; simp
theorem sees_no1 {s : St} {x : Bytes} (h : sees s x = true) : ¬ s.tok.kind = 1 := by
  rw [(sees_kind3 h).1]; decide
theorem sees_nam1 {s : St} (h : s.tok.kind = 1) (x : Bytes) : sees s x = false := by
  unfold sees; rw [h]; rfl

def Rfby (s : St) (x : E) (t : St) : Prop := ∃ s2 c s4 y, want s sOpen = some s2 ∧ constant s2 = some c ∧ want c.2 sComma = some s4 ∧ Ok 0 eNil s4 y ∧ want y.2 sShut = some t ∧ x = eFby c.1 y.1
def Runder (s : St) (x : E) (t : St) : Prop := ∃ s2 y s4 k, want s sOpen = some s2 ∧ Ok 0 eNil s2 y ∧ want y.2 sComma = some s4 ∧ number 2 1000 s4 = some k ∧ want k.2 sShut = some t ∧ x = eUnder y.1 k.1
def Rhold (s : St) (x : E) (t : St) : Prop := ∃ s2 c s4 y s6 k, want s sOpen = some s2 ∧ constant s2 = some c ∧ want c.2 sComma = some s4 ∧ Ok 0 eNil s4 y ∧ want y.2 sComma = some s6 ∧ number 2 1000 s6 = some k ∧ want k.2 sShut = some t ∧ x = eHold c.1 y.1 k.1
def Rleast (m : Bytes) (s : St) (x : E) (t : St) : Prop := ∃ s2 y s4 z, want s sOpen = some s2 ∧ Ok 0 eNil s2 y ∧ want y.2 sComma = some s4 ∧ Ok 0 eNil s4 z ∧ want z.2 sShut = some t ∧ x = eLeast m y.1 z.1

theorem atom_name {s : St} (h : s.tok.kind = 1) (x : E × St) : Ok 8 eNil s x ↔ (name s).map (fun y => (eName y.1, y.2)) = some x := by
  constructor
  · intro kk
    obtain ⟨n, hn⟩ := inv_atom kk
    unfold atom at hn
    rw [if_pos h] at hn
    exact hn
  · intro kk
    refine ok_atom0 fun f => ?_
    unfold atom
    rw [if_pos h]
    exact kk
theorem atom_open {s : St} (h : sees s sOpen = true) (x : E × St) : Ok 8 eNil s x ↔ ∃ s1 y s3, adv s = some s1 ∧ Ok 0 eNil s1 y ∧ want y.2 sShut = some s3 ∧ x = (y.1, s3) := by
  constructor
  · intro kk
    obtain ⟨n, hn⟩ := inv_atom kk
    unfold atom at hn
    rw [if_neg (sees_no1 h), if_pos h] at hn
    obtain ⟨s1, h1, hn⟩ := Option.bind_eq_some_iff.1 hn
    obtain ⟨y, h2, hn⟩ := Option.bind_eq_some_iff.1 hn
    obtain ⟨s3, h3, hn⟩ := Option.map_eq_some_iff.1 hn
    exact ⟨s1, y, s3, h1, ⟨n, h2⟩, h3, hn.symm⟩
  · rintro ⟨s1, y, s3, h1, ⟨n, h2⟩, h3, rfl⟩
    refine ok_atom (n := n) ?_
    unfold atom
    rw [if_neg (sees_no1 h), if_pos h, h1, Option.bind_some, h2, Option.bind_some, h3]; rfl
theorem atom_fby {s : St} (h : sees s wFby = true) (x : E × St) : Ok 8 eNil s x ↔ ∃ s1, adv s = some s1 ∧ Rfby s1 x.1 x.2 := by
  have o1 := sees_other h (y := sOpen) (by decide)
  constructor
  · intro kk
    obtain ⟨n, hn⟩ := inv_atom kk
    unfold atom at hn
    rw [if_neg (sees_no1 h), o1, if_neg (by decide), if_pos h] at hn
    obtain ⟨s1, h1, hn⟩ := Option.bind_eq_some_iff.1 hn
    obtain ⟨s2, h2, hn⟩ := Option.bind_eq_some_iff.1 hn
    obtain ⟨c, h3, hn⟩ := Option.bind_eq_some_iff.1 hn
    obtain ⟨s4, h4, hn⟩ := Option.bind_eq_some_iff.1 hn
    obtain ⟨y, h5, hn⟩ := Option.bind_eq_some_iff.1 hn
    obtain ⟨s6, h6, rfl⟩ := Option.map_eq_some_iff.1 hn
    exact ⟨s1, h1, s2, c, s4, y, h2, h3, h4, ⟨n, h5⟩, h6, rfl⟩
  · rintro ⟨s1, h1, s2, c, s4, y, h2, h3, h4, ⟨n, h5⟩, h6, h7⟩
    refine ok_atom (n := n) ?_
    unfold atom
    rw [if_neg (sees_no1 h), o1, if_neg (by decide), if_pos h, h1, Option.bind_some, h2, Option.bind_some, h3, Option.bind_some, h4, Option.bind_some, h5, Option.bind_some, h6, ← h7]; rfl
theorem atom_under {s : St} (h : sees s wUnder = true) (x : E × St) : Ok 8 eNil s x ↔ ∃ s1, adv s = some s1 ∧ Runder s1 x.1 x.2 := by
  have o1 := sees_other h (y := sOpen) (by decide)
  have o2 := sees_other h (y := wFby) (by decide)
  constructor
  · intro kk
    obtain ⟨n, hn⟩ := inv_atom kk
    unfold atom at hn
    rw [if_neg (sees_no1 h), o1, if_neg (by decide), o2, if_neg (by decide), if_pos h] at hn
    obtain ⟨s1, h1, hn⟩ := Option.bind_eq_some_iff.1 hn
    obtain ⟨s2, h2, hn⟩ := Option.bind_eq_some_iff.1 hn
    obtain ⟨y, h3, hn⟩ := Option.bind_eq_some_iff.1 hn
    obtain ⟨s4, h4, hn⟩ := Option.bind_eq_some_iff.1 hn
    obtain ⟨k, h5, hn⟩ := Option.bind_eq_some_iff.1 hn
    obtain ⟨s6, h6, rfl⟩ := Option.map_eq_some_iff.1 hn
    exact ⟨s1, h1, s2, y, s4, k, h2, ⟨n, h3⟩, h4, h5, h6, rfl⟩
  · rintro ⟨s1, h1, s2, y, s4, k, h2, ⟨n, h3⟩, h4, h5, h6, h7⟩
    refine ok_atom (n := n) ?_
    unfold atom
    rw [if_neg (sees_no1 h), o1, if_neg (by decide), o2, if_neg (by decide), if_pos h, h1, Option.bind_some, h2, Option.bind_some, h3, Option.bind_some, h4, Option.bind_some, h5, Option.bind_some, h6, ← h7]; rfl
theorem atom_hold {s : St} (h : sees s wHold = true) (x : E × St) : Ok 8 eNil s x ↔ ∃ s1, adv s = some s1 ∧ Rhold s1 x.1 x.2 := by
  have o1 := sees_other h (y := sOpen) (by decide)
  have o2 := sees_other h (y := wFby) (by decide)
  have o3 := sees_other h (y := wUnder) (by decide)
  constructor
  · intro kk
    obtain ⟨n, hn⟩ := inv_atom kk
    unfold atom at hn
    rw [if_neg (sees_no1 h), o1, if_neg (by decide), o2, if_neg (by decide), o3, if_neg (by decide), if_pos h] at hn
    obtain ⟨s1, h1, hn⟩ := Option.bind_eq_some_iff.1 hn
    obtain ⟨s2, h2, hn⟩ := Option.bind_eq_some_iff.1 hn
    obtain ⟨c, h3, hn⟩ := Option.bind_eq_some_iff.1 hn
    obtain ⟨s4, h4, hn⟩ := Option.bind_eq_some_iff.1 hn
    obtain ⟨y, h5, hn⟩ := Option.bind_eq_some_iff.1 hn
    obtain ⟨s6, h6, hn⟩ := Option.bind_eq_some_iff.1 hn
    obtain ⟨k, h7, hn⟩ := Option.bind_eq_some_iff.1 hn
    obtain ⟨s8, h8, rfl⟩ := Option.map_eq_some_iff.1 hn
    exact ⟨s1, h1, s2, c, s4, y, s6, k, h2, h3, h4, ⟨n, h5⟩, h6, h7, h8, rfl⟩
  · rintro ⟨s1, h1, s2, c, s4, y, s6, k, h2, h3, h4, ⟨n, h5⟩, h6, h7, h8, h9⟩
    refine ok_atom (n := n) ?_
    unfold atom
    rw [if_neg (sees_no1 h), o1, if_neg (by decide), o2, if_neg (by decide), o3, if_neg (by decide), if_pos h, h1, Option.bind_some, h2, Option.bind_some, h3, Option.bind_some, h4, Option.bind_some, h5, Option.bind_some, h6, Option.bind_some, h7, Option.bind_some, h8, ← h9]; rfl
theorem atom_least {s : St} {m : Bytes} (hm : m = wMin ∨ m = wMax) (h : sees s m = true) (x : E × St) : Ok 8 eNil s x ↔ ∃ s1, adv s = some s1 ∧ Rleast m s1 x.1 x.2 := by
  have o1 : sees s sOpen = false := sees_other h (by rcases hm with rfl | rfl <;> decide)
  have o2 : sees s wFby = false := sees_other h (by rcases hm with rfl | rfl <;> decide)
  have o3 : sees s wUnder = false := sees_other h (by rcases hm with rfl | rfl <;> decide)
  have o4 : sees s wHold = false := sees_other h (by rcases hm with rfl | rfl <;> decide)
  have o5 : (sees s wMin || sees s wMax) = true := by
    rcases hm with rfl | rfl
    · rw [h]; rfl
    · rw [h]; simp
  have ht := (sees_kind3 h).2
  constructor
  · intro kk
    obtain ⟨n, hn⟩ := inv_atom kk
    unfold atom at hn
    rw [if_neg (sees_no1 h), o1, if_neg (by decide), o2, if_neg (by decide), o3, if_neg (by decide), o4, if_neg (by decide), if_pos o5] at hn
    obtain ⟨s1, h1, hn⟩ := Option.bind_eq_some_iff.1 hn
    obtain ⟨s2, h2, hn⟩ := Option.bind_eq_some_iff.1 hn
    obtain ⟨y, h3, hn⟩ := Option.bind_eq_some_iff.1 hn
    obtain ⟨s4, h4, hn⟩ := Option.bind_eq_some_iff.1 hn
    obtain ⟨z, h5, hn⟩ := Option.bind_eq_some_iff.1 hn
    obtain ⟨s6, h6, rfl⟩ := Option.map_eq_some_iff.1 hn
    exact ⟨s1, h1, s2, y, s4, z, h2, ⟨n, h3⟩, h4, ⟨n, h5⟩, h6, by rw [ht]⟩
  · rintro ⟨s1, h1, s2, y, s4, z, h2, ⟨n, h3⟩, h4, ⟨n2, h5⟩, h6, h7⟩
    have f3 := px_le (show n ≤ n + n2 by omega) h3
    have f5 := px_le (show n2 ≤ n + n2 by omega) h5
    refine ok_atom (n := n + n2) ?_
    unfold atom
    rw [if_neg (sees_no1 h), o1, if_neg (by decide), o2, if_neg (by decide), o3, if_neg (by decide), o4, if_neg (by decide), if_pos o5, h1, Option.bind_some, h2, Option.bind_some, f3, Option.bind_some, h4, Option.bind_some, f5, Option.bind_some, h6, ht, ← h7]; rfl
theorem atom_lit {s : St} (h0 : s.tok.kind ≠ 1) (o1 : sees s sOpen = false) (o2 : sees s wFby = false) (o3 : sees s wUnder = false) (o4 : sees s wHold = false) (o5 : sees s wMin = false) (o6 : sees s wMax = false) (x : E × St) :
    Ok 8 eNil s x ↔ literal s = some x := by
  constructor
  · intro kk
    obtain ⟨n, hn⟩ := inv_atom kk
    unfold atom at hn
    rw [if_neg h0, o1, if_neg (by decide), o2, if_neg (by decide), o3, if_neg (by decide), o4, if_neg (by decide), o5, o6, if_neg (by decide)] at hn
    exact hn
  · intro kk
    refine ok_atom0 fun f => ?_
    unfold atom
    rw [if_neg h0, o1, if_neg (by decide), o2, if_neg (by decide), o3, if_neg (by decide), o4, if_neg (by decide), o5, o6, if_neg (by decide)]
    exact kk

end Mil
end Go.Proofs.YteheagaiphhhlaaGreatDoor
