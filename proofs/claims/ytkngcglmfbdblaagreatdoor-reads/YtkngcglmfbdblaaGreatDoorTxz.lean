/-
  What the printer sees of an expression: its value, whatever the places.
-/
import Derived.Test.YtkngcglmfbdblaaGreatDoorPrt
import Derived.Test.YtkngcglmfbdblaaGreatDoorLit
namespace Go.Proofs.YtkngcglmfbdblaaGreatDoor
open Go.RowKit

/-- That value is that expression, with some places. -/
def Evs (e : Mil.E) (v : Value) : Prop := ∃ (N : Nat) (p : Mip.E), Mip.er p = e ∧ ev N p = v
theorem er_node {p : Mip.E} {t k : Nat} {x : Mil.Bytes} {a b : Mil.E} (h : Mip.er p = .node t k x a b) : ∃ y c d, p = .node t k y c d ∧ y.1 = x ∧ Mip.er c = a ∧ Mip.er d = b := by
  cases p with
  | nil => cases h
  | node t' k' y c d =>
    have h' : (Go.Deep.BT.node t' k' y.1 (Mip.er c) (Mip.er d) : Mil.E) = .node t k x a b := h
    obtain ⟨rfl, rfl, h1, h2, h3⟩ := Go.Deep.BT.node.inj h'
    exact ⟨y, c, d, rfl, h1, h2, h3⟩
theorem evs_int {k : Nat} {v : Value} (h : Evs (Mil.eInt k) v) : ∃ u : Int, v = .iface 173 (.agg #[.int .i64 u, .int .i64 (k : Nat)]) := by
  obtain ⟨N, p, h1, rfl⟩ := h
  obtain ⟨y, c, d, rfl, _, _, _⟩ := er_node h1
  exact ⟨_, rfl⟩
theorem evs_bool {k : Nat} {v : Value} (h : Evs (Mil.eBool k) v) : ∃ u : Int, v = .iface 167 (.agg #[.int .i64 u, .bool (k == 1)]) := by
  obtain ⟨N, p, h1, rfl⟩ := h
  obtain ⟨y, c, d, rfl, _, _, _⟩ := er_node h1
  exact ⟨_, rfl⟩
theorem evs_name {x : Mil.Bytes} {v : Value} (h : Evs (Mil.eName x) v) : ∃ u : Int, v = .iface 106 (.agg #[.int .i64 u, .string (bs x)]) := by
  obtain ⟨N, p, h1, rfl⟩ := h
  obtain ⟨y, c, d, rfl, rfl, _, _⟩ := er_node h1
  exact ⟨_, rfl⟩
theorem evs_pre {x : Mil.Bytes} {p : Mil.E} {v : Value} (h : Evs (Mil.ePre x p) v) : ∃ (u : Int) (vp : Value), v = .iface 136 (.agg #[.int .i64 u, .string (bs x), vp]) ∧ Evs p vp := by
  obtain ⟨N, q, h1, rfl⟩ := h
  obtain ⟨y, c, d, rfl, rfl, h2, _⟩ := er_node h1
  exact ⟨_, _, rfl, N, c, h2, rfl⟩
theorem evs_two {x : Mil.Bytes} {p q : Mil.E} {v : Value} (h : Evs (Mil.eTwo x p q) v) : ∃ (u : Int) (vp vq : Value), v = .iface 139 (.agg #[.int .i64 u, .string (bs x), vp, vq]) ∧ Evs p vp ∧ Evs q vq := by
  obtain ⟨N, z, h1, rfl⟩ := h
  obtain ⟨y, c, d, rfl, rfl, h2, h3⟩ := er_node h1
  exact ⟨_, _, _, rfl, ⟨N, c, h2, rfl⟩, ⟨N, d, h3, rfl⟩⟩
theorem evs_if {p q r : Mil.E} {v : Value} (h : Evs (Mil.eIf p q r) v) : ∃ (u : Int) (vp vq vr : Value), v = .iface 133 (.agg #[.int .i64 u, vp, vq, vr]) ∧ Evs p vp ∧ Evs q vq ∧ Evs r vr := by
  obtain ⟨N, z, h1, rfl⟩ := h
  obtain ⟨y, c, d, rfl, _, h2, h3⟩ := er_node h1
  obtain ⟨y', c', d', rfl, _, h4, h5⟩ := er_node h3
  exact ⟨_, _, _, _, rfl, ⟨N, c, h2, rfl⟩, ⟨N, c', h4, rfl⟩, ⟨N, d', h5, rfl⟩⟩
theorem evs_fby {p q : Mil.E} {v : Value} (h : Evs (Mil.eFby p q) v) : ∃ (u : Int) (vp vq : Value), v = .iface 159 (.agg #[.int .i64 u, vp, vq]) ∧ Evs p vp ∧ Evs q vq := by
  obtain ⟨N, z, h1, rfl⟩ := h
  obtain ⟨y, c, d, rfl, _, h2, h3⟩ := er_node h1
  exact ⟨_, _, _, rfl, ⟨N, c, h2, rfl⟩, ⟨N, d, h3, rfl⟩⟩
theorem evs_under {p : Mil.E} {k : Nat} {v : Value} (h : Evs (Mil.eUnder p k) v) : ∃ (u : Int) (vp : Value), v = .iface 161 (.agg #[.int .i64 u, vp, .int .i64 (k : Nat)]) ∧ Evs p vp := by
  obtain ⟨N, z, h1, rfl⟩ := h
  obtain ⟨y, c, d, rfl, _, h2, _⟩ := er_node h1
  exact ⟨_, _, rfl, N, c, h2, rfl⟩
theorem evs_hold {p q : Mil.E} {k : Nat} {v : Value} (h : Evs (Mil.eHold p q k) v) : ∃ (u : Int) (vp vq : Value), v = .iface 163 (.agg #[.int .i64 u, vp, vq, .int .i64 (k : Nat)]) ∧ Evs p vp ∧ Evs q vq := by
  obtain ⟨N, z, h1, rfl⟩ := h
  obtain ⟨y, c, d, rfl, _, h2, h3⟩ := er_node h1
  exact ⟨_, _, _, rfl, ⟨N, c, h2, rfl⟩, ⟨N, d, h3, rfl⟩⟩
theorem evs_least {x : Mil.Bytes} {p q : Mil.E} {v : Value} (h : Evs (Mil.eLeast x p q) v) : ∃ (u : Int) (vp vq : Value), v = .iface 165 (.agg #[.int .i64 u, .string (bs x), vp, vq]) ∧ Evs p vp ∧ Evs q vq := by
  obtain ⟨N, z, h1, rfl⟩ := h
  obtain ⟨y, c, d, rfl, rfl, h2, h3⟩ := er_node h1
  exact ⟨_, _, _, rfl, ⟨N, c, h2, rfl⟩, ⟨N, d, h3, rfl⟩⟩

end Go.Proofs.YtkngcglmfbdblaaGreatDoor
