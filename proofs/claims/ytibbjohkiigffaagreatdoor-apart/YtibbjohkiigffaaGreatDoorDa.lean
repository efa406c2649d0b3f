/-
  Maps from numbers to whatever values.
-/
import Derived.Test.YtibbjohkiigffaaGreatDoorCy
import Derived.Test.YtibbjohkiigffaaGreatDoorShel2
import Derived.Maps.OwnSet
import Derived.Maps.Keyed
import Derived.Maps.Views
import Derived.Lib.SlKeysI
namespace Go.Proofs.YtibbjohkiigffaaGreatDoor
open Go.RowKit Go.Maps

abbrev rawR (v : Value) : Option (DataW Value × List MemPlace) := some (.held v, [])
def pickV (o : Option Value) (z : DataW Value) : DataW Value := match o with | some v => .held v | none => z
abbrev updN (m : Nat → Option Value) (x : Nat) (v : Value) : Nat → Option Value := fun y => if y = x then some v else m y
abbrev delN (m : Nat → Option Value) (x : Nat) : Nat → Option Value := fun y => if y = x then none else m y
/-- What a map holds. -/
def Holds (D : DataW Value) (m : Nat → Option Value) : Prop := (∀ x : Nat, Maps.has D (.int .i64 (x : Nat)) = (m x).isSome ∧ ∀ z, D.atKey (.int .i64 (x : Nat)) z = pickV (m x) z) ∧ ∀ x : Int, x < 0 → Maps.has D (.int .i64 x) = false
def Mpi (w : World) (b n : Nat) (m : Nat → Option Value) : Prop := ∃ D : DataW Value, w.ownsMap Tryz.prog 3 rawR b n D ∧ Holds D m
theorem neg_ne {x : Nat} {y : Int} (hy : y < 0) : (Lit.int .i64 y) ≠ .int .i64 (x : Nat) := fun h => by
  have h2 : y = (x : Int) := by injection h
  omega
theorem nat_ne {x y : Nat} (hy : y ≠ x) : (Lit.int .i64 (y : Nat)) ≠ .int .i64 (x : Nat) := fun h => by
  have h2 : ((y : Nat) : Int) = (x : Int) := by injection h
  exact hy (Int.ofNat.inj h2)
theorem wfN (x : Nat) (hx : x ≤ 1000000000) : (Lit.int .i64 (x : Nat)).wf = true := by
  have mi : IntKind.i64.min = -9223372036854775808 := by decide
  have ma : IntKind.i64.max = 9223372036854775807 := by decide
  simp [Lit.wf]
  omega
theorem keyN (x : Nat) (hx : x ≤ 1000000000) : keyOf Tryz.prog 3 (.int .i64 (x : Nat)) = some (.int .i64 (x : Nat)) := keyOf_int_mk Tryz.underlying3 (wfN x hx)
theorem Mpi.got {D : DataW Value} {m : Nat → Option Value} {x : Nat} (h : ∀ z, D.atKey (.int .i64 (x : Nat)) z = pickV (m x) z) {v z : Value} {ps : List MemPlace} (hv : rawR v = some (D.atKey (.int .i64 (x : Nat)) (.held z), ps)) : v = (m x).getD z := by
  have h1 : (DataW.held v : DataW Value) = pickV (m x) (.held z) := by
    have := congrArg Prod.fst (Option.some.inj hv)
    rw [h] at this
    exact this
  cases hm : m x with
  | none => rw [hm] at h1; have h2 : (DataW.held v : DataW Value) = .held z := h1; injection h2
  | some u => rw [hm] at h1; have h2 : (DataW.held v : DataW Value) = .held u := h1; injection h2
section
variable {w : World} {b n : Nat} {m : Nat → Option Value}
theorem Mpi.at_ (h : Mpi w b n m) {t e : TypeId} (ht : Tryz.prog.underlying t = some (.map 3 e)) {z : Value} (hz : (zeroValue e).run Tryz.prog w = .ok z w) (x : Nat) (hx : x ≤ 1000000000) :
    (Instr.lookup t (.map (some b)) (.int .i64 (x : Nat)) false).run Tryz.prog w = .ok ((m x).getD z) w := by
  obtain ⟨D, ho, hD⟩ := h
  obtain ⟨v, ps, hrun, hv⟩ := ho.lookup (int_keyed Tryz.underlying3) ht hz (rfl : rawR z = some (.held z, [])) (keyN x hx)
  rw [hrun, Mpi.got (hD.1 x).2 hv]
theorem Mpi.look (h : Mpi w b n m) {t e : TypeId} (ht : Tryz.prog.underlying t = some (.map 3 e)) {z : Value} (hz : (zeroValue e).run Tryz.prog w = .ok z w) (x : Nat) (hx : x ≤ 1000000000) :
    (Instr.lookup t (.map (some b)) (.int .i64 (x : Nat)) true).run Tryz.prog w = .ok (.tuple #[(m x).getD z, .bool (m x).isSome]) w := by
  obtain ⟨D, ho, hD⟩ := h
  obtain ⟨v, ps, hrun, hv⟩ := ho.look_ok (int_keyed Tryz.underlying3) ht hz (rfl : rawR z = some (.held z, [])) (keyN x hx)
  rw [hrun, (hD.1 x).1, Mpi.got (hD.1 x).2 hv]
theorem Mpi.store (h : Mpi w b n m) {t e : TypeId} (ht : Tryz.prog.underlying t = some (.map 3 e)) (x : Nat) (hx : x ≤ 1000000000) (hn : n ≤ 1000000) (v : Value) :
    ∃ w', (Instr.mapUpdate t (.map (some b)) (.int .i64 (x : Nat)) v).run Tryz.prog w = .ok () w' ∧ Mpi w' b (n + 1) (updN m x v) ∧ Fr (fun i => i = b) w w' := by
  obtain ⟨D, ho, hD⟩ := h
  obtain ⟨w', hrun, ho', hg⟩ := ho.update (int_keyed Tryz.underlying3) ht (by unfold maxLen; omega) (keyN x hx) (rfl : rawR v = some (.held v, []))
  have kk : WideAt.IsKeyLit (.int .i64 (x : Nat)) := trivial
  refine ⟨w', hrun, ⟨_, ho', fun y => ?_, fun y hy => ?_⟩, Fr.grown hg⟩
  · by_cases e : y = x
    · subst e
      have e1 : updN m y v y = some v := if_pos rfl
      rw [e1]
      exact ⟨has_put_same ho.isMap kk _, fun z => atKey_put_same ho.isMap kk _ z⟩
    · have e1 : updN m x v y = m y := if_neg e
      have ne : (Lit.int .i64 (y : Nat)) ≠ .int .i64 (x : Nat) := nat_ne e
      rw [e1, has_put_other ne]
      exact ⟨(hD.1 y).1, fun z => (atKey_put_other ne _ z).trans ((hD.1 y).2 z)⟩
  · have ne : (Lit.int .i64 y) ≠ .int .i64 (x : Nat) := neg_ne hy
    rw [has_put_other ne]
    exact hD.2 y hy
theorem Mpi.drop (h : Mpi w b n m) {t e : TypeId} (ht : Tryz.prog.underlying t = some (.map 3 e)) (x : Nat) (hx : x ≤ 1000000000) (ty : TypeId) :
    ∃ w', (Builtin.delete_ #[t, 3] ty #[.map (some b), .int .i64 (x : Nat)]).run Tryz.prog w = .ok (.tuple #[]) w' ∧ Mpi w' b n (delN m x) ∧ Fr (fun i => i = b) w w' := by
  obtain ⟨D, ho, hD⟩ := h
  obtain ⟨w', hrun, ho', hg⟩ := ho.drop (int_keyed Tryz.underlying3) ht (keyN x hx) ty
  refine ⟨w', hrun, ⟨_, ho', fun y => ?_, fun y hy => ?_⟩, Fr.grown hg.grown⟩
  · by_cases e : y = x
    · subst e
      have e1 : delN m y y = none := if_pos rfl
      rw [e1]
      exact ⟨has_del_same, fun z => atKey_of_not_has has_del_same z⟩
    · have e1 : delN m x y = m y := if_neg e
      have ne : (Lit.int .i64 (y : Nat)) ≠ .int .i64 (x : Nat) := nat_ne e
      rw [e1, has_del_other ne]
      exact ⟨(hD.1 y).1, fun z => (atKey_del_other ne z).trans ((hD.1 y).2 z)⟩
  · have ne : (Lit.int .i64 y) ≠ .int .i64 (x : Nat) := neg_ne hy
    rw [has_del_other ne]
    exact hD.2 y hy
theorem Mpi.fr {own : Nat → Prop} {w' : World} (h : Mpi w b n m) (k : Fr own w w') (hb : ¬ own b) : Mpi w' b n m := by
  obtain ⟨D, ho, hD⟩ := h
  have hlt := ho.lt
  obtain ⟨es, clock, h1, h2⟩ := ho
  exact ⟨D, ⟨es, clock, (k.block b hlt hb).trans h1, h2⟩, hD⟩
theorem Mpi.below {w' : World} (h : Mpi w b n m) (k : Below w.heap.size w w') : Mpi w' b n m := h.fr (Fr.of_below (own := fun _ => False) k) (fun e => e)
theorem Mpi.drew (h : Mpi w b n m) : Mpi w.drew b n m := by
  obtain ⟨D, ho, hD⟩ := h
  exact ⟨D, ho.drew, hD⟩
theorem Mpi.made (w : World) : Mpi (w.alloc (.map #[] 0)) w.heap.size 0 (fun _ => none) :=
  ⟨.map [], World.ownsMap_made _ _ _ _, fun _ => ⟨rfl, fun _ => rfl⟩, fun _ _ => rfl⟩
theorem Mpi.heap (h : Mpi w b n m) : ∃ es clock, w.heap[b]? = some (.map es clock) := by
  obtain ⟨D, ⟨es, clock, h1, _⟩, _⟩ := h
  exact ⟨es, clock, h1⟩
theorem Mpi.more {n' : Nat} (h : Mpi w b n m) (k : n ≤ n') : Mpi w b n' m := by
  obtain ⟨D, ⟨es, clock, h1, h2, h3, h4⟩, hD⟩ := h
  exact ⟨D, ⟨es, clock, h1, h2, Nat.le_trans h3 k, h4⟩, hD⟩
/-- A copy. -/
theorem Mpi.clone (h : Mpi w b n m) : Calls Tryz.prog 71 #[.map (some b)] w fun e w' => e = .returned (.map (some w.heap.size)) ∧ Mpi w' w.heap.size n m ∧ Below w.heap.size w w' := by
  obtain ⟨D, ho, hD⟩ := h
  refine (Tryz.maps_clone 3 rawR b n D w ho).mono ?_
  rintro E w' ⟨rfl, h1, _, h3⟩
  exact ⟨rfl, ⟨D, h1, hD⟩, h3⟩
/-- Its keys, sorted. -/
theorem Mpi.keys (h : Mpi w b n m) (hn : n ≤ 1000000) (ss0 : List Nat) (hnd : ss0.Nodup) (hk : ∀ x, x ∈ ss0 ↔ (m x).isSome = true) :
    Calls Tryz.prog 29 #[.func (.func 54) #[] #[.pointer (some ⟨w.heap.size, 0, none⟩)]] (w.alloc (.cells #[.map (some b)] 79)) fun e w' => ∃ (v : Value) (ps : List Nat), e = .returned v ∧ ps.Pairwise (· < ·) ∧ (∀ x, x ∈ ps ↔ (m x).isSome = true) ∧ w'.ownsRow (w.heap.size + 1) 3 1 v ps.length (ps.map encN) ∧ Below (w.heap.size + 1) (w.alloc (.cells #[.map (some b)] 79)) w' := by
  obtain ⟨D, ho, hD⟩ := h
  have hsz : Maps.size D ≤ 1000000 := Nat.le_trans ho.size_le hn
  refine (Tryz.sorted_keys b n D rawR w ho (by unfold maxLen; omega) (by omega)).mono ?_
  rintro E w' ⟨v, ss, rfl, hp, hrow, _, hb⟩
  have hc : CollectedI D (fun _ => false) (ss0.map fun x => ((x : Nat) : Int)) := by
    refine ⟨List.pairwise_map.2 (hnd.imp (fun hne e => hne (by omega))), fun x => ?_⟩
    rw [List.mem_map]
    constructor
    · rintro ⟨y, hy, rfl⟩
      exact ⟨by rw [(hD.1 y).1]; exact (hk y).1 hy, rfl⟩
    · rintro ⟨hx, _⟩
      rcases Int.lt_or_le x 0 with h0 | h0
      · rw [hD.2 x h0] at hx; cases hx
      · obtain ⟨y, rfl⟩ := Int.eq_ofNat_of_zero_le h0
        exact ⟨y, (hk y).2 (by rw [← (hD.1 y).1]; exact hx), rfl⟩
  have hp2 : ss.Perm (ss0.map fun x => ((x : Nat) : Int)) := hp.trans (hc.perm ho (int_keyed Tryz.underlying3) Tryz.underlying3 (fun _ => rfl)).symm
  have hp3 : (ss.mergeSort (fun x y => decide (x ≤ y))).Perm (ss0.map fun x => ((x : Nat) : Int)) := (List.mergeSort_perm _ _).trans hp2
  have hsorted : (ss.mergeSort (fun x y => decide (x ≤ y))).Pairwise (fun x y => decide (x ≤ y) = true) := List.pairwise_mergeSort (fun a b c h1 h2 => by simp at h1 h2 ⊢; omega) (fun a b => by simp; omega) ss
  generalize ss.mergeSort (fun x y => decide (x ≤ y)) = T at hp3 hsorted hrow
  have hnn : ∀ x ∈ T, 0 ≤ x := fun x hx => by
    obtain ⟨y, _, rfl⟩ := List.mem_map.1 (hp3.mem_iff.1 hx)
    omega
  have hTn : T.Nodup := hp3.nodup_iff.2 hc.1
  have hTl : T.length = ss.length := hp3.length_eq.trans hp2.length_eq.symm
  refine ⟨v, T.map Int.toNat, rfl, ?_, fun x => ?_, ?_, hb⟩
  · rw [List.pairwise_map]
    refine (hsorted.and hTn).imp_of_mem (fun {a b} ha hb' h => ?_)
    have h1 : a ≤ b := by simpa using h.1
    have h2 := hnn a ha
    have h3 := h.2
    omega
  · rw [← hk x, List.mem_map]
    constructor
    · rintro ⟨y, hy, rfl⟩
      obtain ⟨z, hz, rfl⟩ := List.mem_map.1 (hp3.mem_iff.1 hy)
      simpa using hz
    · intro hx
      exact ⟨(x : Int), hp3.mem_iff.2 (List.mem_map.2 ⟨x, hx, rfl⟩), by simp⟩
  · have e : (T.map Int.toNat).map encN = T.map encZ := by
      rw [List.map_map]
      apply List.map_congr_left
      intro x hx
      show Value.int .i64 ((x.toNat : Nat) : Int) = .int .i64 x
      rw [Int.toNat_of_nonneg (hnn x hx)]
    rw [e, List.length_map, hTl]
    exact hrow
end
end Go.Proofs.YtibbjohkiigffaaGreatDoor
