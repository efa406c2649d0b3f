/-
  What makes closures out of expressions: that it answers. (Printed by gen_dh.py.)
-/
import Derived.Test.YtikijbcmapjbkaaGreatDoorDg
import Derived.Laws.EntriesVeiled
namespace Go.Proofs.YtikijbcmapjbkaaGreatDoor
open Go.RowKit

/-- A function's value is answered. -/
def FnPost (w : World) (E : Ending) (w' : World) : Prop := Below w.heap.size w w' ∧ ∃ (f : Nat) (c : Array Value), E = .returned (.func (.func f) #[] c)

set_option maxHeartbeats 2000000 in
theorem always_fn (k : Int) (w : World) : Calls Tryz.prog 58 #[.int .i64 k] w (FnPost w) := by
  go_enter Tryz.func58, Tryz.ntmps58
  go_wp2
  all_goals go_ret
  all_goals exact ⟨(Below.refl _ _).alloc (Nat.le_refl _) _, _, _, rfl⟩

set_option maxHeartbeats 2000000 in
theorem ofFlow_fn (k : Int) (w : World) : Calls Tryz.prog 60 #[.int .i64 k] w (FnPost w) := by
  go_enter Tryz.func60, Tryz.ntmps60
  go_wp2
  all_goals go_ret
  all_goals exact ⟨(Below.refl _ _).alloc (Nat.le_refl _) _, _, _, rfl⟩

set_option maxHeartbeats 2000000 in
theorem later_fn (f1 : Nat) (c1 : Array Value) (f2 : Nat) (c2 : Array Value) (w : World) : Calls Tryz.prog 65 #[.func (.func f1) #[] c1, .func (.func f2) #[] c2] w (FnPost w) := by
  go_enter Tryz.func65, Tryz.ntmps65
  go_wp2
  all_goals go_ret
  all_goals exact ⟨below_step ((Below.refl _ _).alloc (Nat.le_refl _) _) ((Below.refl _ _).alloc (Nat.le_refl _) _), _, _, rfl⟩

set_option maxHeartbeats 2000000 in
theorem rarer_fn (f1 : Nat) (c1 : Array Value) (k : Int) (w : World) : Calls Tryz.prog 66 #[.func (.func f1) #[] c1, .int .i64 k] w (FnPost w) := by
  go_enter Tryz.func66, Tryz.ntmps66
  go_wp2
  all_goals go_ret
  all_goals exact ⟨below_step ((Below.refl _ _).alloc (Nat.le_refl _) _) ((Below.refl _ _).alloc (Nat.le_refl _) _), _, _, rfl⟩

set_option maxHeartbeats 2000000 in
theorem oftener_fn (f1 : Nat) (c1 : Array Value) (f2 : Nat) (c2 : Array Value) (k : Int) (w : World) : Calls Tryz.prog 67 #[.func (.func f1) #[] c1, .func (.func f2) #[] c2, .int .i64 k] w (FnPost w) := by
  go_enter Tryz.func67, Tryz.ntmps67
  go_wp2
  all_goals go_ret
  all_goals exact ⟨below_step (below_step ((Below.refl _ _).alloc (Nat.le_refl _) _) ((Below.refl _ _).alloc (Nat.le_refl _) _)) ((Below.refl _ _).alloc (Nat.le_refl _) _), _, _, rfl⟩

set_option maxHeartbeats 2000000 in
theorem both_fn (f1 : Nat) (c1 : Array Value) (f2 : Nat) (c2 : Array Value) (w : World) : Calls Tryz.prog 89 #[.func (.func f1) #[] c1, .func (.func f2) #[] c2] w (FnPost w) := by
  go_enter Tryz.func89, Tryz.ntmps89
  go_wp2
  all_goals go_ret
  all_goals exact ⟨below_step ((Below.refl _ _).alloc (Nat.le_refl _) _) ((Below.refl _ _).alloc (Nat.le_refl _) _), _, _, rfl⟩

set_option maxHeartbeats 2000000 in
theorem comparison_fn (s : ByteArray) (w : World) : Calls Tryz.prog 101 #[.string s] w (FnPost w) := by
  go_enter Tryz.func101, Tryz.ntmps101
  go_wp2
  all_goals go_ret
  all_goals exact ⟨Below.refl _ _, _, _, rfl⟩

set_option maxHeartbeats 4000000 in
theorem reckoning_fn (s : ByteArray) (w : World) : Calls Tryz.prog 63 #[.string s] w (FnPost w) := by
  have HC := fun w => comparison_fn s w
  go_enter Tryz.func63, Tryz.ntmps63
  go_wp2_with (go_at_call 101; refine (HC _).mono ?_; rintro e w2 ⟨hb2, f2, c2, rfl⟩)
  all_goals go_ret
  all_goals first | exact ⟨Below.refl _ _, _, _, rfl⟩ | exact ⟨by assumption, _, _, rfl⟩

set_option maxHeartbeats 2000000 in
theorem ofTwo_fn (f1 : Nat) (c1 : Array Value) (f2 : Nat) (c2 : Array Value) (f3 : Nat) (c3 : Array Value) (w : World) : Calls Tryz.prog 62 #[.func (.func f1) #[] c1, .func (.func f2) #[] c2, .func (.func f3) #[] c3] w (FnPost w) := by
  have HB : Hid (Below w.heap.size w (w.alloc (.cells #[.func (.func f1) #[] c1] 160))) := (Below.refl _ _).alloc (Nat.le_refl _) _
  go_enter Tryz.func62, Tryz.ntmps62
  go_wp2_with fail
  refine (both_fn f2 c2 f3 c3 _).mono ?_
  rintro e w2 ⟨hb2, f4, c4, rfl⟩
  have HB2 : Hid (Below w.heap.size w w2) := below_step HB.out hb2
  clear hb2
  go_wp2
  go_ret
  exact ⟨below_step HB2.out ((Below.refl _ _).alloc (Nat.le_refl _) _), _, _, rfl⟩

set_option maxHeartbeats 2000000 in
theorem ofChoice_fn (f1 : Nat) (c1 : Array Value) (f2 : Nat) (c2 : Array Value) (f3 : Nat) (c3 : Array Value) (w : World) : Calls Tryz.prog 64 #[.func (.func f1) #[] c1, .func (.func f2) #[] c2, .func (.func f3) #[] c3] w (FnPost w) := by
  have HB : Hid (Below w.heap.size w (w.alloc (.cells #[.func (.func f1) #[] c1] 100))) := (Below.refl _ _).alloc (Nat.le_refl _) _
  go_enter Tryz.func64, Tryz.ntmps64
  go_wp2_with fail
  refine (both_fn f2 c2 f3 c3 _).mono ?_
  rintro e w2 ⟨hb2, f4, c4, rfl⟩
  have HB2 : Hid (Below w.heap.size w w2) := below_step HB.out hb2
  clear hb2
  go_wp2
  go_ret
  exact ⟨below_step HB2.out ((Below.refl _ _).alloc (Nat.le_refl _) _), _, _, rfl⟩

set_option maxHeartbeats 2000000 in
theorem asNumber_any (v : Bool) (w : World) : Calls Tryz.prog 59 #[.bool v] w fun E w' => Below w.heap.size w w' ∧ ∃ k, E = .returned (.int .i64 k) := by
  go_enter Tryz.func59, Tryz.ntmps59
  cases v
  all_goals go_wp2
  all_goals go_ret
  all_goals exact ⟨Below.refl _ _, _, rfl⟩

set_option maxHeartbeats 4000000 in
theorem ofPrefix_fn (s : ByteArray) (f1 : Nat) (c1 : Array Value) (w : World) : Calls Tryz.prog 61 #[.string s, .func (.func f1) #[] c1] w (FnPost w) := by
  go_enter Tryz.func61, Tryz.ntmps61
  by_cases hq : (s.toList == [110, 111, 116]) = true
  all_goals try (have hq2 : (s.toList == [110, 111, 116]) = false := by simpa using hq)
  all_goals try clear hq
  all_goals (go_wp2_with fail)
  all_goals refine (reckoning_fn _ _).mono ?_
  all_goals rintro e w2 ⟨hb2, f2, c2, rfl⟩
  all_goals have HB2 : Hid (Below w.heap.size w w2) := hb2
  all_goals clear hb2
  all_goals (go_wp2_with fail)
  all_goals refine (always_fn _ _).mono ?_
  all_goals rintro e w3 ⟨hb3, f3, c3, rfl⟩
  all_goals have HB3 : Hid (Below w.heap.size w w3) := below_step HB2.out hb3
  all_goals clear hb3
  all_goals (go_wp2_with fail)
  all_goals refine (ofTwo_fn _ _ _ _ _ _ _).mono ?_
  all_goals rintro e w4 ⟨hb4, f4, c4, rfl⟩
  all_goals have HB4 : Hid (Below w.heap.size w w4) := below_step HB3.out hb4
  all_goals clear hb4
  all_goals go_wp2
  all_goals go_ret
  all_goals exact ⟨HB4.out, _, _, rfl⟩


/-- An expression is made a function. -/
def WF (N : Nat) (a : Nat → Addr) (c b n : Nat) (m : Mil.Bytes → Option Int) (e : Mip.E) : Prop :=
  (∃ T y, ev N e = .iface T y) ∧ ∀ w, Nm a c b n m w → Calls Tryz.prog 33 #[.pointer (some ⟨c, 0, none⟩), ev N e] w (FnPost w)

set_option maxRecDepth 100000 in
set_option maxHeartbeats 8000000 in
theorem worth_int (N : Nat) (a : Nat → Addr) (c b n : Nat) (m : Mil.Bytes → Option Int) (p : Nat) (k : Nat) (w : World) (hN : Nm a c b n m w) :
    Calls Tryz.prog 33 #[.pointer (some ⟨c, 0, none⟩), .iface 148 (.agg #[.int .i64 ((N : Int) - (p : Nat)), .int .i64 (k : Nat)])] w (FnPost w) := by
  have HN : Hid (Nm a c b n m w) := hN
  have HB : Hid (Below w.heap.size w (w.alloc (.cells #[.int .i64 ((N : Int) - (p : Nat)), .int .i64 (k : Nat)] 148))) := (Below.refl _ _).alloc (Nat.le_refl _) _
  have t_int := ta_int_int (.agg #[.int .i64 ((N : Int) - (p : Nat)), .int .i64 (k : Nat)])
  clear hN
  go_enter Tryz.func33, Tryz.ntmps33
  go_wp2_with fail
  refine (always_fn _ _).mono ?_
  rintro e w2 ⟨hb2, f2, c2, rfl⟩
  have HB2 : Hid (Below w.heap.size w w2) := below_step HB.out hb2
  clear hb2
  go_wp2
  go_ret
  exact ⟨HB2.out, _, _, rfl⟩

set_option maxRecDepth 100000 in
set_option maxHeartbeats 8000000 in
theorem worth_bool (N : Nat) (a : Nat → Addr) (c b n : Nat) (m : Mil.Bytes → Option Int) (p : Nat) (k : Nat) (w : World) (hN : Nm a c b n m w) :
    Calls Tryz.prog 33 #[.pointer (some ⟨c, 0, none⟩), .iface 151 (.agg #[.int .i64 ((N : Int) - (p : Nat)), .bool (k == 1)])] w (FnPost w) := by
  have HN : Hid (Nm a c b n m w) := hN
  have HB : Hid (Below w.heap.size w (w.alloc (.cells #[.int .i64 ((N : Int) - (p : Nat)), .bool (k == 1)] 151))) := (Below.refl _ _).alloc (Nat.le_refl _) _
  have t_int := ta_bool_int (.agg #[.int .i64 ((N : Int) - (p : Nat)), .bool (k == 1)])
  have t_bool := ta_bool_bool (.agg #[.int .i64 ((N : Int) - (p : Nat)), .bool (k == 1)])
  clear hN
  go_enter Tryz.func33, Tryz.ntmps33
  go_wp2_with fail
  refine (asNumber_any _ _).mono ?_
  rintro e w2 ⟨hb2, k2, rfl⟩
  have HB2 : Hid (Below w.heap.size w w2) := below_step HB.out hb2
  clear hb2
  go_wp2_with fail
  refine (always_fn _ _).mono ?_
  rintro e w3 ⟨hb3, f3, c3, rfl⟩
  have HB3 : Hid (Below w.heap.size w w3) := below_step HB2.out hb3
  clear hb3
  go_wp2
  go_ret
  exact ⟨HB3.out, _, _, rfl⟩

set_option maxRecDepth 100000 in
set_option maxHeartbeats 8000000 in
theorem worth_name (N : Nat) (a : Nat → Addr) (c b n : Nat) (m : Mil.Bytes → Option Int) (p : Nat) (x : Mil.Bytes) (hx : x.length ≤ 4000) (w : World) (hN : Nm a c b n m w) :
    Calls Tryz.prog 33 #[.pointer (some ⟨c, 0, none⟩), .iface 87 (.agg #[.int .i64 ((N : Int) - (p : Nat)), .string (bs x)])] w (FnPost w) := by
  have HN : Hid (Nm a c b n m w) := hN
  have HB : Hid (Below w.heap.size w (w.alloc (.cells #[.int .i64 ((N : Int) - (p : Nat)), .string (bs x)] 87))) := (Below.refl _ _).alloc (Nat.le_refl _) _
  have t_int := ta_name_int (.agg #[.int .i64 ((N : Int) - (p : Nat)), .string (bs x)])
  have t_bool := ta_name_bool (.agg #[.int .i64 ((N : Int) - (p : Nat)), .string (bs x)])
  have t_name := ta_name_name (.agg #[.int .i64 ((N : Int) - (p : Nat)), .string (bs x)])
  clear hN
  have k1 : ∀ w', Below (w.alloc (.cells #[.int .i64 ((N : Int) - (p : Nat)), .string (bs x)] 87)).heap.size (w.alloc (.cells #[.int .i64 ((N : Int) - (p : Nat)), .string (bs x)] 87)) w' → w'.cell? ⟨w.heap.size, 1, none⟩ = some (.string (bs x)) := fun w' hb => (hb.cell (by simp)).trans (by simp)
  have N1 := HN.out.below HB.out
  have hc2 : ∀ w', Below (w.alloc (.cells #[.int .i64 ((N : Int) - (p : Nat)), .string (bs x)] 87)).heap.size (w.alloc (.cells #[.int .i64 ((N : Int) - (p : Nat)), .string (bs x)] 87)) w' → w'.cell? ⟨c, 2, none⟩ = some (.map (some b)) := fun w' hb => (N1.below hb).c2
  have hl : ∀ w', Below (w.alloc (.cells #[.int .i64 ((N : Int) - (p : Nat)), .string (bs x)] 87)).heap.size (w.alloc (.cells #[.int .i64 ((N : Int) - (p : Nat)), .string (bs x)] 87)) w' → (Instr.lookup 63 (.map (some b)) (.string (bs x)) false).run Tryz.prog w' = .ok (.int .i64 ((m x).getD 0)) w' := fun w' hb => (N1.below hb).mp.at_ x hx
  have HOF := fun k w => ofFlow_fn k w
  clear N1 hx
  go_enter Tryz.func33, Tryz.ntmps33
  go_wp2_with fail
  generalize hW : (w.alloc (.cells #[.int .i64 ((N : Int) - (p : Nat)), .string (bs x)] 87)) = W at HB k1 hc2 hl ⊢
  clear hW t_int t_bool t_name
  go_region_held3 (fun w' => Below W.heap.size W w') (first | assumption | exact (Below.refl _ _).drew) (first
    | (go_at_call 60; (with_reducible refine (HOF _ _).mono ?_); rintro e w9 ⟨hbw9, f9, c9, rfl⟩; have hBw9 : Below W.heap.size W w9 := below_step (by assumption) hbw9))
  all_goals go_wp2
  all_goals go_ret
  all_goals exact ⟨below_step HB.out (by assumption), _, _, rfl⟩

set_option maxRecDepth 100000 in
set_option maxHeartbeats 8000000 in
theorem worth_pre (N : Nat) (a : Nat → Addr) (c b n : Nat) (m : Mil.Bytes → Option Int) (p : Nat) (x : Mil.Bytes) (ta : TypeId) (ya : Value) (iha : ∀ w, Nm a c b n m w → Calls Tryz.prog 33 #[.pointer (some ⟨c, 0, none⟩), .iface ta ya] w (FnPost w)) (w : World) (hN : Nm a c b n m w) :
    Calls Tryz.prog 33 #[.pointer (some ⟨c, 0, none⟩), .iface 155 (.agg #[.int .i64 ((N : Int) - (p : Nat)), .string (bs x), .iface ta ya])] w (FnPost w) := by
  have HN : Hid (Nm a c b n m w) := hN
  have HB : Hid (Below w.heap.size w (w.alloc (.cells #[.int .i64 ((N : Int) - (p : Nat)), .string (bs x), .iface ta ya] 155))) := (Below.refl _ _).alloc (Nat.le_refl _) _
  have t_int := ta_pre_int (.agg #[.int .i64 ((N : Int) - (p : Nat)), .string (bs x), .iface ta ya])
  have t_bool := ta_pre_bool (.agg #[.int .i64 ((N : Int) - (p : Nat)), .string (bs x), .iface ta ya])
  have t_name := ta_pre_name (.agg #[.int .i64 ((N : Int) - (p : Nat)), .string (bs x), .iface ta ya])
  have t_pre := ta_pre_pre (.agg #[.int .i64 ((N : Int) - (p : Nat)), .string (bs x), .iface ta ya])
  have IHa : Hid (∀ w, Nm a c b n m w → Calls Tryz.prog 33 #[.pointer (some ⟨c, 0, none⟩), .iface ta ya] w (FnPost w)) := iha
  clear hN iha
  have k1 : ∀ w', Below (w.alloc (.cells #[.int .i64 ((N : Int) - (p : Nat)), .string (bs x), .iface ta ya] 155)).heap.size (w.alloc (.cells #[.int .i64 ((N : Int) - (p : Nat)), .string (bs x), .iface ta ya] 155)) w' → w'.cell? ⟨w.heap.size, 1, none⟩ = some (.string (bs x)) := fun w' hb => (hb.cell (by simp)).trans (by simp)
  have k2 : ∀ w', Below (w.alloc (.cells #[.int .i64 ((N : Int) - (p : Nat)), .string (bs x), .iface ta ya] 155)).heap.size (w.alloc (.cells #[.int .i64 ((N : Int) - (p : Nat)), .string (bs x), .iface ta ya] 155)) w' → w'.cell? ⟨w.heap.size, 2, none⟩ = some (.iface ta ya) := fun w' hb => (hb.cell (by simp)).trans (by simp)
  go_enter Tryz.func33, Tryz.ntmps33
  go_wp2_with fail
  generalize hW : (w.alloc (.cells #[.int .i64 ((N : Int) - (p : Nat)), .string (bs x), .iface ta ya] 155)) = W at HB k1 k2 ⊢
  clear hW t_int t_bool t_name t_pre
  go_region_held3 (fun w' => Below W.heap.size W w') (first | assumption | exact (Below.refl _ _).drew) (first
    | (go_at_call 33; (with_reducible refine (IHa.out _ ?_).mono ?_); exact (HN.out.below HB.out).below (by assumption); rintro e w4 ⟨hbw4, f4, c4, rfl⟩; have hBw4 : Below W.heap.size W w4 := below_step (by assumption) hbw4)
    | (go_at_call 61; (with_reducible refine (ofPrefix_fn _ _ _ _).mono ?_); rintro e w9 ⟨hbw9, f9, c9, rfl⟩; have hBw9 : Below W.heap.size W w9 := below_step (by assumption) hbw9))
  all_goals go_wp2
  all_goals go_ret
  all_goals exact ⟨below_step HB.out (by assumption), _, _, rfl⟩

set_option maxRecDepth 100000 in
set_option maxHeartbeats 8000000 in
theorem worth_two (N : Nat) (a : Nat → Addr) (c b n : Nat) (m : Mil.Bytes → Option Int) (p : Nat) (x : Mil.Bytes) (ta : TypeId) (ya : Value) (tb : TypeId) (yb : Value) (iha : ∀ w, Nm a c b n m w → Calls Tryz.prog 33 #[.pointer (some ⟨c, 0, none⟩), .iface ta ya] w (FnPost w)) (ihb : ∀ w, Nm a c b n m w → Calls Tryz.prog 33 #[.pointer (some ⟨c, 0, none⟩), .iface tb yb] w (FnPost w)) (w : World) (hN : Nm a c b n m w) :
    Calls Tryz.prog 33 #[.pointer (some ⟨c, 0, none⟩), .iface 158 (.agg #[.int .i64 ((N : Int) - (p : Nat)), .string (bs x), .iface ta ya, .iface tb yb])] w (FnPost w) := by
  have HN : Hid (Nm a c b n m w) := hN
  have HB : Hid (Below w.heap.size w (w.alloc (.cells #[.int .i64 ((N : Int) - (p : Nat)), .string (bs x), .iface ta ya, .iface tb yb] 158))) := (Below.refl _ _).alloc (Nat.le_refl _) _
  have t_int := ta_two_int (.agg #[.int .i64 ((N : Int) - (p : Nat)), .string (bs x), .iface ta ya, .iface tb yb])
  have t_bool := ta_two_bool (.agg #[.int .i64 ((N : Int) - (p : Nat)), .string (bs x), .iface ta ya, .iface tb yb])
  have t_name := ta_two_name (.agg #[.int .i64 ((N : Int) - (p : Nat)), .string (bs x), .iface ta ya, .iface tb yb])
  have t_pre := ta_two_pre (.agg #[.int .i64 ((N : Int) - (p : Nat)), .string (bs x), .iface ta ya, .iface tb yb])
  have t_two := ta_two_two (.agg #[.int .i64 ((N : Int) - (p : Nat)), .string (bs x), .iface ta ya, .iface tb yb])
  have IHa : Hid (∀ w, Nm a c b n m w → Calls Tryz.prog 33 #[.pointer (some ⟨c, 0, none⟩), .iface ta ya] w (FnPost w)) := iha
  have IHb : Hid (∀ w, Nm a c b n m w → Calls Tryz.prog 33 #[.pointer (some ⟨c, 0, none⟩), .iface tb yb] w (FnPost w)) := ihb
  clear hN iha ihb
  have k1 : ∀ w', Below (w.alloc (.cells #[.int .i64 ((N : Int) - (p : Nat)), .string (bs x), .iface ta ya, .iface tb yb] 158)).heap.size (w.alloc (.cells #[.int .i64 ((N : Int) - (p : Nat)), .string (bs x), .iface ta ya, .iface tb yb] 158)) w' → w'.cell? ⟨w.heap.size, 1, none⟩ = some (.string (bs x)) := fun w' hb => (hb.cell (by simp)).trans (by simp)
  have k2 : ∀ w', Below (w.alloc (.cells #[.int .i64 ((N : Int) - (p : Nat)), .string (bs x), .iface ta ya, .iface tb yb] 158)).heap.size (w.alloc (.cells #[.int .i64 ((N : Int) - (p : Nat)), .string (bs x), .iface ta ya, .iface tb yb] 158)) w' → w'.cell? ⟨w.heap.size, 2, none⟩ = some (.iface ta ya) := fun w' hb => (hb.cell (by simp)).trans (by simp)
  have k3 : ∀ w', Below (w.alloc (.cells #[.int .i64 ((N : Int) - (p : Nat)), .string (bs x), .iface ta ya, .iface tb yb] 158)).heap.size (w.alloc (.cells #[.int .i64 ((N : Int) - (p : Nat)), .string (bs x), .iface ta ya, .iface tb yb] 158)) w' → w'.cell? ⟨w.heap.size, 3, none⟩ = some (.iface tb yb) := fun w' hb => (hb.cell (by simp)).trans (by simp)
  go_enter Tryz.func33, Tryz.ntmps33
  go_wp2_with fail
  generalize hW : (w.alloc (.cells #[.int .i64 ((N : Int) - (p : Nat)), .string (bs x), .iface ta ya, .iface tb yb] 158)) = W at HB k1 k2 k3 ⊢
  clear hW t_int t_bool t_name t_pre t_two
  go_region_held3 (fun w' => Below W.heap.size W w') (first | assumption | exact (Below.refl _ _).drew) (first
    | (go_at_call 33; (with_reducible refine (IHa.out _ ?_).mono ?_); exact (HN.out.below HB.out).below (by assumption); rintro e w4 ⟨hbw4, f4, c4, rfl⟩; have hBw4 : Below W.heap.size W w4 := below_step (by assumption) hbw4)
    | (go_at_call 33; (with_reducible refine (IHb.out _ ?_).mono ?_); exact (HN.out.below HB.out).below (by assumption); rintro e w5 ⟨hbw5, f5, c5, rfl⟩; have hBw5 : Below W.heap.size W w5 := below_step (by assumption) hbw5)
    | (go_at_call 62; (with_reducible refine (ofTwo_fn _ _ _ _ _ _ _).mono ?_); rintro e w9 ⟨hbw9, f9, c9, rfl⟩; have hBw9 : Below W.heap.size W w9 := below_step (by assumption) hbw9)
    | (go_at_call 63; (with_reducible refine (reckoning_fn _ _).mono ?_); rintro e w8 ⟨hbw8, f8, c8, rfl⟩; have hBw8 : Below W.heap.size W w8 := below_step (by assumption) hbw8))
  all_goals go_wp2
  all_goals go_ret
  all_goals exact ⟨below_step HB.out (by assumption), _, _, rfl⟩

set_option maxRecDepth 100000 in
set_option maxHeartbeats 8000000 in
theorem worth_if (N : Nat) (a : Nat → Addr) (c b n : Nat) (m : Mil.Bytes → Option Int) (p : Nat) (ta : TypeId) (ya : Value) (tb : TypeId) (yb : Value) (td : TypeId) (yd : Value) (iha : ∀ w, Nm a c b n m w → Calls Tryz.prog 33 #[.pointer (some ⟨c, 0, none⟩), .iface ta ya] w (FnPost w)) (ihb : ∀ w, Nm a c b n m w → Calls Tryz.prog 33 #[.pointer (some ⟨c, 0, none⟩), .iface tb yb] w (FnPost w)) (ihd : ∀ w, Nm a c b n m w → Calls Tryz.prog 33 #[.pointer (some ⟨c, 0, none⟩), .iface td yd] w (FnPost w)) (w : World) (hN : Nm a c b n m w) :
    Calls Tryz.prog 33 #[.pointer (some ⟨c, 0, none⟩), .iface 165 (.agg #[.int .i64 ((N : Int) - (p : Nat)), .iface ta ya, .iface tb yb, .iface td yd])] w (FnPost w) := by
  have HN : Hid (Nm a c b n m w) := hN
  have HB : Hid (Below w.heap.size w (w.alloc (.cells #[.int .i64 ((N : Int) - (p : Nat)), .iface ta ya, .iface tb yb, .iface td yd] 165))) := (Below.refl _ _).alloc (Nat.le_refl _) _
  have t_int := ta_if_int (.agg #[.int .i64 ((N : Int) - (p : Nat)), .iface ta ya, .iface tb yb, .iface td yd])
  have t_bool := ta_if_bool (.agg #[.int .i64 ((N : Int) - (p : Nat)), .iface ta ya, .iface tb yb, .iface td yd])
  have t_name := ta_if_name (.agg #[.int .i64 ((N : Int) - (p : Nat)), .iface ta ya, .iface tb yb, .iface td yd])
  have t_pre := ta_if_pre (.agg #[.int .i64 ((N : Int) - (p : Nat)), .iface ta ya, .iface tb yb, .iface td yd])
  have t_two := ta_if_two (.agg #[.int .i64 ((N : Int) - (p : Nat)), .iface ta ya, .iface tb yb, .iface td yd])
  have t_least := ta_if_least (.agg #[.int .i64 ((N : Int) - (p : Nat)), .iface ta ya, .iface tb yb, .iface td yd])
  have t_if := ta_if_if (.agg #[.int .i64 ((N : Int) - (p : Nat)), .iface ta ya, .iface tb yb, .iface td yd])
  have IHa : Hid (∀ w, Nm a c b n m w → Calls Tryz.prog 33 #[.pointer (some ⟨c, 0, none⟩), .iface ta ya] w (FnPost w)) := iha
  have IHb : Hid (∀ w, Nm a c b n m w → Calls Tryz.prog 33 #[.pointer (some ⟨c, 0, none⟩), .iface tb yb] w (FnPost w)) := ihb
  have IHd : Hid (∀ w, Nm a c b n m w → Calls Tryz.prog 33 #[.pointer (some ⟨c, 0, none⟩), .iface td yd] w (FnPost w)) := ihd
  clear hN iha ihb ihd
  have k1 : ∀ w', Below (w.alloc (.cells #[.int .i64 ((N : Int) - (p : Nat)), .iface ta ya, .iface tb yb, .iface td yd] 165)).heap.size (w.alloc (.cells #[.int .i64 ((N : Int) - (p : Nat)), .iface ta ya, .iface tb yb, .iface td yd] 165)) w' → w'.cell? ⟨w.heap.size, 1, none⟩ = some (.iface ta ya) := fun w' hb => (hb.cell (by simp)).trans (by simp)
  have k2 : ∀ w', Below (w.alloc (.cells #[.int .i64 ((N : Int) - (p : Nat)), .iface ta ya, .iface tb yb, .iface td yd] 165)).heap.size (w.alloc (.cells #[.int .i64 ((N : Int) - (p : Nat)), .iface ta ya, .iface tb yb, .iface td yd] 165)) w' → w'.cell? ⟨w.heap.size, 2, none⟩ = some (.iface tb yb) := fun w' hb => (hb.cell (by simp)).trans (by simp)
  have k3 : ∀ w', Below (w.alloc (.cells #[.int .i64 ((N : Int) - (p : Nat)), .iface ta ya, .iface tb yb, .iface td yd] 165)).heap.size (w.alloc (.cells #[.int .i64 ((N : Int) - (p : Nat)), .iface ta ya, .iface tb yb, .iface td yd] 165)) w' → w'.cell? ⟨w.heap.size, 3, none⟩ = some (.iface td yd) := fun w' hb => (hb.cell (by simp)).trans (by simp)
  go_enter Tryz.func33, Tryz.ntmps33
  go_wp2_with fail
  generalize hW : (w.alloc (.cells #[.int .i64 ((N : Int) - (p : Nat)), .iface ta ya, .iface tb yb, .iface td yd] 165)) = W at HB k1 k2 k3 ⊢
  clear hW t_int t_bool t_name t_pre t_two t_least t_if
  go_region_held3 (fun w' => Below W.heap.size W w') (first | assumption | exact (Below.refl _ _).drew) (first
    | (go_at_call 33; (with_reducible refine (IHa.out _ ?_).mono ?_); exact (HN.out.below HB.out).below (by assumption); rintro e w4 ⟨hbw4, f4, c4, rfl⟩; have hBw4 : Below W.heap.size W w4 := below_step (by assumption) hbw4)
    | (go_at_call 33; (with_reducible refine (IHb.out _ ?_).mono ?_); exact (HN.out.below HB.out).below (by assumption); rintro e w5 ⟨hbw5, f5, c5, rfl⟩; have hBw5 : Below W.heap.size W w5 := below_step (by assumption) hbw5)
    | (go_at_call 33; (with_reducible refine (IHd.out _ ?_).mono ?_); exact (HN.out.below HB.out).below (by assumption); rintro e w6 ⟨hbw6, f6, c6, rfl⟩; have hBw6 : Below W.heap.size W w6 := below_step (by assumption) hbw6)
    | (go_at_call 64; (with_reducible refine (ofChoice_fn _ _ _ _ _ _ _).mono ?_); rintro e w9 ⟨hbw9, f9, c9, rfl⟩; have hBw9 : Below W.heap.size W w9 := below_step (by assumption) hbw9))
  all_goals go_wp2
  all_goals go_ret
  all_goals exact ⟨below_step HB.out (by assumption), _, _, rfl⟩

set_option maxRecDepth 100000 in
set_option maxHeartbeats 8000000 in
theorem worth_fby (N : Nat) (a : Nat → Addr) (c b n : Nat) (m : Mil.Bytes → Option Int) (p : Nat) (ta : TypeId) (ya : Value) (tb : TypeId) (yb : Value) (iha : ∀ w, Nm a c b n m w → Calls Tryz.prog 33 #[.pointer (some ⟨c, 0, none⟩), .iface ta ya] w (FnPost w)) (ihb : ∀ w, Nm a c b n m w → Calls Tryz.prog 33 #[.pointer (some ⟨c, 0, none⟩), .iface tb yb] w (FnPost w)) (w : World) (hN : Nm a c b n m w) :
    Calls Tryz.prog 33 #[.pointer (some ⟨c, 0, none⟩), .iface 168 (.agg #[.int .i64 ((N : Int) - (p : Nat)), .iface ta ya, .iface tb yb])] w (FnPost w) := by
  have HN : Hid (Nm a c b n m w) := hN
  have HB : Hid (Below w.heap.size w (w.alloc (.cells #[.int .i64 ((N : Int) - (p : Nat)), .iface ta ya, .iface tb yb] 168))) := (Below.refl _ _).alloc (Nat.le_refl _) _
  have t_int := ta_fby_int (.agg #[.int .i64 ((N : Int) - (p : Nat)), .iface ta ya, .iface tb yb])
  have t_bool := ta_fby_bool (.agg #[.int .i64 ((N : Int) - (p : Nat)), .iface ta ya, .iface tb yb])
  have t_name := ta_fby_name (.agg #[.int .i64 ((N : Int) - (p : Nat)), .iface ta ya, .iface tb yb])
  have t_pre := ta_fby_pre (.agg #[.int .i64 ((N : Int) - (p : Nat)), .iface ta ya, .iface tb yb])
  have t_two := ta_fby_two (.agg #[.int .i64 ((N : Int) - (p : Nat)), .iface ta ya, .iface tb yb])
  have t_least := ta_fby_least (.agg #[.int .i64 ((N : Int) - (p : Nat)), .iface ta ya, .iface tb yb])
  have t_if := ta_fby_if (.agg #[.int .i64 ((N : Int) - (p : Nat)), .iface ta ya, .iface tb yb])
  have t_fby := ta_fby_fby (.agg #[.int .i64 ((N : Int) - (p : Nat)), .iface ta ya, .iface tb yb])
  have IHa : Hid (∀ w, Nm a c b n m w → Calls Tryz.prog 33 #[.pointer (some ⟨c, 0, none⟩), .iface ta ya] w (FnPost w)) := iha
  have IHb : Hid (∀ w, Nm a c b n m w → Calls Tryz.prog 33 #[.pointer (some ⟨c, 0, none⟩), .iface tb yb] w (FnPost w)) := ihb
  clear hN iha ihb
  have k1 : ∀ w', Below (w.alloc (.cells #[.int .i64 ((N : Int) - (p : Nat)), .iface ta ya, .iface tb yb] 168)).heap.size (w.alloc (.cells #[.int .i64 ((N : Int) - (p : Nat)), .iface ta ya, .iface tb yb] 168)) w' → w'.cell? ⟨w.heap.size, 1, none⟩ = some (.iface ta ya) := fun w' hb => (hb.cell (by simp)).trans (by simp)
  have k2 : ∀ w', Below (w.alloc (.cells #[.int .i64 ((N : Int) - (p : Nat)), .iface ta ya, .iface tb yb] 168)).heap.size (w.alloc (.cells #[.int .i64 ((N : Int) - (p : Nat)), .iface ta ya, .iface tb yb] 168)) w' → w'.cell? ⟨w.heap.size, 2, none⟩ = some (.iface tb yb) := fun w' hb => (hb.cell (by simp)).trans (by simp)
  go_enter Tryz.func33, Tryz.ntmps33
  go_wp2_with fail
  generalize hW : (w.alloc (.cells #[.int .i64 ((N : Int) - (p : Nat)), .iface ta ya, .iface tb yb] 168)) = W at HB k1 k2 ⊢
  clear hW t_int t_bool t_name t_pre t_two t_least t_if t_fby
  go_region_held3 (fun w' => Below W.heap.size W w') (first | assumption | exact (Below.refl _ _).drew) (first
    | (go_at_call 33; (with_reducible refine (IHa.out _ ?_).mono ?_); exact (HN.out.below HB.out).below (by assumption); rintro e w4 ⟨hbw4, f4, c4, rfl⟩; have hBw4 : Below W.heap.size W w4 := below_step (by assumption) hbw4)
    | (go_at_call 33; (with_reducible refine (IHb.out _ ?_).mono ?_); exact (HN.out.below HB.out).below (by assumption); rintro e w5 ⟨hbw5, f5, c5, rfl⟩; have hBw5 : Below W.heap.size W w5 := below_step (by assumption) hbw5)
    | (go_at_call 65; (with_reducible refine (later_fn _ _ _ _ _).mono ?_); rintro e w9 ⟨hbw9, f9, c9, rfl⟩; have hBw9 : Below W.heap.size W w9 := below_step (by assumption) hbw9))
  all_goals go_wp2
  all_goals go_ret
  all_goals exact ⟨below_step HB.out (by assumption), _, _, rfl⟩

set_option maxRecDepth 100000 in
set_option maxHeartbeats 8000000 in
theorem worth_under (N : Nat) (a : Nat → Addr) (c b n : Nat) (m : Mil.Bytes → Option Int) (p : Nat) (k : Nat) (ta : TypeId) (ya : Value) (iha : ∀ w, Nm a c b n m w → Calls Tryz.prog 33 #[.pointer (some ⟨c, 0, none⟩), .iface ta ya] w (FnPost w)) (w : World) (hN : Nm a c b n m w) :
    Calls Tryz.prog 33 #[.pointer (some ⟨c, 0, none⟩), .iface 171 (.agg #[.int .i64 ((N : Int) - (p : Nat)), .iface ta ya, .int .i64 (k : Nat)])] w (FnPost w) := by
  have HN : Hid (Nm a c b n m w) := hN
  have HB : Hid (Below w.heap.size w (w.alloc (.cells #[.int .i64 ((N : Int) - (p : Nat)), .iface ta ya, .int .i64 (k : Nat)] 171))) := (Below.refl _ _).alloc (Nat.le_refl _) _
  have t_int := ta_under_int (.agg #[.int .i64 ((N : Int) - (p : Nat)), .iface ta ya, .int .i64 (k : Nat)])
  have t_bool := ta_under_bool (.agg #[.int .i64 ((N : Int) - (p : Nat)), .iface ta ya, .int .i64 (k : Nat)])
  have t_name := ta_under_name (.agg #[.int .i64 ((N : Int) - (p : Nat)), .iface ta ya, .int .i64 (k : Nat)])
  have t_pre := ta_under_pre (.agg #[.int .i64 ((N : Int) - (p : Nat)), .iface ta ya, .int .i64 (k : Nat)])
  have t_two := ta_under_two (.agg #[.int .i64 ((N : Int) - (p : Nat)), .iface ta ya, .int .i64 (k : Nat)])
  have t_least := ta_under_least (.agg #[.int .i64 ((N : Int) - (p : Nat)), .iface ta ya, .int .i64 (k : Nat)])
  have t_if := ta_under_if (.agg #[.int .i64 ((N : Int) - (p : Nat)), .iface ta ya, .int .i64 (k : Nat)])
  have t_fby := ta_under_fby (.agg #[.int .i64 ((N : Int) - (p : Nat)), .iface ta ya, .int .i64 (k : Nat)])
  have t_under := ta_under_under (.agg #[.int .i64 ((N : Int) - (p : Nat)), .iface ta ya, .int .i64 (k : Nat)])
  have IHa : Hid (∀ w, Nm a c b n m w → Calls Tryz.prog 33 #[.pointer (some ⟨c, 0, none⟩), .iface ta ya] w (FnPost w)) := iha
  clear hN iha
  have k1 : ∀ w', Below (w.alloc (.cells #[.int .i64 ((N : Int) - (p : Nat)), .iface ta ya, .int .i64 (k : Nat)] 171)).heap.size (w.alloc (.cells #[.int .i64 ((N : Int) - (p : Nat)), .iface ta ya, .int .i64 (k : Nat)] 171)) w' → w'.cell? ⟨w.heap.size, 1, none⟩ = some (.iface ta ya) := fun w' hb => (hb.cell (by simp)).trans (by simp)
  have k2 : ∀ w', Below (w.alloc (.cells #[.int .i64 ((N : Int) - (p : Nat)), .iface ta ya, .int .i64 (k : Nat)] 171)).heap.size (w.alloc (.cells #[.int .i64 ((N : Int) - (p : Nat)), .iface ta ya, .int .i64 (k : Nat)] 171)) w' → w'.cell? ⟨w.heap.size, 2, none⟩ = some (.int .i64 (k : Nat)) := fun w' hb => (hb.cell (by simp)).trans (by simp)
  go_enter Tryz.func33, Tryz.ntmps33
  go_wp2_with fail
  generalize hW : (w.alloc (.cells #[.int .i64 ((N : Int) - (p : Nat)), .iface ta ya, .int .i64 (k : Nat)] 171)) = W at HB k1 k2 ⊢
  clear hW t_int t_bool t_name t_pre t_two t_least t_if t_fby t_under
  go_region_held3 (fun w' => Below W.heap.size W w') (first | assumption | exact (Below.refl _ _).drew) (first
    | (go_at_call 33; (with_reducible refine (IHa.out _ ?_).mono ?_); exact (HN.out.below HB.out).below (by assumption); rintro e w4 ⟨hbw4, f4, c4, rfl⟩; have hBw4 : Below W.heap.size W w4 := below_step (by assumption) hbw4)
    | (go_at_call 66; (with_reducible refine (rarer_fn _ _ _ _).mono ?_); rintro e w9 ⟨hbw9, f9, c9, rfl⟩; have hBw9 : Below W.heap.size W w9 := below_step (by assumption) hbw9))
  all_goals go_wp2
  all_goals go_ret
  all_goals exact ⟨below_step HB.out (by assumption), _, _, rfl⟩

set_option maxRecDepth 100000 in
set_option maxHeartbeats 8000000 in
theorem worth_hold (N : Nat) (a : Nat → Addr) (c b n : Nat) (m : Mil.Bytes → Option Int) (p : Nat) (k : Nat) (ta : TypeId) (ya : Value) (tb : TypeId) (yb : Value) (iha : ∀ w, Nm a c b n m w → Calls Tryz.prog 33 #[.pointer (some ⟨c, 0, none⟩), .iface ta ya] w (FnPost w)) (ihb : ∀ w, Nm a c b n m w → Calls Tryz.prog 33 #[.pointer (some ⟨c, 0, none⟩), .iface tb yb] w (FnPost w)) (w : World) (hN : Nm a c b n m w) :
    Calls Tryz.prog 33 #[.pointer (some ⟨c, 0, none⟩), .iface 174 (.agg #[.int .i64 ((N : Int) - (p : Nat)), .iface ta ya, .iface tb yb, .int .i64 (k : Nat)])] w (FnPost w) := by
  have HN : Hid (Nm a c b n m w) := hN
  have HB : Hid (Below w.heap.size w (w.alloc (.cells #[.int .i64 ((N : Int) - (p : Nat)), .iface ta ya, .iface tb yb, .int .i64 (k : Nat)] 174))) := (Below.refl _ _).alloc (Nat.le_refl _) _
  have t_int := ta_hold_int (.agg #[.int .i64 ((N : Int) - (p : Nat)), .iface ta ya, .iface tb yb, .int .i64 (k : Nat)])
  have t_bool := ta_hold_bool (.agg #[.int .i64 ((N : Int) - (p : Nat)), .iface ta ya, .iface tb yb, .int .i64 (k : Nat)])
  have t_name := ta_hold_name (.agg #[.int .i64 ((N : Int) - (p : Nat)), .iface ta ya, .iface tb yb, .int .i64 (k : Nat)])
  have t_pre := ta_hold_pre (.agg #[.int .i64 ((N : Int) - (p : Nat)), .iface ta ya, .iface tb yb, .int .i64 (k : Nat)])
  have t_two := ta_hold_two (.agg #[.int .i64 ((N : Int) - (p : Nat)), .iface ta ya, .iface tb yb, .int .i64 (k : Nat)])
  have t_least := ta_hold_least (.agg #[.int .i64 ((N : Int) - (p : Nat)), .iface ta ya, .iface tb yb, .int .i64 (k : Nat)])
  have t_if := ta_hold_if (.agg #[.int .i64 ((N : Int) - (p : Nat)), .iface ta ya, .iface tb yb, .int .i64 (k : Nat)])
  have t_fby := ta_hold_fby (.agg #[.int .i64 ((N : Int) - (p : Nat)), .iface ta ya, .iface tb yb, .int .i64 (k : Nat)])
  have t_under := ta_hold_under (.agg #[.int .i64 ((N : Int) - (p : Nat)), .iface ta ya, .iface tb yb, .int .i64 (k : Nat)])
  have t_hold := ta_hold_hold (.agg #[.int .i64 ((N : Int) - (p : Nat)), .iface ta ya, .iface tb yb, .int .i64 (k : Nat)])
  have IHa : Hid (∀ w, Nm a c b n m w → Calls Tryz.prog 33 #[.pointer (some ⟨c, 0, none⟩), .iface ta ya] w (FnPost w)) := iha
  have IHb : Hid (∀ w, Nm a c b n m w → Calls Tryz.prog 33 #[.pointer (some ⟨c, 0, none⟩), .iface tb yb] w (FnPost w)) := ihb
  clear hN iha ihb
  have k1 : ∀ w', Below (w.alloc (.cells #[.int .i64 ((N : Int) - (p : Nat)), .iface ta ya, .iface tb yb, .int .i64 (k : Nat)] 174)).heap.size (w.alloc (.cells #[.int .i64 ((N : Int) - (p : Nat)), .iface ta ya, .iface tb yb, .int .i64 (k : Nat)] 174)) w' → w'.cell? ⟨w.heap.size, 1, none⟩ = some (.iface ta ya) := fun w' hb => (hb.cell (by simp)).trans (by simp)
  have k2 : ∀ w', Below (w.alloc (.cells #[.int .i64 ((N : Int) - (p : Nat)), .iface ta ya, .iface tb yb, .int .i64 (k : Nat)] 174)).heap.size (w.alloc (.cells #[.int .i64 ((N : Int) - (p : Nat)), .iface ta ya, .iface tb yb, .int .i64 (k : Nat)] 174)) w' → w'.cell? ⟨w.heap.size, 2, none⟩ = some (.iface tb yb) := fun w' hb => (hb.cell (by simp)).trans (by simp)
  have k3 : ∀ w', Below (w.alloc (.cells #[.int .i64 ((N : Int) - (p : Nat)), .iface ta ya, .iface tb yb, .int .i64 (k : Nat)] 174)).heap.size (w.alloc (.cells #[.int .i64 ((N : Int) - (p : Nat)), .iface ta ya, .iface tb yb, .int .i64 (k : Nat)] 174)) w' → w'.cell? ⟨w.heap.size, 3, none⟩ = some (.int .i64 (k : Nat)) := fun w' hb => (hb.cell (by simp)).trans (by simp)
  go_enter Tryz.func33, Tryz.ntmps33
  go_wp2_with fail
  generalize hW : (w.alloc (.cells #[.int .i64 ((N : Int) - (p : Nat)), .iface ta ya, .iface tb yb, .int .i64 (k : Nat)] 174)) = W at HB k1 k2 k3 ⊢
  clear hW t_int t_bool t_name t_pre t_two t_least t_if t_fby t_under t_hold
  go_region_held3 (fun w' => Below W.heap.size W w') (first | assumption | exact (Below.refl _ _).drew) (first
    | (go_at_call 33; (with_reducible refine (IHa.out _ ?_).mono ?_); exact (HN.out.below HB.out).below (by assumption); rintro e w4 ⟨hbw4, f4, c4, rfl⟩; have hBw4 : Below W.heap.size W w4 := below_step (by assumption) hbw4)
    | (go_at_call 33; (with_reducible refine (IHb.out _ ?_).mono ?_); exact (HN.out.below HB.out).below (by assumption); rintro e w5 ⟨hbw5, f5, c5, rfl⟩; have hBw5 : Below W.heap.size W w5 := below_step (by assumption) hbw5)
    | (go_at_call 67; (with_reducible refine (oftener_fn _ _ _ _ _ _).mono ?_); rintro e w9 ⟨hbw9, f9, c9, rfl⟩; have hBw9 : Below W.heap.size W w9 := below_step (by assumption) hbw9))
  all_goals go_wp2
  all_goals go_ret
  all_goals exact ⟨below_step HB.out (by assumption), _, _, rfl⟩

set_option maxRecDepth 100000 in
set_option maxHeartbeats 8000000 in
theorem worth_least (N : Nat) (a : Nat → Addr) (c b n : Nat) (m : Mil.Bytes → Option Int) (p : Nat) (x : Mil.Bytes) (ta : TypeId) (ya : Value) (tb : TypeId) (yb : Value) (iha : ∀ w, Nm a c b n m w → Calls Tryz.prog 33 #[.pointer (some ⟨c, 0, none⟩), .iface ta ya] w (FnPost w)) (ihb : ∀ w, Nm a c b n m w → Calls Tryz.prog 33 #[.pointer (some ⟨c, 0, none⟩), .iface tb yb] w (FnPost w)) (w : World) (hN : Nm a c b n m w) :
    Calls Tryz.prog 33 #[.pointer (some ⟨c, 0, none⟩), .iface 163 (.agg #[.int .i64 ((N : Int) - (p : Nat)), .string (bs x), .iface ta ya, .iface tb yb])] w (FnPost w) := by
  have HN : Hid (Nm a c b n m w) := hN
  have HB : Hid (Below w.heap.size w (w.alloc (.cells #[.int .i64 ((N : Int) - (p : Nat)), .string (bs x), .iface ta ya, .iface tb yb] 163))) := (Below.refl _ _).alloc (Nat.le_refl _) _
  have t_int := ta_least_int (.agg #[.int .i64 ((N : Int) - (p : Nat)), .string (bs x), .iface ta ya, .iface tb yb])
  have t_bool := ta_least_bool (.agg #[.int .i64 ((N : Int) - (p : Nat)), .string (bs x), .iface ta ya, .iface tb yb])
  have t_name := ta_least_name (.agg #[.int .i64 ((N : Int) - (p : Nat)), .string (bs x), .iface ta ya, .iface tb yb])
  have t_pre := ta_least_pre (.agg #[.int .i64 ((N : Int) - (p : Nat)), .string (bs x), .iface ta ya, .iface tb yb])
  have t_two := ta_least_two (.agg #[.int .i64 ((N : Int) - (p : Nat)), .string (bs x), .iface ta ya, .iface tb yb])
  have t_least := ta_least_least (.agg #[.int .i64 ((N : Int) - (p : Nat)), .string (bs x), .iface ta ya, .iface tb yb])
  have IHa : Hid (∀ w, Nm a c b n m w → Calls Tryz.prog 33 #[.pointer (some ⟨c, 0, none⟩), .iface ta ya] w (FnPost w)) := iha
  have IHb : Hid (∀ w, Nm a c b n m w → Calls Tryz.prog 33 #[.pointer (some ⟨c, 0, none⟩), .iface tb yb] w (FnPost w)) := ihb
  clear hN iha ihb
  have k1 : ∀ w', Below (w.alloc (.cells #[.int .i64 ((N : Int) - (p : Nat)), .string (bs x), .iface ta ya, .iface tb yb] 163)).heap.size (w.alloc (.cells #[.int .i64 ((N : Int) - (p : Nat)), .string (bs x), .iface ta ya, .iface tb yb] 163)) w' → w'.cell? ⟨w.heap.size, 1, none⟩ = some (.string (bs x)) := fun w' hb => (hb.cell (by simp)).trans (by simp)
  have k2 : ∀ w', Below (w.alloc (.cells #[.int .i64 ((N : Int) - (p : Nat)), .string (bs x), .iface ta ya, .iface tb yb] 163)).heap.size (w.alloc (.cells #[.int .i64 ((N : Int) - (p : Nat)), .string (bs x), .iface ta ya, .iface tb yb] 163)) w' → w'.cell? ⟨w.heap.size, 2, none⟩ = some (.iface ta ya) := fun w' hb => (hb.cell (by simp)).trans (by simp)
  have k3 : ∀ w', Below (w.alloc (.cells #[.int .i64 ((N : Int) - (p : Nat)), .string (bs x), .iface ta ya, .iface tb yb] 163)).heap.size (w.alloc (.cells #[.int .i64 ((N : Int) - (p : Nat)), .string (bs x), .iface ta ya, .iface tb yb] 163)) w' → w'.cell? ⟨w.heap.size, 3, none⟩ = some (.iface tb yb) := fun w' hb => (hb.cell (by simp)).trans (by simp)
  go_enter Tryz.func33, Tryz.ntmps33
  go_wp2_with fail
  generalize hW : (w.alloc (.cells #[.int .i64 ((N : Int) - (p : Nat)), .string (bs x), .iface ta ya, .iface tb yb] 163)) = W at HB k1 k2 k3 ⊢
  clear hW t_int t_bool t_name t_pre t_two t_least
  go_region_held3 (fun w' => Below W.heap.size W w') (first | assumption | exact (Below.refl _ _).drew) (first
    | (go_at_call 33; (with_reducible refine (IHa.out _ ?_).mono ?_); exact (HN.out.below HB.out).below (by assumption); rintro e w4 ⟨hbw4, f4, c4, rfl⟩; have hBw4 : Below W.heap.size W w4 := below_step (by assumption) hbw4)
    | (go_at_call 33; (with_reducible refine (IHb.out _ ?_).mono ?_); exact (HN.out.below HB.out).below (by assumption); rintro e w5 ⟨hbw5, f5, c5, rfl⟩; have hBw5 : Below W.heap.size W w5 := below_step (by assumption) hbw5)
    | (go_at_call 62; (with_reducible refine (ofTwo_fn _ _ _ _ _ _ _).mono ?_); rintro e w9 ⟨hbw9, f9, c9, rfl⟩; have hBw9 : Below W.heap.size W w9 := below_step (by assumption) hbw9)
    | (go_at_call 63; (with_reducible refine (reckoning_fn _ _).mono ?_); rintro e w8 ⟨hbw8, f8, c8, rfl⟩; have hBw8 : Below W.heap.size W w8 := below_step (by assumption) hbw8))
  all_goals go_wp2
  all_goals go_ret
  all_goals exact ⟨below_step HB.out (by assumption), _, _, rfl⟩

end Go.Proofs.YtikijbcmapjbkaaGreatDoor
