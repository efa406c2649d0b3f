/-
  New, of each kind; what the statements' side asks of package reg; both statements.
-/
import Derived.Test.YtgaepakdhdfdfaaDoorVt
import Derived.Test.YtgaepakdhdfdfaaDoorVe
import Derived.Test.YtgaepakdhdfdfaaDoorVw
namespace Go.Proofs.YtgaepakdhdfdfaaDoor
open Go.RowKit

set_option maxRecDepth 100000 in
set_option maxHeartbeats 2000000 in
theorem cells_1 {w : World} {p : Option Addr} {n c : Nat} {E0 : Nat → World → Prop} (hg : Calls Tryd.prog 30 #[.slice p n c] w fun E w' => ∃ f, E = .returned (.pointer (some ⟨f, 0, none⟩)) ∧ E0 f w') :
    Calls Tryd.prog 22 #[.int .i64 1, .slice p n c] w fun E w' => ∃ f, E = .returned (.iface 73 (.pointer (some ⟨f, 0, none⟩))) ∧ E0 f w' := by
  have HG : Hid (Calls Tryd.prog 30 #[.slice p n c] w fun E w' => ∃ f, E = .returned (.pointer (some ⟨f, 0, none⟩)) ∧ E0 f w') := hg
  clear hg
  go_enter Tryd.func22, Tryd.ntmps22
  go_wp2_with fail
  refine HG.out.mono ?_
  rintro E w1 ⟨f, rfl, h1⟩
  have H1 : Hid (E0 f w1) := h1
  clear h1
  go_wp2_with fail
  go_ret
  exact ⟨f, rfl, H1.out⟩
set_option maxRecDepth 100000 in
set_option maxHeartbeats 2000000 in
theorem new_1 {w : World} {p : Option Addr} {n c : Nat} {E0 : Nat → World → Prop} (hn1 : 1 ≤ n) (hn : n ≤ 40) (hg : Calls Tryd.prog 22 #[.int .i64 1, .slice p n c] w fun E w' => ∃ f, E = .returned (.iface 73 (.pointer (some ⟨f, 0, none⟩))) ∧ E0 f w') :
    Calls Tryd.prog 15 #[.int .i64 1, .slice p n c] w fun E w' => ∃ f w1, E = .returned (.tuple #[.pointer (some ⟨w1.heap.size, 0, none⟩), .nilIface]) ∧ E0 f w1 ∧ w' = w1.alloc (.cells (blkR n 73 f nilS (.int .i64 0) nilS (.int .i64 0)) 65) := by
  have HG : Hid (Calls Tryd.prog 22 #[.int .i64 1, .slice p n c] w fun E w' => ∃ f, E = .returned (.iface 73 (.pointer (some ⟨f, 0, none⟩))) ∧ E0 f w') := hg
  have h0 : ¬ (n : Int) = 0 := by omega
  have h1 : ¬ (4096 : Int) < (n : Int) := by omega
  have h2 : (n : Int) ≤ 4096 := by omega
  clear hg
  go_enter Tryd.func15, Tryd.ntmps15
  go_wp2_with fail
  refine HG.out.mono ?_
  rintro E w1 ⟨f, rfl, h1⟩
  have H1 : Hid (E0 f w1) := h1
  clear h1
  go_wp2_with fail
  go_ret2
  exact ⟨f, w1, rfl, H1.out, rfl⟩
set_option maxRecDepth 100000 in
set_option maxHeartbeats 2000000 in
theorem cells_2 {w : World} {p : Option Addr} {n c : Nat} {E0 : Nat → World → Prop} (hg : Calls Tryd.prog 31 #[.slice p n c] w fun E w' => ∃ f, E = .returned (.pointer (some ⟨f, 0, none⟩)) ∧ E0 f w') :
    Calls Tryd.prog 22 #[.int .i64 2, .slice p n c] w fun E w' => ∃ f, E = .returned (.iface 75 (.pointer (some ⟨f, 0, none⟩))) ∧ E0 f w' := by
  have HG : Hid (Calls Tryd.prog 31 #[.slice p n c] w fun E w' => ∃ f, E = .returned (.pointer (some ⟨f, 0, none⟩)) ∧ E0 f w') := hg
  clear hg
  go_enter Tryd.func22, Tryd.ntmps22
  go_wp2_with fail
  refine HG.out.mono ?_
  rintro E w1 ⟨f, rfl, h1⟩
  have H1 : Hid (E0 f w1) := h1
  clear h1
  go_wp2_with fail
  go_ret
  exact ⟨f, rfl, H1.out⟩
set_option maxRecDepth 100000 in
set_option maxHeartbeats 2000000 in
theorem new_2 {w : World} {p : Option Addr} {n c : Nat} {E0 : Nat → World → Prop} (hn1 : 1 ≤ n) (hn : n ≤ 40) (hg : Calls Tryd.prog 22 #[.int .i64 2, .slice p n c] w fun E w' => ∃ f, E = .returned (.iface 75 (.pointer (some ⟨f, 0, none⟩))) ∧ E0 f w') :
    Calls Tryd.prog 15 #[.int .i64 2, .slice p n c] w fun E w' => ∃ f w1, E = .returned (.tuple #[.pointer (some ⟨w1.heap.size, 0, none⟩), .nilIface]) ∧ E0 f w1 ∧ w' = w1.alloc (.cells (blkR n 75 f nilS (.int .i64 0) nilS (.int .i64 0)) 65) := by
  have HG : Hid (Calls Tryd.prog 22 #[.int .i64 2, .slice p n c] w fun E w' => ∃ f, E = .returned (.iface 75 (.pointer (some ⟨f, 0, none⟩))) ∧ E0 f w') := hg
  have h0 : ¬ (n : Int) = 0 := by omega
  have h1 : ¬ (4096 : Int) < (n : Int) := by omega
  have h2 : (n : Int) ≤ 4096 := by omega
  clear hg
  go_enter Tryd.func15, Tryd.ntmps15
  go_wp2_with fail
  refine HG.out.mono ?_
  rintro E w1 ⟨f, rfl, h1⟩
  have H1 : Hid (E0 f w1) := h1
  clear h1
  go_wp2_with fail
  go_ret2
  exact ⟨f, w1, rfl, H1.out, rfl⟩
set_option maxRecDepth 100000 in
set_option maxHeartbeats 2000000 in
theorem cells_3 {w : World} {p : Option Addr} {n c : Nat} {E0 : Nat → World → Prop} (hg : Calls Tryd.prog 32 #[.slice p n c] w fun E w' => ∃ f, E = .returned (.pointer (some ⟨f, 0, none⟩)) ∧ E0 f w') :
    Calls Tryd.prog 22 #[.int .i64 3, .slice p n c] w fun E w' => ∃ f, E = .returned (.iface 77 (.pointer (some ⟨f, 0, none⟩))) ∧ E0 f w' := by
  have HG : Hid (Calls Tryd.prog 32 #[.slice p n c] w fun E w' => ∃ f, E = .returned (.pointer (some ⟨f, 0, none⟩)) ∧ E0 f w') := hg
  clear hg
  go_enter Tryd.func22, Tryd.ntmps22
  go_wp2_with fail
  refine HG.out.mono ?_
  rintro E w1 ⟨f, rfl, h1⟩
  have H1 : Hid (E0 f w1) := h1
  clear h1
  go_wp2_with fail
  go_ret
  exact ⟨f, rfl, H1.out⟩
set_option maxRecDepth 100000 in
set_option maxHeartbeats 2000000 in
theorem new_3 {w : World} {p : Option Addr} {n c : Nat} {E0 : Nat → World → Prop} (hn1 : n = 1) (hg : Calls Tryd.prog 22 #[.int .i64 3, .slice p n c] w fun E w' => ∃ f, E = .returned (.iface 77 (.pointer (some ⟨f, 0, none⟩))) ∧ E0 f w') :
    Calls Tryd.prog 15 #[.int .i64 3, .slice p n c] w fun E w' => ∃ f w1, E = .returned (.tuple #[.pointer (some ⟨w1.heap.size, 0, none⟩), .nilIface]) ∧ E0 f w1 ∧ w' = w1.alloc (.cells (blkR n 77 f nilS (.int .i64 0) nilS (.int .i64 0)) 65) := by
  have HG : Hid (Calls Tryd.prog 22 #[.int .i64 3, .slice p n c] w fun E w' => ∃ f, E = .returned (.iface 77 (.pointer (some ⟨f, 0, none⟩))) ∧ E0 f w') := hg
  subst hn1
  clear hg
  go_enter Tryd.func15, Tryd.ntmps15
  go_wp2_with fail
  refine HG.out.mono ?_
  rintro E w1 ⟨f, rfl, h1⟩
  have H1 : Hid (E0 f w1) := h1
  clear h1
  go_wp2_with fail
  go_ret2
  exact ⟨f, w1, rfl, H1.out, rfl⟩

theorem rall_new {Q : Type} {D : Kd Q} {tc : TypeId} {fw fr : FuncId} (C : Cc D fw fr) {w w1 : World} {f : Nat} {CB : List Nat} {s : Q} (hk : D.K CB w1 f s) (hnd : CB.Nodup) (hlo : ∀ k ∈ CB, w.heap.size ≤ k) (hB : Below w.heap.size w w1) (h1 : D.m.wl s = 0) (h2 : D.m.rl s = 0) :
    ∃ own, (∀ k, own k → w.heap.size ≤ k) ∧ Below w.heap.size w (w1.alloc (.cells (blkR (D.m.width s) tc f nilS (.int .i64 0) nilS (.int .i64 0)) 65)) ∧ Rall D tc own (w1.alloc (.cells (blkR (D.m.width s) tc f nilS (.int .i64 0) nilS (.int .i64 0)) 65)) w1.heap.size s := by
  have hA : Below w1.heap.size w1 (w1.alloc (.cells (blkR (D.m.width s) tc f nilS (.int .i64 0) nilS (.int .i64 0)) 65)) := (Below.refl _ _).alloc (Nat.le_refl _) _
  have hlt := C.lt hk
  refine ⟨fun k => k = w1.heap.size ∨ k ∈ CB ∨ (none : Option Nat) = some k ∨ (none : Option Nat) = some k, fun k hk => ?_, below_step hB hA, f, CB, none, none, _, _, _, _, hnd, fun x => by have := hlt _ x; omega, by simp, by simp, fun _ e => (by cases e), fun _ e => (by cases e), fun _ e => (by cases e), fun _ => Iff.rfl, heap_alloc_new w1 _, C.kept hk (fun k hc => hA.block k (hlt k hc)), ?_, ?_⟩
  · rcases hk with e | e | e | e
    · have := hB.size; omega
    · exact hlo k e
    · cases e
    · cases e
  · exact Or.inl ⟨h1, rfl, rfl, rfl⟩
  · exact Or.inl ⟨h2, rfl, rfl, rfl⟩

theorem news (a : Nat → Addr) (B : Nat) : Reg.News (Rall D1 73) (Rall D2 75) (Rall D3 77) a B where
  new1 := by
    intro n P v w hn1 hn _ hv
    obtain ⟨g, o, c, rfl, hx⟩ := id hv
    refine (new_1 hn1 hn (cells_1 ((newFour_any hn hv).mono (R' := fun E w' => ∃ f, E = .returned (.pointer (some ⟨f, 0, none⟩)) ∧ (fun f w' => ∃ k0 k1 k2 k3, w.heap.size ≤ f ∧ f < k0 ∧ k0 < k1 ∧ k1 < k2 ∧ k2 < k3 ∧ Below w.heap.size w w' ∧ Bk w' f #[.int .u32 0, .int .u32 0, .int .u32 0, .int .u32 0, slV k0 n n, slV k1 n n, slV k2 n n, slV k3 n n, .int .u32 0, .int .u32 0, .int .u32 0, .int .u32 0] 91 ∧ Rw w' k0 n (P 0) ∧ Rw w' k1 n (fun _ => 0) ∧ Rw w' k2 n (fun _ => 0) ∧ Rw w' k3 n (fun _ => 0)) f w') ?_))).mono ?_
    · rintro E w' ⟨f, k0, k1, k2, k3, e1, e2⟩
      exact ⟨f, e1, k0, k1, k2, k3, e2⟩
    rintro E w' ⟨f, w1, rfl, ⟨k0, k1, k2, k3, l0, l1, l2, l3, l4, hB, hb, r0, r1, r2, r3⟩, rfl⟩
    have hK : D1.K [f, k0, k1, k2, k3] w1 f ({ width := n, latest := 0, reading := 0, slot := fun _ => 0, mem := fun p q i => if p = 0 ∧ q = 0 then P 0 i else 0, wph := 0, wp := 0, wq := 0, wi := 0, wpay := fun _ => 0, rph := 0, rp := 0, rq := 0, ri := 0, racc := [] } : Reg.Q1) := by
      refine ⟨fun p q => if p = 0 then (if q = 0 then k0 else k1) else (if q = 0 then k2 else k3), rfl, hb, fun p q hp hq => ?_⟩
      rcases (by omega : p = 0 ∨ p = 1) with rfl | rfl <;> rcases (by omega : q = 0 ∨ q = 1) with rfl | rfl
      · exact r0
      · exact r1
      · exact r2
      · exact r3
    obtain ⟨own, h1, h2, h3⟩ := rall_new (tc := 73) (w := w) cc1 hK (by simp; omega) (by intro k hk; simp at hk; omega) hB rfl rfl
    exact ⟨w1.heap.size, own, _, rfl, h1, h2, h3, rfl, rfl, rfl, fun _ => rfl, rfl, rfl, fun i _ => rfl⟩
  new2 := by
    intro n P v w hn1 hn _ hv
    obtain ⟨g, o, c, rfl, hx⟩ := id hv
    refine (new_2 hn1 hn (cells_2 ((newThree_any hn hv).mono (R' := fun E w' => ∃ f, E = .returned (.pointer (some ⟨f, 0, none⟩)) ∧ (fun f w' => ∃ k0 k1 k2, w.heap.size ≤ f ∧ f < k0 ∧ k0 < k1 ∧ k1 < k2 ∧ Below w.heap.size w w' ∧ Bk w' f #[.int .u32 3, slV k0 n n, slV k1 n n, slV k2 n n, .int .u32 0, .int .u32 2, .int .u32 2] 94 ∧ Rw w' k0 n (fun _ => 0) ∧ Rw w' k1 n (fun _ => 0) ∧ Rw w' k2 n (P 0)) f w') ?_))).mono ?_
    · rintro E w' ⟨f, k0, k1, k2, e1, e2⟩
      exact ⟨f, e1, k0, k1, k2, e2⟩
    rintro E w' ⟨f, w1, rfl, ⟨k0, k1, k2, l0, l1, l2, l3, hB, hb, r0, r1, r2⟩, rfl⟩
    have hK : D2.K [f, k0, k1, k2] w1 f ({ width := n, wb := 0, mb := 1, rb := 2, fresh := false, mem := fun b i => if b = 2 then P 0 i else 0, wph := 0, wi := 0, wpay := fun _ => 0, rph := 0, ri := 0, racc := [] } : Reg.Q2) := by
      refine ⟨fun b => if b = 0 then k0 else if b = 1 then k1 else k2, 2, rfl, hb, fun b hb' => ?_, rfl⟩
      rcases (by omega : b = 0 ∨ b = 1 ∨ b = 2) with rfl | rfl | rfl
      · exact r0
      · exact r1
      · exact r2
    obtain ⟨own, h1, h2, h3⟩ := rall_new (tc := 75) (w := w) cc2 hK (by simp; omega) (by intro k hk; simp at hk; omega) hB rfl rfl
    exact ⟨w1.heap.size, own, _, rfl, h1, h2, h3, rfl, show (0 : Nat) ≠ 1 by decide, show (0 : Nat) ≠ 2 by decide, show (1 : Nat) ≠ 2 by decide, show (0 : Nat) < 3 by decide, show (1 : Nat) < 3 by decide, show (2 : Nat) < 3 by decide, rfl, rfl, rfl, fun i _ => rfl⟩
  new3 := by
    intro P v w _ hv
    obtain ⟨g, o, c, rfl, hx⟩ := id hv
    refine (new_3 rfl (cells_3 ((newOne_any hv).mono (R' := fun E w' => ∃ f, E = .returned (.pointer (some ⟨f, 0, none⟩)) ∧ (fun f w' => w.heap.size ≤ f ∧ Below w.heap.size w w' ∧ Bk w' f #[.int .u64 (P 0 0 : Nat)] 100) f w') ?_))).mono ?_
    · rintro E w' ⟨e1, e2, e3⟩
      exact ⟨w.heap.size, e1, Nat.le_refl _, e2, e3⟩
    rintro E w' ⟨f, w1, rfl, ⟨l0, hB, hb⟩, rfl⟩
    have hK : D3.K [f] w1 f ({ val := P 0 0, wph := 0, wval := 0, rph := 0 } : Reg.Q3) := ⟨rfl, hb⟩
    obtain ⟨own, h1, h2, h3⟩ := rall_new (tc := 77) (w := w) cc3 hK (by simp) (by intro k hk; simp at hk; omega) hB rfl rfl
    exact ⟨w1.heap.size, own, _, rfl, h1, h2, h3, rfl, rfl, rfl⟩

end Go.Proofs.YtgaepakdhdfdfaaDoor
