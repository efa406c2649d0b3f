/-
  worthOf, worths: that they answer. (Printed by gen_di.py.)
-/
import Derived.Test.YticbokabjhnagaaGreatDoorDh
namespace Go.Proofs.YticbokabjhnagaaGreatDoor
open Go.RowKit

theorem worthOf_any (N : Nat) (a' : Nat → Addr) (c b' n : Nat) (m : Mil.Bytes → Option Int) : ∀ e, Mil.wf (Mip.er e) false → WF N a' c b' n m e := by
  refine Mip.tree_induct ?_ ?_ ?_ ?_ ?_ ?_ ?_ ?_ ?_ ?_
  · intro p k _
    have e0 : ev N (Mip.eInt p k) = .iface 165 (.agg #[.int .i64 ((N : Int) - (p : Nat)), .int .i64 (k : Nat)]) := by
      show Value.iface 165 (.agg #[.int .i64 ((N : Int) - (p : Nat)), .int .i64 (k : Nat)]) = _
      rfl
    refine ⟨⟨_, _, e0⟩, fun w hN => ?_⟩
    rw [e0]
    exact worth_int N a' c b' n m p k w hN
  · intro p k _
    have e0 : ev N (Mip.eBool p k) = .iface 168 (.agg #[.int .i64 ((N : Int) - (p : Nat)), .bool (k == 1)]) := by
      show Value.iface 168 (.agg #[.int .i64 ((N : Int) - (p : Nat)), .bool (k == 1)]) = _
      rfl
    refine ⟨⟨_, _, e0⟩, fun w hN => ?_⟩
    rw [e0]
    exact worth_bool N a' c b' n m p k w hN
  · intro p x hx
    have e0 : ev N (Mip.eName p x) = .iface 103 (.agg #[.int .i64 ((N : Int) - (p : Nat)), .string (bs x)]) := by
      show Value.iface 103 (.agg #[.int .i64 ((N : Int) - (p : Nat)), .string (bs x)]) = _
      rfl
    refine ⟨⟨_, _, e0⟩, fun w hN => ?_⟩
    rw [e0]
    exact worth_name N a' c b' n m p x (by have := hx.2.2.1; omega) w hN
  · intro p x a hx iha
    obtain ⟨⟨ta, ya, ea⟩, ra⟩ := iha
    rw [ea] at ra
    have e0 : ev N (Mip.ePre p x a) = .iface 172 (.agg #[.int .i64 ((N : Int) - (p : Nat)), .string (bs x), .iface ta ya]) := by
      show Value.iface 172 (.agg #[.int .i64 ((N : Int) - (p : Nat)), .string (bs x), ev N a]) = _
      rw [ea]
    refine ⟨⟨_, _, e0⟩, fun w hN => ?_⟩
    rw [e0]
    exact worth_pre N a' c b' n m p x ta ya ra w hN
  · intro p x a b hx iha ihb
    obtain ⟨⟨ta, ya, ea⟩, ra⟩ := iha
    obtain ⟨⟨tb, yb, eb⟩, rb⟩ := ihb
    rw [ea] at ra
    rw [eb] at rb
    have e0 : ev N (Mip.eTwo p x a b) = .iface 175 (.agg #[.int .i64 ((N : Int) - (p : Nat)), .string (bs x), .iface ta ya, .iface tb yb]) := by
      show Value.iface 175 (.agg #[.int .i64 ((N : Int) - (p : Nat)), .string (bs x), ev N a, ev N b]) = _
      rw [ea, eb]
    refine ⟨⟨_, _, e0⟩, fun w hN => ?_⟩
    rw [e0]
    exact worth_two N a' c b' n m p x ta ya tb yb ra rb w hN
  · intro p y a b d iha ihb ihd
    obtain ⟨⟨ta, ya, ea⟩, ra⟩ := iha
    obtain ⟨⟨tb, yb, eb⟩, rb⟩ := ihb
    obtain ⟨⟨td, yd, ed⟩, rd⟩ := ihd
    rw [ea] at ra
    rw [eb] at rb
    rw [ed] at rd
    have e0 : ev N ((.node 6 0 ([], p) a (.node 0 0 ([], y) b d))) = .iface 182 (.agg #[.int .i64 ((N : Int) - (p : Nat)), .iface ta ya, .iface tb yb, .iface td yd]) := by
      show Value.iface 182 (.agg #[.int .i64 ((N : Int) - (p : Nat)), ev N a, ev N b, ev N d]) = _
      rw [ea, eb, ed]
    refine ⟨⟨_, _, e0⟩, fun w hN => ?_⟩
    rw [e0]
    exact worth_if N a' c b' n m p ta ya tb yb td yd ra rb rd w hN
  · intro p a b iha ihb
    obtain ⟨⟨ta, ya, ea⟩, ra⟩ := iha
    obtain ⟨⟨tb, yb, eb⟩, rb⟩ := ihb
    rw [ea] at ra
    rw [eb] at rb
    have e0 : ev N (Mip.eFby p a b) = .iface 185 (.agg #[.int .i64 ((N : Int) - (p : Nat)), .iface ta ya, .iface tb yb]) := by
      show Value.iface 185 (.agg #[.int .i64 ((N : Int) - (p : Nat)), ev N a, ev N b]) = _
      rw [ea, eb]
    refine ⟨⟨_, _, e0⟩, fun w hN => ?_⟩
    rw [e0]
    exact worth_fby N a' c b' n m p ta ya tb yb ra rb w hN
  · intro p a k h2 hk iha
    obtain ⟨⟨ta, ya, ea⟩, ra⟩ := iha
    rw [ea] at ra
    have e0 : ev N (Mip.eUnder p a k) = .iface 188 (.agg #[.int .i64 ((N : Int) - (p : Nat)), .iface ta ya, .int .i64 (k : Nat)]) := by
      show Value.iface 188 (.agg #[.int .i64 ((N : Int) - (p : Nat)), ev N a, .int .i64 (k : Nat)]) = _
      rw [ea]
    refine ⟨⟨_, _, e0⟩, fun w hN => ?_⟩
    rw [e0]
    exact worth_under N a' c b' n m p k ta ya ra w hN
  · intro p a b k h2 hk iha ihb
    obtain ⟨⟨ta, ya, ea⟩, ra⟩ := iha
    obtain ⟨⟨tb, yb, eb⟩, rb⟩ := ihb
    rw [ea] at ra
    rw [eb] at rb
    have e0 : ev N (Mip.eHold p a b k) = .iface 191 (.agg #[.int .i64 ((N : Int) - (p : Nat)), .iface ta ya, .iface tb yb, .int .i64 (k : Nat)]) := by
      show Value.iface 191 (.agg #[.int .i64 ((N : Int) - (p : Nat)), ev N a, ev N b, .int .i64 (k : Nat)]) = _
      rw [ea, eb]
    refine ⟨⟨_, _, e0⟩, fun w hN => ?_⟩
    rw [e0]
    exact worth_hold N a' c b' n m p k ta ya tb yb ra rb w hN
  · intro p x a b hx iha ihb
    obtain ⟨⟨ta, ya, ea⟩, ra⟩ := iha
    obtain ⟨⟨tb, yb, eb⟩, rb⟩ := ihb
    rw [ea] at ra
    rw [eb] at rb
    have e0 : ev N (Mip.eLeast p x a b) = .iface 180 (.agg #[.int .i64 ((N : Int) - (p : Nat)), .string (bs x), .iface ta ya, .iface tb yb]) := by
      show Value.iface 180 (.agg #[.int .i64 ((N : Int) - (p : Nat)), .string (bs x), ev N a, ev N b]) = _
      rw [ea, eb]
    refine ⟨⟨_, _, e0⟩, fun w hN => ?_⟩
    rw [e0]
    exact worth_least N a' c b' n m p x ta ya tb yb ra rb w hN
theorem Tryz.infoW : (Tryz.prog.info? 116).map (fun i => (i.zero, i.size, i.bytes)) = some (some .nilFunc, 1, 8) := by kernel_rfl
def WsPost (n : Nat) (w : World) (E : Ending) (w' : World) : Prop := Below w.heap.size w w' ∧ ∃ g, E = .returned (.slice (some ⟨g, 0, none⟩) n n)

set_option maxRecDepth 100000 in
set_option maxHeartbeats 16000000 in
theorem worths_any {N : Nat} {a : Nat → Addr} {w0 : World} {iv : Value} {c b n : Nat} {m : Mil.Bytes → Option Int} {F : List Flo} {Q : List Nq} {fv qv : Value} {w : World} (h : Fin N w0 iv c b n m F Q fv qv w) (hE : Ce a w0) (hz : Rz2 m F Q) (hF : F.length ≤ 60) :
    Calls Tryz.prog 23 #[.pointer (some ⟨c, 0, none⟩)] w (WsPost F.length w) := by
  obtain ⟨X, hXQ, hC, hXL⟩ := h
  have HXQ : Hid (X.map Prod.fst = Q) := hXQ
  have hXl : X.length = Q.length := by rw [← hXQ]; simp
  have HC : Hid (Cs N w0 iv c b n m F X fv qv w) := hC
  have HXL : Hid (∀ x ∈ X, Lst w x.2 (Mip.nds m x.1.body)) := hXL
  have HE : Hid (Ce a w0) := hE
  have HZ : Hid (Rz2 m F Q) := hz
  have HXM : Hid (∀ x ∈ X, x.1 ∈ Q) := fun x hx => by rw [← HXQ.out]; exact List.mem_map.2 ⟨x, hx, rfl⟩
  obtain ⟨oq, cq, hqv⟩ := own_shape hC.eq
  have HQV : Hid (qv = .slice oq X.length cq) := hqv
  obtain ⟨of, cf, hfv⟩ := own_shape hC.fl
  have hlen : X.length ≤ 60 := by rw [hXl]; exact hz.len
  have d1 := hC.cells.2.1
  rw [hfv] at d1
  have hmk := fun w => run_make_row' (P := Tryz.prog) 56 116 .nilFunc 8 Tryz.underlying56 Tryz.infoW rfl .i64 .i64 F.length (by omega) (by omega) w
  have HB0 : Hid (Below w.heap.size w (w.alloc (.cells (madeCells #[.nilFunc] F.length) 116))) := (Below.refl _ _).alloc (Nat.le_refl _) _
  have HR0 : Hid (∃ fn, (w.alloc (.cells (madeCells #[.nilFunc] F.length) 116)).rowIs w.heap.size 116 F.length fn) := ⟨_, World.rowIs_made w .nilFunc F.length 116⟩
  have c3 := (hC.below HB0.out).cells.2.2.2
  rw [hqv] at c3
  clear hXQ hXl hC hXL hE hz hF hqv hfv
  go_enter Tryz.func23, Tryz.ntmps23
  go_wp2_with fail
  clear hmk
  generalize w.alloc (.cells (madeCells #[.nilFunc] F.length) 116) = W at HB0 HR0 c3 ⊢
  go_loopg [17] X.length (fun gk s17 wr => ∃ (j : Nat), j ≤ X.length ∧ s17 = .int .i64 (j : Nat) ∧ gk = X.length - j ∧ Hid (Below w.heap.size w wr) ∧ Hid (∃ fn, wr.rowIs w.heap.size 116 F.length fn))
  case atStart => exact ⟨0, Nat.zero_le _, rfl, rfl, HB0, HR0⟩
  case round =>
    obtain ⟨j, hj, rfl, hg, KB, KR⟩ := hrel
    have HG : Hid (gk = X.length - j) := hg
    clear hg c3 HB0 HR0
    by_cases hlt : j < X.length
    · have HLT : Hid (j < X.length) := hlt
      obtain ⟨⟨q, u⟩, hq⟩ : ∃ x, X[j]? = some x := ⟨_, List.getElem?_eq_getElem hlt⟩
      have hmem := List.mem_of_getElem? hq
      have hqm : q ∈ Q := HXM.out _ hmem
      have hwf := (HZ.out.fq.wf q hqm).1
      obtain ⟨gq, cap', hqv, e0, e1, e2, e3, e4, e5⟩ := (HC.out.below KB.out).eqAt hq
      rw [HQV.out] at hqv
      obtain ⟨rfl, rfl⟩ : oq = some ⟨gq, 0, none⟩ ∧ cq = cap' := by injection hqv with h1 h2 h3; exact ⟨h1, h3⟩
      obtain ⟨T, y, hev⟩ := ev_iface N q.body hwf
      simp only [hev] at e3
      have HWO := (worthOf_any N a c b n m q.body hwf).2
      rw [hev] at HWO
      have HWO' : Hid (∀ w, Nm a c b n m w → Calls Tryz.prog 42 #[.pointer (some ⟨c, 0, none⟩), .iface T y] w (FnPost w)) := HWO
      obtain ⟨so, sn, sc, hus⟩ := (HXL.out _ hmem).shape
      have hus' : u = .slice so sn sc := hus
      subst hus'
      obtain ⟨f, hf, _⟩ := HZ.out.fq.eqf q hqm
      have hfl := (List.getElem?_eq_some_iff.1 hf).1
      have HFL : Hid (q.flow < F.length) := hfl
      have f0 : (0 : Int) ≤ (q.flow : Int) := by omega
      have f1 : (q.flow : Int) < (F.length : Int) := by omega
      have h0 : (0 : Int) ≤ (j : Int) := by omega
      have h1 : (j : Int) < (X.length : Int) := by omega
      have HB : Hid (Below wr.heap.size wr (wr.alloc (.cells #[.int .i64 ((N : Int) - (q.at_ : Nat)), .string (bs q.nm), .int .i64 (q.ty : Nat), .iface T y, .int .i64 (q.flow : Nat), .slice so sn sc] 109))) := (Below.refl _ _).alloc (Nat.le_refl _) _
      have HXB : Hid ((wr.alloc (.cells #[.int .i64 ((N : Int) - (q.at_ : Nat)), .string (bs q.nm), .int .i64 (q.ty : Nat), .iface T y, .int .i64 (q.flow : Nat), .slice so sn sc] 109)).heap[wr.heap.size]? = some (.cells #[.int .i64 ((N : Int) - (q.at_ : Nat)), .string (bs q.nm), .int .i64 (q.ty : Nat), .iface T y, .int .i64 (q.flow : Nat), .slice so sn sc] 109 (0, 0))) := heap_alloc_new wr _
      clear hq hmem hqm hwf hqv hev hus hf hfl HWO
      go_wp2_with fail
      have VB : Hid (Below w.heap.size w (wr.alloc (.cells #[.int .i64 ((N : Int) - (q.at_ : Nat)), .string (bs q.nm), .int .i64 (q.ty : Nat), .iface T y, .int .i64 (q.flow : Nat), .slice so sn sc] 109))) := below_step KB.out HB.out
      have VR : Hid (∃ fn, (wr.alloc (.cells #[.int .i64 ((N : Int) - (q.at_ : Nat)), .string (bs q.nm), .int .i64 (q.ty : Nat), .iface T y, .int .i64 (q.flow : Nat), .slice so sn sc] 109)).rowIs w.heap.size 116 F.length fn) := KR.out.imp (fun fn h => h.alloc _)
      clear e0 e1 e2 e3 e4 e5 HB
      generalize wr.alloc (.cells #[.int .i64 ((N : Int) - (q.at_ : Nat)), .string (bs q.nm), .int .i64 (q.ty : Nat), .iface T y, .int .i64 (q.flow : Nat), .slice so sn sc] 109) = V at VB VR HXB ⊢
      generalize wr.heap.size = ib at HXB ⊢
      have x3 : V.cell? ⟨ib, 3, none⟩ = some (.iface T y) := (cell_of_row V _ 3 _ _ _ HXB.out).trans rfl
      have x4 : V.cell? ⟨ib, 4, none⟩ = some (.int .i64 (q.flow : Nat)) := (cell_of_row V _ 4 _ _ _ HXB.out).trans rfl
      refine region_L (fun w' => w'.cell? ⟨ib, 4, none⟩ = some (.int .i64 (q.flow : Nat)) ∧ w'.cell? ⟨ib, 3, none⟩ = some (.iface T y)) 9 (by kernel_rfl) ⟨x4, x3⟩ (fun hS => ?_)
      refine L_take 0 (v := ?_) rfl (by kernel_rfl) (by kernel_rfl) (by kernel_rfl) (by kernel_rfl) (fun _ _ _ h => h) (Or.inl ⟨by rfl, ?_⟩) (by assumption) ?_
      rotate_left 1
      · (intro w' hSw; (try dsimp only at hSw); go_simp <;> with_reducible rfl)
      try simp only [Act.put, List.setIfInBounds_toArray, List.set_cons_zero, List.set_cons_succ]
      refine L_take 1 (v := ?_) rfl (by kernel_rfl) (by kernel_rfl) (by kernel_rfl) (by kernel_rfl) (fun _ _ _ h => h) (Or.inl ⟨by rfl, ?_⟩) (by assumption) ?_
      rotate_left 1
      · (intro w' hSw; (try dsimp only at hSw); go_simp <;> with_reducible rfl)
      try simp only [Act.put, List.setIfInBounds_toArray, List.set_cons_zero, List.set_cons_succ]
      refine L_take 2 (v := ?_) rfl (by kernel_rfl) (by kernel_rfl) (by kernel_rfl) (by kernel_rfl) (fun _ _ _ h => h) (Or.inl ⟨by rfl, ?_⟩) (by assumption) ?_
      rotate_left 1
      · (intro w' hSw; (try dsimp only at hSw); go_simp <;> with_reducible rfl)
      try simp only [Act.put, List.setIfInBounds_toArray, List.set_cons_zero, List.set_cons_succ]
      refine L_take 3 (v := ?_) rfl (by kernel_rfl) (by kernel_rfl) (by kernel_rfl) (by kernel_rfl) (fun _ _ _ h => h) (Or.inl ⟨by rfl, ?_⟩) (by assumption) ?_
      rotate_left 1
      · (intro w' hSw; (try dsimp only at hSw); go_simp <;> with_reducible rfl)
      try simp only [Act.put, List.setIfInBounds_toArray, List.set_cons_zero, List.set_cons_succ]
      refine L_take 4 (v := ?_) rfl (by kernel_rfl) (by kernel_rfl) (by kernel_rfl) (by kernel_rfl) (fun _ _ _ h => h) (Or.inl ⟨by rfl, ?_⟩) (by assumption) ?_
      rotate_left 1
      · (intro w' hSw; (try dsimp only at hSw); go_simp <;> with_reducible rfl)
      try simp only [Act.put, List.setIfInBounds_toArray, List.set_cons_zero, List.set_cons_succ]
      refine L_take 5 (v := ?_) rfl (by kernel_rfl) (by kernel_rfl) (by kernel_rfl) (by kernel_rfl) (fun _ _ _ h => h) (Or.inl ⟨by rfl, ?_⟩) (by assumption) ?_
      rotate_left 1
      · (intro w' hSw; (try dsimp only at hSw); go_simp <;> with_reducible rfl)
      try simp only [Act.put, List.setIfInBounds_toArray, List.set_cons_zero, List.set_cons_succ]
      refine L_take 6 (v := ?_) rfl (by kernel_rfl) (by kernel_rfl) (by kernel_rfl) (by kernel_rfl) (fun _ _ _ h => h) (Or.inl ⟨by rfl, ?_⟩) (by assumption) ?_
      rotate_left 1
      · (intro w' hSw; (try dsimp only at hSw); go_simp <;> with_reducible rfl)
      try simp only [Act.put, List.setIfInBounds_toArray, List.set_cons_zero, List.set_cons_succ]
      refine L_one 7 (by kernel_rfl) rfl (fun K hK => ?_)
      go_simp
      refine (HWO'.out _ (((HC.out.below VB.out).below (Below.refl _ _).drew).nm HE.out)).mono ?_
      rintro E w1 ⟨hb1, f1, c1, rfl⟩
      have HB1 : Hid (Below w.heap.size w w1) := below_step VB.out.drew hb1
      have HR1 : Hid (∃ fn, w1.rowIs w.heap.size 116 F.length fn) := VR.out.imp (fun fn h => h.drew.of_block (hb1.block _ h.lt))
      have kp : ∀ {q : Addr} {v : Value}, V.cell? q = some v → w1.cell? q = some v := fun hq => (hb1.cell (lt_of_cell (w := V.drew) hq)).trans hq
      refine hK.out _ _ (Or.inr ⟨kp x4, kp x3⟩) (fun h7 => ?_)
      replace h7 := h7.resolve_left (by decide)
      clear hK K hS kp hb1 x3 x4
      try simp only [Act.put, List.setIfInBounds_toArray, List.set_cons_zero, List.set_cons_succ]
      refine L_one 8 (by kernel_rfl) rfl (fun K hK => ?_)
      go_simp
      refine hK.out _ _ (Or.inr (by assumption)) (fun h8 => ?_)
      clear h8 hK K
      try simp only [Act.put, List.setIfInBounds_toArray, List.set_cons_zero, List.set_cons_succ]
      obtain ⟨fn, hfn⟩ := HR1.out
      have ca := hfn.cell HFL.out
      have za := hfn.frozen q.flow
      have HR2 : Hid (∃ fn, (w1.setCell ⟨w.heap.size, q.flow, none⟩ (.func (.func f1) #[] c1)).rowIs w.heap.size 116 F.length fn) := ⟨_, hfn.set q.flow _⟩
      have HB2 : Hid (Below w.heap.size w (w1.setCell ⟨w.heap.size, q.flow, none⟩ (.func (.func f1) #[] c1))) := HB1.out.setCell (Nat.le_refl _) _
      refine L_one 9 (by kernel_rfl) rfl (fun K hK => ?_)
      go_simp
      refine hK.out _ _ (Or.inl rfl) (fun _ => ?_)
      clear hK K h7 ca za hfn
      try simp only [Act.put, List.setIfInBounds_toArray, List.set_cons_zero, List.set_cons_succ]
      refine L_done (by kernel_rfl) ?_ _
      go_wp2
      go_roundg (X.length - (j + 1))
      case measure => have := HG.out; have := HLT.out; omega
      case rel => exact ⟨j + 1, HLT.out, by go_num, rfl, HB2, HR2⟩
    · have hle : (X.length : Int) ≤ (j : Int) := by omega
      go_wp2
      go_ret
      exact ⟨KB.out, _, rfl⟩

end Go.Proofs.YticbokabjhnagaaGreatDoor
