/-
  exprText at every tree that is read.
-/
import Derived.Test.YtfoabfffmjljmaaGreatDoorTxe
namespace Go.Proofs.YtfoabfffmjljmaaGreatDoor
open Go.RowKit

theorem ev_shape : ∀ e : Mil.E, Mil.wf e false → ∀ v, Evs e v → ∃ ty y, v = .iface ty y :=
  Mil.wf_induct (P := fun e => ∀ v, Evs e v → ∃ ty y, v = .iface ty y) (fun _ _ _ h => by obtain ⟨_, rfl⟩ := evs_int h; exact ⟨_, _, rfl⟩) (fun _ _ _ h => by obtain ⟨_, rfl⟩ := evs_bool h; exact ⟨_, _, rfl⟩) (fun _ _ _ h => by obtain ⟨_, rfl⟩ := evs_name h; exact ⟨_, _, rfl⟩)
    (fun _ _ _ _ _ _ h => by obtain ⟨_, _, rfl, _⟩ := evs_pre h; exact ⟨_, _, rfl⟩) (fun _ _ _ _ _ _ _ _ _ h => by obtain ⟨_, _, _, rfl, _⟩ := evs_two h; exact ⟨_, _, rfl⟩)
    (fun _ _ _ _ _ _ _ _ _ _ h => by obtain ⟨_, _, _, _, rfl, _⟩ := evs_if h; exact ⟨_, _, rfl⟩) (fun _ _ _ _ _ _ h => by obtain ⟨_, _, _, rfl, _⟩ := evs_fby h; exact ⟨_, _, rfl⟩) (fun _ _ _ _ _ _ _ h => by obtain ⟨_, _, rfl, _⟩ := evs_under h; exact ⟨_, _, rfl⟩)
    (fun _ _ _ _ _ _ _ _ _ h => by obtain ⟨_, _, _, rfl, _⟩ := evs_hold h; exact ⟨_, _, rfl⟩) (fun _ _ _ _ _ _ _ _ _ h => by obtain ⟨_, _, _, rfl, _⟩ := evs_least h; exact ⟨_, _, rfl⟩)
theorem short {e : Mil.E} (h : Mil.wf e false) (ht : (Mil.toks e).length ≤ 600) : (Mil.txt e).length ≤ 24000 := by
  have := Mil.txt_len e h
  omega

def TP (a : Nat → Addr) (e : Mil.E) : Prop := (Mil.toks e).length ≤ 600 → TC a e ∧ OT a e
theorem tp_int (a : Nat → Addr) (k : Nat) (hk : (k : Int) ≤ Mil.maxInt) : TP a (Mil.eInt k) := fun ht => by
  have h := tx_int a k hk
  exact ⟨h, ot_int a k (short (Or.inl ⟨rfl, rfl, hk, rfl, rfl⟩) ht) h⟩
theorem tp_bool (a : Nat → Addr) (k : Nat) (hk : k = 0 ∨ k = 1) : TP a (Mil.eBool k) := fun ht => by
  have h := tx_bool a k
  exact ⟨h, ot_bool a k (short (Or.inr (Or.inl ⟨rfl, rfl, hk, rfl, rfl⟩)) ht) h⟩
theorem tp_pre (a : Nat → Addr) (x : Mil.Bytes) (p : Mil.E) (hx : x = Mil.wNot ∨ x = Mil.sMinus) (hw : Mil.wf p false) (hp : TP a p) : TP a (Mil.ePre x p) := fun ht => by
  have e1 : (Mil.toks p).length ≤ 600 := by
    have h1 : (Mil.fix x :: Mil.brackT (Mil.tight p) (Mil.preLvl x) (Mil.toks p)).length ≤ 600 := ht
    have h2 : (Mil.toks p).length ≤ (Mil.brackT (Mil.tight p) (Mil.preLvl x) (Mil.toks p)).length := Mil.len_le p _
    rw [List.length_cons] at h1
    omega
  have hw' : Mil.wf (Mil.ePre x p) false := Or.inr (Or.inr (Or.inr (Or.inl ⟨rfl, rfl, hx, hw, rfl⟩)))
  have h := tx_pre a x p (ev_shape p hw) hx (short hw e1) (hp e1).2
  exact ⟨h, ot_pre a x p (short hw' ht) h⟩
theorem tp_const (a : Nat → Addr) (c : Mil.E) (h : Mil.isConst c) : TP a c := by
  rcases h with ⟨k, hk, rfl⟩ | ⟨k, hk, rfl⟩ | ⟨k, hk, rfl⟩
  · exact tp_int a k hk
  · exact tp_bool a k hk
  · exact tp_pre a _ _ (Or.inr rfl) (Mil.wf_const (Or.inl ⟨k, hk, rfl⟩)) (tp_int a k hk)

theorem tp_all (a : Nat → Addr) : ∀ e : Mil.E, Mil.wf e false → TP a e := by
  refine Mil.wf_induct (tp_int a) (tp_bool a) ?_ (tp_pre a) ?_ ?_ ?_ ?_ ?_ ?_
  · intro x hx ht
    have h := tx_name a x
    exact ⟨h, ot_name a x (short (Or.inr (Or.inr (Or.inl ⟨rfl, rfl, hx, rfl, rfl⟩))) ht) h⟩
  · intro x p q hx hwp hwq hp hq ht
    have h1 : (Mil.brackT (Mil.tight p) (Mil.leftOf (Mil.tightOf x)) (Mil.toks p) ++ Mil.fix x :: Mil.brackT (Mil.tight q) (Mil.tightOf x + 1) (Mil.toks q)).length ≤ 600 := ht
    rw [List.length_append, List.length_cons] at h1
    have h2 : (Mil.toks p).length ≤ (Mil.brackT (Mil.tight p) (Mil.leftOf (Mil.tightOf x)) (Mil.toks p)).length := Mil.len_le p _
    have h3 : (Mil.toks q).length ≤ (Mil.brackT (Mil.tight q) (Mil.tightOf x + 1) (Mil.toks q)).length := Mil.len_le q _
    have hw' : Mil.wf (Mil.eTwo x p q) false := Or.inr (Or.inr (Or.inr (Or.inr (Or.inl ⟨rfl, rfl, hx, hwp, hwq⟩))))
    have h := tx_two a x p q (ev_shape p hwp) (ev_shape q hwq) hx (short hwp (by omega)) (short hwq (by omega)) (hp (by omega)).2 (hq (by omega)).2
    exact ⟨h, ot_two a x p q hx (short hw' ht) h⟩
  · intro p q r hwp hwq hwr hp hq hr ht
    have h1 : (Mil.fix Mil.wIf :: (Mil.toks p ++ (Mil.fix Mil.wThen :: (Mil.toks q ++ Mil.fix Mil.wElse :: Mil.toks r)))).length ≤ 600 := ht
    simp only [List.length_cons, List.length_append] at h1
    have hw' : Mil.wf (Mil.eIf p q r) false := Or.inr (Or.inr (Or.inr (Or.inr (Or.inr (Or.inl ⟨rfl, rfl, rfl, hwp, rfl, rfl, rfl, hwq, hwr⟩)))))
    have h := tx_if a p q r (ev_shape p hwp) (ev_shape q hwq) (ev_shape r hwr) (short hwp (by omega)) (short hwq (by omega)) (short hwr (by omega)) (hp (by omega)).1 (hq (by omega)).1 (hr (by omega)).1
    exact ⟨h, ot_if a p q r (short hw' ht) h⟩
  · intro p q hc hwq hq ht
    have h1 : (Mil.fix Mil.wFby :: Mil.fix Mil.sOpen :: (Mil.toks p ++ Mil.fix Mil.sComma :: (Mil.toks q ++ [Mil.fix Mil.sShut]))).length ≤ 600 := ht
    simp only [List.length_cons, List.length_append] at h1
    have hwp := Mil.wf_const hc
    have hw' : Mil.wf (Mil.eFby p q) false := Or.inr (Or.inr (Or.inr (Or.inr (Or.inr (Or.inr (Or.inl ⟨rfl, rfl, rfl, hc, hwq⟩))))))
    have h := tx_fby a p q (ev_shape p hwp) (ev_shape q hwq) (short hwp (by omega)) (short hwq (by omega)) (tp_const a p hc (by omega)).1 (hq (by omega)).1
    exact ⟨h, ot_fby a p q (short hw' ht) h⟩
  · intro p k h2 hk hwp hp ht
    have h1 : (Mil.fix Mil.wUnder :: Mil.fix Mil.sOpen :: (Mil.toks p ++ [Mil.fix Mil.sComma, Mil.num k, Mil.fix Mil.sShut])).length ≤ 600 := ht
    simp only [List.length_cons, List.length_append] at h1
    have hw' : Mil.wf (Mil.eUnder p k) false := Or.inr (Or.inr (Or.inr (Or.inr (Or.inr (Or.inr (Or.inr (Or.inl ⟨rfl, rfl, h2, hk, hwp, rfl⟩)))))))
    have h := tx_under a p k (ev_shape p hwp) hk (short hwp (by omega)) (hp (by omega)).1
    exact ⟨h, ot_under a p k (short hw' ht) h⟩
  · intro p q k h2 hk hc hwq hq ht
    have h1 : (Mil.fix Mil.wHold :: Mil.fix Mil.sOpen :: (Mil.toks p ++ Mil.fix Mil.sComma :: (Mil.toks q ++ [Mil.fix Mil.sComma, Mil.num k, Mil.fix Mil.sShut]))).length ≤ 600 := ht
    simp only [List.length_cons, List.length_append] at h1
    have hwp := Mil.wf_const hc
    have hw' : Mil.wf (Mil.eHold p q k) false := Or.inr (Or.inr (Or.inr (Or.inr (Or.inr (Or.inr (Or.inr (Or.inr (Or.inl ⟨rfl, rfl, h2, hk, hc, hwq⟩))))))))
    have h := tx_hold a p q k (ev_shape p hwp) (ev_shape q hwq) hk (short hwp (by omega)) (short hwq (by omega)) (tp_const a p hc (by omega)).1 (hq (by omega)).1
    exact ⟨h, ot_hold a p q k (short hw' ht) h⟩
  · intro x p q hx hwp hwq hp hq ht
    have h1 : (Mil.fix x :: Mil.fix Mil.sOpen :: (Mil.toks p ++ Mil.fix Mil.sComma :: (Mil.toks q ++ [Mil.fix Mil.sShut]))).length ≤ 600 := ht
    simp only [List.length_cons, List.length_append] at h1
    have hw' : Mil.wf (Mil.eLeast x p q) false := Or.inr (Or.inr (Or.inr (Or.inr (Or.inr (Or.inr (Or.inr (Or.inr (Or.inr ⟨rfl, rfl, hx, hwp, hwq⟩))))))))
    have h := tx_least a x p q (ev_shape p hwp) (ev_shape q hwq) hx (short hwp (by omega)) (short hwq (by omega)) (hp (by omega)).1 (hq (by omega)).1
    exact ⟨h, ot_least a x p q (short hw' ht) h⟩

/-- exprText. -/
theorem exprText_any (a : Nat → Addr) (e : Mil.E) (hw : Mil.wf e false) (ht : (Mil.toks e).length ≤ 600) : TC a e := (tp_all a e hw ht).1

end Go.Proofs.YtfoabfffmjljmaaGreatDoor
