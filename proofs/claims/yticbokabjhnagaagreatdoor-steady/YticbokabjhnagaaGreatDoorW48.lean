import Derived.Test.YticbokabjhnagaaGreatDoorW47
import Derived.Test.YticbokabjhnagaaGreatDoorW46
import Derived.Test.YticbokabjhnagaaGreatDoorTie
import Derived.Test.YticbokabjhnagaaGreatDoorCards
import Derived.SevenTiedAt
namespace Go.Proofs.YticbokabjhnagaaGreatDoor
set_option maxHeartbeats 32000000
section
open Go.RowKit
abbrev opA (q x y z : Int) (s : ByteArray) (o1 : Option Addr) (n1 c1 : Nat) (o3 : Option Addr) (n3 c3 : Nat) : Obj := .cells #[.int .i64 q, .int .i64 x, .int .i64 y, .int .i64 z, .string s, .slice o1 n1 c1, .slice o3 n3 c3] 33
abbrev mor (ls : List (List Int)) : List (List Int) := ls.map (· ++ [1, 0, 1])
theorem mor_at {ls : List (List Int)} {i : Nat} {l : List Int} (h : ls[i]? = some l) : (mor ls)[i]? = some (l ++ [1, 0, 1]) := by
  unfold mor
  rw [List.getElem?_map, h]; rfl
theorem cp_ins {ls : List (List Int)} {b : Nat} {v : Value} {us : List Value} {w : World} (h : Cp ls b ls.length v us w) (h1 : ls.length ≤ 1000) (h2 : ∀ l ∈ ls, l.length ≤ 1000000) : Ins w v ls us :=
  ⟨⟨b, h.row⟩, fun k l hk => h.lst k l (by rw [List.take_length]; exact hk), h1, h2⟩
theorem i64s_add (x y : List Int) : i64s x ++ i64s y = i64s (x ++ y) := by unfold i64s; simp
set_option maxRecDepth 100000 in
theorem law_some {ρ : Mil.Bytes → Int → Int → Int} (hr : Rall2 ρ) (al : Nat → Addr) (w : World) (h : Alp al w) (b off n c : Nat) (hn0 : 0 < n) (hn : n < 2 ^ 60) (hS : Scr w b off n) :
    Calls Tryz.prog 4 #[.slice (some ⟨b, off, none⟩) n c] w fun e w' => e = .returned (.bool true) ∧ Below w.heap.size w w' := by
  obtain ⟨n0, hi0, nz0, nz1, nz2⟩ := info_parts Tryz.infoI64
  obtain ⟨s0, hs0, sz0, sz1, sz2⟩ := info_parts Tryz.infoSl
  have H : Hid (Alp al w) := h
  have HRR : Hid (Rall2 ρ) := hr
  have HN : Hid (0 < n ∧ n < 2 ^ 60) := ⟨hn0, hn⟩
  have HS : Hid (Scr w b off n) := hS
  clear h hr hn0 hn hS
  go_enter Tryz.func4, Tryz.ntmps4
  go_wp2_with fail
  refine (known_any HRR.out al _ H.out).mono ?_
  rintro e w1 ⟨rfl, hb1⟩
  have HB1 : Hid (Below w.heap.size w w1) := hb1
  clear hb1
  go_wp2_with fail
  go_loopg [4] n (fun gk s4 wr => ∃ j : Nat, j ≤ n ∧ s4 = .int .i64 j ∧ gk = n - j ∧ Hid (Below w.heap.size w wr))
  case atStart => exact ⟨0, Nat.zero_le _, rfl, rfl, HB1⟩
  case round =>
    obtain ⟨j, hj, rfl, hgk, HBj⟩ := hrel
    have HG : Hid (gk = n - j) := hgk
    have HJ : Hid (Alp al wr) := H.out.below HBj.out
    clear hgk HB1
    by_cases hlt : j < n
    · have h60 : (j : Int) < 1152921504606846976 := by have := HN.out.2; omega
      have HSJ : Hid (Scr wr b off n) := HS.out.below HBj.out
      obtain ⟨q, x, y, z, s, o1, n1, c1, o3, n3, c3, d0, d1, d2, d3, d4, d5, d6⟩ := HSJ.out j hlt
      have HLT : Hid (j < n) := hlt
      have H60 : Hid ((j : Int) < 1152921504606846976) := h60
      have AB : Hid (Below wr.heap.size wr (wr.alloc (opA q x y z s o1 n1 c1 o3 n3 c3))) := (Below.refl _ _).alloc (Nat.le_refl _) _
      have HBa : Hid (Below w.heap.size w (wr.alloc (opA q x y z s o1 n1 c1 o3 n3 c3))) := below_step HBj.out AB.out
      have HJa : Hid (Alp al (wr.alloc (opA q x y z s o1 n1 c1 o3 n3 c3))) := HJ.out.below AB.out
      have q0 : (0 : Int) ≤ (j : Int) := by omega
      have q1 : (j : Int) < (n : Int) := by omega
      clear HSJ
      go_wp2_with fail
      generalize wr.alloc (.cells #[.int .i64 q, .int .i64 x, .int .i64 y, .int .i64 z, .string s, .slice o1 n1 c1, .slice o3 n3 c3] 33) = V at AB HBa HJa ⊢
      clear d0 d1 d2 d3 d4 d5 d6
      refine (plainCompile_is HRR.out al s _ HJa.out.l HJa.out.e).mono ?_
      rintro e w2 ⟨hb2, ⟨l, P, rfl, hp, B0, hP⟩ | ⟨f, at_, hf, rfl, _⟩⟩
      · have HB2 : Hid (Below w.heap.size w w2) := below_step HBa.out hb2
        have HP : Hid (Items l ∧ Prg ρ B0 s.size l w2 P) := ⟨items_of hp, hP⟩
        clear hb2 hp hP hlt h60
        have HA2 : Hid (Below w2.heap.size w2 (w2.alloc (.cells #[.int .i64 0, .int .i64 0] 27))) := (Below.refl _ _).alloc (Nat.le_refl _) _
        go_wp2_with fail
        have HB2' : Hid (Below w.heap.size w (w2.alloc (.cells #[.int .i64 0, .int .i64 0] 27))) := below_step HB2.out HA2.out
        have HP2 : Hid (Prg ρ B0 s.size l (w2.alloc (.cells #[.int .i64 0, .int .i64 0] 27)) P) := HP.out.2.below HA2.out
        generalize w2.alloc (.cells #[.int .i64 0, .int .i64 0] 27) = V2 at HB2' HP2 ⊢
        refine (pools_any HP2.out HN.out.1 (HS.out.below HB2'.out) HN.out.2).mono ?_
        rintro e w3 ⟨hb3, v, ls, us, rfl, hI, hne⟩
        obtain ⟨BI, hBI⟩ := hI.row
        obtain ⟨oi, ci, rfl⟩ := own_shape hBI
        have HB3 : Hid (Below w.heap.size w w3) := below_step HB2'.out hb3
        have HP3 : Hid (Prg ρ B0 s.size l w3 P) := HP2.out.below hb3
        have HII : Hid (Ins w3 (.slice oi ls.length ci) ls us ∧ ∀ l ∈ ls, l ≠ [] ∧ l.length ≤ 12) := ⟨hI, hne⟩
        have HBI : Hid (w3.ownsRow BI 47 1 (.slice oi ls.length ci) ls.length us) := hBI
        clear hb3 hI hne hBI HB2' HP2 HB2 HA2
        go_wp2_with fail
        go_loopg [9, 10] ls.length (fun gk s9 s10 wr => ∃ (i : Nat) (o : Option Addr) (c : Nat) (us' : List Value), s9 = .slice o i c ∧ s10 = .int .i64 (i : Nat) ∧ gk = ls.length - i ∧ i ≤ ls.length ∧ Hid (Below w3.heap.size w3 wr) ∧ Hid (Cp (mor ls) w3.heap.size i (.slice o i c) us' wr))
        case atStart => exact ⟨0, none, 0, [], rfl, rfl, rfl, Nat.zero_le _, Below.refl _ _, ⟨World.ownsRow_nil _ _ _ _, fun k l h => by simp at h⟩⟩
        case round =>
          obtain ⟨i, ov, cv, us', rfl, rfl, hg, hle, KB, KC⟩ := hrel
          have HG2 : Hid (gk = ls.length - i ∧ i ≤ ls.length) := ⟨hg, hle⟩
          clear hg hle
          by_cases hlt : i < ls.length
          · obtain ⟨x, hx⟩ : ∃ x, ls[i]? = some x := ⟨_, List.getElem?_eq_getElem hlt⟩
            have hx12 := HII.out.2 x (List.mem_of_getElem? hx)
            have HL : Hid (ls[i]? = some x ∧ i < ls.length ∧ 0 < x.length ∧ x.length ≤ 12 ∧ ls.length ≤ 1000) := ⟨hx, hlt, List.length_pos_iff.2 hx12.1, hx12.2, HII.out.1.len.1⟩
            obtain ⟨u, BU, hus, hnl⟩ := HII.out.1.lst i x hx
            obtain ⟨gi, hoi⟩ : ∃ gi, oi = some ⟨gi, 0, none⟩ := by
              rcases HBI.out.2 with ⟨_, e⟩ | ⟨gi, cap, cur, e, _⟩
              · omega
              · injection e with e1; exact ⟨gi, e1⟩
            subst hoi
            obtain ⟨gu, cu, rfl⟩ : ∃ gu cu, u = .slice (some ⟨gu, 0, none⟩) x.length cu := by
              rcases hnl.2 with ⟨_, e⟩ | ⟨gi, cap, cur, e, _⟩
              · have := HL.out.2.2.1; omega
              · exact ⟨gi, cap, e⟩
            have cu1 : wr.cell? ⟨gi, i, none⟩ = some (.slice (some ⟨gu, 0, none⟩) x.length cu) := by
              have cu0 := own_cell HBI.out hus
              exact (KB.out.cell (lt_of_cell cu0)).trans cu0
            have HNL : Hid (∀ w', Below w3.heap.size w3 w' → Nl w' BU (.slice (some ⟨gu, 0, none⟩) x.length cu) x) := fun w' k => own_kept hnl (fun g hg => k.block g (lt_of_heap (own_lt hnl g hg).2.choose_spec))
            have h0 : (0 : Int) ≤ (i : Int) := by omega
            have h1 : (i : Int) < (ls.length : Int) := by omega
            have NW : Hid (∀ (i : Nat) (u : Value), (i64s x)[i]? = some u → wr.cell? ((⟨gu, 0, none⟩ : Addr).add i) = some u) := fun i u hu => by
              rw [List.getElem?_map] at hu
              obtain ⟨y, hy, rfl⟩ := Option.map_eq_some_iff.1 hu
              rw [Addr.add_lit, Nat.zero_add]
              exact nl_cell (HNL.out wr KB.out) hy
            clear hx hus hnl hx12
            go_wp2_with (at_builtin; first
              | (refine wpList_append_lies _ rfl _ _ 47 rfl wr.heap.size 2 n0 (.int .i64 0) 1 8 Tryz.underlying47 hi0 nz0 nz1 nz2 rfl (by decide) (.slice none 0 0) 0 [] rfl (World.ownsRow_nil _ _ _ _) ⟨gu, 0, none⟩ x.length cu (i64s x) rfl (by simp) NW.out (by intro u hu; obtain ⟨y, _, rfl⟩ := List.mem_map.1 hu; rfl) HL.out.2.2.1 (by unfold maxLen; have := HL.out.2.2.2.1; omega) (by have := HL.out.2.2.2.1; omega) (Nat.le_refl _) _ rfl ?_
                 intro k9 c9 w9 O9 hg9 hat9 hlt9
                 have HB9 : Hid (Below wr.heap.size wr w9) := below_grown (Below.refl _ _) (Nat.le_refl _) hg9 (fun k e => by cases e)
                 have HO9 : Hid (Nl w9 wr.heap.size (.slice (some ⟨k9, 0, none⟩) x.length c9) x) := by
                   have h := O9
                   rw [Nat.zero_add] at h
                   exact h
                 have HC9 : Hid (Below wr.heap.size wr (w9.alloc (.cells #[.int .i64 1, .int .i64 0, .int .i64 1] 2))) := HB9.out.alloc HB9.out.size _
                 have HO9' : Hid (Nl (w9.alloc (.cells #[.int .i64 1, .int .i64 0, .int .i64 1] 2)) wr.heap.size (.slice (some ⟨k9, 0, none⟩) x.length c9) x) := own_kept HO9.out (fun g hg => Below.heap_alloc w9 _ g (lt_of_heap (own_lt HO9.out g hg).2.choose_spec))
                 clear O9 hg9 hat9 hlt9)
              | (refine wpList_append_lies _ rfl _ _ 47 rfl wr.heap.size 2 n0 (.int .i64 0) 1 8 Tryz.underlying47 hi0 nz0 nz1 nz2 rfl (by decide) (.slice (some ⟨k9, 0, none⟩) x.length c9) x.length (i64s x) rfl HO9'.out ⟨w9.heap.size, 0, none⟩ 3 3 (i64s [1, 0, 1]) rfl rfl (fun j u hu => by
                   match j, hu with
                   | 0, hu => cases hu; rw [Addr.add_lit, Nat.zero_add]; simp
                   | 1, hu => cases hu; rw [Addr.add_lit, Nat.zero_add]; simp
                   | 2, hu => cases hu; rw [Addr.add_lit, Nat.zero_add]; simp
                   | j + 3, hu => simp [i64s] at hu) (by intro u hu; obtain ⟨y, _, rfl⟩ := List.mem_map.1 hu; rfl) (by decide) (by unfold maxLen; have := HL.out.2.2.2.1; omega) (by have := HL.out.2.2.2.1; omega) HC9.out.size _ rfl ?_
                 intro k7 c7 w7 O7 hg7 hat7 hlt7
                 have HB7 : Hid (Below wr.heap.size wr w7) := below_grown HC9.out HC9.out.size hg7 (fun k e => (own_lt HO9'.out k e).1)
                 have HO7 : Hid (Nl w7 wr.heap.size (.slice (some ⟨k7, 0, none⟩) (x.length + 3) c7) (x ++ [1, 0, 1])) := by
                   have h := O7
                   rw [i64s_add] at h
                   have e : (x ++ [1, 0, 1]).length = x.length + 3 := by simp
                   show World.ownsRow _ _ _ _ _ _ _
                   rw [e]
                   exact h
                 have HC7 : Hid (Below wr.heap.size wr (w7.alloc (.cells #[.slice (some ⟨k7, 0, none⟩) (x.length + 3) c7] 47))) := HB7.out.alloc HB7.out.size _
                 clear O7 hg7 hat7 hlt7)
              | (refine wpList_append_lies _ rfl _ _ 45 rfl w3.heap.size 47 s0 (.slice none 0 0) 1 24 Tryz.underlying45 hs0 sz0 sz1 sz2 rfl (by decide) (.slice ov i cv) i us' rfl (KC.out.below HC7.out).row ⟨w7.heap.size, 0, none⟩ 1 1 [.slice (some ⟨k7, 0, none⟩) (x.length + 3) c7] rfl rfl (fun j u hu => by
                   cases j with
                   | zero => cases hu; rw [Addr.add_lit, Nat.zero_add]; simp
                   | succ j => simp at hu) (by intro u hu; simp at hu; subst hu; rfl) (by decide) (by unfold maxLen; have := HL.out; omega) (by have := HL.out; omega) (Nat.le_trans KB.out.size HC7.out.size) _ rfl ?_
                 intro k8 c8 w8 O8 hg8 hat8 hlt8))
            have HC8 : Hid (Cp (mor ls) w3.heap.size (i + 1) (.slice (some ⟨k8, 0, none⟩) (i + 1) c8) (us' ++ [.slice (some ⟨k7, 0, none⟩) (x.length + 3) c7]) w8) :=
              (KC.out.below HC7.out).more hg8 O8 (mor_at HL.out.1) (own_kept HO7.out (fun g hg => Below.heap_alloc w7 _ g (lt_of_heap (own_lt HO7.out g hg).2.choose_spec)))
            have HB8 : Hid (Below w3.heap.size w3 w8) := below_grown (below_step KB.out HC7.out) (below_step KB.out HC7.out).size hg8 (fun k e => (own_lt KC.out.row k e).1)
            clear O8 hg8 hat8 hlt8
            go_roundg (ls.length - (i + 1))
            case measure => have := HG2.out; have := HL.out; omega
            case rel => exact ⟨i + 1, _, _, _, rfl, wrap_succ (by have := HL.out.2.2.2.2; have := HL.out.2.1; omega), rfl, by have := HL.out; omega, HB8, HC8⟩
          · have hle : (ls.length : Int) ≤ (i : Int) := by omega
            have HE : Hid (i = ls.length) := by show _ = _; have := HG2.out.2; omega
            have hml : (mor ls).length = ls.length := by simp
            have HMI : Hid (Ins wr (.slice ov i cv) (mor ls) us') := by
              have h1 := KC.out
              have e1 := HE.out
              rw [← hml] at e1
              rw [e1] at h1 ⊢
              refine cp_ins h1 (by rw [hml]; exact HII.out.1.len.1) (fun l hl => ?_)
              obtain ⟨y, hy, rfl⟩ := List.mem_map.1 hl
              have := (HII.out.2 y hy).2
              simp; omega
            have HMN : Hid (∀ x ∈ mor ls, x ≠ []) := fun x hx => by
              obtain ⟨y, hy, rfl⟩ := List.mem_map.1 hx
              simp
            have HB4 : Hid (Below w.heap.size w wr) := below_step HB3.out KB.out
            have HP4 : Hid (Prg ρ B0 s.size l wr P ∧ Ins wr (.slice oi ls.length ci) ls us) := ⟨HP3.out.below KB.out, HII.out.1.below KB.out⟩
            have HF60 : Hid ((prd s.size l).length ≤ 60) := by show _ ≤ _; rw [prd_len]; exact HP3.out.len.1
            clear KB KC HG2 hml HB3 HP3 HBI
            obtain ⟨W4, hW4⟩ : ∃ W4, W4 = wr := ⟨_, rfl⟩
            subst hW4
            go_wp2_with fail
            go_loopg [12] (prd s.size l).length (fun gk s12 wy => ∃ e : Nat, e ≤ (prd s.size l).length ∧ s12 = .int .i64 (e : Nat) ∧ gk = (prd s.size l).length - e ∧ Hid (Below W4.heap.size W4 wy))
            case atStart => exact ⟨0, Nat.zero_le _, rfl, rfl, Below.refl _ _⟩
            case round =>
              obtain ⟨e, he, rfl, hge, LB⟩ := hrel
              have HGE : Hid (gk = (prd s.size l).length - e ∧ e ≤ (prd s.size l).length) := ⟨hge, he⟩
              have HP5 : Hid (Prg ρ B0 s.size l wr P) := HP4.out.1.below LB.out
              clear hge he
              go_wp2_with fail
              refine (flows_any HP5.out).mono ?_
              rintro E w5 ⟨hb5, v5, rfl, hF5⟩
              obtain ⟨of, cf, e5⟩ := own_shape hF5
              subst e5
              have LB5 : Hid (Below W4.heap.size W4 w5) := below_step LB.out hb5
              clear hF5 hb5 HP5 LB
              by_cases hel : e < (prd s.size l).length
              · have HEL : Hid (e < (prd s.size l).length) := hel
                have j4 : (e : Int) < ((prd s.size l).length : Int) := by omega
                clear hel
                go_wp2_with fail
                go_loopg [13] 4 (fun gk s13 wy => ∃ m : Nat, m ≤ 4 ∧ s13 = .int .i64 (m : Nat) ∧ gk = 4 - m ∧ Hid (Below W4.heap.size W4 wy))
                case atStart => exact ⟨0, Nat.zero_le _, rfl, rfl, LB5⟩
                case round =>
                  obtain ⟨m, hm, rfl, hgm, MB⟩ := hrel
                  have HGM : Hid (gk = 4 - m ∧ m ≤ 4) := ⟨hgm, hm⟩
                  clear hgm hm LB5
                  by_cases hm4 : m < 4
                  · have HM4 : Hid (m < 4 ∧ m ≤ 400) := ⟨hm4, by omega⟩
                    have m4 : (m : Int) < 4 := by omega
                    have FX : Hid (∀ V, Below W4.heap.size W4 V → Prg ρ B0 s.size l V P ∧ Alp al V ∧ Ins V (.slice oi ls.length ci) ls us ∧ Ins V (.slice ov i cv) (mor ls) us') := fun V hV => ⟨HP4.out.1.below hV, (H.out.below HB4.out).below hV, HP4.out.2.below hV, HMI.out.below hV⟩
                    clear hm4
                    go_wp2_with fail
                    refine (pmeaning_any HP.out.1 (FX.out _ MB.out).1 (FX.out _ MB.out).2.1.e (FX.out _ MB.out).2.2.1 (fun x hx => (HII.out.2 x hx).1) HEL.out HM4.out.2).mono ?_
                    rintro E w6 ⟨hb6, o, hmn, rfl⟩
                    have MB6 : Hid (Below W4.heap.size W4 w6) := below_step MB.out hb6
                    have HMN6 : Hid (Mn ρ s.size l ls e m o) := hmn
                    clear hb6 hmn MB
                    obtain ⟨a6, f6, t6, hpv6, ho6⟩ : ∃ a f t, pv al o = .tuple #[.int .i64 a, .agg #[.int .i64 f, .int .i64 t]] ∧ ((o = none ∧ f = 12) ∨ (o = some a ∧ f = 0)) := by
                      cases o with
                      | none => exact ⟨_, _, _, rfl, Or.inl ⟨rfl, e12 (FX.out _ MB6.out).2.1⟩⟩
                      | some v => exact ⟨_, _, _, rfl, Or.inr ⟨rfl, rfl⟩⟩
                    rw [hpv6]
                    have HO6 : Hid ((o = none ∧ f6 = 12) ∨ (o = some a6 ∧ f6 = 0)) := ho6
                    clear hpv6 ho6
                    go_wp2_with fail
                    have MB6' : Hid (Below W4.heap.size W4 (w6.alloc (.cells #[.int .i64 f6, .int .i64 t6] 27))) := MB6.out.alloc MB6.out.size _
                    have k6 := heap_alloc_new w6 (.cells #[.int .i64 f6, .int .i64 t6] 27)
                    generalize w6.alloc (.cells #[.int .i64 f6, .int .i64 t6] 27) = V6 at MB6' k6 ⊢
                    generalize w6.heap.size = g6 at k6 ⊢
                    clear MB6
                    refine (pmeaning_any HP.out.1 (FX.out _ MB6'.out).1 (FX.out _ MB6'.out).2.1.e (FX.out _ MB6'.out).2.2.2 HMN.out HEL.out HM4.out.2).mono ?_
                    rintro E w7 ⟨hb7, o', hmn', rfl⟩
                    have MB7 : Hid (Below W4.heap.size W4 w7) := below_step MB6'.out hb7
                    have k7 := (hb7.block g6 (lt_of_heap k6)).trans k6
                    obtain ⟨a7, f7, t7, hpv7, ho7⟩ : ∃ a f t, pv al o' = .tuple #[.int .i64 a, .agg #[.int .i64 f, .int .i64 t]] ∧ (o = some a6 → f = 0 ∧ a = a6) := by
                      cases o' with
                      | none => exact ⟨_, _, _, rfl, fun e => by
                          have h1 := HMN6.out
                          rw [e] at h1
                          have := mn_more h1 hmn'
                          cases this⟩
                      | some v => exact ⟨_, _, _, rfl, fun e => by
                          have h1 := HMN6.out
                          rw [e] at h1
                          have := mn_more h1 hmn'
                          exact ⟨rfl, Option.some.inj this⟩⟩
                    rw [hpv7]
                    have MB8 : Hid (Below W4.heap.size W4 (w7.alloc (.cells #[.int .i64 f7, .int .i64 t7] 27))) := MB7.out.alloc MB7.out.size _
                    have k8 := (((Below.refl _ w7).alloc (Nat.le_refl _) (.cells #[.int .i64 f7, .int .i64 t7] 27)).block g6 (lt_of_heap k7)).trans k7
                    have c8 : (w7.alloc (.cells #[.int .i64 f7, .int .i64 t7] 27)).cell? ⟨g6, 0, none⟩ = some (.int .i64 f6) := (cell_of_row _ g6 0 _ _ _ k8).trans rfl
                    clear hpv7 hb7 hmn' k6 k7 k8 MB6' MB7
                    rcases HO6.out with ⟨ho, rfl⟩ | ⟨ho, rfl⟩
                    · clear ho7
                      go_wp2
                      go_roundg (4 - (m + 1))
                      case measure => have := HGM.out; have := HM4.out; omega
                      case rel => exact ⟨m + 1, HM4.out.1, by go_num, rfl, MB8⟩
                    · obtain ⟨rfl, rfl⟩ := ho7 ho
                      clear ho7
                      go_wp2
                      go_roundg (4 - (m + 1))
                      case measure => have := HGM.out; have := HM4.out; omega
                      case rel => exact ⟨m + 1, HM4.out.1, by go_num, rfl, MB8⟩
                  · have m4 : ¬ (m : Int) < 4 := by omega
                    have e60 : ((e : Nat) : Int) ≤ 60 := by have := HF60.out; have := HEL.out; omega
                    go_wp2
                    go_roundg ((prd s.size l).length - (e + 1))
                    case measure => have := HGE.out; have := HEL.out; omega
                    case rel => exact ⟨e + 1, HEL.out, by go_num, rfl, MB⟩
              · have j4 : ¬ (e : Int) < ((prd s.size l).length : Int) := by omega
                have h60 := H60.out
                have HB9 : Hid (Below w.heap.size w w5) := below_step HB4.out LB5.out
                go_wp2
                go_roundg (n - (j + 1))
                case measure => have := HG.out; have := HLT.out; omega
                case rel => exact ⟨j + 1, HLT.out, by go_num, rfl, HB9⟩
      · have HB3 : Hid (Below w.heap.size w (w2.alloc (.cells #[.int .i64 f, .int .i64 at_] 27))) := below_step (below_step HBa.out hb2) ((Below.refl _ _).alloc (Nat.le_refl _) _)
        clear hb2 HJ
        go_wp2
        go_roundg (n - (j + 1))
        case measure => have := HG.out; have := HLT.out; omega
        case rel => exact ⟨j + 1, HLT.out, by go_num, rfl, HB3⟩
    · go_wp2
      go_ret
      exact ⟨rfl, HBj.out⟩
set_option maxRecDepth 100000 in
theorem law_zero {ρ : Mil.Bytes → Int → Int → Int} (hr : Rall2 ρ) (al : Nat → Addr) (w : World) (h : Alp al w) (o : Option Addr) (c : Nat) :
    Calls Tryz.prog 4 #[.slice o 0 c] w fun e w' => e = .returned (.bool true) ∧ Below w.heap.size w w' := by
  have H : Hid (Alp al w) := h
  have HRR : Hid (Rall2 ρ) := hr
  clear h hr
  go_enter Tryz.func4, Tryz.ntmps4
  go_wp2_with fail
  refine (known_any HRR.out al _ H.out).mono ?_
  rintro e w1 ⟨rfl, hb1⟩
  have HB1 : Hid (Below w.heap.size w w1) := hb1
  clear hb1 H
  go_wp2_with fail
  refine wp_loop_rounds 1 ?_
  rw [rounds_succ]
  go_wp2
  go_ret
  exact ⟨rfl, HB1.out⟩
theorem rall_ex : ∃ ρ, Rall2 ρ := ⟨fun x => (reckoning_ex (bs x)).choose, fun x => (reckoning_ex (bs x)).choose_spec⟩
end
section
open Go
theorem steady_holds:Rows.SteadySaid:=by
 obtain ⟨ρ,hr⟩:=rall_ex
 exact steady_of (fun al w h1 h2 h3=>⟨law_zero hr al w ⟨h1,h2,h3⟩,law_some hr al w ⟨h1,h2,h3⟩⟩)
#print axioms steady_holds
end
section
open Go
theorem steady_card:Rows.SteadyCardSaid:=
 Claim7.holds_tied_plain_at .later [] [.data, .data, .data, .handle, .sentinel, .sentinel, .sentinel, .sentinel, .sentinel, .sentinel, .sentinel, .sentinel, .sentinel, .sentinel, .sentinel, .sentinel, .sentinel, .sentinel, .sentinel, .data, .data, .data, .data] true (true, "99ef2755656f41e2b65e35512284a0db88babb55f37f407e2cc760314e29c3bb") true
  steady_holds (fun _ h=>by cases h) (by kernel_rfl) (fun _ h=>by cases h) steady_row_tie rfl ⟨rfl,rfl⟩ (by kernel_rfl) rfl
  (fun f fn hf hfn=>by
   obtain rfl : f = 4 := Option.some.inj ((show Tryz.prog.funcNamed "ratemill/ratemilllaw.Steady" = some 4 by kernel_rfl).symm.trans hf) |>.symm
   obtain rfl:fn=Tryz.f4:=(Option.some.inj (Tryz.func4.symm.trans hfn)).symm
   exact ⟨by kernel_rfl,fun j t ht=>by
    rw [Tryz.params4] at ht
    have hm:t∈[22]:=by simpa using Array.mem_of_getElem? ht
    have hall:([22].all fun u=>!Tryz.prog.wantsStandIn u)=true:=by kernel_rfl
    exact (show Tryz.prog.wantsStandIn t=false by simpa using List.all_eq_true.1 hall t hm)⟩)
  (by kernel_rfl)
#print axioms steady_card
end
end Go.Proofs.YticbokabjhnagaaGreatDoor
