import Derived.Test.YticbokabjhnagaaGreatDoorW24
import Derived.Test.YticbokabjhnagaaGreatDoorW16
namespace Go.Proofs.YticbokabjhnagaaGreatDoor
set_option maxHeartbeats 32000000
section
open Go.RowKit
def PaPost (N : Nat) (r : Mil.Bytes) (a : Nat → Addr) (w : World) (e : Ending) (w' : World) : Prop :=
  Below w.heap.size w w' ∧
  ((∃ l b o n c t, w.heap.size ≤ b ∧ e = .returned (.tuple #[.pointer (some ⟨t, 0, none⟩), .nilIface]) ∧ Mip.Parsed r l ∧ w'.heap[t]? = some (.cells #[.slice o n c] 95 (0, 0)) ∧ Row N w' b l (.slice o n c)) ∨
   (∃ k at_ d, (k = 1 ∨ k = 2 ∨ k = 3 ∨ k = 4) ∧ e = .returned (.tuple #[.pointer none, .iface 69 (.pointer (some ⟨d, 0, none⟩))]) ∧ w'.heap[d]? = some (.cells #[.int .i64 at_, errV (a k)] 81 (0, 0)) ∧ (∀ l, ¬ Mil.Parsed r l) ∧ r.length ≤ 4000 ∧ Mil.Fault r k at_) ∨
   (e = .returned (.tuple #[.pointer none, errV (a 1)]) ∧ (∀ l, ¬ Mil.Parsed r l) ∧ 4000 < r.length))
theorem parse_any (a : Nat → Addr) (s : ByteArray) (w : World) (L : Laid a w) :
    Calls Tryz.prog 19 #[.string s] w (PaPost s.size s.data.toList a w) := by
  have HL : Hid (Laid a w) := L
  have hlen : s.data.toList.length = s.size := by simp
  have HLN : Hid (s.data.toList.length = s.size) := hlen
  clear hlen
  by_cases hs : s.size ≤ 4000
  · have hgt : ¬ (4000 : Int) < (s.size : Int) := by omega
    have HP : Hid (∀ l, Mil.Parsed s.data.toList l ↔ Mil.Rprog' s.data.toList l) := by
      intro l
      have e4 : ¬ 4000 < s.data.toList.length := by rw [HLN.out]; omega
      constructor
      · rintro ⟨n, hn⟩
        unfold Mil.parse at hn
        rw [if_neg e4] at hn
        obtain ⟨q, h1, h2⟩ := Option.bind_eq_some_iff.1 hn
        exact ⟨q, h1, n, h2⟩
      · rintro ⟨q, h1, n, h2⟩
        refine ⟨n, ?_⟩
        unfold Mil.parse
        rw [if_neg e4, h1, Option.bind_some, h2]
    have HPP : Hid (∀ l, Mip.Rprog' s.data.toList l → Mip.Parsed s.data.toList l) := by
      rintro l ⟨q, h1, n, h2⟩
      refine ⟨n, ?_⟩
      unfold Mip.parse
      rw [if_neg (by rw [HLN.out]; omega), h1, Option.bind_some, h2]
    clear L
    go_enter Tryz.func19, Tryz.ntmps19
    go_wp2_with fail
    refine (readItems_any a s hs _ HL.out).mono ?_
    rintro e w1 ⟨hb1, (⟨l, b, o, n, c, hwb, rfl, hl, hR⟩ | ⟨k, at_, d, hk, rfl, hd, hno⟩)⟩
    · have HR : Hid (Row s.size w1 b l (.slice o n c)) := hR
      have HLL : Hid (Mip.Rprog' s.data.toList l) := hl
      clear hR hl
      go_wp2
      refine bodyPost_ret (v := .tuple #[.pointer (some ⟨w1.heap.size, 0, none⟩), .nilIface]) (by simp [results, Tryz.results19, go_sem]) rfl ⟨hb1.alloc hb1.size _, Or.inl ⟨l, b, o, n, c, w1.heap.size, hwb, rfl, HPP.out l HLL.out, heap_alloc_new w1 _, HR.out.kept ((Kp.refl b w1).alloc _) (Nat.le_refl _)⟩⟩
    · have HN : Hid _ := hno
      clear hno
      go_wp2
      refine bodyPost_ret (v := .tuple #[.pointer none, .iface 69 (.pointer (some ⟨d, 0, none⟩))]) (by simp [results, Tryz.results19, go_sem]) rfl ⟨hb1, Or.inr (Or.inl ⟨k, at_, d, hk, rfl, hd, fun l h => Mil.fault_no HN.out l ((HP.out l).1 h), by have := HLN.out; omega, HN.out⟩)⟩
  · have hgt : (4000 : Int) < (s.size : Int) := by omega
    have cl := L.long
    have HN : Hid (∀ l, ¬ Mil.Parsed s.data.toList l) := by
      rintro l ⟨n, hn⟩
      unfold Mil.parse at hn
      rw [if_pos (by rw [HLN.out]; omega)] at hn
      cases hn
    clear L
    go_enter Tryz.func19, Tryz.ntmps19
    go_wp2
    go_quiet (fail)
    go_wp2
    refine bodyPost_ret (v := .tuple #[.pointer none, errV (a 1)]) (by simp [results, Tryz.results19, go_sem]) rfl ⟨?_, Or.inr (Or.inr ⟨rfl, HN.out, by have := HLN.out; omega⟩)⟩
    first | exact below_drewN (Below.refl _ _) _ | exact (Below.refl _ _).drew | exact Below.refl _ _
end
section
namespace Mip
open Mil
theorem adv_off {s s1:St} (h:adv s=some s1):off s1≤2*mu s:=by
 have h1:=adv_le h
 have h2:s1.rest.length≤mu s1:=by unfold mu;split <;> omega
 have h3:s.rest.length≤mu s:=by unfold mu;split <;> omega
 have h4:s1.tok.txt.length≤s.rest.length:=by
  unfold adv adv' at h
  split at h
  ·cases h
  ·rename_i t r hc
   have k1:=cut_len hc
   have k2:=skip_short false s.rest
   split at h
   ·obtain rfl:=(Option.some.inj h).symm
    exact Nat.le_trans k1 k2
   ·split at h
    ·cases h
    ·obtain rfl:=(Option.some.inj h).symm
     exact Nat.le_trans k1 k2
 unfold off
 omega
theorem names_places:∀(n:Nat) (acc:List (Bytes×Nat)) (s:St) (x:List (Bytes×Nat)×St),pnames n acc s=some x→mu s≤4001→(∀y∈acc,y.2≤10000)→∀y∈x.1,y.2≤10000
 | 0,_,_,_,h,_,_=>by cases h
 | n+1,acc,s,x,h,hs,ha=>by
  rw [pnames] at h
  split at h
  ·obtain ⟨s1,h1,h⟩:=Option.bind_eq_some_iff.1 h
   obtain ⟨y,h2,h⟩:=Option.bind_eq_some_iff.1 h
   have k1:=adv_le h1
   have k2:=name_mu h2
   have k3:=adv_off h1
   refine names_places n _ _ _ h (by omega) (fun z hz=>?_)
   rcases List.mem_append.1 hz with hz | hz
   ·exact ha z hz
   ·simp at hz
    rw [hz]
    show off s1≤10000
    omega
  ·obtain rfl:=Option.some.inj h
   exact ha
theorem item_places {n:Nat} {s:St} {x:It×St} (h:pitem n s=some x) (hs:mu s≤4001):∀y∈x.1.names,y.2≤10000:=by
 unfold pitem at h
 split at h
 ·obtain ⟨s1,_,h⟩:=Option.bind_eq_some_iff.1 h
  obtain ⟨_,_,h⟩:=Option.bind_eq_some_iff.1 h
  obtain ⟨_,_,h⟩:=Option.bind_eq_some_iff.1 h
  obtain ⟨_,_,h⟩:=Option.bind_eq_some_iff.1 h
  obtain ⟨_,_,h⟩:=Option.bind_eq_some_iff.1 h
  obtain ⟨_,_,h⟩:=Option.bind_eq_some_iff.1 h
  obtain ⟨_,_,rfl⟩:=Option.map_eq_some_iff.1 h
  intro y hy;cases hy
 ·split at h
  ·obtain ⟨s1,h1,h⟩:=Option.bind_eq_some_iff.1 h
   obtain ⟨z,h2,h⟩:=Option.bind_eq_some_iff.1 h
   obtain ⟨l,h3,h⟩:=Option.bind_eq_some_iff.1 h
   obtain ⟨_,_,rfl⟩:=Option.map_eq_some_iff.1 h
   have k1:=adv_le h1
   have k2:=name_mu h2
   have k3:=adv_off h1
   exact names_places n _ _ _ h3 (by omega) (fun y hy=>by
    simp at hy
    rw [hy]
    show off s1≤10000
    omega)
  ·obtain ⟨_,_,h⟩:=Option.bind_eq_some_iff.1 h
   obtain ⟨_,_,h⟩:=Option.bind_eq_some_iff.1 h
   obtain ⟨_,_,h⟩:=Option.bind_eq_some_iff.1 h
   obtain ⟨_,_,h⟩:=Option.bind_eq_some_iff.1 h
   obtain ⟨_,_,h⟩:=Option.bind_eq_some_iff.1 h
   obtain ⟨_,_,rfl⟩:=Option.map_eq_some_iff.1 h
   intro y hy;cases hy
theorem prog_places:∀(n:Nat) (acc:List It) (s:St) (l:List It),pprog n acc s=some l→mu s≤4001→(∀i∈acc,∀y∈i.names,y.2≤10000)→∀i∈l,∀y∈i.names,y.2≤10000
 | 0,_,_,_,h,_,_=>by cases h
 | n+1,acc,s,l,h,hs,ha=>by
  rw [pprog] at h
  split at h
  ·obtain rfl:=Option.some.inj h
   exact ha
  ·split at h
   ·cases h
   ·obtain ⟨x,h1,h⟩:=Option.bind_eq_some_iff.1 h
    have k1:mu x.2 < mu s:=Mil.rit_mu (i:=eri x.1) ⟨n,by rw [sim_item,h1];rfl⟩
    refine prog_places n _ _ _ h (by omega) (fun i hi=>?_)
    rcases List.mem_append.1 hi with hi | hi
    ·exact ha i hi
    ·simp at hi
     rw [hi]
     exact item_places h1 hs
end Mip
namespace Mil
theorem toks_mem {l:List It} {i:It} (h:i∈l):(itemToks i).length≤(allToks l).length:=by
 induction l with
 | nil=>cases h
 | cons x r ih=>
  have e:allToks (x::r)=itemToks x++allToks r:=by simp [allToks]
  rw [e,List.length_append]
  rcases List.mem_cons.1 h with rfl | h
  ·omega
  ·have:=ih h;omega
end Mil
structure Items (l:List Mip.It):Prop where
 ok:∀i∈l,IOk i
 len:l.length≤60
 short:∀i∈l,Short i.names∧i.names.length≤600
 some_:∀i∈l,i.kind=2→i.names≠[]
theorem items_of {b:Mil.Bytes} {l:List Mip.It} (h:Mip.Parsed b l):Items l:=by
 obtain ⟨h1,h2,h3⟩:=Mil.parsed_ok h.er
 have hk:∀i∈l,IOk i:=fun i hi=>by
  rcases h1 (Mip.eri i) (List.mem_map.2 ⟨i,hi,rfl⟩) with ⟨x,t,k,e,a1,a2,a3,a4⟩ | ⟨x,r,e,a1,a2⟩ | ⟨x,t,e',e,a1,a2,a3⟩
  ·injection e with e1 e2 e3 e4 e5 e6
   exact Or.inl ⟨e1,by rw [e2];exact a1,by rw [e3];exact a2,by rw [e4];exact a3,by rw [e4];exact a4⟩
  ·injection e with e1 e2 e3 e4 e5 e6
   refine Or.inr (Or.inl ⟨e1,fun y hy=>?_⟩)
   have hm:y.1∈x::r:=by rw [←e5];exact List.mem_map.2 ⟨y,hy,rfl⟩
   rcases List.mem_cons.1 hm with e | e
   ·rw [e];exact a1
   ·exact a2 _ e
  ·injection e with e1 e2 e3 e4 e5 e6
   exact Or.inr (Or.inr ⟨e1,by rw [e2];exact a1,by rw [e3];exact a2,by rw [e6];exact a3⟩)
 have hp:∀i∈l,∀y∈i.names,y.2≤10000:=by
  obtain ⟨n,hn⟩:=h
  unfold Mip.parse at hn
  split at hn
  ·cases hn
  ·rename_i h4
   obtain ⟨s,k1,k2⟩:=Option.bind_eq_some_iff.1 hn
   refine Mip.prog_places n [] s l k2 ?_ (fun i hi=>by cases hi)
   have k3:Mil.mu s≤Mil.mu ⟨⟨0,[],0⟩,b,0⟩:=Mil.adv_le (s:=⟨⟨0,[],0⟩,b,0⟩) k1
   have k4:Mil.mu ⟨⟨0,[],0⟩,b,0⟩=b.length:=by unfold Mil.mu;rfl
   omega
 have hn:∀i∈l,(i.kind=2→i.names≠[])∧∀y∈i.names,y.1.length≤4000:=fun i hi=>by
  rcases h1 (Mip.eri i) (List.mem_map.2 ⟨i,hi,rfl⟩) with ⟨x,t,k,e,_⟩ | ⟨x,r,e,a1,a2⟩ | ⟨x,t,e',e,_⟩
  ·injection e with e1 e2 e3 e4 e5 e6
   have e7:i.names=[]:=List.map_eq_nil_iff.1 e5
   exact ⟨(fun h=>by rw [e1] at h;cases h),(fun y hy=>by rw [e7] at hy;cases hy)⟩
  ·injection e with e1 e2 e3 e4 e5 e6
   refine ⟨(fun _ h=>by rw [h] at e5;cases e5),fun y hy=>?_⟩
   have hm:y.1∈x::r:=by rw [←e5];exact List.mem_map.2 ⟨y,hy,rfl⟩
   rcases List.mem_cons.1 hm with e | e
   ·rw [e];have:=a1.2.2.1;omega
   ·have:=(a2 _ e).2.2.1;omega
  ·injection e with e1 e2 e3 e4 e5 e6
   have e7:i.names=[]:=List.map_eq_nil_iff.1 e5
   exact ⟨(fun h=>by rw [e1] at h;cases h),(fun y hy=>by rw [e7] at hy;cases hy)⟩
 have hc:∀i∈l,i.names.length≤600:=fun i hi=>by
  have hm:=Mil.toks_mem (i:=Mip.eri i) (List.mem_map.2 ⟨i,hi,rfl⟩)
  have ht:i.names.length≤(Mil.itemToks (Mip.eri i)).length:=by
   rcases h1 (Mip.eri i) (List.mem_map.2 ⟨i,hi,rfl⟩) with ⟨x,t,k,e,_⟩ | ⟨x,r,e,a1,a2⟩ | ⟨x,t,e',e,_⟩
   ·injection e with e1 e2 e3 e4 e5 e6
    rw [List.map_eq_nil_iff.1 e5];exact Nat.zero_le _
   ·rw [e]
    injection e with e1 e2 e3 e4 e5 e6
    have hl:i.names.length=r.length+1:=by have:=congrArg List.length e5;simpa using this
    unfold Mil.itemToks
    rw [if_neg (show ¬(2=1) by decide),if_pos (show 2=2 from rfl)]
    simp [Mil.moreToks_len]
    omega
   ·injection e with e1 e2 e3 e4 e5 e6
    rw [List.map_eq_nil_iff.1 e5];exact Nat.zero_le _
  omega
 exact ⟨hk,by simpa using h2,fun i hi=>⟨fun y hy=>⟨(hn i hi).2 y hy,hp i hi y hy⟩,hc i hi⟩,fun i hi=>(hn i hi).1⟩
end
end Go.Proofs.YticbokabjhnagaaGreatDoor
