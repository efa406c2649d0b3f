import Derived.Test.YticbokabjhnagaaGreatDoorW15
import Derived.Test.YticbokabjhnagaaGreatDoorW13
import Derived.Test.YticbokabjhnagaaGreatDoorW14
import Derived.Test.YticbokabjhnagaaGreatDoorW10
import Derived.Test.YticbokabjhnagaaGreatDoorW04
import Derived.Test.YticbokabjhnagaaGreatDoorW07
namespace Go.Proofs.YticbokabjhnagaaGreatDoor
set_option maxHeartbeats 32000000
section
structure Nq where
 nm:Mil.Bytes
 at_:Nat
 ty:Nat
 body:Mip.E
 flow:Nat
structure Ds where
 m:Mil.Bytes→Option Int
 F:List Flo
 Q:List Nq
 om:Mil.Bytes→Option Int
def Ds.zero:Ds:=⟨fun _=>none,[],[],fun _=>none⟩
def Ds.inp (s:Ds) (i:Mip.It):Ds:=⟨upd s.m i.nm (s.F.length:Nat),s.F++[⟨i.nm,i.ty,i.every,true,false⟩],s.Q,s.om⟩
def Ds.eqn (s:Ds) (i:Mip.It):Ds:=⟨upd s.m i.nm (s.F.length:Nat),s.F++[⟨i.nm,i.ty,0,false,false⟩],s.Q++[⟨i.nm,i.at_,i.ty,i.body,s.F.length⟩],s.om⟩
def decl (N:Nat):Ds→List Mip.It→Option Nat×Ds
 | s,[]=>(none,s)
 | s,i::r=>
  if i.kind=1 then (if (s.m i.nm).isSome then (some i.at_,s) else decl N (s.inp i) r)
  else if i.kind=3 then (if (s.m i.nm).isSome then (some i.at_,s) else decl N (s.eqn i) r)
  else if ((entAll N s.om i.names).1).isSome then ((entAll N s.om i.names).1,s) else decl N ⟨s.m,s.F,s.Q,(entAll N s.om i.names).2⟩ r
def reso (m:Mil.Bytes→Option Int):List Flo→List Mip.It→Option Nat×List Flo
 | F,[]=>(none,F)
 | F,i::r=>
  if i.kind=3 then (if (Mip.unres m i.body).isSome then (Mip.unres m i.body,F) else reso m F r)
  else if i.kind=2 then (if ((markAll m F i.names).1).isSome then ((markAll m F i.names).1,F) else reso m (markAll m F i.names).2 r)
  else reso m F r
theorem decl_drop (N:Nat) {s:Ds} {l:List Mip.It} {j:Nat} {i:Mip.It} (h:l[j]?=some i):decl N s (l.drop j)=decl N s (i::l.drop (j+1)):=by
 obtain ⟨hj,rfl⟩:=List.getElem?_eq_some_iff.1 h
 rw [List.drop_eq_getElem_cons hj]
theorem reso_drop (m:Mil.Bytes→Option Int) {F:List Flo} {l:List Mip.It} {j:Nat} {i:Mip.It} (h:l[j]?=some i):reso m F (l.drop j)=reso m F (i::l.drop (j+1)):=by
 obtain ⟨hj,rfl⟩:=List.getElem?_eq_some_iff.1 h
 rw [List.drop_eq_getElem_cons hj]
def IOk (i:Mip.It):Prop:=
 (i.kind=1∧Mil.NameOk i.nm∧(i.ty=0∨i.ty=1)∧1≤i.every∧i.every≤1000000)∨(i.kind=2∧∀y∈i.names,Mil.NameOk y.1) ∨
 (i.kind=3∧Mil.NameOk i.nm∧(i.ty=0∨i.ty=1)∧Mil.wf (Mip.er i.body) false)
structure Fq (m:Mil.Bytes→Option Int) (F:List Flo) (Q:List Nq):Prop where
 fit:Fit' m F
 eqf:∀q∈Q,∃f,F[q.flow]?=some f∧f.inp=false
 fe:∀i f,F[i]?=some f→f.inp=false→∃q∈Q,q.flow=i
 up:(Q.map Nq.flow).Pairwise (· < ·)
 inp:∀f∈F,f.inp=true→1≤f.per
 per:∀f∈F,f.per≤1000000
 ty:∀f∈F,f.ty=0∨f.ty=1
 wf:∀q∈Q,Mil.wf (Mip.er q.body) false∧Mil.NameOk q.nm∧(q.ty=0∨q.ty=1)
theorem Fq.zero:Fq Ds.zero.m Ds.zero.F Ds.zero.Q:=
 ⟨(fun x k h=>by cases h),(fun q h=>by cases h),(fun i f h=>by simp [Ds.zero] at h),List.Pairwise.nil,(fun f h=>by cases h),(fun f h=>by cases h),(fun f h=>by cases h),(fun q h=>by cases h)⟩
theorem fit_grow {m:Mil.Bytes→Option Int} {F:List Flo} (h:Fit' m F) (x:Mil.Bytes) (f:Flo):Fit' (upd m x (F.length:Nat)) (F++[f]):=fun y k hk=>by
 by_cases e:y=x
 ·have e1:upd m x (F.length:Nat) y=some (F.length:Nat):=if_pos e
  rw [e1] at hk
  exact ⟨F.length,(Option.some.inj hk).symm,by simp⟩
 ·have e1:upd m x (F.length:Nat) y=m y:=if_neg e
  rw [e1] at hk
  obtain ⟨i,h1,h2⟩:=h y k hk
  exact ⟨i,h1,by simp;omega⟩
theorem at_grow {F:List Flo} {f g:Flo} {i:Nat} (h:(F++[f])[i]?=some g):F[i]?=some g∨(i=F.length∧g=f):=by
 rcases Nat.lt_or_ge i F.length with hi | hi
 ·rw [List.getElem?_append_left hi] at h;exact Or.inl h
 ·rw [List.getElem?_append_right hi] at h
  rcases Nat.eq_zero_or_pos (i - F.length) with h0 | h0
  ·rw [h0] at h
   exact Or.inr ⟨by omega,by simpa using h.symm⟩
  ·rw [List.getElem?_eq_none (by simp;omega)] at h;cases h
theorem Fq.inp_ {s:Ds} (h:Fq s.m s.F s.Q) {i:Mip.It} (hi:IOk i) (hk:i.kind=1):Fq (s.inp i).m (s.inp i).F (s.inp i).Q:=by
 obtain ⟨_,hn,ht,h1,h2⟩ | ⟨h0,_⟩ | ⟨h0,_⟩:=hi
 ·refine ⟨fit_grow h.fit _ _,fun q hq=>?_,fun j f hj hf=>?_,h.up,fun f hf=>?_,fun f hf=>?_,fun f hf=>?_,h.wf⟩
  ·obtain ⟨f,e1,e2⟩:=h.eqf q hq
   exact ⟨f,(List.getElem?_append_left (List.getElem?_eq_some_iff.1 e1).1).trans e1,e2⟩
  ·rcases at_grow hj with e | ⟨_,e⟩
   ·exact h.fe j f e hf
   ·rw [e] at hf;cases hf
  ·rcases List.mem_append.1 hf with e | e
   ·exact h.inp f e
   ·simp at e;rw [e];exact fun _=>h1
  ·rcases List.mem_append.1 hf with e | e
   ·exact h.per f e
   ·simp at e;rw [e];exact h2
  ·rcases List.mem_append.1 hf with e | e
   ·exact h.ty f e
   ·simp at e;rw [e];exact ht
 ·omega
 ·omega
theorem Fq.eqn_ {s:Ds} (h:Fq s.m s.F s.Q) {i:Mip.It} (hi:IOk i) (hk:i.kind=3):Fq (s.eqn i).m (s.eqn i).F (s.eqn i).Q:=by
 obtain ⟨h0,_⟩ | ⟨h0,_⟩ | ⟨_,hn,ht,hw⟩:=hi
 ·omega
 ·omega
 ·refine ⟨fit_grow h.fit _ _,fun q hq=>?_,fun j f hj hf=>?_,?_,fun f hf=>?_,fun f hf=>?_,fun f hf=>?_,fun q hq=>?_⟩
  ·rcases List.mem_append.1 hq with e | e
   ·obtain ⟨f,e1,e2⟩:=h.eqf q e
    exact ⟨f,(List.getElem?_append_left (List.getElem?_eq_some_iff.1 e1).1).trans e1,e2⟩
   ·simp at e;rw [e]
    exact ⟨⟨i.nm,i.ty,0,false,false⟩,by show (s.F++_)[s.F.length]?=_;rw [List.getElem?_append_right (Nat.le_refl _)];simp,rfl⟩
  ·rcases at_grow hj with e | ⟨e,_⟩
   ·obtain ⟨q,e1,e2⟩:=h.fe j f e hf
    exact ⟨q,List.mem_append_left _ e1,e2⟩
   ·exact ⟨⟨i.nm,i.at_,i.ty,i.body,s.F.length⟩,List.mem_append_right _ (by simp),e.symm⟩
  ·show ((s.Q++_).map Nq.flow).Pairwise (· < ·)
   rw [List.map_append,List.pairwise_append]
   refine ⟨h.up,by simp,fun a ha b hb=>?_⟩
   simp at hb
   obtain ⟨q,e1,e2⟩:=List.mem_map.1 ha
   obtain ⟨f,e3,_⟩:=h.eqf q e1
   have:=(List.getElem?_eq_some_iff.1 e3).1
   omega
  ·rcases List.mem_append.1 hf with e | e
   ·exact h.inp f e
   ·simp at e;rw [e];intro e';cases e'
  ·rcases List.mem_append.1 hf with e | e
   ·exact h.per f e
   ·simp at e;rw [e];exact Nat.zero_le _
  ·rcases List.mem_append.1 hf with e | e
   ·exact h.ty f e
   ·simp at e;rw [e];exact ht
  ·rcases List.mem_append.1 hq with e | e
   ·exact h.wf q e
   ·simp at e;rw [e];exact ⟨hw,hn,ht⟩
theorem decl_ok (N:Nat):∀(l:List Mip.It) (s:Ds),(∀i∈l,IOk i)→Fq s.m s.F s.Q→(decl N s l).1=none→Fq (decl N s l).2.m (decl N s l).2.F (decl N s l).2.Q
 | [],s,_,h,_=>h
 | i::r,s,hl,h,hn=>by
  have hi:=hl i (by simp)
  have hr:∀i∈r,IOk i:=fun j hj=>hl j (by simp [hj])
  rw [decl] at hn ⊢
  by_cases k1:i.kind=1
  ·rw [if_pos k1] at hn ⊢
   by_cases k2:(s.m i.nm).isSome=true
   ·rw [if_pos k2] at hn;cases hn
   ·rw [if_neg k2] at hn ⊢
    exact decl_ok N r _ hr (h.inp_ hi k1) hn
  ·rw [if_neg k1] at hn ⊢
   by_cases k3:i.kind=3
   ·rw [if_pos k3] at hn ⊢
    by_cases k2:(s.m i.nm).isSome=true
    ·rw [if_pos k2] at hn;cases hn
    ·rw [if_neg k2] at hn ⊢
     exact decl_ok N r _ hr (h.eqn_ hi k3) hn
   ·rw [if_neg k3] at hn ⊢
    by_cases k2:((entAll N s.om i.names).1).isSome=true
    ·rw [if_pos k2] at hn
     rw [hn] at k2;cases k2
    ·rw [if_neg k2] at hn ⊢
     exact decl_ok N r _ hr h hn
end
section
open Go.RowKit
def MEC (a:Nat→Addr) (b:Nat) (s:ByteArray) (st:Mil.St):Prop:=∀w,Laid a w→RdS w b s st →
 Calls Tryz.prog 127 #[.pointer (some ⟨b,0,none⟩)] w (ExPost (fun x t=>Mip.Ok 0 Mip.eNil st (x,t)) (Mil.Bad s.size 0 Mil.eNil st) a b s w)
def MOC (a:Nat→Addr) (b:Nat) (s:ByteArray) (l:Nat) (st:Mil.St):Prop:=∀w,Laid a w→RdS w b s st →
 Calls Tryz.prog 156 #[.pointer (some ⟨b,0,none⟩),.int .i64 l] w (ExPost (fun x t=>Mip.Ok l Mip.eNil st (x,t)) (Mil.Bad s.size l Mil.eNil st) a b s w)
def MAC (a:Nat→Addr) (b:Nat) (s:ByteArray) (st:Mil.St):Prop:=∀w,Laid a w→RdS w b s st →
 Calls Tryz.prog 167 #[.pointer (some ⟨b,0,none⟩)] w (ExPost (fun x t=>Mip.Ok 8 Mip.eNil st (x,t)) (Mil.Bad s.size 8 Mil.eNil st) a b s w)
theorem expression_any (a:Nat→Addr) (b:Nat) (s:ByteArray) (hb:23≤b) (hs:s.size≤4000) (st:Mil.St) (ih:∀t,Mil.mu t < Mil.mu st→MEC a b s t) (io:MOC a b s 1 st):MEC a b s st:=by
 intro w L h
 have H:Hid (RdS w b s st):=h
 have HL:Hid (Laid a w):=L
 have IH:Hid (∀t,Mil.mu t < Mil.mu st→MEC a b s t):=ih
 have HIO:Hid (MOC a b s 1 st):=io
 clear h L ih io
 by_cases hI:Mil.sees st Mil.wIf=true
 ·have HI:Hid (Mil.sees st (bs Mil.wIf).data.toList=true):=hI
  have HK3:Hid (st.tok.kind≠0):=by show _≠_;rw [(Mil.sees_kind3 hI).1];decide
  clear hI
  go_enter Tryz.func127,Tryz.ntmps127
  go_wp2_with fail
  refine (here_any b s st _ H.out).mono ?_
  rintro e w0 ⟨rfl,hw0⟩
  have HV:Hid (Hd a b s st w (w0.alloc (.cells #[.int .i64 (place s.size st)] 99)) (place s.size st) w0.heap.size):=head_facts HL.out hb H.out hw0
  clear hw0
  go_wp2_with fail
  generalize w0.heap.size=kv at HV ⊢
  generalize w0.alloc (.cells #[.int .i64 (place s.size st)] 99)=v at HV ⊢
  clear H HL w0
  have H:Hid (RdS v b s st):=HV.out.rd
  have HL:Hid (Laid a v):=HV.out.laid
  refine (takes_yes a b s st (bs Mil.wIf) _ HL.out hb H.out hs HI.out).mono ?_
  rintro e w1 ⟨kk1,(⟨s1,rfl,g1,r1⟩ | ⟨k,at_,hkk,d,rfl,hd,hno⟩)⟩
  ·have hk1:=kk1
   have G1:Hid _:=g1
   have M1:Hid (Mil.mu s1 < Mil.mu st):=Mil.adv_mu g1 HK3.out
   clear g1 kk1
   go_wp2_with fail
   refine (IH.out s1 M1.out _ (HL.out.kept hk1 hb) r1).mono ?_
   rintro e w2 ⟨kk2,(⟨x2,s2,ty2,y2,rfl,e2,g2,r2⟩ | ⟨k,at_,hkk,d,rfl,hd,hno⟩)⟩
   ·have hk2:=hk1.trans kk2
    have G2:Hid _:=g2
    have E2:Hid _:=e2
    have M2:Hid (Mil.mu s2 < Mil.mu st):=Nat.lt_of_le_of_lt (Mip.ok_mu g2) M1.out
    clear g2 kk2 e2
    go_wp2_with fail
    refine (want_any a b s s2 (bs Mil.wThen) _ (HL.out.kept hk2 hb) hb r2 hs).mono ?_
    rintro e w3 ⟨kk3,(⟨s3,rfl,g3,r3⟩ | ⟨k,at_,hkk,d,rfl,hd,hno⟩)⟩
    ·have hk3:=hk2.trans kk3
     have G3:Hid _:=g3
     have M3:Hid (Mil.mu s3 < Mil.mu st):=Nat.lt_trans (Mil.want_mu g3) M2.out
     clear g3 kk3
     go_wp2_with fail
     refine (IH.out s3 M3.out _ (HL.out.kept hk3 hb) r3).mono ?_
     rintro e w4 ⟨kk4,(⟨x4,s4,ty4,y4,rfl,e4,g4,r4⟩ | ⟨k,at_,hkk,d,rfl,hd,hno⟩)⟩
     ·have hk4:=hk3.trans kk4
      have G4:Hid _:=g4
      have E4:Hid _:=e4
      have M4:Hid (Mil.mu s4 < Mil.mu st):=Nat.lt_of_le_of_lt (Mip.ok_mu g4) M3.out
      clear g4 kk4 e4
      go_wp2_with fail
      refine (want_any a b s s4 (bs Mil.wElse) _ (HL.out.kept hk4 hb) hb r4 hs).mono ?_
      rintro e w5 ⟨kk5,(⟨s5,rfl,g5,r5⟩ | ⟨k,at_,hkk,d,rfl,hd,hno⟩)⟩
      ·have hk5:=hk4.trans kk5
       have G5:Hid _:=g5
       have M5:Hid (Mil.mu s5 < Mil.mu st):=Nat.lt_trans (Mil.want_mu g5) M4.out
       clear g5 kk5
       go_wp2_with fail
       have HK5:Hid (Kp b v w5):=hk5
       have R5:Hid (RdS w5 b s s5):=r5
       clear hk5 r5
       refine region_held (fun w'=>w'.cell? ⟨kv,0,none⟩=some (.int .i64 (place s.size st))) (by kernel_rfl) (HK5.out.held HV.out.cell HV.out.ne) (fun hS=>?_)
       refine held_take 0 (v:=?_) rfl (by kernel_rfl) (by kernel_rfl) (by kernel_rfl) (fun _ _ _ h=>h) (Or.inl ⟨by rfl,?_⟩) (by assumption) ?_
       rotate_left 1
       ·(intro w' hSw;(try dsimp only at hSw);go_simp <;> with_reducible rfl)
       try simp only [Act.put,List.setIfInBounds_toArray,List.set_cons_zero,List.set_cons_succ]
       refine held_take 1 (v:=?_) rfl (by kernel_rfl) (by kernel_rfl) (by kernel_rfl) (fun _ _ _ h=>h) (Or.inl ⟨by rfl,?_⟩) (by assumption) ?_
       rotate_left 1
       ·(intro w' hSw;(try dsimp only at hSw);go_simp <;> with_reducible rfl)
       try simp only [Act.put,List.setIfInBounds_toArray,List.set_cons_zero,List.set_cons_succ]
       refine held_take 2 (v:=?_) rfl (by kernel_rfl) (by kernel_rfl) (by kernel_rfl) (fun _ _ _ h=>h) (Or.inl ⟨by rfl,?_⟩) (by assumption) ?_
       rotate_left 1
       ·(intro w' hSw;(try dsimp only at hSw);go_simp <;> with_reducible rfl)
       try simp only [Act.put,List.setIfInBounds_toArray,List.set_cons_zero,List.set_cons_succ]
       refine held_take 3 (v:=?_) rfl (by kernel_rfl) (by kernel_rfl) (by kernel_rfl) (fun _ _ _ h=>h) (Or.inl ⟨by rfl,?_⟩) (by assumption) ?_
       rotate_left 1
       ·(intro w' hSw;(try dsimp only at hSw);go_simp <;> with_reducible rfl)
       try simp only [Act.put,List.setIfInBounds_toArray,List.set_cons_zero,List.set_cons_succ]
       refine held_one 4 (by kernel_rfl) rfl (fun K hK=>?_)
       go_simp
       refine (IH.out s5 M5.out _ ((HL.out.kept HK5.out hb).kept (Kp.refl b w5).drew hb) (R5.out.kept (Kp.refl (b+1) w5).drew (by omega))).mono ?_
       rintro e w6 ⟨kk6,(⟨x6,s6,ty6,y6,rfl,e6,g6,r6⟩ | ⟨k,at_,hkk,d,rfl,hd,hno⟩)⟩
       ·have hk6:=HK5.out.drew.trans kk6
        have G6:Hid _:=g6
        have E6:Hid _:=e6
        have M6:Hid (Mil.mu s6 < Mil.mu st):=Nat.lt_of_le_of_lt (Mip.ok_mu g6) M5.out
        have HK6:Hid (Kp b v w6):=hk6
        have R6:Hid (RdS w6 b s s6):=r6
        clear g6 kk6 e6 hk6 r6 hS
        refine hK.out _ _ (HK6.out.held HV.out.cell HV.out.ne) (fun hS=>?_)
        clear hK K
        try simp only [Act.put,List.setIfInBounds_toArray,List.set_cons_zero,List.set_cons_succ]
        refine held_take 5 (v:=?_) rfl (by kernel_rfl) (by kernel_rfl) (by kernel_rfl) (fun _ _ _ h=>h) (Or.inl ⟨by rfl,?_⟩) (by assumption) ?_
        rotate_left 1
        ·(intro w' hSw;(try dsimp only at hSw);go_simp <;> with_reducible rfl)
        try simp only [Act.put,List.setIfInBounds_toArray,List.set_cons_zero,List.set_cons_succ]
        refine held_take 6 (v:=?_) rfl (by kernel_rfl) (by kernel_rfl) (by kernel_rfl) (fun _ _ _ h=>h) (Or.inl ⟨by rfl,?_⟩) (by assumption) ?_
        rotate_left 1
        ·(intro w' hSw;(try dsimp only at hSw);go_simp <;> with_reducible rfl)
        try simp only [Act.put,List.setIfInBounds_toArray,List.set_cons_zero,List.set_cons_succ]
        refine held_take 7 (v:=?_) rfl (by kernel_rfl) (by kernel_rfl) (by kernel_rfl) (fun _ _ _ h=>h) (Or.inl ⟨by rfl,?_⟩) (by assumption) ?_
        rotate_left 1
        ·(intro w' hSw;(try dsimp only at hSw);go_simp <;> with_reducible rfl)
        try simp only [Act.put,List.setIfInBounds_toArray,List.set_cons_zero,List.set_cons_succ]
        refine wpAnyH_done (by kernel_rfl) ?_ _
        clear hS
        go_wp2
        go_ret
        refine ⟨HV.out.kp.trans HK6.out,Or.inl ⟨Mip.eIf (Mip.off st) x2 x4 x6,s6,_,_,rfl,?_,?_,R6.out⟩⟩
        ·show Value.iface _ (.agg #[.int .i64 ((s.size:Int) - (Mip.off st:Nat)),ev s.size x2,ev s.size x4,ev s.size x6])=_
         rw [E2.out,E4.out,E6.out,place_off]
        ·exact Mip.ok_if HI.out G1.out G2.out G3.out G4.out G5.out G6.out
       ·refine ⟨rfl,HV.out.kp.trans (HK5.out.drew.trans kk6),Or.inr ⟨k,at_,hkk,d,rfl,hd,?_⟩⟩
        exact Mil.bad_if HI.out (Or.inr ⟨_,G1.out,Or.inr ⟨_,Mip.Ok.er G2.out,Or.inr ⟨_,G3.out,Or.inr ⟨_,Mip.Ok.er G4.out,Or.inr ⟨_,G5.out,hno⟩⟩⟩⟩⟩)
      ·go_wp2
       refine ⟨rfl,HV.out.kp.trans (hk4.trans kk5),Or.inr ⟨k,at_,hkk,d,rfl,hd,?_⟩⟩
       exact Mil.bad_if HI.out (Or.inr ⟨_,G1.out,Or.inr ⟨_,Mip.Ok.er G2.out,Or.inr ⟨_,G3.out,Or.inr ⟨_,Mip.Ok.er G4.out,Or.inl hno⟩⟩⟩⟩)
     ·go_wp2
      refine ⟨rfl,HV.out.kp.trans (hk3.trans kk4),Or.inr ⟨k,at_,hkk,d,rfl,hd,?_⟩⟩
      exact Mil.bad_if HI.out (Or.inr ⟨_,G1.out,Or.inr ⟨_,Mip.Ok.er G2.out,Or.inr ⟨_,G3.out,Or.inl hno⟩⟩⟩)
    ·go_wp2
     refine ⟨rfl,HV.out.kp.trans (hk2.trans kk3),Or.inr ⟨k,at_,hkk,d,rfl,hd,?_⟩⟩
     exact Mil.bad_if HI.out (Or.inr ⟨_,G1.out,Or.inr ⟨_,Mip.Ok.er G2.out,Or.inl hno⟩⟩)
   ·go_wp2
    refine ⟨rfl,HV.out.kp.trans (hk1.trans kk2),Or.inr ⟨k,at_,hkk,d,rfl,hd,?_⟩⟩
    exact Mil.bad_if HI.out (Or.inr ⟨_,G1.out,Or.inl hno⟩)
  ·go_wp2
   refine ⟨rfl,HV.out.kp.trans (kk1),Or.inr ⟨k,at_,hkk,d,rfl,hd,?_⟩⟩
   exact Mil.bad_if HI.out (Or.inl hno)
 ·have HI:Hid (Mil.sees st (bs Mil.wIf).data.toList=false):=Bool.eq_false_iff.2 hI
  clear hI
  go_enter Tryz.func127,Tryz.ntmps127
  go_wp2_with fail
  refine (here_any b s st _ H.out).mono ?_
  rintro e w0 ⟨rfl,hw0⟩
  have HV:Hid (Hd a b s st w (w0.alloc (.cells #[.int .i64 (place s.size st)] 99)) (place s.size st) w0.heap.size):=head_facts HL.out hb H.out hw0
  clear hw0
  go_wp2_with fail
  generalize w0.heap.size=kv at HV ⊢
  generalize w0.alloc (.cells #[.int .i64 (place s.size st)] 99)=v at HV ⊢
  clear H HL w0
  have H:Hid (RdS v b s st):=HV.out.rd
  have HL:Hid (Laid a v):=HV.out.laid
  refine (takes_no b s st (bs Mil.wIf) _ H.out HI.out).mono ?_
  rintro e w1 ⟨rfl,rfl⟩
  go_wp2_with fail
  refine (HIO.out _ HL.out H.out).mono ?_
  rintro e w2 ⟨hk2,(⟨x,s2,ty,y,rfl,ea,g2,r2⟩ | ⟨k,at_,hkk,d,rfl,hd,hno⟩)⟩
  ·go_wp2
   go_ret
   exact ⟨HV.out.kp.trans hk2,Or.inl ⟨x,s2,ty,y,rfl,ea,Mip.ok_noif HI.out g2,r2⟩⟩
  ·go_wp2
   exact ⟨rfl,HV.out.kp.trans hk2,Or.inr ⟨k,at_,hkk,d,rfl,hd,Mil.bad_noif HI.out hno⟩⟩
end
section
open Go.RowKit
theorem delayed_any (a:Nat→Addr) (b:Nat) (s:ByteArray) (hb:23≤b) (hs:s.size≤4000) (q:Nat) (st:Mil.St) (ih:∀t,Mil.mu t < Mil.mu st→MEC a b s t) (w:World) (L:Laid a w) (h:RdS w b s st) :
  Calls Tryz.prog 175 #[.pointer (some ⟨b,0,none⟩),.agg #[.int .i64 ((s.size:Int) - (q:Nat))]] w (ExPost (Mip.Rfby q st) (Mil.Bfby s.size st) a b s w):=by
 have H:Hid (RdS w b s st):=h
 have HL:Hid (Laid a w):=L
 have IH:Hid (∀t,Mil.mu t < Mil.mu st→MEC a b s t):=ih
 clear h L ih
 go_enter Tryz.func175,Tryz.ntmps175
 go_wp2_with fail
 have HV:Hid (Hd a b s st w (w.alloc (.cells #[.int .i64 ((s.size:Int) - (q:Nat))] 101)) ((s.size:Int) - (q:Nat)) w.heap.size):=head_facts HL.out hb H.out (Below.refl _ _)
 generalize w.heap.size=kv at HV ⊢
 generalize w.alloc (.cells #[.int .i64 ((s.size:Int) - (q:Nat))] 101)=v at HV ⊢
 clear H HL
 have H:Hid (RdS v b s st):=HV.out.rd
 have HL:Hid (Laid a v):=HV.out.laid
 refine (want_any a b s st (bs Mil.sOpen) _ HL.out hb H.out hs).mono ?_
 rintro e w1 ⟨kk1,(⟨s1,rfl,g1,r1⟩ | ⟨k,at_,hkk,d,rfl,hd,hno⟩)⟩
 ·have hk1:=kk1
  have G1:Hid _:=g1
  have M1:Hid (Mil.mu s1 < Mil.mu st):=Mil.want_mu g1
  clear g1 kk1
  go_wp2_with fail
  refine (constant_any a b s s1 _ (HL.out.kept hk1 hb) hb r1 hs).mono ?_
  rintro e w2 ⟨kk2,(⟨x2,s2,ty2,y2,rfl,e2,g2,r2⟩ | ⟨k,at_,hkk,d,rfl,hd,hno⟩)⟩
  ·have hk2:=hk1.trans kk2
   have G2:Hid _:=g2
   have E2:Hid _:=e2
   have M2:Hid (Mil.mu s2 < Mil.mu st):=Nat.lt_trans (Mip.constant_mu g2) M1.out
   clear g2 kk2 e2
   go_wp2_with fail
   refine (want_any a b s s2 (bs Mil.sComma) _ (HL.out.kept hk2 hb) hb r2 hs).mono ?_
   rintro e w3 ⟨kk3,(⟨s3,rfl,g3,r3⟩ | ⟨k,at_,hkk,d,rfl,hd,hno⟩)⟩
   ·have hk3:=hk2.trans kk3
    have G3:Hid _:=g3
    have M3:Hid (Mil.mu s3 < Mil.mu st):=Nat.lt_trans (Mil.want_mu g3) M2.out
    clear g3 kk3
    go_wp2_with fail
    refine (IH.out s3 M3.out _ (HL.out.kept hk3 hb) r3).mono ?_
    rintro e w4 ⟨kk4,(⟨x4,s4,ty4,y4,rfl,e4,g4,r4⟩ | ⟨k,at_,hkk,d,rfl,hd,hno⟩)⟩
    ·have hk4:=hk3.trans kk4
     have G4:Hid _:=g4
     have E4:Hid _:=e4
     have M4:Hid (Mil.mu s4 < Mil.mu st):=Nat.lt_of_le_of_lt (Mip.ok_mu g4) M3.out
     clear g4 kk4 e4
     go_wp2_with fail
     refine (want_any a b s s4 (bs Mil.sShut) _ (HL.out.kept hk4 hb) hb r4 hs).mono ?_
     rintro e w5 ⟨kk5,(⟨s5,rfl,g5,r5⟩ | ⟨k,at_,hkk,d,rfl,hd,hno⟩)⟩
     ·have hk5:=hk4.trans kk5
      have G5:Hid _:=g5
      have M5:Hid (Mil.mu s5 < Mil.mu st):=Nat.lt_trans (Mil.want_mu g5) M4.out
      clear g5 kk5
      have cv:w5.cell? ⟨kv,0,none⟩=some (.int .i64 ((s.size:Int) - (q:Nat))):=hk5.held HV.out.cell HV.out.ne
      go_wp2
      go_ret
      refine ⟨HV.out.kp.trans hk5,Or.inl ⟨Mip.eFby q x2 x4,s5,_,_,rfl,?_,?_,r5⟩⟩
      ·show Value.iface _ (.agg #[.int .i64 ((s.size:Int) - (q:Nat)),ev s.size x2,ev s.size x4])=_
       rw [E2.out,E4.out]
      ·exact ⟨_,_,_,_,G1.out,G2.out,G3.out,G4.out,G5.out,rfl⟩
     ·go_wp2
      refine ⟨rfl,HV.out.kp.trans (hk4.trans kk5),Or.inr ⟨k,at_,hkk,d,rfl,hd,?_⟩⟩
      exact Or.inr ⟨_,G1.out,Or.inr ⟨_,Mip.const_er G2.out,Or.inr ⟨_,G3.out,Or.inr ⟨_,Mip.Ok.er G4.out,hno⟩⟩⟩⟩
    ·go_wp2
     refine ⟨rfl,HV.out.kp.trans (hk3.trans kk4),Or.inr ⟨k,at_,hkk,d,rfl,hd,?_⟩⟩
     exact Or.inr ⟨_,G1.out,Or.inr ⟨_,Mip.const_er G2.out,Or.inr ⟨_,G3.out,Or.inl hno⟩⟩⟩
   ·go_wp2
    refine ⟨rfl,HV.out.kp.trans (hk2.trans kk3),Or.inr ⟨k,at_,hkk,d,rfl,hd,?_⟩⟩
    exact Or.inr ⟨_,G1.out,Or.inr ⟨_,Mip.const_er G2.out,Or.inl hno⟩⟩
  ·go_wp2
   refine ⟨rfl,HV.out.kp.trans (hk1.trans kk2),Or.inr ⟨k,at_,hkk,d,rfl,hd,?_⟩⟩
   exact Or.inr ⟨_,G1.out,Or.inl hno⟩
 ·go_wp2
  refine ⟨rfl,HV.out.kp.trans (kk1),Or.inr ⟨k,at_,hkk,d,rfl,hd,?_⟩⟩
  exact Or.inl hno
theorem thinned_any (a:Nat→Addr) (b:Nat) (s:ByteArray) (hb:23≤b) (hs:s.size≤4000) (q:Nat) (st:Mil.St) (ih:∀t,Mil.mu t < Mil.mu st→MEC a b s t) (w:World) (L:Laid a w) (h:RdS w b s st) :
  Calls Tryz.prog 176 #[.pointer (some ⟨b,0,none⟩),.agg #[.int .i64 ((s.size:Int) - (q:Nat))]] w (ExPost (Mip.Runder q st) (Mil.Bunder s.size st) a b s w):=by
 have H:Hid (RdS w b s st):=h
 have HL:Hid (Laid a w):=L
 have IH:Hid (∀t,Mil.mu t < Mil.mu st→MEC a b s t):=ih
 clear h L ih
 go_enter Tryz.func176,Tryz.ntmps176
 go_wp2_with fail
 have HV:Hid (Hd a b s st w (w.alloc (.cells #[.int .i64 ((s.size:Int) - (q:Nat))] 101)) ((s.size:Int) - (q:Nat)) w.heap.size):=head_facts HL.out hb H.out (Below.refl _ _)
 generalize w.heap.size=kv at HV ⊢
 generalize w.alloc (.cells #[.int .i64 ((s.size:Int) - (q:Nat))] 101)=v at HV ⊢
 clear H HL
 have H:Hid (RdS v b s st):=HV.out.rd
 have HL:Hid (Laid a v):=HV.out.laid
 refine (want_any a b s st (bs Mil.sOpen) _ HL.out hb H.out hs).mono ?_
 rintro e w1 ⟨kk1,(⟨s1,rfl,g1,r1⟩ | ⟨k,at_,hkk,d,rfl,hd,hno⟩)⟩
 ·have hk1:=kk1
  have G1:Hid _:=g1
  have M1:Hid (Mil.mu s1 < Mil.mu st):=Mil.want_mu g1
  clear g1 kk1
  go_wp2_with fail
  refine (IH.out s1 M1.out _ (HL.out.kept hk1 hb) r1).mono ?_
  rintro e w2 ⟨kk2,(⟨x2,s2,ty2,y2,rfl,e2,g2,r2⟩ | ⟨k,at_,hkk,d,rfl,hd,hno⟩)⟩
  ·have hk2:=hk1.trans kk2
   have G2:Hid _:=g2
   have E2:Hid _:=e2
   have M2:Hid (Mil.mu s2 < Mil.mu st):=Nat.lt_of_le_of_lt (Mip.ok_mu g2) M1.out
   clear g2 kk2 e2
   go_wp2_with fail
   refine (want_any a b s s2 (bs Mil.sComma) _ (HL.out.kept hk2 hb) hb r2 hs).mono ?_
   rintro e w3 ⟨kk3,(⟨s3,rfl,g3,r3⟩ | ⟨k,at_,hkk,d,rfl,hd,hno⟩)⟩
   ·have hk3:=hk2.trans kk3
    have G3:Hid _:=g3
    have M3:Hid (Mil.mu s3 < Mil.mu st):=Nat.lt_trans (Mil.want_mu g3) M2.out
    clear g3 kk3
    go_wp2_with fail
    refine (number_any a b s s3 2 1000 (by decide) _ (HL.out.kept hk3 hb) hb r3 hs).mono ?_
    rintro e w4 ⟨kk4,(⟨x4,s4,rfl,g4,r4⟩ | ⟨k,at_,hkk,d,rfl,hd,hno⟩)⟩
    ·have hk4:=hk3.trans kk4
     have G4:Hid _:=g4
     have M4:Hid (Mil.mu s4 < Mil.mu st):=Nat.lt_trans (Mil.number_mu g4) M3.out
     clear g4 kk4
     go_wp2_with fail
     refine (want_any a b s s4 (bs Mil.sShut) _ (HL.out.kept hk4 hb) hb r4 hs).mono ?_
     rintro e w5 ⟨kk5,(⟨s5,rfl,g5,r5⟩ | ⟨k,at_,hkk,d,rfl,hd,hno⟩)⟩
     ·have hk5:=hk4.trans kk5
      have G5:Hid _:=g5
      have M5:Hid (Mil.mu s5 < Mil.mu st):=Nat.lt_trans (Mil.want_mu g5) M4.out
      clear g5 kk5
      have cv:w5.cell? ⟨kv,0,none⟩=some (.int .i64 ((s.size:Int) - (q:Nat))):=hk5.held HV.out.cell HV.out.ne
      go_wp2
      go_ret
      refine ⟨HV.out.kp.trans hk5,Or.inl ⟨Mip.eUnder q x2 x4,s5,_,_,rfl,?_,?_,r5⟩⟩
      ·show Value.iface _ (.agg #[.int .i64 ((s.size:Int) - (q:Nat)),ev s.size x2,.int .i64 (x4:Nat)])=_
       rw [E2.out]
      ·exact ⟨_,_,_,_,G1.out,G2.out,G3.out,G4.out,G5.out,rfl⟩
     ·go_wp2
      refine ⟨rfl,HV.out.kp.trans (hk4.trans kk5),Or.inr ⟨k,at_,hkk,d,rfl,hd,?_⟩⟩
      exact Or.inr ⟨_,G1.out,Or.inr ⟨_,Mip.Ok.er G2.out,Or.inr ⟨_,G3.out,Or.inr ⟨_,G4.out,hno⟩⟩⟩⟩
    ·go_wp2
     refine ⟨rfl,HV.out.kp.trans (hk3.trans kk4),Or.inr ⟨k,at_,hkk,d,rfl,hd,?_⟩⟩
     exact Or.inr ⟨_,G1.out,Or.inr ⟨_,Mip.Ok.er G2.out,Or.inr ⟨_,G3.out,Or.inl hno⟩⟩⟩
   ·go_wp2
    refine ⟨rfl,HV.out.kp.trans (hk2.trans kk3),Or.inr ⟨k,at_,hkk,d,rfl,hd,?_⟩⟩
    exact Or.inr ⟨_,G1.out,Or.inr ⟨_,Mip.Ok.er G2.out,Or.inl hno⟩⟩
  ·go_wp2
   refine ⟨rfl,HV.out.kp.trans (hk1.trans kk2),Or.inr ⟨k,at_,hkk,d,rfl,hd,?_⟩⟩
   exact Or.inr ⟨_,G1.out,Or.inl hno⟩
 ·go_wp2
  refine ⟨rfl,HV.out.kp.trans (kk1),Or.inr ⟨k,at_,hkk,d,rfl,hd,?_⟩⟩
  exact Or.inl hno
theorem held_any (a:Nat→Addr) (b:Nat) (s:ByteArray) (hb:23≤b) (hs:s.size≤4000) (q:Nat) (st:Mil.St) (ih:∀t,Mil.mu t < Mil.mu st→MEC a b s t) (w:World) (L:Laid a w) (h:RdS w b s st) :
  Calls Tryz.prog 177 #[.pointer (some ⟨b,0,none⟩),.agg #[.int .i64 ((s.size:Int) - (q:Nat))]] w (ExPost (Mip.Rhold q st) (Mil.Bhold s.size st) a b s w):=by
 have H:Hid (RdS w b s st):=h
 have HL:Hid (Laid a w):=L
 have IH:Hid (∀t,Mil.mu t < Mil.mu st→MEC a b s t):=ih
 clear h L ih
 go_enter Tryz.func177,Tryz.ntmps177
 go_wp2_with fail
 have HV:Hid (Hd a b s st w (w.alloc (.cells #[.int .i64 ((s.size:Int) - (q:Nat))] 101)) ((s.size:Int) - (q:Nat)) w.heap.size):=head_facts HL.out hb H.out (Below.refl _ _)
 generalize w.heap.size=kv at HV ⊢
 generalize w.alloc (.cells #[.int .i64 ((s.size:Int) - (q:Nat))] 101)=v at HV ⊢
 clear H HL
 have H:Hid (RdS v b s st):=HV.out.rd
 have HL:Hid (Laid a v):=HV.out.laid
 refine (want_any a b s st (bs Mil.sOpen) _ HL.out hb H.out hs).mono ?_
 rintro e w1 ⟨kk1,(⟨s1,rfl,g1,r1⟩ | ⟨k,at_,hkk,d,rfl,hd,hno⟩)⟩
 ·have hk1:=kk1
  have G1:Hid _:=g1
  have M1:Hid (Mil.mu s1 < Mil.mu st):=Mil.want_mu g1
  clear g1 kk1
  go_wp2_with fail
  refine (constant_any a b s s1 _ (HL.out.kept hk1 hb) hb r1 hs).mono ?_
  rintro e w2 ⟨kk2,(⟨x2,s2,ty2,y2,rfl,e2,g2,r2⟩ | ⟨k,at_,hkk,d,rfl,hd,hno⟩)⟩
  ·have hk2:=hk1.trans kk2
   have G2:Hid _:=g2
   have E2:Hid _:=e2
   have M2:Hid (Mil.mu s2 < Mil.mu st):=Nat.lt_trans (Mip.constant_mu g2) M1.out
   clear g2 kk2 e2
   go_wp2_with fail
   refine (want_any a b s s2 (bs Mil.sComma) _ (HL.out.kept hk2 hb) hb r2 hs).mono ?_
   rintro e w3 ⟨kk3,(⟨s3,rfl,g3,r3⟩ | ⟨k,at_,hkk,d,rfl,hd,hno⟩)⟩
   ·have hk3:=hk2.trans kk3
    have G3:Hid _:=g3
    have M3:Hid (Mil.mu s3 < Mil.mu st):=Nat.lt_trans (Mil.want_mu g3) M2.out
    clear g3 kk3
    go_wp2_with fail
    refine (IH.out s3 M3.out _ (HL.out.kept hk3 hb) r3).mono ?_
    rintro e w4 ⟨kk4,(⟨x4,s4,ty4,y4,rfl,e4,g4,r4⟩ | ⟨k,at_,hkk,d,rfl,hd,hno⟩)⟩
    ·have hk4:=hk3.trans kk4
     have G4:Hid _:=g4
     have E4:Hid _:=e4
     have M4:Hid (Mil.mu s4 < Mil.mu st):=Nat.lt_of_le_of_lt (Mip.ok_mu g4) M3.out
     clear g4 kk4 e4
     go_wp2_with fail
     refine (want_any a b s s4 (bs Mil.sComma) _ (HL.out.kept hk4 hb) hb r4 hs).mono ?_
     rintro e w5 ⟨kk5,(⟨s5,rfl,g5,r5⟩ | ⟨k,at_,hkk,d,rfl,hd,hno⟩)⟩
     ·have hk5:=hk4.trans kk5
      have G5:Hid _:=g5
      have M5:Hid (Mil.mu s5 < Mil.mu st):=Nat.lt_trans (Mil.want_mu g5) M4.out
      clear g5 kk5
      go_wp2_with fail
      refine (number_any a b s s5 2 1000 (by decide) _ (HL.out.kept hk5 hb) hb r5 hs).mono ?_
      rintro e w6 ⟨kk6,(⟨x6,s6,rfl,g6,r6⟩ | ⟨k,at_,hkk,d,rfl,hd,hno⟩)⟩
      ·have hk6:=hk5.trans kk6
       have G6:Hid _:=g6
       have M6:Hid (Mil.mu s6 < Mil.mu st):=Nat.lt_trans (Mil.number_mu g6) M5.out
       clear g6 kk6
       go_wp2_with fail
       refine (want_any a b s s6 (bs Mil.sShut) _ (HL.out.kept hk6 hb) hb r6 hs).mono ?_
       rintro e w7 ⟨kk7,(⟨s7,rfl,g7,r7⟩ | ⟨k,at_,hkk,d,rfl,hd,hno⟩)⟩
       ·have hk7:=hk6.trans kk7
        have G7:Hid _:=g7
        have M7:Hid (Mil.mu s7 < Mil.mu st):=Nat.lt_trans (Mil.want_mu g7) M6.out
        clear g7 kk7
        have cv:w7.cell? ⟨kv,0,none⟩=some (.int .i64 ((s.size:Int) - (q:Nat))):=hk7.held HV.out.cell HV.out.ne
        go_wp2
        go_ret
        refine ⟨HV.out.kp.trans hk7,Or.inl ⟨Mip.eHold q x2 x4 x6,s7,_,_,rfl,?_,?_,r7⟩⟩
        ·show Value.iface _ (.agg #[.int .i64 ((s.size:Int) - (q:Nat)),ev s.size x2,ev s.size x4,.int .i64 (x6:Nat)])=_
         rw [E2.out,E4.out]
        ·exact ⟨_,_,_,_,_,_,G1.out,G2.out,G3.out,G4.out,G5.out,G6.out,G7.out,rfl⟩
       ·go_wp2
        refine ⟨rfl,HV.out.kp.trans (hk6.trans kk7),Or.inr ⟨k,at_,hkk,d,rfl,hd,?_⟩⟩
        exact Or.inr ⟨_,G1.out,Or.inr ⟨_,Mip.const_er G2.out,Or.inr ⟨_,G3.out,Or.inr ⟨_,Mip.Ok.er G4.out,Or.inr ⟨_,G5.out,Or.inr ⟨_,G6.out,hno⟩⟩⟩⟩⟩⟩
      ·go_wp2
       refine ⟨rfl,HV.out.kp.trans (hk5.trans kk6),Or.inr ⟨k,at_,hkk,d,rfl,hd,?_⟩⟩
       exact Or.inr ⟨_,G1.out,Or.inr ⟨_,Mip.const_er G2.out,Or.inr ⟨_,G3.out,Or.inr ⟨_,Mip.Ok.er G4.out,Or.inr ⟨_,G5.out,Or.inl hno⟩⟩⟩⟩⟩
     ·go_wp2
      refine ⟨rfl,HV.out.kp.trans (hk4.trans kk5),Or.inr ⟨k,at_,hkk,d,rfl,hd,?_⟩⟩
      exact Or.inr ⟨_,G1.out,Or.inr ⟨_,Mip.const_er G2.out,Or.inr ⟨_,G3.out,Or.inr ⟨_,Mip.Ok.er G4.out,Or.inl hno⟩⟩⟩⟩
    ·go_wp2
     refine ⟨rfl,HV.out.kp.trans (hk3.trans kk4),Or.inr ⟨k,at_,hkk,d,rfl,hd,?_⟩⟩
     exact Or.inr ⟨_,G1.out,Or.inr ⟨_,Mip.const_er G2.out,Or.inr ⟨_,G3.out,Or.inl hno⟩⟩⟩
   ·go_wp2
    refine ⟨rfl,HV.out.kp.trans (hk2.trans kk3),Or.inr ⟨k,at_,hkk,d,rfl,hd,?_⟩⟩
    exact Or.inr ⟨_,G1.out,Or.inr ⟨_,Mip.const_er G2.out,Or.inl hno⟩⟩
  ·go_wp2
   refine ⟨rfl,HV.out.kp.trans (hk1.trans kk2),Or.inr ⟨k,at_,hkk,d,rfl,hd,?_⟩⟩
   exact Or.inr ⟨_,G1.out,Or.inl hno⟩
 ·go_wp2
  refine ⟨rfl,HV.out.kp.trans (kk1),Or.inr ⟨k,at_,hkk,d,rfl,hd,?_⟩⟩
  exact Or.inl hno
theorem extreme_any (a:Nat→Addr) (b:Nat) (s:ByteArray) (hb:23≤b) (hs:s.size≤4000) (m:Mil.Bytes) (q:Nat) (st:Mil.St) (ih:∀t,Mil.mu t < Mil.mu st→MEC a b s t) (w:World) (L:Laid a w) (h:RdS w b s st) :
  Calls Tryz.prog 178 #[.pointer (some ⟨b,0,none⟩),.agg #[.int .i64 ((s.size:Int) - (q:Nat))],.string (bs m)] w (ExPost (Mip.Rleast q m st) (Mil.Bleast s.size st) a b s w):=by
 have H:Hid (RdS w b s st):=h
 have HL:Hid (Laid a w):=L
 have IH:Hid (∀t,Mil.mu t < Mil.mu st→MEC a b s t):=ih
 clear h L ih
 go_enter Tryz.func178,Tryz.ntmps178
 go_wp2_with fail
 have HV:Hid (Hd a b s st w (w.alloc (.cells #[.int .i64 ((s.size:Int) - (q:Nat))] 101)) ((s.size:Int) - (q:Nat)) w.heap.size):=head_facts HL.out hb H.out (Below.refl _ _)
 generalize w.heap.size=kv at HV ⊢
 generalize w.alloc (.cells #[.int .i64 ((s.size:Int) - (q:Nat))] 101)=v at HV ⊢
 clear H HL
 have H:Hid (RdS v b s st):=HV.out.rd
 have HL:Hid (Laid a v):=HV.out.laid
 refine (want_any a b s st (bs Mil.sOpen) _ HL.out hb H.out hs).mono ?_
 rintro e w1 ⟨kk1,(⟨s1,rfl,g1,r1⟩ | ⟨k,at_,hkk,d,rfl,hd,hno⟩)⟩
 ·have hk1:=kk1
  have G1:Hid _:=g1
  have M1:Hid (Mil.mu s1 < Mil.mu st):=Mil.want_mu g1
  clear g1 kk1
  go_wp2_with fail
  refine (IH.out s1 M1.out _ (HL.out.kept hk1 hb) r1).mono ?_
  rintro e w2 ⟨kk2,(⟨x2,s2,ty2,y2,rfl,e2,g2,r2⟩ | ⟨k,at_,hkk,d,rfl,hd,hno⟩)⟩
  ·have hk2:=hk1.trans kk2
   have G2:Hid _:=g2
   have E2:Hid _:=e2
   have M2:Hid (Mil.mu s2 < Mil.mu st):=Nat.lt_of_le_of_lt (Mip.ok_mu g2) M1.out
   clear g2 kk2 e2
   go_wp2_with fail
   refine (want_any a b s s2 (bs Mil.sComma) _ (HL.out.kept hk2 hb) hb r2 hs).mono ?_
   rintro e w3 ⟨kk3,(⟨s3,rfl,g3,r3⟩ | ⟨k,at_,hkk,d,rfl,hd,hno⟩)⟩
   ·have hk3:=hk2.trans kk3
    have G3:Hid _:=g3
    have M3:Hid (Mil.mu s3 < Mil.mu st):=Nat.lt_trans (Mil.want_mu g3) M2.out
    clear g3 kk3
    go_wp2_with fail
    refine (IH.out s3 M3.out _ (HL.out.kept hk3 hb) r3).mono ?_
    rintro e w4 ⟨kk4,(⟨x4,s4,ty4,y4,rfl,e4,g4,r4⟩ | ⟨k,at_,hkk,d,rfl,hd,hno⟩)⟩
    ·have hk4:=hk3.trans kk4
     have G4:Hid _:=g4
     have E4:Hid _:=e4
     have M4:Hid (Mil.mu s4 < Mil.mu st):=Nat.lt_of_le_of_lt (Mip.ok_mu g4) M3.out
     clear g4 kk4 e4
     go_wp2_with fail
     refine (want_any a b s s4 (bs Mil.sShut) _ (HL.out.kept hk4 hb) hb r4 hs).mono ?_
     rintro e w5 ⟨kk5,(⟨s5,rfl,g5,r5⟩ | ⟨k,at_,hkk,d,rfl,hd,hno⟩)⟩
     ·have hk5:=hk4.trans kk5
      have G5:Hid _:=g5
      have M5:Hid (Mil.mu s5 < Mil.mu st):=Nat.lt_trans (Mil.want_mu g5) M4.out
      clear g5 kk5
      have cv:w5.cell? ⟨kv,0,none⟩=some (.int .i64 ((s.size:Int) - (q:Nat))):=hk5.held HV.out.cell HV.out.ne
      go_wp2
      go_ret
      refine ⟨HV.out.kp.trans hk5,Or.inl ⟨Mip.eLeast q m x2 x4,s5,_,_,rfl,?_,?_,r5⟩⟩
      ·show Value.iface _ (.agg #[.int .i64 ((s.size:Int) - (q:Nat)),.string (bs m),ev s.size x2,ev s.size x4])=_
       rw [E2.out,E4.out]
      ·exact ⟨_,_,_,_,G1.out,G2.out,G3.out,G4.out,G5.out,rfl⟩
     ·go_wp2
      refine ⟨rfl,HV.out.kp.trans (hk4.trans kk5),Or.inr ⟨k,at_,hkk,d,rfl,hd,?_⟩⟩
      exact Or.inr ⟨_,G1.out,Or.inr ⟨_,Mip.Ok.er G2.out,Or.inr ⟨_,G3.out,Or.inr ⟨_,Mip.Ok.er G4.out,hno⟩⟩⟩⟩
    ·go_wp2
     refine ⟨rfl,HV.out.kp.trans (hk3.trans kk4),Or.inr ⟨k,at_,hkk,d,rfl,hd,?_⟩⟩
     exact Or.inr ⟨_,G1.out,Or.inr ⟨_,Mip.Ok.er G2.out,Or.inr ⟨_,G3.out,Or.inl hno⟩⟩⟩
   ·go_wp2
    refine ⟨rfl,HV.out.kp.trans (hk2.trans kk3),Or.inr ⟨k,at_,hkk,d,rfl,hd,?_⟩⟩
    exact Or.inr ⟨_,G1.out,Or.inr ⟨_,Mip.Ok.er G2.out,Or.inl hno⟩⟩
  ·go_wp2
   refine ⟨rfl,HV.out.kp.trans (hk1.trans kk2),Or.inr ⟨k,at_,hkk,d,rfl,hd,?_⟩⟩
   exact Or.inr ⟨_,G1.out,Or.inl hno⟩
 ·go_wp2
  refine ⟨rfl,HV.out.kp.trans (kk1),Or.inr ⟨k,at_,hkk,d,rfl,hd,?_⟩⟩
  exact Or.inl hno
end
end Go.Proofs.YticbokabjhnagaaGreatDoor
