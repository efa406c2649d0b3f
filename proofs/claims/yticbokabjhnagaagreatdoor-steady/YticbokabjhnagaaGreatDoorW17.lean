import Derived.Test.YticbokabjhnagaaGreatDoorW16
namespace Go.Proofs.YticbokabjhnagaaGreatDoor
set_option maxHeartbeats 32000000
section
open Go.RowKit
theorem atom_name_any (a:Nat→Addr) (b:Nat) (s:ByteArray) (hb:23≤b) (hs:s.size≤4000) (st:Mil.St) (ih:∀t,Mil.mu t < Mil.mu st→MEC a b s t) (h1:st.tok.kind=1):MAC a b s st:=by
 intro w L h
 have H:Hid (RdS w b s st):=h
 have HL:Hid (Laid a w):=L
 have IH:Hid (∀t,Mil.mu t < Mil.mu st→MEC a b s t):=ih
 clear h L ih
 have hk:(((st.tok.kind:Nat):Int)==1)=true:=by simp;omega
 have H1:Hid (st.tok.kind=1):=h1
 clear h1
 go_enter Tryz.func167,Tryz.ntmps167
 go_wp2_with fail
 refine (atomHere_any b s st _ H.out).mono ?_
 rintro e w0 ⟨rfl,hw0⟩
 have HV:Hid (Hd a b s st w (w0.alloc (.cells #[.int .i64 (place s.size st)] 101)) (place s.size st) w0.heap.size):=head_facts HL.out hb H.out hw0
 clear hw0
 obtain ⟨p,tp,x,hp,hR,hr,hx,hn⟩:=HV.out.rd
 have c3:=hR.c3
 clear hR hr hx hn hp
 go_wp2_with fail
 clear c3
 generalize w0.heap.size=kv at HV ⊢
 generalize w0.alloc (.cells #[.int .i64 (place s.size st)] 101)=v at HV ⊢
 clear H HL w0
 have H:Hid (RdS v b s st):=HV.out.rd
 have HL:Hid (Laid a v):=HV.out.laid
 refine (name_any a b s st _ HL.out hb H.out hs).mono ?_
 rintro e w1 ⟨hk1,(⟨x1,s1,rfl,g1,r1⟩ | ⟨k,at_,hkk,d,rfl,hd,hno⟩)⟩
 ·have G1:Hid _:=g1
  clear g1
  go_wp2
  go_ret
  exact ⟨HV.out.kp.trans (hk1),Or.inl ⟨Mip.eName (Mip.off st) x1,s1,_,_,rfl,by rw [place_off];rfl,(Mip.atom_name H1.out _).2 (by rw [G1.out];rfl),r1⟩⟩
 ·go_wp2
  exact ⟨rfl,HV.out.kp.trans (hk1),Or.inr ⟨k,at_,hkk,d,rfl,hd,Mil.bad_name H1.out hno⟩⟩
theorem atom_open_any (a:Nat→Addr) (b:Nat) (s:ByteArray) (hb:23≤b) (hs:s.size≤4000) (st:Mil.St) (ih:∀t,Mil.mu t < Mil.mu st→MEC a b s t) (hy:Mil.sees st Mil.sOpen=true):MAC a b s st:=by
 intro w L h
 have H:Hid (RdS w b s st):=h
 have HL:Hid (Laid a w):=L
 have IH:Hid (∀t,Mil.mu t < Mil.mu st→MEC a b s t):=ih
 clear h L ih
 have hk:(((st.tok.kind:Nat):Int)==1)=false:=by have:=(Mil.sees_kind3 hy).1;simp;omega
 have HK3:Hid (st.tok.kind≠0):=by show _≠_;rw [(Mil.sees_kind3 hy).1];decide
 have HI:Hid (Mil.sees st (bs Mil.sOpen).data.toList=true):=hy
 clear hy
 go_enter Tryz.func167,Tryz.ntmps167
 go_wp2_with fail
 refine (atomHere_any b s st _ H.out).mono ?_
 rintro e w0 ⟨rfl,hw0⟩
 have HV:Hid (Hd a b s st w (w0.alloc (.cells #[.int .i64 (place s.size st)] 101)) (place s.size st) w0.heap.size):=head_facts HL.out hb H.out hw0
 clear hw0
 obtain ⟨p,tp,x,hp,hR,hr,hx,hn⟩:=HV.out.rd
 have c3:=hR.c3
 clear hR hr hx hn hp
 go_wp2_with fail
 clear c3
 generalize w0.heap.size=kv at HV ⊢
 generalize w0.alloc (.cells #[.int .i64 (place s.size st)] 101)=v at HV ⊢
 clear H HL w0
 have H:Hid (RdS v b s st):=HV.out.rd
 have HL:Hid (Laid a v):=HV.out.laid
 refine (takes_yes a b s st (bs Mil.sOpen) _ HL.out hb H.out hs HI.out).mono ?_
 rintro e w1 ⟨kk1,(⟨s1,rfl,g1,r1⟩ | ⟨k,at_,hkk,d,rfl,hd,hno⟩)⟩
 ·have hk1:=kk1
  have G1:Hid _:=g1
  have M1:Hid (Mil.mu s1 < Mil.mu st):=Mil.adv_mu g1 HK3.out
  clear g1 kk1
  go_wp2_with fail
  refine (IH.out s1 M1.out _ (HL.out.kept hk1 hb) r1).mono ?_
  rintro e w2 ⟨kk2,(⟨x2,s2,ty2,y2,rfl,e2,g2,r2⟩ | ⟨k,at_,hkk,d,rfl,hd,hno⟩)⟩
  ·have hk2:=hk1.trans kk2
   have G2:Hid _:=g2
   have E2:Hid _:=e2
   have M2:Hid (Mil.mu s2 < Mil.mu st):=Nat.lt_of_le_of_lt (Mip.ok_mu g2) M1.out
   clear g2 kk2 e2
   go_wp2_with fail
   refine (want_any a b s s2 (bs Mil.sShut) _ (HL.out.kept hk2 hb) hb r2 hs).mono ?_
   rintro e w3 ⟨kk3,(⟨s3,rfl,g3,r3⟩ | ⟨k,at_,hkk,d,rfl,hd,hno⟩)⟩
   ·have hk3:=hk2.trans kk3
    have G3:Hid _:=g3
    have M3:Hid (Mil.mu s3 < Mil.mu st):=Nat.lt_trans (Mil.want_mu g3) M2.out
    clear g3 kk3
    go_wp2
    go_ret
    exact ⟨HV.out.kp.trans (hk3),Or.inl ⟨x2,s3,_,_,rfl,E2.out,(Mip.atom_open HI.out _).2 ⟨_,_,_,G1.out,G2.out,G3.out,rfl⟩,r3⟩⟩
   ·go_wp2
    refine ⟨rfl,HV.out.kp.trans (hk2.trans kk3),Or.inr ⟨k,at_,hkk,d,rfl,hd,?_⟩⟩
    exact Mil.bad_open HI.out (Or.inr ⟨_,G1.out,Or.inr ⟨_,Mip.Ok.er G2.out,hno⟩⟩)
  ·go_wp2
   refine ⟨rfl,HV.out.kp.trans (hk1.trans kk2),Or.inr ⟨k,at_,hkk,d,rfl,hd,?_⟩⟩
   exact Mil.bad_open HI.out (Or.inr ⟨_,G1.out,Or.inl hno⟩)
 ·go_wp2
  refine ⟨rfl,HV.out.kp.trans (kk1),Or.inr ⟨k,at_,hkk,d,rfl,hd,?_⟩⟩
  exact Mil.bad_open HI.out (Or.inl hno)
theorem atom_fby_any (a:Nat→Addr) (b:Nat) (s:ByteArray) (hb:23≤b) (hs:s.size≤4000) (st:Mil.St) (ih:∀t,Mil.mu t < Mil.mu st→MEC a b s t) (hy:Mil.sees st Mil.wFby=true):MAC a b s st:=by
 intro w L h
 have H:Hid (RdS w b s st):=h
 have HL:Hid (Laid a w):=L
 have IH:Hid (∀t,Mil.mu t < Mil.mu st→MEC a b s t):=ih
 clear h L ih
 have hk:(((st.tok.kind:Nat):Int)==1)=false:=by have:=(Mil.sees_kind3 hy).1;simp;omega
 have HK3:Hid (st.tok.kind≠0):=by show _≠_;rw [(Mil.sees_kind3 hy).1];decide
 have HI:Hid (Mil.sees st (bs Mil.wFby).data.toList=true):=hy
 have N0:Hid (Mil.sees st (bs Mil.sOpen).data.toList=false):=Mil.sees_other hy (by decide)
 clear hy
 go_enter Tryz.func167,Tryz.ntmps167
 go_wp2_with fail
 refine (atomHere_any b s st _ H.out).mono ?_
 rintro e w0 ⟨rfl,hw0⟩
 have HV:Hid (Hd a b s st w (w0.alloc (.cells #[.int .i64 (place s.size st)] 101)) (place s.size st) w0.heap.size):=head_facts HL.out hb H.out hw0
 clear hw0
 obtain ⟨p,tp,x,hp,hR,hr,hx,hn⟩:=HV.out.rd
 have c3:=hR.c3
 clear hR hr hx hn hp
 go_wp2_with fail
 clear c3
 generalize w0.heap.size=kv at HV ⊢
 generalize w0.alloc (.cells #[.int .i64 (place s.size st)] 101)=v at HV ⊢
 clear H HL w0
 have H:Hid (RdS v b s st):=HV.out.rd
 have HL:Hid (Laid a v):=HV.out.laid
 refine (takes_no b s st (bs Mil.sOpen) _ H.out N0.out).mono ?_
 rintro e w1 ⟨rfl,rfl⟩
 go_wp2_with fail
 refine (takes_yes a b s st (bs Mil.wFby) _ HL.out hb H.out hs HI.out).mono ?_
 rintro e w1 ⟨hk1,(⟨s1,rfl,g1,r1⟩ | ⟨k,at_,hkk,d,rfl,hd,hno⟩)⟩
 ·have G1:Hid (Mil.adv st=some s1):=g1
  have M1:Hid (Mil.mu s1 < Mil.mu st):=Mil.adv_mu g1 HK3.out
  clear g1
  have cv:w1.cell? ⟨kv,0,none⟩=some (.int .i64 (place s.size st)):=hk1.held HV.out.cell HV.out.ne
  go_wp2_with fail
  clear cv
  rw [place_off]
  refine (delayed_any a b s hb hs (Mip.off st) s1 (fun t ht=>IH.out t (Nat.lt_trans ht M1.out)) _ (HL.out.kept hk1 hb) r1).mono ?_
  rintro e w2 ⟨hk2,(⟨x,s2,ty,y,rfl,ea,g2,r2⟩ | ⟨k,at_,hkk,d,rfl,hd,hno⟩)⟩
  ·have EA:Hid _:=ea
   have G2:Hid _:=g2
   clear ea g2
   go_wp2
   go_ret
   exact ⟨HV.out.kp.trans (hk1.trans hk2),Or.inl ⟨x,s2,ty,y,rfl,EA.out,(Mip.atom_fby HI.out _).2 ⟨s1,G1.out,G2.out⟩,r2⟩⟩
  ·have HNO:Hid _:=hno
   clear hno
   go_wp2
   exact ⟨rfl,HV.out.kp.trans (hk1.trans hk2),Or.inr ⟨k,at_,hkk,d,rfl,hd,Mil.bad_fby HI.out (Or.inr ⟨_,G1.out,HNO.out⟩)⟩⟩
 ·go_wp2
  exact ⟨rfl,HV.out.kp.trans (hk1),Or.inr ⟨k,at_,hkk,d,rfl,hd,Mil.bad_fby HI.out (Or.inl hno)⟩⟩
theorem atom_under_any (a:Nat→Addr) (b:Nat) (s:ByteArray) (hb:23≤b) (hs:s.size≤4000) (st:Mil.St) (ih:∀t,Mil.mu t < Mil.mu st→MEC a b s t) (hy:Mil.sees st Mil.wUnder=true):MAC a b s st:=by
 intro w L h
 have H:Hid (RdS w b s st):=h
 have HL:Hid (Laid a w):=L
 have IH:Hid (∀t,Mil.mu t < Mil.mu st→MEC a b s t):=ih
 clear h L ih
 have hk:(((st.tok.kind:Nat):Int)==1)=false:=by have:=(Mil.sees_kind3 hy).1;simp;omega
 have HK3:Hid (st.tok.kind≠0):=by show _≠_;rw [(Mil.sees_kind3 hy).1];decide
 have HI:Hid (Mil.sees st (bs Mil.wUnder).data.toList=true):=hy
 have N0:Hid (Mil.sees st (bs Mil.sOpen).data.toList=false):=Mil.sees_other hy (by decide)
 have N1:Hid (Mil.sees st (bs Mil.wFby).data.toList=false):=Mil.sees_other hy (by decide)
 clear hy
 go_enter Tryz.func167,Tryz.ntmps167
 go_wp2_with fail
 refine (atomHere_any b s st _ H.out).mono ?_
 rintro e w0 ⟨rfl,hw0⟩
 have HV:Hid (Hd a b s st w (w0.alloc (.cells #[.int .i64 (place s.size st)] 101)) (place s.size st) w0.heap.size):=head_facts HL.out hb H.out hw0
 clear hw0
 obtain ⟨p,tp,x,hp,hR,hr,hx,hn⟩:=HV.out.rd
 have c3:=hR.c3
 clear hR hr hx hn hp
 go_wp2_with fail
 clear c3
 generalize w0.heap.size=kv at HV ⊢
 generalize w0.alloc (.cells #[.int .i64 (place s.size st)] 101)=v at HV ⊢
 clear H HL w0
 have H:Hid (RdS v b s st):=HV.out.rd
 have HL:Hid (Laid a v):=HV.out.laid
 refine (takes_no b s st (bs Mil.sOpen) _ H.out N0.out).mono ?_
 rintro e w1 ⟨rfl,rfl⟩
 go_wp2_with fail
 refine (takes_no b s st (bs Mil.wFby) _ H.out N1.out).mono ?_
 rintro e w1 ⟨rfl,rfl⟩
 go_wp2_with fail
 refine (takes_yes a b s st (bs Mil.wUnder) _ HL.out hb H.out hs HI.out).mono ?_
 rintro e w1 ⟨hk1,(⟨s1,rfl,g1,r1⟩ | ⟨k,at_,hkk,d,rfl,hd,hno⟩)⟩
 ·have G1:Hid (Mil.adv st=some s1):=g1
  have M1:Hid (Mil.mu s1 < Mil.mu st):=Mil.adv_mu g1 HK3.out
  clear g1
  have cv:w1.cell? ⟨kv,0,none⟩=some (.int .i64 (place s.size st)):=hk1.held HV.out.cell HV.out.ne
  go_wp2_with fail
  clear cv
  rw [place_off]
  refine (thinned_any a b s hb hs (Mip.off st) s1 (fun t ht=>IH.out t (Nat.lt_trans ht M1.out)) _ (HL.out.kept hk1 hb) r1).mono ?_
  rintro e w2 ⟨hk2,(⟨x,s2,ty,y,rfl,ea,g2,r2⟩ | ⟨k,at_,hkk,d,rfl,hd,hno⟩)⟩
  ·have EA:Hid _:=ea
   have G2:Hid _:=g2
   clear ea g2
   go_wp2
   go_ret
   exact ⟨HV.out.kp.trans (hk1.trans hk2),Or.inl ⟨x,s2,ty,y,rfl,EA.out,(Mip.atom_under HI.out _).2 ⟨s1,G1.out,G2.out⟩,r2⟩⟩
  ·have HNO:Hid _:=hno
   clear hno
   go_wp2
   exact ⟨rfl,HV.out.kp.trans (hk1.trans hk2),Or.inr ⟨k,at_,hkk,d,rfl,hd,Mil.bad_under HI.out (Or.inr ⟨_,G1.out,HNO.out⟩)⟩⟩
 ·go_wp2
  exact ⟨rfl,HV.out.kp.trans (hk1),Or.inr ⟨k,at_,hkk,d,rfl,hd,Mil.bad_under HI.out (Or.inl hno)⟩⟩
theorem atom_hold_any (a:Nat→Addr) (b:Nat) (s:ByteArray) (hb:23≤b) (hs:s.size≤4000) (st:Mil.St) (ih:∀t,Mil.mu t < Mil.mu st→MEC a b s t) (hy:Mil.sees st Mil.wHold=true):MAC a b s st:=by
 intro w L h
 have H:Hid (RdS w b s st):=h
 have HL:Hid (Laid a w):=L
 have IH:Hid (∀t,Mil.mu t < Mil.mu st→MEC a b s t):=ih
 clear h L ih
 have hk:(((st.tok.kind:Nat):Int)==1)=false:=by have:=(Mil.sees_kind3 hy).1;simp;omega
 have HK3:Hid (st.tok.kind≠0):=by show _≠_;rw [(Mil.sees_kind3 hy).1];decide
 have HI:Hid (Mil.sees st (bs Mil.wHold).data.toList=true):=hy
 have N0:Hid (Mil.sees st (bs Mil.sOpen).data.toList=false):=Mil.sees_other hy (by decide)
 have N1:Hid (Mil.sees st (bs Mil.wFby).data.toList=false):=Mil.sees_other hy (by decide)
 have N2:Hid (Mil.sees st (bs Mil.wUnder).data.toList=false):=Mil.sees_other hy (by decide)
 clear hy
 go_enter Tryz.func167,Tryz.ntmps167
 go_wp2_with fail
 refine (atomHere_any b s st _ H.out).mono ?_
 rintro e w0 ⟨rfl,hw0⟩
 have HV:Hid (Hd a b s st w (w0.alloc (.cells #[.int .i64 (place s.size st)] 101)) (place s.size st) w0.heap.size):=head_facts HL.out hb H.out hw0
 clear hw0
 obtain ⟨p,tp,x,hp,hR,hr,hx,hn⟩:=HV.out.rd
 have c3:=hR.c3
 clear hR hr hx hn hp
 go_wp2_with fail
 clear c3
 generalize w0.heap.size=kv at HV ⊢
 generalize w0.alloc (.cells #[.int .i64 (place s.size st)] 101)=v at HV ⊢
 clear H HL w0
 have H:Hid (RdS v b s st):=HV.out.rd
 have HL:Hid (Laid a v):=HV.out.laid
 refine (takes_no b s st (bs Mil.sOpen) _ H.out N0.out).mono ?_
 rintro e w1 ⟨rfl,rfl⟩
 go_wp2_with fail
 refine (takes_no b s st (bs Mil.wFby) _ H.out N1.out).mono ?_
 rintro e w1 ⟨rfl,rfl⟩
 go_wp2_with fail
 refine (takes_no b s st (bs Mil.wUnder) _ H.out N2.out).mono ?_
 rintro e w1 ⟨rfl,rfl⟩
 go_wp2_with fail
 refine (takes_yes a b s st (bs Mil.wHold) _ HL.out hb H.out hs HI.out).mono ?_
 rintro e w1 ⟨hk1,(⟨s1,rfl,g1,r1⟩ | ⟨k,at_,hkk,d,rfl,hd,hno⟩)⟩
 ·have G1:Hid (Mil.adv st=some s1):=g1
  have M1:Hid (Mil.mu s1 < Mil.mu st):=Mil.adv_mu g1 HK3.out
  clear g1
  have cv:w1.cell? ⟨kv,0,none⟩=some (.int .i64 (place s.size st)):=hk1.held HV.out.cell HV.out.ne
  go_wp2_with fail
  clear cv
  rw [place_off]
  refine (held_any a b s hb hs (Mip.off st) s1 (fun t ht=>IH.out t (Nat.lt_trans ht M1.out)) _ (HL.out.kept hk1 hb) r1).mono ?_
  rintro e w2 ⟨hk2,(⟨x,s2,ty,y,rfl,ea,g2,r2⟩ | ⟨k,at_,hkk,d,rfl,hd,hno⟩)⟩
  ·have EA:Hid _:=ea
   have G2:Hid _:=g2
   clear ea g2
   go_wp2
   go_ret
   exact ⟨HV.out.kp.trans (hk1.trans hk2),Or.inl ⟨x,s2,ty,y,rfl,EA.out,(Mip.atom_hold HI.out _).2 ⟨s1,G1.out,G2.out⟩,r2⟩⟩
  ·have HNO:Hid _:=hno
   clear hno
   go_wp2
   exact ⟨rfl,HV.out.kp.trans (hk1.trans hk2),Or.inr ⟨k,at_,hkk,d,rfl,hd,Mil.bad_hold HI.out (Or.inr ⟨_,G1.out,HNO.out⟩)⟩⟩
 ·go_wp2
  exact ⟨rfl,HV.out.kp.trans (hk1),Or.inr ⟨k,at_,hkk,d,rfl,hd,Mil.bad_hold HI.out (Or.inl hno)⟩⟩
theorem atom_min_any (a:Nat→Addr) (b:Nat) (s:ByteArray) (hb:23≤b) (hs:s.size≤4000) (st:Mil.St) (ih:∀t,Mil.mu t < Mil.mu st→MEC a b s t) (hy:Mil.sees st Mil.wMin=true):MAC a b s st:=by
 intro w L h
 have H:Hid (RdS w b s st):=h
 have HL:Hid (Laid a w):=L
 have IH:Hid (∀t,Mil.mu t < Mil.mu st→MEC a b s t):=ih
 clear h L ih
 have hk:(((st.tok.kind:Nat):Int)==1)=false:=by have:=(Mil.sees_kind3 hy).1;simp;omega
 have HK3:Hid (st.tok.kind≠0):=by show _≠_;rw [(Mil.sees_kind3 hy).1];decide
 have HI:Hid (Mil.sees st (bs Mil.wMin).data.toList=true):=hy
 have N0:Hid (Mil.sees st (bs Mil.sOpen).data.toList=false):=Mil.sees_other hy (by decide)
 have N1:Hid (Mil.sees st (bs Mil.wFby).data.toList=false):=Mil.sees_other hy (by decide)
 have N2:Hid (Mil.sees st (bs Mil.wUnder).data.toList=false):=Mil.sees_other hy (by decide)
 have N3:Hid (Mil.sees st (bs Mil.wHold).data.toList=false):=Mil.sees_other hy (by decide)
 clear hy
 go_enter Tryz.func167,Tryz.ntmps167
 go_wp2_with fail
 refine (atomHere_any b s st _ H.out).mono ?_
 rintro e w0 ⟨rfl,hw0⟩
 have HV:Hid (Hd a b s st w (w0.alloc (.cells #[.int .i64 (place s.size st)] 101)) (place s.size st) w0.heap.size):=head_facts HL.out hb H.out hw0
 clear hw0
 obtain ⟨p,tp,x,hp,hR,hr,hx,hn⟩:=HV.out.rd
 have c3:=hR.c3
 clear hR hr hx hn hp
 go_wp2_with fail
 clear c3
 generalize w0.heap.size=kv at HV ⊢
 generalize w0.alloc (.cells #[.int .i64 (place s.size st)] 101)=v at HV ⊢
 clear H HL w0
 have H:Hid (RdS v b s st):=HV.out.rd
 have HL:Hid (Laid a v):=HV.out.laid
 refine (takes_no b s st (bs Mil.sOpen) _ H.out N0.out).mono ?_
 rintro e w1 ⟨rfl,rfl⟩
 go_wp2_with fail
 refine (takes_no b s st (bs Mil.wFby) _ H.out N1.out).mono ?_
 rintro e w1 ⟨rfl,rfl⟩
 go_wp2_with fail
 refine (takes_no b s st (bs Mil.wUnder) _ H.out N2.out).mono ?_
 rintro e w1 ⟨rfl,rfl⟩
 go_wp2_with fail
 refine (takes_no b s st (bs Mil.wHold) _ H.out N3.out).mono ?_
 rintro e w1 ⟨rfl,rfl⟩
 go_wp2_with fail
 refine (takes_yes a b s st (bs Mil.wMin) _ HL.out hb H.out hs HI.out).mono ?_
 rintro e w1 ⟨hk1,(⟨s1,rfl,g1,r1⟩ | ⟨k,at_,hkk,d,rfl,hd,hno⟩)⟩
 ·have G1:Hid (Mil.adv st=some s1):=g1
  have M1:Hid (Mil.mu s1 < Mil.mu st):=Mil.adv_mu g1 HK3.out
  clear g1
  have cv:w1.cell? ⟨kv,0,none⟩=some (.int .i64 (place s.size st)):=hk1.held HV.out.cell HV.out.ne
  go_wp2_with fail
  clear cv
  rw [place_off]
  refine (extreme_any a b s hb hs Mil.wMin (Mip.off st) s1 (fun t ht=>IH.out t (Nat.lt_trans ht M1.out)) _ (HL.out.kept hk1 hb) r1).mono ?_
  rintro e w2 ⟨hk2,(⟨x,s2,ty,y,rfl,ea,g2,r2⟩ | ⟨k,at_,hkk,d,rfl,hd,hno⟩)⟩
  ·have EA:Hid _:=ea
   have G2:Hid _:=g2
   clear ea g2
   go_wp2
   go_ret
   exact ⟨HV.out.kp.trans (hk1.trans hk2),Or.inl ⟨x,s2,ty,y,rfl,EA.out,(Mip.atom_least (Or.inl rfl) HI.out _).2 ⟨s1,G1.out,G2.out⟩,r2⟩⟩
  ·have HNO:Hid _:=hno
   clear hno
   go_wp2
   exact ⟨rfl,HV.out.kp.trans (hk1.trans hk2),Or.inr ⟨k,at_,hkk,d,rfl,hd,Mil.bad_least (Or.inl rfl) HI.out (Or.inr ⟨_,G1.out,HNO.out⟩)⟩⟩
 ·go_wp2
  exact ⟨rfl,HV.out.kp.trans (hk1),Or.inr ⟨k,at_,hkk,d,rfl,hd,Mil.bad_least (Or.inl rfl) HI.out (Or.inl hno)⟩⟩
theorem atom_max_any (a:Nat→Addr) (b:Nat) (s:ByteArray) (hb:23≤b) (hs:s.size≤4000) (st:Mil.St) (ih:∀t,Mil.mu t < Mil.mu st→MEC a b s t) (hy:Mil.sees st Mil.wMax=true):MAC a b s st:=by
 intro w L h
 have H:Hid (RdS w b s st):=h
 have HL:Hid (Laid a w):=L
 have IH:Hid (∀t,Mil.mu t < Mil.mu st→MEC a b s t):=ih
 clear h L ih
 have hk:(((st.tok.kind:Nat):Int)==1)=false:=by have:=(Mil.sees_kind3 hy).1;simp;omega
 have HK3:Hid (st.tok.kind≠0):=by show _≠_;rw [(Mil.sees_kind3 hy).1];decide
 have HI:Hid (Mil.sees st (bs Mil.wMax).data.toList=true):=hy
 have N0:Hid (Mil.sees st (bs Mil.sOpen).data.toList=false):=Mil.sees_other hy (by decide)
 have N1:Hid (Mil.sees st (bs Mil.wFby).data.toList=false):=Mil.sees_other hy (by decide)
 have N2:Hid (Mil.sees st (bs Mil.wUnder).data.toList=false):=Mil.sees_other hy (by decide)
 have N3:Hid (Mil.sees st (bs Mil.wHold).data.toList=false):=Mil.sees_other hy (by decide)
 have N4:Hid (Mil.sees st (bs Mil.wMin).data.toList=false):=Mil.sees_other hy (by decide)
 clear hy
 go_enter Tryz.func167,Tryz.ntmps167
 go_wp2_with fail
 refine (atomHere_any b s st _ H.out).mono ?_
 rintro e w0 ⟨rfl,hw0⟩
 have HV:Hid (Hd a b s st w (w0.alloc (.cells #[.int .i64 (place s.size st)] 101)) (place s.size st) w0.heap.size):=head_facts HL.out hb H.out hw0
 clear hw0
 obtain ⟨p,tp,x,hp,hR,hr,hx,hn⟩:=HV.out.rd
 have c3:=hR.c3
 clear hR hr hx hn hp
 go_wp2_with fail
 clear c3
 generalize w0.heap.size=kv at HV ⊢
 generalize w0.alloc (.cells #[.int .i64 (place s.size st)] 101)=v at HV ⊢
 clear H HL w0
 have H:Hid (RdS v b s st):=HV.out.rd
 have HL:Hid (Laid a v):=HV.out.laid
 refine (takes_no b s st (bs Mil.sOpen) _ H.out N0.out).mono ?_
 rintro e w1 ⟨rfl,rfl⟩
 go_wp2_with fail
 refine (takes_no b s st (bs Mil.wFby) _ H.out N1.out).mono ?_
 rintro e w1 ⟨rfl,rfl⟩
 go_wp2_with fail
 refine (takes_no b s st (bs Mil.wUnder) _ H.out N2.out).mono ?_
 rintro e w1 ⟨rfl,rfl⟩
 go_wp2_with fail
 refine (takes_no b s st (bs Mil.wHold) _ H.out N3.out).mono ?_
 rintro e w1 ⟨rfl,rfl⟩
 go_wp2_with fail
 refine (takes_no b s st (bs Mil.wMin) _ H.out N4.out).mono ?_
 rintro e w1 ⟨rfl,rfl⟩
 go_wp2_with fail
 refine (takes_yes a b s st (bs Mil.wMax) _ HL.out hb H.out hs HI.out).mono ?_
 rintro e w1 ⟨hk1,(⟨s1,rfl,g1,r1⟩ | ⟨k,at_,hkk,d,rfl,hd,hno⟩)⟩
 ·have G1:Hid (Mil.adv st=some s1):=g1
  have M1:Hid (Mil.mu s1 < Mil.mu st):=Mil.adv_mu g1 HK3.out
  clear g1
  have cv:w1.cell? ⟨kv,0,none⟩=some (.int .i64 (place s.size st)):=hk1.held HV.out.cell HV.out.ne
  go_wp2_with fail
  clear cv
  rw [place_off]
  refine (extreme_any a b s hb hs Mil.wMax (Mip.off st) s1 (fun t ht=>IH.out t (Nat.lt_trans ht M1.out)) _ (HL.out.kept hk1 hb) r1).mono ?_
  rintro e w2 ⟨hk2,(⟨x,s2,ty,y,rfl,ea,g2,r2⟩ | ⟨k,at_,hkk,d,rfl,hd,hno⟩)⟩
  ·have EA:Hid _:=ea
   have G2:Hid _:=g2
   clear ea g2
   go_wp2
   go_ret
   exact ⟨HV.out.kp.trans (hk1.trans hk2),Or.inl ⟨x,s2,ty,y,rfl,EA.out,(Mip.atom_least (Or.inr rfl) HI.out _).2 ⟨s1,G1.out,G2.out⟩,r2⟩⟩
  ·have HNO:Hid _:=hno
   clear hno
   go_wp2
   exact ⟨rfl,HV.out.kp.trans (hk1.trans hk2),Or.inr ⟨k,at_,hkk,d,rfl,hd,Mil.bad_least (Or.inr rfl) HI.out (Or.inr ⟨_,G1.out,HNO.out⟩)⟩⟩
 ·go_wp2
  exact ⟨rfl,HV.out.kp.trans (hk1),Or.inr ⟨k,at_,hkk,d,rfl,hd,Mil.bad_least (Or.inr rfl) HI.out (Or.inl hno)⟩⟩
theorem atom_lit_any (a:Nat→Addr) (b:Nat) (s:ByteArray) (hb:23≤b) (hs:s.size≤4000) (st:Mil.St) (ih:∀t,Mil.mu t < Mil.mu st→MEC a b s t) (h1:st.tok.kind≠1) (n0:Mil.sees st Mil.sOpen=false) (n1:Mil.sees st Mil.wFby=false) (n2:Mil.sees st Mil.wUnder=false) (n3:Mil.sees st Mil.wHold=false) (n4:Mil.sees st Mil.wMin=false) (n5:Mil.sees st Mil.wMax=false):MAC a b s st:=by
 intro w L h
 have H:Hid (RdS w b s st):=h
 have HL:Hid (Laid a w):=L
 have IH:Hid (∀t,Mil.mu t < Mil.mu st→MEC a b s t):=ih
 clear h L ih
 have hk:(((st.tok.kind:Nat):Int)==1)=false:=by simp;omega
 have H1:Hid (st.tok.kind≠1):=h1
 have N0:Hid (Mil.sees st (bs Mil.sOpen).data.toList=false):=n0
 have N1:Hid (Mil.sees st (bs Mil.wFby).data.toList=false):=n1
 have N2:Hid (Mil.sees st (bs Mil.wUnder).data.toList=false):=n2
 have N3:Hid (Mil.sees st (bs Mil.wHold).data.toList=false):=n3
 have N4:Hid (Mil.sees st (bs Mil.wMin).data.toList=false):=n4
 have N5:Hid (Mil.sees st (bs Mil.wMax).data.toList=false):=n5
 clear h1 n0 n1 n2 n3 n4 n5
 go_enter Tryz.func167,Tryz.ntmps167
 go_wp2_with fail
 refine (atomHere_any b s st _ H.out).mono ?_
 rintro e w0 ⟨rfl,hw0⟩
 have HV:Hid (Hd a b s st w (w0.alloc (.cells #[.int .i64 (place s.size st)] 101)) (place s.size st) w0.heap.size):=head_facts HL.out hb H.out hw0
 clear hw0
 obtain ⟨p,tp,x,hp,hR,hr,hx,hn⟩:=HV.out.rd
 have c3:=hR.c3
 clear hR hr hx hn hp
 go_wp2_with fail
 clear c3
 generalize w0.heap.size=kv at HV ⊢
 generalize w0.alloc (.cells #[.int .i64 (place s.size st)] 101)=v at HV ⊢
 clear H HL w0
 have H:Hid (RdS v b s st):=HV.out.rd
 have HL:Hid (Laid a v):=HV.out.laid
 refine (takes_no b s st (bs Mil.sOpen) _ H.out N0.out).mono ?_
 rintro e w1 ⟨rfl,rfl⟩
 go_wp2_with fail
 refine (takes_no b s st (bs Mil.wFby) _ H.out N1.out).mono ?_
 rintro e w1 ⟨rfl,rfl⟩
 go_wp2_with fail
 refine (takes_no b s st (bs Mil.wUnder) _ H.out N2.out).mono ?_
 rintro e w1 ⟨rfl,rfl⟩
 go_wp2_with fail
 refine (takes_no b s st (bs Mil.wHold) _ H.out N3.out).mono ?_
 rintro e w1 ⟨rfl,rfl⟩
 go_wp2_with fail
 refine (takes_no b s st (bs Mil.wMin) _ H.out N4.out).mono ?_
 rintro e w1 ⟨rfl,rfl⟩
 go_wp2_with fail
 refine (takes_no b s st (bs Mil.wMax) _ H.out N5.out).mono ?_
 rintro e w1 ⟨rfl,rfl⟩
 go_wp2_with fail
 refine (literal_any a b s st _ HL.out hb H.out hs).mono ?_
 rintro e w2 ⟨hk2,(⟨x,s2,ty,y,rfl,ea,g2,r2⟩ | ⟨k,at_,hkk,d,rfl,hd,hno⟩)⟩
 ·have EA:Hid _:=ea
  have G2:Hid _:=g2
  clear ea g2
  go_wp2
  go_ret
  exact ⟨HV.out.kp.trans (hk2),Or.inl ⟨x,s2,ty,y,rfl,EA.out,(Mip.atom_lit H1.out N0.out N1.out N2.out N3.out N4.out N5.out _).2 G2.out,r2⟩⟩
 ·have HNO:Hid _:=hno
  clear hno
  go_wp2
  exact ⟨rfl,HV.out.kp.trans (hk2),Or.inr ⟨k,at_,hkk,d,rfl,hd,Mil.bad_lit H1.out N0.out N1.out N2.out N3.out N4.out N5.out HNO.out⟩⟩
theorem matom_any (a:Nat→Addr) (b:Nat) (s:ByteArray) (hb:23≤b) (hs:s.size≤4000) (st:Mil.St) (ih:∀t,Mil.mu t < Mil.mu st→MEC a b s t):MAC a b s st:=by
 by_cases h1:st.tok.kind=1
 ·exact atom_name_any a b s hb hs st ih h1
 by_cases n0:Mil.sees st Mil.sOpen=true
 ·exact atom_open_any a b s hb hs st ih n0
 by_cases n1:Mil.sees st Mil.wFby=true
 ·exact atom_fby_any a b s hb hs st ih n1
 by_cases n2:Mil.sees st Mil.wUnder=true
 ·exact atom_under_any a b s hb hs st ih n2
 by_cases n3:Mil.sees st Mil.wHold=true
 ·exact atom_hold_any a b s hb hs st ih n3
 by_cases n4:Mil.sees st Mil.wMin=true
 ·exact atom_min_any a b s hb hs st ih n4
 by_cases n5:Mil.sees st Mil.wMax=true
 ·exact atom_max_any a b s hb hs st ih n5
 exact atom_lit_any a b s hb hs st ih h1 (Bool.eq_false_iff.2 n0) (Bool.eq_false_iff.2 n1) (Bool.eq_false_iff.2 n2) (Bool.eq_false_iff.2 n3) (Bool.eq_false_iff.2 n4) (Bool.eq_false_iff.2 n5)
end
end Go.Proofs.YticbokabjhnagaaGreatDoor
