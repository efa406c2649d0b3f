import Derived.Test.YtjehljjlcifndaaGreatDoorX49
namespace Go.Proofs.YtjehljjlcifndaaGreatDoor
set_option maxHeartbeats 32000000
set_option maxRecDepth 100000
section
open Go.RowKit
theorem ground_any {ρ:Mil.Bytes->Int->Int->Int} (hr:Rall2 ρ) (al:Nat->Addr) (w:World) (h:Alp al w) :
  Calls Tryz.prog 11 #[] w fun e w'=>e=.returned (.bool true)/\Below w.heap.size w w':=by
 have H:Hid (Alp al w):=h
 have HRR:Hid (Rall2 ρ):=hr
 clear h hr
 go_enter Tryz.func11,Tryz.ntmps11
 go_wp2_with fail
 refine (tasked_is HRR.out al _ H.out).mono ?_
 rintro e w1 ⟨hb1,P,B0,rfl,hP⟩
 obtain⟨of,ot,cf,ct,g,U,r,hMw⟩:=mw_ex (items_of Mip.parsedA) hP
 obtain⟨ya,yb,hU⟩:=unA hMw.up hMw.all
 subst hU
 have HB1:Hid (Below w.heap.size w w1):=hb1
 have HP1:Hid (Prg ρ B0 109 Mip.lsA w1 P):=hP
 have HM:Hid (Mw ρ B0 109 Mip.lsA w1 P of ot cf ct g [(2,ya),(4,yb)] r):=hMw
 have HE1:Hid (Errs al w1):=(H.out.below hb1).e
 clear hb1 hP hMw
 go_wp2_with fail
 refine (machine_any HM.out.blk ⟨g,rfl⟩ HM.out.f60 HM.out.u60).mono ?_
 rintro E w2 ⟨mb,lb,jb,rfl,hM2⟩
 have HR2:Hid (Mr ρ 109 Mip.lsA [(2,ya),(4,yb)] (fun _ _=>False) w1 mb lb jb (.slice of (prd 109 Mip.lsA).length cf) (.slice ot [(2,ya),(4,yb)].length ct) (.slice (some ⟨g,0,none⟩) (prd 109 Mip.lsA).length (prd 109 Mip.lsA).length) 0 (fun _=>[]) w2):=⟨(fun _=>[],fun _=>[]),_,_,hM2,Rq.zero HM.out.tp⟩
 clear hM2
 go_wp2_with fail
 go_loopg [4] 9 (fun gk s4 wr=>∃c:Nat,c<=9/\s4=.int .i64 (c:Nat)/\gk=9 - c/\Hid (∃A,A 0=inB c/\Mr ρ 109 Mip.lsA [(2,ya),(4,yb)] (fun _ _=>False) w1 mb lb jb (.slice of (prd 109 Mip.lsA).length cf) (.slice ot [(2,ya),(4,yb)].length ct) (.slice (some ⟨g,0,none⟩) (prd 109 Mip.lsA).length (prd 109 Mip.lsA).length) c A wr))
 case atStart=>exact⟨0,Nat.zero_le _,rfl,rfl,fun _=>[],rfl,HR2.out⟩
 case round=>
  obtain⟨c,hc,rfl,hg,KM⟩:=hrel
  have HG:Hid (gk=9 - c/\c<=9):=⟨hg,hc⟩
  clear hg hc HR2
  obtain⟨A,hA0,hA⟩:=KM.out
  have HA0:Hid (A 0=inB c):=hA0
  have KA:Hid (Mr ρ 109 Mip.lsA [(2,ya),(4,yb)] (fun _ _=>False) w1 mb lb jb (.slice of (prd 109 Mip.lsA).length cf) (.slice ot [(2,ya),(4,yb)].length ct) (.slice (some ⟨g,0,none⟩) (prd 109 Mip.lsA).length (prd 109 Mip.lsA).length) c A wr):=hA
  clear hA KM hA0
  by_cases hlt:c < 9
  ·have HL:Hid (c < 9/\c<=1000):=⟨hlt,by omega⟩
   have c1:((c:Nat):Int) < 9:=by omega
   clear hlt
   go_wp2_with fail
   obtain⟨A1,hA1⟩:∃A1,A1=wr.alloc (.cells #[.int .i64 1,.int .i64 2,.int .i64 3,.int .i64 4,.int .i64 5] 2):=⟨_,rfl⟩
   obtain⟨A2,hA2⟩:∃A2,A2=A1.alloc (.cells #[.slice (some ⟨wr.heap.size,0,none⟩) 5 5] 35):=⟨_,rfl⟩
   have z1:A1.heap.size=wr.heap.size+1:=by rw[hA1];simp
   have b1:Below wr.heap.size wr A1:=by rw[hA1];exact bl1 _ _
   have b2:Below A1.heap.size A1 A2:=by rw[hA2];exact bl1 _ _
   have ha:A2.heap[wr.heap.size]?=some (.cells #[.int .i64 1,.int .i64 2,.int .i64 3,.int .i64 4,.int .i64 5] 2 (0,0)):=by
    rw[b2.block _ (by omega),hA1];exact han wr _
   have hb:A2.heap[wr.heap.size+1]?=some (.cells #[.slice (some ⟨wr.heap.size,0,none⟩) 5 5] 35 (0,0)):=by
    rw[hA2,<-z1];exact han A1 _
   have HI:Hid (Ins A2 (.slice (some ⟨wr.heap.size+1,0,none⟩) 1 1) inA [.slice (some ⟨wr.heap.size,0,none⟩) 5 5]):=insA ha hb
   have KA2:Hid (Mr ρ 109 Mip.lsA [(2,ya),(4,yb)] (fun _ _=>False) w1 mb lb jb (.slice of (prd 109 Mip.lsA).length cf) (.slice ot [(2,ya),(4,yb)].length ct) (.slice (some ⟨g,0,none⟩) (prd 109 Mip.lsA).length (prd 109 Mip.lsA).length) c A A2):=KA.out.below (below_step b1 b2)
   clear b1 b2 ha hb z1 KA
   rw[<-hA1,<-hA2]
   clear hA1 hA2
   generalize wr.heap.size=g1 at HI ⊢
   refine (due_any (HP1.out.below KA2.out.be) HI.out polA.nin HM.out.tp.pos HL.out.2).mono ?_
   rintro E w4 ⟨hb4,v4,rfl,hN4,hz4⟩
   obtain⟨o4,c4,e4⟩:=own_shape hN4
   subst e4
   have KA4:Hid (Mr ρ 109 Mip.lsA [(2,ya),(4,yb)] (fun _ _=>False) w1 mb lb jb (.slice of (prd 109 Mip.lsA).length cf) (.slice ot [(2,ya),(4,yb)].length ct) (.slice (some ⟨g,0,none⟩) (prd 109 Mip.lsA).length (prd 109 Mip.lsA).length) c A w4):=KA2.out.below hb4
   have HN4:Hid (Nl w4 A2.heap.size (.slice o4 (dvs (prd 109 Mip.lsA) inA c).length c4) (dvs (prd 109 Mip.lsA) inA c)/\(dvs (prd 109 Mip.lsA) inA c=[]->(.slice o4 (dvs (prd 109 Mip.lsA) inA c).length c4:Value)=.slice none 0 0)):=⟨hN4,hz4⟩
   clear hb4 hN4 hz4 KA2 HI
   go_wp2_with fail
   refine (ptick_rest HE1.out HM.out KA4.out HL.out.2 HL.out.1 polA HN4.out.1 HN4.out.2).mono ?_
   rintro E w5 ⟨a5,rfl,hM5⟩
   have HA5:=inB_step HL.out.1 HA0.out
   generalize putL A ((duI (prd 109 Mip.lsA) c (prd 109 Mip.lsA).length).zip (dvs (prd 109 Mip.lsA) inA c))=A5 at hM5 HA5
   have HA5':Hid (A5 0=inB (c+1)):=HA5
   have KM5:Hid (Mt ρ 109 Mip.lsA [(2,ya),(4,yb)] (fun b o=>False\/(b=w5.heap.size/\o=.cells #[.int .i64 0,.int .i64 a5] 30 (0,0))) w1 mb lb jb (.slice of (prd 109 Mip.lsA).length cf) (.slice ot [(2,ya),(4,yb)].length ct) (.slice (some ⟨g,0,none⟩) (prd 109 Mip.lsA).length (prd 109 Mip.lsA).length) c A5 (w5.alloc (.cells #[.int .i64 0,.int .i64 a5] 30))):=
    hM5.and (brf.alloc nlr _) (fun b o h=>by
     obtain⟨rfl,rfl⟩:=h
     exact⟨Nat.le_refl _,han w5 _⟩)
   clear hM5 KA4 HN4 HA5
   go_wp2_with fail
   generalize w5.alloc (.cells #[.int .i64 0,.int .i64 a5] 30)=V5 at KM5 ⊢
   generalize w5.heap.size=g5 at KM5 ⊢
   refine (drained_rest (K:=3) HM.out KM5.out HL.out.2 (by decide) (fun s hs=>jsA hs.iv)).mono ?_
   rintro E w6 ⟨rfl,hM6⟩
   have k6:=hM6.kp (b:=g5) (Or.inr ⟨rfl,rfl⟩)
   have c6:w6.cell? ⟨g5,0,none⟩=some (.int .i64 0):=(cor _ g5 0 _ _ _ k6).trans rfl
   have KM6:Hid (∃A,A 0=inB (c+1)/\Mr ρ 109 Mip.lsA [(2,ya),(4,yb)] (fun _ _=>False) w1 mb lb jb (.slice of (prd 109 Mip.lsA).length cf) (.slice ot [(2,ya),(4,yb)].length ct) (.slice (some ⟨g,0,none⟩) (prd 109 Mip.lsA).length (prd 109 Mip.lsA).length) (c+1) A w6):=⟨_,HA5'.out,hM6.sub (fun b o h=>Or.inl h)⟩
   clear hM6 KM5 k6
   go_wp2
   go_roundg (9 - (c+1))
   case measure=>have:=HG.out;have:=HL.out;omega
   case rel=>exact⟨c+1,HL.out.1,by go_num,rfl,KM6⟩
  ·have c1:¬((c:Nat):Int) < 9:=by omega
   have HE:Hid (c=9):=by show _=_;have:=HG.out.2;omega
   obtain⟨s,fn,jn,hMs,hRs⟩:=KA.out
   have KS:Hid (Mc (fun _ _=>False) w1 mb lb jb (prd 109 Mip.lsA).length [(2,ya),(4,yb)].length (.slice of (prd 109 Mip.lsA).length cf) (.slice ot [(2,ya),(4,yb)].length ct) (.slice (some ⟨g,0,none⟩) (prd 109 Mip.lsA).length (prd 109 Mip.lsA).length) (c:Nat) false s.1 s.2 fn jn wr):=hMs
   have h3:s.1 3=wantA:=by
    have hc9:=HE.out
    subst hc9
    refine valsA HRR.out ?_ hRs.be ?_
    ·rw[hRs.inp 0 ⟨[120],0,2,true,false⟩ (by rw[prdA];rfl) rfl,HA0.out];rfl
    ·exact hRs.rs.log 3 ⟨[104],0,2,false,true⟩ (by rw[prdA];rfl)
   have HLG:Hid (Calls Tryz.prog 24 #[.pointer (some ⟨mb,0,none⟩),.int .i64 3] wr fun E w'=>Below wr.heap.size wr w'/\∃v,E=.returned v/\Nl w' wr.heap.size v wantA):=by
    have h5:=log_any KS.out (j:=3) (by have:=lenA;unfold fA at this;omega) (by rw[h3];decide)
    rw[h3] at h5
    exact h5
   have HBW:Hid (Below w1.heap.size w1 wr):=KS.out.be
   clear hMs hRs KA KS HA0 HG h3 HE
   go_wp2_with fail
   refine HLG.out.mono ?_
   rintro E w4 ⟨hb4,v4,rfl,hN4⟩
   have HB4:Hid (Below w1.heap.size w1 w4):=below_step HBW.out hb4
   obtain⟨g4,c4,rfl⟩:∃g4 c4,v4=.slice (some ⟨g4,0,none⟩) 5 c4:=by
    rcases hN4.2 with ⟨_,e⟩|⟨g4,cap,cur,e,_⟩
    ·cases e
    ·exact⟨g4,cap,e⟩
   have HN4:Hid (Nl w4 wr.heap.size (.slice (some ⟨g4,0,none⟩) 5 c4) wantA):=hN4
   clear hb4 hN4 HLG HBW
   go_wp2_with fail
   have HW5:Hid (Below w4.heap.size w4 (w4.alloc (.cells #[.int .i64 8,.int .i64 10,.int .i64 7,.int .i64 11,.int .i64 21] 2))):=bl1 _ _
   have HN5:Hid (∀i x,wantA[i]?=some x->(w4.alloc (.cells #[.int .i64 8,.int .i64 10,.int .i64 7,.int .i64 11,.int .i64 21] 2)).cell? ⟨g4,i,none⟩=some (.int .i64 x)):=fun i x hx=>by
    have e:=nl_cell HN4.out hx
    exact (HW5.out.cell (lt_of_cell e)).trans e
   have HN6:Hid (∀i x,wantA[i]?=some x->(w4.alloc (.cells #[.int .i64 8,.int .i64 10,.int .i64 7,.int .i64 11,.int .i64 21] 2)).cell? ⟨w4.heap.size,i,none⟩=some (.int .i64 x)):=fun i x hx=>by
    refine (cor _ _ i _ _ _ (han w4 _)).trans ?_
    rcases (by have:=(lgs hx).1;simp[wantA] at this;omega:i=0\/i=1\/i=2\/i=3\/i=4) with rfl|rfl|rfl|rfl|rfl <;> (cases hx;rfl)
   have HB5:Hid (Below w1.heap.size w1 (w4.alloc (.cells #[.int .i64 8,.int .i64 10,.int .i64 7,.int .i64 11,.int .i64 21] 2))):=below_step HB4.out HW5.out
   generalize w4.alloc (.cells #[.int .i64 8,.int .i64 10,.int .i64 7,.int .i64 11,.int .i64 21] 2)=W5 at HN5 HN6 HB5 ⊢
   clear HW5 HN4 HB4
   generalize w4.heap.size=g6 at HN6 ⊢
   go_loopg [9] 5 (fun gk s9 wy=>∃n:Nat,n<=5/\s9=.int .i64 n/\gk=5 - n/\Hid (Below W5.heap.size W5 wy))
   case atStart=>exact⟨0,Nat.zero_le _,rfl,rfl,Below.refl _ _⟩
   case round=>
    obtain⟨n,hn,rfl,hg,NB⟩:=hrel
    have HG:Hid (gk=5 - n/\n<=5):=⟨hg,hn⟩
    clear hg hn
    by_cases hlt:n < 5
    ·have HLT:Hid (n < 5):=hlt
     obtain⟨x,hx⟩:∃x,wantA[n]?=some x:=⟨_,List.getElem?_eq_getElem (by simpa [wantA] using hlt)⟩
     have y1:=(NB.out.cell (lt_of_cell (HN5.out n x hx))).trans (HN5.out n x hx)
     have y2:=(NB.out.cell (lt_of_cell (HN6.out n x hx))).trans (HN6.out n x hx)
     have n5:(n:Int) < 5:=by omega
     have n0:(0:Int)<=(n:Int):=by omega
     clear hlt hx
     go_wp2_with fail
     go_quiet (fail)
     have NBq:Hid (Below W5.heap.size W5 (wr.drewN nq)):=below_drewN NB.out _
     go_wp2
     go_roundg (5 - (n+1))
     case measure=>have:=HG.out;have:=HLT.out;omega
     case rel=>exact⟨n+1,HLT.out,by go_num,rfl,NBq⟩
    ·have n5:¬(n:Int) < 5:=by omega
     have HB5r:Hid (Below w1.heap.size w1 wr):=below_step HB5.out NB.out
     have HEW:Hid (Errs al wr):=HE1.out.below HB5r.out
     obtain⟨of2,ot2,cf2,ct2,g2,U2,r2,hMw2⟩:=mw_ex (items_of Mip.parsedA) (HP1.out.below HB5r.out)
     obtain⟨yc,yd,hU2⟩:=unA hMw2.up hMw2.all
     subst hU2
     have HM2:Hid (Mw ρ B0 109 Mip.lsA wr P of2 ot2 cf2 ct2 g2 [(2,yc),(4,yd)] r2):=hMw2
     have HB6:Hid (Below w.heap.size w wr):=below_step HB1.out HB5r.out
     clear HG hlt HN5 HN6 hMw2 HM HP1 HE1 HB5 HB5r HB1 NB
     go_wp2_with fail
     refine (machine_any HM2.out.blk ⟨g2,rfl⟩ HM2.out.f60 HM2.out.u60).mono ?_
     rintro E w6 ⟨mb2,lb2,jb2,rfl,hM6⟩
     go_wp2_with fail
     have HM7:Hid (Mc (fun _ _=>False) wr mb2 lb2 jb2 (prd 109 Mip.lsA).length 2 (.slice of2 (prd 109 Mip.lsA).length cf2) (.slice ot2 [(2,yc),(4,yd)].length ct2) (.slice (some ⟨g2,0,none⟩) (prd 109 Mip.lsA).length (prd 109 Mip.lsA).length) ((0:Nat):Int) false (fun _=>[]) (fun _=>[]) (fun _=>.slice none 0 0) (fun _=>.slice none 0 0) (w6.alloc (.cells #[.int .i64 1] 2))):=hM6.below (bl1 _ _)
     have HN7:Hid (Nl (w6.alloc (.cells #[.int .i64 1] 2)) 0 (.slice (some ⟨w6.heap.size,0,none⟩) 1 1) [1]):=own_lit0 (n:=1) (han w6 _) rfl (by unfold maxLen;omega)
     clear hM6
     generalize w6.alloc (.cells #[.int .i64 1] 2)=V7 at HM7 HN7 ⊢
     generalize w6.heap.size=g7 at HN7 ⊢
     refine (ptick_any HEW.out HM2.out.pt HM7.out (by decide) (fun _=>Nat.zero_le _) HN7.out (by decide) (fun e=>by cases e)).mono ?_
     rintro E w8 ⟨k8,a8,rfl,hk8⟩
     obtain⟨rfl,L8,J8,fn8,jn8,hJ80,hJ81,hM8,hL8⟩:=tick0 hk8
     have HJ8:Hid (J8 0=[1,3]):=hJ80.trans (oA0 yc yd)
     have HL8:Hid (∀j,(L8 j).length<=1):=fun j=>hL8 j
     go_wp2_with fail
     have HM8:Hid (Mc (fun b o=>False\/(b=w8.heap.size/\o=.cells #[.int .i64 0,.int .i64 a8] 30 (0,0))) wr mb2 lb2 jb2 (prd 109 Mip.lsA).length 2 (.slice of2 (prd 109 Mip.lsA).length cf2) (.slice ot2 [(2,yc),(4,yd)].length ct2) (.slice (some ⟨g2,0,none⟩) (prd 109 Mip.lsA).length (prd 109 Mip.lsA).length) ((1:Nat):Int) false L8 J8 fn8 jn8 (w8.alloc (.cells #[.int .i64 0,.int .i64 a8] 30))):=hM8.and (bl1 _ _) (fun b o h=>by
      obtain⟨rfl,rfl⟩:=h
      exact⟨Nat.le_refl _,han w8 _⟩)
     clear hk8 hJ80 hJ81 hM8 hL8 HM7 HN7
     generalize w8.alloc (.cells #[.int .i64 0,.int .i64 a8] 30)=V8 at HM8 ⊢
     generalize w8.heap.size=g8 at HM8 ⊢
     have HN8:Hid (Nl V8 0 (.slice none 0 0) []):=World.ownsRow_nil _ 0 _ _
     refine (ptick_any (xs:=[]) HEW.out HM2.out.pt HM8.out (by decide) (fun j=>Nat.le_trans (HL8.out j) (by decide)) HN8.out (by decide) (fun _=>rfl)).mono ?_
     rintro E w9 ⟨k9,a9,rfl,hk9⟩
     obtain⟨rfl,L9,J9,fn9,jn9,hJ90,hJ91,hM9,hL9⟩:=tick1 hk9
     have HJ9:Hid (J9 0≠[]):=by
      show _≠_
      rw[hJ90,HJ8.out];decide
     have HL9:Hid (∀j,(L9 j).length<=1):=fun j=>Nat.le_trans (hL9 j) (HL8.out j)
     go_wp2_with fail
     have HM9:Hid (Mc (fun b o=>(False\/(b=g8/\o=.cells #[.int .i64 0,.int .i64 a8] 30 (0,0)))\/(b=w9.heap.size/\o=.cells #[.int .i64 0,.int .i64 a9] 30 (0,0))) wr mb2 lb2 jb2 (prd 109 Mip.lsA).length 2 (.slice of2 (prd 109 Mip.lsA).length cf2) (.slice ot2 [(2,yc),(4,yd)].length ct2) (.slice (some ⟨g2,0,none⟩) (prd 109 Mip.lsA).length (prd 109 Mip.lsA).length) ((2:Nat):Int) false L9 J9 fn9 jn9 (w9.alloc (.cells #[.int .i64 0,.int .i64 a9] 30))):=hM9.and (bl1 _ _) (fun b o h=>by
      obtain⟨rfl,rfl⟩:=h
      exact⟨Nat.le_refl _,han w9 _⟩)
     clear hk9 hJ90 hJ91 hM9 hL9 HM8 HL8 HJ8
     have hz9:=World.size_alloc w9 (.cells #[.int .i64 0,.int .i64 a9] 30)
     generalize w9.alloc (.cells #[.int .i64 0,.int .i64 a9] 30)=V9 at HM9 hz9 ⊢
     generalize w9.heap.size=g9 at HM9 hz9 ⊢
     have HMa:Hid (Mc (fun b o=>(False\/(b=g8/\o=.cells #[.int .i64 0,.int .i64 a8] 30 (0,0)))\/(b=g9/\o=.cells #[.int .i64 0,.int .i64 a9] 30 (0,0))) wr mb2 lb2 jb2 (prd 109 Mip.lsA).length 2 (.slice of2 (prd 109 Mip.lsA).length cf2) (.slice ot2 [(2,yc),(4,yd)].length ct2) (.slice (some ⟨g2,0,none⟩) (prd 109 Mip.lsA).length (prd 109 Mip.lsA).length) ((2:Nat):Int) false L9 J9 fn9 jn9 (V9.alloc (.cells #[.int .i64 1] 2))):=HM9.out.below (bl1 _ _)
     have HNa:Hid (Nl (V9.alloc (.cells #[.int .i64 1] 2)) 0 (.slice (some ⟨g9+1,0,none⟩) 1 1) [1]):=by
      rw[<-hz9]
      exact own_lit0 (n:=1) (han V9 _) rfl (by unfold maxLen;omega)
     clear HM9 hz9
     generalize V9.alloc (.cells #[.int .i64 1] 2)=Va at HMa HNa ⊢
     refine (ptick_any (c:=2) (xs:=[1]) (BX:=0) HEW.out HM2.out.pt HMa.out (show 2<=1000000 by omega) (fun j=>Nat.le_trans (HL9.out j) (by decide)) HNa.out (by decide) (fun e=>by cases e)).mono ?_
     rintro E wb ⟨kb,ab,rfl,hkb⟩
     obtain⟨rfl,fnb,jnb,hMb⟩:=tick2 HJ9.out hkb
     go_wp2_with fail
     have HMb:Hid (Mc (fun b o=>((False\/(b=g8/\o=.cells #[.int .i64 0,.int .i64 a8] 30 (0,0)))\/(b=g9/\o=.cells #[.int .i64 0,.int .i64 a9] 30 (0,0)))\/(b=wb.heap.size/\o=.cells #[.int .i64 13,.int .i64 ab] 30 (0,0))) wr mb2 lb2 jb2 (prd 109 Mip.lsA).length 2 (.slice of2 (prd 109 Mip.lsA).length cf2) (.slice ot2 [(2,yc),(4,yd)].length ct2) (.slice (some ⟨g2,0,none⟩) (prd 109 Mip.lsA).length (prd 109 Mip.lsA).length) ((2:Nat):Int) true L9 J9 fnb jnb (wb.alloc (.cells #[.int .i64 13,.int .i64 ab] 30))):=hMb.and (bl1 _ _) (fun b o h=>by
      obtain⟨rfl,rfl⟩:=h
      exact⟨Nat.le_refl _,han wb _⟩)
     clear hkb hMb HMa HNa HJ9 HL9
     generalize wb.alloc (.cells #[.int .i64 13,.int .i64 ab] 30)=Vb at HMb ⊢
     generalize wb.heap.size=gb at HMb ⊢
     refine (overrun_any HMb.out).mono ?_
     rintro E wc ⟨rfl,rfl⟩
     have q8:Vb.cell? ⟨g8,0,none⟩=some (.int .i64 0):=(cor _ g8 0 _ _ _ (HMb.out.kp g8 _ (Or.inl (Or.inl (Or.inr ⟨rfl,rfl⟩)))).1).trans rfl
     have q9:Vb.cell? ⟨g9,0,none⟩=some (.int .i64 0):=(cor _ g9 0 _ _ _ (HMb.out.kp g9 _ (Or.inl (Or.inr ⟨rfl,rfl⟩))).1).trans rfl
     have qb:Vb.cell? ⟨gb,0,none⟩=some (.int .i64 13):=(cor _ gb 0 _ _ _ (HMb.out.kp gb _ (Or.inr ⟨rfl,rfl⟩)).1).trans rfl
     have HBF:Hid (Below w.heap.size w Vb):=below_step HB6.out HMb.out.be
     clear HMb
     go_wp2_with fail
     all_goals go_ret
     all_goals exact⟨rfl,HBF.out⟩
end
end Go.Proofs.YtjehljjlcifndaaGreatDoor
