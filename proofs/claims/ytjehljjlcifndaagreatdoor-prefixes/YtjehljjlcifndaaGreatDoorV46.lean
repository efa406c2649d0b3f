import Derived.Test.YtjehljjlcifndaaGreatDoorV45
import Derived.Test.YtjehljjlcifndaaGreatDoorV43
import Derived.Test.YtjehljjlcifndaaGreatDoorV44
import Derived.Test.YtjehljjlcifndaaGreatDoorV36
namespace Go.Proofs.YtjehljjlcifndaaGreatDoor
set_option maxHeartbeats 32000000
set_option maxRecDepth 100000
section
open Go.RowKit
variable {b:Nat} {w:World}
theorem cp_ins2 {ls:List (List Int)} {v:Value} {us:List Value} (h:Cp ls b ls.length v us w) (h1:ls.length<=1000) (h2:∀l∈ls,l.length<=1000000):Ins w v ls us:=
 ⟨⟨b,h.row⟩,fun k l hk=>h.lst k l (by rw[List.take_length];exact hk),h1,h2⟩
theorem gv_len (F:List Flo) (L:Nat->List Int) (e:Nat):(gv F L e).length<=e:=by
 unfold gv
 exact Nat.le_trans (List.length_filterMap_le _ _) (by simp)
theorem gv_mem {F:List Flo} {L:Nat->List Int} {e:Nat} {x:List Int} (h:x∈gv F L e):∃j f,F[j]?=some f/\f.inp=true/\x=L j:=by
 unfold gv at h
 obtain⟨j,_,hj⟩:=List.mem_filterMap.1 h
 unfold Li at hj
 cases hf:F[j]? with
 | none=>rw[hf] at hj;cases hj
 | some f=>
  rw[hf] at hj
  dsimp only at hj
  cases hi:f.inp with
  | false=>rw[hi] at hj;cases hj
  | true=>
   rw[hi] at hj
   exact⟨j,f,hf,hi,(osi hj).symm⟩
theorem prefixed_any {al:Nat->Addr} {ρ:Mbi} {B0 N P off n c:Nat} {l:List Mip.It} (hA:Alp al w) (hi:Items l) (hP:Prg ρ B0 N l w P) (hn0:0 < n) (hn:n < 2 ^ 60) (hS:Scr w b off n) :
  Calls Tryz.prog 12 #[.pointer (some ⟨P,0,none⟩),.slice (some ⟨b,off,none⟩) n c] w fun E w'=>E=.returned (.bool true)/\Below w.heap.size w w':=by
 obtain⟨s0,hs0,sz0,sz1,sz2⟩:=info_parts Tryz.infoSl
 obtain⟨of,ot,cf,ct,g,U,r,hMw⟩:=mw_ex hi hP
 have HA:=hid hA
 have HP:Hid (Prg ρ B0 N l w P/\Items l):=⟨hP,hi⟩
 have HM:=hid hMw
 have HN:Hid (0 < n/\n < 2 ^ 60):=⟨hn0,hn⟩
 have HS:=hid hS
 have HK:=hid hMw.f60
 clear hA hi hP hn0 hn hS hMw
 go_enter Tryz.func12,Tryz.ntmps12
 go_wp2_with fail
 refine (zdm HM.out.blk ⟨g,rfl⟩ HM.out.f60 HM.out.u60).mono ?_
 rintro E w1 ⟨mb,lb,jb,rfl,hM1⟩
 have HM1:=hid hM1
 clear hM1
 go_wp2_with fail
 refine (pools_tk (tk:=40) (by decide) (HP.out.1.below HM1.out.be) HN.out.1 (HS.out.below HM1.out.be) HN.out.2 HM.out.tp.pos).mono ?_
 rintro e w2 ⟨hb2,vi,ls,us,rfl,hI,hfv,hfu,_,hpol⟩
 obtain⟨BI,hBI⟩:=hI.row
 obtain⟨oi,ci,rfl⟩:=zae hBI
 have HD2:Hid (My ρ N l U (fun b o=>False\/(w1.heap.size<=b/\w2.heap[b]?=some o)) w mb lb jb (.slice of (prd N l).length cf) (.slice ot U.length ct) (.slice (some ⟨g,0,none⟩) (prd N l).length (prd N l).length) 0 w2):=
  ⟨(fun _=>[],fun _=>[]),false,_,_,HM1.out.and hb2 (fun b o h=>h),Px.zero.2 trivial⟩
 obtain⟨D,hD⟩:∃D:Nat->Obj->Prop,D=(fun b o=>False\/(w1.heap.size<=b/\w2.heap[b]?=some o)):=⟨_,rfl⟩
 rw[<-hD] at HD2
 have HIK:Hid (∀w',(∀b o,D b o->w'.heap[b]?=some o)->Ins w' (.slice oi ls.length ci) ls us):=fun w' hk=>by
  have key:∀q,w1.heap.size<=q->(∃o,w2.heap[q]?=some o)->w'.heap[q]?=w2.heap[q]?:=fun q h1 ⟨o,ho⟩=>by
   rw[ho]
   exact hk q o (by rw[hD];exact Or.inr ⟨h1,ho⟩)
  refine hI.kept (fun q hq=>?_) (fun u hu q hq=>?_)
  ·obtain⟨_,cur,hc⟩:=zac hBI q hq
   exact key q (hfv q hq) ⟨_,hc⟩
  ·obtain⟨k,hk2⟩:=List.getElem?_of_mem hu
   have hkl:k < ls.length:=by
    have h1:=(lgs hk2).1
    have h2:=hBI.1
    simp at h2
    omega
   obtain⟨u',B',h3,h4⟩:=hI.lst k _ (List.getElem?_eq_getElem hkl)
   rw[hk2] at h3
   obtain rfl:=osi h3
   obtain⟨_,cur,hc⟩:=zac h4 q hq
   exact key q (hfu u hu q hq) ⟨_,hc⟩
 have HNI:=hid hpol.nin
 clear hb2 hI hfv hfu hpol hBI HM1 hD
 go_wp2_with fail
 go_loopg [7,8] n (fun gk s7 s8 wr=>∃i c:Nat,i<=n/\c<=40/\s7=.int .i64 (c:Nat)/\s8=.int .i64 (i:Nat)/\gk=n - i/\Hid (My ρ N l U D w mb lb jb (.slice of (prd N l).length cf) (.slice ot U.length ct) (.slice (some ⟨g,0,none⟩) (prd N l).length (prd N l).length) c wr))
 case atStart=>exact⟨0,0,Nat.zero_le _,Nat.zero_le _,rfl,rfl,rfl,HD2⟩
 case round=>
  obtain⟨i,c,hi,hc,rfl,rfl,hg,KM⟩:=hrel
  have HG:Hid (gk=n - i/\i<=n/\c<=40/\c<=1000):=⟨hg,hi,hc,by omega⟩
  clear hg hi hc HD2
  by_cases hlt:i < n
  ·have h60:(i:Int) < 1152921504606846976:=by have:=HN.out.2;omega
   obtain⟨q,x,y,z,sx,o1,n1,c1,o3,n3,c3,d0,d1,d2,d3,d4,d5,d6⟩:=(HS.out.below KM.out.be) i hlt
   have HLT:=hid hlt
   have H60:=hid h60
   have q0:(0:Int)<=(i:Int):=by omega
   have q1:(i:Int) < (n:Int):=by omega
   clear hlt d1 d3 d4 d5 d6
   by_cases hq8:q=8
   ·subst hq8
    by_cases h40:c < 40
    ·have HC4:=hid h40
     have c40:((c:Nat):Int) < 40:=by omega
     clear h40
     go_wp2_with fail
     clear d0 d2
     refine (due_any (HP.out.1.below KM.out.be) (HIK.out _ (fun b o hb=>KM.out.kp hb)) HNI.out HM.out.tp.pos HG.out.2.2.2).mono ?_
     rintro E w4 ⟨hb4,v4,rfl,hN4,hz4⟩
     obtain⟨o4,c4,e4⟩:=zae hN4
     subst e4
     have KM4:=hid (KM.out.below hb4)
     have HN4:Hid (Nl w4 wr.heap.size (.slice o4 (dvs (prd N l) ls c).length c4) (dvs (prd N l) ls c)/\(dvs (prd N l) ls c=[]->(.slice o4 (dvs (prd N l) ls c).length c4:Value)=.slice none 0 0)):=⟨hN4,hz4⟩
     clear hb4 hN4 hz4 KM
     go_wp2_with fail
     refine (ptick_free HA.out HM.out KM4.out HG.out.2.2.2 HN4.out.1 (Nat.le_trans (dvs_len c _ _) HK.out) HN4.out.2).mono ?_
     rintro E w5 ⟨k5,a5,rfl,⟨rfl,hM5⟩|⟨hk5,hM5⟩⟩
     ·have KM5:Hid (My ρ N l U D w mb lb jb (.slice of (prd N l).length cf) (.slice ot U.length ct) (.slice (some ⟨g,0,none⟩) (prd N l).length (prd N l).length) (c+1) (w5.alloc (.cells #[.int .i64 0,.int .i64 a5] 30))):=hM5.below (bl1 _ _)
      clear hM5 KM4 HN4
      go_wp2
      go_roundg (n - (i+1))
      case measure=>have:=HG.out;have:=HLT.out;omega
      case rel=>exact⟨i+1,c+1,HLT.out,HC4.out,by go_num,by go_num,rfl,KM5⟩
     ·have KM5:Hid (My ρ N l U D w mb lb jb (.slice of (prd N l).length cf) (.slice ot U.length ct) (.slice (some ⟨g,0,none⟩) (prd N l).length (prd N l).length) c (w5.alloc (.cells #[.int .i64 k5,.int .i64 a5] 30))):=hM5.below (bl1 _ _)
      have hk0:(k5=0)=False:=eq_false hk5
      have hk1:(k5==0)=false:=beq_eq_false_iff_ne.2 hk5
      have hk2:decide (k5=0)=false:=decide_eq_false hk5
      clear hM5 KM4 HN4 hk5
      go_wp2
      go_roundg (n - (i+1))
      case measure=>have:=HG.out;have:=HLT.out;omega
      case rel=>exact⟨i+1,c,HLT.out,HG.out.2.2.1,by go_num,by go_num,rfl,KM5⟩
    ·have c40:¬((c:Nat):Int) < 40:=by omega
     clear h40
     go_wp2
     go_roundg (n - (i+1))
     case measure=>have:=HG.out;have:=HLT.out;omega
     case rel=>exact⟨i+1,c,HLT.out,HG.out.2.2.1,by go_num,by go_num,rfl,KM⟩
   ·by_cases hq9:q=9
    ·subst hq9
     clear hq8
     go_wp2_with fail
     clear d0 d2
     refine (pick_free HM.out KM.out HG.out.2.2.2 y).mono ?_
     rintro E w4 ⟨⟨k4,rfl⟩,hM4⟩
     have KM4:=hid hM4
     clear hM4 KM
     go_wp2
     go_roundg (n - (i+1))
     case measure=>have:=HG.out;have:=HLT.out;omega
     case rel=>exact⟨i+1,c,HLT.out,HG.out.2.2.1,by go_num,by go_num,rfl,KM4⟩
    ·have hl8:(q==8)=false:=beq_eq_false_iff_ne.2 hq8
     have hl9:(q==9)=false:=beq_eq_false_iff_ne.2 hq9
     clear hq8 hq9
     go_wp2
     go_roundg (n - (i+1))
     case measure=>have:=HG.out;have:=HLT.out;omega
     case rel=>exact⟨i+1,c,HLT.out,HG.out.2.2.1,by go_num,by go_num,rfl,KM⟩
  ·have hle:(n:Int)<=(i:Int):=by omega
   obtain⟨s,ov,fn,jn,hMs,hXs⟩:=KM.out
   have KS:=hid hMs
   have KX:Hid (Px (dcl N l).2.m ρ (prd N l) (dcl N l).2.Q U.length (oU N l U) c s/\∀j,(s.1 j).length<=40):=⟨hXs,fun j=>Nat.le_trans (hXs.len HM.out.tp j) HG.out.2.2.1⟩
   clear hMs hXs hlt KM
   go_wp2_with fail
   refine (zeb (HP.out.1.below KS.out.be)).mono ?_
   rintro E W5 ⟨hb5,v5,rfl,hF5⟩
   obtain⟨o5,c5,e5⟩:=zae hF5
   subst e5
   have HB5:=hid (zaa KS.out.be hb5)
   have HS5:=hid (KS.out.below hb5)
   have HF5:=hid hF5
   clear hb5 hF5 KS
   go_wp2_with fail
   go_loopg [11,12] (prd N l).length (fun gk s11 s12 wy=>∃(e:Nat) (o:Option Addr) (cc:Nat) (us':List Value),s11=.slice o (gv (prd N l) s.1 e).length cc/\s12=.int .i64 (e:Nat)/\gk=(prd N l).length - e/\e<=(prd N l).length/\Hid (Below W5.heap.size W5 wy)/\Hid (Cp (gv (prd N l) s.1 e) W5.heap.size (gv (prd N l) s.1 e).length (.slice o (gv (prd N l) s.1 e).length cc) us' wy))
   case atStart=>exact⟨0,none,0,[],rfl,rfl,rfl,Nat.zero_le _,Below.refl _ _,⟨World.ownsRow_nil _ _ _ _,fun k l h=>by simp[gv] at h⟩⟩
   case round=>
    obtain⟨e,oo,co,us',rfl,rfl,hge,hel,LB,LC⟩:=hrel
    have HGE:Hid (gk=(prd N l).length - e/\e<=(prd N l).length):=⟨hge,hel⟩
    clear hge hel
    by_cases hlt:e < (prd N l).length
    ·obtain⟨f,hf⟩:∃f,(prd N l)[e]?=some f:=⟨_,List.getElem?_eq_getElem hlt⟩
     have HEL:Hid (e < (prd N l).length/\(prd N l)[e]?=some f/\(gv (prd N l) s.1 e).length<=60):=⟨hlt,hf,by have:=gv_len (prd N l) s.1 e;have:=HK.out;omega⟩
     obtain⟨g2,ho2⟩:∃g2,o5=some ⟨g2,0,none⟩:=by
      rcases HF5.out.2 with ⟨_,e⟩|⟨g2,cap,cur,e,_⟩
      ·omega
      ·injection e with e1;exact⟨g2,e1⟩
     subst ho2
     have y3:wr.cell? ⟨g2,e*5+3,none⟩=some (.bool f.inp):=by
      have h4:=zay HF5.out hf 3 (by decide) rfl
      exact (LB.out.cell (zab h4)).trans h4
     have j0:(0:Int)<=(e:Int):=by omega
     have j4:(e:Int) < ((prd N l).length:Int):=by omega
     have j60:((prd N l).length:Int)<=60:=by have:=HK.out;omega
     clear hlt hf
     cases hin:f.inp with
     | false=>
      rw[hin] at y3
      have HGV:Hid (gv (prd N l) s.1 (e+1)=gv (prd N l) s.1 e):=gv_no HEL.out.2.1 hin
      clear hin
      go_wp2
      go_roundg ((prd N l).length - (e+1))
      case measure=>have:=HGE.out;have:=HEL.out;omega
      case rel=>exact⟨e+1,oo,co,us',by rw[HGV.out],by go_num,rfl,HEL.out.1,LB,by rw[HGV.out];exact LC⟩
     | true=>
      rw[hin] at y3
      have HGV:Hid (gv (prd N l) s.1 (e+1)=gv (prd N l) s.1 e++[s.1 e]):=gv_yes HEL.out.2.1 hin
      clear hin
      go_wp2_with fail
      refine (log_all (HS5.out.below LB.out) HEL.out.1).mono ?_
      rintro E w6 ⟨hb6,v6,rfl,hN6⟩
      obtain⟨o6,c6,e6⟩:=zae hN6
      subst e6
      have HN6:=hid hN6
      have LB6:=hid (zaa LB.out hb6)
      have LC6:=hid (LC.out.below hb6)
      have HQL:Hid (Below W5.heap.size W5 (w6.alloc (.cells #[.slice o6 (s.1 e).length c6] 35))):=LB6.out.alloc LB6.out.size _
      have HCP:Hid (Cp (gv (prd N l) s.1 e) W5.heap.size (gv (prd N l) s.1 e).length (.slice oo (gv (prd N l) s.1 e).length co) us' (w6.alloc (.cells #[.slice o6 (s.1 e).length c6] 35))):=LC6.out.below (bl1 _ _)
      have HNL:Hid (Nl (w6.alloc (.cells #[.slice o6 (s.1 e).length c6] 35)) wr.heap.size (.slice o6 (s.1 e).length c6) (s.1 e)):=own_kept HN6.out (fun g hg=>Below.heap_alloc w6 _ g (lt_of_heap (zac HN6.out g hg).2.choose_spec))
      clear hb6 hN6 LB LC y3
      go_wp2_with (at_builtin;refine wpList_append_lies _ rfl _ _ 33 rfl W5.heap.size 35 s0 (.slice none 0 0) 1 24 Tryz.underlying33 hs0 sz0 sz1 sz2 rfl (by decide) (.slice oo (gv (prd N l) s.1 e).length co) (gv (prd N l) s.1 e).length us' rfl HCP.out.row ⟨w6.heap.size,0,none⟩ 1 1 [.slice o6 (s.1 e).length c6] rfl rfl (fun j u hu=>by
        cases j with
        | zero=>cases hu;rw[Addr.add_lit,Nat.zero_add];simp
        | succ j=>simp at hu) (by intro u hu;simp at hu;subst hu;rfl) (by decide) (by unfold maxLen;have:=HEL.out.2.2;omega) (by have:=HEL.out.2.2;omega) HQL.out.size _ rfl ?_;intro k8 c8 w8 O8 hg8 hat8 hlt8)
      have HC8:Hid (Cp (gv (prd N l) s.1 (e+1)) W5.heap.size (gv (prd N l) s.1 (e+1)).length (.slice (some ⟨k8,0,none⟩) ((gv (prd N l) s.1 e).length+1) c8) (us'++[.slice o6 (s.1 e).length c6]) w8):=by
       show Cp _ _ _ _ _ _
       rw[HGV.out]
       exact HCP.out.app hg8 O8 HNL.out
      have HB8:Hid (Below W5.heap.size W5 w8):=zak HQL.out HQL.out.size hg8 (fun k e=>(zac HCP.out.row k e).1)
      have HLE:Hid ((gv (prd N l) s.1 (e+1)).length=(gv (prd N l) s.1 e).length+1):=by show _=_;rw[HGV.out,List.length_append];rfl
      clear O8 hg8 hat8 hlt8
      go_roundg ((prd N l).length - (e+1))
      case measure=>have:=HGE.out;have:=HEL.out;omega
      case rel=>exact⟨e+1,some ⟨k8,0,none⟩,c8,_,by rw[HLE.out],by go_num,rfl,HEL.out.1,HB8,by
       have h:=HC8.out
       rw[HLE.out] at h ⊢
       exact h⟩
    ·have j4:¬(e:Int) < ((prd N l).length:Int):=by omega
     have HE:Hid (e=(prd N l).length):=by show _=_;have:=HGE.out.2;omega
     have HIG:Hid (Ins wr (.slice oo (gv (prd N l) s.1 e).length co) (gv (prd N l) s.1 (prd N l).length) us'):=by
      have h:=LC.out
      rw[HE.out] at h ⊢
      refine cp_ins2 h (by have:=gv_len (prd N l) s.1 (prd N l).length;have:=HK.out;omega) (fun x hx=>?_)
      obtain⟨j,f,_,_,rfl⟩:=gv_mem hx
      have:=KX.out.2 j
      omega
     have HBG:=hid (zaa HB5.out LB.out)
     have HSG:=hid (HS5.out.below LB.out)
     generalize (gv (prd N l) s.1 e).length=lg at HIG ⊢
     clear LC LB HS5 HB5 HGE HE
     obtain⟨W6,hW6⟩:∃W6,W6=wr:=⟨_,rfl⟩
     subst hW6
     go_wp2_with fail
     go_loopg [14] (prd N l).length (fun gk s14 wy=>∃e:Nat,e<=(prd N l).length/\s14=.int .i64 (e:Nat)/\gk=(prd N l).length - e/\Hid (Below W6.heap.size W6 wy))
     case atStart=>exact⟨0,Nat.zero_le _,rfl,rfl,Below.refl _ _⟩
     case round=>
      obtain⟨e2,he2,rfl,hge,MB⟩:=hrel
      have HGE:Hid (gk=(prd N l).length - e2/\e2<=(prd N l).length):=⟨hge,he2⟩
      clear hge he2
      by_cases hel:e2 < (prd N l).length
      ·have HEL:=hid hel
       have j5:(e2:Int) < ((prd N l).length:Int):=by omega
       clear hel
       go_wp2_with fail
       refine (log_all (HSG.out.below MB.out) HEL.out).mono ?_
       rintro E w7 ⟨hb7,v7,rfl,hN7⟩
       obtain⟨o7,c7,e7⟩:=zae hN7
       subst e7
       have MB7:=hid (zaa MB.out hb7)
       have HN7:Hid (∀w',Below w7.heap.size w7 w'->Nl w' wr.heap.size (.slice o7 (s.1 e2).length c7) (s.1 e2)):=fun w' k=>own_kept hN7 (fun g hg=>k.block g (lt_of_heap (zac hN7 g hg).2.choose_spec))
       have HL7:=hid (KX.out.2 e2)
       clear hb7 hN7 MB
       go_wp2_with fail
       go_loopg [16] (s.1 e2).length (fun gk s16 wz=>∃m:Nat,m<=(s.1 e2).length/\s16=.int .i64 (m:Nat)/\gk=(s.1 e2).length - m/\Hid (Below w7.heap.size w7 wz))
       case atStart=>exact⟨0,Nat.zero_le _,rfl,rfl,Below.refl _ _⟩
       case round=>
        obtain⟨m,hm,rfl,hgm,NB⟩:=hrel
        have HGM:Hid (gk=(s.1 e2).length - m/\m<=(s.1 e2).length):=⟨hgm,hm⟩
        clear hgm hm
        by_cases hml:m < (s.1 e2).length
        ·obtain⟨xv,hxv⟩:∃xv,(s.1 e2)[m]?=some xv:=⟨_,List.getElem?_eq_getElem hml⟩
         have HXV:Hid ((s.1 e2)[m]?=some xv/\m < (s.1 e2).length/\m<=400):=⟨hxv,hml,by have:=HL7.out;omega⟩
         obtain⟨g7,ho7⟩:∃g7,o7=some ⟨g7,0,none⟩:=by
          rcases (HN7.out _ NB.out).2 with ⟨_,e⟩|⟨g7,cap,cur,e,_⟩
          ·omega
          ·injection e with e1;exact⟨g7,e1⟩
         subst ho7
         have HBW:=hid (zaa MB7.out NB.out)
         have HNE:Hid (∀x∈gv (prd N l) s.1 (prd N l).length,x≠[]):=fun x hx=>by
          obtain⟨j,f,hf,hfi,rfl⟩:=gv_mem hx
          refine (KX.out.1.inp j f hf hfi).2.2 ?_
          have h1:=KX.out.1.len HM.out.tp e2
          have h2:=HXV.out.2.1
          omega
         have m0:(0:Int)<=(m:Int):=by omega
         have m1:(m:Int) < ((s.1 e2).length:Int):=by omega
         have m40:((s.1 e2).length:Int)<=40:=by have:=HL7.out;omega
         clear hml hxv
         go_wp2_with fail
         refine (zcw HP.out.2 ((HP.out.1.below HBG.out).below HBW.out) ((HA.out.below HBG.out).below HBW.out).e (HIG.out.below HBW.out) HNE.out HEL.out HXV.out.2.2).mono ?_
         rintro E w8 ⟨hb8,o,hmn,rfl⟩
         obtain rfl:=KX.out.1.mean HEL.out HXV.out.1 hmn
         have NB8:Hid (Below w7.heap.size w7 (w8.alloc (.cells #[.int .i64 0,.int .i64 0] 30))):=zaa (zaa NB.out hb8) (bl1 _ _)
         have cx:(w8.alloc (.cells #[.int .i64 0,.int .i64 0] 30)).cell? ⟨g7,m,none⟩=some (.int .i64 xv):=zbr (HN7.out _ NB8.out) HXV.out.1
         clear hb8 hmn NB
         unfold pv
         go_wp2
         go_roundg ((s.1 e2).length - (m+1))
         case measure=>have:=HGM.out;have:=HXV.out;omega
         case rel=>exact⟨m+1,HXV.out.2.1,by go_num,rfl,NB8⟩
        ·have m1:¬(m:Int) < ((s.1 e2).length:Int):=by omega
         have MB9:=hid (zaa MB7.out NB.out)
         have e60:((e2:Nat):Int)<=60:=by have:=HK.out;have:=HEL.out;omega
         go_wp2
         go_roundg ((prd N l).length - (e2+1))
         case measure=>have:=HGE.out;have:=HEL.out;omega
         case rel=>exact⟨e2+1,HEL.out,by go_num,rfl,MB9⟩
      ·have j5:¬(e2:Int) < ((prd N l).length:Int):=by omega
       have HBE:=hid (zaa HBG.out MB.out)
       go_wp2_with fail
       refine (clock_any (HSG.out.below MB.out)).mono ?_
       rintro E w9 ⟨rfl,rfl⟩
       go_wp2
       go_ret
       exact⟨rfl,HBE.out⟩
end
section
open Go.RowKit
variable {fv tv wv:Value}
def Mr (ρ:Mbi) (N:Nat) (l:List Mip.It) (U:List (Nat×Value)) (D:Nat->Obj->Prop) (wE:World) (mb lb jb:Nat) (fv tv wv:Value) (c:Nat) (A:Nat->List Int) (w:World):Prop:=
 ∃s fn jn,Mc D wE mb lb jb (prd N l).length U.length fv tv wv (c:Nat) false s.1 s.2 fn jn w/\Rq (dcl N l).2.m ρ (prd N l) (dcl N l).2.Q U.length c A s
def Mt (ρ:Mbi) (N:Nat) (l:List Mip.It) (U:List (Nat×Value)) (D:Nat->Obj->Prop) (wE:World) (mb lb jb:Nat) (fv tv wv:Value) (c:Nat) (A:Nat->List Int) (w:World):Prop:=
 ∃s fn jn,Mc D wE mb lb jb (prd N l).length U.length fv tv wv ((c+1:Nat):Int) false s.1 s.2 fn jn w/\Iq (dcl N l).2.m ρ (prd N l) (dcl N l).2.Q U.length (ptU U) (oU N l U) c A s
section
variable {ρ:Mbi} {B0 N P:Nat} {l:List Mip.It} {wE w:World} {of ot:Option Addr} {cf ct g:Nat} {U:List (Nat×Value)} {r:Nat->Nat} {D:Nat->Obj->Prop} {mb lb jb c:Nat} {A:Nat->List Int} {al:Nat->Addr}
theorem Mr.be (h:Mr ρ N l U D wE mb lb jb fv tv wv c A w):Below wE.heap.size wE w:=by
 obtain⟨s,fn,jn,h,_⟩:=h
 exact h.be
theorem Mr.below (h:Mr ρ N l U D wE mb lb jb fv tv wv c A w) {w':World} (k:Below w.heap.size w w'):Mr ρ N l U D wE mb lb jb fv tv wv c A w':=by
 obtain⟨s,fn,jn,h,h2⟩:=h
 exact⟨s,fn,jn,h.below k,h2⟩
theorem Mt.and (h:Mt ρ N l U D wE mb lb jb fv tv wv c A w) {w':World} (k:Below w.heap.size w w') {D':Nat->Obj->Prop} (hD:∀b o,D' b o->w.heap.size<=b/\w'.heap[b]?=some o):Mt ρ N l U (fun b o=>D b o\/D' b o) wE mb lb jb fv tv wv c A w':=by
 obtain⟨s,fn,jn,h,h2⟩:=h
 exact⟨s,fn,jn,h.and k hD,h2⟩
theorem Mr.sub {D2:Nat->Obj->Prop} (h:Mr ρ N l U D2 wE mb lb jb fv tv wv c A w) (hs:∀b o,D b o->D2 b o):Mr ρ N l U D wE mb lb jb fv tv wv c A w:=by
 obtain⟨s,fn,jn,h,h2⟩:=h
 exact⟨s,fn,jn,h.sub hs,h2⟩
theorem Mr.kp (h:Mr ρ N l U D wE mb lb jb fv tv wv c A w) {b:Nat} {o:Obj} (hb:D b o):w.heap[b]?=some o:=by
 obtain⟨s,fn,jn,h,h2⟩:=h
 exact (h.kp b o hb).1
theorem ptick_rest (hE:Errs al wE) (M:Mw ρ B0 N l wE P of ot cf ct g U r) (h:Mr ρ N l U D wE mb lb jb (.slice of (prd N l).length cf) (.slice ot U.length ct) (.slice (some ⟨g,0,none⟩) (prd N l).length (prd N l).length) c A w) (hc:c<=1000) {tk:Nat} (ht:c < tk) {ls:List (List Int)} (hp:Pol tk (prd N l) ls) {BX:Nat} {vx:Value} (hx:Nl w BX vx (dvs (prd N l) ls c)) (hx0:dvs (prd N l) ls c=[]->vx=.slice none 0 0) :
  Calls Tryz.prog 21 #[.pointer (some ⟨mb,0,none⟩),vx] w fun E w'=>∃a:Int,E=.returned (.agg #[.int .i64 0,.int .i64 a])/\Mt ρ N l U D wE mb lb jb (.slice of (prd N l).length cf) (.slice ot U.length ct) (.slice (some ⟨g,0,none⟩) (prd N l).length (prd N l).length) c (putL A ((duI (prd N l) c (prd N l).length).zip (dvs (prd N l) ls c))) w':=by
 obtain⟨s,fn,jn,hM,hR⟩:=h
 have hl:∀j,(s.1 j).length<=1900:=fun j=>Nat.le_trans (hR.len M.tp j) (by omega)
 refine (zcv hE M.pt hM (by omega) hl hx (Nat.le_trans (dvs_len c _ _) M.f60) hx0).mono ?_
 rintro E w' ⟨k,a,rfl,hk⟩
 obtain⟨rfl,s',fn',jn',hM',hI'⟩:=tkn_ok M.tp hR hl (fitT_ok ht M.tp.pos hp).1 hk
 exact⟨a,rfl,s',fn',jn',hM',hI'⟩
theorem drained_rest (M:Mw ρ B0 N l wE P of ot cf ct g U r) (h:Mt ρ N l U D wE mb lb jb (.slice of (prd N l).length cf) (.slice ot U.length ct) (.slice (some ⟨g,0,none⟩) (prd N l).length (prd N l).length) c A w) (hc:c<=1000) {K:Nat} (hK:K<=60) (hN:∀s,Iq (dcl N l).2.m ρ (prd N l) (dcl N l).2.Q U.length (ptU U) (oU N l U) c A s->jsum U.length s.2 < (K+1)*(U.length+1)) :
  Calls Tryz.prog 23 #[.pointer (some ⟨mb,0,none⟩),.int .i64 (U.length:Nat),.int .i64 (K:Nat)] w fun E w'=>E=.returned (.bool true)/\Mr ρ N l U D wE mb lb jb (.slice of (prd N l).length cf) (.slice ot U.length ct) (.slice (some ⟨g,0,none⟩) (prd N l).length (prd N l).length) (c+1) A w':=by
 obtain⟨s,fn,jn,hM,hI⟩:=h
 refine (drp_ok M.pm M.tp (by omega) hI M.u60 hK (hN s hI) hM).mono ?_
 rintro E w' ⟨rfl,s',fn',jn',hM',hR'⟩
 exact⟨rfl,s',fn',jn',hM',hR'⟩
end
end
section
open Go.RowKit
variable {c:Nat}
theorem prdA:prd 109 Mip.lsA=[⟨[120],0,2,true,false⟩,⟨[115],0,2,false,false⟩,⟨[117],0,4,false,false⟩,⟨[104],0,2,false,true⟩]:=by kernel_rfl
theorem polA:Pol 9 (prd 109 Mip.lsA) inA:=by
 rw[prdA]
 exact⟨[1,2,3,4,5],[],rfl,rfl,(fun e=>by cases e),rfl⟩
theorem zA_is (hc:c < 9):(duI (prd 109 Mip.lsA) c (prd 109 Mip.lsA).length).zip (dvs (prd 109 Mip.lsA) inA c)=if c % 2=0 then [(0,((c / 2+1:Nat):Int))] else []:=by
 rcases (by omega:c=0\/c=1\/c=2\/c=3\/c=4\/c=5\/c=6\/c=7\/c=8) with rfl|rfl|rfl|rfl|rfl|rfl|rfl|rfl|rfl <;> kernel_rfl
def inB (c:Nat):List Int:=([1,2,3,4,5]:List Int).take ((c+1) / 2)
theorem inB_step (hc:c < 9) {A:Nat->List Int} (hA:A 0=inB c):putL A ((duI (prd 109 Mip.lsA) c (prd 109 Mip.lsA).length).zip (dvs (prd 109 Mip.lsA) inA c)) 0=inB (c+1):=by
 rw[zA_is hc]
 rcases (by omega:c=0\/c=1\/c=2\/c=3\/c=4\/c=5\/c=6\/c=7\/c=8) with rfl|rfl|rfl|rfl|rfl|rfl|rfl|rfl|rfl <;> first|(rw[if_pos (by decide)];show lput A 0 _ 0=_;rw[zcy,hA];rfl)|(rw[if_neg (by decide)];show A 0=_;rw[hA];rfl)
theorem valsA {ρ:Mbi} (hr:Rall2 ρ) {L:Nat->List Int} (h0:L 0=[1,2,3,4,5]) (hB:Beg (dcl 109 Mip.lsA).2.m ρ (prd 109 Mip.lsA) (dcl 109 Mip.lsA).2.Q L) (hlen:(L 3).length=5):L 3=wantA:=by
 have hF:(dcl 109 Mip.lsA).2.F.length<=60:=by
  have e:(dcl 109 Mip.lsA).2.F.length=4:=by kernel_rfl
  omega
 have hQ:(dcl 109 Mip.lsA).2.Q.length<=60:=by
  have e:(dcl 109 Mip.lsA).2.Q.length=3:=by kernel_rfl
  omega
 obtain⟨r,C⟩:=cd_ex (items_of Mip.parsedA) okA hF hQ
 obtain⟨S,hS,hva⟩:=sol_ex C ρ (Lof arA)
 have hl4:(prd 109 Mip.lsA).length=4:=lenA
 have hgv:gv (prd 109 Mip.lsA) L (prd 109 Mip.lsA).length=inA:=by
  rw[prdA]
  show [L 0]=_
  rw[h0];rfl
 have hLi:Li (prd 109 Mip.lsA) L=Lof arA:=by
  have h1:=lay_all (F:=prd 109 Mip.lsA) (L:=L) (fun j f hf hi=>by
   have:f.ty=0:=by
    rw[prdA] at hf
    have hm:=List.mem_of_getElem? hf
    simp only[List.mem_cons,List.not_mem_nil,or_false] at hm
    rcases hm with rfl|rfl|rfl|rfl <;> rfl
   unfold fitL
   rw[this];rfl)
  rw[hgv,layA] at h1
  rw[osi h1,lof_li]
 apply List.ext_getElem?
 intro i
 rcases Nat.lt_or_ge i 5 with hi|hi
 ·obtain⟨x,hx⟩:∃x,(L 3)[i]?=some x:=⟨_,List.getElem?_eq_getElem (by omega)⟩
  have h1:=hB S (by rw[hLi];exact hS) 3 (by omega) i x hx
  have h2:=known_vals hr (by omega:i < 6) (show Mn ρ 109 Mip.lsA inA 3 i (S (3:Nat) (i:Nat)) from Or.inr ⟨arA,r,S,layA,C,hS,hva,rfl⟩)
  rw[hx,<-h2,h1]
 ·rw[List.getElem?_eq_none (by omega),List.getElem?_eq_none (by simpa [wantA] using hi)]
theorem e13 {al:Nat->Addr}:lastOf al (al 12) 13=13:=by simp[lastOf]
theorem unA {U:List (Nat×Value)} (up:(U.map Prod.fst).Pairwise (· < ·)) (all:∀p,p∈U.map Prod.fst↔∃q∈(dcl 109 Mip.lsA).2.Q,perAt (prd 109 Mip.lsA) q.flow=p):∃u0 u1,U=[(2,u0),(4,u1)]:=by
 have hU:U.map Prod.fst=[2,4]:=tasksA up all
 match U,hU with
 | [(a,x),(b,y)],hU=>
  simp at hU
  exact⟨x,y,by rw[hU.1,hU.2]⟩
theorem oA0 (u0 u1:Value):oU 109 Mip.lsA [(2,u0),(4,u1)] 0=[1,3]:=ordA.1
theorem oA1 (u0 u1:Value):oU 109 Mip.lsA [(2,u0),(4,u1)] 1=[2]:=ordA.2
theorem jsA {u0 u1:Value} {s:Lj} (h:Ivj (prd 109 Mip.lsA) 2 (ptU [(2,u0),(4,u1)]) (oU 109 Mip.lsA [(2,u0),(4,u1)]) c s):jsum 2 s.2 < (3+1)*(2+1):=by
 obtain⟨p0,e0,_⟩:=h.job 0 (by decide)
 obtain⟨p1,e1,_⟩:=h.job 1 (by decide)
 rw[oA0] at e0
 rw[oA1] at e1
 have h0:=congrArg List.length e0
 have h1:=congrArg List.length e1
 rw[List.length_append] at h0 h1
 simp only[List.length_cons,List.length_nil] at h0 h1
 rw[zcf,zcf]
 show 0+_+_ < _
 omega
theorem fit0:fitT (prd 109 Mip.lsA) (duI (prd 109 Mip.lsA) 0 (prd 109 Mip.lsA).length) [1]=true:=by kernel_rfl
theorem fit1:fitT (prd 109 Mip.lsA) (duI (prd 109 Mip.lsA) 1 (prd 109 Mip.lsA).length) []=true:=by kernel_rfl
theorem fit2:fitT (prd 109 Mip.lsA) (duI (prd 109 Mip.lsA) 2 (prd 109 Mip.lsA).length) [1]=true:=by kernel_rfl
section
variable {al:Nat->Addr} {D:Nat->Obj->Prop} {wE w:World} {mb lb jb:Nat} {fv tv wv u0 u1:Value} {O:Nat->List Nat} {L:Nat->List Int} {J:Nat->List Nat} {k:Int}
theorem tick0 (h:TkN al D (prd 109 Mip.lsA) [(2,u0),(4,u1)] O wE mb lb jb fv tv wv 0 false L (fun _=>[]) [1] k w):k=0/\∃L' J' fn jn,J' 0=O 0/\J' 1=O 1/\Mc D wE mb lb jb (prd 109 Mip.lsA).length 2 fv tv wv ((1:Nat):Int) false L' J' fn jn w/\∀j,(L' j).length<=(L j).length+1:=by
 obtain⟨fn,jn,⟨h1,_⟩|⟨_,h2,_⟩|⟨_,_,h3,_⟩|⟨_,_,h3,h4,h5⟩⟩:=h
 ·cases h1
 ·rw[fit0] at h2;cases h2
 ·cases h3
 ·refine⟨h4,_,_,fn,jn,?_,?_,h5,fun j=>?_⟩
  ·rw[zdl];rfl
  ·rw[zdl];rfl
  ·refine Nat.le_trans (putL_len j _ _) ?_
   have:((duI (prd 109 Mip.lsA) 0 (prd 109 Mip.lsA).length).zip ([1]:List Int)).length<=1:=by rw[List.length_zip];exact Nat.min_le_right _ _
   omega
theorem tick1 (h:TkN al D (prd 109 Mip.lsA) [(2,u0),(4,u1)] O wE mb lb jb fv tv wv 1 false L J [] k w):k=0/\∃L' J' fn jn,J' 0=J 0/\J' 1=J 1/\Mc D wE mb lb jb (prd 109 Mip.lsA).length 2 fv tv wv ((2:Nat):Int) false L' J' fn jn w/\∀j,(L' j).length<=(L j).length:=by
 obtain⟨fn,jn,⟨h1,_⟩|⟨_,h2,_⟩|⟨_,_,h3,_⟩|⟨_,_,h3,h4,h5⟩⟩:=h
 ·cases h1
 ·rw[fit1] at h2;cases h2
 ·cases h3
 ·refine⟨h4,_,_,fn,jn,?_,?_,h5,fun j=>?_⟩
  ·rfl
  ·rfl
  ·refine Nat.le_trans (putL_len j _ _) ?_
   rw[List.length_zip]
   simp
theorem tick2 (hJ:J 0≠[]) (h:TkN al D (prd 109 Mip.lsA) [(2,u0),(4,u1)] O wE mb lb jb fv tv wv 2 false L J [1] k w):k=13/\∃fn jn,Mc D wE mb lb jb (prd 109 Mip.lsA).length 2 fv tv wv ((2:Nat):Int) true L J fn jn w:=by
 obtain⟨fn,jn,⟨h1,_⟩|⟨_,h2,_⟩|⟨_,_,h3,h4,h5⟩|⟨_,_,h3,h4,h5⟩⟩:=h
 ·cases h1
 ·rw[fit2] at h2;cases h2
 ·exact⟨h4.trans e13,fn,jn,h5⟩
 ·exfalso
  have:(duT [(2,u0),(4,u1)] 2 [(2,u0),(4,u1)].length).any (fun t=>!(J t).isEmpty)=true:=by
   rw[List.any_eq_true]
   refine⟨0,duT_mem.2 ⟨Nat.zero_lt_succ _,by rw[zd0 (u:=(2,u0)) rfl];show 2 % 2=0;rfl⟩,?_⟩
   cases e:J 0 with
   | nil=>exact absurd e hJ
   | cons=>rfl
  rw[this] at h3;cases h3
end
end
end Go.Proofs.YtjehljjlcifndaaGreatDoor
