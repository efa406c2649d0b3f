import Derived.Test.YtjehljjlcifndaaGreatDoorX48
import Derived.Test.YtjehljjlcifndaaGreatDoorX40
namespace Go.Proofs.YtjehljjlcifndaaGreatDoor
set_option maxHeartbeats 32000000
set_option maxRecDepth 100000
section
open Go.RowKit
def QtP (w:World) (E:Ending) (w':World):Prop:=Below w.heap.size w w'/\∃v,E=.returned (.tuple #[v,.bool true])
def Mr (ρ:Mil.Bytes->Int->Int->Int) (N:Nat) (l:List Mip.It) (U:List (Nat×Value)) (D:Nat->Obj->Prop) (wE:World) (mb lb jb:Nat) (fv tv wv:Value) (c:Nat) (A:Nat->List Int) (w:World):Prop:=
 ∃s fn jn,Mc D wE mb lb jb (prd N l).length U.length fv tv wv (c:Nat) false s.1 s.2 fn jn w/\Rq (dcl N l).2.m ρ (prd N l) (dcl N l).2.Q U.length c A s
def Mt (ρ:Mil.Bytes->Int->Int->Int) (N:Nat) (l:List Mip.It) (U:List (Nat×Value)) (D:Nat->Obj->Prop) (wE:World) (mb lb jb:Nat) (fv tv wv:Value) (c:Nat) (A:Nat->List Int) (w:World):Prop:=
 ∃s fn jn,Mc D wE mb lb jb (prd N l).length U.length fv tv wv ((c+1:Nat):Int) false s.1 s.2 fn jn w/\Iq (dcl N l).2.m ρ (prd N l) (dcl N l).2.Q U.length (ptU U) (oU N l U) c A s
section
variable {ρ:Mil.Bytes->Int->Int->Int} {B0 N P:Nat} {l:List Mip.It} {wE w:World} {of ot:Option Addr} {cf ct g:Nat} {U:List (Nat×Value)} {r:Nat->Nat} {D:Nat->Obj->Prop} {mb lb jb c:Nat} {A:Nat->List Int} {al:Nat->Addr}
theorem Mr.be {fv tv wv:Value} (h:Mr ρ N l U D wE mb lb jb fv tv wv c A w):Below wE.heap.size wE w:=by
 obtain⟨s,fn,jn,h,_⟩:=h
 exact h.be
theorem Mr.below {fv tv wv:Value} (h:Mr ρ N l U D wE mb lb jb fv tv wv c A w) {w':World} (k:Below w.heap.size w w'):Mr ρ N l U D wE mb lb jb fv tv wv c A w':=by
 obtain⟨s,fn,jn,h,h2⟩:=h
 exact⟨s,fn,jn,h.below k,h2⟩
theorem Mt.and {fv tv wv:Value} (h:Mt ρ N l U D wE mb lb jb fv tv wv c A w) {w':World} (k:Below w.heap.size w w') {D':Nat->Obj->Prop} (hD:∀b o,D' b o->w.heap.size<=b/\w'.heap[b]?=some o):Mt ρ N l U (fun b o=>D b o\/D' b o) wE mb lb jb fv tv wv c A w':=by
 obtain⟨s,fn,jn,h,h2⟩:=h
 exact⟨s,fn,jn,h.and k hD,h2⟩
theorem Mr.sub {fv tv wv:Value} {D2:Nat->Obj->Prop} (h:Mr ρ N l U D2 wE mb lb jb fv tv wv c A w) (hs:∀b o,D b o->D2 b o):Mr ρ N l U D wE mb lb jb fv tv wv c A w:=by
 obtain⟨s,fn,jn,h,h2⟩:=h
 exact⟨s,fn,jn,h.sub hs,h2⟩
theorem Mr.kp {fv tv wv:Value} (h:Mr ρ N l U D wE mb lb jb fv tv wv c A w) {b:Nat} {o:Obj} (hb:D b o):w.heap[b]?=some o:=by
 obtain⟨s,fn,jn,h,h2⟩:=h
 exact (h.kp b o hb).1
theorem ptick_rest (hE:Errs al wE) (M:Mw ρ B0 N l wE P of ot cf ct g U r) (h:Mr ρ N l U D wE mb lb jb (.slice of (prd N l).length cf) (.slice ot U.length ct) (.slice (some ⟨g,0,none⟩) (prd N l).length (prd N l).length) c A w) (hc:c<=1000) {tk:Nat} (ht:c < tk) {ls:List (List Int)} (hp:Pol tk (prd N l) ls) {BX:Nat} {vx:Value} (hx:Nl w BX vx (dvs (prd N l) ls c)) (hx0:dvs (prd N l) ls c=[]->vx=.slice none 0 0) :
  Calls Tryz.prog 21 #[.pointer (some ⟨mb,0,none⟩),vx] w fun E w'=>∃a:Int,E=.returned (.agg #[.int .i64 0,.int .i64 a])/\Mt ρ N l U D wE mb lb jb (.slice of (prd N l).length cf) (.slice ot U.length ct) (.slice (some ⟨g,0,none⟩) (prd N l).length (prd N l).length) c (putL A ((duI (prd N l) c (prd N l).length).zip (dvs (prd N l) ls c))) w':=by
 obtain⟨s,fn,jn,hM,hR⟩:=h
 have hl:∀j,(s.1 j).length<=1900:=fun j=>Nat.le_trans (hR.len M.tp j) (by omega)
 refine (ptick_any hE M.pt hM (by omega) hl hx (Nat.le_trans (dvs_len c _ _) M.f60) hx0).mono ?_
 rintro E w' ⟨k,a,rfl,hk⟩
 obtain⟨rfl,s',fn',jn',hM',hI'⟩:=tkn_ok M.tp hR hl (fitT_ok ht M.tp.pos hp).1 hk
 exact⟨a,rfl,s',fn',jn',hM',hI'⟩
theorem drained_rest (M:Mw ρ B0 N l wE P of ot cf ct g U r) (h:Mt ρ N l U D wE mb lb jb (.slice of (prd N l).length cf) (.slice ot U.length ct) (.slice (some ⟨g,0,none⟩) (prd N l).length (prd N l).length) c A w) (hc:c<=1000) {K:Nat} (hK:K<=60) (hN:∀s,Iq (dcl N l).2.m ρ (prd N l) (dcl N l).2.Q U.length (ptU U) (oU N l U) c A s->jsum U.length s.2 < (K+1)*(U.length+1)) :
  Calls Tryz.prog 23 #[.pointer (some ⟨mb,0,none⟩),.int .i64 (U.length:Nat),.int .i64 (K:Nat)] w fun E w'=>E=.returned (.bool true)/\Mr ρ N l U D wE mb lb jb (.slice of (prd N l).length cf) (.slice ot U.length ct) (.slice (some ⟨g,0,none⟩) (prd N l).length (prd N l).length) (c+1) A w':=by
 obtain⟨s,fn,jn,hM,hI⟩:=h
 refine (drp_ok M.pm M.tp (by omega) hI M.u60 hK (hN s hI) hM).mono ?_
 rintro E w' ⟨rfl,s',fn',jn',hM',hR'⟩
 exact⟨rfl,s',fn',jn',hM',hR'⟩
end
theorem tasks_same {m:Mil.Bytes->Option Int} {F:List Flo} {Q:List Nq} {B:Nat} {w:World} {v:Value} {U U':List (Nat×Value)} (h:Tw m F Q B w v U') (up:(U.map Prod.fst).Pairwise (· < ·)) (all:∀p,p∈U.map Prod.fst↔∃q∈Q,perAt F q.flow=p):U'.length=U.length:=by
 have h1:=Mip.len_le (U.map Prod.fst) (U'.map Prod.fst) (flows_nodup up) (fun p hp=>(h.all p).2 ((all p).1 hp))
 have h2:=Mip.len_le (U'.map Prod.fst) (U.map Prod.fst) (flows_nodup h.up) (fun p hp=>(all p).2 ((h.all p).1 hp))
 simp at h1 h2
 omega
theorem quiet_any {al:Nat->Addr} {ρ:Mil.Bytes->Int->Int->Int} {B0 N P tk:Nat} {l:List Mip.It} {w:World} {vi:Value} {ls:List (List Int)} {us:List Value} (hE:Errs al w) (hi:Items l) (hP:Prg ρ B0 N l w P) (hI:Ins w vi ls us) (hpol:Pol tk (prd N l) ls) (htk:1<=tk/\tk<=40) :
  Calls Tryz.prog 13 #[.pointer (some ⟨P,0,none⟩),vi,.int .i64 (tk:Nat)] w (QtP w):=by
 obtain⟨s0,hs0,sz0,sz1,sz2⟩:=info_parts Tryz.infoSl
 obtain⟨of,ot,cf,ct,g,U,r,hMw⟩:=mw_ex hi hP
 obtain⟨BI,hBI⟩:=hI.row
 obtain⟨oi,ci,rfl⟩:=own_shape hBI
 have HH:Hid (Errs al w/\Prg ρ B0 N l w P/\Ins w (.slice oi ls.length ci) ls us/\Pol tk (prd N l) ls):=⟨hE,hP,hI,hpol⟩
 have HM:Hid (Mw ρ B0 N l w P of ot cf ct g U r):=hMw
 have HT:Hid (1<=tk/\tk<=40):=htk
 have tk40:((tk:Nat):Int)<=40:=by omega
 clear hE hi hP hI hpol hMw hBI htk
 go_enter Tryz.func13,Tryz.ntmps13
 go_wp2_with fail
 refine (machine_any HM.out.blk ⟨g,rfl⟩ HM.out.f60 HM.out.u60).mono ?_
 rintro E w1 ⟨mb,lb,jb,rfl,hM1⟩
 have HM1:Hid (Mc (fun _ _=>False) w mb lb jb (prd N l).length U.length (.slice of (prd N l).length cf) (.slice ot U.length ct) (.slice (some ⟨g,0,none⟩) (prd N l).length (prd N l).length) 0 false (fun _=>[]) (fun _=>[]) (fun _=>.slice none 0 0) (fun _=>.slice none 0 0) w1):=hM1
 clear hM1
 go_wp2_with fail
 refine (flows_any (HH.out.2.1.below HM1.out.be)).mono ?_
 rintro E w2 ⟨hb2,v2,rfl,hF2⟩
 obtain⟨o2,c2,e2⟩:=own_shape hF2
 subst e2
 have HB2:Hid (Below w1.heap.size w1 w2):=hb2
 have HF2:Hid (w2.ownsRow w1.heap.size 52 5 (.slice o2 (prd N l).length c2) (prd N l).length (fls (prd N l))):=hF2
 clear hb2 hF2
 go_wp2_with fail
 refine (tasks_any' ((HH.out.2.1.below HM1.out.be).below HB2.out)).mono ?_
 rintro E w3 ⟨hb3,v3,U3,rfl,hT3,_⟩
 have hU3:U3.length=U.length:=tasks_same hT3 HM.out.up HM.out.all
 obtain⟨o3,c3,e3⟩:=own_shape hT3.row
 subst e3
 rw[hU3]
 have HD3:Hid (Mr ρ N l U (fun b o=>False\/(w1.heap.size<=b/\w3.heap[b]?=some o)) w mb lb jb (.slice of (prd N l).length cf) (.slice ot U.length ct) (.slice (some ⟨g,0,none⟩) (prd N l).length (prd N l).length) 0 (fun _=>[]) w3):=
  ⟨(fun _=>[],fun _=>[]),_,_,HM1.out.and (below_step HB2.out hb3) (fun b o h=>h),Rq.zero HM.out.tp⟩
 have HF3:Hid (w3.ownsRow w1.heap.size 52 5 (.slice o2 (prd N l).length c2) (prd N l).length (fls (prd N l))):=own_kept HF2.out (fun q hq=>hb3.block q (lt_of_heap (own_lt HF2.out q hq).2.choose_spec))
 obtain⟨D,hD⟩:∃D:Nat->Obj->Prop,D=(fun b o=>False\/(w1.heap.size<=b/\w3.heap[b]?=some o)):=⟨_,rfl⟩
 rw[<-hD] at HD3
 have HD:Hid (∀q,(Value.slice o2 (prd N l).length c2).ownBlock=some q->∀o,w3.heap[q]?=some o->D q o):=fun q hq o ho=>by
  rw[hD]
  exact Or.inr ⟨(own_lt HF3.out q hq).1,ho⟩
 clear hb3 hT3 hU3 hD HM1 HB2 HF2
 have HK:Hid ((prd N l).length<=60/\U.length<=60):=⟨HM.out.f60,HM.out.u60⟩
 go_wp2_with fail
 go_loopg [11] tk (fun gk s11 wr=>∃c:Nat,c<=tk/\s11=.int .i64 (c:Nat)/\gk=tk - c/\Hid (∃A,Mr ρ N l U D w mb lb jb (.slice of (prd N l).length cf) (.slice ot U.length ct) (.slice (some ⟨g,0,none⟩) (prd N l).length (prd N l).length) c A wr))
 case atStart=>exact⟨0,Nat.zero_le _,rfl,rfl,_,HD3.out⟩
 case round=>
  obtain⟨c,hc,rfl,hg,KM⟩:=hrel
  have HG:Hid (gk=tk - c/\c<=tk):=⟨hg,hc⟩
  clear hg hc HD3
  obtain⟨A,hA⟩:=KM.out
  have KA:Hid (Mr ρ N l U D w mb lb jb (.slice of (prd N l).length cf) (.slice ot U.length ct) (.slice (some ⟨g,0,none⟩) (prd N l).length (prd N l).length) c A wr):=hA
  clear hA KM
  by_cases hlt:c < tk
  ·have HL:Hid (c < tk/\c<=1000):=⟨hlt,by have:=HT.out.2;omega⟩
   have c1:((c:Nat):Int) < (tk:Nat):=by omega
   clear hlt
   go_wp2_with fail
   refine (due_any (HH.out.2.1.below KA.out.be) (HH.out.2.2.1.below KA.out.be) HH.out.2.2.2.nin HM.out.tp.pos HL.out.2).mono ?_
   rintro E w4 ⟨hb4,v4,rfl,hN4,hz4⟩
   obtain⟨o4,c4,e4⟩:=own_shape hN4
   subst e4
   have KA4:Hid (Mr ρ N l U D w mb lb jb (.slice of (prd N l).length cf) (.slice ot U.length ct) (.slice (some ⟨g,0,none⟩) (prd N l).length (prd N l).length) c A w4):=KA.out.below hb4
   have HN4:Hid (Nl w4 wr.heap.size (.slice o4 (dvs (prd N l) ls c).length c4) (dvs (prd N l) ls c)/\(dvs (prd N l) ls c=[]->(.slice o4 (dvs (prd N l) ls c).length c4:Value)=.slice none 0 0)):=⟨hN4,hz4⟩
   clear hb4 hN4 hz4 KA
   go_wp2_with fail
   refine (ptick_rest HH.out.1 HM.out KA4.out HL.out.2 HL.out.1 HH.out.2.2.2 HN4.out.1 HN4.out.2).mono ?_
   rintro E w5 ⟨a5,rfl,hM5⟩
   generalize putL A ((duI (prd N l) c (prd N l).length).zip (dvs (prd N l) ls c))=A5 at hM5
   have KM5:Hid (Mt ρ N l U (fun b o=>D b o\/(b=w5.heap.size/\o=.cells #[.int .i64 0,.int .i64 a5] 30 (0,0))) w mb lb jb (.slice of (prd N l).length cf) (.slice ot U.length ct) (.slice (some ⟨g,0,none⟩) (prd N l).length (prd N l).length) c A5 (w5.alloc (.cells #[.int .i64 0,.int .i64 a5] 30))):=
    hM5.and (brf.alloc nlr _) (fun b o h=>by
     obtain⟨rfl,rfl⟩:=h
     exact⟨Nat.le_refl _,han w5 _⟩)
   clear hM5 KA4 HN4
   go_wp2_with fail
   generalize w5.alloc (.cells #[.int .i64 0,.int .i64 a5] 30)=V5 at KM5 ⊢
   generalize w5.heap.size=g5 at KM5 ⊢
   refine (drained_rest HM.out KM5.out HL.out.2 HK.out.1 (fun s hs=>hs.iv.jsum HM.out.tp)).mono ?_
   rintro E w6 ⟨rfl,hM6⟩
   have k6:=hM6.kp (b:=g5) (Or.inr ⟨rfl,rfl⟩)
   have c6:w6.cell? ⟨g5,0,none⟩=some (.int .i64 0):=(cor _ g5 0 _ _ _ k6).trans rfl
   have KM6:Hid (∃A,Mr ρ N l U D w mb lb jb (.slice of (prd N l).length cf) (.slice ot U.length ct) (.slice (some ⟨g,0,none⟩) (prd N l).length (prd N l).length) (c+1) A w6):=⟨_,hM6.sub (fun b o h=>Or.inl h)⟩
   clear hM6 KM5 k6
   go_wp2
   go_roundg (tk - (c+1))
   case measure=>have:=HG.out;have:=HL.out;omega
   case rel=>exact⟨c+1,HL.out.1,by go_num,rfl,KM6⟩
  ·have c1:¬((c:Nat):Int) < (tk:Nat):=by omega
   have HE:Hid (c=tk):=by show _=_;have:=HG.out.2;omega
   obtain⟨s,fn,jn,hMs,hRs⟩:=KA.out
   have KS:Hid (Mc D w mb lb jb (prd N l).length U.length (.slice of (prd N l).length cf) (.slice ot U.length ct) (.slice (some ⟨g,0,none⟩) (prd N l).length (prd N l).length) (c:Nat) false s.1 s.2 fn jn wr):=hMs
   have KL:Hid (∀j f,(prd N l)[j]?=some f->(s.1 j).length=(tk+f.per - 1) / f.per):=by
    rw[<-HE.out]
    exact hRs.rs.log
   have KLL:Hid (∀j,(s.1 j).length<=tk):=by
    rw[<-HE.out]
    exact hRs.len HM.out.tp
   clear hMs hRs
   obtain⟨W4,hW4⟩:∃W4,W4=wr:=⟨_,rfl⟩
   subst hW4
   go_wp2_with fail
   go_loopg [14,15] (prd N l).length (fun gk s14 s15 wy=>∃(e:Nat) (o:Option Addr) (cc:Nat) (us':List Value),s14=.slice o e cc/\s15=.int .i64 (e:Nat)/\gk=(prd N l).length - e/\e<=(prd N l).length/\Hid (Below W4.heap.size W4 wy)/\Hid (wy.ownsRow W4.heap.size 35 1 (.slice o e cc) e us'))
   case atStart=>exact⟨0,none,0,[],rfl,rfl,rfl,Nat.zero_le _,Below.refl _ _,World.ownsRow_nil _ _ _ _⟩
   case round=>
    obtain⟨e,oo,co,us',rfl,rfl,hge,hle,LB,LO⟩:=hrel
    have HGE:Hid (gk=(prd N l).length - e/\e<=(prd N l).length):=⟨hge,hle⟩
    clear hge hle
    by_cases hel:e < (prd N l).length
    ·obtain⟨f,hf⟩:∃f,(prd N l)[e]?=some f:=⟨_,List.getElem?_eq_getElem hel⟩
     have hpos:=HM.out.tp.pos f (List.mem_of_getElem? hf)
     have hlen:=KL.out e f hf
     have HEL:Hid (e < (prd N l).length/\1<=f.per):=⟨hel,hpos⟩
     have hpm:f.per<=1000000:=by
      have:=HM.out.tp.cd.pm e
      rw[perAt_of hf] at this
      exact this
     obtain⟨g2,ho2⟩:∃g2,o2=some ⟨g2,0,none⟩:=by
      rcases HF3.out.2 with ⟨_,e⟩|⟨g2,cap,cur,e,_⟩
      ·omega
      ·injection e with e1;exact⟨g2,e1⟩
     subst ho2
     have HFY:Hid (∀wy,Below W4.heap.size W4 wy->wy.cell? ⟨g2,e*5+2,none⟩=some (.int .i64 (f.per:Nat))):=fun wy hb=>by
      have h3:W4.ownsRow w1.heap.size 52 5 (.slice (some ⟨g2,0,none⟩) (prd N l).length c2) (prd N l).length (fls (prd N l)):=own_kept HF3.out (fun q hq=>by
       obtain⟨_,cur,hcur⟩:=own_lt HF3.out q hq
       rw[(KS.out.kp q _ (HD.out q hq _ hcur)).1,hcur])
      have h4:=flo_cell h3 hf 2 (by decide) rfl
      exact (hb.cell (lt_of_cell h4)).trans h4
     have j0:(0:Int)<=(e:Int):=by omega
     have j4:(e:Int) < ((prd N l).length:Int):=by omega
     have j60:((prd N l).length:Int)<=60:=by have:=HK.out.1;omega
     have hne:s.1 e≠[]:=fun e1=>by
      rw[e1] at hlen
      have h5:1<=(tk+f.per - 1) / f.per:=le_div hpos (by have:=HT.out.1;omega)
      simp only[List.length_nil] at hlen
      omega
     have HLG:Hid (∀wy,Below W4.heap.size W4 wy->Calls Tryz.prog 24 #[.pointer (some ⟨mb,0,none⟩),.int .i64 (e:Nat)] wy fun E w'=>Below wy.heap.size wy w'/\∃v,E=.returned v/\Nl w' wy.heap.size v (s.1 e)):=fun wy hb=>log_any (KS.out.below hb) hel hne
     obtain⟨k,hk⟩:∃k:Nat,k=(tk+f.per - 1) / f.per:=⟨_,rfl⟩
     have hkI:(((tk:Nat):Int)+((f.per:Nat):Int) - 1) / ((f.per:Nat):Int)=(k:Nat):=by
      rw[hk]
      have e1:(((tk:Nat):Int)+((f.per:Nat):Int) - 1)=((tk+f.per - 1:Nat):Int):=by omega
      rw[e1]
      exact (Int.natCast_ediv _ _).symm
     rw[<-hk] at hlen
     have hk4:k<=40:=by
      have h6:=KLL.out e
      have:=HT.out.2
      omega
     have td:(((tk:Nat):Int)+((f.per:Nat):Int) - 1).tdiv ((f.per:Nat):Int)=(k:Nat):=by
      rw[<-hkI]
      exact Int.tdiv_eq_ediv_of_nonneg (by omega)
     have wA:IntKind.i64.wrap (((tk:Nat):Int)+((f.per:Nat):Int))=((tk:Nat):Int)+((f.per:Nat):Int):=by
      rw[IntKind.wrap_i64]
      omega
     have wS:IntKind.i64.wrap (((tk:Nat):Int)+((f.per:Nat):Int) - 1)=((tk:Nat):Int)+((f.per:Nat):Int) - 1:=by
      rw[IntKind.wrap_i64]
      omega
     have yw:IntKind.i64.wrap (k:Int)=(k:Int):=by
      rw[IntKind.wrap_i64]
      omega
     have nz:¬((f.per:Nat):Int)=0:=by omega
     have p1:¬((f.per:Nat):Int) < 1:=by omega
     have pb:((f.per:Nat):Int)<=1000000:=by omega
     have p0:(1:Int)<=((f.per:Nat):Int):=by omega
     have p2:decide (0 < f.per)=true:=decide_eq_true HEL.out.2
     have nzN:¬f.per=0:=by omega
     have HKL:Hid ((s.1 e).length=k):=hlen
     clear hel hf hpos hne hk hkI hk4 hlen hpm
     go_wp2_with fail
     refine (HLG.out _ LB.out).mono ?_
     rintro E w5 ⟨hb5,v5,rfl,hN5⟩
     obtain⟨o5,c5,e5⟩:=own_shape hN5
     rw[HKL.out] at e5
     subst e5
     have LB5:Hid (Below W4.heap.size W4 w5):=below_step LB.out hb5
     have LO5:Hid (w5.ownsRow W4.heap.size 35 1 (.slice oo e co) e us'):=own_kept LO.out (fun q hq=>hb5.block q (lt_of_heap (own_lt LO.out q hq).2.choose_spec))
     have y2:=HFY.out w5 LB5.out
     clear hb5 hN5 HLG HFY LB LO
     go_wp2_with fail
     go_quiet (fail)
     have LBq:Hid (Below W4.heap.size W4 (w5.drewN nq)):=below_drewN LB5.out _
     have LOq:Hid ((w5.drewN nq).ownsRow W4.heap.size 35 1 (.slice oo e co) e us'):=own_kept LO5.out (fun _ _=>rfl)
     have HB0:(decide (((f.per:Nat):Int) < 1) || ((k:Nat):Int) != ((k:Nat):Int))=false:=by simp[p1]
     (try rw[wA]);(try rw[wS]);(try rw[td]);(try rw[yw]);(try rw[HB0])
     clear HB0 wA wS td yw p1 p2 nz nzN y2
     generalize w5.drewN nq=V at LBq LOq ⊢
     have HQL:Hid (Below W4.heap.size W4 (V.alloc (.cells #[.slice o5 k c5] 35))):=LBq.out.alloc LBq.out.size _
     have HOW:Hid ((V.alloc (.cells #[.slice o5 k c5] 35)).ownsRow W4.heap.size 35 1 (.slice oo e co) e us'):=own_kept LOq.out (fun q hq=>Below.heap_alloc V _ q (lt_of_heap (own_lt LOq.out q hq).2.choose_spec))
     have HE60:Hid (e<=60):=by show _<=_;have:=HEL.out.1;have:=HK.out.1;omega
     go_wp2_with (at_builtin;refine wpList_append_lies _ rfl _ _ 33 rfl W4.heap.size 35 s0 (.slice none 0 0) 1 24 Tryz.underlying33 hs0 sz0 sz1 sz2 rfl (by decide) (.slice oo e co) e us' rfl HOW.out ⟨V.heap.size,0,none⟩ 1 1 [.slice o5 k c5] rfl rfl (fun j u hu=>by
       cases j with
       | zero=>cases hu;rw[Addr.add_lit,Nat.zero_add];simp
       | succ j=>simp at hu) (by intro u hu;simp at hu;subst hu;rfl) (by decide) (by unfold maxLen;have:=HE60.out;omega) (by have:=HE60.out;omega) HQL.out.size _ rfl ?_;intro k8 c8 w8 O8 hg8 hat8 hlt8)
     have HO8:Hid (w8.ownsRow W4.heap.size 35 1 (.slice (some ⟨k8,0,none⟩) (e+1) c8) (e+1) (us'++[.slice o5 k c5])):=O8
     have HB8:Hid (Below W4.heap.size W4 w8):=below_grown HQL.out HQL.out.size hg8 (fun q hq=>(own_lt HOW.out q hq).1)
     clear O8 hg8 hat8 hlt8
     go_roundg ((prd N l).length - (e+1))
     case measure=>have:=HGE.out;have:=HEL.out;omega
     case rel=>exact⟨e+1,_,_,_,rfl,by go_num,rfl,HEL.out.1,HB8,HO8⟩
    ·have j4:¬(e:Int) < ((prd N l).length:Int):=by omega
     have HF9:Hid (∀wy,Below W4.heap.size W4 wy->Calls Tryz.prog 25 #[.pointer (some ⟨mb,0,none⟩)] wy fun E w'=>E=.returned (.bool false)/\wy=w'):=fun wy hb=>overrun_any (KS.out.below hb)
     have HB9:Hid (Below w.heap.size w W4):=KS.out.be
     go_wp2_with fail
     refine (HF9.out _ LB.out).mono ?_
     rintro E w9 ⟨rfl,rfl⟩
     go_wp2
     go_ret2
     exact⟨below_step HB9.out LB.out,_,rfl⟩
end
section
open Go.RowKit
def inA:List (List Int):=[[1,2,3,4,5]]
def arA:List (Option (List Int)):=[some [1,2,3,4,5],none,none,none]
theorem layA:lay (prd 109 Mip.lsA) inA=some arA:=by kernel_rfl
def q1:Nq:=(qA.find? (fun q=>q.flow==1)).getD ⟨[],0,0,.nil,0⟩
def q2:Nq:=(qA.find? (fun q=>q.flow==2)).getD ⟨[],0,0,.nil,0⟩
def q3:Nq:=(qA.find? (fun q=>q.flow==3)).getD ⟨[],0,0,.nil,0⟩
theorem fq1:(dcl 109 Mip.lsA).2.Q.find? (fun q=>q.flow==1)=some q1:=by kernel_rfl
theorem fq2:(dcl 109 Mip.lsA).2.Q.find? (fun q=>q.flow==2)=some q2:=by kernel_rfl
theorem fq3:(dcl 109 Mip.lsA).2.Q.find? (fun q=>q.flow==3)=some q3:=by kernel_rfl
theorem sm1_0 (ρ:Mil.Bytes->Int->Int->Int) (S:Int->Int->Option Int):Mip.sm (dcl 109 Mip.lsA).2.m ρ S q1.body ((0:Nat):Int)=(S 0 0).bind fun u=>((some 0:Option Int)).bind fun v=>some (ρ [43] u v):=by kernel_rfl
theorem sm1_1 (ρ:Mil.Bytes->Int->Int->Int) (S:Int->Int->Option Int):Mip.sm (dcl 109 Mip.lsA).2.m ρ S q1.body ((1:Nat):Int)=(S 0 1).bind fun u=>(S 1 0).bind fun v=>some (ρ [43] u v):=by kernel_rfl
theorem sm1_2 (ρ:Mil.Bytes->Int->Int->Int) (S:Int->Int->Option Int):Mip.sm (dcl 109 Mip.lsA).2.m ρ S q1.body ((2:Nat):Int)=(S 0 2).bind fun u=>(S 1 1).bind fun v=>some (ρ [43] u v):=by kernel_rfl
theorem sm1_3 (ρ:Mil.Bytes->Int->Int->Int) (S:Int->Int->Option Int):Mip.sm (dcl 109 Mip.lsA).2.m ρ S q1.body ((3:Nat):Int)=(S 0 3).bind fun u=>(S 1 2).bind fun v=>some (ρ [43] u v):=by kernel_rfl
theorem sm1_4 (ρ:Mil.Bytes->Int->Int->Int) (S:Int->Int->Option Int):Mip.sm (dcl 109 Mip.lsA).2.m ρ S q1.body ((4:Nat):Int)=(S 0 4).bind fun u=>(S 1 3).bind fun v=>some (ρ [43] u v):=by kernel_rfl
theorem sm1_5 (ρ:Mil.Bytes->Int->Int->Int) (S:Int->Int->Option Int):Mip.sm (dcl 109 Mip.lsA).2.m ρ S q1.body ((5:Nat):Int)=(S 0 5).bind fun u=>(S 1 4).bind fun v=>some (ρ [43] u v):=by kernel_rfl
theorem sm2_0 (ρ:Mil.Bytes->Int->Int->Int) (S:Int->Int->Option Int):Mip.sm (dcl 109 Mip.lsA).2.m ρ S q2.body ((0:Nat):Int)=S 1 0:=by kernel_rfl
theorem sm2_1 (ρ:Mil.Bytes->Int->Int->Int) (S:Int->Int->Option Int):Mip.sm (dcl 109 Mip.lsA).2.m ρ S q2.body ((1:Nat):Int)=S 1 2:=by kernel_rfl
theorem sm3_0 (ρ:Mil.Bytes->Int->Int->Int) (S:Int->Int->Option Int):Mip.sm (dcl 109 Mip.lsA).2.m ρ S q3.body ((0:Nat):Int)=((some 7:Option Int)).bind fun u=>(S 1 0).bind fun v=>some (ρ [43] u v):=by kernel_rfl
theorem sm3_1 (ρ:Mil.Bytes->Int->Int->Int) (S:Int->Int->Option Int):Mip.sm (dcl 109 Mip.lsA).2.m ρ S q3.body ((1:Nat):Int)=((some 7:Option Int)).bind fun u=>(S 1 1).bind fun v=>some (ρ [43] u v):=by kernel_rfl
theorem sm3_2 (ρ:Mil.Bytes->Int->Int->Int) (S:Int->Int->Option Int):Mip.sm (dcl 109 Mip.lsA).2.m ρ S q3.body ((2:Nat):Int)=(S 2 0).bind fun u=>(S 1 2).bind fun v=>some (ρ [43] u v):=by kernel_rfl
theorem sm3_3 (ρ:Mil.Bytes->Int->Int->Int) (S:Int->Int->Option Int):Mip.sm (dcl 109 Mip.lsA).2.m ρ S q3.body ((3:Nat):Int)=(S 2 0).bind fun u=>(S 1 3).bind fun v=>some (ρ [43] u v):=by kernel_rfl
theorem sm3_4 (ρ:Mil.Bytes->Int->Int->Int) (S:Int->Int->Option Int):Mip.sm (dcl 109 Mip.lsA).2.m ρ S q3.body ((4:Nat):Int)=(S 2 1).bind fun u=>(S 1 4).bind fun v=>some (ρ [43] u v):=by kernel_rfl
theorem sm3_5 (ρ:Mil.Bytes->Int->Int->Int) (S:Int->Int->Option Int):Mip.sm (dcl 109 Mip.lsA).2.m ρ S q3.body ((5:Nat):Int)=(S 2 1).bind fun u=>(S 1 5).bind fun v=>some (ρ [43] u v):=by kernel_rfl
theorem plus_is {ρ:Mil.Bytes->Int->Int->Int} (hr:Rall2 ρ) (a b:Int):ρ [43] a b=wrap64 (a+b):=by
 have:=(hr [43]).1 (by rw[Lib.toList_data,bs_list];rfl)
 rw[this]
def wantA:List Int:=[8,10,7,11,21]
theorem known_vals {ρ:Mil.Bytes->Int->Int->Int} (hr:Rall2 ρ) {n:Nat} (hn:n < 6) {o:Option Int} (h:Mn ρ 109 Mip.lsA inA 3 n o):o=wantA[n]?:=by
 rcases h with ⟨h,_⟩|⟨A,r,S,hA,_,hS,_,rfl⟩
 ·rw[layA] at h;cases h
 obtain rfl:=osi (layA.symm.trans hA)
 have L0:Lof arA 0=some [1,2,3,4,5]:=rfl
 have L1:Lof arA 1=none:=rfl
 have L2:Lof arA 2=none:=rfl
 have L3:Lof arA 3=none:=rfl
 have x:∀i:Nat,i<=2000->S ((0:Nat):Int) (i:Nat)=([1,2,3,4,5]:List Int)[i]?:=fun i hi=>sol_in hS L0 hi
 have x0:S 0 0=some 1:=x 0 (by decide)
 have x1:S 0 1=some 2:=x 1 (by decide)
 have x2:S 0 2=some 3:=x 2 (by decide)
 have x3:S 0 3=some 4:=x 3 (by decide)
 have x4:S 0 4=some 5:=x 4 (by decide)
 have x5:S 0 5=none:=x 5 (by decide)
 have s0:S 1 0=some 1:=sol_next hS (j:=1) (i:=0) L1 fq1 (by decide) (fun k hk=>absurd hk (Nat.not_lt_zero _)) (by
  rw[sm1_0,x0];show some (ρ [43] 1 0)=_;rw[plus_is hr];kernel_rfl)
 have s1:S 1 1=some 3:=sol_next hS (j:=1) (i:=1) L1 fq1 (by decide) (fun k hk=>by
   obtain rfl:k=0:=by omega
   show (S 1 0).isSome=true;rw[s0];rfl) (by
  rw[sm1_1,x1,s0];show some (ρ [43] 2 1)=_;rw[plus_is hr];kernel_rfl)
 have s2:S 1 2=some 6:=sol_next hS (j:=1) (i:=2) L1 fq1 (by decide) (fun k hk=>by
   rcases (by omega:k=0\/k=1) with rfl|rfl
   ·show (S 1 0).isSome=true;rw[s0];rfl
   ·show (S 1 1).isSome=true;rw[s1];rfl) (by
  rw[sm1_2,x2,s1];show some (ρ [43] 3 3)=_;rw[plus_is hr];kernel_rfl)
 have s3:S 1 3=some 10:=sol_next hS (j:=1) (i:=3) L1 fq1 (by decide) (fun k hk=>by
   rcases (by omega:k=0\/k=1\/k=2) with rfl|rfl|rfl
   ·show (S 1 0).isSome=true;rw[s0];rfl
   ·show (S 1 1).isSome=true;rw[s1];rfl
   ·show (S 1 2).isSome=true;rw[s2];rfl) (by
  rw[sm1_3,x3,s2];show some (ρ [43] 4 6)=_;rw[plus_is hr];kernel_rfl)
 have s4:S 1 4=some 15:=sol_next hS (j:=1) (i:=4) L1 fq1 (by decide) (fun k hk=>by
   rcases (by omega:k=0\/k=1\/k=2\/k=3) with rfl|rfl|rfl|rfl
   ·show (S 1 0).isSome=true;rw[s0];rfl
   ·show (S 1 1).isSome=true;rw[s1];rfl
   ·show (S 1 2).isSome=true;rw[s2];rfl
   ·show (S 1 3).isSome=true;rw[s3];rfl) (by
  rw[sm1_4,x4,s3];show some (ρ [43] 5 10)=_;rw[plus_is hr];kernel_rfl)
 have s5:S 1 5=none:=sol_stop hS (j:=1) (i:=5) L1 fq1 (by rw[sm1_5,x5];rfl) nlr (by decide)
 have u0:S 2 0=some 1:=sol_next hS (j:=2) (i:=0) L2 fq2 (by decide) (fun k hk=>absurd hk (Nat.not_lt_zero _)) (by rw[sm2_0];exact s0)
 have u1:S 2 1=some 6:=sol_next hS (j:=2) (i:=1) L2 fq2 (by decide) (fun k hk=>by
   obtain rfl:k=0:=by omega
   show (S 2 0).isSome=true;rw[u0];rfl) (by rw[sm2_1];exact s2)
 have h0:S 3 0=some 8:=sol_next hS (j:=3) (i:=0) L3 fq3 (by decide) (fun k hk=>absurd hk (Nat.not_lt_zero _)) (by
  rw[sm3_0,s0];show some (ρ [43] 7 1)=_;rw[plus_is hr];kernel_rfl)
 have h1:S 3 1=some 10:=sol_next hS (j:=3) (i:=1) L3 fq3 (by decide) (fun k hk=>by
   obtain rfl:k=0:=by omega
   show (S 3 0).isSome=true;rw[h0];rfl) (by
  rw[sm3_1,s1];show some (ρ [43] 7 3)=_;rw[plus_is hr];kernel_rfl)
 have h2:S 3 2=some 7:=sol_next hS (j:=3) (i:=2) L3 fq3 (by decide) (fun k hk=>by
   rcases (by omega:k=0\/k=1) with rfl|rfl
   ·show (S 3 0).isSome=true;rw[h0];rfl
   ·show (S 3 1).isSome=true;rw[h1];rfl) (by
  rw[sm3_2,u0,s2];show some (ρ [43] 1 6)=_;rw[plus_is hr];kernel_rfl)
 have h3:S 3 3=some 11:=sol_next hS (j:=3) (i:=3) L3 fq3 (by decide) (fun k hk=>by
   rcases (by omega:k=0\/k=1\/k=2) with rfl|rfl|rfl
   ·show (S 3 0).isSome=true;rw[h0];rfl
   ·show (S 3 1).isSome=true;rw[h1];rfl
   ·show (S 3 2).isSome=true;rw[h2];rfl) (by
  rw[sm3_3,u0,s3];show some (ρ [43] 1 10)=_;rw[plus_is hr];kernel_rfl)
 have h4:S 3 4=some 21:=sol_next hS (j:=3) (i:=4) L3 fq3 (by decide) (fun k hk=>by
   rcases (by omega:k=0\/k=1\/k=2\/k=3) with rfl|rfl|rfl|rfl
   ·show (S 3 0).isSome=true;rw[h0];rfl
   ·show (S 3 1).isSome=true;rw[h1];rfl
   ·show (S 3 2).isSome=true;rw[h2];rfl
   ·show (S 3 3).isSome=true;rw[h3];rfl) (by
  rw[sm3_4,u1,s4];show some (ρ [43] 6 15)=_;rw[plus_is hr];kernel_rfl)
 have h5:S 3 5=none:=sol_stop hS (j:=3) (i:=5) L3 fq3 (by rw[sm3_5,u1,s5];rfl) nlr (by decide)
 rcases (by omega:n=0\/n=1\/n=2\/n=3\/n=4\/n=5) with rfl|rfl|rfl|rfl|rfl|rfl
 ·exact h0
 ·exact h1
 ·exact h2
 ·exact h3
 ·exact h4
 ·exact h5
end
section
open Go.RowKit
theorem prdA:prd 109 Mip.lsA=[⟨[120],0,2,true,false⟩,⟨[115],0,2,false,false⟩,⟨[117],0,4,false,false⟩,⟨[104],0,2,false,true⟩]:=by kernel_rfl
theorem polA:Pol 9 (prd 109 Mip.lsA) inA:=by
 rw[prdA]
 exact⟨[1,2,3,4,5],[],rfl,rfl,(fun e=>by cases e),rfl⟩
theorem zA_is {c:Nat} (hc:c < 9):(duI (prd 109 Mip.lsA) c (prd 109 Mip.lsA).length).zip (dvs (prd 109 Mip.lsA) inA c)=if c % 2=0 then [(0,((c / 2+1:Nat):Int))] else []:=by
 rcases (by omega:c=0\/c=1\/c=2\/c=3\/c=4\/c=5\/c=6\/c=7\/c=8) with rfl|rfl|rfl|rfl|rfl|rfl|rfl|rfl|rfl <;> kernel_rfl
def inB (c:Nat):List Int:=([1,2,3,4,5]:List Int).take ((c+1) / 2)
theorem inB_step {c:Nat} (hc:c < 9) {A:Nat->List Int} (hA:A 0=inB c):putL A ((duI (prd 109 Mip.lsA) c (prd 109 Mip.lsA).length).zip (dvs (prd 109 Mip.lsA) inA c)) 0=inB (c+1):=by
 rw[zA_is hc]
 rcases (by omega:c=0\/c=1\/c=2\/c=3\/c=4\/c=5\/c=6\/c=7\/c=8) with rfl|rfl|rfl|rfl|rfl|rfl|rfl|rfl|rfl <;> first|(rw[if_pos (by decide)];show lput A 0 _ 0=_;rw[lput_same,hA];rfl)|(rw[if_neg (by decide)];show A 0=_;rw[hA];rfl)
theorem valsA {ρ:Mil.Bytes->Int->Int->Int} (hr:Rall2 ρ) {L:Nat->List Int} (h0:L 0=[1,2,3,4,5]) (hB:Beg (dcl 109 Mip.lsA).2.m ρ (prd 109 Mip.lsA) (dcl 109 Mip.lsA).2.Q L) (hlen:(L 3).length=5):L 3=wantA:=by
 have hF:(dcl 109 Mip.lsA).2.F.length<=60:=by
  have e:(dcl 109 Mip.lsA).2.F.length=4:=by kernel_rfl
  omega
 have hQ:(dcl 109 Mip.lsA).2.Q.length<=60:=by
  have e:(dcl 109 Mip.lsA).2.Q.length=3:=by kernel_rfl
  omega
 obtain⟨r,C⟩:=cd_ex (items_of Mip.parsedA) okA hF hQ
 obtain⟨S,hS,hva⟩:=sol_ex C ρ (Lof arA)
 have hl4:(prd 109 Mip.lsA).length=4:=lenA
 have hgv:gv (prd 109 Mip.lsA) L (prd 109 Mip.lsA).length=inA:=by
  rw[prdA]
  show [L 0]=_
  rw[h0];rfl
 have hLi:Li (prd 109 Mip.lsA) L=Lof arA:=by
  have h1:=lay_all (F:=prd 109 Mip.lsA) (L:=L) (fun j f hf hi=>by
   have:f.ty=0:=by
    rw[prdA] at hf
    have hm:=List.mem_of_getElem? hf
    simp only[List.mem_cons,List.not_mem_nil,or_false] at hm
    rcases hm with rfl|rfl|rfl|rfl <;> rfl
   unfold fitL
   rw[this];rfl)
  rw[hgv,layA] at h1
  rw[osi h1,lof_li]
 apply List.ext_getElem?
 intro i
 rcases Nat.lt_or_ge i 5 with hi|hi
 ·obtain⟨x,hx⟩:∃x,(L 3)[i]?=some x:=⟨_,List.getElem?_eq_getElem (by omega)⟩
  have h1:=hB S (by rw[hLi];exact hS) 3 (by omega) i x hx
  have h2:=known_vals hr (by omega:i < 6) (show Mn ρ 109 Mip.lsA inA 3 i (S (3:Nat) (i:Nat)) from Or.inr ⟨arA,r,S,layA,C,hS,hva,rfl⟩)
  rw[hx,<-h2,h1]
 ·rw[List.getElem?_eq_none (by omega),List.getElem?_eq_none (by simpa [wantA] using hi)]
theorem e13 {al:Nat->Addr}:lastOf al (al 12) 13=13:=by simp[lastOf]
theorem unA {U:List (Nat×Value)} (up:(U.map Prod.fst).Pairwise (· < ·)) (all:∀p,p∈U.map Prod.fst↔∃q∈(dcl 109 Mip.lsA).2.Q,perAt (prd 109 Mip.lsA) q.flow=p):∃u0 u1,U=[(2,u0),(4,u1)]:=by
 have hU:U.map Prod.fst=[2,4]:=tasksA up all
 match U,hU with
 | [(a,x),(b,y)],hU=>
  simp at hU
  exact⟨x,y,by rw[hU.1,hU.2]⟩
theorem oA0 (u0 u1:Value):oU 109 Mip.lsA [(2,u0),(4,u1)] 0=[1,3]:=ordA.1
theorem oA1 (u0 u1:Value):oU 109 Mip.lsA [(2,u0),(4,u1)] 1=[2]:=ordA.2
theorem jsA {u0 u1:Value} {c:Nat} {s:Lj} (h:Ivj (prd 109 Mip.lsA) 2 (ptU [(2,u0),(4,u1)]) (oU 109 Mip.lsA [(2,u0),(4,u1)]) c s):jsum 2 s.2 < (3+1)*(2+1):=by
 obtain⟨p0,e0,_⟩:=h.job 0 (by decide)
 obtain⟨p1,e1,_⟩:=h.job 1 (by decide)
 rw[oA0] at e0
 rw[oA1] at e1
 have h0:=congrArg List.length e0
 have h1:=congrArg List.length e1
 rw[List.length_append] at h0 h1
 simp only[List.length_cons,List.length_nil] at h0 h1
 rw[jsum_succ,jsum_succ]
 show 0+_+_ < _
 omega
theorem fit0:fitT (prd 109 Mip.lsA) (duI (prd 109 Mip.lsA) 0 (prd 109 Mip.lsA).length) [1]=true:=by kernel_rfl
theorem fit1:fitT (prd 109 Mip.lsA) (duI (prd 109 Mip.lsA) 1 (prd 109 Mip.lsA).length) []=true:=by kernel_rfl
theorem fit2:fitT (prd 109 Mip.lsA) (duI (prd 109 Mip.lsA) 2 (prd 109 Mip.lsA).length) [1]=true:=by kernel_rfl
section
variable {al:Nat->Addr} {D:Nat->Obj->Prop} {wE w:World} {mb lb jb:Nat} {fv tv wv u0 u1:Value} {O:Nat->List Nat} {L:Nat->List Int} {J:Nat->List Nat} {k:Int}
theorem tick0 (h:TkN al D (prd 109 Mip.lsA) [(2,u0),(4,u1)] O wE mb lb jb fv tv wv 0 false L (fun _=>[]) [1] k w):k=0/\∃L' J' fn jn,J' 0=O 0/\J' 1=O 1/\Mc D wE mb lb jb (prd 109 Mip.lsA).length 2 fv tv wv ((1:Nat):Int) false L' J' fn jn w/\∀j,(L' j).length<=(L j).length+1:=by
 obtain⟨fn,jn,⟨h1,_⟩|⟨_,h2,_⟩|⟨_,_,h3,_⟩|⟨_,_,h3,h4,h5⟩⟩:=h
 ·cases h1
 ·rw[fit0] at h2;cases h2
 ·cases h3
 ·refine⟨h4,_,_,fn,jn,?_,?_,h5,fun j=>?_⟩
  ·rw[setJ_at];rfl
  ·rw[setJ_at];rfl
  ·refine Nat.le_trans (putL_len j _ _) ?_
   have:((duI (prd 109 Mip.lsA) 0 (prd 109 Mip.lsA).length).zip ([1]:List Int)).length<=1:=by rw[List.length_zip];exact Nat.min_le_right _ _
   omega
theorem tick1 (h:TkN al D (prd 109 Mip.lsA) [(2,u0),(4,u1)] O wE mb lb jb fv tv wv 1 false L J [] k w):k=0/\∃L' J' fn jn,J' 0=J 0/\J' 1=J 1/\Mc D wE mb lb jb (prd 109 Mip.lsA).length 2 fv tv wv ((2:Nat):Int) false L' J' fn jn w/\∀j,(L' j).length<=(L j).length:=by
 obtain⟨fn,jn,⟨h1,_⟩|⟨_,h2,_⟩|⟨_,_,h3,_⟩|⟨_,_,h3,h4,h5⟩⟩:=h
 ·cases h1
 ·rw[fit1] at h2;cases h2
 ·cases h3
 ·refine⟨h4,_,_,fn,jn,?_,?_,h5,fun j=>?_⟩
  ·rfl
  ·rfl
  ·refine Nat.le_trans (putL_len j _ _) ?_
   rw[List.length_zip]
   simp
theorem tick2 (hJ:J 0≠[]) (h:TkN al D (prd 109 Mip.lsA) [(2,u0),(4,u1)] O wE mb lb jb fv tv wv 2 false L J [1] k w):k=13/\∃fn jn,Mc D wE mb lb jb (prd 109 Mip.lsA).length 2 fv tv wv ((2:Nat):Int) true L J fn jn w:=by
 obtain⟨fn,jn,⟨h1,_⟩|⟨_,h2,_⟩|⟨_,_,h3,h4,h5⟩|⟨_,_,h3,h4,h5⟩⟩:=h
 ·cases h1
 ·rw[fit2] at h2;cases h2
 ·exact⟨h4.trans e13,fn,jn,h5⟩
 ·exfalso
  have:(duT [(2,u0),(4,u1)] 2 [(2,u0),(4,u1)].length).any (fun t=>!(J t).isEmpty)=true:=by
   rw[List.any_eq_true]
   refine⟨0,duT_mem.2 ⟨Nat.zero_lt_succ _,by rw[ptU_of (u:=(2,u0)) rfl];show 2 % 2=0;rfl⟩,?_⟩
   cases e:J 0 with
   | nil=>exact absurd e hJ
   | cons=>rfl
  rw[this] at h3;cases h3
end
end
section
open Go.RowKit
theorem own_lit0 {w:World} {g n:Nat} {cur:Array Value} {t:TypeId} (h:w.heap[g]?=some (.cells cur t (0,0))) (hn:n=cur.size) (hm:n<=maxLen):w.ownsRow 0 t 1 (.slice (some ⟨g,0,none⟩) n n) n cur.toList:=
 ⟨by simp[hn],Or.inr ⟨g,n,cur,rfl,Nat.zero_le _,h,Nat.le_refl _,hm,by omega,List.take_of_length_le (by simp[hn])⟩⟩
theorem insA {w:World} {ga gb:Nat} (ha:w.heap[ga]?=some (.cells #[.int .i64 1,.int .i64 2,.int .i64 3,.int .i64 4,.int .i64 5] 2 (0,0))) (hb:w.heap[gb]?=some (.cells #[.slice (some ⟨ga,0,none⟩) 5 5] 35 (0,0))):Ins w (.slice (some ⟨gb,0,none⟩) 1 1) inA [.slice (some ⟨ga,0,none⟩) 5 5]:=by
 refine⟨⟨0,own_lit0 hb rfl (by unfold maxLen;omega)⟩,fun k l hl=>?_,by decide,fun l hl=>?_⟩
 ·cases k with
  | zero=>
   cases hl
   exact⟨_,0,rfl,own_lit0 ha rfl (by unfold maxLen;omega)⟩
  | succ k=>simp[inA] at hl
 ·obtain rfl:l=[1,2,3,4,5]:=by simpa [inA] using hl
  decide
end
end Go.Proofs.YtjehljjlcifndaaGreatDoor
