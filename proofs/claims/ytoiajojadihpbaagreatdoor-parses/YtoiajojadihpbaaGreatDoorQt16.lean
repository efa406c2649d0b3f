import Derived.Test.YtoiajojadihpbaaGreatDoorQt15
import Derived.Test.YtoiajojadihpbaaGreatDoorQt12
namespace Go.Proofs.YtoiajojadihpbaaGreatDoor
set_option maxHeartbeats 8000000
set_option maxRecDepth 100000
section
open Go.RowKit
theorem readItems_any (a:Nat->Addr) (s:ByteArray) (hs:s.size<=4000) (w:World) (L:Laid a w) :
  Calls Tryz.prog 85 #[.string s] w (RiPost s.data.toList a w):=by
 have ST:=start_at a s w L
 have HG:Hid (27<=w.heap.size+1+1):=by have:=L.size;show _<=_;omega
 have HG0:Hid (27<=w.heap.size):=L.size
 clear L
 have hmf:∀(fn:Fn) (first cap:Array Value) (w:World),(Instr.makeFunc fn first cap).run Tryz.prog w=.ok (.func fn first cap) w:=fun _ _ _ _=>rfl
 go_enter_defers Tryz.func85,Tryz.ntmps85
 go_wp2_with fail
 generalize (((w.alloc (.cells #[.slice none 0 0] 111)).alloc (.cells #[.pointer none] 181)).alloc (.cells #[.string s,.int .i64 0,.int .i64 0,.int .i64 0,.int .i64 0,.string ⟨#[]⟩,.int .i64 0] 220))=W2 at ST ⊢
 refine (advance_raw a (w.heap.size+1+1) s 0 0 0 0 ⟨#[]⟩ 0 W2 ST.l HG.out ST.r (Nat.zero_le _) (Nat.zero_le _) hs).mono ?_
 rintro e w3 ⟨kk3,(⟨st,rfl,g3,r3⟩|thr)⟩
 ·have G3:Hid (Mil.adv' s.data.toList 0=some st):=g3
  have B3:Hid (Below w.heap.size w w3):=ST.b.trans ⟨kk3.os,kk3.tape,kk3.output,kk3.size,fun k hk=>kk3.block k (Nat.lt_of_lt_of_le hk ST.b.size) (by omega)⟩
  have V3:Hid (Vars w3 w.heap.size (.slice none 0 0) (.pointer none)):=ST.v.kept kk3 (by omega)
  have HL:Hid (Laid a w3):=ST.l.kept kk3 HG.out
  have R3:=hid r3
  clear g3 kk3 ST r3 W2
  go_wp2_with fail
  go_loopg [] (Mil.mu st) (fun g wr=>∃acc t v0,g=Mil.mu t/\Hid (Vars wr w.heap.size v0 (.pointer none))/\Hid (Row wr (w.heap.size+1+1) acc v0)/\Hid (RdS wr (w.heap.size+1+1) s t)/\Hid (Below w.heap.size w wr)/\Hid (Laid a wr)/\Hid ((∀z,Mil.Rprog acc t z↔Mil.Rprog [] st z)/\∀k p,Mil.BadP s.size acc t k p->Mil.BadP s.size [] st k p)/\Hid (acc.length<=60))
  case atStart=>exact⟨[],st,.slice none 0 0,rfl,V3,Row.nil _ _,R3,B3,HL,⟨fun z=>Iff.rfl,fun _ _ h=>h⟩,Nat.zero_le _⟩
  case round=>
   clear V3 R3 B3 HL
   obtain⟨acc,t,v0,hg,HV,HR,HD,HB,HL,HI,HM⟩:=hrel
   have HG2:=hid hg
   clear hg
   obtain⟨o0,c0,rfl⟩:=HR.out.shape
   obtain⟨p,tp,x,hp,hRd,hr,hx,hn⟩:=HD.out
   have c3:=hRd.c3
   have c4:=hRd.c4
   have q0:=HV.out.c0
   have q1:=HV.out.c1
   have f0:=HV.out.f0
   have f1:=HV.out.f1
   have HTP:Hid (tp=place s.size t):=hn.2.2
   clear hRd hr hx hn hp
   by_cases hk0:t.tok.kind=0
   ·have hb0:(((t.tok.kind:Nat):Int) != 0)=false:=by simp;omega
    have HK0:=hid hk0
    clear hk0
    go_wp2
    refine leaves_done s.data.toList a w _ _ rfl rfl o0 acc.length c0 ((HV.out.set0 _).set1 _) ((HB.out.setCell nlr _).setCell (p:=⟨w.heap.size+1,0,none⟩) (Nat.le_succ _) _) acc (w.heap.size+1+1) (by omega) ⟨st,G3.out,(HI.out.1 _).1 (Mil.prog_stop HK0.out)⟩ ?_
    exact (HR.out.kept ((Kp.refl w.heap.size wr).setCell 0 _) (by omega)).kept ((Kp.refl (w.heap.size+1) _).setCell 0 _) (by omega)
   ·have hb0:(((t.tok.kind:Nat):Int) != 0)=true:=by simp;omega
    have HK0:=hid hk0
    clear hk0
    by_cases h6:acc.length=60
    ·have hb6:(((acc.length:Nat):Int)==60)=true:=by simp;omega
     have H6:=hid h6
     clear h6
     have hcm:=HL.out.many
     have hno:Mil.Fault s.data.toList 4 tp:=Mil.fault_size (Or.inr ⟨_,G3.out,HI.out.2 _ _ (by rw[HTP.out];exact Mil.badP_many HK0.out H6.out)⟩)
     have hpp:∀tm:Array Value,tm[2]?=some (.pointer (some ⟨w.heap.size,0,none⟩))->tm[3]?=some (.pointer (some ⟨w.heap.size+1,0,none⟩))->bodyPostD Tryz.prog Tryz.f85 (RiPost s.data.toList a w) (Exit.panic [{ v:=.iface 181 (.pointer (some ⟨wr.heap.size,0,none⟩)),recovered:=false }]) { tmps:=tm,defers:=D0 w.heap.size } (wr.alloc (.cells #[.int .i64 tp,errV (a 4)] 187)).drew:=by
      intro tm h2 h3
      exact leaves_thrown s.data.toList a w _ tm h2 h3 _ _ (HV.out.kept (((Kp.refl (w.heap.size+1+1) wr).alloc _).drew) (by omega)) (HB.out.alloc HB.out.size _).drew 4 tp wr.heap.size (Or.inr (Or.inr (Or.inr rfl))) (han wr _) hno
     have HPP:=hid hpp
     clear hpp hno
     go_wp2
     refine wp_region_any (by kernel_rfl) ?_
     change wpAny _ _ _ _ _ _ _ (World.drew _)
     refine wpAny_take (i:=0) (v:=.pointer (some ⟨w.heap.size+1+1,0,none⟩)) rfl (by kernel_rfl) (by kernel_rfl) (by kernel_rfl) (fun _ _ _ h=>bp_put (i:=20) (by decide) (by decide) h) (Or.inl ⟨by rfl,fun w=>by go_simp⟩) ?_
     refine wpAny_take (i:=1) (v:=.pointer (some ⟨w.heap.size+1+1,0,none⟩)) rfl (by kernel_rfl) (by kernel_rfl) (by kernel_rfl) (fun _ _ _ h=>bp_put (i:=21) (by decide) (by decide) h) (Or.inl ⟨by rfl,fun w=>by go_simp⟩) ?_
     refine wpAny_take (i:=2) (v:=.pointer (some ⟨w.heap.size+1+1,3,none⟩)) rfl (by kernel_rfl) (by kernel_rfl) (by kernel_rfl) (fun _ _ _ h=>bp_put (i:=22) (by decide) (by decide) h) (Or.inl ⟨by rfl,fun w=>by go_simp⟩) ?_
     refine wpAny_take (i:=3) (v:=.pointer (some ⟨w.heap.size+1+1,4,none⟩)) rfl (by kernel_rfl) (by kernel_rfl) (by kernel_rfl) (fun _ _ _ h=>bp_put (i:=23) (by decide) (by decide) h) (Or.inl ⟨by rfl,fun w=>by go_simp⟩) ?_
     refine wpAny_ready (rs:=[4,5]) (by kernel_rfl) (by simp) ?_
     refine AllReady.cons rfl (fun K hK=>?_) (AllReady.cons rfl (fun K hK=>?_) AllReady.nil)
     ·go_simp
      refine hK _ _ ?_
      clear hK K
      refine wpAny_ready (rs:=[5]) (by kernel_rfl) (by simp) ?_
      refine AllReady.cons rfl (fun K hK=>?_) AllReady.nil
      go_simp
      refine hK _ _ ?_
      clear hK K
      refine wpAny_take (i:=6) (v:=.agg #[.int .i64 tp,errV (a 4)]) rfl (by kernel_rfl) (by kernel_rfl) (by kernel_rfl) (fun _ _ _ h=>bp_put (i:=26) (by decide) (by decide) h) (Or.inl ⟨by rfl,fun w=>by go_simp⟩) ?_
      refine wpAny_ready (rs:=[7]) (by kernel_rfl) (by simp) ?_
      refine AllReady.cons rfl (fun K hK=>?_) AllReady.nil
      go_simp
      refine hK _ _ ?_
      clear hK K
      refine wpAny_take (i:=8) (v:=.iface 181 (.pointer (some ⟨wr.heap.size,0,none⟩))) rfl (by kernel_rfl) (by kernel_rfl) (by kernel_rfl) (fun _ _ _ h=>bp_put (i:=28) (by decide) (by decide) h) (Or.inl ⟨by rfl,fun w=>by go_simp⟩) ?_
      refine wpAny_ready (rs:=[9]) (by kernel_rfl) (by simp) ?_
      refine AllReady.cons rfl (fun K hK=>?_) AllReady.nil
      go_simp
      exact HPP.out _ rfl rfl
     ·go_simp
      refine hK _ _ ?_
      clear hK K
      refine wpAny_ready (rs:=[4]) (by kernel_rfl) (by simp) ?_
      refine AllReady.cons rfl (fun K hK=>?_) AllReady.nil
      go_simp
      refine hK _ _ ?_
      clear hK K
      refine wpAny_take (i:=6) (v:=.agg #[.int .i64 tp,errV (a 4)]) rfl (by kernel_rfl) (by kernel_rfl) (by kernel_rfl) (fun _ _ _ h=>bp_put (i:=26) (by decide) (by decide) h) (Or.inl ⟨by rfl,fun w=>by go_simp⟩) ?_
      refine wpAny_ready (rs:=[7]) (by kernel_rfl) (by simp) ?_
      refine AllReady.cons rfl (fun K hK=>?_) AllReady.nil
      go_simp
      refine hK _ _ ?_
      clear hK K
      refine wpAny_take (i:=8) (v:=.iface 181 (.pointer (some ⟨wr.heap.size,0,none⟩))) rfl (by kernel_rfl) (by kernel_rfl) (by kernel_rfl) (fun _ _ _ h=>bp_put (i:=28) (by decide) (by decide) h) (Or.inl ⟨by rfl,fun w=>by go_simp⟩) ?_
      refine wpAny_ready (rs:=[9]) (by kernel_rfl) (by simp) ?_
      refine AllReady.cons rfl (fun K hK=>?_) AllReady.nil
      go_simp
      exact HPP.out _ rfl rfl
    ·have hb6:(((acc.length:Nat):Int)==60)=false:=by simp;omega
     have H6:=hid h6
     clear h6
     have L4:Hid (Laid a wr.drew):=HL.out.kept ((Kp.refl (w.heap.size+1+1) wr).drew) HG.out
     have D4:Hid (RdS wr.drew (w.heap.size+1+1) s t):=HD.out.kept ((Kp.refl (w.heap.size+1+1+1) wr).drew) (by omega)
     have V4:Hid (Vars wr.drew w.heap.size (.slice o0 acc.length c0) (.pointer none)):=HV.out.kept ((Kp.refl (w.heap.size+1+1) wr).drew) (by omega)
     have R4:Hid (Row wr.drew (w.heap.size+1+1) acc (.slice o0 acc.length c0)):=HR.out.kept ((Kp.refl (w.heap.size+1+1) wr).drew) (by omega)
     have B4:Hid (Below w.heap.size w wr.drew):=HB.out.drew
     have NO4:Hid (∀k p,Mil.BadI s.size t k p->Mil.Fault s.data.toList k p):=fun k p h=>Mil.fault_size (Or.inr ⟨_,G3.out,HI.out.2 _ _ (Mil.badP_item HK0.out H6.out h)⟩)
     obtain⟨i0,hi,hz0,hz1,hz2⟩:=info_parts Tryz.infoItemM
     have hlen:acc.length<=60:=HM.out
     clear HV HR HD HB HL
     go_wp2_with fail
     refine wp_region_any (by kernel_rfl) ?_
     change wpAny _ _ _ _ _ _ _ (World.drew _)
     refine wpAny_take (i:=1) (v:=.pointer (some ⟨w.heap.size+1+1,0,none⟩)) rfl (by kernel_rfl) (by kernel_rfl) (by kernel_rfl) (fun _ _ _ h=>bp_put (i:=30) (by decide) (by decide) h) (Or.inl ⟨by rfl,fun w=>by go_simp⟩) ?_
     refine wpAny_ready (rs:=[0,2]) (by kernel_rfl) (by simp) ?_
     refine AllReady.cons rfl (fun K hK=>?_) (AllReady.cons rfl (fun K hK=>?_) AllReady.nil)
     ·go_simp
      refine hK _ _ ?_
      clear hK K
      refine wpAny_ready (rs:=[2]) (by kernel_rfl) (by simp) ?_
      refine AllReady.cons rfl (fun K hK=>?_) AllReady.nil
      go_simp
      refine (mitem_any a (w.heap.size+1+1) s HG.out hs t _ L4.out D4.out).mono ?_
      rintro e w5 ⟨kk5,(⟨i,t',ty,y,rfl,iv,g5,r5⟩|⟨k,at_,hkk,d,rfl,hd,hno⟩)⟩
      ·have V5:Hid (Vars w5 w.heap.size (.slice o0 acc.length c0) (.pointer none)):=V4.out.kept kk5 (by omega)
       have B5:Hid (Below w.heap.size w w5):=B4.out.trans ⟨kk5.os,kk5.tape,kk5.output,kk5.size,fun k hk=>kk5.block k (Nat.lt_of_lt_of_le hk B4.out.size) (by omega)⟩
       have L5:=hid (L4.out.kept kk5 HG.out)
       have hbw:Hid (w.heap.size+1+1 < w5.heap.size):=by
        obtain⟨_,_,_,_,hRd,_⟩:=r5
        exact lt_of_cell hRd.c0
       obtain⟨vs,O5,hvs⟩:=R4.out.kept kk5 nlr
       have O6:Hid ((w5.alloc (.cells #[.iface ty y] 115)).ownsRow (w.heap.size+1+1+1) 115 1 (.slice o0 acc.length c0) acc.length vs):=O5.alloc _
       have HVS:=hid hvs
       have IV:=hid iv
       have G5:=hid g5
       have R5:=hid r5
       have V6:Hid (Vars (w5.alloc (.cells #[.iface ty y] 115)) w.heap.size (.slice o0 acc.length c0) (.pointer none)):=V5.out.kept ((Kp.refl (w.heap.size+1+1) w5).alloc _) (by omega)
       have p5:=V5.out.c0
       have p6:=V6.out.c0
       clear kk5 O5 hvs iv g5 r5
       refine hK _ _ ?_
       clear hK K
       refine wpAny_ready (rs:=[3]) (by kernel_rfl) (by simp) ?_
       refine AllReady.cons rfl (fun K hK=>?_) AllReady.nil
       go_simp
       refine hK _ _ ?_
       clear hK K
       refine wpAny_ready (rs:=[4]) (by kernel_rfl) (by simp) ?_
       refine AllReady.cons rfl (fun K hK=>?_) AllReady.nil
       refine (if_pos (by rfl)).mpr ?_
       refine wp_append_own _ (.tmp 29) (.tmp 32) 111 rfl (w.heap.size+1+1+1) 115 i0 .nilIface 1 16 Tryz.underlying111 hi hz0 hz1 hz2 rfl (by decide) (.slice o0 acc.length c0) acc.length vs rfl O6.out ⟨w5.heap.size,0,none⟩ 1 1 [.iface ty y] rfl rfl (news_one w5 _ _) (by intro u hu;simp at hu;subst hu;rfl) (by unfold maxLen;omega) (by omega) (by have:=hbw.out;simp;omega) ?_
       intro v7 w7 O7 hg7 hn7
       refine hK _ _ ?_
       clear hK K
       obtain⟨V7,RE⟩:=round_end a s w w5 w7 acc i t' _ v7 _ vs HG0.out V5.out B5.out L5.out R5.out HVS.out IV.out O6.out hg7 O7
       have p7:=V7.c0
       have f7:=V7.f0
       have HRE:=hid RE
       obtain⟨o7,n7,c7,rfl⟩:=owns_shape O7
       clear RE V7 O7 hg7 hn7
       refine wpAny_ready (rs:=[5]) (by kernel_rfl) (by simp) ?_
       refine AllReady.cons rfl (fun K hK=>?_) AllReady.nil
       go_simp
       refine hK _ _ ?_
       clear hK K
       refine wpAny_done (by kernel_rfl) ?_ _
       go_wp2
       go_roundg (Mil.mu t')
       case measure=>have:=HG2.out;have:=Mil.rit_mu G5.out;omega
       case rel=>
        refine⟨acc++[i],t',_,rfl,HRE.out.v,HRE.out.r,HRE.out.d,HRE.out.b,HRE.out.l,⟨fun z=>Iff.trans (Mil.prog_go HK0.out H6.out G5.out z).symm (HI.out.1 z),fun k p h=>HI.out.2 k p (Mil.badP_go HK0.out H6.out G5.out h)⟩,?_⟩
        show (acc++[i]).length<=60
        rw[List.length_append]
        have:=H6.out
        simp only[List.length_singleton]
        omega
      ·have V5:Hid (Vars w5 w.heap.size (.slice o0 acc.length c0) (.pointer none)):=V4.out.kept kk5 (by omega)
       have B5:Hid (Below w.heap.size w w5):=B4.out.trans ⟨kk5.os,kk5.tape,kk5.output,kk5.size,fun k hk=>kk5.block k (Nat.lt_of_lt_of_le hk B4.out.size) (by omega)⟩
       exact leaves_thrown s.data.toList a w w5 _ rfl rfl _ _ V5.out B5.out k at_ d hkk hd (NO4.out _ _ hno)
     ·go_simp
      refine (mitem_any a (w.heap.size+1+1) s HG.out hs t _ L4.out D4.out).mono ?_
      rintro e w5 ⟨kk5,(⟨i,t',ty,y,rfl,iv,g5,r5⟩|⟨k,at_,hkk,d,rfl,hd,hno⟩)⟩
      ·have V5:Hid (Vars w5 w.heap.size (.slice o0 acc.length c0) (.pointer none)):=V4.out.kept kk5 (by omega)
       have B5:Hid (Below w.heap.size w w5):=B4.out.trans ⟨kk5.os,kk5.tape,kk5.output,kk5.size,fun k hk=>kk5.block k (Nat.lt_of_lt_of_le hk B4.out.size) (by omega)⟩
       have L5:=hid (L4.out.kept kk5 HG.out)
       have hbw:Hid (w.heap.size+1+1 < w5.heap.size):=by
        obtain⟨_,_,_,_,hRd,_⟩:=r5
        exact lt_of_cell hRd.c0
       obtain⟨vs,O5,hvs⟩:=R4.out.kept kk5 nlr
       have O6:Hid ((w5.alloc (.cells #[.iface ty y] 115)).ownsRow (w.heap.size+1+1+1) 115 1 (.slice o0 acc.length c0) acc.length vs):=O5.alloc _
       have HVS:=hid hvs
       have IV:=hid iv
       have G5:=hid g5
       have R5:=hid r5
       have V6:Hid (Vars (w5.alloc (.cells #[.iface ty y] 115)) w.heap.size (.slice o0 acc.length c0) (.pointer none)):=V5.out.kept ((Kp.refl (w.heap.size+1+1) w5).alloc _) (by omega)
       have p5:=V5.out.c0
       have p6:=V6.out.c0
       clear kk5 O5 hvs iv g5 r5
       refine hK _ _ ?_
       clear hK K
       refine wpAny_ready (rs:=[0,3]) (by kernel_rfl) (by simp) ?_
       refine AllReady.cons rfl (fun K hK=>?_) (AllReady.cons rfl (fun K hK=>?_) AllReady.nil)
       ·go_simp
        refine hK _ _ ?_
        clear hK K
        refine wpAny_ready (rs:=[3]) (by kernel_rfl) (by simp) ?_
        refine AllReady.cons rfl (fun K hK=>?_) AllReady.nil
        go_simp
        refine hK _ _ ?_
        clear hK K
        refine wpAny_ready (rs:=[4]) (by kernel_rfl) (by simp) ?_
        refine AllReady.cons rfl (fun K hK=>?_) AllReady.nil
        refine (if_pos (by rfl)).mpr ?_
        refine wp_append_own _ (.tmp 29) (.tmp 32) 111 rfl (w.heap.size+1+1+1) 115 i0 .nilIface 1 16 Tryz.underlying111 hi hz0 hz1 hz2 rfl (by decide) (.slice o0 acc.length c0) acc.length vs rfl O6.out ⟨w5.heap.size,0,none⟩ 1 1 [.iface ty y] rfl rfl (news_one w5 _ _) (by intro u hu;simp at hu;subst hu;rfl) (by unfold maxLen;omega) (by omega) (by have:=hbw.out;simp;omega) ?_
        intro v7 w7 O7 hg7 hn7
        refine hK _ _ ?_
        clear hK K
        obtain⟨V7,RE⟩:=round_end a s w w5 w7 acc i t' _ v7 _ vs HG0.out V5.out B5.out L5.out R5.out HVS.out IV.out O6.out hg7 O7
        have p7:=V7.c0
        have f7:=V7.f0
        have HRE:=hid RE
        obtain⟨o7,n7,c7,rfl⟩:=owns_shape O7
        clear RE V7 O7 hg7 hn7
        refine wpAny_ready (rs:=[5]) (by kernel_rfl) (by simp) ?_
        refine AllReady.cons rfl (fun K hK=>?_) AllReady.nil
        go_simp
        refine hK _ _ ?_
        clear hK K
        refine wpAny_done (by kernel_rfl) ?_ _
        go_wp2
        go_roundg (Mil.mu t')
        case measure=>have:=HG2.out;have:=Mil.rit_mu G5.out;omega
        case rel=>
         refine⟨acc++[i],t',_,rfl,HRE.out.v,HRE.out.r,HRE.out.d,HRE.out.b,HRE.out.l,⟨fun z=>Iff.trans (Mil.prog_go HK0.out H6.out G5.out z).symm (HI.out.1 z),fun k p h=>HI.out.2 k p (Mil.badP_go HK0.out H6.out G5.out h)⟩,?_⟩
         show (acc++[i]).length<=60
         rw[List.length_append]
         have:=H6.out
         simp only[List.length_singleton]
         omega
       ·go_simp
        refine hK _ _ ?_
        clear hK K
        refine wpAny_ready (rs:=[0]) (by kernel_rfl) (by simp) ?_
        refine AllReady.cons rfl (fun K hK=>?_) AllReady.nil
        go_simp
        refine hK _ _ ?_
        clear hK K
        refine wpAny_ready (rs:=[4]) (by kernel_rfl) (by simp) ?_
        refine AllReady.cons rfl (fun K hK=>?_) AllReady.nil
        refine (if_pos (by rfl)).mpr ?_
        refine wp_append_own _ (.tmp 29) (.tmp 32) 111 rfl (w.heap.size+1+1+1) 115 i0 .nilIface 1 16 Tryz.underlying111 hi hz0 hz1 hz2 rfl (by decide) (.slice o0 acc.length c0) acc.length vs rfl O6.out ⟨w5.heap.size,0,none⟩ 1 1 [.iface ty y] rfl rfl (news_one w5 _ _) (by intro u hu;simp at hu;subst hu;rfl) (by unfold maxLen;omega) (by omega) (by have:=hbw.out;simp;omega) ?_
        intro v7 w7 O7 hg7 hn7
        refine hK _ _ ?_
        clear hK K
        obtain⟨V7,RE⟩:=round_end a s w w5 w7 acc i t' _ v7 _ vs HG0.out V5.out B5.out L5.out R5.out HVS.out IV.out O6.out hg7 O7
        have p7:=V7.c0
        have f7:=V7.f0
        have HRE:=hid RE
        obtain⟨o7,n7,c7,rfl⟩:=owns_shape O7
        clear RE V7 O7 hg7 hn7
        refine wpAny_ready (rs:=[5]) (by kernel_rfl) (by simp) ?_
        refine AllReady.cons rfl (fun K hK=>?_) AllReady.nil
        go_simp
        refine hK _ _ ?_
        clear hK K
        refine wpAny_done (by kernel_rfl) ?_ _
        go_wp2
        go_roundg (Mil.mu t')
        case measure=>have:=HG2.out;have:=Mil.rit_mu G5.out;omega
        case rel=>
         refine⟨acc++[i],t',_,rfl,HRE.out.v,HRE.out.r,HRE.out.d,HRE.out.b,HRE.out.l,⟨fun z=>Iff.trans (Mil.prog_go HK0.out H6.out G5.out z).symm (HI.out.1 z),fun k p h=>HI.out.2 k p (Mil.badP_go HK0.out H6.out G5.out h)⟩,?_⟩
         show (acc++[i]).length<=60
         rw[List.length_append]
         have:=H6.out
         simp only[List.length_singleton]
         omega
      ·have V5:Hid (Vars w5 w.heap.size (.slice o0 acc.length c0) (.pointer none)):=V4.out.kept kk5 (by omega)
       have B5:Hid (Below w.heap.size w w5):=B4.out.trans ⟨kk5.os,kk5.tape,kk5.output,kk5.size,fun k hk=>kk5.block k (Nat.lt_of_lt_of_le hk B4.out.size) (by omega)⟩
       exact leaves_thrown s.data.toList a w w5 _ rfl rfl _ _ V5.out B5.out k at_ d hkk hd (NO4.out _ _ hno)
 ·have B3:Hid (Below w.heap.size w w3):=ST.b.trans ⟨kk3.os,kk3.tape,kk3.output,kk3.size,fun k hk=>kk3.block k (Nat.lt_of_lt_of_le hk ST.b.size) (by omega)⟩
  have V3:Hid (Vars w3 w.heap.size (.slice none 0 0) (.pointer none)):=ST.v.kept kk3 (by omega)
  have TH:Hid (Threw (fun k p=>Mil.advZ' s.size s.data.toList 0=.bad k p) a e w3):=thr
  clear kk3 ST thr
  obtain⟨k,at_,hkk,d,he,hd,hno⟩:=TH.out
  have NO:Hid (Mil.Fault s.data.toList k at_):=Mil.fault_size (Or.inl hno)
  clear hno
  subst he
  clear TH
  go_wp2
  exact leaves_thrown s.data.toList a w w3 _ rfl rfl _ _ V3.out B3.out k at_ d hkk hd NO.out
end
section
open Go.RowKit
def PaPost (r:Mil.Bytes) (a:Nat->Addr) (w:World) (e:Ending) (w':World):Prop:=
 Below w.heap.size w w' /\
 ((∃l b o n c t,w.heap.size<=b/\e=.returned (.tuple #[.pointer (some ⟨t,0,none⟩),.nilIface])/\Mil.Parsed r l/\w'.heap[t]?=some (.cells #[.slice o n c] 113 (0,0))/\Row w' b l (.slice o n c)) \/
  (∃k at_ d,(k=1\/k=2\/k=3\/k=4)/\e=.returned (.tuple #[.pointer none,.iface 181 (.pointer (some ⟨d,0,none⟩))])/\w'.heap[d]?=some (.cells #[.int .i64 at_,errV (a k)] 187 (0,0))/\(∀l,¬Mil.Parsed r l)/\r.length<=4000/\Mil.Fault r k at_) \/
  (e=.returned (.tuple #[.pointer none,errV (a 1)])/\(∀l,¬Mil.Parsed r l)/\4000 < r.length))
theorem parse_any (a:Nat->Addr) (s:ByteArray) (w:World) (L:Laid a w) :
  Calls Tryz.prog 45 #[.string s] w (PaPost s.data.toList a w):=by
 have HL:=hid L
 have hlen:s.data.toList.length=s.size:=by simp
 have HLN:=hid hlen
 clear hlen
 by_cases hs:s.size<=4000
 ·have hgt:¬(4000:Int) < (s.size:Int):=by omega
  have HP:Hid (∀l,Mil.Parsed s.data.toList l↔Mil.Rprog' s.data.toList l):=by
   intro l
   have e4:¬4000 < s.data.toList.length:=by rw[HLN.out];omega
   constructor
   ·rintro ⟨n,hn⟩
    unfold Mil.parse at hn
    rw[if_neg e4] at hn
    obtain⟨q,h1,h2⟩:=obs hn
    exact⟨q,h1,n,h2⟩
   ·rintro ⟨q,h1,n,h2⟩
    refine⟨n,?_⟩
    unfold Mil.parse
    rw[if_neg e4,h1,Option.bind_some,h2]
  clear L
  go_enter Tryz.func45,Tryz.ntmps45
  go_wp2_with fail
  refine (readItems_any a s hs _ HL.out).mono ?_
  rintro e w1 ⟨hb1,(⟨l,b,o,n,c,hwb,rfl,hl,hR⟩|⟨k,at_,d,hk,rfl,hd,hno⟩)⟩
  ·have HR:=hid hR
   have HLL:=hid hl
   clear hR hl
   go_wp2
   refine bodyPost_ret (v:=.tuple #[.pointer (some ⟨w1.heap.size,0,none⟩),.nilIface]) (by simp[results,Tryz.results45,go_sem]) rfl ⟨hb1.alloc hb1.size _,Or.inl ⟨l,b,o,n,c,w1.heap.size,hwb,rfl,(HP.out l).2 HLL.out,han w1 _,HR.out.kept ((Kp.refl b w1).alloc _) nlr⟩⟩
  ·have HN:=hid hno
   clear hno
   go_wp2
   refine bodyPost_ret (v:=.tuple #[.pointer none,.iface 181 (.pointer (some ⟨d,0,none⟩))]) (by simp[results,Tryz.results45,go_sem]) rfl ⟨hb1,Or.inr (Or.inl ⟨k,at_,d,hk,rfl,hd,fun l h=>Mil.fault_no HN.out l ((HP.out l).1 h),by have:=HLN.out;omega,HN.out⟩)⟩
 ·have hgt:(4000:Int) < (s.size:Int):=by omega
  have cl:=L.long
  have HN:Hid (∀l,¬Mil.Parsed s.data.toList l):=by
   rintro l ⟨n,hn⟩
   unfold Mil.parse at hn
   rw[if_pos (by rw[HLN.out];omega)] at hn
   cases hn
  clear L
  go_enter Tryz.func45,Tryz.ntmps45
  go_wp2
  go_quiet (fail)
  go_wp2
  refine bodyPost_ret (v:=.tuple #[.pointer none,errV (a 1)]) (by simp[results,Tryz.results45,go_sem]) rfl ⟨?_,Or.inr (Or.inr ⟨rfl,HN.out,by have:=HLN.out;omega⟩)⟩
  first|exact below_drewN brf _|exact brf.drew|exact Below.refl _ _
end
section
open Go.RowKit
theorem last_pos (al:Nat->Addr) (x:Addr):∀n,1<=lastOf al x n
 | 0=>by show (1:Int)<=14;decide
 | j+1=>by
  show (1:Int)<=if x=al j then (j:Int)+1 else lastOf al x j
  split
  ·omega
  ·exact last_pos al x j
structure Same (al a:Nat->Addr):Prop where
 h1:a 1=al 0
 h2:a 2=al 1
 h3:a 3=al 2
 h4:a 4=al 3
theorem Same.row {al a:Nat->Addr} (h:Same al a) {w:World} (hE:Errs al w) {k:Nat} (hk:k=1\/k=2\/k=3\/k=4):∃c t,w.heap[(a k).block]?=some (.cells c t (0,0)):=by
 rcases hk with rfl|rfl|rfl|rfl
 ·rw[h.h1];exact hE.row 0 (by decide)
 ·rw[h.h2];exact hE.row 1 (by decide)
 ·rw[h.h3];exact hE.row 2 (by decide)
 ·rw[h.h4];exact hE.row 3 (by decide)
def TreeAt (w:World) (l:List Mil.It) (t:Nat):Prop:=∃b o n c,w.heap[t]?=some (.cells #[.slice o n c] 113 (0,0))/\Row w b l (.slice o n c)
def PlF (al a:Nat->Addr) (r:Mil.Bytes) (f at_:Int):Prop:=(∃k,(k=1\/k=2\/k=3\/k=4)/\f=lastOf al (a k) 13/\r.length<=4000/\Mil.Fault r k at_)\/(4000 < r.length/\f=lastOf al (a 1) 13/\at_=-1)
def PlPost (al a:Nat->Addr) (r:Mil.Bytes) (w:World) (e:Ending) (w':World):Prop:=
 Below w.heap.size w w' /\
 ((∃l t,e=.returned (.tuple #[.pointer (some ⟨t,0,none⟩),.agg #[.int .i64 0,.int .i64 0]])/\Mil.Parsed r l/\TreeAt w' l t) \/
  (∃f at_,f≠0/\e=.returned (.tuple #[.pointer none,.agg #[.int .i64 f,.int .i64 at_]])/\(∀l,¬Mil.Parsed r l)/\PlF al a r f at_))
theorem TreeAt.below {w w':World} {l:List Mil.It} {t:Nat} (h:TreeAt w l t) (hb:Below w.heap.size w w'):TreeAt w' l t:=by
 obtain⟨b,o,n,c,h1,h2⟩:=h
 have hk:Kp (w.heap.size) w w':=Kp.of_below (b:=w.heap.size) hb
 have h3:Kp b w w':=⟨hk.os,hk.tape,hk.output,hk.size,fun k h1 _=>hb.block k h1⟩
 exact⟨b,o,n,c,(hb.block t (ags h1).1).trans h1,h2.kept h3 nlr⟩
structure Pf (w W:World):Prop where
 b0:W.heap[w.heap.size]?=some (.cells #[.int .i64 0,.int .i64 0] 40 (0,0))
 bl:Below w.heap.size w W
theorem Pf.keep {w W W':World} (h:Pf w W) (k:Below W.heap.size W W'):Pf w W':=⟨(k.block _ (ags h.b0).1).trans h.b0,h.bl.trans (k.mono h.bl.size)⟩
theorem Pf.cells {w W:World} (h:Pf w W):W.cell? ⟨w.heap.size,0,none⟩=some (.int .i64 0)/\W.cell? ⟨w.heap.size,1,none⟩=some (.int .i64 0)/\∀o,W.frozen? ⟨w.heap.size,o,none⟩=false:=by
 refine⟨?_,?_,fun o=>?_⟩
 ·rw[cor W _ 0 _ _ _ h.b0];rfl
 ·rw[cor W _ 1 _ _ _ h.b0];rfl
 ·unfold World.frozen?;rw[h.b0];simp
theorem Pf.set {w W:World} (h:Pf w W) (u v:Value):Below w.heap.size w ((W.setCell ⟨w.heap.size,0,none⟩ u).setCell ⟨w.heap.size,1,none⟩ v):=
 (h.bl.setCell (p:=⟨w.heap.size,0,none⟩) nlr u).setCell (p:=⟨w.heap.size,1,none⟩) nlr v
theorem Pf.r0 {w W:World} (h:Pf w W) (u:Value):(W.setCell ⟨w.heap.size,0,none⟩ u).cell? ⟨w.heap.size,0,none⟩=some u:=World.cell?_setCell_same _ _ _ h.cells.1
theorem Pf.r1 {w W:World} (h:Pf w W) (u v:Value):((W.setCell ⟨w.heap.size,0,none⟩ u).setCell ⟨w.heap.size,1,none⟩ v).cell? ⟨w.heap.size,1,none⟩=some v:=
 World.cell?_setCell_same _ _ _ ((World.cell?_setCell_other _ ⟨w.heap.size,0,none⟩ ⟨w.heap.size,1,none⟩ _ (fun e=>by simp at e)).trans h.cells.2.1)
theorem TreeAt.set {W:World} {l:List Mil.It} {t b B:Nat} {o:Option Addr} {n c:Nat} (h1:W.heap[t]?=some (.cells #[.slice o n c] 113 (0,0))) (h2:Row W b l (.slice o n c)) (hB:W.heap[B]?=some (.cells #[.int .i64 0,.int .i64 0] 40 (0,0))) (hb:B<=b) (u v:Value) :
  TreeAt ((W.setCell ⟨B,0,none⟩ u).setCell ⟨B,1,none⟩ v) l t:=by
 have hne:t≠B:=fun e=>by
  subst e
  rw[h1] at hB
  simp at hB
 have hk:Kp B W ((W.setCell ⟨B,0,none⟩ u).setCell ⟨B,1,none⟩ v):=((Kp.refl B W).setCell 0 u).setCell 1 v
 exact⟨b,o,n,c,(hk.block t (ags h1).1 hne).trans h1,h2.kept hk hb⟩
theorem plainParse_any (al a:Nat->Addr) (hS:Same al a) (s:ByteArray) (w:World) (L:Laid a w) (E:Errs al w) :
  Calls Tryz.prog 15 #[.string s] w (PlPost al a s.data.toList w):=by
 have HE:=hid E
 have HS:=hid hS
 have HP0:Hid (Pf w (w.alloc (.cells #[.int .i64 0,.int .i64 0] 40))):=⟨han w _,brf.alloc nlr _⟩
 have HL0:Hid (Laid a (w.alloc (.cells #[.int .i64 0,.int .i64 0] 40))):=L.kept (Kp.of_below (b:=w.heap.size) (brf.alloc nlr _)) L.size
 have HZ:Hid (w.heap.size+1=(w.alloc (.cells #[.int .i64 0,.int .i64 0] 40)).heap.size):=by show _=_;simp
 clear L E hS
 go_enter Tryz.func15,Tryz.ntmps15
 go_wp2_with fail
 refine (parse_any a s _ HL0.out).mono ?_
 rintro e w1 ⟨hb1,⟨l,b,o,n,c,t,hbb,rfl,hp,ht,hR⟩|⟨k,at_,d,hk,rfl,hd,hno,hn4,hfl⟩|⟨rfl,hno,hn4⟩⟩
 ·have HP1:=hid (HP0.out.keep hb1)
  have HT:Hid (w1.heap[t]?=some (.cells #[.slice o n c] 113 (0,0))/\Row w1 b l (.slice o n c)/\w.heap.size<=b):=⟨ht,hR,by have:=HZ.out;omega⟩
  have HQ:=hid hp
  clear hb1 hbb hp ht hR HZ HL0 HP0
  go_wp2_with fail
  refine (fault_nil _).mono ?_
  rintro e w2 ⟨rfl,hb2⟩
  have HP2:=hid (HP1.out.keep hb2)
  have HT2:Hid (w2.heap[t]?=some (.cells #[.slice o n c] 113 (0,0))/\Row w2 b l (.slice o n c)/\w.heap.size<=b):=
   ⟨(hb2.block t (ags HT.out.1).1).trans HT.out.1,HT.out.2.1.kept (Kp.of_below (b:=b) hb2) nlr,HT.out.2.2⟩
  obtain⟨q0,q1,z⟩:=HP2.out.cells
  clear HP1 HT hb2
  go_wp2
  refine bodyPost_ret (v:=.tuple #[.pointer (some ⟨t,0,none⟩),.agg #[.int .i64 0,.int .i64 0]]) (by simp[results,Tryz.results15,go_sem,HP2.out.r0,HP2.out.r1]) rfl ⟨HP2.out.set _ _,Or.inl ⟨l,t,rfl,HQ.out,?_⟩⟩
  exact TreeAt.set HT2.out.1 HT2.out.2.1 HP2.out.b0 HT2.out.2.2 _ _
 ·have HP1:=hid (HP0.out.keep hb1)
  have HE1:=hid (HE.out.below HP1.out.bl)
  have HD:=hid hd
  have HK:Hid (∃c t,w1.heap[(a k).block]?=some (.cells c t (0,0))):=HS.out.row HE1.out hk
  have HN:=hid hno
  have HFL:Hid (PlF al a s.data.toList (lastOf al (a k) 13) at_):=Or.inl ⟨k,hk,rfl,hn4,hfl⟩
  clear hb1 hd hno hk hn4 hfl HZ HL0 HP0
  go_wp2_with fail
  refine (fault_diag al d at_ (a k) _ HE1.out HD.out HK.out).mono ?_
  rintro e w2 ⟨rfl,hb2⟩
  have HP2:=hid (HP1.out.keep hb2)
  obtain⟨q0,q1,z⟩:=HP2.out.cells
  have HF:Hid (lastOf al (a k) 13≠0):=by have:=last_pos al (a k) 13;show _≠_;omega
  generalize lastOf al (a k) 13=f at HF HFL ⊢
  clear HP1 HD HK HE1 hb2
  go_wp2
  exact bodyPost_ret (v:=.tuple #[.pointer none,.agg #[.int .i64 f,.int .i64 at_]]) (by simp[results,Tryz.results15,go_sem,HP2.out.r0,HP2.out.r1]) rfl ⟨HP2.out.set _ _,Or.inr ⟨f,at_,HF.out,rfl,HN.out,HFL.out⟩⟩
 ·have HP1:=hid (HP0.out.keep hb1)
  have HE1:=hid (HE.out.below HP1.out.bl)
  have HK:Hid (∃c t,w1.heap[(a 1).block]?=some (.cells c t (0,0))):=HS.out.row HE1.out (Or.inl rfl)
  have HN:=hid hno
  have HFL:Hid (PlF al a s.data.toList (lastOf al (a 1) 13) (-1)):=Or.inr ⟨hn4,rfl,rfl⟩
  clear hb1 hno hn4 HZ HL0 HP0
  go_wp2_with fail
  refine (fault_err al (a 1) _ HE1.out HK.out).mono ?_
  rintro e w2 ⟨rfl,hb2⟩
  have HP2:=hid (HP1.out.keep hb2)
  obtain⟨q0,q1,z⟩:=HP2.out.cells
  have HF:Hid (lastOf al (a 1) 13≠0):=by have:=last_pos al (a 1) 13;show _≠_;omega
  generalize lastOf al (a 1) 13=f at HF HFL ⊢
  clear HP1 HK HE1 hb2
  go_wp2
  exact bodyPost_ret (v:=.tuple #[.pointer none,.agg #[.int .i64 f,.int .i64 (-1)]]) (by simp[results,Tryz.results15,go_sem,HP2.out.r0,HP2.out.r1]) rfl ⟨HP2.out.set _ _,Or.inr ⟨f,-1,HF.out,rfl,HN.out,HFL.out⟩⟩
end
end Go.Proofs.YtoiajojadihpbaaGreatDoor
