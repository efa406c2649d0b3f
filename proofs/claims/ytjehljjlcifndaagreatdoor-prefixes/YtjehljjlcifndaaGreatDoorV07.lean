import Derived.Test.YtjehljjlcifndaaGreatDoorV06
import Derived.Test.YtjehljjlcifndaaGreatDoorV02
import Derived.Test.YtjehljjlcifndaaGreatDoorV03
namespace Go.Proofs.YtjehljjlcifndaaGreatDoor
set_option maxHeartbeats 32000000
set_option maxRecDepth 100000
section
open Go.RowKit
variable {x:ByteArray} {q:Int} {k o:Nat} {W u v w:World}
theorem clone_any (x:ByteArray) (hx:x.size<=4000) (w:World):Calls Tryz.prog 177 #[.string x] w fun e w'=>e=.returned (.string x)/\Below w.heap.size w w':=by
 go_enter Tryz.func177,Tryz.ntmps177
 go_wp2_with fail
 refine (Tryz.stringslite_Clone x w (by omega)).mono ?_
 rintro e w1 ⟨rfl,hb⟩
 go_wp2
 go_ret
 exact⟨rfl,hb⟩
theorem zbs (h:Below W.heap.size W u) (k:Below u.heap.size u v):Below W.heap.size W v:=h.trans (k.mono h.size)
def NewTwo (w:World) (k:Nat):Prop:=w.cell? ⟨k,0,none⟩=some (.int .i64 0)/\w.cell? ⟨k,1,none⟩=some (.string ⟨#[]⟩)/\w.frozen? ⟨k,0,none⟩=false/\w.frozen? ⟨k,1,none⟩=false
theorem new_at (u:World):NewTwo (u.alloc (.cells #[.int .i64 0,.string ⟨#[]⟩] 119)) u.heap.size:=by
 have hn:=han u (.cells #[.int .i64 0,.string ⟨#[]⟩] 119)
 refine⟨(cor _ _ 0 _ _ _ hn).trans rfl,(cor _ _ 1 _ _ _ hn).trans rfl,?_,?_⟩
 ·unfold World.frozen?;rw[hn];simp
 ·unfold World.frozen?;rw[hn];simp
theorem new_row (hn:w.heap[k]?=some (.cells #[.int .i64 0,.string ⟨#[]⟩] 119 (0,0))):NewTwo w k:=by
 refine⟨(cor _ _ 0 _ _ _ hn).trans rfl,(cor _ _ 1 _ _ _ hn).trans rfl,?_,?_⟩
 ·unfold World.frozen?;rw[hn];simp
 ·unfold World.frozen?;rw[hn];simp
theorem zaw {u v:Value} (h:w.cell? ⟨k,o,none⟩=some u):(w.setCell ⟨k,o,none⟩ v).cell? ⟨k,o,none⟩=some v:=World.cell?_setCell_same _ _ _ h
theorem zaf {q:Nat} {u v:Value} (h:w.cell? ⟨k,o,none⟩=some u) (hn:q≠o):(w.setCell ⟨k,q,none⟩ v).cell? ⟨k,o,none⟩=some u:=(World.cell?_setCell_other _ ⟨k,q,none⟩ ⟨k,o,none⟩ _ (fun e=>hn (by cases e;rfl))).trans h
theorem old_kept (h:Below u.heap.size u v) (q:NewTwo u k):NewTwo v k:=by
 have hk:=zab q.1
 exact⟨(h.cell (p:=⟨k,0,none⟩) hk).trans q.1,(h.cell (p:=⟨k,1,none⟩) hk).trans q.2.1,(h.frozen (p:=⟨k,0,none⟩) hk).trans q.2.2.1,(h.frozen (p:=⟨k,1,none⟩) hk).trans q.2.2.2⟩
theorem alloc_done {ty:TypeId} (h:Below W.heap.size W u):Below W.heap.size W (u.alloc (.cells #[.int .i64 q,.string x] ty))/\(u.alloc (.cells #[.int .i64 q,.string x] ty)).cell? ⟨u.heap.size,0,none⟩=some (.int .i64 q)/\(u.alloc (.cells #[.int .i64 q,.string x] ty)).cell? ⟨u.heap.size,1,none⟩=some (.string x)/\W.heap.size<=u.heap.size:=
 ⟨h.alloc h.size _,by simp,by simp,h.size⟩
theorem two_done (h:Below W.heap.size W u) (hk:W.heap.size<=k) (n:NewTwo u k) :
  Below W.heap.size W ((u.setCell ⟨k,0,none⟩ (.int .i64 q)).setCell ⟨k,1,none⟩ (.string x))/\((u.setCell ⟨k,0,none⟩ (.int .i64 q)).setCell ⟨k,1,none⟩ (.string x)).cell? ⟨k,0,none⟩=some (.int .i64 q)/\((u.setCell ⟨k,0,none⟩ (.int .i64 q)).setCell ⟨k,1,none⟩ (.string x)).cell? ⟨k,1,none⟩=some (.string x)/\W.heap.size<=k:=by
 have e0:=World.cell?_setCell_same u ⟨k,0,none⟩ (.int .i64 q) n.1
 have e1:=(World.cell?_setCell_other u ⟨k,0,none⟩ ⟨k,1,none⟩ (.int .i64 q) (fun e=>by cases e)).trans n.2.1
 refine⟨(h.setCell (p:=⟨k,0,none⟩) hk _).setCell (p:=⟨k,1,none⟩) hk _,(World.cell?_setCell_other _ ⟨k,1,none⟩ ⟨k,0,none⟩ _ (fun e=>by cases e)).trans e0,World.cell?_setCell_same _ _ _ e1,hk⟩
def NmPost (r:Option (Mil.Bytes×Mil.St)) (z:Mil.Rz (Mil.Bytes×Mil.St)) (q:Int) (a:Nat->Addr) (b:Nat) (s:ByteArray) (w:World) (e:Ending) (w':World):Prop:=
 Kp b w w'/\((∃x st,e=.returned (.agg #[.int .i64 q,.string (bs x)])/\r=some (x,st)/\RdS w' b s st)\/Threw (fun k p=>z=.bad k p) a e w')
theorem zd5 (a:Nat->Addr) (b:Nat) (s:ByteArray) (st:Mil.St) (w:World) (L:Laid a w) (hb:23<=b) (h:RdS w b s st) (hs:s.size<=4000) :
  Calls Tryz.prog 146 #[.pointer (some ⟨b,0,none⟩)] w (NmPost (Mil.name st) (Mil.nameZ s.size st) (place s.size st) a b s w):=by
 have HBW:Hid (Below w.heap.size w (w.alloc (.cells #[.int .i64 0,.string ⟨#[]⟩] 119))):=brf.alloc nlr _
 have HNW:Hid ((w.alloc (.cells #[.int .i64 0,.string ⟨#[]⟩] 119)).heap[w.heap.size]?=some (.cells #[.int .i64 0,.string ⟨#[]⟩] 119 (0,0))):=han w _
 have hbw:b < w.heap.size:=by
  obtain⟨p,tp,x,hp,hR,_⟩:=h
  exact zab hR.c0
 have H:Hid (RdS (w.alloc (.cells #[.int .i64 0,.string ⟨#[]⟩] 119)) b s st):=h.kept (Kp.of_below (b:=b+1) HBW.out) (by omega)
 have HL:=hid (L.kept (Kp.of_below (b:=b) HBW.out) hb)
 obtain⟨p,tp,x,hp,hR,hr,hx,hn⟩:=H.out
 have c3:=hR.c3
 have hxs:x.size<=4000:=by
  have e:x.size=x.data.toList.length:=by simp
  rw[e,hx];exact hn.2.1
 have HX:Hid (x=bs st.tok.txt):=by rw[<-hx];exact (bs_of x).symm
 have C5:=hid hR.c5
 clear hR hr hx L h hn hp
 by_cases h1:st.tok.kind=1
 ·have hk1:(((st.tok.kind:Nat):Int) != 1)=false:=by simp;omega
  have HZ:Hid (Mil.nameZ s.size st=(Mil.advZ s.size st).map fun s1=>(st.tok.txt,s1)):=by unfold Mil.nameZ;rw[if_pos h1];rfl
  have HM:Hid (Mil.name st=(Mil.adv st).map fun s1=>(st.tok.txt,s1)):=by unfold Mil.name;rw[if_pos h1];rfl
  clear h1
  go_enter Tryz.func146,Tryz.ntmps146
  go_wp2_with fail
  have HBL:=hid hbw
  have HW:Hid (w.heap.size < (w.alloc (.cells #[.int .i64 0,.string ⟨#[]⟩] 119)).heap.size):=by show _ < _;simp
  generalize w.alloc (.cells #[.int .i64 0,.string ⟨#[]⟩] 119)=W at HBW HNW H HL c3 C5 HW ⊢
  have KR:Hid (∀w',Below W.heap.size W w'->RdS w' b s st):=fun w' hb'=>H.out.kept (Kp.of_below (b:=b+1) hb') (by omega)
  have k5:∀w',Below W.heap.size W w'->w'.cell? ⟨b,5,none⟩=some (.string x):=fun w' hb'=>(hb'.cell (zab C5.out)).trans C5.out
  have B0:Hid (Below W.heap.size W W.drew):=brf.drew
  clear c3
  refine zax (fun w'=>w'.cell? ⟨b,5,none⟩=some (.string x)/\Below W.heap.size W w') (by kernel_rfl) ⟨k5 _ B0.out,B0.out⟩ (fun hS=>?_)
  refine hu 0 (v:=?_) rfl (by kernel_rfl) (fun _ _ _ h=>h) (Or.inl ⟨by rfl,?_⟩) (by assumption) ?_
  rotate_left 1
  ·(intro w' hSw;(try dsimp only at hSw);go_simp <;> with_reducible rfl)
  try simp only[Act.put,sa,sz,sn]
  refine hu 2 (v:=?_) rfl (by kernel_rfl) (fun _ _ _ h=>h) (Or.inl ⟨by rfl,?_⟩) (by assumption) ?_
  rotate_left 1
  ·(intro w' hSw;(try dsimp only at hSw);go_simp <;> with_reducible rfl)
  try simp only[Act.put,sa,sz,sn]
  refine hu 3 (v:=?_) rfl (by kernel_rfl) (fun _ _ _ h=>h) (Or.inl ⟨by rfl,?_⟩) (by assumption) ?_
  rotate_left 1
  ·(intro w' hSw;(try dsimp only at hSw);go_simp <;> with_reducible rfl)
  try simp only[Act.put,sa,sz,sn]
  refine hu 4 (v:=?_) rfl (by kernel_rfl) (fun _ _ _ h=>h) (Or.inl ⟨by rfl,?_⟩) (by assumption) ?_
  rotate_left 1
  ·(intro w' hSw;(try dsimp only at hSw);go_simp <;> with_reducible rfl)
  try simp only[Act.put,sa,sz,sn]
  refine hu 5 (v:=?_) rfl (by kernel_rfl) (fun _ _ _ h=>h) (Or.inl ⟨by rfl,?_⟩) (by assumption) ?_
  rotate_left 1
  ·(intro w' hSw;(try dsimp only at hSw);go_simp <;> with_reducible rfl)
  try simp only[Act.put,sa,sz,sn]
  refine hu 6 (v:=?_) rfl (by kernel_rfl) (fun _ _ _ h=>h) (Or.inl ⟨by rfl,?_⟩) (by assumption) ?_
  rotate_left 1
  ·(intro w' hSw;(try dsimp only at hSw);go_simp <;> with_reducible rfl)
  try simp only[Act.put,sa,sz,sn]
  refine held_two 1 9 (by kernel_rfl) rfl rfl (fun K hK=>?_) (fun K hK=>?_)
  ·go_simp
   refine (zaq b s st _ (KR.out _ B0.out)).mono ?_
   rintro e w1 ⟨rfl,qw1⟩
   have Bw1:Hid (Below W.heap.size W w1):=zbs B0.out qw1
   refine hK.out _ _ ⟨k5 _ Bw1.out,Bw1.out⟩ (fun hS=>?_)
   clear hK K
   try simp only[Act.put,sa,sz,sn]
   refine held_two 7 9 (by kernel_rfl) rfl rfl (fun K hK=>?_) (fun K hK=>?_)
   ·go_simp
    refine (clone_any x hxs _).mono ?_
    rintro e w2 ⟨rfl,qw2⟩
    have Bw2:Hid (Below W.heap.size W w2):=zbs Bw1.out qw2
    refine hK.out _ _ ⟨k5 _ Bw2.out,Bw2.out⟩ (fun hS=>?_)
    clear hK K
    try simp only[Act.put,sa,sz,sn]
    refine hu 8 (v:=?_) rfl (by kernel_rfl) (fun _ _ _ h=>h) (Or.inl ⟨by rfl,?_⟩) (by assumption) ?_
    rotate_left 1
    ·(intro w' hSw;(try dsimp only at hSw);go_simp <;> with_reducible rfl)
    try simp only[Act.put,sa,sz,sn]
    refine zav 9 (by kernel_rfl) rfl (fun K hK=>?_)
    go_simp
    have Bn:Hid (Below W.heap.size W (w2.alloc (.cells #[.int .i64 0,.string ⟨#[]⟩] 119))):=Bw2.out.alloc Bw2.out.size _
    refine hK.out _ _ ⟨k5 _ Bn.out,Bn.out⟩ (fun hS=>?_)
    clear hK K
    try simp only[Act.put,sa,sz,sn]
    have HT:=alloc_done (x:=x) (q:=place s.size st) (ty:=119) Bw2.out
    refine zav 10 (by kernel_rfl) rfl (fun K hK=>?_)
    go_simp
    refine hK.out _ _ ⟨k5 _ HT.1,HT.1⟩ (fun hS=>?_)
    clear hK K
    try simp only[Act.put,sa,sz,sn]
    refine wpAnyH_done (by kernel_rfl) ?_ _
    have HF:=hid HT
    clear HT hS Bn Bw2 qw2 Bw1 qw1
    generalize w2.heap.size=n at HF ⊢
    generalize w2.alloc (.cells #[.int .i64 (place s.size st),.string x] 119)=w5 at HF ⊢
    clear k5
    have HLn:=hid HF.out.2.2.2
    clear hbw hxs
    go_wp2_with fail
    refine (zbh a b s st w5 (HL.out.kept (Kp.of_below (b:=b) HF.out.1) hb) hb (KR.out _ HF.out.1) hs).mono ?_
    rintro e w6 ⟨hk,(⟨st',rfl,g1,g2⟩|⟨k,at_,hkk,d,rfl,hd,hno⟩)⟩
    ·have HNB:Hid (n≠b):=by have:=HW.out;have:=HLn.out;have:=HBL.out;show _≠_;omega
     have c0:w6.cell? ⟨n,0,none⟩=some (.int .i64 (place s.size st)):=hk.held HF.out.2.1 HNB.out
     have c1:w6.cell? ⟨n,1,none⟩=some (.string x):=hk.held HF.out.2.2.1 HNB.out
     have HRB:Hid (w.heap.size≠b):=by have:=HBL.out;show _≠_;omega
     have HN5:w5.heap[w.heap.size]?=some (.cells #[.int .i64 0,.string ⟨#[]⟩] 119 (0,0)):=(HF.out.1.block _ (ags HNW.out).1).trans HNW.out
     have HN6:w6.heap[w.heap.size]?=some (.cells #[.int .i64 0,.string ⟨#[]⟩] 119 (0,0)):=(hk.block _ (ags HN5).1 HRB.out).trans HN5
     obtain⟨u0,u1,u2,u3⟩:=new_row HN6
     have HK:Hid (Kp b w w6):=(Kp.of_below HBW.out).trans ((Kp.of_below HF.out.1).trans hk)
     have G1:=hid g1
     have G2:=hid g2
     clear HN5 HN6 hk g1 g2
     go_wp2
     have e0:=zaf (v:=.string x) (zaw (v:=.int .i64 (place s.size st)) u0) (by decide:1≠0)
     have e1:=zaw (v:=.string x) (zaf (v:=.int .i64 (place s.size st)) u1 (by decide:0≠1))
     refine bodyPost_ret (v:=.agg #[.int .i64 (place s.size st),.string x]) (by simp[results,Tryz.results146,go_sem,e0,e1]) rfl ⟨(HK.out.setNew nlr 0 _).setNew nlr 1 _,Or.inl ⟨st.tok.txt,st',by rw[HX.out],by rw[HM.out,G1.out];rfl,?_⟩⟩
     exact G2.out.kept (((Kp.refl w.heap.size w6).setCell 0 _).setCell 1 _) (fun e=>HRB.out e.symm)
    ·go_wp2
     exact⟨rfl,(Kp.of_below HBW.out).trans ((Kp.of_below HF.out.1).trans hk),Or.inr ⟨k,at_,hkk,d,rfl,hd,by rw[HZ.out,hno];rfl⟩⟩
   ·go_simp
    have Bn:Hid (Below W.heap.size W (w1.alloc (.cells #[.int .i64 0,.string ⟨#[]⟩] 119))):=Bw1.out.alloc Bw1.out.size _
    refine hK.out _ _ ⟨k5 _ Bn.out,Bn.out⟩ (fun hS=>?_)
    clear hK K
    try simp only[Act.put,sa,sz,sn]
    refine zav 7 (by kernel_rfl) rfl (fun K hK=>?_)
    go_simp
    refine (clone_any x hxs _).mono ?_
    rintro e w2 ⟨rfl,qw2⟩
    have Bw2:Hid (Below W.heap.size W w2):=zbs Bn.out qw2
    refine hK.out _ _ ⟨k5 _ Bw2.out,Bw2.out⟩ (fun hS=>?_)
    clear hK K
    try simp only[Act.put,sa,sz,sn]
    refine hu 8 (v:=?_) rfl (by kernel_rfl) (fun _ _ _ h=>h) (Or.inl ⟨by rfl,?_⟩) (by assumption) ?_
    rotate_left 1
    ·(intro w' hSw;(try dsimp only at hSw);go_simp <;> with_reducible rfl)
    try simp only[Act.put,sa,sz,sn]
    have HT:=two_done (x:=x) (q:=place s.size st) Bw2.out Bw1.out.size (old_kept qw2 (new_at w1))
    obtain⟨u0,u1,u2,u3⟩:=old_kept qw2 (new_at w1)
    refine zav 10 (by kernel_rfl) rfl (fun K hK=>?_)
    go_simp
    refine hK.out _ _ ⟨k5 _ HT.1,HT.1⟩ (fun hS=>?_)
    clear hK K
    try simp only[Act.put,sa,sz,sn]
    refine wpAnyH_done (by kernel_rfl) ?_ _
    have HF:=hid HT
    clear HT hS u0 u1 u2 u3 Bn Bw2 qw2 Bw1 qw1
    generalize w1.heap.size=n at HF ⊢
    generalize (w2.setCell ⟨n,0,none⟩ (.int .i64 (place s.size st))).setCell ⟨n,1,none⟩ (.string x)=w5 at HF ⊢
    clear k5
    have HLn:=hid HF.out.2.2.2
    clear hbw hxs
    go_wp2_with fail
    refine (zbh a b s st w5 (HL.out.kept (Kp.of_below (b:=b) HF.out.1) hb) hb (KR.out _ HF.out.1) hs).mono ?_
    rintro e w6 ⟨hk,(⟨st',rfl,g1,g2⟩|⟨k,at_,hkk,d,rfl,hd,hno⟩)⟩
    ·have HNB:Hid (n≠b):=by have:=HW.out;have:=HLn.out;have:=HBL.out;show _≠_;omega
     have c0:w6.cell? ⟨n,0,none⟩=some (.int .i64 (place s.size st)):=hk.held HF.out.2.1 HNB.out
     have c1:w6.cell? ⟨n,1,none⟩=some (.string x):=hk.held HF.out.2.2.1 HNB.out
     have HRB:Hid (w.heap.size≠b):=by have:=HBL.out;show _≠_;omega
     have HN5:w5.heap[w.heap.size]?=some (.cells #[.int .i64 0,.string ⟨#[]⟩] 119 (0,0)):=(HF.out.1.block _ (ags HNW.out).1).trans HNW.out
     have HN6:w6.heap[w.heap.size]?=some (.cells #[.int .i64 0,.string ⟨#[]⟩] 119 (0,0)):=(hk.block _ (ags HN5).1 HRB.out).trans HN5
     obtain⟨u0,u1,u2,u3⟩:=new_row HN6
     have HK:Hid (Kp b w w6):=(Kp.of_below HBW.out).trans ((Kp.of_below HF.out.1).trans hk)
     have G1:=hid g1
     have G2:=hid g2
     clear HN5 HN6 hk g1 g2
     go_wp2
     have e0:=zaf (v:=.string x) (zaw (v:=.int .i64 (place s.size st)) u0) (by decide:1≠0)
     have e1:=zaw (v:=.string x) (zaf (v:=.int .i64 (place s.size st)) u1 (by decide:0≠1))
     refine bodyPost_ret (v:=.agg #[.int .i64 (place s.size st),.string x]) (by simp[results,Tryz.results146,go_sem,e0,e1]) rfl ⟨(HK.out.setNew nlr 0 _).setNew nlr 1 _,Or.inl ⟨st.tok.txt,st',by rw[HX.out],by rw[HM.out,G1.out];rfl,?_⟩⟩
     exact G2.out.kept (((Kp.refl w.heap.size w6).setCell 0 _).setCell 1 _) (fun e=>HRB.out e.symm)
    ·go_wp2
     exact⟨rfl,(Kp.of_below HBW.out).trans ((Kp.of_below HF.out.1).trans hk),Or.inr ⟨k,at_,hkk,d,rfl,hd,by rw[HZ.out,hno];rfl⟩⟩
  ·go_simp
   have Bn:Hid (Below W.heap.size W (W.drew.alloc (.cells #[.int .i64 0,.string ⟨#[]⟩] 119))):=B0.out.alloc B0.out.size _
   refine hK.out _ _ ⟨k5 _ Bn.out,Bn.out⟩ (fun hS=>?_)
   clear hK K
   try simp only[Act.put,sa,sz,sn]
   refine zav 1 (by kernel_rfl) rfl (fun K hK=>?_)
   go_simp
   refine (zaq b s st _ (KR.out _ Bn.out)).mono ?_
   rintro e w1 ⟨rfl,qw1⟩
   have Bw1:Hid (Below W.heap.size W w1):=zbs Bn.out qw1
   refine hK.out _ _ ⟨k5 _ Bw1.out,Bw1.out⟩ (fun hS=>?_)
   clear hK K
   try simp only[Act.put,sa,sz,sn]
   refine zav 7 (by kernel_rfl) rfl (fun K hK=>?_)
   go_simp
   refine (clone_any x hxs _).mono ?_
   rintro e w2 ⟨rfl,qw2⟩
   have Bw2:Hid (Below W.heap.size W w2):=zbs Bw1.out qw2
   refine hK.out _ _ ⟨k5 _ Bw2.out,Bw2.out⟩ (fun hS=>?_)
   clear hK K
   try simp only[Act.put,sa,sz,sn]
   refine hu 8 (v:=?_) rfl (by kernel_rfl) (fun _ _ _ h=>h) (Or.inl ⟨by rfl,?_⟩) (by assumption) ?_
   rotate_left 1
   ·(intro w' hSw;(try dsimp only at hSw);go_simp <;> with_reducible rfl)
   try simp only[Act.put,sa,sz,sn]
   have NK:NewTwo w2 W.heap.size:=old_kept qw2 (old_kept qw1 (new_at W.drew))
   have HT:=two_done (x:=x) (q:=place s.size st) Bw2.out (Nat.le_refl W.heap.size) (NK)
   obtain⟨u0,u1,u2,u3⟩:=NK
   refine zav 10 (by kernel_rfl) rfl (fun K hK=>?_)
   go_simp
   refine hK.out _ _ ⟨k5 _ HT.1,HT.1⟩ (fun hS=>?_)
   clear hK K
   try simp only[Act.put,sa,sz,sn]
   refine wpAnyH_done (by kernel_rfl) ?_ _
   have HF:=hid HT
   clear HT hS u0 u1 u2 u3 Bn Bw2 qw2 Bw1 qw1
   generalize (w2.setCell ⟨W.heap.size,0,none⟩ (.int .i64 (place s.size st))).setCell ⟨W.heap.size,1,none⟩ (.string x)=w5 at HF ⊢
   clear k5
   have HLn:=hid HF.out.2.2.2
   clear hbw hxs
   go_wp2_with fail
   refine (zbh a b s st w5 (HL.out.kept (Kp.of_below (b:=b) HF.out.1) hb) hb (KR.out _ HF.out.1) hs).mono ?_
   rintro e w6 ⟨hk,(⟨st',rfl,g1,g2⟩|⟨k,at_,hkk,d,rfl,hd,hno⟩)⟩
   ·have HNB:Hid (W.heap.size≠b):=by have:=HW.out;have:=HLn.out;have:=HBL.out;show _≠_;omega
    have c0:w6.cell? ⟨W.heap.size,0,none⟩=some (.int .i64 (place s.size st)):=hk.held HF.out.2.1 HNB.out
    have c1:w6.cell? ⟨W.heap.size,1,none⟩=some (.string x):=hk.held HF.out.2.2.1 HNB.out
    have HRB:Hid (w.heap.size≠b):=by have:=HBL.out;show _≠_;omega
    have HN5:w5.heap[w.heap.size]?=some (.cells #[.int .i64 0,.string ⟨#[]⟩] 119 (0,0)):=(HF.out.1.block _ (ags HNW.out).1).trans HNW.out
    have HN6:w6.heap[w.heap.size]?=some (.cells #[.int .i64 0,.string ⟨#[]⟩] 119 (0,0)):=(hk.block _ (ags HN5).1 HRB.out).trans HN5
    obtain⟨u0,u1,u2,u3⟩:=new_row HN6
    have HK:Hid (Kp b w w6):=(Kp.of_below HBW.out).trans ((Kp.of_below HF.out.1).trans hk)
    have G1:=hid g1
    have G2:=hid g2
    clear HN5 HN6 hk g1 g2
    go_wp2
    have e0:=zaf (v:=.string x) (zaw (v:=.int .i64 (place s.size st)) u0) (by decide:1≠0)
    have e1:=zaw (v:=.string x) (zaf (v:=.int .i64 (place s.size st)) u1 (by decide:0≠1))
    refine bodyPost_ret (v:=.agg #[.int .i64 (place s.size st),.string x]) (by simp[results,Tryz.results146,go_sem,e0,e1]) rfl ⟨(HK.out.setNew nlr 0 _).setNew nlr 1 _,Or.inl ⟨st.tok.txt,st',by rw[HX.out],by rw[HM.out,G1.out];rfl,?_⟩⟩
    exact G2.out.kept (((Kp.refl w.heap.size w6).setCell 0 _).setCell 1 _) (fun e=>HRB.out e.symm)
   ·go_wp2
    exact⟨rfl,(Kp.of_below HBW.out).trans ((Kp.of_below HF.out.1).trans hk),Or.inr ⟨k,at_,hkk,d,rfl,hd,by rw[HZ.out,hno];rfl⟩⟩
 ·have hk1:(((st.tok.kind:Nat):Int) != 1)=true:=by simp;omega
  have HZ:Hid (Mil.nameZ s.size st=.bad 3 (place s.size st)):=by unfold Mil.nameZ;rw[if_neg h1];rfl
  clear h1
  go_enter Tryz.func146,Tryz.ntmps146
  go_wp2_with fail
  refine (zb3 a b s st _ HL.out H.out).mono ?_
  rintro e w2 ⟨d,rfl,hd,hb2⟩
  go_wp2
  exact⟨rfl,Kp.of_below (HBW.out.trans (hb2.mono HBW.out.size)),Or.inr ⟨3,_,Or.inr (Or.inr (Or.inl rfl)),d,rfl,hd,HZ.out⟩⟩
end
section
open Go.RowKit
def NuPost (r:Option (Nat×Mil.St)) (z:Mil.Rz (Nat×Mil.St)) (a:Nat->Addr) (b:Nat) (s:ByteArray) (w:World) (e:Ending) (w':World):Prop:=
 Kp b w w'/\((∃k st,e=.returned (.int .i64 (k:Nat))/\r=some (k,st)/\RdS w' b s st)\/Threw (fun k p=>z=.bad k p) a e w')
theorem zc3 (a:Nat->Addr) (b:Nat) (s:ByteArray) (st:Mil.St) (lo hi:Int) (h0:0<=lo) (w:World) (L:Laid a w) (hb:23<=b) (h:RdS w b s st) (hs:s.size<=4000) :
  Calls Tryz.prog 149 #[.pointer (some ⟨b,0,none⟩),.int .i64 lo,.int .i64 hi] w (NuPost (Mil.number lo hi st) (Mil.numberZ s.size lo hi st) a b s w):=by
 have H:=hid h
 have HL:=hid L
 obtain⟨p,tp,x,hp,hR,hr,hx,hn⟩:=h
 have c3:=hR.c3
 have c6:=hR.c6
 clear hR hr hx L
 by_cases hc:st.tok.kind=2/\lo<=st.tok.val/\st.tok.val<=hi
 ·have HM:Hid (Mil.number lo hi st=(Mil.adv st).map fun s1=>(st.tok.val.toNat,s1)):=by unfold Mil.number;rw[if_pos hc];rfl
  have HZ:Hid (Mil.numberZ s.size lo hi st=(Mil.advZ s.size st).map fun s1=>(st.tok.val.toNat,s1)):=by unfold Mil.numberZ;rw[if_pos hc];rfl
  obtain⟨h2,hl,hh⟩:=hc
  have hk2:(((st.tok.kind:Nat):Int) != 2)=false:=by simp;omega
  have hl':¬st.tok.val < lo:=by omega
  have hh':¬hi < st.tok.val:=by omega
  have HV:Hid (((st.tok.val.toNat:Nat):Int)=st.tok.val):=by show _=_;omega
  clear h2 hl hh
  go_enter Tryz.func149,Tryz.ntmps149
  go_wp2_with fail
  refine (zbh a b s st _ HL.out hb H.out hs).mono ?_
  rintro e w2 ⟨hk,(⟨st',rfl,g1,g2⟩|⟨k,at_,hkk,d,rfl,hd,hno⟩)⟩
  ·go_wp2
   go_ret
   refine⟨hk,Or.inl ⟨st.tok.val.toNat,st',?_,?_,g2⟩⟩
   ·rw[HV.out];rfl
   ·rw[HM.out,g1];rfl
  ·go_wp2
   exact⟨rfl,hk,Or.inr ⟨k,at_,hkk,d,rfl,hd,by rw[HZ.out,hno];rfl⟩⟩
 ·have HZ:Hid (Mil.numberZ s.size lo hi st=.bad 3 (place s.size st)):=by unfold Mil.numberZ;rw[if_neg hc];rfl
  have HC:=hid hc
  clear hc
  have bad:∀(w2:World) (d:Nat),w2.heap[d]?=some (.cells #[.int .i64 (place s.size st),errV (a 3)] 90 (0,0))->Below w.heap.size w w2 ->
    NuPost (Mil.number lo hi st) (Mil.numberZ s.size lo hi st) a b s w (.panicked [{ v:=.iface 78 (.pointer (some ⟨d,0,none⟩)),recovered:=false }]) w2:=fun w2 d hd hb2=>
   ⟨Kp.of_below hb2,Or.inr ⟨3,_,Or.inr (Or.inr (Or.inl rfl)),d,rfl,hd,HZ.out⟩⟩
  have BAD:=hid bad
  clear bad
  by_cases h2:st.tok.kind=2
  ·have hk2:(((st.tok.kind:Nat):Int) != 2)=false:=by simp;omega
   by_cases hl:st.tok.val < lo
   ·clear h2
    go_enter Tryz.func149,Tryz.ntmps149
    go_wp2_with fail
    refine (zb3 a b s st _ HL.out H.out).mono ?_
    rintro e w2 ⟨d,rfl,hd,hb2⟩
    go_wp2
    exact⟨rfl,BAD.out w2 d hd hb2⟩
   ·have hh:hi < st.tok.val:=by
     rcases Int.lt_or_le hi st.tok.val with h'|h'
     ·exact h'
     ·exact absurd ⟨h2,by omega,h'⟩ HC.out
    clear h2
    go_enter Tryz.func149,Tryz.ntmps149
    go_wp2_with fail
    refine (zb3 a b s st _ HL.out H.out).mono ?_
    rintro e w2 ⟨d,rfl,hd,hb2⟩
    go_wp2
    exact⟨rfl,BAD.out w2 d hd hb2⟩
  ·have hk2:(((st.tok.kind:Nat):Int) != 2)=true:=by simp;omega
   clear h2
   go_enter Tryz.func149,Tryz.ntmps149
   go_wp2_with fail
   refine (zb3 a b s st _ HL.out H.out).mono ?_
   rintro e w2 ⟨d,rfl,hd,hb2⟩
   go_wp2
   exact⟨rfl,BAD.out w2 d hd hb2⟩
end
section
open Go.RowKit
variable {k:Nat} {w:World}
def opName (j:Nat):Mil.Bytes:=(opsTab.getD j ([],0,0,0)).1
def opBind (j:Nat):Int:=(opsTab.getD j ([],0,0,0)).2.1
def opWant (j:Nat):Int:=(opsTab.getD j ([],0,0,0)).2.2.1
def opGive (j:Nat):Int:=(opsTab.getD j ([],0,0,0)).2.2.2
theorem lt14 {i:Nat} (h:i < 14):i=0\/i=1\/i=2\/i=3\/i=4\/i=5\/i=6\/i=7\/i=8\/i=9\/i=10\/i=11\/i=12\/i=13:=by omega
theorem index_ops (j:Nat) (h:j < 14) (w:World):(Instr.index 277 (.agg opCells) (.int .i64 j)).run Tryz.prog w=.ok (.agg #[.string (bs (opName j)),.int .i64 (opBind j),.int .i64 (opWant j),.int .i64 (opGive j)]) w:=by
 rcases lt14 h with rfl|rfl|rfl|rfl|rfl|rfl|rfl|rfl|rfl|rfl|rfl|rfl|rfl|rfl <;> kernel_rfl
theorem op_tight (j:Nat) (h:j < 14):Mil.tightOf (opName j)≠9/\((Mil.tightOf (opName j):Nat):Int)=opBind j:=by
 rcases lt14 h with rfl|rfl|rfl|rfl|rfl|rfl|rfl|rfl|rfl|rfl|rfl|rfl|rfl|rfl <;> decide
theorem op_none {x:Mil.Bytes} (h:∀m,m < 14->opName m≠x):Mil.tightOf x=9:=by
 have g:∀(m:Nat) (y:Mil.Bytes),m < 14->opName m=y->x≠y:=fun m y hm e he=>h m hm (e.trans he.symm)
 unfold Mil.tightOf
 rw[if_neg,if_neg,if_neg,if_neg,if_neg]
 ·rintro (e|e|e)
  ·exact g 11 _ (by decide) rfl e
  ·exact g 12 _ (by decide) rfl e
  ·exact g 13 _ (by decide) rfl e
 ·rintro (e|e)
  ·exact g 9 _ (by decide) rfl e
  ·exact g 10 _ (by decide) rfl e
 ·rintro (e|e|e|e|e|e)
  ·exact g 3 _ (by decide) rfl e
  ·exact g 4 _ (by decide) rfl e
  ·exact g 5 _ (by decide) rfl e
  ·exact g 6 _ (by decide) rfl e
  ·exact g 7 _ (by decide) rfl e
  ·exact g 8 _ (by decide) rfl e
 ·exact fun e=>g 2 _ (by decide) rfl e
 ·rintro (e|e)
  ·exact g 0 _ (by decide) rfl e
  ·exact g 1 _ (by decide) rfl e
def tightGo (x:Mil.Bytes):Int:=if Mil.tightOf x=9 then -1 else (Mil.tightOf x:Nat)
def NewFour (w:World) (k:Nat):Prop:=w.heap[k]?=some (.cells #[.string ⟨#[]⟩,.int .i64 0,.int .i64 0,.int .i64 0] 253 (0,0))
theorem NewFour.facts (h:NewFour w k):w.cell? ⟨k,0,none⟩=some (.string ⟨#[]⟩)/\w.cell? ⟨k,1,none⟩=some (.int .i64 0)/\w.cell? ⟨k,2,none⟩=some (.int .i64 0)/\w.cell? ⟨k,3,none⟩=some (.int .i64 0) /\
  w.frozen? ⟨k,0,none⟩=false/\w.frozen? ⟨k,1,none⟩=false/\w.frozen? ⟨k,2,none⟩=false/\w.frozen? ⟨k,3,none⟩=false:=by
 unfold NewFour at h
 refine⟨(cor _ _ 0 _ _ _ h).trans rfl,(cor _ _ 1 _ _ _ h).trans rfl,(cor _ _ 2 _ _ _ h).trans rfl,(cor _ _ 3 _ _ _ h).trans rfl,?_,?_,?_,?_⟩
 all_goals (unfold World.frozen?;rw[h];simp)
theorem NewFour.later {w':World} (h:NewFour w k) (b:Below w.heap.size w w'):NewFour w' k:=(b.block _ (ags h).1).trans h
theorem below_four {u:World} (h:Below u.heap.size u w) (v0 v1 v2 v3:Value):Below u.heap.size u ((((w.setCell ⟨u.heap.size,0,none⟩ v0).setCell ⟨u.heap.size,1,none⟩ v1).setCell ⟨u.heap.size,2,none⟩ v2).setCell ⟨u.heap.size,3,none⟩ v3):=
 (((h.setCell (p:=⟨u.heap.size,0,none⟩) nlr _).setCell (p:=⟨u.heap.size,1,none⟩) nlr _).setCell (p:=⟨u.heap.size,2,none⟩) nlr _).setCell (p:=⟨u.heap.size,3,none⟩) nlr _
theorem operatorOf_any (a:Nat->Addr) (x:ByteArray) (w:World) (L:Laid a w) :
  Calls Tryz.prog 152 #[.string x] w fun e w'=>(∃(u:ByteArray) (v n:Int),e=.returned (.agg #[.string u,.int .i64 (tightGo x.data.toList),.int .i64 v,.int .i64 n]))/\Below w.heap.size w w':=by
 obtain⟨tq,ho⟩:=L.ops
 have hix:=fun (j:Nat) (h:j < 14) (w:World)=>index_ops j h w
 have HB0:Hid (Below w.heap.size w (w.alloc (.cells #[.string ⟨#[]⟩,.int .i64 0,.int .i64 0,.int .i64 0] 253))):=brf.alloc nlr _
 have HN0:Hid (NewFour (w.alloc (.cells #[.string ⟨#[]⟩,.int .i64 0,.int .i64 0,.int .i64 0] 253)) w.heap.size):=han w _
 have ho':(w.alloc (.cells #[.string ⟨#[]⟩,.int .i64 0,.int .i64 0,.int .i64 0] 253)).heap[17]?=some (.cells opCells tq (0,0)):=(HB0.out.block _ (ags ho).1).trans ho
 clear L ho
 go_enter Tryz.func152,Tryz.ntmps152
 go_wp2_with (refine wpList_load_row rfl 277 _ rfl 17 rfl tq _ (0,0) _ ho' Tryz.underlying277 rfl (by kernel_rfl) ?_)
 clear ho'
 go_loopg [6] 14 (fun g s6 wr=>∃j:Nat,j<=14/\s6=.int .i64 j/\g=14 - j/\Hid (Below w.heap.size w wr)/\Hid (NewFour wr w.heap.size)/\Hid (∀m,m < j->opName m≠x.data.toList))
 case atStart=>exact⟨0,by decide,rfl,rfl,HB0,HN0,fun m hm=>by omega⟩
 case round=>
  obtain⟨j,hj,rfl,hg,HB,HN,HW⟩:=hrel
  have HG:=hid hg
  clear hg
  by_cases hlt:j < 14
  ·have hi:=hix j hlt
   by_cases heq:opName j=x.data.toList
   ·have hbq:((bs (opName j)).toList==x.toList)=true:=by rw[Lib.toList_data,Lib.toList_data,zcb,heq];simp
    have HE:=hid heq
    clear heq
    have HN':Hid (NewFour (wr.alloc (.cells #[.string (bs (opName j)),.int .i64 (opBind j),.int .i64 (opWant j),.int .i64 (opGive j)] 253)) w.heap.size):=HN.out.later (brf.alloc nlr _)
    obtain⟨r0,r1,r2,r3,z0,z1,z2,z3⟩:=HN'.out.facts
    go_wp2
    have q0:=zaf (v:=.int .i64 (opGive j)) (zaf (v:=.int .i64 (opWant j)) (zaf (v:=.int .i64 (opBind j)) (zaw (v:=.string (bs (opName j))) r0) (by decide:1≠0)) (by decide:2≠0)) (by decide:3≠0)
    have q1:=zaf (v:=.int .i64 (opGive j)) (zaf (v:=.int .i64 (opWant j)) (zaw (v:=.int .i64 (opBind j)) (zaf (v:=.string (bs (opName j))) r1 (by decide:0≠1))) (by decide:2≠1)) (by decide:3≠1)
    have q2:=zaf (v:=.int .i64 (opGive j)) (zaw (v:=.int .i64 (opWant j)) (zaf (v:=.int .i64 (opBind j)) (zaf (v:=.string (bs (opName j))) r2 (by decide:0≠2)) (by decide:1≠2))) (by decide:3≠2)
    have q3:=zaw (v:=.int .i64 (opGive j)) (zaf (v:=.int .i64 (opWant j)) (zaf (v:=.int .i64 (opBind j)) (zaf (v:=.string (bs (opName j))) r3 (by decide:0≠3)) (by decide:1≠3)) (by decide:2≠3))
    refine bodyPost_ret (v:=.agg #[.string (bs (opName j)),.int .i64 (opBind j),.int .i64 (opWant j),.int .i64 (opGive j)]) (by simp[results,Tryz.results152,go_sem,q0,q1,q2,q3]) rfl ⟨⟨bs (opName j),opWant j,opGive j,?_⟩,below_four (HB.out.alloc HB.out.size _) _ _ _ _⟩
    have:=op_tight j hlt
    rw[<-HE.out,tightGo,if_neg this.1,this.2]
   ·have hbq:((bs (opName j)).toList==x.toList)=false:=by rw[Lib.toList_data,Lib.toList_data,zcb];simpa using heq
    have HE:=hid heq
    clear heq
    go_wp2
    go_roundg (14 - (j+1))
    case measure=>have:=HG.out;omega
    case rel=>
     refine⟨j+1,by omega,by go_num,rfl,HB.out.alloc HB.out.size _,?_,?_⟩
     ·exact HN.out.later (brf.alloc nlr _)
     intro m hm
     rcases Nat.lt_or_ge m j with h|h
     ·exact HW.out m h
     ·have:m=j:=by omega
      rw[this];exact HE.out
  ·obtain⟨r0,r1,r2,r3,z0,z1,z2,z3⟩:=HN.out.facts
   go_wp2
   have q0:=zaf (v:=.int .i64 0) (zaf (v:=.int .i64 0) (zaf (v:=.int .i64 (-1)) (zaw (v:=.string ⟨#[]⟩) r0) (by decide:1≠0)) (by decide:2≠0)) (by decide:3≠0)
   have q1:=zaf (v:=.int .i64 0) (zaf (v:=.int .i64 0) (zaw (v:=.int .i64 (-1)) (zaf (v:=.string ⟨#[]⟩) r1 (by decide:0≠1))) (by decide:2≠1)) (by decide:3≠1)
   have q2:=zaf (v:=.int .i64 0) (zaw (v:=.int .i64 0) (zaf (v:=.int .i64 (-1)) (zaf (v:=.string ⟨#[]⟩) r2 (by decide:0≠2)) (by decide:1≠2))) (by decide:3≠2)
   have q3:=zaw (v:=.int .i64 0) (zaf (v:=.int .i64 0) (zaf (v:=.int .i64 (-1)) (zaf (v:=.string ⟨#[]⟩) r3 (by decide:0≠3)) (by decide:1≠3)) (by decide:2≠3))
   refine bodyPost_ret (v:=.agg #[.string ⟨#[]⟩,.int .i64 (-1),.int .i64 0,.int .i64 0]) (by simp[results,Tryz.results152,go_sem,q0,q1,q2,q3]) rfl ⟨⟨⟨#[]⟩,0,0,?_⟩,below_four HB.out _ _ _ _⟩
   have:=op_none (x:=x.data.toList) (fun m hm=>HW.out m (by omega))
   rw[tightGo,if_pos this]
theorem zcn (a:Nat->Addr) (b:Nat) (s:ByteArray) (st:Mil.St) (l:Nat) (h1:1<=l) (h8:l<=8) (w:World) (L:Laid a w) (h:RdS w b s st) :
  Calls Tryz.prog 191 #[.pointer (some ⟨b,0,none⟩),.int .i64 l] w fun e w'=>e=.returned (.bool (decide (Mil.opAt st=l)))/\Below w.heap.size w w':=by
 have HL:=hid L
 obtain⟨p,tp,x,hp,hR,hr,hx,hn⟩:=h
 have c3:=hR.c3
 have c5:=hR.c5
 have HX:=hid hx
 clear hR hr hx L
 by_cases h3:st.tok.kind=3
 ·have hb:(((st.tok.kind:Nat):Int)==3)=true:=by simp;omega
  have HO:Hid (Mil.opAt st=Mil.tightOf st.tok.txt):=by unfold Mil.opAt;rw[if_pos h3];rfl
  clear h3
  go_enter Tryz.func191,Tryz.ntmps191
  go_wp2_with fail
  refine (operatorOf_any a x w HL.out).mono ?_
  rintro e w1 ⟨⟨u,v,n,rfl⟩,hb1⟩
  have HB1:=hid hb1
  clear hb1 c3 c5
  generalize hq:tightGo x.data.toList=q
  have HQ:=hid hq
  clear hq
  have hfd:∀w:World,(Instr.field 253 (.agg #[.string u,.int .i64 q,.int .i64 v,.int .i64 n]) 1).run Tryz.prog w=.ok (.int .i64 q) w:=fun w=>by kernel_rfl
  go_wp2
  go_ret
  refine⟨zb0 ?_,HB1.out⟩
  rw[<-HQ.out,HO.out,HX.out,tightGo,Bool.eq_iff_iff]
  by_cases h9:Mil.tightOf st.tok.txt=9
  ·rw[if_pos h9];simp;omega
  ·rw[if_neg h9];simp;omega
 ·have hb:(((st.tok.kind:Nat):Int)==3)=false:=by simp;omega
  have HO:Hid (Mil.opAt st=9):=by unfold Mil.opAt;rw[if_neg h3];rfl
  clear h3
  go_enter Tryz.func191,Tryz.ntmps191
  go_wp2
  go_ret
  refine⟨zb0 ?_,Below.refl _ _⟩
  rw[HO.out];symm;rw[decide_eq_false_iff_not];omega
def tyAt (j:Nat):Mil.Bytes:=[Mil.wInt,Mil.wBool].getD j []
theorem lt2 {j:Nat} (h:j < 2):j=0\/j=1:=by omega
theorem index_types (j:Nat) (h:j < 2) (w:World):(Instr.index 274 (.agg (strCells [Mil.wInt,Mil.wBool])) (.int .i64 j)).run Tryz.prog w=.ok (.string (bs (tyAt j))) w:=by
 rcases lt2 h with rfl|rfl <;> kernel_rfl
theorem ftype_at {st:Mil.St} (j:Nat) (hj:j < 2) (hy:Mil.sees st (tyAt j)=true) (hn:∀m,m < j->Mil.sees st (tyAt m)=false):Mil.ftype st=(Mil.adv st).map fun s1=>(j,s1):=by
 rcases lt2 hj with rfl|rfl
 ·unfold Mil.ftype
  rw[if_pos (show Mil.sees st Mil.wInt=true from hy)]
 ·unfold Mil.ftype
  have h0:Mil.sees st Mil.wInt=false:=hn 0 (by decide)
  rw[h0,if_neg (by decide),if_pos (show Mil.sees st Mil.wBool=true from hy)]
theorem ftypeZ_at (N:Nat) {st:Mil.St} (j:Nat) (hj:j < 2) (hy:Mil.sees st (tyAt j)=true) (hn:∀m,m < j->Mil.sees st (tyAt m)=false):Mil.ftypeZ N st=(Mil.advZ N st).map fun s1=>(j,s1):=by
 rcases lt2 hj with rfl|rfl
 ·unfold Mil.ftypeZ
  rw[if_pos (show Mil.sees st Mil.wInt=true from hy)]
 ·unfold Mil.ftypeZ
  have h0:Mil.sees st Mil.wInt=false:=hn 0 (by decide)
  rw[h0,if_neg (by decide),if_pos (show Mil.sees st Mil.wBool=true from hy)]
theorem ftype_none {N:Nat} {st:Mil.St} (hn:∀m,m < 2->Mil.sees st (tyAt m)=false):Mil.ftypeZ N st=.bad 3 (place N st):=by
 unfold Mil.ftypeZ
 have h0:Mil.sees st Mil.wInt=false:=hn 0 (by decide)
 have h1:Mil.sees st Mil.wBool=false:=hn 1 (by decide)
 rw[h0,h1,if_neg (by decide),if_neg (by decide)]
 rfl
theorem flowType_any (a:Nat->Addr) (b:Nat) (s:ByteArray) (st:Mil.St) (w:World) (L:Laid a w) (hb:23<=b) (h:RdS w b s st) (hs:s.size<=4000) :
  Calls Tryz.prog 148 #[.pointer (some ⟨b,0,none⟩)] w (NuPost (Mil.ftype st) (Mil.ftypeZ s.size st) a b s w):=by
 have H:=hid h
 have HL:=hid L
 obtain⟨tq,ho⟩:=L.types
 have hix:=fun (j:Nat) (h:j < 2) (w:World)=>index_types j h w
 clear h L
 go_enter Tryz.func148,Tryz.ntmps148
 go_wp2_with (refine wpList_load_row rfl 274 _ rfl 16 rfl tq _ (0,0) _ ho Tryz.underlying274 rfl (by kernel_rfl) ?_)
 clear ho
 go_loopg [6] 2 (fun g s6 wr=>∃j:Nat,j<=2/\s6=.int .i64 j/\g=2 - j/\wr=w/\Hid (∀m,m < j->Mil.sees st (tyAt m)=false))
 case atStart=>exact⟨0,by decide,rfl,rfl,rfl,fun m hm=>by omega⟩
 case round=>
  obtain⟨j,hj,rfl,hg,rfl,HW⟩:=hrel
  have HG:=hid hg
  clear hg
  by_cases hlt:j < 2
  ·have hi:=hix j hlt
   by_cases heq:Mil.sees st (tyAt j)=true
   ·have HM:Hid (Mil.ftype st=(Mil.adv st).map fun s1=>(j,s1)):=ftype_at j hlt heq HW.out
    have HZ:Hid (Mil.ftypeZ s.size st=(Mil.advZ s.size st).map fun s1=>(j,s1)):=ftypeZ_at s.size j hlt heq HW.out
    have HE:=hid heq
    clear heq
    go_wp2_with fail
    refine (za0 a b s st (bs (tyAt j)) _ HL.out hb H.out hs HE.out).mono ?_
    rintro e w1 ⟨hk,(⟨st',rfl,h1,h2⟩|⟨k,at_,hkk,d,rfl,hd,hno⟩)⟩
    ·go_wp2
     go_ret
     exact⟨hk,Or.inl ⟨j,st',rfl,by rw[HM.out,h1];rfl,h2⟩⟩
    ·go_wp2
     exact⟨rfl,hk,Or.inr ⟨k,at_,hkk,d,rfl,hd,by rw[HZ.out,hno];rfl⟩⟩
   ·have HE:=hid (Bool.eq_false_iff.2 heq)
    clear heq
    go_wp2_with fail
    refine (zal b s st (bs (tyAt j)) _ H.out HE.out).mono ?_
    rintro e w1 ⟨rfl,rfl⟩
    go_wp2
    go_roundg (2 - (j+1))
    case measure=>have:=HG.out;omega
    case rel=>
     refine⟨j+1,by omega,by go_num,rfl,rfl,?_⟩
     intro m hm
     rcases Nat.lt_or_ge m j with h|h
     ·exact HW.out m h
     ·have:m=j:=by omega
      rw[this];exact HE.out
  ·go_wp2_with fail
   refine (zb3 a b s st _ HL.out H.out).mono ?_
   rintro e w2 ⟨d,rfl,hd,hb2⟩
   go_wp2
   exact⟨rfl,Kp.of_below hb2,Or.inr ⟨3,_,Or.inr (Or.inr (Or.inl rfl)),d,rfl,hd,ftype_none (fun m hm=>HW.out m (by omega))⟩⟩
end
end Go.Proofs.YtjehljjlcifndaaGreatDoor
