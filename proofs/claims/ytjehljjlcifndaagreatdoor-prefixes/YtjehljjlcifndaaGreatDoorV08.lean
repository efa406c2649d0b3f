import Derived.Test.YtjehljjlcifndaaGreatDoorV07
import Derived.Test.YtjehljjlcifndaaGreatDoorV06
namespace Go.Proofs.YtjehljjlcifndaaGreatDoor
set_option maxHeartbeats 32000000
set_option maxRecDepth 100000
section
open Go.RowKit
def ev (N:Nat):Mip.E->Value
 | .nil=>.nilIface
 | .node 1 k x _ _=>.iface 183 (.agg #[.int .i64 ((N:Int) - (x.2:Nat)),.int .i64 (k:Nat)])
 | .node 2 k x _ _=>.iface 186 (.agg #[.int .i64 ((N:Int) - (x.2:Nat)),.bool (k==1)])
 | .node 3 _ x _ _=>.iface 119 (.agg #[.int .i64 ((N:Int) - (x.2:Nat)),.string (bs x.1)])
 | .node 4 _ x a _=>.iface 190 (.agg #[.int .i64 ((N:Int) - (x.2:Nat)),.string (bs x.1),ev N a])
 | .node 5 _ x a b=>.iface 193 (.agg #[.int .i64 ((N:Int) - (x.2:Nat)),.string (bs x.1),ev N a,ev N b])
 | .node 6 _ x a (.node _ _ _ b c)=>.iface 200 (.agg #[.int .i64 ((N:Int) - (x.2:Nat)),ev N a,ev N b,ev N c])
 | .node 7 _ x a b=>.iface 203 (.agg #[.int .i64 ((N:Int) - (x.2:Nat)),ev N a,ev N b])
 | .node 8 k x a _=>.iface 206 (.agg #[.int .i64 ((N:Int) - (x.2:Nat)),ev N a,.int .i64 (k:Nat)])
 | .node 9 k x a b=>.iface 209 (.agg #[.int .i64 ((N:Int) - (x.2:Nat)),ev N a,ev N b,.int .i64 (k:Nat)])
 | .node _ _ x a b=>.iface 198 (.agg #[.int .i64 ((N:Int) - (x.2:Nat)),.string (bs x.1),ev N a,ev N b])
def ExPost (R:Mip.E->Mil.St->Prop) (F:Nat->Int->Prop) (a:Nat->Addr) (b:Nat) (s:ByteArray) (w:World) (e:Ending) (w':World):Prop:=
 Kp b w w'/\((∃x st ty y,e=.returned (.iface ty y)/\ev s.size x=.iface ty y/\R x st/\RdS w' b s st)\/Threw F a e w')
theorem digits_any (a:Nat->Addr) (b:Nat) (s:ByteArray) (st:Mil.St) (w:World) (L:Laid a w) (hb:23<=b) (h:RdS w b s st) (hs:s.size<=4000) :
  Calls Tryz.prog 208 #[.pointer (some ⟨b,0,none⟩)] w (ExPost (fun x st'=>(Mil.number 0 9223372036854775807 st).map (fun x=>(Mip.eInt (Mip.off st) x.1,x.2))=some (x,st')) (fun k p=>Mil.numberZ s.size 0 9223372036854775807 st=.bad k p) a b s w):=by
 have H:=hid h
 have HL:=hid L
 clear h L
 go_enter Tryz.func208,Tryz.ntmps208
 go_wp2_with fail
 refine (zaq b s st _ H.out).mono ?_
 rintro e w0 ⟨rfl,hw0⟩
 have HV:Hid (Hd a b s st w (w0.alloc (.cells #[.int .i64 (place s.size st)] 117)) (place s.size st) w0.heap.size):=zam HL.out hb H.out hw0
 clear hw0
 go_wp2_with fail
 generalize w0.heap.size=kv at HV ⊢
 generalize w0.alloc (.cells #[.int .i64 (place s.size st)] 117)=v at HV ⊢
 clear H HL w0
 have H:=hid HV.out.rd
 have HL:=hid HV.out.laid
 refine zax (fun w'=>w'.cell? ⟨kv,0,none⟩=some (.int .i64 (place s.size st))) (by kernel_rfl) HV.out.cell (fun hS=>?_)
 refine hu 0 (v:=?_) rfl (by kernel_rfl) (fun _ _ _ h=>h) (Or.inl ⟨by rfl,?_⟩) (by assumption) ?_
 rotate_left 1
 ·(intro w' hSw;(try dsimp only at hSw);go_simp <;> with_reducible rfl)
 try simp only[Act.put,sa,sz,sn]
 refine hu 1 (v:=?_) rfl (by kernel_rfl) (fun _ _ _ h=>h) (Or.inl ⟨by rfl,?_⟩) (by assumption) ?_
 rotate_left 1
 ·(intro w' hSw;(try dsimp only at hSw);go_simp <;> with_reducible rfl)
 try simp only[Act.put,sa,sz,sn]
 refine zav 2 (by kernel_rfl) rfl (fun K hK=>?_)
 go_simp
 refine (zc3 a b s st 0 9223372036854775807 (by omega) _ (HL.out.kept (Kp.refl b v).drew hb) hb (H.out.kept (Kp.refl (b+1) v).drew (by omega)) hs).mono ?_
 rintro e w1 ⟨hk,(⟨k,st',rfl,h1,h2⟩|⟨k,at_,hkk,d,rfl,hd,hno⟩)⟩
 ·have H1:=hid h1
  have HK:Hid (Kp b v w1):=(Kp.refl b v).drew.trans hk
  have H2:=hid h2
  clear h1 hk h2 hS
  refine hK.out _ _ (HK.out.held HV.out.cell HV.out.ne) (fun hS=>?_)
  clear hK K
  try simp only[Act.put,sa,sz,sn]
  refine hu 3 (v:=?_) rfl (by kernel_rfl) (fun _ _ _ h=>h) (Or.inl ⟨by rfl,?_⟩) (by assumption) ?_
  rotate_left 1
  ·(intro w' hSw;(try dsimp only at hSw);go_simp <;> with_reducible rfl)
  try simp only[Act.put,sa,sz,sn]
  refine hu 4 (v:=?_) rfl (by kernel_rfl) (fun _ _ _ h=>h) (Or.inl ⟨by rfl,?_⟩) (by assumption) ?_
  rotate_left 1
  ·(intro w' hSw;(try dsimp only at hSw);go_simp <;> with_reducible rfl)
  try simp only[Act.put,sa,sz,sn]
  refine hu 5 (v:=?_) rfl (by kernel_rfl) (fun _ _ _ h=>h) (Or.inl ⟨by rfl,?_⟩) (by assumption) ?_
  rotate_left 1
  ·(intro w' hSw;(try dsimp only at hSw);go_simp <;> with_reducible rfl)
  try simp only[Act.put,sa,sz,sn]
  refine wpAnyH_done (by kernel_rfl) ?_ _
  clear hS
  go_wp2
  go_ret
  exact⟨HV.out.kp.trans HK.out,Or.inl ⟨Mip.eInt (Mip.off st) k,st',_,_,rfl,by rw[zat];rfl,by rw[H1.out];rfl,H2.out⟩⟩
 ·exact⟨rfl,HV.out.kp.trans ((Kp.refl b v).drew.trans hk),Or.inr ⟨k,at_,hkk,d,rfl,hd,hno⟩⟩
theorem literal_any (a:Nat->Addr) (b:Nat) (s:ByteArray) (st:Mil.St) (w:World) (L:Laid a w) (hb:23<=b) (h:RdS w b s st) (hs:s.size<=4000) :
  Calls Tryz.prog 202 #[.pointer (some ⟨b,0,none⟩)] w (ExPost (fun x st'=>Mip.literal st=some (x,st')) (fun k p=>Mil.literalZ s.size st=.bad k p) a b s w):=by
 have H:=hid h
 have HL:=hid L
 clear h L
 by_cases hT:Mil.sees st Mil.wTrue=true
 ·have HZ:Hid (Mil.literalZ s.size st=(Mil.advZ s.size st).map fun s1=>(Mil.eBool 1,s1)):=by unfold Mil.literalZ;rw[if_pos hT];rfl
  have HM:Hid (Mip.literal st=(Mil.adv st).map fun s1=>(Mip.eBool (Mip.off st) 1,s1)):=by unfold Mip.literal;rw[if_pos hT];rfl
  have HT:=hid hT
  clear hT
  go_enter Tryz.func202,Tryz.ntmps202
  go_wp2_with fail
  refine (zaq b s st _ H.out).mono ?_
  rintro e w0 ⟨rfl,hw0⟩
  have HV:Hid (Hd a b s st w (w0.alloc (.cells #[.int .i64 (place s.size st)] 117)) (place s.size st) w0.heap.size):=zam HL.out hb H.out hw0
  clear hw0
  go_wp2_with fail
  generalize w0.heap.size=kv at HV ⊢
  generalize w0.alloc (.cells #[.int .i64 (place s.size st)] 117)=v at HV ⊢
  clear H HL w0
  have H:=hid HV.out.rd
  have HL:=hid HV.out.laid
  refine (za0 a b s st (bs Mil.wTrue) _ HL.out hb H.out hs HT.out).mono ?_
  rintro e w1 ⟨hk,(⟨st',rfl,h1,h2⟩|⟨k,at_,hkk,d,rfl,hd,hno⟩)⟩
  ·have cv:w1.cell? ⟨kv,0,none⟩=some (.int .i64 (place s.size st)):=hk.held HV.out.cell HV.out.ne
   go_wp2
   go_ret
   exact⟨HV.out.kp.trans hk,Or.inl ⟨Mip.eBool (Mip.off st) 1,st',_,_,rfl,by rw[zat];rfl,by rw[HM.out,h1];rfl,h2⟩⟩
  ·go_wp2
   exact⟨rfl,HV.out.kp.trans hk,Or.inr ⟨k,at_,hkk,d,rfl,hd,by rw[HZ.out,hno];rfl⟩⟩
 ·have HT:=hid (Bool.eq_false_iff.2 hT)
  by_cases hF:Mil.sees st Mil.wFalse=true
  ·have HZ:Hid (Mil.literalZ s.size st=(Mil.advZ s.size st).map fun s1=>(Mil.eBool 0,s1)):=by unfold Mil.literalZ;rw[if_neg hT,if_pos hF];rfl
   have HM:Hid (Mip.literal st=(Mil.adv st).map fun s1=>(Mip.eBool (Mip.off st) 0,s1)):=by unfold Mip.literal;rw[if_neg hT,if_pos hF];rfl
   have HF:=hid hF
   clear hT hF
   go_enter Tryz.func202,Tryz.ntmps202
   go_wp2_with fail
   refine (zaq b s st _ H.out).mono ?_
   rintro e w0 ⟨rfl,hw0⟩
   have HV:Hid (Hd a b s st w (w0.alloc (.cells #[.int .i64 (place s.size st)] 117)) (place s.size st) w0.heap.size):=zam HL.out hb H.out hw0
   clear hw0
   go_wp2_with fail
   generalize w0.heap.size=kv at HV ⊢
   generalize w0.alloc (.cells #[.int .i64 (place s.size st)] 117)=v at HV ⊢
   clear H HL w0
   have H:=hid HV.out.rd
   have HL:=hid HV.out.laid
   refine (zal b s st (bs Mil.wTrue) _ H.out HT.out).mono ?_
   rintro e w1 ⟨rfl,rfl⟩
   go_wp2_with fail
   refine (za0 a b s st (bs Mil.wFalse) _ HL.out hb H.out hs HF.out).mono ?_
   rintro e w1 ⟨hk,(⟨st',rfl,h1,h2⟩|⟨k,at_,hkk,d,rfl,hd,hno⟩)⟩
   ·have cv:w1.cell? ⟨kv,0,none⟩=some (.int .i64 (place s.size st)):=hk.held HV.out.cell HV.out.ne
    go_wp2
    go_ret
    exact⟨HV.out.kp.trans hk,Or.inl ⟨Mip.eBool (Mip.off st) 0,st',_,_,rfl,by rw[zat];rfl,by rw[HM.out,h1];rfl,h2⟩⟩
   ·go_wp2
    exact⟨rfl,HV.out.kp.trans hk,Or.inr ⟨k,at_,hkk,d,rfl,hd,by rw[HZ.out,hno];rfl⟩⟩
  ·have HF:=hid (Bool.eq_false_iff.2 hF)
   have HZ:Hid (Mil.literalZ s.size st=(Mil.numberZ s.size 0 9223372036854775807 st).map fun x=>(Mil.eInt x.1,x.2)):=by unfold Mil.literalZ;rw[if_neg hT,if_neg hF];rfl
   have HM:Hid (Mip.literal st=(Mil.number 0 9223372036854775807 st).map fun x=>(Mip.eInt (Mip.off st) x.1,x.2)):=by unfold Mip.literal;rw[if_neg hT,if_neg hF];rfl
   clear hT hF
   go_enter Tryz.func202,Tryz.ntmps202
   go_wp2_with fail
   refine (zaq b s st _ H.out).mono ?_
   rintro e w0 ⟨rfl,hw0⟩
   have HV:Hid (Hd a b s st w (w0.alloc (.cells #[.int .i64 (place s.size st)] 117)) (place s.size st) w0.heap.size):=zam HL.out hb H.out hw0
   clear hw0
   go_wp2_with fail
   generalize w0.heap.size=kv at HV ⊢
   generalize w0.alloc (.cells #[.int .i64 (place s.size st)] 117)=v at HV ⊢
   clear H HL w0
   have H:=hid HV.out.rd
   have HL:=hid HV.out.laid
   refine (zal b s st (bs Mil.wTrue) _ H.out HT.out).mono ?_
   rintro e w1 ⟨rfl,rfl⟩
   go_wp2_with fail
   refine (zal b s st (bs Mil.wFalse) _ H.out HF.out).mono ?_
   rintro e w1 ⟨rfl,rfl⟩
   go_wp2_with fail
   refine (digits_any a b s st _ HL.out hb H.out hs).mono ?_
   rintro e w1 ⟨hk,(⟨x,st',ty,y,rfl,h0,h1,h2⟩|⟨k,at_,hkk,d,rfl,hd,hno⟩)⟩
   ·have H0:=hid h0
    have H1:=hid h1
    clear h0 h1
    go_wp2
    go_ret
    exact⟨HV.out.kp.trans hk,Or.inl ⟨x,st',ty,y,rfl,H0.out,HM.out.trans H1.out,h2⟩⟩
   ·have HNO:=hid hno
    clear hno
    go_wp2
    exact⟨rfl,HV.out.kp.trans hk,Or.inr ⟨k,at_,hkk,d,rfl,hd,by rw[HZ.out,HNO.out];rfl⟩⟩
theorem constant_any (a:Nat->Addr) (b:Nat) (s:ByteArray) (st:Mil.St) (w:World) (L:Laid a w) (hb:23<=b) (h:RdS w b s st) (hs:s.size<=4000) :
  Calls Tryz.prog 207 #[.pointer (some ⟨b,0,none⟩)] w (ExPost (fun x st'=>Mip.constant st=some (x,st')) (fun k p=>Mil.constantZ s.size st=.bad k p) a b s w):=by
 have H:=hid h
 have HL:=hid L
 clear h L
 by_cases hT:Mil.sees st Mil.sMinus=true
 ·have HZ:Hid (Mil.constantZ s.size st=(Mil.advZ s.size st).bind fun s1=>(Mil.numberZ s.size 0 9223372036854775807 s1).map fun x=>(Mil.ePre Mil.sMinus (Mil.eInt x.1),x.2)):=by unfold Mil.constantZ;rw[if_pos hT];rfl
  have HM:Hid (Mip.constant st=(Mil.adv st).bind fun s1=>(Mil.number 0 9223372036854775807 s1).map fun x=>(Mip.ePre (Mip.off st) Mil.sMinus (Mip.eInt (Mip.off s1) x.1),x.2)):=by unfold Mip.constant;rw[if_pos hT];rfl
  have HT:=hid hT
  clear hT
  go_enter Tryz.func207,Tryz.ntmps207
  go_wp2_with fail
  refine (zbn b s st _ H.out).mono ?_
  rintro e w0 ⟨rfl,hw0⟩
  have HV:Hid (Hd a b s st w (w0.alloc (.cells #[.int .i64 (place s.size st)] 115)) (place s.size st) w0.heap.size):=zam HL.out hb H.out hw0
  clear hw0
  go_wp2_with fail
  generalize w0.heap.size=kv at HV ⊢
  generalize w0.alloc (.cells #[.int .i64 (place s.size st)] 115)=v at HV ⊢
  clear H HL w0
  have H:=hid HV.out.rd
  have HL:=hid HV.out.laid
  refine (za0 a b s st (bs Mil.sMinus) _ HL.out hb H.out hs HT.out).mono ?_
  rintro e w1 ⟨hk,(⟨st',rfl,h1,h2⟩|⟨k,at_,hkk,d,rfl,hd,hno⟩)⟩
  ·go_wp2_with fail
   have HK0:=hid hk
   have H1:=hid h1
   have H2:=hid h2
   clear hk h1 h2
   refine zax (fun w'=>w'.cell? ⟨kv,0,none⟩=some (.int .i64 (place s.size st))) (by kernel_rfl) (HK0.out.held HV.out.cell HV.out.ne) (fun hS=>?_)
   refine hu 0 (v:=?_) rfl (by kernel_rfl) (fun _ _ _ h=>h) (Or.inl ⟨by rfl,?_⟩) (by assumption) ?_
   rotate_left 1
   ·(intro w' hSw;(try dsimp only at hSw);go_simp <;> with_reducible rfl)
   try simp only[Act.put,sa,sz,sn]
   refine hu 1 (v:=?_) rfl (by kernel_rfl) (fun _ _ _ h=>h) (Or.inl ⟨by rfl,?_⟩) (by assumption) ?_
   rotate_left 1
   ·(intro w' hSw;(try dsimp only at hSw);go_simp <;> with_reducible rfl)
   try simp only[Act.put,sa,sz,sn]
   refine zav 2 (by kernel_rfl) rfl (fun K hK=>?_)
   go_simp
   refine (digits_any a b s st' _ ((HL.out.kept HK0.out hb).kept (Kp.refl b w1).drew hb) hb (H2.out.kept (Kp.refl (b+1) w1).drew (by omega)) hs).mono ?_
   rintro e w2 ⟨hk2,(⟨x,st2,ty,y,rfl,g0,g1,g2⟩|⟨k,at_,hkk,d,rfl,hd,hno⟩)⟩
   ·have G0:=hid g0
    have G1:=hid g1
    have HK:=hid (HK0.out.drew.trans hk2)
    have G2:=hid g2
    clear g0 g1 g2 hk2 hS
    refine hK.out _ _ (HK.out.held HV.out.cell HV.out.ne) (fun hS=>?_)
    clear hK K
    try simp only[Act.put,sa,sz,sn]
    refine hu 3 (v:=?_) rfl (by kernel_rfl) (fun _ _ _ h=>h) (Or.inl ⟨by rfl,?_⟩) (by assumption) ?_
    rotate_left 1
    ·(intro w' hSw;(try dsimp only at hSw);go_simp <;> with_reducible rfl)
    try simp only[Act.put,sa,sz,sn]
    refine hu 4 (v:=?_) rfl (by kernel_rfl) (fun _ _ _ h=>h) (Or.inl ⟨by rfl,?_⟩) (by assumption) ?_
    rotate_left 1
    ·(intro w' hSw;(try dsimp only at hSw);go_simp <;> with_reducible rfl)
    try simp only[Act.put,sa,sz,sn]
    refine hu 5 (v:=?_) rfl (by kernel_rfl) (fun _ _ _ h=>h) (Or.inl ⟨by rfl,?_⟩) (by assumption) ?_
    rotate_left 1
    ·(intro w' hSw;(try dsimp only at hSw);go_simp <;> with_reducible rfl)
    try simp only[Act.put,sa,sz,sn]
    refine wpAnyH_done (by kernel_rfl) ?_ _
    clear hS
    go_wp2
    go_ret
    obtain⟨n,hn,hx⟩:=oms G1.out
    obtain⟨rfl,rfl⟩:=Prod.mk.inj hx
    refine⟨HV.out.kp.trans HK.out,Or.inl ⟨Mip.ePre (Mip.off st) Mil.sMinus (Mip.eInt (Mip.off st') n.1),n.2,_,_,rfl,?_,by rw[HM.out,H1.out,Option.bind_some,hn];rfl,G2.out⟩⟩
    rw[zat,<-G0.out];rfl
   ·exact⟨rfl,HV.out.kp.trans (HK0.out.drew.trans hk2),Or.inr ⟨k,at_,hkk,d,rfl,hd,by rw[HZ.out,Mil.imz_adv s.size _ _ H1.out];show Mil.Rz.map _ _=_;rw[hno];rfl⟩⟩
  ·go_wp2
   exact⟨rfl,HV.out.kp.trans hk,Or.inr ⟨k,at_,hkk,d,rfl,hd,by rw[HZ.out,hno];rfl⟩⟩
 ·have HT:=hid (Bool.eq_false_iff.2 hT)
  have HM:Hid (Mip.constant st=Mip.literal st):=by unfold Mip.constant;rw[if_neg hT];rfl
  have HZ:Hid (Mil.constantZ s.size st=Mil.literalZ s.size st):=by unfold Mil.constantZ;rw[if_neg hT];rfl
  clear hT
  go_enter Tryz.func207,Tryz.ntmps207
  go_wp2_with fail
  refine (zbn b s st _ H.out).mono ?_
  rintro e w0 ⟨rfl,hw0⟩
  have HV:Hid (Hd a b s st w (w0.alloc (.cells #[.int .i64 (place s.size st)] 115)) (place s.size st) w0.heap.size):=zam HL.out hb H.out hw0
  clear hw0
  go_wp2_with fail
  generalize w0.heap.size=kv at HV ⊢
  generalize w0.alloc (.cells #[.int .i64 (place s.size st)] 115)=v at HV ⊢
  clear H HL w0
  have H:=hid HV.out.rd
  have HL:=hid HV.out.laid
  refine (zal b s st (bs Mil.sMinus) _ H.out HT.out).mono ?_
  rintro e w1 ⟨rfl,rfl⟩
  go_wp2_with fail
  refine (literal_any a b s st _ HL.out hb H.out hs).mono ?_
  rintro e w1 ⟨hk,(⟨x,st',ty,y,rfl,h0,h1,h2⟩|⟨k,at_,hkk,d,rfl,hd,hno⟩)⟩
  ·go_wp2
   go_ret
   exact⟨HV.out.kp.trans hk,Or.inl ⟨x,st',ty,y,rfl,h0,HM.out.trans h1,h2⟩⟩
  ·go_wp2
   exact⟨rfl,HV.out.kp.trans hk,Or.inr ⟨k,at_,hkk,d,rfl,hd,HZ.out.trans hno⟩⟩
end
section
open Go.RowKit
theorem zaa {W u v:World} (h:Below W.heap.size W u) (k:Below u.heap.size u v):Below W.heap.size W v:=h.trans (k.mono h.size)
theorem bs_size (x:Mil.Bytes):(bs x).size=x.length:=by simp[bs,ByteArray.size]
theorem ta_int_int (v:Value) (w:World):(Instr.typeAssert (.iface 183 v) 121 183 true).run Tryz.prog w=.ok (.tuple #[v,.bool true]) w:=by kernel_rfl
theorem ta_int_bool (v:Value) (w:World):(Instr.typeAssert (.iface 183 v) 121 186 true).run Tryz.prog w=.ok (.tuple #[.agg #[.int .i64 0,.bool false],.bool false]) w:=by kernel_rfl
theorem ta_int_name (v:Value) (w:World):(Instr.typeAssert (.iface 183 v) 121 119 true).run Tryz.prog w=.ok (.tuple #[.agg #[.int .i64 0,.string ⟨#[]⟩],.bool false]) w:=by kernel_rfl
theorem ta_int_pre (v:Value) (w:World):(Instr.typeAssert (.iface 183 v) 121 190 true).run Tryz.prog w=.ok (.tuple #[.agg #[.int .i64 0,.string ⟨#[]⟩,.nilIface],.bool false]) w:=by kernel_rfl
theorem ta_int_two (v:Value) (w:World):(Instr.typeAssert (.iface 183 v) 121 193 true).run Tryz.prog w=.ok (.tuple #[.agg #[.int .i64 0,.string ⟨#[]⟩,.nilIface,.nilIface],.bool false]) w:=by kernel_rfl
theorem ta_int_if (v:Value) (w:World):(Instr.typeAssert (.iface 183 v) 121 200 true).run Tryz.prog w=.ok (.tuple #[.agg #[.int .i64 0,.nilIface,.nilIface,.nilIface],.bool false]) w:=by kernel_rfl
theorem ta_int_fby (v:Value) (w:World):(Instr.typeAssert (.iface 183 v) 121 203 true).run Tryz.prog w=.ok (.tuple #[.agg #[.int .i64 0,.nilIface,.nilIface],.bool false]) w:=by kernel_rfl
theorem ta_int_under (v:Value) (w:World):(Instr.typeAssert (.iface 183 v) 121 206 true).run Tryz.prog w=.ok (.tuple #[.agg #[.int .i64 0,.nilIface,.int .i64 0],.bool false]) w:=by kernel_rfl
theorem ta_int_hold (v:Value) (w:World):(Instr.typeAssert (.iface 183 v) 121 209 true).run Tryz.prog w=.ok (.tuple #[.agg #[.int .i64 0,.nilIface,.nilIface,.int .i64 0],.bool false]) w:=by kernel_rfl
theorem ta_int_least (v:Value) (w:World):(Instr.typeAssert (.iface 183 v) 121 198 true).run Tryz.prog w=.ok (.tuple #[.agg #[.int .i64 0,.string ⟨#[]⟩,.nilIface,.nilIface],.bool false]) w:=by kernel_rfl
theorem ta_bool_int (v:Value) (w:World):(Instr.typeAssert (.iface 186 v) 121 183 true).run Tryz.prog w=.ok (.tuple #[.agg #[.int .i64 0,.int .i64 0],.bool false]) w:=by kernel_rfl
theorem ta_bool_bool (v:Value) (w:World):(Instr.typeAssert (.iface 186 v) 121 186 true).run Tryz.prog w=.ok (.tuple #[v,.bool true]) w:=by kernel_rfl
theorem ta_bool_name (v:Value) (w:World):(Instr.typeAssert (.iface 186 v) 121 119 true).run Tryz.prog w=.ok (.tuple #[.agg #[.int .i64 0,.string ⟨#[]⟩],.bool false]) w:=by kernel_rfl
theorem ta_bool_pre (v:Value) (w:World):(Instr.typeAssert (.iface 186 v) 121 190 true).run Tryz.prog w=.ok (.tuple #[.agg #[.int .i64 0,.string ⟨#[]⟩,.nilIface],.bool false]) w:=by kernel_rfl
theorem ta_bool_two (v:Value) (w:World):(Instr.typeAssert (.iface 186 v) 121 193 true).run Tryz.prog w=.ok (.tuple #[.agg #[.int .i64 0,.string ⟨#[]⟩,.nilIface,.nilIface],.bool false]) w:=by kernel_rfl
theorem ta_bool_if (v:Value) (w:World):(Instr.typeAssert (.iface 186 v) 121 200 true).run Tryz.prog w=.ok (.tuple #[.agg #[.int .i64 0,.nilIface,.nilIface,.nilIface],.bool false]) w:=by kernel_rfl
theorem ta_bool_fby (v:Value) (w:World):(Instr.typeAssert (.iface 186 v) 121 203 true).run Tryz.prog w=.ok (.tuple #[.agg #[.int .i64 0,.nilIface,.nilIface],.bool false]) w:=by kernel_rfl
theorem ta_bool_under (v:Value) (w:World):(Instr.typeAssert (.iface 186 v) 121 206 true).run Tryz.prog w=.ok (.tuple #[.agg #[.int .i64 0,.nilIface,.int .i64 0],.bool false]) w:=by kernel_rfl
theorem ta_bool_hold (v:Value) (w:World):(Instr.typeAssert (.iface 186 v) 121 209 true).run Tryz.prog w=.ok (.tuple #[.agg #[.int .i64 0,.nilIface,.nilIface,.int .i64 0],.bool false]) w:=by kernel_rfl
theorem zdy (v:Value) (w:World):(Instr.typeAssert (.iface 186 v) 121 198 true).run Tryz.prog w=.ok (.tuple #[.agg #[.int .i64 0,.string ⟨#[]⟩,.nilIface,.nilIface],.bool false]) w:=by kernel_rfl
theorem ta_name_int (v:Value) (w:World):(Instr.typeAssert (.iface 119 v) 121 183 true).run Tryz.prog w=.ok (.tuple #[.agg #[.int .i64 0,.int .i64 0],.bool false]) w:=by kernel_rfl
theorem ta_name_bool (v:Value) (w:World):(Instr.typeAssert (.iface 119 v) 121 186 true).run Tryz.prog w=.ok (.tuple #[.agg #[.int .i64 0,.bool false],.bool false]) w:=by kernel_rfl
theorem zbw (v:Value) (w:World):(Instr.typeAssert (.iface 119 v) 121 119 true).run Tryz.prog w=.ok (.tuple #[v,.bool true]) w:=by kernel_rfl
theorem ta_name_pre (v:Value) (w:World):(Instr.typeAssert (.iface 119 v) 121 190 true).run Tryz.prog w=.ok (.tuple #[.agg #[.int .i64 0,.string ⟨#[]⟩,.nilIface],.bool false]) w:=by kernel_rfl
theorem ta_name_two (v:Value) (w:World):(Instr.typeAssert (.iface 119 v) 121 193 true).run Tryz.prog w=.ok (.tuple #[.agg #[.int .i64 0,.string ⟨#[]⟩,.nilIface,.nilIface],.bool false]) w:=by kernel_rfl
theorem ta_name_if (v:Value) (w:World):(Instr.typeAssert (.iface 119 v) 121 200 true).run Tryz.prog w=.ok (.tuple #[.agg #[.int .i64 0,.nilIface,.nilIface,.nilIface],.bool false]) w:=by kernel_rfl
theorem ta_name_fby (v:Value) (w:World):(Instr.typeAssert (.iface 119 v) 121 203 true).run Tryz.prog w=.ok (.tuple #[.agg #[.int .i64 0,.nilIface,.nilIface],.bool false]) w:=by kernel_rfl
theorem zdu (v:Value) (w:World):(Instr.typeAssert (.iface 119 v) 121 206 true).run Tryz.prog w=.ok (.tuple #[.agg #[.int .i64 0,.nilIface,.int .i64 0],.bool false]) w:=by kernel_rfl
theorem ta_name_hold (v:Value) (w:World):(Instr.typeAssert (.iface 119 v) 121 209 true).run Tryz.prog w=.ok (.tuple #[.agg #[.int .i64 0,.nilIface,.nilIface,.int .i64 0],.bool false]) w:=by kernel_rfl
theorem zdv (v:Value) (w:World):(Instr.typeAssert (.iface 119 v) 121 198 true).run Tryz.prog w=.ok (.tuple #[.agg #[.int .i64 0,.string ⟨#[]⟩,.nilIface,.nilIface],.bool false]) w:=by kernel_rfl
theorem ta_pre_int (v:Value) (w:World):(Instr.typeAssert (.iface 190 v) 121 183 true).run Tryz.prog w=.ok (.tuple #[.agg #[.int .i64 0,.int .i64 0],.bool false]) w:=by kernel_rfl
theorem ta_pre_bool (v:Value) (w:World):(Instr.typeAssert (.iface 190 v) 121 186 true).run Tryz.prog w=.ok (.tuple #[.agg #[.int .i64 0,.bool false],.bool false]) w:=by kernel_rfl
theorem ta_pre_name (v:Value) (w:World):(Instr.typeAssert (.iface 190 v) 121 119 true).run Tryz.prog w=.ok (.tuple #[.agg #[.int .i64 0,.string ⟨#[]⟩],.bool false]) w:=by kernel_rfl
theorem ta_pre_pre (v:Value) (w:World):(Instr.typeAssert (.iface 190 v) 121 190 true).run Tryz.prog w=.ok (.tuple #[v,.bool true]) w:=by kernel_rfl
theorem ta_pre_two (v:Value) (w:World):(Instr.typeAssert (.iface 190 v) 121 193 true).run Tryz.prog w=.ok (.tuple #[.agg #[.int .i64 0,.string ⟨#[]⟩,.nilIface,.nilIface],.bool false]) w:=by kernel_rfl
theorem ta_pre_if (v:Value) (w:World):(Instr.typeAssert (.iface 190 v) 121 200 true).run Tryz.prog w=.ok (.tuple #[.agg #[.int .i64 0,.nilIface,.nilIface,.nilIface],.bool false]) w:=by kernel_rfl
theorem ta_pre_fby (v:Value) (w:World):(Instr.typeAssert (.iface 190 v) 121 203 true).run Tryz.prog w=.ok (.tuple #[.agg #[.int .i64 0,.nilIface,.nilIface],.bool false]) w:=by kernel_rfl
theorem ta_pre_under (v:Value) (w:World):(Instr.typeAssert (.iface 190 v) 121 206 true).run Tryz.prog w=.ok (.tuple #[.agg #[.int .i64 0,.nilIface,.int .i64 0],.bool false]) w:=by kernel_rfl
theorem ta_pre_hold (v:Value) (w:World):(Instr.typeAssert (.iface 190 v) 121 209 true).run Tryz.prog w=.ok (.tuple #[.agg #[.int .i64 0,.nilIface,.nilIface,.int .i64 0],.bool false]) w:=by kernel_rfl
theorem ta_pre_least (v:Value) (w:World):(Instr.typeAssert (.iface 190 v) 121 198 true).run Tryz.prog w=.ok (.tuple #[.agg #[.int .i64 0,.string ⟨#[]⟩,.nilIface,.nilIface],.bool false]) w:=by kernel_rfl
theorem ta_two_int (v:Value) (w:World):(Instr.typeAssert (.iface 193 v) 121 183 true).run Tryz.prog w=.ok (.tuple #[.agg #[.int .i64 0,.int .i64 0],.bool false]) w:=by kernel_rfl
theorem ta_two_bool (v:Value) (w:World):(Instr.typeAssert (.iface 193 v) 121 186 true).run Tryz.prog w=.ok (.tuple #[.agg #[.int .i64 0,.bool false],.bool false]) w:=by kernel_rfl
theorem ta_two_name (v:Value) (w:World):(Instr.typeAssert (.iface 193 v) 121 119 true).run Tryz.prog w=.ok (.tuple #[.agg #[.int .i64 0,.string ⟨#[]⟩],.bool false]) w:=by kernel_rfl
theorem ta_two_pre (v:Value) (w:World):(Instr.typeAssert (.iface 193 v) 121 190 true).run Tryz.prog w=.ok (.tuple #[.agg #[.int .i64 0,.string ⟨#[]⟩,.nilIface],.bool false]) w:=by kernel_rfl
theorem ta_two_two (v:Value) (w:World):(Instr.typeAssert (.iface 193 v) 121 193 true).run Tryz.prog w=.ok (.tuple #[v,.bool true]) w:=by kernel_rfl
theorem ta_two_if (v:Value) (w:World):(Instr.typeAssert (.iface 193 v) 121 200 true).run Tryz.prog w=.ok (.tuple #[.agg #[.int .i64 0,.nilIface,.nilIface,.nilIface],.bool false]) w:=by kernel_rfl
theorem ta_two_fby (v:Value) (w:World):(Instr.typeAssert (.iface 193 v) 121 203 true).run Tryz.prog w=.ok (.tuple #[.agg #[.int .i64 0,.nilIface,.nilIface],.bool false]) w:=by kernel_rfl
theorem ta_two_under (v:Value) (w:World):(Instr.typeAssert (.iface 193 v) 121 206 true).run Tryz.prog w=.ok (.tuple #[.agg #[.int .i64 0,.nilIface,.int .i64 0],.bool false]) w:=by kernel_rfl
theorem ta_two_hold (v:Value) (w:World):(Instr.typeAssert (.iface 193 v) 121 209 true).run Tryz.prog w=.ok (.tuple #[.agg #[.int .i64 0,.nilIface,.nilIface,.int .i64 0],.bool false]) w:=by kernel_rfl
theorem ta_two_least (v:Value) (w:World):(Instr.typeAssert (.iface 193 v) 121 198 true).run Tryz.prog w=.ok (.tuple #[.agg #[.int .i64 0,.string ⟨#[]⟩,.nilIface,.nilIface],.bool false]) w:=by kernel_rfl
theorem ta_if_int (v:Value) (w:World):(Instr.typeAssert (.iface 200 v) 121 183 true).run Tryz.prog w=.ok (.tuple #[.agg #[.int .i64 0,.int .i64 0],.bool false]) w:=by kernel_rfl
theorem ta_if_bool (v:Value) (w:World):(Instr.typeAssert (.iface 200 v) 121 186 true).run Tryz.prog w=.ok (.tuple #[.agg #[.int .i64 0,.bool false],.bool false]) w:=by kernel_rfl
theorem ta_if_name (v:Value) (w:World):(Instr.typeAssert (.iface 200 v) 121 119 true).run Tryz.prog w=.ok (.tuple #[.agg #[.int .i64 0,.string ⟨#[]⟩],.bool false]) w:=by kernel_rfl
theorem ta_if_pre (v:Value) (w:World):(Instr.typeAssert (.iface 200 v) 121 190 true).run Tryz.prog w=.ok (.tuple #[.agg #[.int .i64 0,.string ⟨#[]⟩,.nilIface],.bool false]) w:=by kernel_rfl
theorem ta_if_two (v:Value) (w:World):(Instr.typeAssert (.iface 200 v) 121 193 true).run Tryz.prog w=.ok (.tuple #[.agg #[.int .i64 0,.string ⟨#[]⟩,.nilIface,.nilIface],.bool false]) w:=by kernel_rfl
theorem ta_if_if (v:Value) (w:World):(Instr.typeAssert (.iface 200 v) 121 200 true).run Tryz.prog w=.ok (.tuple #[v,.bool true]) w:=by kernel_rfl
theorem ta_if_fby (v:Value) (w:World):(Instr.typeAssert (.iface 200 v) 121 203 true).run Tryz.prog w=.ok (.tuple #[.agg #[.int .i64 0,.nilIface,.nilIface],.bool false]) w:=by kernel_rfl
theorem ta_if_under (v:Value) (w:World):(Instr.typeAssert (.iface 200 v) 121 206 true).run Tryz.prog w=.ok (.tuple #[.agg #[.int .i64 0,.nilIface,.int .i64 0],.bool false]) w:=by kernel_rfl
theorem ta_if_hold (v:Value) (w:World):(Instr.typeAssert (.iface 200 v) 121 209 true).run Tryz.prog w=.ok (.tuple #[.agg #[.int .i64 0,.nilIface,.nilIface,.int .i64 0],.bool false]) w:=by kernel_rfl
theorem ta_if_least (v:Value) (w:World):(Instr.typeAssert (.iface 200 v) 121 198 true).run Tryz.prog w=.ok (.tuple #[.agg #[.int .i64 0,.string ⟨#[]⟩,.nilIface,.nilIface],.bool false]) w:=by kernel_rfl
theorem ta_fby_int (v:Value) (w:World):(Instr.typeAssert (.iface 203 v) 121 183 true).run Tryz.prog w=.ok (.tuple #[.agg #[.int .i64 0,.int .i64 0],.bool false]) w:=by kernel_rfl
theorem ta_fby_bool (v:Value) (w:World):(Instr.typeAssert (.iface 203 v) 121 186 true).run Tryz.prog w=.ok (.tuple #[.agg #[.int .i64 0,.bool false],.bool false]) w:=by kernel_rfl
theorem ta_fby_name (v:Value) (w:World):(Instr.typeAssert (.iface 203 v) 121 119 true).run Tryz.prog w=.ok (.tuple #[.agg #[.int .i64 0,.string ⟨#[]⟩],.bool false]) w:=by kernel_rfl
theorem ta_fby_pre (v:Value) (w:World):(Instr.typeAssert (.iface 203 v) 121 190 true).run Tryz.prog w=.ok (.tuple #[.agg #[.int .i64 0,.string ⟨#[]⟩,.nilIface],.bool false]) w:=by kernel_rfl
theorem ta_fby_two (v:Value) (w:World):(Instr.typeAssert (.iface 203 v) 121 193 true).run Tryz.prog w=.ok (.tuple #[.agg #[.int .i64 0,.string ⟨#[]⟩,.nilIface,.nilIface],.bool false]) w:=by kernel_rfl
theorem ta_fby_if (v:Value) (w:World):(Instr.typeAssert (.iface 203 v) 121 200 true).run Tryz.prog w=.ok (.tuple #[.agg #[.int .i64 0,.nilIface,.nilIface,.nilIface],.bool false]) w:=by kernel_rfl
theorem zc1 (v:Value) (w:World):(Instr.typeAssert (.iface 203 v) 121 203 true).run Tryz.prog w=.ok (.tuple #[v,.bool true]) w:=by kernel_rfl
theorem ta_fby_under (v:Value) (w:World):(Instr.typeAssert (.iface 203 v) 121 206 true).run Tryz.prog w=.ok (.tuple #[.agg #[.int .i64 0,.nilIface,.int .i64 0],.bool false]) w:=by kernel_rfl
theorem ta_fby_hold (v:Value) (w:World):(Instr.typeAssert (.iface 203 v) 121 209 true).run Tryz.prog w=.ok (.tuple #[.agg #[.int .i64 0,.nilIface,.nilIface,.int .i64 0],.bool false]) w:=by kernel_rfl
theorem ta_fby_least (v:Value) (w:World):(Instr.typeAssert (.iface 203 v) 121 198 true).run Tryz.prog w=.ok (.tuple #[.agg #[.int .i64 0,.string ⟨#[]⟩,.nilIface,.nilIface],.bool false]) w:=by kernel_rfl
theorem ta_under_int (v:Value) (w:World):(Instr.typeAssert (.iface 206 v) 121 183 true).run Tryz.prog w=.ok (.tuple #[.agg #[.int .i64 0,.int .i64 0],.bool false]) w:=by kernel_rfl
theorem zdt (v:Value) (w:World):(Instr.typeAssert (.iface 206 v) 121 186 true).run Tryz.prog w=.ok (.tuple #[.agg #[.int .i64 0,.bool false],.bool false]) w:=by kernel_rfl
theorem ta_under_name (v:Value) (w:World):(Instr.typeAssert (.iface 206 v) 121 119 true).run Tryz.prog w=.ok (.tuple #[.agg #[.int .i64 0,.string ⟨#[]⟩],.bool false]) w:=by kernel_rfl
theorem zcp (v:Value) (w:World):(Instr.typeAssert (.iface 206 v) 121 190 true).run Tryz.prog w=.ok (.tuple #[.agg #[.int .i64 0,.string ⟨#[]⟩,.nilIface],.bool false]) w:=by kernel_rfl
theorem zco (v:Value) (w:World):(Instr.typeAssert (.iface 206 v) 121 193 true).run Tryz.prog w=.ok (.tuple #[.agg #[.int .i64 0,.string ⟨#[]⟩,.nilIface,.nilIface],.bool false]) w:=by kernel_rfl
theorem zdi (v:Value) (w:World):(Instr.typeAssert (.iface 206 v) 121 200 true).run Tryz.prog w=.ok (.tuple #[.agg #[.int .i64 0,.nilIface,.nilIface,.nilIface],.bool false]) w:=by kernel_rfl
theorem ta_under_fby (v:Value) (w:World):(Instr.typeAssert (.iface 206 v) 121 203 true).run Tryz.prog w=.ok (.tuple #[.agg #[.int .i64 0,.nilIface,.nilIface],.bool false]) w:=by kernel_rfl
theorem zbt (v:Value) (w:World):(Instr.typeAssert (.iface 206 v) 121 206 true).run Tryz.prog w=.ok (.tuple #[v,.bool true]) w:=by kernel_rfl
theorem ta_under_hold (v:Value) (w:World):(Instr.typeAssert (.iface 206 v) 121 209 true).run Tryz.prog w=.ok (.tuple #[.agg #[.int .i64 0,.nilIface,.nilIface,.int .i64 0],.bool false]) w:=by kernel_rfl
theorem zc6 (v:Value) (w:World):(Instr.typeAssert (.iface 206 v) 121 198 true).run Tryz.prog w=.ok (.tuple #[.agg #[.int .i64 0,.string ⟨#[]⟩,.nilIface,.nilIface],.bool false]) w:=by kernel_rfl
theorem ta_hold_int (v:Value) (w:World):(Instr.typeAssert (.iface 209 v) 121 183 true).run Tryz.prog w=.ok (.tuple #[.agg #[.int .i64 0,.int .i64 0],.bool false]) w:=by kernel_rfl
theorem ta_hold_bool (v:Value) (w:World):(Instr.typeAssert (.iface 209 v) 121 186 true).run Tryz.prog w=.ok (.tuple #[.agg #[.int .i64 0,.bool false],.bool false]) w:=by kernel_rfl
theorem ta_hold_name (v:Value) (w:World):(Instr.typeAssert (.iface 209 v) 121 119 true).run Tryz.prog w=.ok (.tuple #[.agg #[.int .i64 0,.string ⟨#[]⟩],.bool false]) w:=by kernel_rfl
theorem zdk (v:Value) (w:World):(Instr.typeAssert (.iface 209 v) 121 190 true).run Tryz.prog w=.ok (.tuple #[.agg #[.int .i64 0,.string ⟨#[]⟩,.nilIface],.bool false]) w:=by kernel_rfl
theorem zdj (v:Value) (w:World):(Instr.typeAssert (.iface 209 v) 121 193 true).run Tryz.prog w=.ok (.tuple #[.agg #[.int .i64 0,.string ⟨#[]⟩,.nilIface,.nilIface],.bool false]) w:=by kernel_rfl
theorem ta_hold_if (v:Value) (w:World):(Instr.typeAssert (.iface 209 v) 121 200 true).run Tryz.prog w=.ok (.tuple #[.agg #[.int .i64 0,.nilIface,.nilIface,.nilIface],.bool false]) w:=by kernel_rfl
theorem zch (v:Value) (w:World):(Instr.typeAssert (.iface 209 v) 121 203 true).run Tryz.prog w=.ok (.tuple #[.agg #[.int .i64 0,.nilIface,.nilIface],.bool false]) w:=by kernel_rfl
theorem zbz (v:Value) (w:World):(Instr.typeAssert (.iface 209 v) 121 206 true).run Tryz.prog w=.ok (.tuple #[.agg #[.int .i64 0,.nilIface,.int .i64 0],.bool false]) w:=by kernel_rfl
theorem zbx (v:Value) (w:World):(Instr.typeAssert (.iface 209 v) 121 209 true).run Tryz.prog w=.ok (.tuple #[v,.bool true]) w:=by kernel_rfl
theorem zdx (v:Value) (w:World):(Instr.typeAssert (.iface 209 v) 121 198 true).run Tryz.prog w=.ok (.tuple #[.agg #[.int .i64 0,.string ⟨#[]⟩,.nilIface,.nilIface],.bool false]) w:=by kernel_rfl
theorem ta_least_int (v:Value) (w:World):(Instr.typeAssert (.iface 198 v) 121 183 true).run Tryz.prog w=.ok (.tuple #[.agg #[.int .i64 0,.int .i64 0],.bool false]) w:=by kernel_rfl
theorem zdw (v:Value) (w:World):(Instr.typeAssert (.iface 198 v) 121 186 true).run Tryz.prog w=.ok (.tuple #[.agg #[.int .i64 0,.bool false],.bool false]) w:=by kernel_rfl
theorem ta_least_name (v:Value) (w:World):(Instr.typeAssert (.iface 198 v) 121 119 true).run Tryz.prog w=.ok (.tuple #[.agg #[.int .i64 0,.string ⟨#[]⟩],.bool false]) w:=by kernel_rfl
theorem zcr (v:Value) (w:World):(Instr.typeAssert (.iface 198 v) 121 190 true).run Tryz.prog w=.ok (.tuple #[.agg #[.int .i64 0,.string ⟨#[]⟩,.nilIface],.bool false]) w:=by kernel_rfl
theorem zcq (v:Value) (w:World):(Instr.typeAssert (.iface 198 v) 121 193 true).run Tryz.prog w=.ok (.tuple #[.agg #[.int .i64 0,.string ⟨#[]⟩,.nilIface,.nilIface],.bool false]) w:=by kernel_rfl
theorem ta_least_if (v:Value) (w:World):(Instr.typeAssert (.iface 198 v) 121 200 true).run Tryz.prog w=.ok (.tuple #[.agg #[.int .i64 0,.nilIface,.nilIface,.nilIface],.bool false]) w:=by kernel_rfl
theorem ta_least_fby (v:Value) (w:World):(Instr.typeAssert (.iface 198 v) 121 203 true).run Tryz.prog w=.ok (.tuple #[.agg #[.int .i64 0,.nilIface,.nilIface],.bool false]) w:=by kernel_rfl
theorem ta_least_under (v:Value) (w:World):(Instr.typeAssert (.iface 198 v) 121 206 true).run Tryz.prog w=.ok (.tuple #[.agg #[.int .i64 0,.nilIface,.int .i64 0],.bool false]) w:=by kernel_rfl
theorem ta_least_hold (v:Value) (w:World):(Instr.typeAssert (.iface 198 v) 121 209 true).run Tryz.prog w=.ok (.tuple #[.agg #[.int .i64 0,.nilIface,.nilIface,.int .i64 0],.bool false]) w:=by kernel_rfl
theorem zb8 (v:Value) (w:World):(Instr.typeAssert (.iface 198 v) 121 198 true).run Tryz.prog w=.ok (.tuple #[v,.bool true]) w:=by kernel_rfl
namespace Mip
theorem zar {p:E} {t k:Nat} {x:Mil.Bytes} {a b:Mil.E} (h:er p=.node t k x a b):∃y c d,p=.node t k (x,y) c d/\er c=a/\er d=b:=by
 cases p with
 | nil=>cases h
 | node t' k' y c d=>
  have h':(Go.Deep.BT.node t' k' y.1 (er c) (er d):Mil.E)=.node t k x a b:=h
  obtain⟨rfl,rfl,rfl,h2,h3⟩:=Go.Deep.BT.node.inj h'
  exact⟨y.2,c,d,rfl,h2,h3⟩
theorem zc0 {p:E} (h:er p=.nil):p=.nil:=by
 cases p with
 | nil=>rfl
 | node _ _ _ _ _=>cases h
theorem tree_induct {Q:E->Prop}
  (h1:∀p (k:Nat),(k:Int)<=Mil.maxInt->Q (eInt p k)) (h2:∀p k,k=0\/k=1->Q (eBool p k)) (h3:∀p x,Mil.NameOk x->Q (eName p x))
  (h4:∀p x a,x=Mil.wNot\/x=Mil.sMinus->Q a->Q (ePre p x a)) (h5:∀p x a b,Mil.tightOf x≠9->Q a->Q b->Q (eTwo p x a b))
  (h6:∀p y a b c,Q a->Q b->Q c->Q (.node 6 0 ([],p) a (.node 0 0 ([],y) b c))) (h7:∀p a b,Q a->Q b->Q (eFby p a b)) (h8:∀p a (k:Nat),2<=k->k<=1000->Q a->Q (eUnder p a k)) (h9:∀p a b (k:Nat),2<=k->k<=1000->Q a->Q b->Q (eHold p a b k)) (h10:∀p x a b,x=Mil.wMin\/x=Mil.wMax->Q a->Q b->Q (eLeast p x a b)) :
  ∀e:E,Mil.wf (er e) false->Q e:=by
 have i1:∀k:Nat,(k:Int)<=Mil.maxInt->∀p,er p=Mil.eInt k->Q p:=fun k hk p hp=>by
  obtain⟨y,c,d,rfl,hc,hd⟩:=zar hp
  rw[zc0 hc,zc0 hd]
  exact h1 y k hk
 have i2:∀k,k=0\/k=1->∀p,er p=Mil.eBool k->Q p:=fun k hk p hp=>by
  obtain⟨y,c,d,rfl,hc,hd⟩:=zar hp
  rw[zc0 hc,zc0 hd]
  exact h2 y k hk
 have i0:∀m,Mil.isConst m->∀p,er p=m->Q p:=fun m hm p hp=>by
  rcases hm with ⟨k,hk,rfl⟩|⟨k,hk,rfl⟩|⟨k,hk,rfl⟩
  ·exact i1 k hk p hp
  ·exact i2 k hk p hp
  ·obtain⟨y,c,d,rfl,hc,hd⟩:=zar hp
   rw[zc0 hd]
   exact h4 y _ c (Or.inr rfl) (i1 k hk c hc)
 intro e he
 refine Mil.wf_induct (P:=fun m=>∀p,er p=m->Q p) i1 i2 ?_ ?_ ?_ ?_ ?_ ?_ ?_ ?_ _ he e rfl
 ·intro x hx p hp
  obtain⟨y,c,d,rfl,hc,hd⟩:=zar hp
  rw[zc0 hc,zc0 hd]
  exact h3 y x hx
 ·intro x a hx _ ha p hp
  obtain⟨y,c,d,rfl,hc,hd⟩:=zar hp
  rw[zc0 hd]
  exact h4 y x c hx (ha c hc)
 ·intro x a b hx _ _ ha hb p hp
  obtain⟨y,c,d,rfl,hc,hd⟩:=zar hp
  exact h5 y x c d hx (ha c hc) (hb d hd)
 ·intro a b c _ _ _ ha hb hc p hp
  obtain⟨y,q,r,rfl,h1',h2'⟩:=zar hp
  obtain⟨y',q',r',rfl,h3',h4'⟩:=zar h2'
  exact h6 y y' q q' r' (ha q h1') (hb q' h3') (hc r' h4')
 ·intro a b ha _ hb p hp
  obtain⟨y,c,d,rfl,hc,hd⟩:=zar hp
  exact h7 y c d (i0 a ha c hc) (hb d hd)
 ·intro a k h2 hk _ ha p hp
  obtain⟨y,c,d,rfl,hc,hd⟩:=zar hp
  rw[zc0 hd]
  exact h8 y c k h2 hk (ha c hc)
 ·intro a b k h2 hk ha _ hb p hp
  obtain⟨y,c,d,rfl,hc,hd⟩:=zar hp
  exact h9 y c d k h2 hk (i0 a ha c hc) (hb d hd)
 ·intro x a b hx _ _ ha hb p hp
  obtain⟨y,c,d,rfl,hc,hd⟩:=zar hp
  exact h10 y x c d hx (ha c hc) (hb d hd)
def kids:E->List E
 | .node 4 _ _ a _=>[a]
 | .node 5 _ _ a b=>[a,b]
 | .node 6 _ _ a (.node _ _ _ b c)=>[a,b,c]
 | .node 7 _ _ a b=>[a,b]
 | .node 8 _ _ a _=>[a]
 | .node 9 _ _ a b=>[a,b]
 | .node 10 _ _ a b=>[a,b]
 | _=>[]
end Mip
end
end Go.Proofs.YtjehljjlcifndaaGreatDoor
