import Derived.Test.YtoiajojadihpbaaGreatDoorQt29
import Derived.Deep.LoopGhost
import Derived.Deep.Cut
namespace Go.Proofs.YtoiajojadihpbaaGreatDoor
set_option maxHeartbeats 8000000
set_option maxRecDepth 100000
section
open Go.RowKit
theorem Tryz.infoString:(Tryz.prog.info? 9).map (fun i=>(i.zero,i.size,i.bytes))=some (some (.string ⟨#[]⟩),1,16):=by kernel_rfl
theorem Tryz.infoInt:(Tryz.prog.info? 3).map (fun i=>(i.zero,i.size,i.bytes))=some (some (.int .i64 0),1,8):=by kernel_rfl
theorem item_out (B b g:Nat) (T:List Ref.Tk) (tv:Value) (hs:T.length<=4001) (I:List Iw) (iv nv:Value) (s:Ref.Rs) (w:World) (h:RM B b g T tv iv s nv w) (hm:IM B b g tv I iv nv w) (hl:I.length<=4000) (hi:Ref.is T Mil.wInput s=false) (ho:Ref.is T Mil.wOutput s=true) :
  Calls Tryz.prog 50 #[.pointer (some ⟨b,0,none⟩)] w (ItemPost B b g T tv I iv nv w s):=by
 have H:=hid h
 have HM:=hid hm
 have HU:Hid (s.p+1 < T.length):=is_up h (by decide) ho
 have HI:=hid hi
 have HO:=hid ho
 have HA:Hid (Ah w.heap.size b g tv iv nv):=ah_of h hm
 clear h hm hi ho
 go_enter Tryz.func50,Tryz.ntmps50
 go_wp2_with fail
 refine (now_any B b g T tv iv s nv _ H.out).mono ?_
 rintro r w1 ⟨rfl,hb1⟩
 rw[tokV_eq]
 have hf:=field_at (Ref.now T s).t (Ref.now T s).at_ (Ref.now T s).number (Ref.now T s).name (Ref.now T s).v (Ref.now T s).e
 have H1:=hid (H.out.below hb1)
 have F1:Hid (Fr b g w nv w1 nv):=Fr.of_below hb1
 clear hb1
 go_wp2_with fail
 clear hf
 refine (is_any B b g T tv iv s nv Mil.wInput _ H1.out).mono ?_
 rintro r w2 ⟨rfl,hb2⟩
 rw[HI.out]
 have H2:=hid (H1.out.below hb2)
 have F2:Hid (Fr b g w nv w2 nv):=F1.out.trans (Fr.of_below hb2)
 clear hb2
 go_wp2_with fail
 refine (is_any B b g T tv iv s nv Mil.wOutput _ H2.out).mono ?_
 rintro r w3 ⟨rfl,hb3⟩
 rw[HO.out]
 have H3:=hid (H2.out.below hb3)
 have F3:Hid (Fr b g w nv w3 nv):=F2.out.trans (Fr.of_below hb3)
 clear hb3
 have d4:=(H3.out).cells.2.1
 have z4:=(H3.out).cells.2.2.2.2.2.2.2.1
 have l4:=(H3.out).lt
 have H4:Hid (RM B b g T tv iv (Ref.up s) nv (w3.setCell ⟨b,1,none⟩ (.int .i64 ((s.p:Int)+1)))):=((H3.out).setP HU.out).1
 have F4:Hid (Fr b g w nv (w3.setCell ⟨b,1,none⟩ (.int .i64 ((s.p:Int)+1))) nv):=F3.out.trans ((H3.out).setP HU.out).2
 generalize hat:(Ref.now T s).at_=at0 at *
 have HAT:=hid hat
 clear hat
 go_wp2_with fail
 have HBI:Hid (Below (w3.setCell ⟨b,1,none⟩ (.int .i64 ((s.p:Int)+1))).heap.size (w3.setCell ⟨b,1,none⟩ (.int .i64 ((s.p:Int)+1))) ((w3.setCell ⟨b,1,none⟩ (.int .i64 ((s.p:Int)+1))).alloc (.cells (ilA at0 (.slice none 0 0) (.slice none 0 0)) 122))):=brf.alloc nlr _
 have H5:=hid (H4.out.below HBI.out)
 have F5:Hid (Fr b g w nv ((w3.setCell ⟨b,1,none⟩ (.int .i64 ((s.p:Int)+1))).alloc (.cells (ilA at0 (.slice none 0 0) (.slice none 0 0)) 122)) nv):=F4.out.trans (Fr.of_below HBI.out)
 have L5:Hid (IL w.heap.size w3.heap.size at0 [] [] (.slice none 0 0) (.slice none 0 0) ((w3.setCell ⟨b,1,none⟩ (.int .i64 ((s.p:Int)+1))).alloc (.cells (ilA at0 (.slice none 0 0) (.slice none 0 0)) 122))):=by
  have e:(w3.setCell ⟨b,1,none⟩ (.int .i64 ((s.p:Int)+1))).heap.size=w3.heap.size:=by simp
  refine⟨?_,World.ownsRow_nil _ _ _ _,World.ownsRow_nil _ _ _ _,F3.out.size,(fun h=>by cases h),(fun h=>by cases h),(fun k h=>by cases h)⟩
  have:=han (w3.setCell ⟨b,1,none⟩ (.int .i64 ((s.p:Int)+1))) (.cells (ilA at0 (.slice none 0 0) (.slice none 0 0)) 122)
  rw[e] at this
  exact this
 have HLEN:=hid hl
 generalize w3.heap.size=li at L5 ⊢
 clear d4 z4 l4 H1 F1 H2 F2 H3 F3 H4 F4 HBI hl
 obtain⟨j0,hj,jz0,jz1,jz2⟩:=info_parts Tryz.infoString
 obtain⟨k0,hk,kz0,kz1,kz2⟩:=info_parts Tryz.infoInt
 go_loopg [9] (T.length - (s.p+1)) (fun gk s9 wr=>∃(σ:Ref.Rs) (acc:List (Mil.Bytes×Nat)) (nn pp:Value),gk=T.length - σ.p/\Hid (RM B b g T tv iv σ nv wr)/\Hid (Fr b g w nv wr nv)/\Hid (IL w.heap.size li at0 (acc.map Prod.fst) (acc.map Prod.snd) nn pp wr)/\Hid (∀n x,Ref.rnames T n acc σ=some x->∃m,Ref.rnames T m [] (Ref.up s)=some x)/\Hid (acc.length<=σ.p)/\Hid (σ.p < T.length))
 case atStart=>exact⟨Ref.up s,[],.slice none 0 0,.slice none 0 0,rfl,H5,F5,L5,fun n x h=>⟨n,h⟩,Nat.zero_le _,HU⟩
 case round=>
  obtain⟨σ,acc,nn,pp,hg,HR,HF,HIL,HRN,HAC,HPL⟩:=hrel
  have HG:=hid hg
  clear hg H5 F5 L5
  go_wp2_with fail
  refine (rname_any B b g T tv iv σ nv _ HR.out hs).mono ?_
  rintro r w5 ⟨rfl,m5,f5⟩
  rw[tokV_eq]
  generalize hc5:Ref.rname T σ=x5 at m5 ⊢
  obtain⟨⟨tt,ta,tn,tm,tu,te⟩,s5⟩:=x5
  have C5:=hid hc5
  have hb5:Below w5.heap.size w5 (w5.alloc (.cells (tkA ⟨tt,ta,tn,tm,tu,te⟩) 104)):=brf.alloc nlr _
  have H5:Hid (RM B b g T tv iv s5 nv (w5.alloc (.cells (tkA ⟨tt,ta,tn,tm,tu,te⟩) 104))):=m5.below hb5
  have F5:Hid (Fr b g w nv (w5.alloc (.cells (tkA ⟨tt,ta,tn,tm,tu,te⟩) 104)) nv):=(HF.out.trans f5).trans (Fr.of_below hb5)
  have L5:Hid (IL w.heap.size li at0 (acc.map Prod.fst) (acc.map Prod.snd) nn pp (w5.alloc (.cells (tkA ⟨tt,ta,tn,tm,tu,te⟩) 104))):=(HIL.out.kept HA.out f5).kept HA.out (Fr.of_below hb5)
  have LL:Hid (li < w5.heap.size/\(∀k,nn.ownBlock=some k->k < w5.heap.size)/\(∀k,pp.ownBlock=some k->k < w5.heap.size)/\w.heap.size<=w5.heap.size):=by
   have q:=HIL.out.kept HA.out f5
   exact⟨(ags q.cells).1,fun k hk=>(q.nms.lt k hk).2,fun k hk=>(q.pls.lt k hk).2,(HF.out.trans f5).size⟩
  have LT:=nRow w5 (tkA ⟨tt,ta,tn,tm,tu,te⟩) 104
  have PS:Hid (σ.p<=s5.p/\s5.p < T.length):=by
   have p:=Ref.pays_name T σ
   rw[C5.out] at p
   exact⟨p.1,m5.lt⟩
  clear hb5 m5 f5 hc5 HIL HR HF
  have HLN:Hid ((acc.map Prod.fst).length=acc.length/\(acc.map Prod.snd).length=acc.length):=⟨by simp,by simp⟩
  generalize hla:acc.map Prod.fst=la at L5 HLN
  generalize hlb:acc.map Prod.snd=lb at L5 HLN
  have HLA:Hid (acc.map Prod.fst=la/\acc.map Prod.snd=lb):=⟨hla,hlb⟩
  clear hla hlb
  obtain⟨on,cn,hnn⟩:=own_shape L5.out.nms
  obtain⟨op,cq,hpp⟩:=own_shape L5.out.pls
  have HNN:=hid hnn
  have HPP:=hid hpp
  have y5:=L5.out.cells8.1
  have t0:(w5.alloc (.cells (tkA ⟨tt,ta,tn,tm,tu,te⟩) 104)).cell? ⟨w5.heap.size,0,none⟩=some (.string (bs tt)):=(cor _ _ 0 _ _ _ LT.out).trans rfl
  rw[hnn] at y5
  clear hnn hpp
  have wsz:(w5.alloc (.cells (tkA ⟨tt,ta,tn,tm,tu,te⟩) 104)).heap.size=w5.heap.size+1:=by simp
  have WS:=hid wsz
  clear wsz
  simp only[]
  go_upto_region 23 with fail
  generalize w5.alloc (.cells (tkA ⟨tt,ta,tn,tm,tu,te⟩) 104)=W at H5 F5 L5 LT WS y5 t0 ⊢
  have OW:Hid ((W.alloc (.cells #[.string (bs tt)] 9)).ownsRow w.heap.size 9 1 (.slice on la.length cn) la.length (nmv la)):=by
   show World.ownsRow _ _ _ _ _ _ _
   rw[<-HNN.out]
   exact L5.out.nms.alloc _
  have NW:Hid (∀(j:Nat) (u:Value),([.string (bs tt)]:List Value)[j]?=some u->(W.alloc (.cells #[.string (bs tt)] 9)).cell? ((⟨W.heap.size,0,none⟩:Addr).add j)=some u):=fun j u h=>news_cells W [.string (bs tt)] 9 j u h
  have LM:Hid (la.length<=4001/\lb.length<=4001):=by
   have h1:=HLN.out
   have h2:=HAC.out
   have h3:=HPL.out
   exact⟨by omega,by omega⟩
  have BW:Hid (w.heap.size<=W.heap.size):=F5.out.size
  go_upto_region 24 with (at_builtin;refine wpList_append_lies _ rfl (.tmp 112) (.tmp 115) 119 rfl w.heap.size 9 j0 (.string ⟨#[]⟩) 1 16 Tryz.underlying119 hj jz0 jz1 jz2 rfl (by decide) (.slice on la.length cn) la.length (nmv la) rfl OW.out ⟨W.heap.size,0,none⟩ 1 1 [.string (bs tt)] rfl rfl NW.out (by intro u hu;simp at hu;subst hu;rfl) (by decide) (by unfold maxLen;have:=LM.out;omega) (by have:=LM.out;omega) (by have:=BW.out;simp;omega) _ rfl ?_;intro k7 c7 w7 O7 hg7 hat7 hlt7;obtain⟨⟨z1,z2⟩,M7,B7,J7⟩:=L5.out.name HNN.out tt BW.out O7 hg7 hat7)
  have H7:Hid (RM B b g T tv iv s5 nv (w7.setCell ⟨li,5,none⟩ (.slice (some ⟨k7,0,none⟩) (la.length+1) c7))):=H5.out.far HA.out B7
  have F7:Hid (Fr b g w nv (w7.setCell ⟨li,5,none⟩ (.slice (some ⟨k7,0,none⟩) (la.length+1) c7)) nv):=F5.out.far B7
  have L7:=hid M7
  have LT7:Hid ((w7.setCell ⟨li,5,none⟩ (.slice (some ⟨k7,0,none⟩) (la.length+1) c7)).heap[w5.heap.size]?=some (.cells (tkA ⟨tt,ta,tn,tm,tu,te⟩) 104 (0,0))):=by
   have q:=LL.out
   exact (J7 w5.heap.size (by have:=WS.out;omega) (by omega) (fun e=>by have:=q.2.1 _ e;omega)).trans LT.out
  clear z1 z2 M7 B7 J7 O7 hg7 hat7 hlt7 H5 F5 L5 LT OW NW y5 t0
  generalize w7.setCell ⟨li,5,none⟩ (.slice (some ⟨k7,0,none⟩) (la.length+1) c7)=V at H7 F7 L7 LT7 ⊢
  generalize Value.slice (some ⟨k7,0,none⟩) (la.length+1) c7=nn7 at L7 ⊢
  have y6:=L7.out.cells8.2.1
  have t1:V.cell? ⟨w5.heap.size,1,none⟩=some (.int .i64 (ta:Nat)):=(cor _ _ 1 _ _ _ LT7.out).trans rfl
  rw[HPP.out] at y6
  have OP:Hid ((V.alloc (.cells #[.int .i64 (ta:Nat)] 3)).ownsRow w.heap.size 3 1 (.slice op lb.length cq) lb.length (plv lb)):=by
   show World.ownsRow _ _ _ _ _ _ _
   rw[<-HPP.out]
   exact L7.out.pls.alloc _
  have NP:Hid (∀(j:Nat) (u:Value),([.int .i64 (ta:Nat)]:List Value)[j]?=some u->(V.alloc (.cells #[.int .i64 (ta:Nat)] 3)).cell? ((⟨V.heap.size,0,none⟩:Addr).add j)=some u):=fun j u h=>news_cells V [.int .i64 (ta:Nat)] 3 j u h
  have BV:Hid (w.heap.size<=V.heap.size):=F7.out.size
  go_upto_region 25 with (at_builtin;refine wpList_append_lies _ rfl (.tmp 119) (.tmp 122) 120 rfl w.heap.size 3 k0 (.int .i64 0) 1 8 Tryz.underlying120 hk kz0 kz1 kz2 rfl (by decide) (.slice op lb.length cq) lb.length (plv lb) rfl OP.out ⟨V.heap.size,0,none⟩ 1 1 [.int .i64 (ta:Nat)] rfl rfl NP.out (by intro u hu;simp at hu;subst hu;rfl) (by decide) (by unfold maxLen;have:=LM.out;omega) (by have:=LM.out;omega) (by have:=BV.out;simp;omega) _ rfl ?_;intro k8 c8 w8 O8 hg8 hat8 hlt8;obtain⟨⟨z1,z2⟩,M8,B8,J8⟩:=L7.out.place HPP.out ta BV.out O8 hg8 hat8)
  have H8:Hid (RM B b g T tv iv s5 nv (w8.setCell ⟨li,6,none⟩ (.slice (some ⟨k8,0,none⟩) (lb.length+1) c8))):=H7.out.far HA.out B8
  have F8:Hid (Fr b g w nv (w8.setCell ⟨li,6,none⟩ (.slice (some ⟨k8,0,none⟩) (lb.length+1) c8)) nv):=F7.out.far B8
  have L8:Hid (IL w.heap.size li at0 ((acc++[(tt,ta)]).map Prod.fst) ((acc++[(tt,ta)]).map Prod.snd) nn7 (.slice (some ⟨k8,0,none⟩) (lb.length+1) c8) (w8.setCell ⟨li,6,none⟩ (.slice (some ⟨k8,0,none⟩) (lb.length+1) c8))):=by
   show IL _ _ _ _ _ _ _ _
   rw[List.map_append,List.map_append,HLA.out.1,HLA.out.2]
   exact M8
  clear z1 z2 M8 B8 J8 O8 hg8 hat8 hlt8 H7 F7 L7 LT7 OP NP y6 t1
  generalize w8.setCell ⟨li,6,none⟩ (.slice (some ⟨k8,0,none⟩) (lb.length+1) c8)=U at H8 F8 L8 ⊢
  generalize Value.slice (some ⟨k8,0,none⟩) (lb.length+1) c8=pp8 at L8 ⊢
  go_wp2_with fail
  refine (is_any B b g T tv iv s5 nv Mil.sComma _ H8.out).mono ?_
  rintro r w9 ⟨rfl,hb9⟩
  have H9:=hid (H8.out.below hb9)
  have F9:Hid (Fr b g w nv w9 nv):=F8.out.trans (Fr.of_below hb9)
  have L9:Hid (IL w.heap.size li at0 ((acc++[(tt,ta)]).map Prod.fst) ((acc++[(tt,ta)]).map Prod.snd) nn7 pp8 w9):=L8.out.kept HA.out (Fr.of_below hb9)
  clear hb9 H8 F8 L8
  by_cases cm:Ref.is T Mil.sComma s5=true
  ·rw[cm]
   have HC:=hid cm
   have HUP:Hid (s5.p+1 < T.length):=is_up H9.out (by decide) cm
   have d4:=H9.out.cells.2.1
   have z4:=H9.out.cells.2.2.2.2.2.2.2.1
   have l4:=H9.out.lt
   have H10:Hid (RM B b g T tv iv (Ref.up s5) nv (w9.setCell ⟨b,1,none⟩ (.int .i64 ((s5.p:Int)+1)))):=(H9.out.setP HUP.out).1
   have F10:Hid (Fr b g w nv (w9.setCell ⟨b,1,none⟩ (.int .i64 ((s5.p:Int)+1))) nv):=F9.out.trans (H9.out.setP HUP.out).2
   have L10:Hid (IL w.heap.size li at0 ((acc++[(tt,ta)]).map Prod.fst) ((acc++[(tt,ta)]).map Prod.snd) nn7 pp8 (w9.setCell ⟨b,1,none⟩ (.int .i64 ((s5.p:Int)+1)))):=L9.out.kept HA.out (H9.out.setP HUP.out).2
   clear cm
   go_wp2_with fail
   go_roundg (T.length - (s5.p+1))
   case rel=>
    refine⟨Ref.up s5,acc++[(tt,ta)],nn7,pp8,rfl,H10,F10,L10,?_,?_,HUP⟩
    ·intro n x hx
     refine HRN.out (n+1) x ?_
     rw[Ref.rnames,C5.out]
     simp only[]
     rw[if_pos HC.out]
     exact hx
    ·show (acc++[(tt,ta)]).length<=s5.p+1
     rw[List.length_append]
     have h1:=HAC.out
     have h2:=PS.out
     simp only[List.length_singleton]
     omega
   case measure=>
    have h1:=HG.out
    have h2:=PS.out
    have h3:=HUP.out
    omega
  ·have cf:Ref.is T Mil.sComma s5=false:=by simpa using cm
   have HC:=hid cf
   rw[cf]
   clear cm cf
   go_wp2_with fail
   refine (take_any B b g T tv iv s5 nv Mil.sSemi (by decide) _ (H9.out) hs).mono ?_
   rintro r w10 ⟨rfl,m10,f10⟩
   generalize he10:Ref.take T Mil.sSemi s5=s10 at m10
   have E10:=hid he10
   have H10:=hid m10
   have F10:=hid (F9.out.trans f10)
   have L10:=hid (L9.out.kept HA.out f10)
   clear m10 f10 he10 H9 F9 L9
   go_wp2_with fail
   have HNM:Hid (nms (acc++[(tt,ta)])=nmv ((acc++[(tt,ta)]).map Prod.fst)/\pls (acc++[(tt,ta)])=plv ((acc++[(tt,ta)]).map Prod.snd)/\(acc++[(tt,ta)]).length=((acc++[(tt,ta)]).map Prod.fst).length/\(acc++[(tt,ta)]).length=((acc++[(tt,ta)]).map Prod.snd).length):=by
    refine⟨?_,?_,?_,?_⟩
    ·show List.map _ _=List.map _ (List.map _ _)
     rw[List.map_map];rfl
    ·show List.map _ _=List.map _ (List.map _ _)
     rw[List.map_map];rfl
    ·rw[List.length_map]
    ·rw[List.length_map]
   generalize (acc++[(tt,ta)]).map Prod.fst=la2 at L10 HNM
   generalize (acc++[(tt,ta)]).map Prod.snd=lb2 at L10 HNM
   obtain⟨on2,cn2,hn2⟩:=own_shape L10.out.nms
   obtain⟨op2,cq2,hp2⟩:=own_shape L10.out.pls
   subst hn2
   subst hp2
   obtain⟨o,c,hv⟩:=own_shape HM.out.own
   have HV:=hid hv
   have e2:=H10.out.cells.2.2.1
   have e6:=H10.out.cells.2.2.2.2.2.1
   rw[hv] at e6
   clear hv
   obtain⟨q0,q1,q2,q3,q4,q5,q6,q7⟩:=il_eight L10.out.cells
   have M10:=hid (HM.out.kept F10.out)
   have HB11:=bRow w10 #[.int .i64 2,.int .i64 (at0:Nat),.string ⟨#[]⟩,.int .i64 0,.int .i64 0,.slice on2 la2.length cn2,.slice op2 lb2.length cq2,.int .i64 0] 122
   have H11:=hid (H10.out.below HB11.out)
   have M11:Hid (IM B b g tv I iv nv (w10.alloc (.cells #[.int .i64 2,.int .i64 (at0:Nat),.string ⟨#[]⟩,.int .i64 0,.int .i64 0,.slice on2 la2.length cn2,.slice op2 lb2.length cq2,.int .i64 0] 122))):=M10.out.kept (Fr.of_below HB11.out)
   have OW:Hid ((w10.alloc (.cells #[.int .i64 2,.int .i64 (at0:Nat),.string ⟨#[]⟩,.int .i64 0,.int .i64 0,.slice on2 la2.length cn2,.slice op2 lb2.length cq2,.int .i64 0] 122)).ownsRow B 122 8 (.slice o I.length c) I.length (ims I)):=by
    show World.ownsRow _ _ _ _ _ _ _
    rw[<-HV.out]
    exact M11.out.own
   have NW:Hid (∀(j:Nat) (u:Value),(imCells ⟨⟨2,at0,[],0,0,acc++[(tt,ta)],0⟩,.slice on2 la2.length cn2,.slice op2 lb2.length cq2⟩)[j]?=some u->(w10.alloc (.cells #[.int .i64 2,.int .i64 (at0:Nat),.string ⟨#[]⟩,.int .i64 0,.int .i64 0,.slice on2 la2.length cn2,.slice op2 lb2.length cq2,.int .i64 0] 122)).cell? ((⟨w10.heap.size,0,none⟩:Addr).add j)=some u):=fun j u h=>news_cells w10 (imCells ⟨⟨2,at0,[],0,0,acc++[(tt,ta)],0⟩,.slice on2 la2.length cn2,.slice op2 lb2.length cq2⟩) 122 j u h
   have BW:Hid (B<=(w10.alloc (.cells #[.int .i64 2,.int .i64 (at0:Nat),.string ⟨#[]⟩,.int .i64 0,.int .i64 0,.slice on2 la2.length cn2,.slice op2 lb2.length cq2,.int .i64 0] 122)).heap.size):=Nat.le_trans H10.out.hb (Nat.le_trans (Nat.le_of_lt (ags H10.out.rd).1) HB11.out.size)
   have BN:Hid (B<=w.heap.size):=Nat.le_trans H.out.hb (Nat.le_of_lt HA.out.b)
   have HY:Hid ((w10.alloc (.cells #[.int .i64 2,.int .i64 (at0:Nat),.string ⟨#[]⟩,.int .i64 0,.int .i64 0,.slice on2 la2.length cn2,.slice op2 lb2.length cq2,.int .i64 0] 122)).drew.ownsRow B 9 1 (.slice on2 la2.length cn2) (acc++[(tt,ta)]).length (nms (acc++[(tt,ta)]))/\(w10.alloc (.cells #[.int .i64 2,.int .i64 (at0:Nat),.string ⟨#[]⟩,.int .i64 0,.int .i64 0,.slice on2 la2.length cn2,.slice op2 lb2.length cq2,.int .i64 0] 122)).drew.ownsRow B 3 1 (.slice op2 lb2.length cq2) (acc++[(tt,ta)]).length (pls (acc++[(tt,ta)]))):=by
    obtain⟨r1,r2,r3,r4⟩:=HNM.out
    refine⟨?_,?_⟩
    ·rw[r1,r3]
     exact own_kept (own_less L10.out.nms BN.out) (fun k hk=>HB11.out.drew.block k (L10.out.nms.lt k hk).2)
    ·rw[r2,r4]
     exact own_kept (own_less L10.out.pls BN.out) (fun k hk=>HB11.out.drew.block k (L10.out.pls.lt k hk).2)
   have HYB:Hid (∀k,(Value.slice on2 la2.length cn2).ownBlock=some k\/(Value.slice op2 lb2.length cq2).ownBlock=some k->k≠b/\k≠g/\tv.ownBlock≠some k/\nv.ownBlock≠some k/\iv.ownBlock≠some k):=by
    intro k hk
    have hN:w.heap.size<=k:=by
     rcases hk with hk|hk
     ·exact (L10.out.nms.lt k hk).1
     ·exact (L10.out.pls.lt k hk).1
    have a:=HA.out
    exact⟨by have:=a.b;omega,by have:=a.g;omega,fun e=>by have:=a.t k e;omega,fun e=>by have:=a.n k e;omega,fun e=>by have:=a.i k e;omega⟩
   obtain⟨i0,hi,hz0,hz1,hz2⟩:=info_parts Tryz.infoItem
   clear M10 H10 hj jz0 jz1 jz2 hk kz0 kz1 kz2
   refine wp_region_L (fun w'=>w'.cell? ⟨b,2,none⟩=some (.pointer (some ⟨g,0,none⟩))/\w'.cell? ⟨g,0,none⟩=some (.slice o I.length c)/\w'.cell? ⟨li,0,none⟩=some (.int .i64 2)/\w'.cell? ⟨li,1,none⟩=some (.int .i64 (at0:Nat))/\w'.cell? ⟨li,2,none⟩=some (.string ⟨#[]⟩)/\w'.cell? ⟨li,3,none⟩=some (.int .i64 0)/\w'.cell? ⟨li,4,none⟩=some (.int .i64 0)/\w'.cell? ⟨li,5,none⟩=some (.slice on2 la2.length cn2)/\w'.cell? ⟨li,6,none⟩=some (.slice op2 lb2.length cq2)/\w'.cell? ⟨li,7,none⟩=some (.int .i64 0)) 16 (by kernel_rfl) (by (try dsimp only);go_keep) (fun hHeld=>?_)
   refine wpAnyL_take (i := 0) (oi := { dst := some 138, op := Op.move (Operand.tmp 0), type := 94, pos := "parse.go:311", after := #[], guard := none }) (v := ?v0) rfl (by kernel_rfl) (by kernel_rfl) (by kernel_rfl) (by kernel_rfl) (fun _ _ _ h => h) (Or.inl ⟨by rfl, ?y0⟩) (by assumption) ?r0
   case y0=>(intro w' hSw;(try dsimp only at hSw);go_simp <;> with_reducible rfl)
   try simp only[Act.put,List.setIfInBounds_toArray,List.set_cons_zero,List.set_cons_succ]
   refine wpAnyL_take (i := 1) (oi := { dst := some 139, op := Op.nilCheck (Operand.tmp 138), type := 0, pos := "parse.go:311", after := #[{ on := 0, ground := Ground.data }], guard := none }) (v := ?v1) rfl (by kernel_rfl) (by kernel_rfl) (by kernel_rfl) (by kernel_rfl) (fun _ _ _ h => h) (Or.inl ⟨by rfl, ?y1⟩) (by assumption) ?r1
   case y1=>(intro w' hSw;(try dsimp only at hSw);go_simp <;> with_reducible rfl)
   try simp only[Act.put,List.setIfInBounds_toArray,List.set_cons_zero,List.set_cons_succ]
   refine wpAnyL_take (i := 2) (oi := { dst := some 140, op := Op.fieldAddr 102 (Operand.tmp 139) 2, type := 0, pos := "parse.go:311", after := #[{ on := 1, ground := Ground.data }], guard := none }) (v := ?v2) rfl (by kernel_rfl) (by kernel_rfl) (by kernel_rfl) (by kernel_rfl) (fun _ _ _ h => h) (Or.inl ⟨by rfl, ?y2⟩) (by assumption) ?r2
   case y2=>(intro w' hSw;(try dsimp only at hSw);go_simp <;> with_reducible rfl)
   try simp only[Act.put,List.setIfInBounds_toArray,List.set_cons_zero,List.set_cons_succ]
   refine wpAnyL_take (i := 3) (oi := { dst := some 141, op := Op.load 43 (Operand.tmp 140), type := 43, pos := "parse.go:311", after := #[{ on := 2, ground := Ground.data }], guard := none }) (v := ?v3) rfl (by kernel_rfl) (by kernel_rfl) (by kernel_rfl) (by kernel_rfl) (fun _ _ _ h => h) (Or.inl ⟨by rfl, ?y3⟩) (by assumption) ?r3
   case y3=>(intro w' hSw;(try dsimp only at hSw);go_simp <;> with_reducible rfl)
   try simp only[Act.put,List.setIfInBounds_toArray,List.set_cons_zero,List.set_cons_succ]
   refine wpAnyL_take (i := 4) (oi := { dst := some 142, op := Op.move (Operand.tmp 0), type := 94, pos := "parse.go:311", after := #[], guard := none }) (v := ?v4) rfl (by kernel_rfl) (by kernel_rfl) (by kernel_rfl) (by kernel_rfl) (fun _ _ _ h => h) (Or.inl ⟨by rfl, ?y4⟩) (by assumption) ?r4
   case y4=>(intro w' hSw;(try dsimp only at hSw);go_simp <;> with_reducible rfl)
   try simp only[Act.put,List.setIfInBounds_toArray,List.set_cons_zero,List.set_cons_succ]
   refine wpAnyL_take (i := 5) (oi := { dst := some 143, op := Op.nilCheck (Operand.tmp 142), type := 0, pos := "parse.go:311", after := #[{ on := 4, ground := Ground.data }], guard := none }) (v := ?v5) rfl (by kernel_rfl) (by kernel_rfl) (by kernel_rfl) (by kernel_rfl) (fun _ _ _ h => h) (Or.inl ⟨by rfl, ?y5⟩) (by assumption) ?r5
   case y5=>(intro w' hSw;(try dsimp only at hSw);go_simp <;> with_reducible rfl)
   try simp only[Act.put,List.setIfInBounds_toArray,List.set_cons_zero,List.set_cons_succ]
   refine wpAnyL_take (i := 6) (oi := { dst := some 144, op := Op.fieldAddr 102 (Operand.tmp 143) 2, type := 0, pos := "parse.go:311", after := #[{ on := 5, ground := Ground.data }], guard := none }) (v := ?v6) rfl (by kernel_rfl) (by kernel_rfl) (by kernel_rfl) (by kernel_rfl) (fun _ _ _ h => h) (Or.inl ⟨by rfl, ?y6⟩) (by assumption) ?r6
   case y6=>(intro w' hSw;(try dsimp only at hSw);go_simp <;> with_reducible rfl)
   try simp only[Act.put,List.setIfInBounds_toArray,List.set_cons_zero,List.set_cons_succ]
   refine wpAnyL_take (i := 7) (oi := { dst := some 145, op := Op.load 43 (Operand.tmp 144), type := 43, pos := "parse.go:311", after := #[{ on := 6, ground := Ground.data }], guard := none }) (v := ?v7) rfl (by kernel_rfl) (by kernel_rfl) (by kernel_rfl) (by kernel_rfl) (fun _ _ _ h => h) (Or.inl ⟨by rfl, ?y7⟩) (by assumption) ?r7
   case y7=>(intro w' hSw;(try dsimp only at hSw);go_simp <;> with_reducible rfl)
   try simp only[Act.put,List.setIfInBounds_toArray,List.set_cons_zero,List.set_cons_succ]
   refine wpAnyL_take (i := 8) (oi := { dst := some 146, op := Op.nilCheck (Operand.tmp 145), type := 0, pos := "parse.go:311", after := #[{ on := 7, ground := Ground.data }], guard := none }) (v := ?v8) rfl (by kernel_rfl) (by kernel_rfl) (by kernel_rfl) (by kernel_rfl) (fun _ _ _ h => h) (Or.inl ⟨by rfl, ?y8⟩) (by assumption) ?r8
   case y8=>(intro w' hSw;(try dsimp only at hSw);go_simp <;> with_reducible rfl)
   try simp only[Act.put,List.setIfInBounds_toArray,List.set_cons_zero,List.set_cons_succ]
   refine wpAnyL_take (i := 9) (oi := { dst := some 147, op := Op.fieldAddr 100 (Operand.tmp 146) 0, type := 0, pos := "parse.go:311", after := #[{ on := 8, ground := Ground.data }], guard := none }) (v := ?v9) rfl (by kernel_rfl) (by kernel_rfl) (by kernel_rfl) (by kernel_rfl) (fun _ _ _ h => h) (Or.inl ⟨by rfl, ?y9⟩) (by assumption) ?r9
   case y9=>(intro w' hSw;(try dsimp only at hSw);go_simp <;> with_reducible rfl)
   try simp only[Act.put,List.setIfInBounds_toArray,List.set_cons_zero,List.set_cons_succ]
   refine wpAnyL_take (i := 10) (oi := { dst := some 148, op := Op.load 97 (Operand.tmp 147), type := 97, pos := "parse.go:311", after := #[{ on := 9, ground := Ground.data }], guard := none }) (v := ?v10) rfl (by kernel_rfl) (by kernel_rfl) (by kernel_rfl) (by kernel_rfl) (fun _ _ _ h => h) (Or.inl ⟨by rfl, ?y10⟩) (by assumption) ?r10
   case y10=>(intro w' hSw;(try dsimp only at hSw);go_simp <;> with_reducible rfl)
   try simp only[Act.put,List.setIfInBounds_toArray,List.set_cons_zero,List.set_cons_succ]
   refine wpAnyL_take (i := 11) (oi := { dst := some 149, op := Op.load 122 (Operand.tmp 8), type := 122, pos := "parse.go:311", after := #[], guard := none }) (v := ?v11) rfl (by kernel_rfl) (by kernel_rfl) (by kernel_rfl) (by kernel_rfl) (fun _ _ _ h => h) (Or.inl ⟨by rfl, ?y11⟩) (by assumption) ?r11
   case y11=>(intro w' hSw;(try dsimp only at hSw);go_simp <;> with_reducible rfl)
   try simp only[Act.put,List.setIfInBounds_toArray,List.set_cons_zero,List.set_cons_succ]
   refine wpAnyL_one (i := 12) (o := { dst := some 150, op := Op.buildSlice 97 1 #[(0, Operand.tmp 149)], type := 97, pos := "parse.go:311", after := #[{ on := 11, ground := Ground.data }], guard := none }) (by kernel_rfl) rfl (fun K hK => ?_)
   go_simp
   refine hK.out _ _ (Or.inr ?s12) (fun h12=>?r12)
   case s12=>((try dsimp only);go_keep)
   replace h12:=h12.resolve_left (by decide)
   clear hK K
   try simp only[Act.put,List.setIfInBounds_toArray,List.set_cons_zero,List.set_cons_succ]
   refine wpAnyL_one (i := 13) (o := { dst := some 151, op := Op.call { callee := Callee.builtin Builtin.append, args := #[Operand.tmp 148, Operand.tmp 150], argTypes := #[97, 97] }, type := 97, pos := "parse.go:311", after := #[{ on := 10, ground := Ground.data }, { on := 12, ground := Ground.data }], guard := none }) (by kernel_rfl) rfl (fun K hK => ?_)
   refine step_append_lies _ rfl (.tmp 148) (.tmp 150) 97 rfl B 122 i0 (.agg #[.int .i64 0,.int .i64 0,.string ⟨#[]⟩,.int .i64 0,.int .i64 0,.slice none 0 0,.slice none 0 0,.int .i64 0]) 8 104 Tryz.underlying97 hi hz0 hz1 hz2 rfl (by decide) (.slice o I.length c) I.length (ims I) rfl OW.out ⟨w10.heap.size,0,none⟩ 1 1 (imCells ⟨⟨2,at0,[],0,0,acc++[(tt,ta)],0⟩,.slice on2 la2.length cn2,.slice op2 lb2.length cq2⟩) rfl rfl NW.out (im_one _ rfl rfl) (by decide) (by unfold maxLen;have:=HLEN.out;omega) (by have:=HLEN.out;omega) BW.out _ rfl ?_
   intro k7 c7 w7 O7 hg7 hat7 hlt7
   obtain⟨x2,x6,xz⟩:=after_items (H11.out.below brf.drew) (M11.out.kept (Fr.of_below brf.drew)) HV.out hg7
   have xl:=il_eight (il_grown L10.out HB11.out.drew hg7 (fun e=>by have h1:=HA.out.i li (HV.out ▸ e);have h2:=L10.out.far;omega))
   have HE:Hid (_/\_):=items_end (H11.out.below brf.drew) (M11.out.kept (Fr.of_below brf.drew)) (F10.out.trans (Fr.of_below HB11.out.drew)) HV.out (y:=⟨⟨2,at0,[],0,0,acc++[(tt,ta)],0⟩,.slice on2 la2.length cn2,.slice op2 lb2.length cq2⟩) HY.out HYB.out O7 hg7 hat7
   refine hK.out _ _ (Or.inr ?s13) (fun h13=>?r13)
   case s13=>exact⟨x2,x6,xl⟩
   replace h13:=h13.resolve_left (by decide)
   clear hK K
   try simp only[Act.put,List.setIfInBounds_toArray,List.set_cons_zero,List.set_cons_succ]
   refine wpAnyL_one (i := 14) (o := { dst := some 152, op := Op.nilCheck (Operand.tmp 141), type := 0, pos := "parse.go:311", after := #[{ on := 3, ground := Ground.data }, { on := 0, ground := Ground.phase }, { on := 1, ground := Ground.phase }, { on := 2, ground := Ground.phase }, { on := 3, ground := Ground.phase }, { on := 4, ground := Ground.phase }, { on := 5, ground := Ground.phase }, { on := 6, ground := Ground.phase }, { on := 7, ground := Ground.phase }, { on := 8, ground := Ground.phase }, { on := 9, ground := Ground.phase }, { on := 10, ground := Ground.phase }, { on := 11, ground := Ground.phase }, { on := 12, ground := Ground.phase }, { on := 13, ground := Ground.phase }], guard := none }) (by kernel_rfl) rfl (fun K hK => ?_)
   go_simp
   refine hK.out _ _ (Or.inr (by assumption)) (fun h14=>?r14)
   clear h14 hK K
   try simp only[Act.put,List.setIfInBounds_toArray,List.set_cons_zero,List.set_cons_succ]
   refine wpAnyL_one (i := 15) (o := { dst := some 153, op := Op.fieldAddr 100 (Operand.tmp 152) 0, type := 0, pos := "parse.go:311", after := #[{ on := 14, ground := Ground.data }, { on := 0, ground := Ground.phase }, { on := 1, ground := Ground.phase }, { on := 2, ground := Ground.phase }, { on := 3, ground := Ground.phase }, { on := 4, ground := Ground.phase }, { on := 5, ground := Ground.phase }, { on := 6, ground := Ground.phase }, { on := 7, ground := Ground.phase }, { on := 8, ground := Ground.phase }, { on := 9, ground := Ground.phase }, { on := 10, ground := Ground.phase }, { on := 11, ground := Ground.phase }, { on := 12, ground := Ground.phase }, { on := 13, ground := Ground.phase }], guard := none }) (by kernel_rfl) rfl (fun K hK => ?_)
   go_simp
   refine hK.out _ _ (Or.inr (by assumption)) (fun h15=>?r15)
   clear h15 hK K
   try simp only[Act.put,List.setIfInBounds_toArray,List.set_cons_zero,List.set_cons_succ]
   refine wpAnyL_one (i := 16) (o := { dst := none, op := Op.store 97 (Operand.tmp 153) (Operand.tmp 151), type := 0, pos := "parse.go:311", after := #[{ on := 15, ground := Ground.data }, { on := 13, ground := Ground.data }, { on := 13, ground := Ground.chain }, { on := 0, ground := Ground.phase }, { on := 1, ground := Ground.phase }, { on := 2, ground := Ground.phase }, { on := 3, ground := Ground.phase }, { on := 4, ground := Ground.phase }, { on := 5, ground := Ground.phase }, { on := 6, ground := Ground.phase }, { on := 7, ground := Ground.phase }, { on := 8, ground := Ground.phase }, { on := 9, ground := Ground.phase }, { on := 10, ground := Ground.phase }, { on := 11, ground := Ground.phase }, { on := 12, ground := Ground.phase }, { on := 13, ground := Ground.phase }], guard := none }) (by kernel_rfl) rfl (fun K hK => ?_)
   go_simp
   refine hK.out _ _ (Or.inl rfl) (fun _=>?r16)
   clear hK K
   try simp only[Act.put,List.setIfInBounds_toArray,List.set_cons_zero,List.set_cons_succ]
   refine wpAnyL_done (by kernel_rfl) ?_ _
   all_goals go_wp2
   all_goals
    refine bodyPost_ret (v:=.tuple #[]) (by simp[results,Tryz.results50,go_sem]) rfl ?_
    refine⟨rfl,⟨⟨2,at0,[],0,0,acc++[(tt,ta)],0⟩,.slice on2 la2.length cn2,.slice op2 lb2.length cq2⟩,s10,_,_,?_,HE.out.1,HE.out.2.1,HE.out.2.2⟩
    obtain⟨m,hm⟩:=HRN.out 1 (acc++[(tt,ta)],s5) (by
     rw[Ref.rnames,C5.out]
     simp only[]
     rw[HC.out]
     rfl)
    have hR:=Ref.ri_out HI.out HO.out hm
    rw[HAT.out,E10.out] at hR
    exact hR
end
end Go.Proofs.YtoiajojadihpbaaGreatDoor
