import Derived.Test.YtjehljjlcifndaaGreatDoorX44
import Derived.Test.YtjehljjlcifndaaGreatDoorX40
namespace Go.Proofs.YtjehljjlcifndaaGreatDoor
set_option maxHeartbeats 32000000
set_option maxRecDepth 100000
section
open Go.RowKit
theorem rows_made {w w3:World} {mb lb jb K T:Nat} {fv tv wv:Value} (b1:Below w.heap.size w w3) (hm:w3.heap[mb]?=some (.cells #[fv,tv,wv,.int .i64 0,.bool false,.slice (some ⟨lb,0,none⟩) K K,.slice (some ⟨jb,0,none⟩) T T] 101 (0,0))) (hl:w3.rowIs lb 35 K (fun _=>.slice none 0 0)) (hj:w3.rowIs jb 70 T (fun _=>.slice none 0 0)) (h1:w.heap.size<=mb) (h2:w.heap.size<=lb) (h3:w.heap.size<=jb) :
  Mc (fun _ _=>False) w mb lb jb K T fv tv wv 0 false (fun _=>[]) (fun _=>[]) (fun _=>.slice none 0 0) (fun _=>.slice none 0 0) w3:=
 ⟨b1,hm,hl,hj,h1,h2,h3,fun _ _=>⟨Nat.zero_le _,World.ownsRow_nil _ _ _ _⟩,(fun _ _ _ _ _ e _=>by cases e),fun _ _=>Or.inl ⟨rfl,_,_,rfl⟩,fun _ _ hb=>hb.elim⟩
theorem machine_any {w:World} {P K T:Nat} {of ot:Option Addr} {cf ct:Nat} {wv:Value} (hP:w.heap[P]?=some (.cells #[.slice of K cf,.slice ot T ct,wv] 57 (0,0))) (hv:∃g,wv=.slice (some ⟨g,0,none⟩) K K) (hK:K<=60) (hT:T<=60) :
  Calls Tryz.prog 20 #[.pointer (some ⟨P,0,none⟩)] w fun E w'=>∃mb lb jb,E=.returned (.pointer (some ⟨mb,0,none⟩))/\Mc (fun _ _=>False) w mb lb jb K T (.slice of K cf) (.slice ot T ct) wv 0 false (fun _=>[]) (fun _=>[]) (fun _=>.slice none 0 0) (fun _=>.slice none 0 0) w':=by
 obtain⟨gw,rfl⟩:=hv
 have c0:w.cell? ⟨P,0,none⟩=some (.slice of K cf):=(cor w P 0 _ _ _ hP).trans rfl
 have c1:w.cell? ⟨P,1,none⟩=some (.slice ot T ct):=(cor w P 1 _ _ _ hP).trans rfl
 have c2:w.cell? ⟨P,2,none⟩=some (.slice (some ⟨gw,0,none⟩) K K):=(cor w P 2 _ _ _ hP).trans rfl
 have hmk:=fun w=>run_make_row' (P:=Tryz.prog) 33 35 (.slice none 0 0) 24 Tryz.underlying33 Tryz.infoSl rfl .i64 .i64 K (by omega) (by omega) w
 have hmj:=fun w=>run_make_row' (P:=Tryz.prog) 24 70 (.slice none 0 0) 24 Tryz.underlying24 (show (Tryz.prog.info? 70).map (fun i=>(i.zero,i.size,i.bytes))=some (some (.slice none 0 0),1,24) by kernel_rfl) rfl .i64 .i64 T (by omega) (by omega) w
 have HKT:Hid (K<=60/\T<=60):=⟨hK,hT⟩
 have a0:∀o,(w.alloc o).cell? ⟨P,0,none⟩=some (.slice of K cf):=fun o=>((bl1 w o).cell (lt_of_cell c0)).trans c0
 have a1:∀o,(w.alloc o).cell? ⟨P,1,none⟩=some (.slice ot T ct):=fun o=>((bl1 w o).cell (lt_of_cell c1)).trans c1
 have a2:∀o,(w.alloc o).cell? ⟨P,2,none⟩=some (.slice (some ⟨gw,0,none⟩) K K):=fun o=>((bl1 w o).cell (lt_of_cell c2)).trans c2
 have b0:∀o o',((w.alloc o).alloc o').cell? ⟨P,0,none⟩=some (.slice of K cf):=fun o o'=>((bl2 w o o').cell (lt_of_cell c0)).trans c0
 have b1:∀o o',((w.alloc o).alloc o').cell? ⟨P,1,none⟩=some (.slice ot T ct):=fun o o'=>((bl2 w o o').cell (lt_of_cell c1)).trans c1
 have b2:∀o o',((w.alloc o).alloc o').cell? ⟨P,2,none⟩=some (.slice (some ⟨gw,0,none⟩) K K):=fun o o'=>((bl2 w o o').cell (lt_of_cell c2)).trans c2
 clear hP hK hT
 go_enter Tryz.func20,Tryz.ntmps20
 go_wp2_with fail
 go_region
 ·have r1:=((World.rowIs_made w (.slice none 0 0) K 35).alloc (.cells (madeCells #[.slice none 0 0] T) 70)).alloc (.cells #[.slice of K cf,.slice ot T ct,.slice (some ⟨gw,0,none⟩) K K,.int .i64 0,.bool false,.slice (some ⟨w.heap.size,0,none⟩) K K,.slice (some ⟨w.heap.size+1,0,none⟩) T T] 101)
  have r2:=(World.rowIs_made (w.alloc (.cells (madeCells #[.slice none 0 0] K) 35)) (.slice none 0 0) T 70).alloc (.cells #[.slice of K cf,.slice ot T ct,.slice (some ⟨gw,0,none⟩) K K,.int .i64 0,.bool false,.slice (some ⟨w.heap.size,0,none⟩) K K,.slice (some ⟨w.heap.size+1,0,none⟩) T T] 101)
  have r3:=han ((w.alloc (.cells (madeCells #[.slice none 0 0] K) 35)).alloc (.cells (madeCells #[.slice none 0 0] T) 70)) (.cells #[.slice of K cf,.slice ot T ct,.slice (some ⟨gw,0,none⟩) K K,.int .i64 0,.bool false,.slice (some ⟨w.heap.size,0,none⟩) K K,.slice (some ⟨w.heap.size+1,0,none⟩) T T] 101)
  rw[World.size_alloc] at r2
  rw[World.size_alloc,World.size_alloc] at r3
  have HX:Hid (Mc (fun _ _=>False) w (w.heap.size+1+1) w.heap.size (w.heap.size+1) K T (.slice of K cf) (.slice ot T ct) (.slice (some ⟨gw,0,none⟩) K K) 0 false (fun _=>[]) (fun _=>[]) (fun _=>.slice none 0 0) (fun _=>.slice none 0 0) (((w.alloc (.cells (madeCells #[.slice none 0 0] K) 35)).alloc (.cells (madeCells #[.slice none 0 0] T) 70)).alloc (.cells #[.slice of K cf,.slice ot T ct,.slice (some ⟨gw,0,none⟩) K K,.int .i64 0,.bool false,.slice (some ⟨w.heap.size,0,none⟩) K K,.slice (some ⟨w.heap.size+1,0,none⟩) T T] 101))):=rows_made (bl3 w _ _ _) r3 r1 r2 (by omega) (by omega) (by omega)
  clear r1 r2 r3 a0 a1 a2 b0 b1 b2 c0 c1 c2 hmk hmj
  go_wp2
  go_ret
  first
   | exact⟨_,rfl,_,_,HX.out⟩
   | exact⟨_,rfl,_,_,HX.out.below brf.drew⟩
 ·have r1:=((World.rowIs_made w (.slice none 0 0) T 70).alloc (.cells (madeCells #[.slice none 0 0] K) 35)).alloc (.cells #[.slice of K cf,.slice ot T ct,.slice (some ⟨gw,0,none⟩) K K,.int .i64 0,.bool false,.slice (some ⟨w.heap.size+1,0,none⟩) K K,.slice (some ⟨w.heap.size,0,none⟩) T T] 101)
  have r2:=(World.rowIs_made (w.alloc (.cells (madeCells #[.slice none 0 0] T) 70)) (.slice none 0 0) K 35).alloc (.cells #[.slice of K cf,.slice ot T ct,.slice (some ⟨gw,0,none⟩) K K,.int .i64 0,.bool false,.slice (some ⟨w.heap.size+1,0,none⟩) K K,.slice (some ⟨w.heap.size,0,none⟩) T T] 101)
  have r3:=han ((w.alloc (.cells (madeCells #[.slice none 0 0] T) 70)).alloc (.cells (madeCells #[.slice none 0 0] K) 35)) (.cells #[.slice of K cf,.slice ot T ct,.slice (some ⟨gw,0,none⟩) K K,.int .i64 0,.bool false,.slice (some ⟨w.heap.size+1,0,none⟩) K K,.slice (some ⟨w.heap.size,0,none⟩) T T] 101)
  rw[World.size_alloc] at r2
  rw[World.size_alloc,World.size_alloc] at r3
  have HX:Hid (Mc (fun _ _=>False) w (w.heap.size+1+1) (w.heap.size+1) w.heap.size K T (.slice of K cf) (.slice ot T ct) (.slice (some ⟨gw,0,none⟩) K K) 0 false (fun _=>[]) (fun _=>[]) (fun _=>.slice none 0 0) (fun _=>.slice none 0 0) (((w.alloc (.cells (madeCells #[.slice none 0 0] T) 70)).alloc (.cells (madeCells #[.slice none 0 0] K) 35)).alloc (.cells #[.slice of K cf,.slice ot T ct,.slice (some ⟨gw,0,none⟩) K K,.int .i64 0,.bool false,.slice (some ⟨w.heap.size+1,0,none⟩) K K,.slice (some ⟨w.heap.size,0,none⟩) T T] 101))):=rows_made (bl3 w _ _ _) r3 r2 r1 (by omega) (by omega) (by omega)
  clear r1 r2 r3 a0 a1 a2 b0 b1 b2 c0 c1 c2 hmk hmj
  go_wp2
  go_ret
  first
   | exact⟨_,rfl,_,_,HX.out⟩
   | exact⟨_,rfl,_,_,HX.out.below brf.drew⟩
theorem log_any {D:Nat->Obj->Prop} {wE:World} {mb lb jb K T:Nat} {fv tv wv:Value} {c:Int} {ov:Bool} {L:Nat->List Int} {J:Nat->List Nat} {fn jn:Nat->Value} {w:World} (h:Mc D wE mb lb jb K T fv tv wv c ov L J fn jn w) {j:Nat} (hj:j < K) (hne:L j≠[]) :
  Calls Tryz.prog 24 #[.pointer (some ⟨mb,0,none⟩),.int .i64 (j:Nat)] w fun E w'=>Below w.heap.size w w'/\∃v,E=.returned v/\Nl w' w.heap.size v (L j):=by
 obtain⟨n0,hn0,nz0,nz1,nz2⟩:=info_parts Tryz.infoI64
 obtain⟨_,_,_,_,_,c5,_⟩:=h.cells
 obtain⟨hlen,hnl⟩:=h.log j hj
 obtain⟨g,cl,hfn⟩:∃g c,fn j=.slice (some ⟨g,0,none⟩) (L j).length c:=by
  rcases hnl.2 with ⟨_,e⟩|⟨g,cap,cur,e,_⟩
  ·exact absurd (List.length_eq_zero_iff.1 e) hne
  ·exact⟨g,cap,e⟩
 have cj:w.cell? ⟨lb,j,none⟩=some (.slice (some ⟨g,0,none⟩) (L j).length cl):=by rw[h.row.cell hj,hfn]
 have HL:Hid (0 < (L j).length/\(L j).length<=2001):=⟨List.length_pos_iff.2 hne,hlen⟩
 have HO:Hid (Nl w wE.heap.size (.slice (some ⟨g,0,none⟩) (L j).length cl) (L j)):=by
  have e:=hnl
  rw[hfn] at e
  exact e
 have h0:(0:Int)<=(j:Int):=by omega
 have h1:(j:Int) < (K:Int):=by omega
 have HH:Hid (∀w,Calls Tryz.prog 43 #[.slice (some ⟨lb,0,none⟩) K K,.int .i64 (j:Nat)] w fun E w'=>E=.returned (.bool true)/\w=w'):=fun w=>hasL_any _ _ _ _ w (decide_eq_true ⟨h0,h1⟩).symm
 have AB:Hid (Below w.heap.size w (w.alloc (.cells #[] 2))):=brf.alloc nlr _
 have d5:(w.alloc (.cells #[] 2)).cell? ⟨mb,5,none⟩=some (.slice (some ⟨lb,0,none⟩) K K):=(AB.out.cell (lt_of_cell c5)).trans c5
 have dj:(w.alloc (.cells #[] 2)).cell? ⟨lb,j,none⟩=some (.slice (some ⟨g,0,none⟩) (L j).length cl):=(AB.out.cell (lt_of_cell cj)).trans cj
 have KO:Hid ((w.alloc (.cells #[] 2)).ownsRow w.heap.size 2 1 (.slice (some ⟨w.heap.size,0,none⟩) 0 0) 0 []):=World.ownsRow_lit w #[] 0 nlr (by unfold maxLen;omega) rfl
 have NW:Hid (∀(i:Nat) (u:Value),(i64s (L j))[i]?=some u->(w.alloc (.cells #[] 2)).cell? ((⟨g,0,none⟩:Addr).add i)=some u):=fun i u hu=>by
  rw[List.getElem?_map] at hu
  obtain⟨y,hy,rfl⟩:=oms hu
  rw[Addr.add_lit,Nat.zero_add]
  have e:=nl_cell HO.out hy
  exact (AB.out.cell (lt_of_cell e)).trans e
 clear h hlen hnl hfn hj hne
 go_enter Tryz.func24,Tryz.ntmps24
 go_wp2_with (first
  | (go_at_call 43;refine (HH.out _).mono ?_;rintro E w1 ⟨rfl,rfl⟩)
  | (at_builtin;refine wpList_append_lies _ rfl _ _ 35 rfl w.heap.size 2 n0 (.int .i64 0) 1 8 Tryz.underlying35 hn0 nz0 nz1 nz2 rfl (by decide) (.slice (some ⟨w.heap.size,0,none⟩) 0 0) 0 [] rfl KO.out ⟨g,0,none⟩ (L j).length cl (i64s (L j)) rfl (by simp) NW.out (by intro u hu;obtain⟨y,_,rfl⟩:=List.mem_map.1 hu;rfl) HL.out.1 (by unfold maxLen;have:=HL.out.2;omega) (by have:=HL.out.2;omega) AB.out.size _ rfl ?_;intro k9 c9 w9 O9 hg9 hat9 hlt9))
 have HO9:Hid (Nl w9 w.heap.size (.slice (some ⟨k9,0,none⟩) (L j).length c9) (L j)):=by
  have e:=O9
  rw[Nat.zero_add] at e
  exact e
 have HB9:Hid (Below w.heap.size w w9):=below_grown AB.out AB.out.size hg9 (fun k e=>(own_lt KO.out k e).1)
 clear O9 hg9 hat9 hlt9
 go_ret
 exact⟨HB9.out,_,rfl,HO9.out⟩
end
section
open Go.RowKit
section
variable {D D2:Nat->Obj->Prop} {wE:World} {mb lb jb K T:Nat} {fv tv wv:Value} {c:Int} {ov:Bool} {L:Nat->List Int} {J:Nat->List Nat} {fn jn:Nat->Value} {w:World}
theorem Mc.off (h:Mc D wE mb lb jb K T fv tv wv c ov L J fn jn w) {b i:Nat} {v:Value} (hb:wE.heap.size<=b) (n1:b≠mb) (n2:b≠lb) (n3:b≠jb) (n4:∀j,j < K->(fn j).ownBlock≠some b) (hD:∀o,¬D b o):Mc D wE mb lb jb K T fv tv wv c ov L J fn jn (w.setCell ⟨b,i,none⟩ v):=by
 have keep:∀k,k≠b->(w.setCell ⟨b,i,none⟩ v).heap[k]?=w.heap[k]?:=fun k hk=>bhs w ⟨b,i,none⟩ _ k hk
 refine⟨h.be.setCell (p:=⟨b,i,none⟩) hb _,(keep mb (Ne.symm n1)).trans h.m0,h.row.of_block (keep lb (Ne.symm n2)),h.jrow.of_block (keep jb (Ne.symm n3)),h.lo1,h.lo2,h.lo3,fun j hj=>?_,h.ap,h.job,fun b' o hb'=>?_⟩
 ·obtain⟨y0,y1⟩:=h.log j hj
  exact⟨y0,own_kept y1 (fun q hq=>keep q (fun e=>n4 j hj (e ▸ hq)))⟩
 ·obtain⟨k1,k2⟩:=h.kp b' o hb'
  exact⟨(keep b' (fun e=>hD o (e ▸ hb'))).trans k1,k2⟩
end
theorem two_cells {W:World} {b:Nat} {x y:Value} {t:TypeId} (h:W.heap[b]?=some (.cells #[x,y] t (0,0))):W.cell? ⟨b,0,none⟩=some x/\W.cell? ⟨b,1,none⟩=some y/\∀o,W.frozen? ⟨b,o,none⟩=false:=
 ⟨(cor W b 0 _ _ _ h).trans rfl,(cor W b 1 _ _ _ h).trans rfl,fun o=>by unfold World.frozen?;rw[h];simp⟩
theorem two_r0 {W:World} {b:Nat} {x y:Value} {t:TypeId} (h:W.heap[b]?=some (.cells #[x,y] t (0,0))) (u:Value):(W.setCell ⟨b,0,none⟩ u).cell? ⟨b,0,none⟩=some u:=World.cell?_setCell_same _ _ _ (two_cells h).1
theorem two_heap {W:World} {b:Nat} {x y:Value} {t:TypeId} (h:W.heap[b]?=some (.cells #[x,y] t (0,0))) (u:Value):(W.setCell ⟨b,0,none⟩ u).heap[b]?=some (.cells #[u,y] t (0,0)):=by
 show (W.heap.modify b _)[b]?=_
 rw[Array.getElem?_modify,if_pos rfl,h];rfl
theorem two_r1 {W:World} {b:Nat} {x y:Value} {t:TypeId} (h:W.heap[b]?=some (.cells #[x,y] t (0,0))) (u v:Value):((W.setCell ⟨b,0,none⟩ u).setCell ⟨b,1,none⟩ v).cell? ⟨b,1,none⟩=some v:=World.cell?_setCell_same _ _ _ (two_cells (two_heap h u)).2.1
def TkN (al:Nat->Addr) (D:Nat->Obj->Prop) (F:List Flo) (U:List (Nat×Value)) (O:Nat->List Nat) (wE:World) (mb lb jb:Nat) (fv tv wv:Value) (c:Nat) (ov:Bool) (L:Nat->List Int) (J:Nat->List Nat) (xs:List Int) (k:Int) (w':World):Prop:=
 ∃fn jn,
 (ov=true/\k=lastOf al (al 12) 13/\Mc D wE mb lb jb F.length U.length fv tv wv (c:Nat) ov L J fn jn w') \/
 (ov=false/\fitT F (duI F c F.length) xs=false/\k=lastOf al (al 11) 13/\Mc D wE mb lb jb F.length U.length fv tv wv (c:Nat) ov L J fn jn w') \/
 (ov=false/\fitT F (duI F c F.length) xs=true/\(duT U c U.length).any (fun t=>!(J t).isEmpty)=true/\k=lastOf al (al 12) 13/\Mc D wE mb lb jb F.length U.length fv tv wv (c:Nat) true L J fn jn w') \/
 (ov=false/\fitT F (duI F c F.length) xs=true/\(duT U c U.length).any (fun t=>!(J t).isEmpty)=false/\k=0/\Mc D wE mb lb jb F.length U.length fv tv wv ((c+1:Nat):Int) false (putL L ((duI F c F.length).zip xs)) (setJ O J (duT U c U.length)) fn jn w')
theorem TkP.open {al:Nat->Addr} {D D2:Nat->Obj->Prop} {F:List Flo} {U:List (Nat×Value)} {O:Nat->List Nat} {wE:World} {mb lb jb:Nat} {fv tv wv:Value} {c:Nat} {ov:Bool} {L:Nat->List Int} {J:Nat->List Nat} {xs:List Int} {E:Ending} {w:World} (h:TkP al D2 F U O wE mb lb jb fv tv wv c ov L J xs E w) :
  ∃(ev:Value) (k:Int) (c':Int) (ov':Bool) (L':Nat->List Int) (J':Nat->List Nat) (fn jn:Nat->Value),E=.returned ev/\Mc D2 wE mb lb jb F.length U.length fv tv wv c' ov' L' J' fn jn w/\(∀w',Mc D wE mb lb jb F.length U.length fv tv wv c' ov' L' J' fn jn w'->TkN al D F U O wE mb lb jb fv tv wv c ov L J xs k w')/\((ev=.nilIface/\k=0)\/∃i,i < 13/\ev=errV (al i)/\k=lastOf al (al i) 13):=by
 obtain⟨fn,jn,⟨h1,rfl,h3⟩|⟨h1,h2,rfl,h3⟩|⟨h1,h2,h4,rfl,h3⟩|⟨h1,h2,h4,rfl,h3⟩⟩:=h
 ·exact⟨_,_,_,_,_,_,_,_,rfl,h3,fun w' hw=>⟨fn,jn,Or.inl ⟨h1,rfl,hw⟩⟩,Or.inr ⟨12,by decide,rfl,rfl⟩⟩
 ·exact⟨_,_,_,_,_,_,_,_,rfl,h3,fun w' hw=>⟨fn,jn,Or.inr (Or.inl ⟨h1,h2,rfl,hw⟩)⟩,Or.inr ⟨11,by decide,rfl,rfl⟩⟩
 ·exact⟨_,_,_,_,_,_,_,_,rfl,h3,fun w' hw=>⟨fn,jn,Or.inr (Or.inr (Or.inl ⟨h1,h2,h4,rfl,hw⟩))⟩,Or.inr ⟨12,by decide,rfl,rfl⟩⟩
 ·exact⟨_,_,_,_,_,_,_,_,rfl,h3,fun w' hw=>⟨fn,jn,Or.inr (Or.inr (Or.inr ⟨h1,h2,h4,rfl,hw⟩))⟩,Or.inl ⟨rfl,rfl⟩⟩
theorem fault_both {al:Nat->Addr} {ev:Value} {k:Int} {w:World} (hE:Errs al w) (h:(ev=.nilIface/\k=0)\/∃i,i < 13/\ev=errV (al i)/\k=lastOf al (al i) 13):Calls Tryz.prog 16 #[ev] w fun e w'=>(∃a:Int,e=.returned (.agg #[.int .i64 k,.int .i64 a]))/\Below w.heap.size w w':=by
 rcases h with ⟨rfl,rfl⟩|⟨i,hi,rfl,rfl⟩
 ·exact (fault_nil w).mono (fun e w' h=>⟨⟨0,h.1⟩,h.2⟩)
 ·exact (fault_err al (al i) w hE (hE.row i hi)).mono (fun e w' h=>⟨⟨-1,h.1⟩,h.2⟩)
theorem ptick_any {al:Nat->Addr} {D:Nat->Obj->Prop} {F:List Flo} {U:List (Nat×Value)} {O:Nat->List Nat} {wE:World} {mb lb jb c BX:Nat} {fv tv wv:Value} {ov:Bool} {L:Nat->List Int} {J:Nat->List Nat} {fn jn:Nat->Value} {w:World} (hE:Errs al wE) (P:Ptm F U O wE fv tv) (h:Mc D wE mb lb jb F.length U.length fv tv wv (c:Nat) ov L J fn jn w) (hc:c<=1000000) (hL:∀j,(L j).length<=1900) {vx:Value} {xs:List Int} (hx:Nl w BX vx xs) (hx6:xs.length<=60) (hx0:xs=[]->vx=.slice none 0 0) :
  Calls Tryz.prog 21 #[.pointer (some ⟨mb,0,none⟩),vx] w fun E w'=>∃k a:Int,E=.returned (.agg #[.int .i64 k,.int .i64 a])/\TkN al D F U O wE mb lb jb fv tv wv c ov L J xs k w':=by
 obtain⟨n0,hn0,nz0,nz1,nz2⟩:=info_parts Tryz.infoI64
 have HM:Hid (Mc D wE mb lb jb F.length U.length fv tv wv (c:Nat) ov L J fn jn w):=h
 have HP:Hid (Errs al wE/\Ptm F U O wE fv tv/\c<=1000000/\∀j,(L j).length<=1900):=⟨hE,P,hc,hL⟩
 have H6:Hid (xs.length<=60):=hx6
 have HDL:Hid (∀b o,D b o->b < w.heap.size):=fun b o hb=>lt_of_heap (h.kp b o hb).1
 have HSZ:Hid (wE.heap.size<=w.heap.size):=h.be.size
 have HPF:Hid (Pf w (w.alloc (.cells #[.int .i64 0,.int .i64 0] 30))):=⟨han w _,brf.alloc nlr _⟩
 have HX:Hid (Nl (w.alloc (.cells #[.int .i64 0,.int .i64 0] 30)) BX vx xs):=own_kept hx (fun g hg=>HPF.out.bl.block g (lt_of_heap (own_lt hx g hg).2.choose_spec))
 clear h P hE hx hc hL hx6
 by_cases hne:xs=[]
 ·obtain rfl:=hx0 hne
  subst hne
  clear hx0
  go_enter Tryz.func21,Tryz.ntmps21
  go_wp2_with (at_builtin;refine wpList_append_none _ rfl _ _ 35 rfl 2 n0 Tryz.underlying35 hn0 none 0 0 nlr rfl rfl ?_)
  generalize w.alloc (.cells #[.int .i64 0,.int .i64 0] 30)=w9 at HPF HX ⊢
  have HB9:Hid (Below w.heap.size w w9):=HPF.out.bl
  have HNL:Hid (Nl w9 w.heap.size (.slice none 0 0) []):=World.ownsRow_nil _ _ _ _
  obtain⟨D2,hD2⟩:∃D2:Nat->Obj->Prop,D2=fun b o=>D b o\/(w.heap.size<=b/\w9.heap[b]?=some o):=⟨_,rfl⟩
  have HM9:Hid (Mc D2 wE mb lb jb F.length U.length fv tv wv (c:Nat) ov L J fn jn w9):=by
   rw[hD2]
   exact HM.out.and HB9.out (fun b o hb=>hb)
  have HDB:Hid (∀b o,D b o->D2 b o):=fun b o hb=>by rw[hD2];exact Or.inl hb
  have HDN:Hid (∀b o,w.heap.size<=b->w9.heap[b]?=some o->D2 b o):=fun b o h1 h2=>by rw[hD2];exact Or.inr ⟨h1,h2⟩
  clear hD2
  refine (tick_any HP.out.1 HP.out.2.1 HM9.out HP.out.2.2.1 HP.out.2.2.2 HNL.out (fun g o h1 h2=>HDN.out g o (own_lt HNL.out g h1).1 h2)).mono ?_
  rintro E w5 hT
  obtain⟨ev,k,c',ov',L',J',fn',jn',rfl,hM5,hN5,hev⟩:=hT.open (D:=D)
  have HM5:Hid (Mc D2 wE mb lb jb F.length U.length fv tv wv c' ov' L' J' fn' jn' w5):=hM5
  have HN5:Hid (∀w',Mc D wE mb lb jb F.length U.length fv tv wv c' ov' L' J' fn' jn' w'->TkN al D F U O wE mb lb jb fv tv wv c ov L J [] k w'):=hN5
  have HEV:Hid ((ev=.nilIface/\k=0)\/∃i,i < 13/\ev=errV (al i)/\k=lastOf al (al i) 13):=hev
  have HR5:Hid (w5.heap[w.heap.size]?=some (.cells #[.int .i64 0,.int .i64 0] 30 (0,0))):=(hM5.kp _ _ (HDN.out _ _ nlr HPF.out.b0)).1
  have HRN:Hid (w.heap.size≠mb/\w.heap.size≠lb/\w.heap.size≠jb/\∀j,j < F.length->(fn' j).ownBlock≠some w.heap.size):=(hM5.kp _ _ (HDN.out _ _ nlr HPF.out.b0)).2
  clear hT hM5 hN5 hev
  go_wp2_with fail
  refine (fault_both (HP.out.1.below HM5.out.be) HEV.out).mono ?_
  rintro E w6 ⟨⟨a6,rfl⟩,hb6⟩
  have HM6:Hid (Mc D wE mb lb jb F.length U.length fv tv wv c' ov' L' J' fn' jn' w6):=(HM5.out.below hb6).sub HDB.out
  have HR6:Hid (w6.heap[w.heap.size]?=some (.cells #[.int .i64 0,.int .i64 0] 30 (0,0))):=(hb6.block _ (lt_of_heap HR5.out)).trans HR5.out
  have HB6:Hid (Below w5.heap.size w5 w6):=hb6
  clear hb6
  go_wp2_with fail
  refine wp_loop_rounds 1 ?_
  rw[rounds_succ]
  have HMW:Hid (Mc D wE mb lb jb F.length U.length fv tv wv c' ov' L' J' fn' jn' (w6.alloc (.cells #[.int .i64 k,.int .i64 a6] 30))):=HM6.out.below (bl1 _ _)
  have HRZ:Hid ((w6.alloc (.cells #[.int .i64 k,.int .i64 a6] 30)).heap[w.heap.size]?=some (.cells #[.int .i64 0,.int .i64 0] 30 (0,0))):=(Below.block (bl1 _ _) _ (lt_of_heap HR6.out)).trans HR6.out
  have HFZ:Hid ((w6.alloc (.cells #[.int .i64 k,.int .i64 a6] 30)).heap[w6.heap.size]?=some (.cells #[.int .i64 k,.int .i64 a6] 30 (0,0))):=han w6 _
  generalize w6.alloc (.cells #[.int .i64 k,.int .i64 a6] 30)=WZ at HMW HRZ HFZ ⊢
  generalize w6.heap.size=fb at HFZ ⊢
  obtain⟨q0,q1,qz⟩:=two_cells HRZ.out
  obtain⟨f0,f1,_⟩:=two_cells HFZ.out
  have HMZ:Hid (Mc D wE mb lb jb F.length U.length fv tv wv c' ov' L' J' fn' jn' ((WZ.setCell ⟨w.heap.size,0,none⟩ (.int .i64 k)).setCell ⟨w.heap.size,1,none⟩ (.int .i64 a6))):=
   (HMW.out.off HSZ.out HRN.out.1 HRN.out.2.1 HRN.out.2.2.1 HRN.out.2.2.2 (fun o hb=>Nat.lt_irrefl _ (HDL.out _ _ hb))).off HSZ.out HRN.out.1 HRN.out.2.1 HRN.out.2.2.1 HRN.out.2.2.2 (fun o hb=>Nat.lt_irrefl _ (HDL.out _ _ hb))
  go_wp2
  exact bodyPost_ret (v:=.agg #[.int .i64 k,.int .i64 a6]) (by simp[results,Tryz.results21,go_sem,two_r0 HRZ.out,two_r1 HRZ.out]) rfl ⟨k,a6,rfl,HN5.out _ HMZ.out⟩
 ·clear hx0
  obtain⟨g,cx,rfl⟩:∃g c,vx=.slice (some ⟨g,0,none⟩) xs.length c:=by
   rcases HX.out.2 with ⟨_,e⟩|⟨g,cap,cur,e,_⟩
   ·exact absurd (List.length_eq_zero_iff.1 e) hne
   ·exact⟨g,cap,e⟩
  have HNE:Hid (0 < xs.length):=List.length_pos_iff.2 hne
  have NW:Hid (∀(i:Nat) (u:Value),(i64s xs)[i]?=some u->(w.alloc (.cells #[.int .i64 0,.int .i64 0] 30)).cell? ((⟨g,0,none⟩:Addr).add i)=some u):=fun i u hu=>by
   rw[List.getElem?_map] at hu
   obtain⟨y,hy,rfl⟩:=oms hu
   rw[Addr.add_lit,Nat.zero_add]
   exact nl_cell HX.out hy
  clear hne
  go_enter Tryz.func21,Tryz.ntmps21
  go_wp2_with (at_builtin;refine wpList_append_lies _ rfl _ _ 35 rfl w.heap.size 2 n0 (.int .i64 0) 1 8 Tryz.underlying35 hn0 nz0 nz1 nz2 rfl (by decide) (.slice none 0 0) 0 [] rfl (World.ownsRow_nil _ _ _ _) ⟨g,0,none⟩ xs.length cx (i64s xs) rfl (by simp) NW.out (by intro u hu;obtain⟨y,_,rfl⟩:=List.mem_map.1 hu;rfl) HNE.out (by unfold maxLen;have:=H6.out;omega) (by have:=H6.out;omega) HPF.out.bl.size _ rfl ?_;intro k9 c9 w9 O9 hg9 hat9 hlt9)
  have HB9':Hid (Below (w.alloc (.cells #[.int .i64 0,.int .i64 0] 30)).heap.size (w.alloc (.cells #[.int .i64 0,.int .i64 0] 30)) w9):=below_grown brf nlr hg9 (fun k e=>by cases e)
  have HNL:Hid (Nl w9 w.heap.size (.slice (some ⟨k9,0,none⟩) xs.length c9) xs):=by
   have e:=O9
   rw[Nat.zero_add] at e
   exact e
  replace HPF:Hid (Pf w w9):=HPF.out.keep HB9'.out
  have HB9:Hid (Below w.heap.size w w9):=HPF.out.bl
  clear O9 hg9 hat9 hlt9 HB9' NW HX
  obtain⟨D2,hD2⟩:∃D2:Nat->Obj->Prop,D2=fun b o=>D b o\/(w.heap.size<=b/\w9.heap[b]?=some o):=⟨_,rfl⟩
  have HM9:Hid (Mc D2 wE mb lb jb F.length U.length fv tv wv (c:Nat) ov L J fn jn w9):=by
   rw[hD2]
   exact HM.out.and HB9.out (fun b o hb=>hb)
  have HDB:Hid (∀b o,D b o->D2 b o):=fun b o hb=>by rw[hD2];exact Or.inl hb
  have HDN:Hid (∀b o,w.heap.size<=b->w9.heap[b]?=some o->D2 b o):=fun b o h1 h2=>by rw[hD2];exact Or.inr ⟨h1,h2⟩
  clear hD2
  refine (tick_any HP.out.1 HP.out.2.1 HM9.out HP.out.2.2.1 HP.out.2.2.2 HNL.out (fun g o h1 h2=>HDN.out g o (own_lt HNL.out g h1).1 h2)).mono ?_
  rintro E w5 hT
  obtain⟨ev,k,c',ov',L',J',fn',jn',rfl,hM5,hN5,hev⟩:=hT.open (D:=D)
  have HM5:Hid (Mc D2 wE mb lb jb F.length U.length fv tv wv c' ov' L' J' fn' jn' w5):=hM5
  have HN5:Hid (∀w',Mc D wE mb lb jb F.length U.length fv tv wv c' ov' L' J' fn' jn' w'->TkN al D F U O wE mb lb jb fv tv wv c ov L J xs k w'):=hN5
  have HEV:Hid ((ev=.nilIface/\k=0)\/∃i,i < 13/\ev=errV (al i)/\k=lastOf al (al i) 13):=hev
  have HR5:Hid (w5.heap[w.heap.size]?=some (.cells #[.int .i64 0,.int .i64 0] 30 (0,0))):=(hM5.kp _ _ (HDN.out _ _ nlr HPF.out.b0)).1
  have HRN:Hid (w.heap.size≠mb/\w.heap.size≠lb/\w.heap.size≠jb/\∀j,j < F.length->(fn' j).ownBlock≠some w.heap.size):=(hM5.kp _ _ (HDN.out _ _ nlr HPF.out.b0)).2
  clear hT hM5 hN5 hev
  go_wp2_with fail
  refine (fault_both (HP.out.1.below HM5.out.be) HEV.out).mono ?_
  rintro E w6 ⟨⟨a6,rfl⟩,hb6⟩
  have HM6:Hid (Mc D wE mb lb jb F.length U.length fv tv wv c' ov' L' J' fn' jn' w6):=(HM5.out.below hb6).sub HDB.out
  have HR6:Hid (w6.heap[w.heap.size]?=some (.cells #[.int .i64 0,.int .i64 0] 30 (0,0))):=(hb6.block _ (lt_of_heap HR5.out)).trans HR5.out
  have HB6:Hid (Below w5.heap.size w5 w6):=hb6
  clear hb6
  obtain⟨_,cu9,hcu9⟩:=own_lt HNL.out k9 rfl
  have HK9:Hid (w6.heap[k9]?=some (.cells cu9 2 (0,0))/\xs.length<=cu9.size):=by
   have e1:=(HM5.out.kp _ _ (HDN.out _ _ (own_lt HNL.out k9 rfl).1 hcu9)).1
   refine⟨(HB6.out.block _ (lt_of_heap e1)).trans e1,?_⟩
   rcases HNL.out.2 with ⟨e,_⟩|⟨g,cap,cur,e,_,hg,hle,_,hsz,_⟩
   ·cases e
   ·injection e with e1 _ _
    injection e1 with e1
    injection e1 with e1
    rw[<-e1,hcu9] at hg
    injection hg with hg
    injection hg with hg
    rw[hg]
    omega
  have HKN:Hid (wE.heap.size<=k9/\k9≠mb/\k9≠lb/\k9≠jb/\(∀j,j < F.length->(fn' j).ownBlock≠some k9)/\∀o,¬D k9 o):=by
   have e1:=(HM5.out.kp _ _ (HDN.out _ _ (own_lt HNL.out k9 rfl).1 hcu9)).2
   have e2:=(own_lt HNL.out k9 rfl).1
   exact⟨Nat.le_trans HSZ.out e2,e1.1,e1.2.1,e1.2.2.1,e1.2.2.2,fun o hb=>by have:=HDL.out _ _ hb;omega⟩
  clear hcu9
  go_wp2_with fail
  have HMW0:Hid (Mc D wE mb lb jb F.length U.length fv tv wv c' ov' L' J' fn' jn' (w6.alloc (.cells #[.int .i64 k,.int .i64 a6] 30))):=HM6.out.below (bl1 _ _)
  have HRZ0:Hid ((w6.alloc (.cells #[.int .i64 k,.int .i64 a6] 30)).heap[w.heap.size]?=some (.cells #[.int .i64 0,.int .i64 0] 30 (0,0))):=(Below.block (bl1 _ _) _ (lt_of_heap HR6.out)).trans HR6.out
  have HFZ0:Hid ((w6.alloc (.cells #[.int .i64 k,.int .i64 a6] 30)).heap[w6.heap.size]?=some (.cells #[.int .i64 k,.int .i64 a6] 30 (0,0))):=han w6 _
  have HKZ0:Hid (∃cur,(w6.alloc (.cells #[.int .i64 k,.int .i64 a6] 30)).heap[k9]?=some (.cells cur 2 (0,0))/\xs.length<=cur.size):=⟨cu9,(Below.block (bl1 _ _) _ (lt_of_heap HK9.out.1)).trans HK9.out.1,HK9.out.2⟩
  generalize w6.alloc (.cells #[.int .i64 k,.int .i64 a6] 30)=WY at HMW0 HRZ0 HFZ0 HKZ0 ⊢
  generalize w6.heap.size=fb at HFZ0 ⊢
  clear HK9 HM6 HR6 HB6 HR5 HM5
  go_loopg [16] xs.length (fun gk s16 wr=>∃i:Nat,i<=xs.length/\s16=.int .i64 (i:Nat)/\gk=xs.length - i/\Hid (Mc D wE mb lb jb F.length U.length fv tv wv c' ov' L' J' fn' jn' wr)/\Hid (wr.heap[w.heap.size]?=some (.cells #[.int .i64 0,.int .i64 0] 30 (0,0)))/\Hid (wr.heap[fb]?=some (.cells #[.int .i64 k,.int .i64 a6] 30 (0,0)))/\Hid (∃cur,wr.heap[k9]?=some (.cells cur 2 (0,0))/\xs.length<=cur.size))
  case atStart=>exact⟨0,Nat.zero_le _,rfl,rfl,HMW0,HRZ0,HFZ0,HKZ0⟩
  case round=>
   obtain⟨i,hi,rfl,hg,HMW,HRZ,HFZ,HKZ⟩:=hrel
   have HG:Hid (gk=xs.length - i/\i<=xs.length):=⟨hg,hi⟩
   clear hg hi HMW0 HRZ0 HFZ0 HKZ0
   by_cases hlt:i < xs.length
   ·obtain⟨cur,hcur,hsz⟩:=HKZ.out
    obtain⟨y9,hy9⟩:∃y,cur[i]?=some y:=⟨_,Array.getElem?_eq_getElem (by omega)⟩
    have ck:wr.cell? ⟨k9,i,none⟩=some y9:=(cor wr k9 i _ _ _ hcur).trans hy9
    have zk:wr.frozen? ⟨k9,i,none⟩=false:=by unfold World.frozen?;rw[hcur];simp
    have keep:∀b,b≠k9->(wr.setCell ⟨k9,i,none⟩ (.int .i64 77)).heap[b]?=wr.heap[b]?:=fun b hb=>bhs wr ⟨k9,i,none⟩ _ b hb
    have M1:Hid (Mc D wE mb lb jb F.length U.length fv tv wv c' ov' L' J' fn' jn' (wr.setCell ⟨k9,i,none⟩ (.int .i64 77))):=HMW.out.off HKN.out.1 HKN.out.2.1 HKN.out.2.2.1 HKN.out.2.2.2.1 HKN.out.2.2.2.2.1 HKN.out.2.2.2.2.2
    have M2:Hid ((wr.setCell ⟨k9,i,none⟩ (.int .i64 77)).heap[w.heap.size]?=some (.cells #[.int .i64 0,.int .i64 0] 30 (0,0))):=(keep _ (heap_nt HRZ.out hcur (by decide))).trans HRZ.out
    have M3:Hid ((wr.setCell ⟨k9,i,none⟩ (.int .i64 77)).heap[fb]?=some (.cells #[.int .i64 k,.int .i64 a6] 30 (0,0))):=(keep _ (heap_nt HFZ.out hcur (by decide))).trans HFZ.out
    have M4:Hid (∃cur,(wr.setCell ⟨k9,i,none⟩ (.int .i64 77)).heap[k9]?=some (.cells cur 2 (0,0))/\xs.length<=cur.size):=by
     refine⟨cur.setIfInBounds i (.int .i64 77),?_,by simpa using hsz⟩
     show (wr.heap.modify k9 _)[k9]?=_
     rw[Array.getElem?_modify,if_pos rfl,hcur];rfl
    have h0:(0:Int)<=(i:Int):=by omega
    have h1:(i:Int) < (xs.length:Int):=by omega
    have q60:(xs.length:Int)<=60:=by have:=H6.out;omega
    have HI:Hid (i < xs.length):=hlt
    clear keep hcur hsz hlt hy9
    go_wp2
    go_roundg (xs.length - (i+1))
    case measure=>have:=HG.out;have:=HI.out;omega
    case rel=>exact⟨i+1,HI.out,by go_num,rfl,M1,M2,M3,M4⟩
   ·have hle:(xs.length:Int)<=(i:Int):=by omega
    obtain⟨WZ,hWZ⟩:∃WZ,WZ=wr:=⟨_,rfl⟩
    subst hWZ
    obtain⟨q0,q1,qz⟩:=two_cells HRZ.out
    obtain⟨f0,f1,_⟩:=two_cells HFZ.out
    have HMZ:Hid (Mc D wE mb lb jb F.length U.length fv tv wv c' ov' L' J' fn' jn' ((WZ.setCell ⟨w.heap.size,0,none⟩ (.int .i64 k)).setCell ⟨w.heap.size,1,none⟩ (.int .i64 a6))):=
     (HMW.out.off HSZ.out HRN.out.1 HRN.out.2.1 HRN.out.2.2.1 HRN.out.2.2.2 (fun o hb=>Nat.lt_irrefl _ (HDL.out _ _ hb))).off HSZ.out HRN.out.1 HRN.out.2.1 HRN.out.2.2.1 HRN.out.2.2.2 (fun o hb=>Nat.lt_irrefl _ (HDL.out _ _ hb))
    go_wp2
    exact bodyPost_ret (v:=.agg #[.int .i64 k,.int .i64 a6]) (by simp[results,Tryz.results21,go_sem,two_r0 HRZ.out,two_r1 HRZ.out]) rfl ⟨k,a6,rfl,HN5.out _ HMZ.out⟩
end
section
open Go.RowKit
abbrev Lj:Type:=(Nat->List Int)×(Nat->List Nat)
def stp (m:Mil.Bytes->Option Int) (ρ:Mil.Bytes->Int->Int->Int) (Q:List Nq) (s:Lj) (t:Nat):Lj:=if (s.2 t).isEmpty then s else pk m ρ Q s.1 s.2 t
def rnd (m:Mil.Bytes->Option Int) (ρ:Mil.Bytes->Int->Int->Int) (Q:List Nq) (T:Nat) (s:Lj):Lj:=(List.range T).foldl (stp m ρ Q) s
def itr (m:Mil.Bytes->Option Int) (ρ:Mil.Bytes->Int->Int->Int) (Q:List Nq) (T:Nat) (s:Lj):Nat->Lj
 | 0=>s
 | n+1=>rnd m ρ Q T (itr m ρ Q T s n)
def idle (T:Nat) (s:Lj):Prop:=∀t,t < T->s.2 t=[]
section
variable {m:Mil.Bytes->Option Int} {ρ:Mil.Bytes->Int->Int->Int} {Q:List Nq}
theorem pk_other {L:Nat->List Int} {J:Nat->List Nat} {t t':Nat} (h:t'≠t):(pk m ρ Q L J t).2 t'=J t':=by
 unfold pk
 split
 ·rfl
 ·split
  ·rfl
  ·exact if_neg h
theorem stp_other {s:Lj} {t t':Nat} (h:t'≠t):(stp m ρ Q s t).2 t'=s.2 t':=by
 unfold stp
 split
 ·rfl
 ·exact pk_other h
theorem rnd_succ (T:Nat) (s:Lj):rnd m ρ Q (T+1) s=stp m ρ Q (rnd m ρ Q T s) T:=by
 unfold rnd
 rw[List.range_succ,List.foldl_append];rfl
theorem rnd_other (s:Lj):∀(n t:Nat),n<=t->(rnd m ρ Q n s).2 t=s.2 t
 | 0,_,_=>rfl
 | n+1,t,h=>by
  rw[rnd_succ,stp_other (by omega)]
  exact rnd_other s n t (by omega)
theorem rnd_idle {s:Lj}:∀{n:Nat},(∀t,t < n->s.2 t=[])->rnd m ρ Q n s=s
 | 0,_=>rfl
 | n+1,h=>by
  rw[rnd_succ,rnd_idle (fun t ht=>h t (by omega))]
  unfold stp
  rw[h n (by omega)];rfl
end
def DrP (m:Mil.Bytes->Option Int) (ρ:Mil.Bytes->Int->Int->Int) (D:Nat->Obj->Prop) (F:List Flo) (Q:List Nq) (wE:World) (mb lb jb T:Nat) (fv tv wv:Value) (c:Int) (ov:Bool) (s:Lj) (I:Lj->Prop) (N:Nat) (E:Ending) (w':World):Prop:=
 ∃n b fn' jn',E=.returned (.bool b)/\n<=N/\Mc D wE mb lb jb F.length T fv tv wv c ov (itr m ρ Q T s n).1 (itr m ρ Q T s n).2 fn' jn' w'/\I (itr m ρ Q T s n)/\(b=true->idle T (itr m ρ Q T s n))/\(b=false->n=N/\∀k,k < n->¬idle T (itr m ρ Q T s k))
theorem drained_any {m:Mil.Bytes->Option Int} {ρ:Mil.Bytes->Int->Int->Int} {D:Nat->Obj->Prop} {F:List Flo} {Q:List Nq} {r:Nat->Nat} {B0 mb lb jb T K:Nat} {wE:World} {fv tv wv:Value} {c:Int} {ov:Bool} {s:Lj} {fn jn:Nat->Value} {w:World} (P:Pm m ρ F Q r wE wv B0) (I:Lj->Prop) (hI:I s) (hs:∀s t,t < T->I s->s.2 t≠[]->Jok F Q s.1 (s.2 t)/\I (pk m ρ Q s.1 s.2 t)) (hT:T<=60) (hK:K<=60) (h:Mc D wE mb lb jb F.length T fv tv wv c ov s.1 s.2 fn jn w) :
  Calls Tryz.prog 23 #[.pointer (some ⟨mb,0,none⟩),.int .i64 (T:Nat),.int .i64 (K:Nat)] w (DrP m ρ D F Q wE mb lb jb T fv tv wv c ov s I ((K+1)*(T+1))):=by
 have HP:Hid (Pm m ρ F Q r wE wv B0/\∀s t,t < T->I s->s.2 t≠[]->Jok F Q s.1 (s.2 t)/\I (pk m ρ Q s.1 s.2 t)):=⟨P,hs⟩
 have HM:Hid (Mc D wE mb lb jb F.length T fv tv wv c ov s.1 s.2 fn jn w/\I s):=⟨h,hI⟩
 have hb0:(K+1)*(T+1)<=3721:=Nat.mul_le_mul (by omega:K+1<=61) (by omega:T+1<=61)
 have HTK:Hid (T<=60/\K<=60/\(K+1)*(T+1)<=3721):=⟨hT,hK,hb0⟩
 obtain⟨N,hN⟩:∃N,N=(K+1)*(T+1):=⟨_,rfl⟩
 have hNI:((K:Int)+1)*((T:Int)+1)=(N:Int):=by rw[hN];push_cast;rfl
 rw[<-hN] at hb0 ⊢
 have k1:(K:Int)<=60:=by omega
 have t1:(T:Int)<=60:=by omega
 have n1:(N:Int)<=3721:=by omega
 clear P hs h hI hT hK hN
 go_enter Tryz.func23,Tryz.ntmps23
 go_wp2_with fail
 go_loopg [7] N (fun gk s7 wr=>∃i:Nat,i<=N/\s7=.int .i64 (i:Nat)/\gk=N - i/\Hid (∃fn' jn',Mc D wE mb lb jb F.length T fv tv wv c ov (itr m ρ Q T s i).1 (itr m ρ Q T s i).2 fn' jn' wr)/\Hid (I (itr m ρ Q T s i)/\∀k,k < i->¬idle T (itr m ρ Q T s k)))
 case atStart=>exact⟨0,Nat.zero_le _,rfl,rfl,⟨fn,jn,HM.out.1⟩,HM.out.2,fun k hk=>absurd hk (Nat.not_lt_zero _)⟩
 case round=>
  obtain⟨i,hi,rfl,hg,KM,KI⟩:=hrel
  have HG:Hid (gk=N - i/\i<=N):=⟨hg,hi⟩
  clear hg hi
  by_cases hlt:i < N
  ·have HI:Hid (i < N):=hlt
   have i1:(i:Int) < (N:Int):=by omega
   clear hlt
   obtain⟨S,hS⟩:∃S,S=itr m ρ Q T s i:=⟨_,rfl⟩
   have KM0:Hid (∃fn' jn',Mc D wE mb lb jb F.length T fv tv wv c ov (rnd m ρ Q 0 S).1 (rnd m ρ Q 0 S).2 fn' jn' wr):=by
    rw[hS]
    exact KM.out
   have KI0:Hid (I S):=by
    rw[hS]
    exact KI.out.1
   have HS:Hid (S=itr m ρ Q T s i):=hS
   clear hS KM
   go_wp2_with fail
   go_loopg [8,9] T (fun gk s8 s9 wy=>∃(t:Nat) (bz:Bool),t<=T/\s9=.int .i64 (t:Nat)/\s8=.bool bz/\gk=T - t/\Hid (∃fn' jn',Mc D wE mb lb jb F.length T fv tv wv c ov (rnd m ρ Q t S).1 (rnd m ρ Q t S).2 fn' jn' wy)/\Hid (I (rnd m ρ Q t S))/\Hid ((bz=false->∀t',t' < t->S.2 t'=[])/\(bz=true->∃t',t' < T/\S.2 t'≠[])))
   case atStart=>exact⟨0,false,Nat.zero_le _,rfl,rfl,rfl,KM0,KI0,⟨fun _ t' ht=>absurd ht (Nat.not_lt_zero _),fun e=>by cases e⟩⟩
   case round=>
    obtain⟨t,bz,ht,rfl,rfl,hg,LM,LI,LB⟩:=hrel
    have HG2:Hid (gk=T - t/\t<=T):=⟨hg,ht⟩
    clear hg ht KM0 KI0
    by_cases htl:t < T
    ·have HTL:Hid (t < T):=htl
     have t2:(t:Int) < (T:Int):=by omega
     obtain⟨fn1,jn1,hM1⟩:=LM.out
     have HM1:Hid (Mc D wE mb lb jb F.length T fv tv wv c ov (rnd m ρ Q t S).1 (rnd m ρ Q t S).2 fn1 jn1 wr):=hM1
     have HXT:Hid ((rnd m ρ Q t S).2 t=S.2 t/\rnd m ρ Q (t+1) S=stp m ρ Q (rnd m ρ Q t S) t):=⟨rnd_other S t t nlr,rnd_succ t S⟩
     clear LM hM1 htl
     go_wp2_with fail
     refine (busy_any HM1.out HTL.out).mono ?_
     rintro E w5 ⟨rfl,rfl⟩
     cases hem:((rnd m ρ Q t S).2 t).isEmpty with
     | true=>
      have HE:Hid (rnd m ρ Q (t+1) S=rnd m ρ Q t S/\S.2 t=[]):=by
       refine⟨?_,?_⟩
       ·rw[HXT.out.2]
        unfold stp
        rw[hem];rfl
       ·rw[<-HXT.out.1]
        exact List.isEmpty_iff.1 hem
      have LM2:Hid (∃fn' jn',Mc D wE mb lb jb F.length T fv tv wv c ov (rnd m ρ Q (t+1) S).1 (rnd m ρ Q (t+1) S).2 fn' jn' wr):=by
       rw[HE.out.1]
       exact⟨fn1,jn1,HM1.out⟩
      have LI2:Hid (I (rnd m ρ Q (t+1) S)):=by
       rw[HE.out.1]
       exact LI.out
      have LB2:Hid ((bz=false->∀t',t' < t+1->S.2 t'=[])/\(bz=true->∃t',t' < T/\S.2 t'≠[])):=⟨fun e t' h'=>by
       rcases Nat.lt_or_ge t' t with h2|h2
       ·exact LB.out.1 e t' h2
       ·obtain rfl:t'=t:=by omega
        exact HE.out.2,LB.out.2⟩
      clear hem
      dsimp only[Bool.not_true]
      go_wp2
      go_roundg (T - (t+1))
      case measure=>have:=HG2.out;have:=HTL.out;omega
      case rel=>exact⟨t+1,bz,HTL.out,by go_num,rfl,rfl,LM2,LI2,LB2⟩
     | false=>
      have hne:(rnd m ρ Q t S).2 t≠[]:=fun e=>by rw[e] at hem;cases hem
      have HE:Hid (rnd m ρ Q (t+1) S=pk m ρ Q (rnd m ρ Q t S).1 (rnd m ρ Q t S).2 t/\S.2 t≠[]):=by
       refine⟨?_,?_⟩
       ·rw[HXT.out.2]
        unfold stp
        rw[hem];rfl
       ·rw[<-HXT.out.1]
        exact hne
      obtain⟨hj1,hj2⟩:=HP.out.2 _ t HTL.out LI.out hne
      have HJ1:Hid (Jok F Q (rnd m ρ Q t S).1 ((rnd m ρ Q t S).2 t)):=hj1
      have LI2:Hid (I (rnd m ρ Q (t+1) S)):=by
       rw[HE.out.1]
       exact hj2
      clear hem hne hj1 hj2
      dsimp only[Bool.not_false]
      go_wp2_with fail
      refine (pick_any HP.out.1 HTL.out HJ1.out HM1.out).mono ?_
      rintro E w6 ⟨⟨k6,rfl⟩,fn2,jn2,hM2⟩
      have LM2:Hid (∃fn' jn',Mc D wE mb lb jb F.length T fv tv wv c ov (rnd m ρ Q (t+1) S).1 (rnd m ρ Q (t+1) S).2 fn' jn' w6):=by
       rw[HE.out.1]
       exact⟨fn2,jn2,hM2⟩
      clear hM2
      go_wp2
      go_roundg (T - (t+1))
      case measure=>have:=HG2.out;have:=HTL.out;omega
      case rel=>exact⟨t+1,true,HTL.out,by go_num,rfl,rfl,LM2,LI2,⟨(fun e=>by cases e),fun _=>⟨t,HTL.out,HE.out.2⟩⟩⟩
    ·have t2:¬(t:Int) < (T:Int):=by omega
     have HTT:Hid (t=T):=by show _=_;have:=HG2.out.2;omega
     cases bz with
     | false=>
      have HID:Hid (idle T S):=fun t' h'=>LB.out.1 rfl t' (by rw[HTT.out];exact h')
      have HFIN:Hid (DrP m ρ D F Q wE mb lb jb T fv tv wv c ov s I N (.returned (.bool true)) wr):=by
       obtain⟨fn1,jn1,hM1⟩:=LM.out
       rw[HTT.out,rnd_idle HID.out] at hM1
       refine⟨i,true,fn1,jn1,rfl,HG.out.2,?_,KI.out.1,fun _=>?_,fun e=>by cases e⟩
       ·rw[<-HS.out];exact hM1
       ·rw[<-HS.out];exact HID.out
      clear LM LI LB
      go_wp2
      go_ret
      exact HFIN.out
     | true=>
      have KM2:Hid (∃fn' jn',Mc D wE mb lb jb F.length T fv tv wv c ov (itr m ρ Q T s (i+1)).1 (itr m ρ Q T s (i+1)).2 fn' jn' wr):=by
       have e:=LM.out
       rw[HTT.out,HS.out] at e
       exact e
      have KI2:Hid (I (itr m ρ Q T s (i+1))/\∀k,k < i+1->¬idle T (itr m ρ Q T s k)):=by
       refine⟨?_,fun k hk=>?_⟩
       ·have e:=LI.out
        rw[HTT.out,HS.out] at e
        exact e
       ·rcases Nat.lt_or_ge k i with h2|h2
        ·exact KI.out.2 k h2
        ·obtain rfl:k=i:=by omega
         obtain⟨t',h3,h4⟩:=LB.out.2 rfl
         rw[HS.out] at h4
         exact fun e=>h4 (e t' h3)
      clear LM LI LB
      go_wp2
      go_roundg (N - (i+1))
      case measure=>have:=HG.out;have:=HI.out;omega
      case rel=>exact⟨i+1,HI.out,by go_num,rfl,KM2,KI2⟩
  ·have i1:¬(i:Int) < (N:Int):=by omega
   have HE:Hid (i=N):=by show _=_;have:=HG.out.2;omega
   go_wp2
   go_ret
   obtain⟨fn',jn',hM⟩:=KM.out
   exact⟨i,false,fn',jn',rfl,HG.out.2,hM,KI.out.1,(fun e=>by cases e),fun _=>⟨HE.out,KI.out.2⟩⟩
end
end Go.Proofs.YtjehljjlcifndaaGreatDoor
