import Derived.Test.YticbokabjhnagaaGreatDoorW22
import Derived.Test.YticbokabjhnagaaGreatDoorW25
import Derived.Carry
namespace Go.Proofs.YticbokabjhnagaaGreatDoor
set_option maxHeartbeats 32000000
section
open Go.RowKit
theorem ti_in_in (v:Value) (w:World):(Instr.typeAssert (.iface 144 v) 141 144 true).run Tryz.prog w=.ok (.tuple #[v,.bool true]) w:=by kernel_rfl
theorem ti_eq_in (v:Value) (w:World):(Instr.typeAssert (.iface 107 v) 141 144 true).run Tryz.prog w=.ok (.tuple #[.agg #[.int .i64 0,.string ⟨#[]⟩,.int .i64 0,.int .i64 0],.bool false]) w:=by kernel_rfl
theorem ti_out_in (v:Value) (w:World):(Instr.typeAssert (.iface 148 v) 141 144 true).run Tryz.prog w=.ok (.tuple #[.agg #[.int .i64 0,.string ⟨#[]⟩,.int .i64 0,.int .i64 0],.bool false]) w:=by kernel_rfl
theorem ti_eq_eq (v:Value) (w:World):(Instr.typeAssert (.iface 107 v) 141 107 true).run Tryz.prog w=.ok (.tuple #[v,.bool true]) w:=by kernel_rfl
theorem ti_in_eq (v:Value) (w:World):(Instr.typeAssert (.iface 144 v) 141 107 true).run Tryz.prog w=.ok (.tuple #[.agg #[.int .i64 0,.string ⟨#[]⟩,.int .i64 0,.nilIface],.bool false]) w:=by kernel_rfl
theorem ti_out_eq (v:Value) (w:World):(Instr.typeAssert (.iface 148 v) 141 107 true).run Tryz.prog w=.ok (.tuple #[.agg #[.int .i64 0,.string ⟨#[]⟩,.int .i64 0,.nilIface],.bool false]) w:=by kernel_rfl
theorem ti_out_out (v:Value) (w:World):(Instr.typeAssert (.iface 148 v) 141 148 true).run Tryz.prog w=.ok (.tuple #[v,.bool true]) w:=by kernel_rfl
theorem ti_in_out (v:Value) (w:World):(Instr.typeAssert (.iface 144 v) 141 148 true).run Tryz.prog w=.ok (.tuple #[.agg #[.slice none 0 0],.bool false]) w:=by kernel_rfl
theorem Tryz.infoNq:(Tryz.prog.info? 109).map (fun i=>(i.zero,i.size,i.bytes))=some (some (.agg #[.int .i64 0,.string ⟨#[]⟩,.int .i64 0,.nilIface,.int .i64 0,.slice none 0 0]),6,80):=by kernel_rfl
theorem item_at {N b0:Nat} {w0 w:World} {l:List Mip.It} {o:Option Addr} {ci:Nat} (hR:Row N w0 b0 l (.slice o l.length ci)) (hB:Below w0.heap.size w0 w) {j:Nat} {i:Mip.It} (hi:l[j]?=some i):∃g v,o=some ⟨g,0,none⟩∧w.cell? ⟨g,j,none⟩=some v∧Iv N w0 b0 i v:=by
 obtain ⟨vs,h1,h2,h3⟩:=hR
 have hj:=(List.getElem?_eq_some_iff.1 hi).1
 obtain ⟨v,hv⟩:∃v,vs[j]?=some v:=⟨_,List.getElem?_eq_getElem (by omega)⟩
 have hcell:∀g,o=some ⟨g,0,none⟩→w0.cell? ⟨g,j,none⟩=some v:=fun g hg=>by
  subst hg
  exact own_cell h1 hv
 rcases h1.2 with ⟨h,h'⟩ | ⟨g,cap,cur,h,_⟩
 ·omega
 ·injection h with e1 e2 e3
  exact ⟨g,v,e1,(hB.cell (lt_of_cell (hcell g e1))).trans (hcell g e1),h3 j i v hi hv⟩
def nilX (Q:List Nq):List (Nq×Value):=Q.map fun q=>(q,.slice none 0 0)
def DcPost (N:Nat) (a:Nat→Addr) (w0:World) (iv:Value) (c b:Nat) (r:Option Nat×Ds) (w:World) (E:Ending) (w':World):Prop:=
 Below w0.heap.size w0 w'∧((r.1=none∧E=.returned (.pointer none)∧∃n fv qv,n≤60∧r.2.F.length≤60∧r.2.Q.length≤60∧Cs N w0 iv c b n r.2.m r.2.F (nilX r.2.Q) fv qv w'∧Kt w w')∨∃p d,r.1=some p∧E=.returned (.pointer (some ⟨d,0,none⟩))∧Dg a w' d ((N:Int) - (p:Nat)) 5)
theorem names_at {N b0:Nat} {w0 w:World} {l:List (Mil.Bytes×Nat)} {g cc:Nat} (h:w0.ownsRow (b0+1) 103 2 (.slice (some ⟨g,0,none⟩) l.length cc) l.length (nms N l)) (hB:Below w0.heap.size w0 w):Nml N w g 0 l:=fun j x p hj=>by
 have e0:(nms N l)[j*2+0]?=some (.int .i64 ((N:Int) - (p:Nat))):=(flat_at _ 2 (fun _=>rfl) l j 0 (x,p) hj (by decide)).trans rfl
 have e1:(nms N l)[j*2+1]?=some (.string (bs x)):=(flat_at _ 2 (fun _=>rfl) l j 1 (x,p) hj (by decide)).trans rfl
 have c0:=own_cell h e0
 have c1:=own_cell h e1
 refine ⟨?_,?_⟩
 ·rw [show 0+j*2=j*2+0 by omega];exact (hB.cell (lt_of_cell c0)).trans c0
 ·rw [show 0+j*2+1=j*2+1 by omega];exact (hB.cell (lt_of_cell c1)).trans c1
theorem add_kt {N:Nat} {w0:World} {iv:Value} {c b n:Nat} {m:Mil.Bytes→Option Int} {F:List Flo} {X:List (Nq×Value)} {fv qv:Value} {w:World} (h:Cs N w0 iv c b n m F X fv qv w):∀(i:Nat) (cur:Array Value),(i=b∨i=c∨fv.ownBlock=some i)→w.heap[i]?=some (.cells cur 70 (0,0))→False:=fun i cur e e'=>by
 rcases e with e | e | e
 ·obtain ⟨es,cl,hh⟩:=h.mp.heap
  rw [e,hh] at e';cases e'
 ·rw [e] at e'
  exact heap_nt h.cm e' (by decide) rfl
 ·exact heap_nt (own_lt h.fl i e).2.choose_spec e' (by decide) rfl
theorem eqn_kt {N:Nat} {w0:World} {iv:Value} {c b n:Nat} {m:Mil.Bytes→Option Int} {F:List Flo} {X:List (Nq×Value)} {fv qv:Value} {w:World} (h:Cs N w0 iv c b n m F X fv qv w):∀(i:Nat) (cur:Array Value),(i=c∨qv.ownBlock=some i)→w.heap[i]?=some (.cells cur 70 (0,0))→False:=fun i cur e e'=>by
 rcases e with e | e
 ·rw [e] at e'
  exact heap_nt h.cm e' (by decide) rfl
 ·exact heap_nt (own_lt h.eq i e).2.choose_spec e' (by decide) rfl
set_option maxRecDepth 100000 in
theorem declare_any (N:Nat) (hN:N≤4000) (a:Nat→Addr) (w0:World) (hE:Ce a w0) (b0:Nat) (l:List Mip.It) (hl:Items l) (o:Option Addr) (ci:Nat) (hR:Row N w0 b0 l (.slice o l.length ci)) (c b:Nat) (w:World) (h:Cs N w0 (.slice o l.length ci) c b 0 (fun _=>none) [] [] (.slice none 0 0) (.slice none 0 0) w) :
  Calls Tryz.prog 32 #[.pointer (some ⟨c,0,none⟩)] w (DcPost N a w0 (.slice o l.length ci) c b (decl N Ds.zero l) w):=by
 have HN:Hid (N≤4000):=hN
 have HE:Hid (Ce a w0):=hE
 have HI:Hid (Items l):=hl
 have HR:Hid (Row N w0 b0 l (.slice o l.length ci)):=hR
 have hll:=hl.len
 have HB0:Hid (Below w.heap.size w (w.alloc (.map #[] 0))):=(Below.refl _ _).alloc (Nat.le_refl _) _
 have HC0:Hid (Cs N w0 (.slice o l.length ci) c b 0 (fun _=>none) [] [] (.slice none 0 0) (.slice none 0 0) (w.alloc (.map #[] 0))):=h.below HB0.out
 have HM0:Hid (Msi (w.alloc (.map #[] 0)) w.heap.size 0 (fun _=>none)):=Msi.made w
 have HMO:Hid (w.heap.size≠b∧w0.heap.size≤w.heap.size):=⟨(h.new (Nat.le_refl _)).2.2.1,h.blw.size⟩
 have c0:(w.alloc (.map #[] 0)).cell? ⟨c,0,none⟩=some (.slice o l.length ci):=HC0.out.cells.1
 have hmm:=@run_makeMap Tryz.prog
 clear hN hE hl hR h
 generalize hmo:w.heap.size=mo at HM0 HMO
 go_enter Tryz.func32,Tryz.ntmps32
 go_wp2_with fail
 try rw [hmo]
 clear hmm hmo
 generalize w.alloc (.map #[] 0)=W at HB0 HC0 HM0 c0 ⊢
 go_loopg [16] l.length (fun gk s16 wr=>∃(j n no:Nat) (s:Ds) (fv qv:Value),j≤l.length∧s16=.int .i64 (j:Nat)∧gk=l.length - j∧Hid (decl N Ds.zero l=decl N s (l.drop j))∧Hid (Cs N w0 (.slice o l.length ci) c b n s.m s.F (nilX s.Q) fv qv wr)∧Hid (n≤j∧s.F.length≤j∧s.Q.length≤j∧no≤600*j)∧Hid (Msi wr mo no s.om)∧Hid (Kt w wr))
 case atStart=>exact ⟨0,0,0,Ds.zero,_,_,Nat.zero_le _,rfl,rfl,rfl,HC0,⟨Nat.le_refl _,Nat.le_refl _,Nat.le_refl _,Nat.le_refl _⟩,HM0,Kt.of_below HB0.out⟩
 case round=>
  obtain ⟨j,n,no,s,fv,qv,hj,rfl,hg,KD,KC,KN,KM,KT⟩:=hrel
  have HG:Hid (gk=l.length - j):=hg
  clear hg c0 HC0 HM0 HB0
  by_cases hlt:j < l.length
  ·obtain ⟨i,hi⟩:∃i,l[j]?=some i:=⟨_,List.getElem?_eq_getElem hlt⟩
   obtain ⟨gi,v,rfl,hv,hIv⟩:=item_at HR.out KC.out.blw hi
   have HOK:Hid (IOk i):=HI.out.ok i (List.mem_of_getElem? hi)
   have HSH:Hid (Short i.names∧i.names.length≤600):=HI.out.short i (List.mem_of_getElem? hi)
   have HNE:Hid (i.kind=2→i.names≠[]):=HI.out.some_ i (List.mem_of_getElem? hi)
   have HD:Hid (decl N Ds.zero l=decl N s (i::l.drop (j+1))):=KD.out.trans (decl_drop N hi)
   have HL60:Hid (l.length≤60):=hll
   have HLT:Hid (j < l.length):=hlt
   have NMO:Hid (mo≠c∧fv.ownBlock≠some mo∧qv.ownBlock≠some mo):=by
    obtain ⟨es,cl,hb⟩:=KM.out.heap
    exact ⟨heap_ne hb KC.out.cm (by intro e;cases e),(fun e=>heap_ne (own_lt KC.out.fl mo e).2.choose_spec hb (by intro e;cases e) rfl),(fun e=>heap_ne (own_lt KC.out.eq mo e).2.choose_spec hb (by intro e;cases e) rfl)⟩
   have h0j:(0:Int)≤(j:Int):=by omega
   have h1j:(j:Int) < (l.length:Int):=by omega
   clear hi KD
   rcases hIv with ⟨hk,rfl⟩ | ⟨hk,r,rfl,hr⟩ | ⟨hk,rfl⟩
   ·
    have HK:Hid (i.kind=1):=hk
    have t1:=ti_in_in (.agg #[.int .i64 ((N:Int) - (i.at_:Nat)),.string (bs i.nm),.int .i64 (i.ty:Nat),.int .i64 (i.every:Nat)])
    have HX:Hid (i.nm.length≤4000):=by
     rcases HOK.out with ⟨_,e,_⟩ | ⟨e,_⟩ | ⟨e,_⟩
     ·have:=e.2.2.1;show _≤_;omega
     ·have:=HK.out;omega
     ·have:=HK.out;omega
    have XB:Hid (Below wr.heap.size wr (wr.alloc (.cells #[.int .i64 ((N:Int) - (i.at_:Nat)),.string (bs i.nm),.int .i64 (i.ty:Nat),.int .i64 (i.every:Nat)] 144))):=(Below.refl _ _).alloc (Nat.le_refl _) _
    have XC:Hid (Cs N w0 (.slice (some ⟨gi,0,none⟩) l.length ci) c b n s.m s.F (nilX s.Q) fv qv (wr.alloc (.cells #[.int .i64 ((N:Int) - (i.at_:Nat)),.string (bs i.nm),.int .i64 (i.ty:Nat),.int .i64 (i.every:Nat)] 144))):=KC.out.below XB.out
    have XM:Hid (Msi (wr.alloc (.cells #[.int .i64 ((N:Int) - (i.at_:Nat)),.string (bs i.nm),.int .i64 (i.ty:Nat),.int .i64 (i.every:Nat)] 144)) mo no s.om):=KM.out.fr (Fr.of_below (own:=fun _=>False) XB.out) (fun e=>e)
    clear hk
    go_wp2_with fail
    have KTV:Hid (Kt w (wr.alloc (.cells #[.int .i64 ((N:Int) - (i.at_:Nat)),.string (bs i.nm),.int .i64 (i.ty:Nat),.int .i64 (i.every:Nat)] 144))):=KT.out.step XB.out
    clear t1 hv XB
    generalize wr.alloc (.cells #[.int .i64 ((N:Int) - (i.at_:Nat)),.string (bs i.nm),.int .i64 (i.ty:Nat),.int .i64 (i.every:Nat)] 144)=V at XC XM KTV ⊢
    by_cases hm:(s.m i.nm).isSome=true
    ·have HP:Hid ((decl N Ds.zero l).1=some i.at_):=by show _=_;rw [HD.out,decl,if_pos HK.out,if_pos hm]
     refine (addFlow_twice XC.out (HE.out.below XC.out.blw) i.nm HX.out hm _ _ _ _ _ _).mono ?_
     rintro E w1 ⟨hb1,d,rfl,hd⟩
     have HB1:Hid (Below w0.heap.size w0 w1):=below_step XC.out.blw hb1
     have HDG:Hid (Dg a w1 d ((N:Int) - (i.at_:Nat)) 5):=hd
     clear hb1 hd hm
     go_wp2
     go_ret
     exact ⟨HB1.out,Or.inr ⟨_,d,HP.out,rfl,HDG.out⟩⟩
    ·have hm':(s.m i.nm).isSome=false:=by simpa using hm
     have HR2:Hid (decl N Ds.zero l=decl N (s.inp i) (l.drop (j+1))):=by show _=_;rw [HD.out,decl,if_pos HK.out,if_neg hm]
     refine (addFlow_new XC.out (by have:=KN.out.2.1;have:=HL60.out;omega) i.nm HX.out (by have:=KN.out.1;have:=HL60.out;omega) hm' _ _ _ _ _ _).mono ?_
     rintro E w1 ⟨rfl,⟨g1,cap1,hC1⟩,hF1⟩
     have HC1:Hid (Cs N w0 (.slice (some ⟨gi,0,none⟩) l.length ci) c b (n+1) (s.inp i).m (s.inp i).F (nilX (s.inp i).Q) (.slice (some ⟨g1,0,none⟩) (s.F.length+1) cap1) qv w1):=hC1
     have HT1:Hid (Kt w w1):=KTV.out.fr hF1 (add_kt XC.out)
     have HM1:Hid (Msi w1 mo no (s.inp i).om):=XM.out.fr hF1 (fun e=>by
      rcases e with e | e | e
      ·exact HMO.out.1 e
      ·exact NMO.out.1 e
      ·exact NMO.out.2.1 e)
     clear hC1 hF1 hm hm'
     go_wp2
     go_roundg (l.length - (j+1))
     case measure=>have:=HG.out;have:=HLT.out;omega
     case rel=>exact ⟨j+1,n+1,no,s.inp i,_,qv,HLT.out,by go_num,rfl,HR2,HC1,⟨by have:=KN.out.1;omega,by have:=KN.out.2.1;simp [Ds.inp];omega,by have:=KN.out.2.2.1;simp [Ds.inp];omega,by have:=KN.out.2.2.2;omega⟩,HM1,HT1⟩
   ·
    have HK:Hid (i.kind=2):=hk
    have t1:=ti_out_in (.agg #[r])
    have t2:=ti_out_eq (.agg #[r])
    have t3:=ti_out_out (.agg #[r])
    obtain ⟨or,cr,hrs⟩:=own_shape hr
    subst hrs
    have HRW:Hid (w0.ownsRow (b0+1) 103 2 (.slice or i.names.length cr) i.names.length (nms N i.names)):=hr
    have XB:Hid (Below wr.heap.size wr (wr.alloc (.cells #[.slice or i.names.length cr] 148))):=(Below.refl _ _).alloc (Nat.le_refl _) _
    have XC:Hid (Cs N w0 (.slice (some ⟨gi,0,none⟩) l.length ci) c b n s.m s.F (nilX s.Q) fv qv (wr.alloc (.cells #[.slice or i.names.length cr] 148))):=KC.out.below XB.out
    have XM:Hid (Msi (wr.alloc (.cells #[.slice or i.names.length cr] 148)) mo no s.om):=KM.out.fr (Fr.of_below (own:=fun _=>False) XB.out) (fun e=>e)
    clear hk hr
    go_wp2_with fail
    have KTV:Hid (Kt w (wr.alloc (.cells #[.slice or i.names.length cr] 148))):=KT.out.step XB.out
    clear t1 t2 t3 hv XB
    generalize wr.alloc (.cells #[.slice or i.names.length cr] 148)=V at XC XM KTV ⊢
    obtain ⟨gn,hgn,hgl⟩:∃gn,or=some ⟨gn,0,none⟩∧gn < w0.heap.size:=by
     have hne:i.names≠[]:=by
      rcases HOK.out with ⟨e,_⟩ | ⟨_,e⟩ | ⟨e,_⟩
      ·have:=HK.out;omega
      ·exact HNE.out HK.out
      ·have:=HK.out;omega
     rcases HRW.out.2 with ⟨e,e'⟩ | ⟨g,cap,cur,e,_,hgg,_⟩
     ·exact absurd (List.length_eq_zero_iff.1 e') hne
     ·injection e with e1 e2 e3
      exact ⟨g,e1,lt_of_heap hgg⟩
    subst hgn
    refine (enterAll_any N HN.out a mo no s.om i.names HSH.out.1 (by have:=KN.out.2.2.2;have:=HL60.out;have:=HSH.out.2;have:=HLT.out;omega) gn 0 cr V (HE.out.below XC.out.blw) (Nat.le_trans HE.out.size HMO.out.2) (by have:=HMO.out.2;omega) XM.out (names_at HRW.out XC.out.blw)).mono ?_
    rintro E w1 ⟨hF1,(⟨hn,rfl,hM1⟩ | ⟨p,d,hn,rfl,hd⟩)⟩
    ·have HR2:Hid (decl N Ds.zero l=decl N ⟨s.m,s.F,s.Q,(entAll N s.om i.names).2⟩ (l.drop (j+1))):=by
      show _=_
      rw [HD.out,decl,if_neg (by have:=HK.out;omega),if_neg (by have:=HK.out;omega),if_neg (by rw [hn];decide)]
     have HC1:Hid (Cs N w0 (.slice (some ⟨gi,0,none⟩) l.length ci) c b n s.m s.F (nilX s.Q) fv qv w1):=XC.out.off hF1 HMO.out.2 NMO.out.1 HMO.out.1 NMO.out.2.1 NMO.out.2.2
     have HM1:Hid (Msi w1 mo (no+i.names.length) (entAll N s.om i.names).2):=hM1
     have HT1:Hid (Kt w w1):=KTV.out.map hF1 XM.out.heap
     clear hF1 hM1 hn
     go_wp2
     go_roundg (l.length - (j+1))
     case measure=>have:=HG.out;have:=HLT.out;omega
     case rel=>exact ⟨j+1,n,no+i.names.length,⟨s.m,s.F,s.Q,(entAll N s.om i.names).2⟩,fv,qv,HLT.out,by go_num,rfl,HR2,HC1,⟨by have:=KN.out.1;omega,by have:=KN.out.2.1;show s.F.length≤_;omega,by have:=KN.out.2.2.1;show s.Q.length≤_;omega,by have:=KN.out.2.2.2;have:=HSH.out.2;omega⟩,HM1,HT1⟩
    ·have HP:Hid ((decl N Ds.zero l).1=some p):=by
      show _=_
      rw [HD.out,decl,if_neg (by have:=HK.out;omega),if_neg (by have:=HK.out;omega),if_pos (by rw [hn];rfl),hn]
     have HB1:Hid (Below w0.heap.size w0 w1):=(XC.out.off hF1 HMO.out.2 NMO.out.1 HMO.out.1 NMO.out.2.1 NMO.out.2.2).blw
     have HDG:Hid (Dg a w1 d ((N:Int) - (p:Nat)) 5):=hd
     clear hF1 hd hn
     go_wp2
     go_ret
     exact ⟨HB1.out,Or.inr ⟨p,d,HP.out,rfl,HDG.out⟩⟩
   ·
    have HK:Hid (i.kind=3):=hk
    have HW:Hid (Mil.wf (Mip.er i.body) false∧i.nm.length≤4000):=by
     rcases HOK.out with ⟨e,_⟩ | ⟨e,_⟩ | ⟨_,e,_,e'⟩
     ·have:=HK.out;omega
     ·have:=HK.out;omega
     ·exact ⟨e',by have:=e.2.2.1;omega⟩
    obtain ⟨T,y,hev⟩:=ev_iface N i.body HW.out.1
    have HEV:Hid (ev N i.body=.iface T y):=hev
    rw [hev] at hv
    have t1:=ti_eq_in (.agg #[.int .i64 ((N:Int) - (i.at_:Nat)),.string (bs i.nm),.int .i64 (i.ty:Nat),.iface T y])
    have t2:=ti_eq_eq (.agg #[.int .i64 ((N:Int) - (i.at_:Nat)),.string (bs i.nm),.int .i64 (i.ty:Nat),.iface T y])
    have XB:Hid (Below wr.heap.size wr (wr.alloc (.cells #[.int .i64 ((N:Int) - (i.at_:Nat)),.string (bs i.nm),.int .i64 (i.ty:Nat),.iface T y] 107))):=(Below.refl _ _).alloc (Nat.le_refl _) _
    have XC:Hid (Cs N w0 (.slice (some ⟨gi,0,none⟩) l.length ci) c b n s.m s.F (nilX s.Q) fv qv (wr.alloc (.cells #[.int .i64 ((N:Int) - (i.at_:Nat)),.string (bs i.nm),.int .i64 (i.ty:Nat),.iface T y] 107))):=KC.out.below XB.out
    have XM:Hid (Msi (wr.alloc (.cells #[.int .i64 ((N:Int) - (i.at_:Nat)),.string (bs i.nm),.int .i64 (i.ty:Nat),.iface T y] 107)) mo no s.om):=KM.out.fr (Fr.of_below (own:=fun _=>False) XB.out) (fun e=>e)
    have XE:Hid ((wr.alloc (.cells #[.int .i64 ((N:Int) - (i.at_:Nat)),.string (bs i.nm),.int .i64 (i.ty:Nat),.iface T y] 107)).heap[wr.heap.size]?=some (.cells #[.int .i64 ((N:Int) - (i.at_:Nat)),.string (bs i.nm),.int .i64 (i.ty:Nat),.iface T y] 107 (0,0))):=heap_alloc_new wr _
    have XQ:Hid (qv.ownBlock≠some wr.heap.size∧wr.heap.size≠c∧wr.heap.size≠b):=by
     obtain ⟨_,k2,k3,_,k5⟩:=KC.out.new (Nat.le_refl wr.heap.size)
     exact ⟨k5,k2,k3⟩
    clear hk hev
    go_wp2_with fail
    have KTV:Hid (Kt w (wr.alloc (.cells #[.int .i64 ((N:Int) - (i.at_:Nat)),.string (bs i.nm),.int .i64 (i.ty:Nat),.iface T y] 107))):=KT.out.step XB.out
    clear t1 t2 hv XB
    generalize wr.alloc (.cells #[.int .i64 ((N:Int) - (i.at_:Nat)),.string (bs i.nm),.int .i64 (i.ty:Nat),.iface T y] 107)=V at XC XM XE KTV ⊢
    generalize wr.heap.size=ib at XE XQ ⊢
    obtain ⟨of,cf,hfv⟩:=own_shape XC.out.fl
    obtain ⟨oq,cq,hqv⟩:=own_shape XC.out.eq
    have HFV:Hid (fv=.slice of s.F.length cf):=hfv
    have hlx:(nilX s.Q).length=s.Q.length:=by simp [nilX]
    rw [hlx] at hqv
    have HQV:Hid (qv=.slice oq s.Q.length cq):=hqv
    obtain ⟨_,d1,_,d3⟩:=XC.out.cells
    rw [HFV.out] at d1
    rw [HQV.out] at d3
    have e0:V.cell? ⟨ib,0,none⟩=some (.int .i64 ((N:Int) - (i.at_:Nat))):=(cell_of_row V _ 0 _ _ _ XE.out).trans rfl
    have e1:V.cell? ⟨ib,1,none⟩=some (.string (bs i.nm)):=(cell_of_row V _ 1 _ _ _ XE.out).trans rfl
    have e2:V.cell? ⟨ib,2,none⟩=some (.int .i64 (i.ty:Nat)):=(cell_of_row V _ 2 _ _ _ XE.out).trans rfl
    have e3:V.cell? ⟨ib,3,none⟩=some (.iface T y):=(cell_of_row V _ 3 _ _ _ XE.out).trans rfl
    obtain ⟨f0,hf0,fz0,fz1,fz2⟩:=info_parts Tryz.infoNq
    have VB:Hid (Below V.heap.size V (V.alloc (.cells #[.int .i64 ((N:Int) - (i.at_:Nat)),.string (bs i.nm),.int .i64 (i.ty:Nat),.iface T y,.int .i64 (s.F.length:Nat),.slice none 0 0] 109)).drew):=((Below.refl _ _).alloc (Nat.le_refl _) _).drew
    have VC:Hid (Cs N w0 (.slice (some ⟨gi,0,none⟩) l.length ci) c b n s.m s.F (nilX s.Q) fv qv (V.alloc (.cells #[.int .i64 ((N:Int) - (i.at_:Nat)),.string (bs i.nm),.int .i64 (i.ty:Nat),.iface T y,.int .i64 (s.F.length:Nat),.slice none 0 0] 109)).drew):=XC.out.below VB.out
    have HNC:Hid (nqC N (⟨i.nm,i.at_,i.ty,i.body,s.F.length⟩,.slice none 0 0)=[.int .i64 ((N:Int) - (i.at_:Nat)),.string (bs i.nm),.int .i64 (i.ty:Nat),.iface T y,.int .i64 (s.F.length:Nat),.slice none 0 0]):=by
     show [Value.int .i64 ((N:Int) - (i.at_:Nat)),.string (bs i.nm),.int .i64 (i.ty:Nat),ev N i.body,.int .i64 (s.F.length:Nat),.slice none 0 0]=_
     rw [HEV.out]
    have NW:Hid (∀(q:Nat) (u:Value),(nqC N (⟨i.nm,i.at_,i.ty,i.body,s.F.length⟩,.slice none 0 0))[q]?=some u→(V.alloc (.cells #[.int .i64 ((N:Int) - (i.at_:Nat)),.string (bs i.nm),.int .i64 (i.ty:Nat),.iface T y,.int .i64 (s.F.length:Nat),.slice none 0 0] 109)).drew.cell? ((⟨V.heap.size,0,none⟩:Addr).add q)=some u):=by
     show ∀(q:Nat) (u:Value),_
     rw [HNC.out]
     exact fun q u h=>news_cells V _ 109 q u h
    have OW:Hid ((V.alloc (.cells #[.int .i64 ((N:Int) - (i.at_:Nat)),.string (bs i.nm),.int .i64 (i.ty:Nat),.iface T y,.int .i64 (s.F.length:Nat),.slice none 0 0] 109)).drew.ownsRow w0.heap.size 109 6 (.slice oq s.Q.length cq) s.Q.length (nqs N (nilX s.Q))):=by
     show World.ownsRow _ _ _ _ _ _ _
     have e:=VC.out.eq
     rw [hlx,HQV.out] at e
     exact e
    clear hfv hqv
    refine region_L (fun w'=>w'.cell? ⟨c,3,none⟩=some (.slice oq s.Q.length cq)∧w'.cell? ⟨c,1,none⟩=some (.slice of s.F.length cf)∧w'.cell? ⟨ib,0,none⟩=some (.int .i64 ((N:Int) - (i.at_:Nat)))∧w'.cell? ⟨ib,1,none⟩=some (.string (bs i.nm))∧w'.cell? ⟨ib,2,none⟩=some (.int .i64 (i.ty:Nat))∧w'.cell? ⟨ib,3,none⟩=some (.iface T y)) 16 (by kernel_rfl) ⟨d3,d1,e0,e1,e2,e3⟩ (fun hS=>?_)
    refine L_take 0 (v:=?_) rfl (by kernel_rfl) (by kernel_rfl) (by kernel_rfl) (by kernel_rfl) (fun _ _ _ h=>h) (Or.inl ⟨by rfl,?_⟩) (by assumption) ?_
    rotate_left 1
    ·(intro w' hSw;(try dsimp only at hSw);go_simp <;> with_reducible rfl)
    try simp only [Act.put,List.setIfInBounds_toArray,List.set_cons_zero,List.set_cons_succ]
    refine L_take 1 (v:=?_) rfl (by kernel_rfl) (by kernel_rfl) (by kernel_rfl) (by kernel_rfl) (fun _ _ _ h=>h) (Or.inl ⟨by rfl,?_⟩) (by assumption) ?_
    rotate_left 1
    ·(intro w' hSw;(try dsimp only at hSw);go_simp <;> with_reducible rfl)
    try simp only [Act.put,List.setIfInBounds_toArray,List.set_cons_zero,List.set_cons_succ]
    refine L_take 2 (v:=?_) rfl (by kernel_rfl) (by kernel_rfl) (by kernel_rfl) (by kernel_rfl) (fun _ _ _ h=>h) (Or.inl ⟨by rfl,?_⟩) (by assumption) ?_
    rotate_left 1
    ·(intro w' hSw;(try dsimp only at hSw);go_simp <;> with_reducible rfl)
    try simp only [Act.put,List.setIfInBounds_toArray,List.set_cons_zero,List.set_cons_succ]
    refine L_take 3 (v:=?_) rfl (by kernel_rfl) (by kernel_rfl) (by kernel_rfl) (by kernel_rfl) (fun _ _ _ h=>h) (Or.inl ⟨by rfl,?_⟩) (by assumption) ?_
    rotate_left 1
    ·(intro w' hSw;(try dsimp only at hSw);go_simp <;> with_reducible rfl)
    try simp only [Act.put,List.setIfInBounds_toArray,List.set_cons_zero,List.set_cons_succ]
    refine L_take 4 (v:=?_) rfl (by kernel_rfl) (by kernel_rfl) (by kernel_rfl) (by kernel_rfl) (fun _ _ _ h=>h) (Or.inl ⟨by rfl,?_⟩) (by assumption) ?_
    rotate_left 1
    ·(intro w' hSw;(try dsimp only at hSw);go_simp <;> with_reducible rfl)
    try simp only [Act.put,List.setIfInBounds_toArray,List.set_cons_zero,List.set_cons_succ]
    refine L_take 5 (v:=?_) rfl (by kernel_rfl) (by kernel_rfl) (by kernel_rfl) (by kernel_rfl) (fun _ _ _ h=>h) (Or.inl ⟨by rfl,?_⟩) (by assumption) ?_
    rotate_left 1
    ·(intro w' hSw;(try dsimp only at hSw);go_simp <;> with_reducible rfl)
    try simp only [Act.put,List.setIfInBounds_toArray,List.set_cons_zero,List.set_cons_succ]
    refine L_take 6 (v:=?_) rfl (by kernel_rfl) (by kernel_rfl) (by kernel_rfl) (by kernel_rfl) (fun _ _ _ h=>h) (Or.inl ⟨by rfl,?_⟩) (by assumption) ?_
    rotate_left 1
    ·(intro w' hSw;(try dsimp only at hSw);go_simp <;> with_reducible rfl)
    try simp only [Act.put,List.setIfInBounds_toArray,List.set_cons_zero,List.set_cons_succ]
    refine L_take 7 (v:=?_) rfl (by kernel_rfl) (by kernel_rfl) (by kernel_rfl) (by kernel_rfl) (fun _ _ _ h=>h) (Or.inl ⟨by rfl,?_⟩) (by assumption) ?_
    rotate_left 1
    ·(intro w' hSw;(try dsimp only at hSw);go_simp <;> with_reducible rfl)
    try simp only [Act.put,List.setIfInBounds_toArray,List.set_cons_zero,List.set_cons_succ]
    refine L_take 8 (v:=?_) rfl (by kernel_rfl) (by kernel_rfl) (by kernel_rfl) (by kernel_rfl) (fun _ _ _ h=>h) (Or.inl ⟨by rfl,?_⟩) (by assumption) ?_
    rotate_left 1
    ·(intro w' hSw;(try dsimp only at hSw);go_simp <;> with_reducible rfl)
    try simp only [Act.put,List.setIfInBounds_toArray,List.set_cons_zero,List.set_cons_succ]
    refine L_take 9 (v:=?_) rfl (by kernel_rfl) (by kernel_rfl) (by kernel_rfl) (by kernel_rfl) (fun _ _ _ h=>h) (Or.inl ⟨by rfl,?_⟩) (by assumption) ?_
    rotate_left 1
    ·(intro w' hSw;(try dsimp only at hSw);go_simp <;> with_reducible rfl)
    try simp only [Act.put,List.setIfInBounds_toArray,List.set_cons_zero,List.set_cons_succ]
    refine L_take 10 (v:=?_) rfl (by kernel_rfl) (by kernel_rfl) (by kernel_rfl) (by kernel_rfl) (fun _ _ _ h=>h) (Or.inl ⟨by rfl,?_⟩) (by assumption) ?_
    rotate_left 1
    ·(intro w' hSw;(try dsimp only at hSw);go_simp <;> with_reducible rfl)
    try simp only [Act.put,List.setIfInBounds_toArray,List.set_cons_zero,List.set_cons_succ]
    refine L_take 11 (v:=?_) rfl (by kernel_rfl) (by kernel_rfl) (by kernel_rfl) (by kernel_rfl) (fun _ _ _ h=>h) (Or.inl ⟨by rfl,?_⟩) (by assumption) ?_
    rotate_left 1
    ·(intro w' hSw;(try dsimp only at hSw);go_simp <;> with_reducible rfl)
    try simp only [Act.put,List.setIfInBounds_toArray,List.set_cons_zero,List.set_cons_succ]
    refine L_one 12 (by kernel_rfl) rfl (fun K hK=>?_)
    go_simp
    refine hK.out _ _ (Or.inr ?_) (fun h6=>?_)
    ·have kp:∀{q:Addr} {v:Value},V.cell? q=some v→(V.alloc (.cells #[.int .i64 ((N:Int) - (i.at_:Nat)),.string (bs i.nm),.int .i64 (i.ty:Nat),.iface T y,.int .i64 (s.F.length:Nat),.slice none 0 0] 109)).drew.cell? q=some v:=fun hq=>(VB.out.cell (lt_of_cell hq)).trans hq
     exact ⟨kp d3,kp d1,kp e0,kp e1,kp e2,kp e3⟩
    replace h6:=h6.resolve_left (by decide)
    clear hK K hS d1 d3 e0 e1 e2 e3
    try simp only [Act.put,List.setIfInBounds_toArray,List.set_cons_zero,List.set_cons_succ]
    refine L_one 13 (by kernel_rfl) rfl (fun K hK=>?_)
    refine step_append_lies _ rfl _ _ 73 rfl w0.heap.size 109 f0 (.agg #[.int .i64 0,.string ⟨#[]⟩,.int .i64 0,.nilIface,.int .i64 0,.slice none 0 0]) 6 80 Tryz.underlying73 hf0 fz0 fz1 fz2 rfl (by decide) (.slice oq s.Q.length cq) s.Q.length (nqs N (nilX s.Q)) rfl OW.out ⟨V.heap.size,0,none⟩ 1 1 (nqC N (⟨i.nm,i.at_,i.ty,i.body,s.F.length⟩,.slice none 0 0)) rfl rfl NW.out (by rw [HNC.out];intro u hu;simp at hu;rcases hu with rfl | rfl | rfl | rfl | rfl | rfl <;> rfl) (by decide) (by unfold maxLen;have:=KN.out.2.2.1;have:=HL60.out;have:=HLT.out;omega) (by have:=KN.out.2.2.1;have:=HL60.out;have:=HLT.out;omega) VC.out.blw.size _ rfl ?_
    intro k7 c7 w7 O7 hg7 hat7 hlt7
    rw [←HQV.out] at hg7 hat7
    rw [←hlx] at O7
    obtain ⟨E1,⟨x1,xz⟩,E3⟩:=VC.out.eqn (x:=(⟨i.nm,i.at_,i.ty,i.body,s.F.length⟩,.slice none 0 0)) hg7 O7 hat7
    rw [hlx] at E1 E3
    have x3:w7.cell? ⟨c,3,none⟩=some (.slice oq s.Q.length cq):=by rw [←HQV.out];exact x1
    have x4:w7.cell? ⟨c,1,none⟩=some (.slice of s.F.length cf):=by
     have e1:w7.heap[c]?=some (.cells #[.slice (some ⟨gi,0,none⟩) l.length ci,fv,.map (some b),qv] 75 (0,0)):=(hg7.block c (lt_of_heap VC.out.cm) (fun e=>heap_nt (own_lt VC.out.eq c e.symm).2.choose_spec VC.out.cm (by decide) rfl)).trans VC.out.cm
     rw [cell_of_row w7 _ 1 _ _ _ e1,←HFV.out];rfl
    have EI:w7.heap[ib]?=some (.cells #[.int .i64 ((N:Int) - (i.at_:Nat)),.string (bs i.nm),.int .i64 (i.ty:Nat),.iface T y] 107 (0,0)):=(hg7.block _ (Nat.lt_of_lt_of_le (lt_of_heap XE.out) VB.out.size) (fun e=>XQ.out.1 e.symm)).trans ((VB.out.block _ (lt_of_heap XE.out)).trans XE.out)
    have xl:=And.intro ((cell_of_row w7 _ 0 _ _ _ EI).trans rfl:w7.cell? ⟨ib,0,none⟩=some (.int .i64 ((N:Int) - (i.at_:Nat)))) (And.intro ((cell_of_row w7 _ 1 _ _ _ EI).trans rfl:w7.cell? ⟨ib,1,none⟩=some (.string (bs i.nm))) (And.intro ((cell_of_row w7 _ 2 _ _ _ EI).trans rfl:w7.cell? ⟨ib,2,none⟩=some (.int .i64 (i.ty:Nat))) ((cell_of_row w7 _ 3 _ _ _ EI).trans rfl:w7.cell? ⟨ib,3,none⟩=some (.iface T y))))
    have G1:Hid (Cs N w0 (.slice (some ⟨gi,0,none⟩) l.length ci) c b n s.m s.F (nilX (s.Q++[⟨i.nm,i.at_,i.ty,i.body,s.F.length⟩])) fv (.slice (some ⟨k7,0,none⟩) (s.Q.length+1) c7) (w7.setCell ⟨c,3,none⟩ (.slice (some ⟨k7,0,none⟩) (s.Q.length+1) c7))):=by
     have e:nilX (s.Q++[⟨i.nm,i.at_,i.ty,i.body,s.F.length⟩])=nilX s.Q++[(⟨i.nm,i.at_,i.ty,i.body,s.F.length⟩,.slice none 0 0)]:=by simp [nilX]
     show Cs _ _ _ _ _ _ _ _ _ _ _ _
     rw [e]
     exact E1
    have G2:Hid (Msi (w7.setCell ⟨c,3,none⟩ (.slice (some ⟨k7,0,none⟩) (s.Q.length+1) c7)) mo no s.om):=(XM.out.fr (Fr.of_below (own:=fun _=>False) VB.out) (fun e=>e)).fr E3 (fun e=>by
     rcases e with e | e
     ·exact NMO.out.1 e
     ·exact NMO.out.2.2 e)
    have G4:Hid (Kt w (w7.setCell ⟨c,3,none⟩ (.slice (some ⟨k7,0,none⟩) (s.Q.length+1) c7))):=(KTV.out.step VB.out).fr E3 (eqn_kt VC.out)
    have G3:Hid ((w7.setCell ⟨c,3,none⟩ (.slice (some ⟨k7,0,none⟩) (s.Q.length+1) c7)).heap[ib]?=some (.cells #[.int .i64 ((N:Int) - (i.at_:Nat)),.string (bs i.nm),.int .i64 (i.ty:Nat),.iface T y] 107 (0,0))):=(Below.heap_setCell w7 ⟨c,3,none⟩ _ ib XQ.out.2.1).trans EI
    have zc:=xz 3
    clear E1 E3 EI O7 hg7 hat7 hlt7 h6 xz x1
    refine hK.out _ _ (Or.inr ⟨x3,x4,xl⟩) (fun h7=>?_)
    replace h7:=h7.resolve_left (by decide)
    clear hK K
    try simp only [Act.put,List.setIfInBounds_toArray,List.set_cons_zero,List.set_cons_succ]
    refine L_one 14 (by kernel_rfl) rfl (fun K hK=>?_)
    go_simp
    refine hK.out _ _ (Or.inr (by assumption)) (fun h14=>?_)
    clear h14 hK K
    try simp only [Act.put,List.setIfInBounds_toArray,List.set_cons_zero,List.set_cons_succ]
    refine L_one 15 (by kernel_rfl) rfl (fun K hK=>?_)
    go_simp
    refine hK.out _ _ (Or.inr (by assumption)) (fun h15=>?_)
    clear h15 hK K
    try simp only [Act.put,List.setIfInBounds_toArray,List.set_cons_zero,List.set_cons_succ]
    refine L_one 16 (by kernel_rfl) rfl (fun K hK=>?_)
    go_simp
    refine hK.out _ _ (Or.inl rfl) (fun _=>?_)
    clear hK K h7 x3 x4 xl zc
    try simp only [Act.put,List.setIfInBounds_toArray,List.set_cons_zero,List.set_cons_succ]
    refine L_done (by kernel_rfl) ?_ _
    clear XC XM XE VB VC HNC NW OW
    generalize w7.setCell ⟨c,3,none⟩ (.slice (some ⟨k7,0,none⟩) (s.Q.length+1) c7)=V2 at G1 G2 G3 G4 ⊢
    have e0:V2.cell? ⟨ib,0,none⟩=some (.int .i64 ((N:Int) - (i.at_:Nat))):=(cell_of_row V2 _ 0 _ _ _ G3.out).trans rfl
    have e1:V2.cell? ⟨ib,1,none⟩=some (.string (bs i.nm)):=(cell_of_row V2 _ 1 _ _ _ G3.out).trans rfl
    have e2:V2.cell? ⟨ib,2,none⟩=some (.int .i64 (i.ty:Nat)):=(cell_of_row V2 _ 2 _ _ _ G3.out).trans rfl
    go_wp2_with fail
    clear e0 e1 e2
    by_cases hm:(s.m i.nm).isSome=true
    ·have HP:Hid ((decl N Ds.zero l).1=some i.at_):=by show _=_;rw [HD.out,decl,if_neg (by have:=HK.out;omega),if_pos HK.out,if_pos hm]
     refine (addFlow_twice G1.out (HE.out.below G1.out.blw) i.nm HW.out.2 hm _ _ _ 0 _ _).mono ?_
     rintro E w1 ⟨hb1,d,rfl,hd⟩
     have HB1:Hid (Below w0.heap.size w0 w1):=below_step G1.out.blw hb1
     have HDG:Hid (Dg a w1 d ((N:Int) - (i.at_:Nat)) 5):=hd
     clear hb1 hd hm
     go_wp2
     go_ret
     exact ⟨HB1.out,Or.inr ⟨_,d,HP.out,rfl,HDG.out⟩⟩
    ·have hm':(s.m i.nm).isSome=false:=by simpa using hm
     have HR2:Hid (decl N Ds.zero l=decl N (s.eqn i) (l.drop (j+1))):=by show _=_;rw [HD.out,decl,if_neg (by have:=HK.out;omega),if_pos HK.out,if_neg hm]
     refine (addFlow_new G1.out (by have:=KN.out.2.1;have:=HL60.out;omega) i.nm HW.out.2 (by have:=KN.out.1;have:=HL60.out;omega) hm' _ _ _ 0 _ _).mono ?_
     rintro E w1 ⟨rfl,⟨g1,cap1,hC1⟩,hF1⟩
     have HC1:Hid (Cs N w0 (.slice (some ⟨gi,0,none⟩) l.length ci) c b (n+1) (s.eqn i).m (s.eqn i).F (nilX (s.eqn i).Q) (.slice (some ⟨g1,0,none⟩) (s.F.length+1) cap1) (.slice (some ⟨k7,0,none⟩) (s.Q.length+1) c7) w1):=hC1
     have HT1:Hid (Kt w w1):=G4.out.fr hF1 (add_kt G1.out)
     have HM1:Hid (Msi w1 mo no (s.eqn i).om):=G2.out.fr hF1 (fun e=>by
      rcases e with e | e | e
      ·exact HMO.out.1 e
      ·exact NMO.out.1 e
      ·exact NMO.out.2.1 e)
     clear hC1 hF1 hm hm'
     go_wp2
     go_roundg (l.length - (j+1))
     case measure=>have:=HG.out;have:=HLT.out;omega
     case rel=>exact ⟨j+1,n+1,no,s.eqn i,_,_,HLT.out,by go_num,rfl,HR2,HC1,⟨by have:=KN.out.1;omega,by have:=KN.out.2.1;simp [Ds.eqn];omega,by have:=KN.out.2.2.1;simp [Ds.eqn];omega,by have:=KN.out.2.2.2;omega⟩,HM1,HT1⟩
  ·have hle:(l.length:Int)≤(j:Int):=by omega
   have HJ:Hid (j=l.length):=by show _=_;omega
   have HL60:Hid (l.length≤60):=hll
   go_wp2
   go_ret
   have e1:decl N Ds.zero l=(none,s):=by rw [KD.out,HJ.out,List.drop_length];rfl
   refine ⟨KC.out.blw,Or.inl ⟨by rw [e1],rfl,n,fv,qv,?_⟩⟩
   rw [e1]
   have h1:=KN.out
   have h2:=HL60.out
   have h3:=HJ.out
   exact ⟨by omega,by show s.F.length≤60;omega,by show s.Q.length≤60;omega,KC.out,KT.out⟩
end
end Go.Proofs.YticbokabjhnagaaGreatDoor
