import Derived.Test.YticbokabjhnagaaGreatDoorW26
import Derived.Test.YticbokabjhnagaaGreatDoorW16
namespace Go.Proofs.YticbokabjhnagaaGreatDoor
set_option maxHeartbeats 32000000
section
open Go.RowKit
theorem own_set {w:World} {base:Nat} {e:TypeId} {size:Nat} {g n cap:Nat} {xs:List Value} (ho:w.ownsRow base e size (.slice (some ⟨g,0,none⟩) n cap) n xs) (j:Nat) (v:Value):(w.setCell ⟨g,j,none⟩ v).ownsRow base e size (.slice (some ⟨g,0,none⟩) n cap) n (xs.set j v):=by
 obtain ⟨h1,⟨h2,h3⟩ | ⟨k,cap',cur,hs,hbk,hk,hcap,hmx,hsz,htk⟩⟩:=ho
 ·cases h2
 ·injection hs with e1 e2 e3
  have e4:g=k:=by simpa using e1
  subst e4
  subst e3
  refine ⟨by rw [List.length_set];exact h1,.inr ⟨g,cap,cur.setIfInBounds j v,rfl,hbk,?_,hcap,hmx,by simpa using hsz,?_⟩⟩
  ·show (w.heap.modify g _)[g]?=_
   rw [Array.getElem?_modify,if_pos rfl,hk];rfl
  ·rw [Array.toList_setIfInBounds,←htk,List.take_set]
theorem fls_modify (fn:Flo→Flo) (o:Nat) (v:Value) (ho:o < 5) (hfn:∀f,flC (fn f)=(flC f).set o v):∀(F:List Flo) (k:Nat),k < F.length→fls (F.modify k fn)=(fls F).set (k*5+o) v
 | [],k,h=>by simp at h
 | f::r,0,_=>by
  show fls (fn f::r)=_
  unfold fls
  rw [List.flatMap_cons,List.flatMap_cons,hfn,List.set_append_left _ _ (by show 0*5+o < 5;omega)]
  simp
 | f::r,k+1,h=>by
  have ih:=fls_modify fn o v ho hfn r k (by simpa using h)
  show fls (f::r.modify k fn)=_
  unfold fls at ih ⊢
  rw [List.flatMap_cons,List.flatMap_cons,ih,List.set_append_right _ _ (by show 5≤_;omega)]
  have e:(k+1)*5+o - (flC f).length=k*5+o:=by show (k+1)*5+o - 5=_;omega
  rw [e]
section
variable {N:Nat} {w0:World} {iv:Value} {c b n:Nat} {m:Mil.Bytes→Option Int} {F:List Flo} {X:List (Nq×Value)} {fv qv:Value} {w w':World}
theorem Cs.row (h:Cs N w0 iv c b n m F X fv qv w) (hF:F≠[]):∃g cap,fv=.slice (some ⟨g,0,none⟩) F.length cap∧w0.heap.size≤g∧g < w.heap.size∧(∃cur,w.heap[g]?=some (.cells cur 42 (0,0))):=by
 rcases h.fl.2 with ⟨_,h'⟩ | ⟨g,cap,cur,e,hb,hg,_⟩
 ·exact absurd (List.length_eq_zero_iff.1 h') hF
 ·exact ⟨g,cap,e,hb,lt_of_heap hg,cur,hg⟩
theorem Cs.fls (h:Cs N w0 iv c b n m F X fv qv w) {g cap:Nat} (hv:fv=.slice (some ⟨g,0,none⟩) F.length cap):Fls w g F:=fun j f hj=>by
 have ho:=h.fl
 rw [hv] at ho
 have at_:∀i v,i < 5→(flC f)[i]?=some v→w.cell? ⟨g,j*5+i,none⟩=some v:=fun i v hi hv=>own_cell ho ((flat_at flC 5 (fun _=>rfl) F j i f hj hi).trans hv)
 exact ⟨at_ 0 _ (by decide) rfl,at_ 1 _ (by decide) rfl,at_ 2 _ (by decide) rfl,at_ 3 _ (by decide) rfl,at_ 4 _ (by decide) rfl⟩
theorem Cs.nm {a:Nat→Addr} (h:Cs N w0 iv c b n m F X fv qv w) (hE:Ce a w0):Nm a c b n m w:=⟨hE.below h.blw,h.cells.2.2.1,h.mp⟩
theorem Cs.cw {a:Nat→Addr} (h:Cs N w0 iv c b n m F X fv qv w) (hE:Ce a w0) {g cap:Nat} (hv:fv=.slice (some ⟨g,0,none⟩) F.length cap):Cw a c b n m g F w:=⟨h.nm hE,⟨cap,by rw [←hv];exact h.cells.2.1⟩,h.fls hv⟩
theorem Cs.setF (h:Cs N w0 iv c b n m F X fv qv w) {g cap:Nat} (hv:fv=.slice (some ⟨g,0,none⟩) F.length cap) (fn:Flo→Flo) (o:Nat) (v:Value) (ho:o < 5) (hfn:∀f,flC (fn f)=(flC f).set o v) {k:Nat} (hk:k < F.length) :
  Cs N w0 iv c b n m (F.modify k fn) X fv qv (w.setCell ⟨g,k*5+o,none⟩ v):=by
 have hfl:=h.fl
 rw [hv] at hfl
 have gb:∃cur,w.heap[g]?=some (.cells cur 42 (0,0)):=(own_lt hfl g rfl).2
 obtain ⟨cur,hg⟩:=gb
 have hg0:=(own_lt hfl g rfl).1
 have fr:=fr_set w g (k*5+o) v
 obtain ⟨es,cl,hbm⟩:=h.mp.heap
 refine ⟨h.blw.setCell hg0 _,h.hc,h.hb,(fr.block c (lt_of_heap h.cm) (heap_nt h.cm hg (by decide))).trans h.cm,h.mp.fr fr (heap_ne hbm hg (by intro e;cases e)),?_,own_kept h.eq (fun q hq=>fr.block q (lt_of_heap (own_lt h.eq q hq).2.choose_spec) (heap_nt (own_lt h.eq q hq).2.choose_spec hg (by decide)))⟩
 rw [fls_modify fn o v ho hfn F k hk,List.length_modify,hv]
 exact own_set hfl _ v
theorem Cs.thawF (h:Cs N w0 iv c b n m F X fv qv w) {g cap:Nat} (hv:fv=.slice (some ⟨g,0,none⟩) F.length cap) (o:Nat):w.frozen? ⟨g,o,none⟩=false:=by
 have hfl:=h.fl
 rw [hv] at hfl
 obtain ⟨cur,hg⟩:=(own_lt hfl g rfl).2
 unfold World.frozen?;rw [hg];simp
end
theorem markAll_len (m:Mil.Bytes→Option Int):∀(l:List (Mil.Bytes×Nat)) (F:List Flo),(markAll m F l).2.length=F.length
 | [],_=>rfl
 | x::r,F=>by
  rw [markAll]
  cases m x.1 with
  | none=>rfl
  | some k=>exact (markAll_len m r (mark F k.toNat)).trans (mark_len _ _)
def ScPost (N:Nat) (a:Nat→Addr) (w0:World) (k:Nat) (r:Option Nat) (G:World→Prop) (E:Ending) (w':World):Prop:=
 Below w0.heap.size w0 w'∧((r=none∧E=.returned (.pointer none)∧G w')∨∃p d,r=some p∧E=.returned (.pointer (some ⟨d,0,none⟩))∧Dg a w' d ((N:Int) - (p:Nat)) k)
set_option maxRecDepth 100000 in
theorem markOutputs_cs (N:Nat) {a:Nat→Addr} {w0:World} {iv:Value} {c b n:Nat} {m:Mil.Bytes→Option Int} {F:List Flo} {X:List (Nq×Value)} {fv qv:Value} {w:World} (h:Cs N w0 iv c b n m F X fv qv w) (hE:Ce a w0) (hfit:Fit' m F) (l:List (Mil.Bytes×Nat)) (hs:Short l) (hl:l.length≤4000) (k o cc:Nat) (hk:k < w0.heap.size) (hG:Nml N w0 k o l) :
  Calls Tryz.prog 57 #[.pointer (some ⟨c,0,none⟩),.slice (some ⟨k,o,none⟩) l.length cc] w (ScPost N a w0 6 (markAll m F l).1 (fun w'=>Cs N w0 iv c b n m (markAll m F l).2 X fv qv w'∧Kt w w')):=by
 have HC:Hid (Cs N w0 iv c b n m F X fv qv w):=h
 have HE:Hid (Ce a w0):=hE
 have HS:Hid (Short l):=hs
 have HN:Hid (Nml N w0 k o l):=hG
 have HKW:Hid (k < w0.heap.size):=hk
 have HFIT:Hid (Fit' m F):=hfit
 clear h hs hG hfit hE hk
 go_enter Tryz.func57,Tryz.ntmps57
 go_wp2_with fail
 go_loopg [11] l.length (fun gk s11 wr=>∃(j:Nat) (Fj:List Flo),j≤l.length∧s11=.int .i64 (j:Nat)∧gk=l.length - j∧Hid (markAll m F l=markAll m Fj (l.drop j))∧Hid (Cs N w0 iv c b n m Fj X fv qv wr∧Fj.length=F.length)∧Hid (Kt w wr))
 case atStart=>exact ⟨0,F,Nat.zero_le _,rfl,rfl,rfl,⟨HC.out,rfl⟩,Kt.refl _⟩
 case round=>
  obtain ⟨j,Fj,hj,rfl,hg,HR,HCj,KT⟩:=hrel
  have HK:Hid (gk=l.length - j):=hg
  clear hg
  by_cases hlt:j < l.length
  ·have HLT:Hid (j < l.length):=hlt
   obtain ⟨⟨x,p⟩,hq⟩:∃q,l[j]?=some q:=⟨_,List.getElem?_eq_getElem hlt⟩
   have hcc:=HN.out.fr (Fr.of_below (own:=fun _=>False) HCj.out.1.blw) (fun e=>e) j x p hq
   have hc0:=hcc.1
   have hc1:=hcc.2
   have HX:Hid (x.length≤4000∧p≤10000):=HS.out (x,p) (List.mem_of_getElem? hq)
   have HQ:Hid (markAll m F l=match m x with | none=>(some p,Fj) | some k=>markAll m (mark Fj k.toNat) (l.drop (j+1))):=HR.out.trans (markAll_drop m hq)
   clear hq hcc
   go_wp2_with fail
   have HB:Hid (Below wr.heap.size wr (wr.alloc (.cells #[.int .i64 ((N:Int) - (p:Nat)),.string (bs x)] 103))):=(Below.refl _ _).alloc (Nat.le_refl _) _
   have HC1:Hid (Cs N w0 iv c b n m Fj X fv qv (wr.alloc (.cells #[.int .i64 ((N:Int) - (p:Nat)),.string (bs x)] 103))):=HCj.out.1.below HB.out
   have N1:=HC1.out.nm HE.out
   cases hm:m x with
   | none=>
    have HM:Hid (m x=none):=hm
    refine (numberOf_none a _ N1.ce c b n N1.c2 m N1.mp x HX.out.1 _ hm).mono ?_
    rintro E w2 ⟨hb2,d,rfl,hd⟩
    have HDG:Hid (Dg a w2 d ((N:Int) - (p:Nat)) 6):=hd
    have HB2:Hid (Below w0.heap.size w0 w2):=below_step HC1.out.blw hb2
    have HP:Hid ((markAll m F l).1=some p):=by rw [HQ.out,HM.out];rfl
    clear hb2 hd N1 hm hc0 hc1
    go_wp2
    go_ret
    exact ⟨HB2.out,Or.inr ⟨p,d,HP.out,rfl,HDG.out⟩⟩
   | some kk=>
    obtain ⟨i,rfl,hi⟩:=HFIT.out x kk hm
    have HM:Hid (m x=some (i:Int)):=hm
    refine (numberOf_some _ c b n N1.c2 m N1.mp x HX.out.1 _ (i:Int) hm).mono ?_
    rintro E w2 ⟨hb2,rfl⟩
    have HC2:Hid (Cs N w0 iv c b n m Fj X fv qv w2):=HC1.out.below hb2
    have HI:Hid (i < Fj.length):=by have:=HCj.out.2;show _ < _;omega
    obtain ⟨g,cap,hfv,hg0,hgl,hgc⟩:=HC2.out.row (fun e=>by have:=HI.out;rw [e] at this;simp at this)
    have HFV:Hid (fv=.slice (some ⟨g,0,none⟩) Fj.length cap):=hfv
    have c1:=HC2.out.cells.2.1
    rw [hfv] at c1
    obtain ⟨fi,hfi⟩:∃fi,Fj[i]?=some fi:=⟨_,List.getElem?_eq_getElem HI.out⟩
    have c4:=(HC2.out.fls hfv i fi hfi).2.2.2.2
    have z4:=HC2.out.thawF hfv (i*5+4)
    have i1:(i:Int) < (Fj.length:Int):=by have:=HI.out;omega
    have i0:(0:Int)≤(i:Int):=by omega
    have HR2:Hid (markAll m F l=markAll m (mark Fj i) (l.drop (j+1))):=by have h:=HQ.out;rw [HM.out] at h;exact h
    have HC3:Hid (Cs N w0 iv c b n m (mark Fj i) X fv qv (w2.setCell ⟨g,i*5+4,none⟩ (.bool true))):=HC2.out.setF HFV.out (fun f=>{ f with out:=true }) 4 (.bool true) (by decide) (fun _=>rfl) HI.out
    have HT3:Hid (Kt w (w2.setCell ⟨g,i*5+4,none⟩ (.bool true))):=by
     obtain ⟨cur,hcur⟩:=hgc
     exact ((KT.out.step HB.out).step hb2).one (fr_set w2 g (i*5+4) _) hcur (by decide)
    clear hb2 N1 hm hc0 hc1 hfi hfv
    go_wp2
    go_roundg (l.length - (j+1))
    case measure=>have:=HK.out;have:=HLT.out;omega
    case rel=>exact ⟨j+1,mark Fj i,HLT.out,by go_num,rfl,HR2,⟨HC3.out,(mark_len _ _).trans HCj.out.2⟩,HT3⟩
  ·have hle:(l.length:Int)≤(j:Int):=by omega
   have HJ:Hid (j=l.length):=by show _=_;omega
   go_wp2
   go_ret
   have e1:markAll m F l=(none,Fj):=by rw [HR.out,HJ.out,List.drop_length];rfl
   exact ⟨HCj.out.1.blw,Or.inl ⟨by rw [e1],rfl,by rw [e1];exact ⟨HCj.out.1,KT.out⟩⟩⟩
set_option maxRecDepth 100000 in
theorem resolve_any (N:Nat) {a:Nat→Addr} {w0:World} {c b n:Nat} {m:Mil.Bytes→Option Int} {F:List Flo} {X:List (Nq×Value)} {fv qv:Value} {w:World} (b0:Nat) (l:List Mip.It) (hl:Items l) (o:Option Addr) (ci:Nat) (hR:Row N w0 b0 l (.slice o l.length ci)) (h:Cs N w0 (.slice o l.length ci) c b n m F X fv qv w) (hE:Ce a w0) (hfit:Fit' m F) :
  Calls Tryz.prog 33 #[.pointer (some ⟨c,0,none⟩)] w (ScPost N a w0 6 (reso m F l).1 (fun w'=>Cs N w0 (.slice o l.length ci) c b n m (reso m F l).2 X fv qv w'∧Kt w w')):=by
 have HC:Hid (Cs N w0 (.slice o l.length ci) c b n m F X fv qv w):=h
 have HE:Hid (Ce a w0):=hE
 have HI:Hid (Items l):=hl
 have HR:Hid (Row N w0 b0 l (.slice o l.length ci)):=hR
 have HFIT:Hid (Fit' m F):=hfit
 have hll:=hl.len
 have c0:=h.cells.1
 clear h hE hl hR hfit
 go_enter Tryz.func33,Tryz.ntmps33
 go_wp2_with fail
 go_loopg [13] l.length (fun gk s13 wr=>∃(j:Nat) (Fj:List Flo),j≤l.length∧s13=.int .i64 (j:Nat)∧gk=l.length - j∧Hid (reso m F l=reso m Fj (l.drop j))∧Hid (Cs N w0 (.slice o l.length ci) c b n m Fj X fv qv wr∧Fj.length=F.length)∧Hid (Kt w wr))
 case atStart=>exact ⟨0,F,Nat.zero_le _,rfl,rfl,rfl,⟨HC.out,rfl⟩,Kt.refl _⟩
 case round=>
  obtain ⟨j,Fj,hj,rfl,hg,KD,KC,KT⟩:=hrel
  have HG:Hid (gk=l.length - j):=hg
  clear hg c0
  by_cases hlt:j < l.length
  ·obtain ⟨i,hi⟩:∃i,l[j]?=some i:=⟨_,List.getElem?_eq_getElem hlt⟩
   obtain ⟨gi,v,rfl,hv,hIv⟩:=item_at HR.out KC.out.1.blw hi
   have HOK:Hid (IOk i):=HI.out.ok i (List.mem_of_getElem? hi)
   have HSH:Hid (Short i.names∧i.names.length≤600):=HI.out.short i (List.mem_of_getElem? hi)
   have HNE:Hid (i.kind=2→i.names≠[]):=HI.out.some_ i (List.mem_of_getElem? hi)
   have HD:Hid (reso m F l=reso m Fj (i::l.drop (j+1))):=KD.out.trans (reso_drop m hi)
   have HL60:Hid (l.length≤60):=hll
   have HLT:Hid (j < l.length):=hlt
   have h0j:(0:Int)≤(j:Int):=by omega
   have h1j:(j:Int) < (l.length:Int):=by omega
   clear hi KD
   rcases hIv with ⟨hk,rfl⟩ | ⟨hk,r,rfl,hr⟩ | ⟨hk,rfl⟩
   ·have HK:Hid (i.kind=1):=hk
    have t1:=ti_in_eq (.agg #[.int .i64 ((N:Int) - (i.at_:Nat)),.string (bs i.nm),.int .i64 (i.ty:Nat),.int .i64 (i.every:Nat)])
    have t2:=ti_in_out (.agg #[.int .i64 ((N:Int) - (i.at_:Nat)),.string (bs i.nm),.int .i64 (i.ty:Nat),.int .i64 (i.every:Nat)])
    have HR2:Hid (reso m F l=reso m Fj (l.drop (j+1))):=by show _=_;rw [HD.out,reso,if_neg (by have:=HK.out;omega),if_neg (by have:=HK.out;omega)]
    clear hk
    go_wp2
    go_roundg (l.length - (j+1))
    case measure=>have:=HG.out;have:=HLT.out;omega
    case rel=>exact ⟨j+1,Fj,HLT.out,by go_num,rfl,HR2,KC,KT⟩
   ·have HK:Hid (i.kind=2):=hk
    have t1:=ti_out_eq (.agg #[r])
    have t2:=ti_out_out (.agg #[r])
    obtain ⟨or,cr,hrs⟩:=own_shape hr
    subst hrs
    have HRW:Hid (w0.ownsRow (b0+1) 103 2 (.slice or i.names.length cr) i.names.length (nms N i.names)):=hr
    have XB:Hid (Below wr.heap.size wr (wr.alloc (.cells #[.slice or i.names.length cr] 148))):=(Below.refl _ _).alloc (Nat.le_refl _) _
    have XC:Hid (Cs N w0 (.slice (some ⟨gi,0,none⟩) l.length ci) c b n m Fj X fv qv (wr.alloc (.cells #[.slice or i.names.length cr] 148))):=KC.out.1.below XB.out
    clear hk hr
    go_wp2_with fail
    have KTV:Hid (Kt w (wr.alloc (.cells #[.slice or i.names.length cr] 148))):=KT.out.step XB.out
    clear t1 t2 hv XB
    generalize wr.alloc (.cells #[.slice or i.names.length cr] 148)=V at XC KTV ⊢
    obtain ⟨gn,hgn,hgl⟩:∃gn,or=some ⟨gn,0,none⟩∧gn < w0.heap.size:=by
     have hne:i.names≠[]:=HNE.out HK.out
     rcases HRW.out.2 with ⟨e,e'⟩ | ⟨g,cap,cur,e,_,hgg,_⟩
     ·exact absurd (List.length_eq_zero_iff.1 e') hne
     ·injection e with e1 e2 e3
      exact ⟨g,e1,lt_of_heap hgg⟩
    subst hgn
    have HFJ:Hid (Fit' m Fj):=fun x k hx=>by
     obtain ⟨q,e1,e2⟩:=HFIT.out x k hx
     exact ⟨q,e1,by rw [KC.out.2];exact e2⟩
    refine (markOutputs_cs N XC.out HE.out HFJ.out i.names HSH.out.1 (by have:=HSH.out.2;omega) gn 0 cr hgl (names_at HRW.out (Below.refl _ _))).mono ?_
    rintro E w1 ⟨hb1,(⟨hn,rfl,hC1,hT1⟩ | ⟨p,d,hn,rfl,hd⟩)⟩
    ·have HR2:Hid (reso m F l=reso m (markAll m Fj i.names).2 (l.drop (j+1))):=by
      show _=_
      rw [HD.out,reso,if_neg (by have:=HK.out;omega),if_pos HK.out,if_neg (by rw [hn];decide)]
     have HC1:Hid (Cs N w0 (.slice (some ⟨gi,0,none⟩) l.length ci) c b n m (markAll m Fj i.names).2 X fv qv w1∧(markAll m Fj i.names).2.length=F.length):=⟨hC1,(markAll_len m i.names Fj).trans KC.out.2⟩
     have HT1:Hid (Kt w w1):=KTV.out.trans hT1
     clear hC1 hn hb1 hT1
     go_wp2
     go_roundg (l.length - (j+1))
     case measure=>have:=HG.out;have:=HLT.out;omega
     case rel=>exact ⟨j+1,(markAll m Fj i.names).2,HLT.out,by go_num,rfl,HR2,HC1,HT1⟩
    ·have HP:Hid ((reso m F l).1=some p):=by
      show _=_
      rw [HD.out,reso,if_neg (by have:=HK.out;omega),if_pos HK.out,if_pos (by rw [hn];rfl),hn]
     have HB1:Hid (Below w0.heap.size w0 w1):=hb1
     have HDG:Hid (Dg a w1 d ((N:Int) - (p:Nat)) 6):=hd
     clear hb1 hd hn
     go_wp2
     go_ret
     exact ⟨HB1.out,Or.inr ⟨p,d,HP.out,rfl,HDG.out⟩⟩
   ·have HK:Hid (i.kind=3):=hk
    have HW:Hid (Mil.wf (Mip.er i.body) false):=by
     rcases HOK.out with ⟨e,_⟩ | ⟨e,_⟩ | ⟨_,e,_,e'⟩
     ·have:=HK.out;omega
     ·have:=HK.out;omega
     ·exact e'
    obtain ⟨T,y,hev⟩:=ev_iface N i.body HW.out
    have HEV:Hid (ev N i.body=.iface T y):=hev
    rw [hev] at hv
    have t1:=ti_eq_eq (.agg #[.int .i64 ((N:Int) - (i.at_:Nat)),.string (bs i.nm),.int .i64 (i.ty:Nat),.iface T y])
    have XB:Hid (Below wr.heap.size wr (wr.alloc (.cells #[.int .i64 ((N:Int) - (i.at_:Nat)),.string (bs i.nm),.int .i64 (i.ty:Nat),.iface T y] 107))):=(Below.refl _ _).alloc (Nat.le_refl _) _
    have XC:Hid (Cs N w0 (.slice (some ⟨gi,0,none⟩) l.length ci) c b n m Fj X fv qv (wr.alloc (.cells #[.int .i64 ((N:Int) - (i.at_:Nat)),.string (bs i.nm),.int .i64 (i.ty:Nat),.iface T y] 107))):=KC.out.1.below XB.out
    clear hk hev
    go_wp2_with fail
    have KTV:Hid (Kt w (wr.alloc (.cells #[.int .i64 ((N:Int) - (i.at_:Nat)),.string (bs i.nm),.int .i64 (i.ty:Nat),.iface T y] 107))):=KT.out.step XB.out
    clear t1 hv XB
    generalize wr.alloc (.cells #[.int .i64 ((N:Int) - (i.at_:Nat)),.string (bs i.nm),.int .i64 (i.ty:Nat),.iface T y] 107)=V at XC KTV ⊢
    have RC1:=resolveIn_any N a c b n m i.body HW.out V (XC.out.nm HE.out)
    rw [HEV.out] at RC1
    refine RC1.mono ?_
    rintro E w1 ⟨hb1,(⟨hn,rfl⟩ | ⟨p,d,hn,rfl,hd⟩)⟩
    ·have HR2:Hid (reso m F l=reso m Fj (l.drop (j+1))):=by
      show _=_
      rw [HD.out,reso,if_pos HK.out,if_neg (by rw [hn];decide)]
     have HC1:Hid (Cs N w0 (.slice (some ⟨gi,0,none⟩) l.length ci) c b n m Fj X fv qv w1∧Fj.length=F.length):=⟨XC.out.below hb1,KC.out.2⟩
     have HT1:Hid (Kt w w1):=KTV.out.step hb1
     clear hn hb1 RC1
     go_wp2
     go_roundg (l.length - (j+1))
     case measure=>have:=HG.out;have:=HLT.out;omega
     case rel=>exact ⟨j+1,Fj,HLT.out,by go_num,rfl,HR2,HC1,HT1⟩
    ·have HP:Hid ((reso m F l).1=some p):=by
      show _=_
      rw [HD.out,reso,if_pos HK.out,if_pos (by rw [hn];rfl),hn]
     have HB1:Hid (Below w0.heap.size w0 w1):=below_step XC.out.blw hb1
     have HDG:Hid (Dg a w1 d ((N:Int) - (p:Nat)) 6):=hd
     clear hb1 hd hn RC1
     go_wp2
     go_ret
     exact ⟨HB1.out,Or.inr ⟨p,d,HP.out,rfl,HDG.out⟩⟩
  ·have hle:(l.length:Int)≤(j:Int):=by omega
   have HJ:Hid (j=l.length):=by show _=_;omega
   go_wp2
   go_ret
   have e1:reso m F l=(none,Fj):=by rw [KD.out,HJ.out,List.drop_length];rfl
   exact ⟨KC.out.1.blw,Or.inl ⟨by rw [e1],rfl,by rw [e1];exact ⟨KC.out.1,KT.out⟩⟩⟩
end
section
def perAt (F:List Flo) (i:Nat):Nat:=(F[i]?.map Flo.per).getD 0
def setPer (F:List Flo) (i p:Nat):List Flo:=F.modify i fun f=>{ f with per:=p }
theorem perAt_of {F:List Flo} {i:Nat} {f:Flo} (h:F[i]?=some f):perAt F i=f.per:=by rw [perAt,h];rfl
theorem setPer_len (F:List Flo) (i p:Nat):(setPer F i p).length=F.length:=by simp [setPer]
theorem setPer_at {F:List Flo} {i p j:Nat} {f:Flo} (h:(setPer F i p)[j]?=some f):∃f0,F[j]?=some f0∧f=if i=j then { f0 with per:=p } else f0:=by
 unfold setPer at h
 rw [List.getElem?_modify] at h
 cases hf:F[j]? with
 | none=>rw [hf] at h;simp at h
 | some f0=>
  rw [hf] at h
  refine ⟨f0,rfl,?_⟩
  split at h
  ·rename_i e;rw [if_pos e];simpa using h.symm
  ·rename_i e;rw [if_neg e];simpa using h.symm
theorem setPer_get {F:List Flo} {i p j:Nat} {f0:Flo} (h:F[j]?=some f0):(setPer F i p)[j]?=some (if i=j then { f0 with per:=p } else f0):=by
 unfold setPer
 rw [List.getElem?_modify,h]
 split <;> rfl
theorem perAt_set_same {F:List Flo} {i p:Nat} (h:i < F.length):perAt (setPer F i p) i=p:=by
 have e:=setPer_get (i:=i) (p:=p) (List.getElem?_eq_getElem h)
 rw [if_pos rfl] at e
 rw [perAt_of e]
theorem perAt_set_other {F:List Flo} {i p j:Nat} (h:i≠j):perAt (setPer F i p) j=perAt F j:=by
 unfold perAt setPer
 rw [List.getElem?_modify]
 simp [h]
def once (m:Mil.Bytes→Option Int):List Nq→List Flo→Bool→List Flo×Bool
 | [],F,more=>(F,more)
 | q::r,F,more=>if perAt F q.flow=0 then once m r (setPer F q.flow (Mip.perOf m F q.body)) (more || Mip.perOf m F q.body != 0) else once m r F more
theorem once_drop (m:Mil.Bytes→Option Int) {Q:List Nq} {F:List Flo} {more:Bool} {j:Nat} {q:Nq} (h:Q[j]?=some q):once m (Q.drop j) F more=if perAt F q.flow=0 then once m (Q.drop (j+1)) (setPer F q.flow (Mip.perOf m F q.body)) (more || Mip.perOf m F q.body != 0) else once m (Q.drop (j+1)) F more:=by
 obtain ⟨hj,rfl⟩:=List.getElem?_eq_some_iff.1 h
 rw [List.drop_eq_getElem_cons hj];rfl
structure Alike (F F':List Flo):Prop where
 len:F'.length=F.length
 at_:∀(i:Nat) (f:Flo),F[i]?=some f→∃f':Flo,F'[i]?=some f'∧f'.inp=f.inp∧f'.out=f.out∧f'.ty=f.ty∧f'.nm=f.nm∧(f.per≠0→f'.per=f.per)
theorem Alike.refl (F:List Flo):Alike F F:=⟨rfl,fun _ f h=>⟨f,h,rfl,rfl,rfl,rfl,fun _=>rfl⟩⟩
theorem Alike.trans {F G H:List Flo} (h:Alike F G) (k:Alike G H):Alike F H:=by
 refine ⟨k.len.trans h.len,fun i f hf=>?_⟩
 obtain ⟨g,g1,g2,g3,g4,g5,g6⟩:=h.at_ i f hf
 obtain ⟨f',e1,e2,e3,e4,e5,e6⟩:=k.at_ i g g1
 exact ⟨f',e1,e2.trans g2,e3.trans g3,e4.trans g4,e5.trans g5,fun h0=>(e6 (by rw [g6 h0];exact h0)).trans (g6 h0)⟩
theorem alike_set {F:List Flo} {i p:Nat} (h:perAt F i=0):Alike F (setPer F i p):=by
 refine ⟨setPer_len _ _ _,fun j f hf=>⟨_,setPer_get hf,?_⟩⟩
 by_cases e:i=j
 ·rw [if_pos e]
  refine ⟨rfl,rfl,rfl,rfl,fun h0=>?_⟩
  rw [e,perAt_of hf] at h
  exact absurd h h0
 ·rw [if_neg e]
  exact ⟨rfl,rfl,rfl,rfl,fun _=>rfl⟩
theorem once_alike (m:Mil.Bytes→Option Int):∀(Q:List Nq) (F:List Flo) (b:Bool),Alike F (once m Q F b).1
 | [],F,b=>Alike.refl F
 | q::r,F,b=>by
  rw [once]
  split
  ·exact (alike_set (by assumption)).trans (once_alike m r _ _)
  ·exact once_alike m r F b
theorem Alike.perAt {F G:List Flo} (h:Alike F G) {i:Nat} (hi:perAt F i≠0):perAt G i=perAt F i:=by
 cases hf:F[i]? with
 | none=>unfold Go.Proofs.YticbokabjhnagaaGreatDoor.perAt at hi;rw [hf] at hi;exact absurd rfl hi
 | some f=>
  obtain ⟨g,g1,_,_,_,_,g6⟩:=h.at_ i f hf
  rw [perAt_of hf] at hi ⊢
  rw [perAt_of g1]
  exact g6 hi
theorem once_more (m:Mil.Bytes→Option Int):∀(Q:List Nq) (F:List Flo) (b:Bool),(∀q∈Q,q.flow < F.length)→(once m Q F b).2=true→b=true∨∃q∈Q,perAt F q.flow=0∧perAt (once m Q F b).1 q.flow≠0
 | [],F,b,_,h=>Or.inl h
 | q::r,F,b,hl,h=>by
  rw [once] at h ⊢
  by_cases h0:perAt F q.flow=0
  ·rw [if_pos h0] at h ⊢
   by_cases hp:Mip.perOf m F q.body=0
   ·have hset:∀j,perAt (setPer F q.flow (Mip.perOf m F q.body)) j=perAt F j:=fun j=>by
     by_cases e:q.flow=j
     ·rw [←e,perAt_set_same (hl q (by simp)),hp,h0]
     ·exact perAt_set_other e
    rcases once_more m r _ _ (fun q' hq'=>by rw [setPer_len];exact hl q' (by simp [hq'])) h with h1 | ⟨q',h1,h2,h3⟩
    ·rw [hp] at h1
     left
     simpa using h1
    ·right
     exact ⟨q',by simp [h1],by rw [←hset];exact h2,h3⟩
   ·right
    refine ⟨q,by simp,h0,?_⟩
    have e1:perAt (setPer F q.flow (Mip.perOf m F q.body)) q.flow=Mip.perOf m F q.body:=perAt_set_same (hl q (by simp))
    rw [(once_alike m r _ _).perAt (by rw [e1];exact hp),e1]
    exact hp
  ·rw [if_neg h0] at h ⊢
   rcases once_more m r F b (fun q' hq'=>hl q' (by simp [hq'])) h with h1 | ⟨q',h1,h2,h3⟩
   ·exact Or.inl h1
   ·exact Or.inr ⟨q',by simp [h1],h2,h3⟩
def opn (Q:List Nq) (F:List Flo):Nat:=(Q.filter fun q=>perAt F q.flow==0).length
theorem opn_less (m:Mil.Bytes→Option Int) (Q:List Nq) (F:List Flo) (hl:∀q∈Q,q.flow < F.length) (h:(once m Q F false).2=true):opn Q (once m Q F false).1 < opn Q F:=by
 rcases once_more m Q F false hl h with h1 | ⟨q,h1,h2,h3⟩
 ·cases h1
 ·have e1:Q.filter (fun q=>perAt (once m Q F false).1 q.flow==0)=(Q.filter fun q=>perAt F q.flow==0).filter (fun q=>perAt (once m Q F false).1 q.flow==0):=by
   rw [List.filter_filter]
   apply List.filter_congr
   intro x _
   by_cases hx:perAt F x.flow=0
   ·simp [hx]
   ·rw [(once_alike m Q F false).perAt hx];simp
  unfold opn
  rw [e1]
  refine Nat.lt_of_le_of_ne (List.length_filter_le _ _) (fun e=>?_)
  have h4:=(List.length_filter_eq_length_iff.1 e) q (List.mem_filter.2 ⟨h1,by simp [h2]⟩)
  exact h3 (by simpa using h4)
def rnds (m:Mil.Bytes→Option Int) (Q:List Nq):Nat→List Flo→List Flo
 | 0,F=>F
 | k+1,F=>if (once m Q F false).2 then rnds m Q k (once m Q F false).1 else (once m Q F false).1
theorem rnds_alike (m:Mil.Bytes→Option Int) (Q:List Nq):∀(k:Nat) (F:List Flo),Alike F (rnds m Q k F)
 | 0,F=>Alike.refl F
 | k+1,F=>by
  rw [rnds]
  split
  ·exact (once_alike m Q F false).trans (rnds_alike m Q k _)
  ·exact once_alike m Q F false
theorem once_le (m:Mil.Bytes→Option Int):∀(Q:List Nq) (F:List Flo) (b:Bool),(∀f∈F,f.per≤1000000)→∀f∈(once m Q F b).1,f.per≤1000000
 | [],F,b,h=>h
 | q::r,F,b,h=>by
  rw [once]
  split
  ·refine once_le m r _ _ (fun f hf=>?_)
   obtain ⟨j,hj⟩:=List.getElem?_of_mem hf
   obtain ⟨f0,e0,rfl⟩:=setPer_at hj
   split
   ·exact Mip.perOf_le m F h q.body
   ·exact h f0 (List.mem_of_getElem? e0)
  ·exact once_le m r F b h
theorem rnds_le (m:Mil.Bytes→Option Int) (Q:List Nq):∀(k:Nat) (F:List Flo),(∀f∈F,f.per≤1000000)→∀f∈rnds m Q k F,f.per≤1000000
 | 0,F,h=>h
 | k+1,F,h=>by
  rw [rnds]
  split
  ·exact rnds_le m Q k _ (once_le m Q F false h)
  ·exact once_le m Q F false h
theorem Fq.alike {m:Mil.Bytes→Option Int} {F G:List Flo} {Q:List Nq} (h:Fq m F Q) (k:Alike F G) (hle:∀f∈G,f.per≤1000000):Fq m G Q:=by
 have back:∀(i:Nat) (g:Flo),G[i]?=some g→∃f:Flo,F[i]?=some f∧g.inp=f.inp∧g.ty=f.ty∧(f.per≠0→g.per=f.per):=fun i g hg=>by
  have hi:i < F.length:=by rw [←k.len];exact (List.getElem?_eq_some_iff.1 hg).1
  obtain ⟨g',e1,e2,e3,e4,e5,e6⟩:=k.at_ i _ (List.getElem?_eq_getElem hi)
  rw [hg] at e1
  obtain rfl:=Option.some.inj e1
  exact ⟨_,List.getElem?_eq_getElem hi,e2,e4,e6⟩
 refine ⟨fun x i hx=>?_,fun q hq=>?_,fun i g hg hi=>?_,h.up,fun g hg hi=>?_,hle,fun g hg=>?_,h.wf⟩
 ·obtain ⟨j,e1,e2⟩:=h.fit x i hx
  exact ⟨j,e1,by rw [k.len];exact e2⟩
 ·obtain ⟨f,e1,e2⟩:=h.eqf q hq
  obtain ⟨g,g1,g2,_⟩:=k.at_ _ f e1
  exact ⟨g,g1,g2.trans e2⟩
 ·obtain ⟨f,e1,e2,_⟩:=back i g hg
  exact h.fe i f e1 (e2.symm.trans hi)
 ·obtain ⟨j,hj⟩:=List.getElem?_of_mem hg
  obtain ⟨f,e1,e2,_,e4⟩:=back j g hj
  have:=h.inp f (List.mem_of_getElem? e1) (e2.symm.trans hi)
  rw [e4 (by omega)]
  exact this
 ·obtain ⟨j,hj⟩:=List.getElem?_of_mem hg
  obtain ⟨f,e1,_,e3,_⟩:=back j g hj
  rw [e3]
  exact h.ty f (List.mem_of_getElem? e1)
theorem mark_alike (F:List Flo) (k:Nat):∀(i:Nat) (f:Flo),F[i]?=some f→∃f':Flo,(mark F k)[i]?=some f'∧f'.inp=f.inp∧f'.ty=f.ty∧f'.per=f.per:=fun i f hf=>by
 unfold mark
 rw [List.getElem?_modify,hf]
 by_cases e:k=i
 ·simp [e]
 ·simp [e]
theorem markAll_keeps (m:Mil.Bytes→Option Int):∀(l:List (Mil.Bytes×Nat)) (F:List Flo),(markAll m F l).2.length=F.length∧∀(i:Nat) (f:Flo),F[i]?=some f→∃f':Flo,(markAll m F l).2[i]?=some f'∧f'.inp=f.inp∧f'.ty=f.ty∧f'.per=f.per
 | [],F=>⟨rfl,fun _ f h=>⟨f,h,rfl,rfl,rfl⟩⟩
 | x::r,F=>by
  rw [markAll]
  cases m x.1 with
  | none=>exact ⟨rfl,fun _ f h=>⟨f,h,rfl,rfl,rfl⟩⟩
  | some k=>
   obtain ⟨h1,h2⟩:=markAll_keeps m r (mark F k.toNat)
   refine ⟨h1.trans (mark_len _ _),fun i f hf=>?_⟩
   obtain ⟨f1,a1,a2,a3,a4⟩:=mark_alike F k.toNat i f hf
   obtain ⟨f2,b1,b2,b3,b4⟩:=h2 i f1 a1
   exact ⟨f2,b1,b2.trans a2,b3.trans a3,b4.trans a4⟩
theorem reso_keeps (m:Mil.Bytes→Option Int):∀(l:List Mip.It) (F:List Flo),(reso m F l).2.length=F.length∧∀(i:Nat) (f:Flo),F[i]?=some f→∃f':Flo,(reso m F l).2[i]?=some f'∧f'.inp=f.inp∧f'.ty=f.ty∧f'.per=f.per
 | [],F=>⟨rfl,fun _ f h=>⟨f,h,rfl,rfl,rfl⟩⟩
 | x::r,F=>by
  rw [reso]
  split
  ·split
   ·exact ⟨rfl,fun _ f h=>⟨f,h,rfl,rfl,rfl⟩⟩
   ·exact reso_keeps m r F
  ·split
   ·split
    ·exact ⟨rfl,fun _ f h=>⟨f,h,rfl,rfl,rfl⟩⟩
    ·obtain ⟨h1,h2⟩:=markAll_keeps m x.names F
     obtain ⟨k1,k2⟩:=reso_keeps m r (markAll m F x.names).2
     refine ⟨k1.trans h1,fun i f hf=>?_⟩
     obtain ⟨f1,a1,a2,a3,a4⟩:=h2 i f hf
     obtain ⟨f2,b1,b2,b3,b4⟩:=k2 i f1 a1
     exact ⟨f2,b1,b2.trans a2,b3.trans a3,b4.trans a4⟩
   ·exact reso_keeps m r F
theorem Fq.kept {m:Mil.Bytes→Option Int} {F G:List Flo} {Q:List Nq} (h:Fq m F Q) (hl:G.length=F.length) (k:∀(i:Nat) (f:Flo),F[i]?=some f→∃f':Flo,G[i]?=some f'∧f'.inp=f.inp∧f'.ty=f.ty∧f'.per=f.per):Fq m G Q:=by
 have back:∀(i:Nat) (g:Flo),G[i]?=some g→∃f:Flo,F[i]?=some f∧g.inp=f.inp∧g.ty=f.ty∧g.per=f.per:=fun i g hg=>by
  have hi:i < F.length:=by rw [←hl];exact (List.getElem?_eq_some_iff.1 hg).1
  obtain ⟨g',e1,e2,e3,e4⟩:=k i _ (List.getElem?_eq_getElem hi)
  rw [hg] at e1
  obtain rfl:=Option.some.inj e1
  exact ⟨_,List.getElem?_eq_getElem hi,e2,e3,e4⟩
 refine ⟨fun x i hx=>?_,fun q hq=>?_,fun i g hg hi=>?_,h.up,fun g hg hi=>?_,fun g hg=>?_,fun g hg=>?_,h.wf⟩
 ·obtain ⟨j,e1,e2⟩:=h.fit x i hx
  exact ⟨j,e1,by rw [hl];exact e2⟩
 ·obtain ⟨f,e1,e2⟩:=h.eqf q hq
  obtain ⟨g,g1,g2,_⟩:=k _ f e1
  exact ⟨g,g1,g2.trans e2⟩
 ·obtain ⟨f,e1,e2,_⟩:=back i g hg
  exact h.fe i f e1 (e2.symm.trans hi)
 ·obtain ⟨j,hj⟩:=List.getElem?_of_mem hg
  obtain ⟨f,e1,e2,_,e4⟩:=back j g hj
  rw [e4]
  exact h.inp f (List.mem_of_getElem? e1) (e2.symm.trans hi)
 ·obtain ⟨j,hj⟩:=List.getElem?_of_mem hg
  obtain ⟨f,e1,_,_,e4⟩:=back j g hj
  rw [e4]
  exact h.per f (List.mem_of_getElem? e1)
 ·obtain ⟨j,hj⟩:=List.getElem?_of_mem hg
  obtain ⟨f,e1,_,e3,_⟩:=back j g hj
  rw [e3]
  exact h.ty f (List.mem_of_getElem? e1)
namespace Mip
def nds (m:Mil.Bytes→Option Int):E→List Nat
 | .nil=>[]
 | .node t _ x a b=>if t=3 then [((m x.1).getD 0).toNat] else if t=7∨t=9 then [] else nds m a++nds m b
end Mip
def ndf (m:Mil.Bytes→Option Int) (Q:List Nq) (k:Nat):List Nat:=((Q.find? fun q=>q.flow==k).map fun q=>Mip.nds m q.body).getD []
def part (F:List Flo) (Q:List Nq) (p:Nat):List Nq:=Q.filter fun q=>perAt F q.flow==p
theorem flows_nodup {l:List Nat} (h:l.Pairwise (· < ·)):l.Nodup:=h.imp (fun e=>Nat.ne_of_lt e)
end
end Go.Proofs.YticbokabjhnagaaGreatDoor
