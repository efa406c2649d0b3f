import Derived.Test.YticbokabjhnagaaGreatDoorW04
import Derived.Test.YticbokabjhnagaaGreatDoorW06
import Derived.Deep.RegionHeld3
namespace Go.Proofs.YticbokabjhnagaaGreatDoor
set_option maxHeartbeats 32000000
section
open Go.RowKit
theorem Rd.set2 {w:World} {b:Nat} {s:ByteArray} {p n:Nat} {k tp:Int} {x:ByteArray} {v:Int} (h:Rd w b s p n k tp x v):Rd (w.setCell ⟨b,2,none⟩ (.int .i64 ((n:Int)+1))) b s p (n+1) k tp x v:=by
 have fr:∀o,(w.setCell ⟨b,2,none⟩ (.int .i64 ((n:Int)+1))).frozen? ⟨b,o,none⟩=false:=fun o=>by simp [h.fz]
 have oth:∀o,o≠2→(w.setCell ⟨b,2,none⟩ (.int .i64 ((n:Int)+1))).cell? ⟨b,o,none⟩=w.cell? ⟨b,o,none⟩:=fun o ho=>World.cell?_setCell_other _ ⟨b,2,none⟩ ⟨b,o,none⟩ _ (fun e=>ho (by cases e;rfl))
 have c2:(w.setCell ⟨b,2,none⟩ (.int .i64 ((n:Int)+1))).cell? ⟨b,2,none⟩=some (.int .i64 ((n+1:Nat):Int)):=by
  rw [show ((n+1:Nat):Int)=(n:Int)+1 from by omega];exact World.cell?_setCell_same _ _ _ h.c2
 exact ⟨(oth 0 (by decide)).trans h.c0,(oth 1 (by decide)).trans h.c1,c2,(oth 3 (by decide)).trans h.c3,(oth 4 (by decide)).trans h.c4,(oth 5 (by decide)).trans h.c5,(oth 6 (by decide)).trans h.c6,fr⟩
theorem Rd.tok4 {w:World} {b:Nat} {s:ByteArray} {p n:Nat} {k tp:Int} {x:ByteArray} {v:Int} (h:Rd w b s p n k tp x v) (k' tp':Int) (x':ByteArray) (v':Int) :
  Rd ((((w.setCell ⟨b,3,none⟩ (.int .i64 k')).setCell ⟨b,4,none⟩ (.int .i64 tp')).setCell ⟨b,5,none⟩ (.string x')).setCell ⟨b,6,none⟩ (.int .i64 v')) b s p n k' tp' x' v':=by
 have ne:∀{i j:Nat},i≠j→(⟨b,i,none⟩:Addr)≠⟨b,j,none⟩:=fun h e=>h (by cases e;rfl)
 have oth:∀{W:World} {u:Value} (i o:Nat),i≠o→(W.setCell ⟨b,i,none⟩ u).cell? ⟨b,o,none⟩=W.cell? ⟨b,o,none⟩:=fun i o hio=>World.cell?_setCell_other _ ⟨b,i,none⟩ ⟨b,o,none⟩ _ (ne hio)
 have all:∀o,o≠3→o≠4→o≠5→o≠6→((((w.setCell ⟨b,3,none⟩ (.int .i64 k')).setCell ⟨b,4,none⟩ (.int .i64 tp')).setCell ⟨b,5,none⟩ (.string x')).setCell ⟨b,6,none⟩ (.int .i64 v')).cell? ⟨b,o,none⟩=w.cell? ⟨b,o,none⟩:=fun o h3 h4 h5 h6=>by
  rw [oth 6 o (Ne.symm h6),oth 5 o (Ne.symm h5),oth 4 o (Ne.symm h4),oth 3 o (Ne.symm h3)]
 refine ⟨(all 0 (by decide) (by decide) (by decide) (by decide)).trans h.c0,(all 1 (by decide) (by decide) (by decide) (by decide)).trans h.c1,(all 2 (by decide) (by decide) (by decide) (by decide)).trans h.c2,?_,?_,?_,?_,fun o=>by simp [h.fz]⟩
 ·rw [oth 6 3 (by decide),oth 5 3 (by decide),oth 4 3 (by decide)];exact World.cell?_setCell_same _ _ _ h.c3
 ·rw [oth 6 4 (by decide),oth 5 4 (by decide)];exact World.cell?_setCell_same (w.setCell ⟨b,3,none⟩ (.int .i64 k')) _ _ ((oth 3 4 (by decide)).trans h.c4)
 ·rw [oth 6 5 (by decide)];exact World.cell?_setCell_same ((w.setCell ⟨b,3,none⟩ (.int .i64 k')).setCell ⟨b,4,none⟩ (.int .i64 tp')) _ _ (((oth 4 5 (by decide)).trans (oth 3 5 (by decide))).trans h.c5)
 ·exact World.cell?_setCell_same (((w.setCell ⟨b,3,none⟩ (.int .i64 k')).setCell ⟨b,4,none⟩ (.int .i64 tp')).setCell ⟨b,5,none⟩ (.string x')) _ _ ((((oth 5 6 (by decide)).trans (oth 4 6 (by decide))).trans (oth 3 6 (by decide))).trans h.c6)
theorem while_len (f:UInt8→Bool):∀l:Mil.Bytes,(l.takeWhile f).length≤l.length
 | []=>Nat.le_refl _
 | c::r=>by
  rw [List.takeWhile_cons]
  have:=while_len f r
  split <;> simp <;> omega
theorem skip_len:∀(f:Bool) (l:Mil.Bytes),(Mil.skip f l).length≤l.length
 | true,[]=>Nat.le_refl _
 | false,[]=>Nat.le_refl _
 | true,c::r=>by
  rw [Mil.skip]
  have:=skip_len true r
  have:=skip_len false r
  split <;> simp <;> omega
 | false,c::r=>by
  rw [Mil.skip]
  have:=skip_len true r
  have:=skip_len false r
  split
  ·simp;omega
  ·split
   ·simp;omega
   ·exact Nat.le_refl _
theorem cut_len {l:Mil.Bytes} {t:Mil.Tok} {r:Mil.Bytes} (h:Mil.cut l=some (t,r)):t.txt.length≤l.length:=by
 cases l with
 | nil=>
  obtain ⟨rfl,rfl⟩:=Prod.mk.inj (Option.some.inj h)
  exact Nat.zero_le _
 | cons c q=>
  rw [cut_cons] at h
  by_cases hl:Mil.isL c=true
  ·rw [if_pos hl] at h
   unfold Mil.cutName at h
   split at h
   ·cases h
   ·obtain ⟨rfl,rfl⟩:=Prod.mk.inj (Option.some.inj h)
    have:=while_len Mil.isN (c::q)
    split
    ·exact this
    ·exact this
  ·rw [if_neg hl] at h
   by_cases hd:Mil.isD c=true
   ·rw [if_pos hd] at h
    unfold Mil.cutNum at h
    split at h
    ·split at h
     ·cases h
     ·obtain ⟨rfl,rfl⟩:=Prod.mk.inj (Option.some.inj h)
      exact while_len Mil.isD (c::q)
    ·cases h
   ·rw [if_neg hd] at h
    unfold Mil.cutSign at h
    split at h
    ·rename_i x hf
     obtain ⟨rfl,rfl⟩:=Prod.mk.inj (Option.some.inj h)
     have hfx:List.isPrefixOf x (c::q)=true:=List.find?_some (p:=fun x=>List.isPrefixOf x (c::q)) hf
     exact (List.isPrefixOf_iff_prefix.1 hfx).length_le
    ·cases h
theorem while_whole (f:UInt8→Bool):∀l:Mil.Bytes,(l.takeWhile f).length+(l.dropWhile f).length=l.length
 | []=>rfl
 | c::r=>by
  rw [List.takeWhile_cons,List.dropWhile_cons]
  have:=while_whole f r
  split
  ·simp;omega
  ·simp
theorem cut_whole {l:Mil.Bytes} {t:Mil.Tok} {r:Mil.Bytes} (h:Mil.cut l=some (t,r)):t.txt.length+r.length=l.length:=by
 cases l with
 | nil=>
  obtain ⟨rfl,rfl⟩:=Prod.mk.inj (Option.some.inj h)
  rfl
 | cons c q=>
  rw [cut_cons] at h
  by_cases hl:Mil.isL c=true
  ·rw [if_pos hl] at h
   unfold Mil.cutName at h
   split at h
   ·cases h
   ·obtain ⟨rfl,rfl⟩:=Prod.mk.inj (Option.some.inj h)
    have:=while_whole Mil.isN (c::q)
    split
    ·exact this
    ·exact this
  ·rw [if_neg hl] at h
   by_cases hd:Mil.isD c=true
   ·rw [if_pos hd] at h
    unfold Mil.cutNum at h
    split at h
    ·split at h
     ·cases h
     ·obtain ⟨rfl,rfl⟩:=Prod.mk.inj (Option.some.inj h)
      exact while_whole Mil.isD (c::q)
    ·cases h
   ·rw [if_neg hd] at h
    unfold Mil.cutSign at h
    split at h
    ·rename_i x hf
     obtain ⟨rfl,rfl⟩:=Prod.mk.inj (Option.some.inj h)
     have hfx:List.isPrefixOf x (c::q)=true:=List.find?_some (p:=fun x=>List.isPrefixOf x (c::q)) hf
     have:=(List.isPrefixOf_iff_prefix.1 hfx).length_le
     show x.length+(List.drop x.length (c::q)).length=_
     rw [List.length_drop]
     omega
    ·cases h
def place (n:Nat) (st:Mil.St):Int:=(n:Int) - st.rest.length - st.tok.txt.length
def RdS (w:World) (b:Nat) (s:ByteArray) (st:Mil.St):Prop:=
 ∃p tp x,p≤s.size∧Rd w b s p st.cnt (st.tok.kind:Nat) tp x st.tok.val∧st.rest=s.data.toList.drop p∧x.data.toList=st.tok.txt∧st.cnt≤600∧st.tok.txt.length≤4000∧tp=place s.size st
def Threw (F:Nat→Int→Prop) (a:Nat→Addr) (e:Ending) (w':World):Prop:=∃k at_,(k=1∨k=2∨k=3∨k=4) ∧
 ∃d,e=.panicked [{ v:=.iface 69 (.pointer (some ⟨d,0,none⟩)),recovered:=false }]∧w'.heap[d]?=some (.cells #[.int .i64 at_,errV (a k)] 81 (0,0))∧F k at_
def StPost (r:Option Mil.St) (z:Mil.Rz Mil.St) (a:Nat→Addr) (b:Nat) (s:ByteArray) (w:World) (e:Ending) (w':World):Prop:=
 Kp b w w'∧((∃st,e=.returned (.tuple #[])∧r=some st∧RdS w' b s st)∨Threw (fun k p=>z=.bad k p) a e w')
set_option maxRecDepth 100000 in
theorem advance_raw (a:Nat→Addr) (b:Nat) (s:ByteArray) (p n:Nat) (k tp:Int) (x:ByteArray) (v:Int) (w:World) (L:Laid a w) (hb:23≤b) (h:Rd w b s p n k tp x v) (hp:p≤s.size) (hn:n≤600) (hs:s.size≤4000) :
  Calls Tryz.prog 52 #[.pointer (some ⟨b,0,none⟩)] w (StPost (Mil.adv' (s.data.toList.drop p) n) (Mil.advZ' s.size (s.data.toList.drop p) n) a b s w):=by
 have H:Hid (Rd w b s p n k tp x v):=h
 have HL:Hid (Laid a w):=L
 clear h L
 go_enter Tryz.func52,Tryz.ntmps52
 go_wp2_with fail
 refine (skipBlanks_any b s p n k tp x v w H.out hp hs).mono ?_
 rintro e w1 ⟨rfl,q,hpq,hq,hsk,hR1,hK1⟩
 have HSK:Hid (s.data.toList.drop q=Mil.skip false (s.data.toList.drop p)):=hsk
 have HR1:Hid (Rd w1 b s q n k tp x v):=hR1
 have HK1:Hid (Kp b w w1):=hK1
 have HPQ:Hid ((s.size:Int) - (Mil.skip false (s.data.toList.drop p)).length=q):=by
  have l2:(s.data.toList.drop q).length=s.size - q:=by simp
  show _=_
  rw [←hsk,l2]
  omega
 clear hsk hR1 hK1
 go_wp2_with fail
 refine (cut_any a b s q n k tp x v w1 (HL.out.kept HK1.out hb) hb HR1.out hq hs).mono ?_
 rintro e w2 ⟨hk2,(⟨t,r,xt,rfl,h1,h2,hR2,hc2,hx2⟩ | ⟨⟨d,rfl,hd⟩,hno⟩)⟩
 ·have HR2:Hid (Rd w2 b s r n k tp x v):=hR2
  have HK2:Hid (Kp b w w2):=HK1.out.trans hk2
  have HC2:Hid (Mil.cut (Mil.skip false (s.data.toList.drop p))=some (t,s.data.toList.drop r)):=by rw [←HSK.out];exact hc2
  have HTL:Hid (t.txt.length≤4000):=by
   have l1:=cut_len HC2.out
   have l2:=skip_len false (s.data.toList.drop p)
   have l3:(s.data.toList.drop p).length≤4000:=by simp;omega
   show _≤_;omega
  have HPL:Hid (∀n',(q:Int)=place s.size ⟨t,s.data.toList.drop r,n'⟩):=by
   intro n'
   have l1:=cut_whole hc2
   have l2:(s.data.toList.drop q).length=s.size - q:=by simp
   rw [l2] at l1
   show (q:Int)=(s.size:Int) - (s.data.toList.drop r).length - t.txt.length
   omega
  have c3:=hR2.c3
  have c4:=hR2.c4
  have c5:=hR2.c5
  have c6:=hR2.c6
  have f3:=hR2.fz 3
  have f4:=hR2.fz 4
  have f5:=hR2.fz 5
  have f6:=hR2.fz 6
  clear hk2 hR2 hc2
  have HR4:Hid (Rd ((((w2.setCell ⟨b,3,none⟩ (.int .i64 (t.kind:Nat))).setCell ⟨b,4,none⟩ (.int .i64 q)).setCell ⟨b,5,none⟩ (.string xt)).setCell ⟨b,6,none⟩ (.int .i64 t.val)) b s r n (t.kind:Nat) q xt t.val):=HR2.out.tok4 _ _ _ _
  have HK4:Hid (Kp b w ((((w2.setCell ⟨b,3,none⟩ (.int .i64 (t.kind:Nat))).setCell ⟨b,4,none⟩ (.int .i64 q)).setCell ⟨b,5,none⟩ (.string xt)).setCell ⟨b,6,none⟩ (.int .i64 t.val))):=(((HK2.out.setCell _ _).setCell _ _).setCell _ _).setCell _ _
  by_cases h0:t.kind=0
  ·obtain ⟨kd,tx,vl⟩:=t
   have h0':kd=0:=h0
   subst h0'
   go_wp2
   go_end0
   refine ⟨HK4.out,Or.inl ⟨⟨⟨0,tx,vl⟩,s.data.toList.drop r,n⟩,rfl,?_,r,q,xt,h2,HR4.out,rfl,hx2,hn,HTL.out,HPL.out n⟩⟩
   unfold Mil.adv'
   rw [HC2.out];rfl
  ·have hb0:(((t.kind:Nat):Int)==0)=false:=by simp;omega
   have HR5:Hid (Rd (((((w2.setCell ⟨b,3,none⟩ (.int .i64 (t.kind:Nat))).setCell ⟨b,4,none⟩ (.int .i64 q)).setCell ⟨b,5,none⟩ (.string xt)).setCell ⟨b,6,none⟩ (.int .i64 t.val)).setCell ⟨b,2,none⟩ (.int .i64 ((n:Int)+1))) b s r (n+1) (t.kind:Nat) q xt t.val):=HR4.out.set2
   have HK5:Hid (Kp b w (((((w2.setCell ⟨b,3,none⟩ (.int .i64 (t.kind:Nat))).setCell ⟨b,4,none⟩ (.int .i64 q)).setCell ⟨b,5,none⟩ (.string xt)).setCell ⟨b,6,none⟩ (.int .i64 t.val)).setCell ⟨b,2,none⟩ (.int .i64 ((n:Int)+1)))):=HK4.out.setCell _ _
   have c2:=HR2.out.c2
   have f2:=HR2.out.fz 2
   have HN0:Hid (t.kind≠0):=h0
   clear h0
   by_cases h6:n=600
   ·have hgt:(600:Int) < (n:Int)+1:=by omega
    have HE:Hid (n=600):=h6
    have hcl:=(HL.out.kept HK5.out hb).long
    have hc4:=HR5.out.c4
    clear h6
    go_wp2
    generalize ((((w2.setCell ⟨b,3,none⟩ (.int .i64 (t.kind:Nat))).setCell ⟨b,4,none⟩ (.int .i64 q)).setCell ⟨b,5,none⟩ (.string xt)).setCell ⟨b,6,none⟩ (.int .i64 t.val)).setCell ⟨b,2,none⟩ (.int .i64 ((n:Int)+1))=w3 at *
    clear c2 c3 c4 c5 c6 f2 f3 f4 f5 f6
    have hpp:∀tm:Array Value,bodyPost Tryz.prog Tryz.f52 (StPost (Mil.adv' (s.data.toList.drop p) n) (Mil.advZ' s.size (s.data.toList.drop p) n) a b s w) (Exit.panic [{ v:=.iface 69 (.pointer (some ⟨w3.heap.size,0,none⟩)),recovered:=false }]) { tmps:=tm,defers:=[] } (w3.alloc (.cells #[.int .i64 q,errV (a 1)] 81)).drew:=by
     intro tm
     refine ⟨rfl,(HK5.out.alloc _).drew,Or.inr ⟨1,q,Or.inl rfl,w3.heap.size,rfl,heap_alloc_new w3 _,?_⟩⟩
     unfold Mil.advZ'
     rw [HC2.out]
     simp only []
     rw [if_neg HN0.out,if_pos (by have:=HE.out;omega),HPQ.out]
    refine wp_region_any (by kernel_rfl) ?_
    change wpAny _ _ _ _ _ _ _ (World.drew _)
    refine wpAny_take (i:=0) (v:=.pointer (some ⟨b,0,none⟩)) rfl (by kernel_rfl) (by kernel_rfl) (by kernel_rfl) (fun _ _ _ h=>h) (Or.inl ⟨by rfl,fun w=>by go_simp⟩) ?_
    refine wpAny_take (i:=1) (v:=.pointer (some ⟨b,0,none⟩)) rfl (by kernel_rfl) (by kernel_rfl) (by kernel_rfl) (fun _ _ _ h=>h) (Or.inl ⟨by rfl,fun w=>by go_simp⟩) ?_
    refine wpAny_take (i:=2) (v:=.pointer (some ⟨b,3,none⟩)) rfl (by kernel_rfl) (by kernel_rfl) (by kernel_rfl) (fun _ _ _ h=>h) (Or.inl ⟨by rfl,fun w=>by go_simp⟩) ?_
    refine wpAny_take (i:=3) (v:=.pointer (some ⟨b,4,none⟩)) rfl (by kernel_rfl) (by kernel_rfl) (by kernel_rfl) (fun _ _ _ h=>h) (Or.inl ⟨by rfl,fun w=>by go_simp⟩) ?_
    refine wpAny_ready (rs:=[4,5]) (by kernel_rfl) (by simp) ?_
    refine AllReady.cons rfl (fun K hK=>?_) (AllReady.cons rfl (fun K hK=>?_) AllReady.nil)
    ·go_simp
     refine hK _ _ ?_
     clear hK K
     refine wpAny_ready (rs:=[5]) (by kernel_rfl) (by simp) ?_
     refine AllReady.cons rfl (fun K hK=>?_) AllReady.nil
     go_simp
     refine hK _ _ ?_
     clear hK K
     refine wpAny_take (i:=6) (v:=.agg #[.int .i64 q,errV (a 1)]) rfl (by kernel_rfl) (by kernel_rfl) (by kernel_rfl) (fun _ _ _ h=>h) (Or.inl ⟨by rfl,fun w=>by go_simp⟩) ?_
     refine wpAny_ready (rs:=[7]) (by kernel_rfl) (by simp) ?_
     refine AllReady.cons rfl (fun K hK=>?_) AllReady.nil
     go_simp
     refine hK _ _ ?_
     clear hK K
     refine wpAny_take (i:=8) (v:=.iface 69 (.pointer (some ⟨w3.heap.size,0,none⟩))) rfl (by kernel_rfl) (by kernel_rfl) (by kernel_rfl) (fun _ _ _ h=>h) (Or.inl ⟨by rfl,fun w=>by go_simp⟩) ?_
     refine wpAny_ready (rs:=[9]) (by kernel_rfl) (by simp) ?_
     refine AllReady.cons rfl (fun K hK=>?_) AllReady.nil
     go_simp
    ·go_simp
     refine hK _ _ ?_
     clear hK K
     refine wpAny_ready (rs:=[4]) (by kernel_rfl) (by simp) ?_
     refine AllReady.cons rfl (fun K hK=>?_) AllReady.nil
     go_simp
     refine hK _ _ ?_
     clear hK K
     refine wpAny_take (i:=6) (v:=.agg #[.int .i64 q,errV (a 1)]) rfl (by kernel_rfl) (by kernel_rfl) (by kernel_rfl) (fun _ _ _ h=>h) (Or.inl ⟨by rfl,fun w=>by go_simp⟩) ?_
     refine wpAny_ready (rs:=[7]) (by kernel_rfl) (by simp) ?_
     refine AllReady.cons rfl (fun K hK=>?_) AllReady.nil
     go_simp
     refine hK _ _ ?_
     clear hK K
     refine wpAny_take (i:=8) (v:=.iface 69 (.pointer (some ⟨w3.heap.size,0,none⟩))) rfl (by kernel_rfl) (by kernel_rfl) (by kernel_rfl) (fun _ _ _ h=>h) (Or.inl ⟨by rfl,fun w=>by go_simp⟩) ?_
     refine wpAny_ready (rs:=[9]) (by kernel_rfl) (by simp) ?_
     refine AllReady.cons rfl (fun K hK=>?_) AllReady.nil
     go_simp
   ·have hle:¬(600:Int) < (n:Int)+1:=by omega
    have HE:Hid (n≠600):=h6
    clear h6
    go_wp2
    go_end0
    refine ⟨HK5.out,Or.inl ⟨⟨t,s.data.toList.drop r,n+1⟩,rfl,?_,r,q,xt,h2,HR5.out,rfl,hx2,by have:=HE.out;show n+1≤600;omega,HTL.out,HPL.out (n+1)⟩⟩
    unfold Mil.adv'
    rw [HC2.out]
    simp only []
    rw [if_neg HN0.out,if_neg (by have:=HE.out;omega)]
 ·go_wp2
  refine ⟨rfl,HK1.out.trans hk2,Or.inr ⟨2,_,Or.inr (Or.inl rfl),d,rfl,hd,?_⟩⟩
  unfold Mil.advZ'
  have hc:Mil.cut (Mil.skip false (s.data.toList.drop p))=none:=by rw [←HSK.out];exact hno
  rw [hc]
  simp only []
  rw [HPQ.out]
theorem advance_any (a:Nat→Addr) (b:Nat) (s:ByteArray) (st:Mil.St) (w:World) (L:Laid a w) (hb:23≤b) (h:RdS w b s st) (hs:s.size≤4000) :
  Calls Tryz.prog 52 #[.pointer (some ⟨b,0,none⟩)] w (StPost (Mil.adv st) (Mil.advZ s.size st) a b s w):=by
 obtain ⟨p,tp,x,hp,hR,hr,_,hn,_⟩:=h
 unfold Mil.adv Mil.advZ
 rw [hr]
 exact advance_raw a b s p st.cnt _ tp x _ w L hb hR hp hn hs
end
section
open Go.RowKit
theorem RdS.kept {w w':World} {b c:Nat} {s:ByteArray} {st:Mil.St} (h:RdS w b s st) (k:Kp c w w') (hc:b≠c):RdS w' b s st:=by
 obtain ⟨p,tp,x,hp,hR,hr,hx,hn⟩:=h
 exact ⟨p,tp,x,hp,hR.kept k hc,hr,hx,hn⟩
theorem refused_at (a:Nat→Addr) (b:Nat) (s:ByteArray) (st:Mil.St) (w:World) (L:Laid a w) (h:RdS w b s st) :
  Calls Tryz.prog 152 #[.pointer (some ⟨b,0,none⟩)] w fun e w'=>∃d,e=.returned (.pointer (some ⟨d,0,none⟩))∧w'.heap[d]?=some (.cells #[.int .i64 (place s.size st),errV (a 3)] 81 (0,0))∧Below w.heap.size w w':=by
 obtain ⟨p,tp,x,hp,hR,hr,hx,hn⟩:=h
 have c4:=hR.c4
 have cs:=L.synt
 have HT:Hid (tp=place s.size st):=hn.2.2
 clear hR L hn hx hr
 go_enter Tryz.func152,Tryz.ntmps152
 go_wp2
 go_region_held3 (fun w'=>w'.cell? ⟨b,4,none⟩=some (.int .i64 tp)∧w'.cell? ⟨5,0,none⟩=some (errV (a 3))) (exact ⟨cell_later (by repeat (first | exact Below.refl _ _ | refine Below.drew ?_ | refine Below.alloc ?_ (by first | (simp;done) | (simp;omega)) _)) c4,cell_later (by repeat (first | exact Below.refl _ _ | refine Below.drew ?_ | refine Below.alloc ?_ (by first | (simp;done) | (simp;omega)) _)) cs⟩) (fail)
 go_wp2
 go_ret
 rw [←HT.out]
 exact ⟨w.heap.size,rfl,heap_alloc_new w _,((Below.refl _ _).alloc (Nat.le_refl _) _).drew⟩
theorem sees_any (b:Nat) (s:ByteArray) (st:Mil.St) (y:ByteArray) (w:World) (h:RdS w b s st) :
  Calls Tryz.prog 122 #[.pointer (some ⟨b,0,none⟩),.string y] w fun e w'=>e=.returned (.bool (Mil.sees st y.data.toList))∧w'=w:=by
 obtain ⟨p,tp,x,hp,hR,hr,hx,hn⟩:=h
 have c3:=hR.c3
 have c5:=hR.c5
 have HX:Hid (x.data.toList=st.tok.txt):=hx
 have hsee:Mil.sees st y.data.toList=(decide (st.tok.kind=3) && (x.toList==y.toList)):=by
  unfold Mil.sees
  rw [Lib.toList_data,Lib.toList_data,HX.out];rfl
 have HS:Hid _:=hsee
 clear hR hx hr hsee
 by_cases h3:st.tok.kind=3
 ·have hb:(((st.tok.kind:Nat):Int)==3)=true:=by simp;omega
  have H3:Hid (st.tok.kind=3):=h3
  clear h3
  go_enter Tryz.func122,Tryz.ntmps122
  go_wp2
  go_ret
  refine ⟨ret_bool ?_,rfl⟩
  rw [HS.out,decide_eq_true H3.out];simp
 ·have hb:(((st.tok.kind:Nat):Int)==3)=false:=by simp;omega
  have H3:Hid (st.tok.kind≠3):=h3
  clear h3
  go_enter Tryz.func122,Tryz.ntmps122
  go_wp2
  go_ret
  refine ⟨ret_bool ?_,rfl⟩
  rw [HS.out,decide_eq_false H3.out];simp
theorem takes_no (b:Nat) (s:ByteArray) (st:Mil.St) (y:ByteArray) (w:World) (h:RdS w b s st) (hn:Mil.sees st y.data.toList=false) :
  Calls Tryz.prog 83 #[.pointer (some ⟨b,0,none⟩),.string y] w fun e w'=>e=.returned (.bool false)∧w'=w:=by
 have H:Hid (RdS w b s st):=h
 have HN:Hid (Mil.sees st y.data.toList=false):=hn
 clear h hn
 go_enter Tryz.func83,Tryz.ntmps83
 go_wp2_with fail
 refine (sees_any b s st y w H.out).mono ?_
 rintro e w' ⟨rfl,rfl⟩
 rw [HN.out]
 go_wp2
 go_ret
 exact ⟨rfl,rfl⟩
def TkPost (st:Mil.St) (a:Nat→Addr) (b:Nat) (s:ByteArray) (w:World) (e:Ending) (w':World):Prop:=
 Kp b w w'∧((∃st',e=.returned (.bool true)∧Mil.adv st=some st'∧RdS w' b s st')∨Threw (fun k p=>Mil.advZ s.size st=.bad k p) a e w')
theorem takes_yes (a:Nat→Addr) (b:Nat) (s:ByteArray) (st:Mil.St) (y:ByteArray) (w:World) (L:Laid a w) (hb:23≤b) (h:RdS w b s st) (hs:s.size≤4000) (hy:Mil.sees st y.data.toList=true) :
  Calls Tryz.prog 83 #[.pointer (some ⟨b,0,none⟩),.string y] w (TkPost st a b s w):=by
 have H:Hid (RdS w b s st):=h
 have HL:Hid (Laid a w):=L
 have HN:Hid (Mil.sees st y.data.toList=true):=hy
 clear h hy L
 go_enter Tryz.func83,Tryz.ntmps83
 go_wp2_with fail
 refine (sees_any b s st y w H.out).mono ?_
 rintro e w' ⟨rfl,rfl⟩
 rw [HN.out]
 go_wp2_with fail
 refine (advance_any a b s st _ HL.out hb H.out hs).mono ?_
 rintro e w1 ⟨hk,(⟨st',rfl,h1,h2⟩ | ⟨k,at_,hkk,d,rfl,hd,hno⟩)⟩
 ·go_wp2
  go_ret
  exact ⟨hk,Or.inl ⟨st',rfl,h1,h2⟩⟩
 ·go_wp2
  exact ⟨rfl,hk,Or.inr ⟨k,at_,hkk,d,rfl,hd,hno⟩⟩
theorem want_any (a:Nat→Addr) (b:Nat) (s:ByteArray) (st:Mil.St) (y:ByteArray) (w:World) (L:Laid a w) (hb:23≤b) (h:RdS w b s st) (hs:s.size≤4000) :
  Calls Tryz.prog 124 #[.pointer (some ⟨b,0,none⟩),.string y] w (StPost (Mil.want st y.data.toList) (Mil.wantZ s.size st y.data.toList) a b s w):=by
 have H:Hid (RdS w b s st):=h
 have HL:Hid (Laid a w):=L
 clear h L
 by_cases hy:Mil.sees st y.data.toList=true
 ·have HW:Hid (Mil.want st y.data.toList=Mil.adv st):=by unfold Mil.want;rw [if_pos hy];rfl
  have HZ:Hid (Mil.wantZ s.size st y.data.toList=Mil.advZ s.size st):=by unfold Mil.wantZ;rw [if_pos hy];rfl
  have HY:Hid _:=hy
  clear hy
  go_enter Tryz.func124,Tryz.ntmps124
  go_wp2_with fail
  refine (takes_yes a b s st y w HL.out hb H.out hs HY.out).mono ?_
  rintro e w1 ⟨hk,(⟨st',rfl,h1,h2⟩ | ⟨k,at_,hkk,d,rfl,hd,hno⟩)⟩
  ·go_wp2
   go_end0
   exact ⟨hk,Or.inl ⟨st',rfl,HW.out.trans h1,h2⟩⟩
  ·go_wp2
   exact ⟨rfl,hk,Or.inr ⟨k,at_,hkk,d,rfl,hd,HZ.out.trans hno⟩⟩
 ·have HZ:Hid (Mil.wantZ s.size st y.data.toList=.bad 3 (place s.size st)):=by unfold Mil.wantZ;rw [if_neg hy];rfl
  have HY:Hid (Mil.sees st y.data.toList=false):=Bool.eq_false_iff.2 hy
  clear hy
  go_enter Tryz.func124,Tryz.ntmps124
  go_wp2_with fail
  refine (takes_no b s st y w H.out HY.out).mono ?_
  rintro e w1 ⟨rfl,rfl⟩
  go_wp2_with fail
  refine (refused_at a b s st _ HL.out H.out).mono ?_
  rintro e w2 ⟨d,rfl,hd,hb2⟩
  go_wp2
  exact ⟨rfl,Kp.of_below hb2,Or.inr ⟨3,_,Or.inr (Or.inr (Or.inl rfl)),d,rfl,hd,HZ.out⟩⟩
end
section
namespace Mil
theorem adv_le {s s1:St} (h:adv s=some s1):mu s1≤mu s:=by
 by_cases hk:s.tok.kind=0
 ·unfold adv adv' at h
  have hsk:=skip_short false s.rest
  unfold mu
  rw [if_pos hk]
  split at h
  ·cases h
  ·rename_i t r hc
   cases hq:skip false s.rest with
   | nil=>
    rw [hq] at hc
    obtain ⟨rfl,rfl⟩:=Prod.mk.inj (Option.some.inj hc)
    rw [if_pos rfl] at h
    obtain rfl:=(Option.some.inj h).symm
    simp
   | cons c q=>
    rw [hq] at hc hsk
    have hr:=cut_short hc
    simp at hsk
    by_cases h0:t.kind=0
    ·rw [if_pos h0] at h
     obtain rfl:=(Option.some.inj h).symm
     simp only [h0,if_true]
     omega
    ·rw [if_neg h0] at h
     split at h
     ·cases h
     ·obtain rfl:=(Option.some.inj h).symm
      simp only [h0,if_false]
      omega
 ·exact Nat.le_of_lt (adv_mu h hk)
def Dn (s:St) (o:Option (E×St)):Prop:=∀x,o=some x→mu x.2≤mu s
def Fd (f:Nat→E→St→Option (E×St)):Prop:=∀t e s,Dn s (f t e s)
theorem dn_adv {s:St} {k:St→Option (E×St)} (h:∀s1,Dn s1 (k s1)):Dn s ((adv s).bind k):=fun x hx=>by
 obtain ⟨s1,h1,h2⟩:=Option.bind_eq_some_iff.1 hx
 exact Nat.le_trans (h s1 x h2) (adv_le h1)
theorem dn_want {s:St} {w:Bytes} {k:St→Option (E×St)} (h:∀s1,Dn s1 (k s1)):Dn s ((want s w).bind k):=fun x hx=>by
 obtain ⟨s1,h1,h2⟩:=Option.bind_eq_some_iff.1 hx
 exact Nat.le_trans (h s1 x h2) (Nat.le_of_lt (want_mu h1))
theorem dn_wantm {s:St} {w:Bytes} {e:E}:Dn s ((want s w).map fun s3=>(e,s3)):=fun x hx=>by
 obtain ⟨s1,h1,rfl⟩:=Option.map_eq_some_iff.1 hx
 exact Nat.le_of_lt (want_mu h1)
theorem dn_const {s:St} {k:E×St→Option (E×St)} (h:∀c,Dn c.2 (k c)):Dn s ((constant s).bind k):=fun x hx=>by
 obtain ⟨c,h1,h2⟩:=Option.bind_eq_some_iff.1 hx
 exact Nat.le_trans (h c x h2) (Nat.le_of_lt (constant_mu h1))
theorem dn_num {s:St} {lo hi:Int} {k:Nat×St→Option (E×St)} (h:∀c,Dn c.2 (k c)):Dn s ((number lo hi s).bind k):=fun x hx=>by
 obtain ⟨c,h1,h2⟩:=Option.bind_eq_some_iff.1 hx
 exact Nat.le_trans (h c x h2) (Nat.le_of_lt (number_mu h1))
theorem dn_f {f:Nat→E→St→Option (E×St)} (hf:Fd f) {t:Nat} {e:E} {s:St} {k:E×St→Option (E×St)} (h:∀c,Dn c.2 (k c)):Dn s ((f t e s).bind k):=fun x hx=>by
 obtain ⟨c,h1,h2⟩:=Option.bind_eq_some_iff.1 hx
 exact Nat.le_trans (h c x h2) (hf t e s c h1)
theorem dn_fm {f:Nat→E→St→Option (E×St)} (hf:Fd f) {t:Nat} {e:E} {s:St} {g:E×St→E}:Dn s ((f t e s).map fun c=>(g c,c.2)):=fun x hx=>by
 obtain ⟨c,h1,rfl⟩:=Option.map_eq_some_iff.1 hx
 exact hf t e s c h1
theorem dn_ite {c:Prop} [Decidable c] {s:St} {a b:Option (E×St)} (h1:Dn s a) (h2:Dn s b):Dn s (if c then a else b):=by
 by_cases h:c
 ·rw [if_pos h];exact h1
 ·rw [if_neg h];exact h2
theorem dn_lit {s:St}:Dn s (literal s):=fun _ h=>Nat.le_of_lt (literal_mu h)
theorem dn_name {s:St}:Dn s ((name s).map fun x=>(eName x.1,x.2)):=fun x hx=>by
 obtain ⟨c,h1,rfl⟩:=Option.map_eq_some_iff.1 hx
 exact Nat.le_of_lt (name_mu h1)
theorem dn_some {s:St} {e:E}:Dn s (some (e,s)):=fun x hx=>by
 obtain rfl:=Option.some.inj hx
 exact Nat.le_refl _
theorem step_mu {f:Nat→E→St→Option (E×St)} (hf:Fd f):Fd (step f):=by
 intro t e s
 unfold step atom
 repeat' first | exact hf _ _ _ | exact dn_lit | exact dn_name | exact dn_wantm | exact dn_fm hf | exact dn_some | refine dn_ite ?_ ?_ | refine dn_adv (fun _=>?_) | refine dn_want (fun _=>?_) | refine dn_const (fun _=>?_) | refine dn_num (fun _=>?_) | refine dn_f hf (fun _=>?_)
theorem px_mu:∀n,Fd (px n)
 | 0=>fun _ _ _ _ h=>by cases h
 | n+1=>step_mu (px_mu n)
theorem ok_mu {t:Nat} {e:E} {s:St} {x:E×St} (h:Ok t e s x):mu x.2≤mu s:=by
 obtain ⟨n,hn⟩:=h
 exact px_mu n t e s x hn
end Mil
end
end Go.Proofs.YticbokabjhnagaaGreatDoor
