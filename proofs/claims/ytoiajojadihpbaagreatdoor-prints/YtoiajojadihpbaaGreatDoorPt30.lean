import Derived.Test.YtoiajojadihpbaaGreatDoorPt29
import Derived.Test.YtoiajojadihpbaaGreatDoorPt26
namespace Go.Proofs.YtoiajojadihpbaaGreatDoor
set_option maxHeartbeats 8000000
section
open Go.RowKit
theorem item_any (B b g:Nat) (T:List Ref.Tk) (tv:Value) (hs:T.length≤4001) (I:List Iw) (iv nv:Value) (s:Ref.Rs) (w:World) (h:RM B b g T tv iv s nv w) (hm:IM B b g tv I iv nv w) (hl:I.length≤4000) (hn:s.ns.length≤2*s.p) :
  Calls Tryz.prog 50 #[.pointer (some ⟨b,0,none⟩)] w (ItemPost B b g T tv I iv nv w s):=by
 by_cases c1:Ref.is T Mil.wInput s=true
 ·exact item_in B b g T tv hs I iv nv s w h hm hl c1
 by_cases c2:Ref.is T Mil.wOutput s=true
 ·exact item_out B b g T tv hs I iv nv s w h hm hl (by simpa using c1) c2
 exact item_eq B b g T tv hs I iv nv s w h hm hl (by simpa using c1) (by simpa using c2) hn
theorem fi_below {B b g:Nat} {T:List Ref.Tk} {tv iv iv' nv nv':Value} {s:Ref.Rs} {I:List Iw} {w w':World} (h:RM B b g T tv iv s nv w) (hm:IM B b g tv I iv nv w) (f:Fi b g w iv nv w' iv' nv'):Below B w w':=
 ⟨f.os,f.tape,f.output,f.size,fun k hk=>f.block k (by have:=h.hb;have:=(Array.getElem?_eq_some_iff.1 h.rd).1;omega) (by have:=h.hb;omega) (by have:=h.hg;omega) (fun e=>by have:=(h.nod.lt k e).1;omega) (fun e=>by have:=(hm.own.lt k e).1;omega)⟩
theorem fr_below {B b g:Nat} {T:List Ref.Tk} {tv iv nv nv':Value} {s:Ref.Rs} {w w':World} (h:RM B b g T tv iv s nv w) (f:Fr b g w nv w' nv'):Below B w w':=
 ⟨f.os,f.tape,f.output,f.size,fun k hk=>f.block k (by have:=h.hb;have:=(Array.getElem?_eq_some_iff.1 h.rd).1;omega) (by have:=h.hb;omega) (by have:=h.hg;omega) (fun e=>by have:=(h.nod.lt k e).1;omega)⟩
theorem two_set {w:World} {F:Nat} {x y u v:Value} {e:TypeId} (h:w.heap[F]?=some (.cells #[x,y] e (0,0))):(w.setCell ⟨F,0,none⟩ u).cell? ⟨F,0,none⟩=some u∧((w.setCell ⟨F,0,none⟩ u).setCell ⟨F,1,none⟩ v).cell? ⟨F,1,none⟩=some v:=by
 have e1:(w.setCell ⟨F,0,none⟩ u).heap[F]?=some (.cells #[u,y] e (0,0)):=by
  show (w.heap.modify F _)[F]?=_
  rw [Array.getElem?_modify,if_pos rfl,h];rfl
 have e2:((w.setCell ⟨F,0,none⟩ u).setCell ⟨F,1,none⟩ v).heap[F]?=some (.cells #[u,v] e (0,0)):=by
  show ((w.setCell ⟨F,0,none⟩ u).heap.modify F _)[F]?=_
  rw [Array.getElem?_modify,if_pos rfl,e1];rfl
 exact ⟨(cell_of_row _ _ 0 _ _ _ e1).trans rfl,(cell_of_row _ _ 1 _ _ _ e2).trans rfl⟩
theorem RM.off {B b g:Nat} {T:List Ref.Tk} {tv iv:Value} {s:Ref.Rs} {nv:Value} {w w':World} (h:RM B b g T tv iv s nv w) (hk:∀k,B≤k→w'.heap[k]?=w.heap[k]?):RM B b g T tv iv s nv w':=
 ⟨(hk b h.hb).trans h.rd,(hk g h.hg).trans h.pr,own_kept h.tok (fun k e=>hk k (h.tok.lt k e).1),own_kept h.nod (fun k e=>hk k (h.nod.lt k e).1),h.hb,h.hg,h.bg,h.tb,h.nb,h.lt,h.wf⟩
theorem IM.off {B b g:Nat} {tv:Value} {I:List Iw} {iv nv:Value} {w w':World} (h:IM B b g tv I iv nv w) (hk:∀k,B≤k→w'.heap[k]?=w.heap[k]?):IM B b g tv I iv nv w':=
 ⟨own_kept h.own (fun k e=>hk k (h.own.lt k e).1),h.ib,fun x hx=>⟨own_kept (h.nms x hx).1 (fun k e=>hk k ((h.nms x hx).1.lt k e).1),own_kept (h.nms x hx).2 (fun k e=>hk k ((h.nms x hx).2.lt k e).1)⟩,h.nb⟩
def PrPost (s:ByteArray) (w:World) (e:Ending) (w':World):Prop:=
 Below w.heap.size w w'∧∃T ok I σ,Ref.Scans s.data.toList 0 [] T∧Ref.Rp T s.data.toList.length [] ⟨0,[],0,0⟩ (ok,I.map Iw.im,σ) ∧
  ((ok=false∧σ.fe≠0∧e=.returned (.tuple #[.pointer none,.agg #[.int .i64 (σ.fe:Nat),.int .i64 (σ.fa:Nat)]])) ∨
   (ok=true∧∃B b g tv iv nv,w.heap.size≤B∧e=.returned (.tuple #[.pointer (some ⟨g,0,none⟩),.agg #[.int .i64 0,.int .i64 0]])∧RM B b g T tv iv σ nv w'∧IM B b g tv I iv nv w'))
set_option maxRecDepth 100000 in
theorem rparse_short (s:ByteArray) (hs:s.size≤4000) (w:World):Calls Tryz.prog 16 #[.string s] w (PrPost s w):=by
 have hl:((s.size:Int) > 4000)=False:=by simp;omega
 have HS:=hid hs
 clear hs
 go_enter Tryz.func16,Tryz.ntmps16
 go_wp2_with fail
 refine (scan_any s HS.out _).mono ?_
 rintro r w1 ⟨tv,T,rfl,hT,ho1,hb1⟩
 have HT:=hid hT
 have HO1:=hid ho1
 have HB1:=hid hb1
 obtain ⟨ot,ct,htv⟩:=own_shape ho1
 subst htv
 clear hT ho1 hb1
 go_wp2_with fail
 have s1:(w1.alloc (.cells #[.slice none 0 0,.slice none 0 0] 100)).heap.size=w1.heap.size+1:=by simp
 have WF:=(Ref.scans_row HT.out).wf
 have HBW:Hid (Below (w.alloc (.cells #[.int .i64 0,.int .i64 0] 44)).heap.size (w.alloc (.cells #[.int .i64 0,.int .i64 0] 44)) ((w1.alloc (.cells #[.slice none 0 0,.slice none 0 0] 100)).alloc (.cells #[.slice ot T.length ct,.int .i64 0,.pointer (some ⟨w1.heap.size,0,none⟩),.int .i64 0,.int .i64 0] 102))):=by
  refine (HB1.out.alloc HB1.out.size _).alloc ?_ _
  have:=HB1.out.size
  omega
 have HR:Hid (RM (w.alloc (.cells #[.int .i64 0,.int .i64 0] 44)).heap.size (w1.heap.size+1) w1.heap.size T (.slice ot T.length ct) (.slice none 0 0) ⟨0,[],0,0⟩ (.slice none 0 0) ((w1.alloc (.cells #[.slice none 0 0,.slice none 0 0] 100)).alloc (.cells #[.slice ot T.length ct,.int .i64 0,.pointer (some ⟨w1.heap.size,0,none⟩),.int .i64 0,.int .i64 0] 102))):=by
  have hlt:∀k,(Value.slice ot T.length ct).ownBlock=some k→k < w1.heap.size:=fun k hk=>(HO1.out.lt k hk).2
  have sz:=HB1.out.size
  refine ⟨?_,?_,own_kept HO1.out (fun k hk=>?_),World.ownsRow_nil _ _ _ _,by omega,sz,by omega,fun k hk=>?_,fun k hk=>(by cases hk),WF.2.1,WF.1⟩
  ·have:=heap_alloc_new (w1.alloc (.cells #[.slice none 0 0,.slice none 0 0] 100)) (.cells #[.slice ot T.length ct,.int .i64 0,.pointer (some ⟨w1.heap.size,0,none⟩),.int .i64 0,.int .i64 0] 102)
   rw [s1] at this
   exact this
  ·exact (Below.heap_alloc _ _ _ (by omega)).trans (heap_alloc_new w1 _)
  ·have h1:=hlt k hk
   exact (Below.heap_alloc _ _ _ (by omega)).trans (Below.heap_alloc _ _ _ h1)
  ·have h1:=hlt k hk
   exact ⟨by omega,by omega⟩
 have HI:Hid (IM (w.alloc (.cells #[.int .i64 0,.int .i64 0] 44)).heap.size (w1.heap.size+1) w1.heap.size (.slice ot T.length ct) [] (.slice none 0 0) (.slice none 0 0) ((w1.alloc (.cells #[.slice none 0 0,.slice none 0 0] 100)).alloc (.cells #[.slice ot T.length ct,.int .i64 0,.pointer (some ⟨w1.heap.size,0,none⟩),.int .i64 0,.int .i64 0] 102))):=⟨World.ownsRow_nil _ _ _ _,fun k hk=>(by cases hk),fun x hx=>(by cases hx),fun x hx=>(by cases hx)⟩
 have TL:Hid (T.length≤4001):=by
  have:=WF.2.2
  show T.length≤4001
  omega
 have sF:(w.alloc (.cells #[.int .i64 0,.int .i64 0] 44)).heap.size=w.heap.size+1:=by simp
 have SF:=hid sF
 have FF:Hid ((w.alloc (.cells #[.int .i64 0,.int .i64 0] 44)).heap[w.heap.size]?=some (.cells #[.int .i64 0,.int .i64 0] 44 (0,0))):=heap_alloc_new w _
 have FB:Hid (Below w.heap.size w (w.alloc (.cells #[.int .i64 0,.int .i64 0] 44))):=(Below.refl _ _).alloc (Nat.le_refl _) _
 clear sF s1 WF HB1 HO1
 generalize ((w1.alloc (.cells #[.slice none 0 0,.slice none 0 0] 100)).alloc (.cells #[.slice ot T.length ct,.int .i64 0,.pointer (some ⟨w1.heap.size,0,none⟩),.int .i64 0,.int .i64 0] 102))=W at HBW HR HI ⊢
 generalize w1.heap.size+1=b at HR HI ⊢
 generalize w1.heap.size=g at HR HI ⊢
 generalize w.alloc (.cells #[.int .i64 0,.int .i64 0] 44)=W0 at HBW HR HI SF FF FB ⊢
 generalize Value.slice ot T.length ct=tv at HR HI ⊢
 have LN:Hid (s.data.toList.length=s.size):=by
  show s.data.toList.length=s.size
  simp
 go_loopg [5] 61 (fun gk s5 wr=>∃(σ:Ref.Rs) (I:List Iw) (iv nv:Value),gk=61 - I.length∧Hid (RM W0.heap.size b g T tv iv σ nv wr)∧Hid (IM W0.heap.size b g tv I iv nv wr)∧Hid (Below W0.heap.size W0 wr)∧Hid (∀x,Ref.Rp T s.data.toList.length (I.map Iw.im) σ x→Ref.Rp T s.data.toList.length [] ⟨0,[],0,0⟩ x)∧Hid (I.length≤60)∧Hid (σ.ns.length≤2*σ.p))
 case atStart=>exact ⟨⟨0,[],0,0⟩,[],_,_,rfl,HR,HI,HBW,fun x h=>h,Nat.zero_le _,Nat.zero_le _⟩
 case round=>
  obtain ⟨σ,I,iv,nv,hg,KR,KI,KB,KP,KL,KN⟩:=hrel
  have HG:=hid hg
  clear hg HR HI HBW
  have d3:=KR.out.cells.2.2.2.1
  have d4:=KR.out.cells.2.2.2.2.1
  have KF:Hid (wr.heap[w.heap.size]?=some (.cells #[.int .i64 0,.int .i64 0] 44 (0,0))):=(KB.out.block _ (by have:=SF.out;omega)).trans FF.out
  by_cases c0:σ.fe=0
  ·have b0:((σ.fe:Int)==0)=true:=by rw [beq_iff_eq];omega
   have C0:=hid c0
   clear c0
   go_wp2_with fail
   refine (now_any W0.heap.size b g T tv iv σ nv _ KR.out).mono ?_
   rintro r w2 ⟨rfl,hb2⟩
   generalize hnow:Ref.now T σ=t
   obtain ⟨tt,ta,tn,tm,tu,te⟩:=t
   have HNOW:=hid hnow
   have hvv:Ref.tokV ⟨tt,ta,tn,tm,tu,te⟩=.agg #[.string (bs tt),.int .i64 (ta:Nat),.bool tn,.bool tm,.int .i64 (tu:Nat),.int .i64 (te:Nat)]:=rfl
   rw [hvv]
   have hbW:Below wr.heap.size wr (w2.alloc (.cells (tkA ⟨tt,ta,tn,tm,tu,te⟩) 104)):=hb2.alloc hb2.size _
   have KR2:=hid (KR.out.below hbW)
   have KI2:Hid (IM W0.heap.size b g tv I iv nv (w2.alloc (.cells (tkA ⟨tt,ta,tn,tm,tu,te⟩) 104))):=KI.out.kept (Fr.of_below hbW)
   have KB2:Hid (Below W0.heap.size W0 (w2.alloc (.cells (tkA ⟨tt,ta,tn,tm,tu,te⟩) 104))):=KB.out.trans (hbW.mono KB.out.size)
   have KF2:Hid ((w2.alloc (.cells (tkA ⟨tt,ta,tn,tm,tu,te⟩) 104)).heap[w.heap.size]?=some (.cells #[.int .i64 0,.int .i64 0] 44 (0,0))):=(KB2.out.block _ (by have:=SF.out;omega)).trans FF.out
   clear hvv hnow d3 d4 hb2 hbW KF KR KI KB b0
   by_cases c1:te=0∧ta=s.size
   ·obtain ⟨e1,e2⟩:=c1
    have b1:((te:Int)==0)=true:=by rw [beq_iff_eq];omega
    have b2:((ta:Int)==(s.size:Int))=true:=by rw [beq_iff_eq];omega
    have HE:Hid (te=0∧ta=s.size):=⟨e1,e2⟩
    clear e1 e2
    have g2:=KR2.out.cells.2.2.1
    have f0:(w2.alloc (.cells (tkA ⟨tt,ta,tn,tm,tu,te⟩) 104)).cell? ⟨w.heap.size,0,none⟩=some (.int .i64 0):=(cell_of_row _ _ 0 _ _ _ KF2.out).trans rfl
    have f1:(w2.alloc (.cells (tkA ⟨tt,ta,tn,tm,tu,te⟩) 104)).cell? ⟨w.heap.size,1,none⟩=some (.int .i64 0):=(cell_of_row _ _ 1 _ _ _ KF2.out).trans rfl
    have z1:∀k,(w2.alloc (.cells (tkA ⟨tt,ta,tn,tm,tu,te⟩) 104)).frozen? ⟨w.heap.size,k,none⟩=false:=fun k=>by
     unfold World.frozen?;rw [KF2.out];simp
    have KP2:Hid (Ref.Rp T s.data.toList.length [] ⟨0,[],0,0⟩ (true,I.map Iw.im,σ)):=KP.out _ (Ref.rp_end C0.out (by rw [HNOW.out,LN.out];exact HE.out))
    go_wp2_with fail
    obtain ⟨a0,a1⟩:=two_set (u:=.int .i64 0) (v:=.int .i64 0) KF2.out
    refine bodyPost_ret (v:=.tuple #[.pointer (some ⟨g,0,none⟩),.agg #[.int .i64 0,.int .i64 0]]) (by simp [results,Tryz.results16,a0,a1,go_sem]) rfl ?_
    have oth:∀k,W0.heap.size≤k→(((w2.alloc (.cells (tkA ⟨tt,ta,tn,tm,tu,te⟩) 104)).setCell ⟨w.heap.size,0,none⟩ (.int .i64 0)).setCell ⟨w.heap.size,1,none⟩ (.int .i64 0)).heap[k]?=(w2.alloc (.cells (tkA ⟨tt,ta,tn,tm,tu,te⟩) 104)).heap[k]?:=fun k hk=>by
     have hne:k≠w.heap.size:=by have:=SF.out;omega
     exact (Below.heap_setCell _ ⟨w.heap.size,1,none⟩ _ k hne).trans (Below.heap_setCell _ ⟨w.heap.size,0,none⟩ _ k hne)
    refine ⟨?_,T,true,I,σ,HT.out,KP2.out,Or.inr ⟨rfl,W0.heap.size,b,g,tv,iv,nv,by have:=SF.out;omega,rfl,KR2.out.off oth,KI2.out.off oth⟩⟩
    have q:=FB.out.trans (KB2.out.mono (by have:=SF.out;omega))
    exact (q.setCell (Nat.le_refl _) _).setCell (Nat.le_refl _) _
   ·have HE:=hid c1
    have HN2:Hid (¬((Ref.now T σ).e=0∧(Ref.now T σ).at_=s.data.toList.length)):=by
     show ¬_
     rw [HNOW.out,LN.out];exact HE.out
    have g2:=KR2.out.cells.2.2.1
    have g6:=KR2.out.cells.2.2.2.2.2.1
    obtain ⟨oi,ci,hiv⟩:=own_shape KI2.out.own
    have HIV:=hid hiv
    rw [hiv] at g6
    clear hiv
    have bb:((te:Int)==0)=false∨(((te:Int)==0)=true∧((ta:Int)==(s.size:Int))=false):=by
     by_cases e1:te=0
     ·right
      refine ⟨by rw [beq_iff_eq];omega,?_⟩
      rw [beq_eq_false_iff_ne]
      intro e
      exact c1 ⟨e1,by omega⟩
     ·left
      rw [beq_eq_false_iff_ne];omega
    clear c1
    by_cases c2:I.length=60
    ·have b3:((I.length:Int)==60)=true:=by rw [beq_iff_eq];omega
     have C2:=hid c2
     clear c2
     rcases bb with b1 | ⟨b1,b2⟩
     all_goals
      go_wp2_with fail
      refine (fail_any W0.heap.size b g T tv iv σ nv 4 _ KR2.out).mono ?_
      rintro r w3 ⟨rfl,m3,f3⟩
      have KP3:Hid (Ref.Rp T s.data.toList.length [] ⟨0,[],0,0⟩ (false,I.map Iw.im,Ref.fail T 4 σ)):=KP.out _ (Ref.rp_many C0.out HN2.out (by rw [List.length_map];exact C2.out))
      have KX:Hid ((Ref.fail T 4 σ).fe≠0):=by
       show (Ref.fail T 4 σ).fe≠0
       unfold Ref.fail
       rw [if_neg (fun h=>h C0.out)]
       show (if (Ref.now T σ).e≠0 then (Ref.now T σ).e else 4)≠0
       by_cases h1:(Ref.now T σ).e≠0
       ·rw [if_pos h1];exact h1
       ·rw [if_neg h1];decide
      generalize hσ:Ref.fail T 4 σ=σ3 at m3 KP3 KX
      have KB3:Hid (Below W0.heap.size W0 w3):=KB2.out.trans (fr_below KR2.out f3)
      have KF3:Hid (w3.heap[w.heap.size]?=some (.cells #[.int .i64 0,.int .i64 0] 44 (0,0))):=(KB3.out.block _ (by have:=SF.out;omega)).trans FF.out
      have d3:=m3.cells.2.2.2.1
      have d4:=m3.cells.2.2.2.2.1
      have f0:w3.cell? ⟨w.heap.size,0,none⟩=some (.int .i64 0):=(cell_of_row w3 _ 0 _ _ _ KF3.out).trans rfl
      have f1:w3.cell? ⟨w.heap.size,1,none⟩=some (.int .i64 0):=(cell_of_row w3 _ 1 _ _ _ KF3.out).trans rfl
      have z1:∀k,w3.frozen? ⟨w.heap.size,k,none⟩=false:=fun k=>by
       unfold World.frozen?;rw [KF3.out];simp
      clear hσ m3 f3 g2 g6
      go_wp2_with fail
      go_region
      all_goals go_wp2
      obtain ⟨a0,a1⟩:=two_set (u:=.int .i64 (σ3.fe:Nat)) (v:=.int .i64 (σ3.fa:Nat)) KF3.out
      refine bodyPost_ret (v:=.tuple #[.pointer none,.agg #[.int .i64 (σ3.fe:Nat),.int .i64 (σ3.fa:Nat)]]) (by simp [results,Tryz.results16,a0,a1,go_sem]) rfl ?_
      refine ⟨?_,T,false,I,σ3,HT.out,KP3.out,Or.inl ⟨rfl,KX.out,rfl⟩⟩
      have q:=FB.out.trans (KB3.out.mono (by have:=SF.out;omega))
      exact (q.drew.setCell (Nat.le_refl _) _).setCell (Nat.le_refl _) _
    ·have b3:((I.length:Int)==60)=false:=by rw [beq_eq_false_iff_ne];omega
     have C2:=hid c2
     clear c2
     rcases bb with b1 | ⟨b1,b2⟩
     all_goals
      go_wp2_with fail
      refine (item_any W0.heap.size b g T tv TL.out I iv nv σ _ KR2.out KI2.out (by have:=KL.out;omega) KN.out).mono ?_
      rintro r w3 ⟨rfl,y,σ3,iv3,nv3,ri,m3,i3,f3⟩
      have KP3:Hid (∀x,Ref.Rp T s.data.toList.length ((I++[y]).map Iw.im) σ3 x→Ref.Rp T s.data.toList.length [] ⟨0,[],0,0⟩ x):=fun x hx=>KP.out x (Ref.rp_go C0.out HN2.out (by rw [List.length_map];exact C2.out) ri (by rw [List.map_append] at hx;exact hx))
      have KB3:Hid (Below W0.heap.size W0 w3):=KB2.out.trans (fi_below KR2.out KI2.out f3)
      have KR3:=hid m3
      have KI3:=hid i3
      have KL3:Hid ((I++[y]).length≤60):=by
       show (I++[y]).length≤60
       rw [List.length_append,List.length_singleton]
       have h1:=KL.out
       have h2:=C2.out
       omega
      have KN3:Hid (σ3.ns.length≤2*σ3.p):=by
       have p:=ri.pays.2
       have h1:=KN.out
       show σ3.ns.length≤2*σ3.p
       simp only [] at p
       omega
      clear m3 i3 f3 ri g2 g6
      go_wp2_with fail
      go_roundg (61 - (I.length+1))
      case measure=>
       have h1:=HG.out
       have h2:=KL.out
       omega
      case rel=>
       exact ⟨σ3,I++[y],iv3,nv3,by rw [List.length_append,List.length_singleton],KR3,KI3,KB3,KP3,KL3,KN3⟩
  ·have b0:((σ.fe:Int)==0)=false:=by rw [beq_eq_false_iff_ne];omega
   have C0:=hid c0
   have f0:wr.cell? ⟨w.heap.size,0,none⟩=some (.int .i64 0):=(cell_of_row wr _ 0 _ _ _ KF.out).trans rfl
   have f1:wr.cell? ⟨w.heap.size,1,none⟩=some (.int .i64 0):=(cell_of_row wr _ 1 _ _ _ KF.out).trans rfl
   have z1:∀k,wr.frozen? ⟨w.heap.size,k,none⟩=false:=fun k=>by
    unfold World.frozen?;rw [KF.out];simp
   clear c0
   go_wp2_with fail
   go_region
   all_goals go_wp2
   all_goals
    obtain ⟨a0,a1⟩:=two_set (u:=.int .i64 (σ.fe:Nat)) (v:=.int .i64 (σ.fa:Nat)) KF.out
    refine bodyPost_ret (v:=.tuple #[.pointer none,.agg #[.int .i64 (σ.fe:Nat),.int .i64 (σ.fa:Nat)]]) (by simp [results,Tryz.results16,a0,a1,go_sem]) rfl ?_
    refine ⟨?_,T,false,I,σ,HT.out,KP.out _ (Ref.rp_bad C0.out),Or.inl ⟨rfl,C0.out,rfl⟩⟩
    have q:=FB.out.trans (KB.out.mono (by have:=SF.out;omega))
    exact (q.drew.setCell (Nat.le_refl _) _).setCell (Nat.le_refl _) _
end
section
open Go.RowKit
def LgPost (w:World) (r:Ending) (w':World):Prop:=
 (∃fe fa:Int,fe≠0∧r=.returned (.tuple #[.pointer none,.agg #[.int .i64 fe,.int .i64 fa]]))∧Below w.heap.size w w'
set_option maxRecDepth 100000 in
theorem rparse_long (s:ByteArray) (hs:¬s.size≤4000) (w:World):Calls Tryz.prog 16 #[.string s] w (LgPost w):=by
 have hl:((4000:Int) < (s.size:Int))=True:=by simp;omega
 clear hs
 go_enter Tryz.func16,Tryz.ntmps16
 go_wp2_with fail
 have hb:Below w.heap.size w (w.alloc (.cells #[.int .i64 1,.int .i64 (-1)] 44)):=(Below.refl _ _).alloc (Nat.le_refl _) _
 have hn:=heap_alloc_new w (.cells #[.int .i64 1,.int .i64 (-1)] 44 (0,0))
 have a2:(w.alloc (.cells #[.int .i64 1,.int .i64 (-1)] 44)).cell? ⟨w.heap.size,0,none⟩=some (.int .i64 1):=(cell_of_row _ _ 0 _ _ _ hn).trans rfl
 have a3:(w.alloc (.cells #[.int .i64 1,.int .i64 (-1)] 44)).cell? ⟨w.heap.size,1,none⟩=some (.int .i64 (-1)):=(cell_of_row _ _ 1 _ _ _ hn).trans rfl
 refine bodyPost_ret (v:=.tuple #[.pointer none,.agg #[.int .i64 1,.int .i64 (-1)]]) (by simp [results,Tryz.results16,a2,a3,go_sem]) rfl ?_
 exact ⟨⟨1,-1,by decide,rfl⟩,hb⟩
end
section
namespace Ref
open Mil
theorem pum_fold:∀(l:Bytes) (acc:Nat),(∀c,c∈l→isD c=true)→acc≤2 ^ 64 - 1 →
  Lib.parseUintM (2 ^ 64 - 1) acc l=if l.foldl (fun n c=>10*n+(c.toNat - 48)) acc≤2 ^ 64 - 1 then .ok (l.foldl (fun n c=>10*n+(c.toNat - 48)) acc) else .range
 | [],acc,_,ha=>by rw [Lib.parseUintM,List.foldl_nil,if_pos ha]
 | c::l,acc,hd,ha=>by
  have hc:48≤c.toNat∧c.toNat≤57:=by
   have:=hd c List.mem_cons_self
   unfold isD at this;simpa using this
  have hm:=fold_mono l (10*acc+(c.toNat - 48))
  rw [Lib.parseUintM,if_pos hc,List.foldl_cons]
  by_cases h1:1844674407370955162≤acc
  ·rw [if_pos h1,if_neg (by omega)]
  rw [if_neg h1]
  by_cases h2:2 ^ 64 - 1 < acc*10+(c.toNat - 48)
  ·rw [if_pos h2,if_neg (by omega)]
  rw [if_neg h2,Nat.mul_comm acc 10]
  exact pum_fold l _ (fun d h=>hd d (List.mem_cons_of_mem _ h)) (by omega)
theorem parse_fold {x:Bytes} (hx:x≠[]) (hd:∀c,c∈x→isD c=true):Lib.parseIntB 64 x=if valueOf x≤9223372036854775807 then .ok (valueOf x:Int) else .range:=by
 obtain ⟨c,r,rfl⟩:∃c r,x=c::r:=by
  cases x with
  | nil=>exact absurd rfl hx
  | cons c r=>exact ⟨c,r,rfl⟩
 have hc:48≤c.toNat∧c.toNat≤57:=by
  have:=hd c List.mem_cons_self
  unfold isD at this;simpa using this
 have hp:=pum_fold (c::r) 0 hd (by omega)
 have hv:(c::r).foldl (fun n c=>10*n+(c.toNat - 48)) 0=valueOf (c::r):=rfl
 rw [hv] at hp
 generalize valueOf (c::r)=V at hp ⊢
 have hpb:Lib.parseUintB 64 (c::r)=if V≤2 ^ 64 - 1 then .ok V else .range:=by unfold Lib.parseUintB;rw [if_neg (by simp)];exact hp
 unfold Lib.parseIntB
 simp only []
 rw [if_neg (by omega),hpb]
 by_cases h1:V≤9223372036854775807
 ·rw [if_pos (by omega),if_pos h1]
  simp only []
  rw [if_neg (by omega),if_neg (by omega),if_neg (by omega)]
 ·rw [if_neg h1]
  by_cases h2:V≤2 ^ 64 - 1
  ·rw [if_pos h2]
   simp only []
   rw [if_pos ⟨by omega,by omega⟩]
  ·rw [if_neg h2]
theorem fold_big:∀(y:Bytes) (n:Nat),n*10 ^ y.length≤y.foldl (fun n c=>10*n+(c.toNat - 48)) n
 | [],n=>by simp
 | c::y,n=>by
  have h:=fold_big y (10*n+(c.toNat - 48))
  rw [List.foldl_cons]
  refine Nat.le_trans ?_ h
  rw [List.length_cons,Nat.pow_succ,Nat.mul_comm (10 ^ y.length) 10,←Nat.mul_assoc]
  exact Nat.mul_le_mul_right _ (by omega)
theorem while_all (p:UInt8→Bool):∀(r:Bytes) (d:UInt8),d∈r.takeWhile p→p d=true
 | [],_,h=>by cases h
 | c::r,d,h=>by
  rw [List.takeWhile_cons] at h
  by_cases hc:p c=true
  ·rw [if_pos hc] at h
   rcases List.mem_cons.1 h with rfl | h
   ·exact hc
   ·exact while_all p r d h
  ·rw [if_neg hc] at h;cases h
theorem cutNum_is {r:Bytes} {c:UInt8} {q:Bytes} (hr:r=c::q) (hc:isD c=true) :
  cutNum r=(rvalue (r.takeWhile isD)).map fun v=>(⟨2,r.takeWhile isD,(v:Int)⟩,r.dropWhile isD):=by
 have hne:r.takeWhile isD≠[]:=by rw [hr,List.takeWhile_cons,if_pos hc];simp
 have hd:∀d,d∈r.takeWhile isD→isD d=true:=while_all isD r
 have hh:r.head?.map (·.toNat)=(r.takeWhile isD).head?.map (·.toNat):=by rw [hr,List.takeWhile_cons,if_pos hc];rfl
 have hp:=parse_fold hne hd
 unfold cutNum
 rw [hh]
 generalize hx:r.takeWhile isD=x at hne hd hp ⊢
 obtain ⟨d,y,rfl⟩:∃d y,x=d::y:=by
  cases x with
  | nil=>exact absurd rfl hne
  | cons d y=>exact ⟨d,y,rfl⟩
 have hdd:48≤d.toNat∧d.toNat≤57:=by
  have:=hd d List.mem_cons_self
  unfold isD at this;simpa using this
 have hv:valueOf (d::y)=y.foldl (fun n c=>10*n+(c.toNat - 48)) (10*0+(d.toNat - 48)):=rfl
 have big:d.toNat≠48→19 < (d::y).length→¬valueOf (d::y)≤9223372036854775807:=fun z l2=>by
  have hb:=fold_big y (10*0+(d.toNat - 48))
  rw [←hv] at hb
  have h19:10 ^ 19≤10 ^ y.length:=Nat.pow_le_pow_right (by omega) (by simp at l2;omega)
  have:1*10 ^ 19≤(10*0+(d.toNat - 48))*10 ^ y.length:=Nat.mul_le_mul (by omega) h19
  omega
 generalize valueOf (d::y)=V at hp hv big
 have hz:((d::y).head?.map (·.toNat)=some 48)↔d.toNat=48:=by simp
 have hrv:rvalue (d::y)=if d.toNat=48∧1 < (d::y).length then none else if V≤9223372036854775807 then some V else none:=by
  have hV:valueOf (d::y)=V:=hv.symm
  unfold rvalue
  rw [hV]
  simp only [hz]
  by_cases c1:d.toNat=48∧1 < (d::y).length
  ·rw [if_pos c1,if_pos (Or.inr ⟨c1.2,c1.1⟩)]
  ·rw [if_neg c1]
   by_cases c2:19 < (d::y).length
   ·rw [if_pos (Or.inl c2),if_neg]
    exact big (fun e=>c1 ⟨e,by omega⟩) c2
   ·rw [if_neg (fun h=>by rcases h with h | h;exact c2 h;exact c1 ⟨h.2,h.1⟩)]
 rw [hrv,hp]
 by_cases hV:V≤9223372036854775807
 ·rw [if_pos hV,if_pos hV]
  simp only [hz]
  by_cases c1:d.toNat=48∧1 < (d::y).length
  ·rw [if_pos c1,if_pos c1];rfl
  ·rw [if_neg c1,if_neg c1];rfl
 ·rw [if_neg hV,if_neg hV]
  simp only []
  split <;> rfl
theorem u8_eq {c:UInt8} {k:Nat} (h:c.toNat=k):c=UInt8.ofNat k:=by
 have:UInt8.ofNat c.toNat=c:=UInt8.ofNat_toNat
 rw [←this,h]
theorem cutSign_is (c:UInt8) (r:Bytes):cutSign (c::r)=if signLen (c::r)=0 then none else some (fix ((c::r).take (signLen (c::r))),(c::r).drop (signLen (c::r))):=by
 by_cases h1:isOne c=true
 ·have hl:signLen (c::r)=1:=by show (if isOne c=true then 1 else _)=1;rw [if_pos h1]
  rw [hl,if_neg (by decide)]
  unfold isOne at h1
  simp only [Bool.or_eq_true,beq_iff_eq] at h1
  have hc:c=58∨c=59∨c=40∨c=41∨c=44∨c=43∨c=45∨c=42∨c=47∨c=37:=by
   rcases h1 with ((((((((h1 | h1) | h1) | h1) | h1) | h1) | h1) | h1) | h1) | h1 <;> (have:=u8_eq h1;subst this;decide)
  rcases hc with rfl | rfl | rfl | rfl | rfl | rfl | rfl | rfl | rfl | rfl <;> rfl
 by_cases h2:isTwo c=true
 ·have hl:signLen (c::r)=if r.head?.map (·.toNat)=some 61 then 2 else 1:=by show (if isOne c=true then 1 else if isTwo c=true then (if r.head?.map (·.toNat)=some 61 then 2 else 1) else _)=_;rw [if_neg h1,if_pos h2]
  unfold isTwo at h2
  simp only [Bool.or_eq_true,beq_iff_eq] at h2
  have hc:c=61∨c=60∨c=62:=by
   rcases h2 with (h2 | h2) | h2 <;> (have:=u8_eq h2;subst this;decide)
  rw [hl]
  cases r with
  | nil=>rcases hc with rfl | rfl | rfl <;> rfl
  | cons d r=>
   by_cases hd:d.toNat=61
   ·have:=u8_eq hd;subst this
    rcases hc with rfl | rfl | rfl <;> rfl
   ·have hd':(61==d)=false:=by
     rw [beq_eq_false_iff_ne];intro e;rw [←e] at hd;exact hd (by decide)
    have hq:(if (d::r).head?.map (·.toNat)=some 61 then 2 else 1)=1:=if_neg (by simpa using hd)
    rw [hq,if_neg (by decide)]
    rcases hc with rfl | rfl | rfl <;> simp [cutSign,signs,sLe,sGe,sEq,sNe,sColon,sSemi,sIs,sOpen,sShut,sComma,sPlus,sMinus,sTimes,sOver,sRest,sLt,sGt,List.isPrefixOf,List.find?,hd']
 by_cases h3:c.toNat=33
 ·have hl:signLen (c::r)=if r.head?.map (·.toNat)=some 61 then 2 else 0:=by show (if isOne c=true then 1 else if isTwo c=true then _ else if c.toNat=33 then (if r.head?.map (·.toNat)=some 61 then 2 else 0) else 0)=_;rw [if_neg h1,if_neg h2,if_pos h3]
  rw [hl]
  have:=u8_eq h3;subst this
  cases r with
  | nil=>rfl
  | cons d r=>
   by_cases hd:d.toNat=61
   ·have:=u8_eq hd;subst this;rfl
   ·have hd':(61==d)=false:=by
     rw [beq_eq_false_iff_ne];intro e;rw [←e] at hd;exact hd (by decide)
    have hq:(if (d::r).head?.map (·.toNat)=some 61 then 2 else 0)=0:=if_neg (by simpa using hd)
    rw [hq,if_pos rfl]
    simp [cutSign,signs,sLe,sGe,sEq,sNe,sColon,sSemi,sIs,sOpen,sShut,sComma,sPlus,sMinus,sTimes,sOver,sRest,sLt,sGt,List.isPrefixOf,List.find?,hd']
 ·have hl:signLen (c::r)=0:=by show (if isOne c=true then 1 else if isTwo c=true then _ else if c.toNat=33 then _ else 0)=_;rw [if_neg h1,if_neg h2,if_neg h3]
  rw [hl,if_pos rfl]
  have no:∀k:UInt8,(isOne k=true∨isTwo k=true∨k.toNat=33)→(k==c)=false:=fun k hk=>by
   rw [beq_eq_false_iff_ne]
   intro e
   subst e
   rcases hk with hk | hk | hk
   ·exact h1 hk
   ·exact h2 hk
   ·exact h3 hk
  simp [cutSign,signs,sLe,sGe,sEq,sNe,sColon,sSemi,sIs,sOpen,sShut,sComma,sPlus,sMinus,sTimes,sOver,sRest,sLt,sGt,List.isPrefixOf,List.find?,no 60 (by decide),no 62 (by decide),no 61 (by decide),no 33 (by decide),no 58 (by decide),no 59 (by decide),no 40 (by decide),no 41 (by decide),no 44 (by decide),no 43 (by decide),no 45 (by decide),no 42 (by decide),no 47 (by decide),no 37 (by decide)]
theorem signLen_le (c:UInt8) (r:Bytes):signLen (c::r)≤(c::r).length:=by
 cases r with
 | nil=>
  show (if isOne c=true then 1 else if isTwo c=true then 1 else if c.toNat=33 then 0 else 0)≤1
  split
  ·omega
  ·split
   ·omega
   ·split <;> omega
 | cons d r=>
  have h2:∀k,(if (d::r).head?.map (·.toNat)=some 61 then 2 else k)≤max 2 k:=fun k=>by split <;> omega
  have h3:=h2 1
  have h4:=h2 0
  show (if isOne c=true then 1 else if isTwo c=true then (if (d::r).head?.map (·.toNat)=some 61 then 2 else 1) else if c.toNat=33 then (if (d::r).head?.map (·.toNat)=some 61 then 2 else 0) else 0)≤r.length+1+1
  split
  ·omega
  ·split
   ·omega
   ·split <;> omega
def TokEq (k:Tk) (t:Tok):Prop:=
 (t.kind=0∧k.t=[]∧k.name=false∧k.number=false)∨(t.kind=1∧t.txt=k.t∧k.name=true∧k.number=false) ∨
 (t.kind=2∧t.val=(k.v:Int)∧k.name=false∧k.number=true∧k.v≤9223372036854775807∧∃c r,k.t=c::r∧isD c=true)∨(t.kind=3∧t.txt=k.t∧k.name=false∧k.number=false∧k.t≠[])
theorem rvalue_le {x:Bytes} {v:Nat} (h:rvalue x=some v):v≤9223372036854775807:=by
 unfold rvalue at h
 split at h
 ·cases h
 ·split at h
  ·have:=Option.some.inj h;omega
  ·cases h
theorem drop_while (p:UInt8→Bool):∀r:Bytes,r.dropWhile p=r.drop (r.takeWhile p).length
 | []=>rfl
 | c::r=>by
  rw [List.dropWhile_cons,List.takeWhile_cons]
  by_cases h:p c=true
  ·rw [if_pos h,if_pos h,List.length_cons,List.drop_succ_cons];exact drop_while p r
  ·rw [if_neg h,if_neg h];rfl
theorem cut_is (r:Bytes) (p:Nat):match cut r with
  | none=>(tokAt r p).e=2
  | some x=>(tokAt r p).e=0∧TokEq (tokAt r p) x.1∧x.2=r.drop (tokAt r p).t.length∧(x.1.kind=0↔r=[]):=by
 cases r with
 | nil=>exact ⟨rfl,Or.inl ⟨rfl,rfl,rfl,rfl⟩,rfl,⟨fun _=>rfl,fun _=>rfl⟩⟩
 | cons c r=>
  have t1:∀f:UInt8→Bool,f c=true→(c::r).takeWhile f≠[]:=fun f hf=>by rw [List.takeWhile_cons,if_pos hf];simp
  unfold cut tokAt
  simp only []
  by_cases hL:isL c=true
  ·rw [if_pos hL,if_pos hL]
   have hn:=t1 isN (by unfold isN;rw [hL];rfl)
   unfold cutName
   by_cases l:12 < ((c::r).takeWhile isN).length
   ·rw [if_pos l,if_pos l]
   ·rw [if_neg l,if_neg l]
    simp only []
    by_cases hw:words.contains ((c::r).takeWhile isN)=true
    ·rw [if_pos hw]
     refine ⟨trivial,Or.inr (Or.inr (Or.inr ⟨rfl,rfl,by simp only [hw];rfl,rfl,hn⟩)),drop_while _ _,⟨fun h=>(by cases h),fun h=>(by cases h)⟩⟩
    ·rw [if_neg hw]
     refine ⟨trivial,Or.inr (Or.inl ⟨rfl,rfl,by simp only [Bool.not_eq_true] at hw;simp only [hw];rfl,rfl⟩),drop_while _ _,⟨fun h=>(by cases h),fun h=>(by cases h)⟩⟩
  rw [if_neg hL,if_neg hL]
  by_cases hD:isD c=true
  ·rw [if_pos hD,if_pos hD,cutNum_is rfl hD]
   cases hv:rvalue ((c::r).takeWhile isD) with
   | none=>rfl
   | some v=>
    refine ⟨rfl,Or.inr (Or.inr (Or.inl ⟨rfl,rfl,rfl,rfl,rvalue_le hv,?_⟩)),drop_while _ _,⟨fun h=>(by cases h),fun h=>(by cases h)⟩⟩
    exact ⟨c,r.takeWhile isD,by rw [List.takeWhile_cons,if_pos hD],hD⟩
  ·rw [if_neg hD,if_neg hD,cutSign_is]
   by_cases hs:signLen (c::r)=0
   ·rw [if_pos hs,if_pos hs]
   ·rw [if_neg hs,if_neg hs]
    have hne:(c::r).take (signLen (c::r))≠[]:=by
     intro e
     rcases List.take_eq_nil_iff.1 e with e | e
     ·exact hs e
     ·cases e
    have hle:signLen (c::r)≤(c::r).length:=signLen_le c r
    refine ⟨rfl,Or.inr (Or.inr (Or.inr ⟨rfl,rfl,rfl,rfl,hne⟩)),?_,⟨fun h=>(by cases h),fun h=>(by cases h)⟩⟩
    show (c::r).drop _=(c::r).drop ((c::r).take (signLen (c::r))).length
    rw [List.length_take,Nat.min_eq_left hle]
end Ref
end
end Go.Proofs.YtoiajojadihpbaaGreatDoor
