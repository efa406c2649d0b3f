import Derived.Test.YtoiajojadihpbaaGreatDoorQt51
import Derived.Test.YtoiajojadihpbaaGreatDoorQt36
import Derived.Test.YtoiajojadihpbaaGreatDoorQt37
import Derived.Test.YtoiajojadihpbaaGreatDoorQt00
import Derived.Test.YtoiajojadihpbaaGreatDoorQt13
import Derived.Test.YtoiajojadihpbaaGreatDoorQt39
import Derived.Test.YtoiajojadihpbaaGreatDoorQt41
import Derived.Deep.Slices
import Derived.ProofKit
import Derived.ChangeBears2
import Derived.LaidMore
import Derived.OpenShut
import Derived.Stop.Joined
import Derived.Test.YtoiajojadihpbaaGreatDoorTie
import Derived.Test.YtoiajojadihpbaaGreatDoorCards
import Derived.SevenTiedAt
namespace Go.Proofs.YtoiajojadihpbaaGreatDoor
set_option maxHeartbeats 8000000
set_option maxRecDepth 100000
section
open Go.RowKit
structure CS (w:World) (fb ub g:Nat) (iv nv fv:Value) (ns:List Ref.Nd) (I:List Iw) (F:List Ref.Fl) (x y:Value) (W:World):Prop where
 um:UM (fb+1) ub g iv nv fv (.slice none 0 0) ns I F W
 ud:Ud ub g iv nv fv I
 fa:W.heap[fb]?=some (.cells #[x,y] 44 (0,0))
 rb:W.heap[w.heap.size]?=some (.cells #[.int .i64 0,.int .i64 0] 44 (0,0))
 bl:Below w.heap.size w W
 lt:w.heap.size < fb/\fb < ub
 ap:fb≠g/\nv.ownBlock≠some fb/\iv.ownBlock≠some fb/\∀x,x∈I->x.nv.ownBlock≠some fb/\x.pv.ownBlock≠some fb
 un:ub≠g/\nv.ownBlock≠some ub/\iv.ownBlock≠some ub/\∀x,x∈I->x.nv.ownBlock≠some ub/\x.pv.ownBlock≠some ub
theorem CS.call {w W W':World} {fb ub g:Nat} {iv nv fv fv':Value} {ns:List Ref.Nd} {I:List Iw} {F F':List Ref.Fl} {x y:Value} (h:CS w fb ub g iv nv fv ns I F x y W) (um:UM (fb+1) ub g iv nv fv' (.slice none 0 0) ns I F' W') (ud:Ud ub g iv nv fv' I) (hb:Below (fb+1) W W'):CS w fb ub g iv nv fv' ns I F' x y W':=
 ⟨um,ud,(hb.block fb (Nat.lt_succ_self _)).trans h.fa,(hb.block _ (by have:=h.lt;omega)).trans h.rb,h.bl.trans (hb.mono (by have:=h.lt;omega)),h.lt,h.ap,h.un⟩
theorem CS.read {w W W':World} {fb ub g:Nat} {iv nv fv:Value} {ns:List Ref.Nd} {I:List Iw} {F:List Ref.Fl} {x y:Value} (h:CS w fb ub g iv nv fv ns I F x y W) (hb:Below W.heap.size W W'):CS w fb ub g iv nv fv ns I F x y W':=
 h.call (h.um.below hb) h.ud (hb.mono (by have h1:=(ags h.um.un).1;have:=h.lt;omega))
theorem CS.put {w W:World} {fb ub g:Nat} {iv nv fv:Value} {ns:List Ref.Nd} {I:List Iw} {F:List Ref.Fl} {x y:Value} (h:CS w fb ub g iv nv fv ns I F x y W) (u v:Value):CS w fb ub g iv nv fv ns I F u v ((W.setCell ⟨fb,0,none⟩ u).setCell ⟨fb,1,none⟩ v):=by
 have oth:∀q,q≠fb->((W.setCell ⟨fb,0,none⟩ u).setCell ⟨fb,1,none⟩ v).heap[q]?=W.heap[q]?:=fun q hq=>(bhs _ ⟨fb,1,none⟩ _ q hq).trans (bhs _ ⟨fb,0,none⟩ _ q hq)
 refine⟨h.um.off ⟨by have:=h.lt;omega,h.ap.1,h.ap.2.1,h.ap.2.2.1,fun e=>by have:=(h.um.fl.lt fb e).1;omega,h.ap.2.2.2⟩ oth,h.ud,(two_setL h.fa).2.2,(oth _ (by have:=h.lt;omega)).trans h.rb,(h.bl.setCell (p:=⟨fb,0,none⟩) (Nat.le_of_lt h.lt.1) _).setCell (p:=⟨fb,1,none⟩) (Nat.le_of_lt h.lt.1) _,h.lt,h.ap,h.un⟩
theorem Like.fl {I:List Iw} {F G:List Ref.Fl} (h:Like F G) (hp:G.map Ref.Fl.pe=F.map Ref.Fl.pe) (hf:∀f,f∈F->FlOf I f):∀f,f∈G->FlOf I f:=by
 intro f hg
 obtain⟨j,hj,rfl⟩:=List.getElem_of_mem hg
 have hl:j < F.length:=by rw[<-h.len];exact hj
 have at_:∀{α:Type} (q:Ref.Fl->α),G.map q=F.map q->q G[j]=q F[j]:=fun q e=>by
  have:=congrArg (·[j]?) e
  simpa [hj,hl] using this
 obtain⟨y,h1,h2,h3,h4⟩:=hf F[j] (List.getElem_mem hl)
 exact⟨y,by rw[at_ Ref.Fl.item h.2.2];exact h1,h2,by rw[at_ Ref.Fl.inp h.2.1];exact h3,by rw[at_ Ref.Fl.pe hp];exact h4⟩
theorem closed_like {F G:List Ref.Fl} (h:Like F G) {e:Mil.E} (hc:Ref.Closed F e):Ref.Closed G e:=fun x hx=>by
 rw[Ref.fnd_names h.1]
 exact hc x hx
theorem cs_start {w w1:World} {g:Nat} {iv nv:Value} {ns:List Ref.Nd} {I:List Iw} (hb:Below (w.alloc (.cells #[.int .i64 0,.int .i64 0] 44)).heap.size (w.alloc (.cells #[.int .i64 0,.int .i64 0] 44)) w1) (hI:PI 0 g iv nv ns I w1) :
  CS w w1.heap.size (w1.heap.size+1) g iv nv (.slice none 0 0) ns I [] (.int .i64 0) (.int .i64 0) ((w1.alloc (.cells #[.int .i64 0,.int .i64 0] 44)).alloc (.cells #[.pointer (some ⟨g,0,none⟩),.slice none 0 0,.slice none 0 0] 129)):=by
 have x1:Below w1.heap.size w1 (w1.alloc (.cells #[.int .i64 0,.int .i64 0] 44)):=brf.alloc nlr _
 have x2:Below (w1.alloc (.cells #[.int .i64 0,.int .i64 0] 44)).heap.size (w1.alloc (.cells #[.int .i64 0,.int .i64 0] 44)) ((w1.alloc (.cells #[.int .i64 0,.int .i64 0] 44)).alloc (.cells #[.pointer (some ⟨g,0,none⟩),.slice none 0 0,.slice none 0 0] 129)):=brf.alloc nlr _
 have s1:(w1.alloc (.cells #[.int .i64 0,.int .i64 0] 44)).heap.size=w1.heap.size+1:=by simp
 have s0:(w.alloc (.cells #[.int .i64 0,.int .i64 0] 44)).heap.size=w.heap.size+1:=by simp
 have hs:=hb.size
 have lg:=(ags hI.pm.pr).1
 have new:∀q,w1.heap.size<=q->q≠g/\nv.ownBlock≠some q/\iv.ownBlock≠some q/\∀x,x∈I->x.nv.ownBlock≠some q/\x.pv.ownBlock≠some q:=fun q hq=>
  ⟨by omega,fun e=>by have:=(hI.pm.nod.lt q e).2;omega,fun e=>by have:=(hI.own.lt q e).2;omega,fun x hx=>⟨fun e=>by have:=((hI.rows x hx).1.lt q e).2;omega,fun e=>by have:=((hI.rows x hx).2.lt q e).2;omega⟩⟩
 refine⟨⟨?_,(hI.below x1).below x2,World.ownsRow_nil _ _ _ _⟩,(fun k hk=>by cases hk),(x2.block _ (by omega)).trans (han w1 _),?_,?_,⟨by omega,by omega⟩,new _ nlr,new _ (by omega)⟩
 ·rw[<-s1];exact han (w1.alloc (.cells #[.int .i64 0,.int .i64 0] 44)) _
 ·exact (x2.block _ (by omega)).trans ((x1.block _ (by omega)).trans ((hb.block _ (by omega)).trans (han w _)))
 ·exact below_step (below_step (below_step (brf.alloc nlr _) hb) x1) x2
theorem compile_any (s:ByteArray) (w:World):Calls Tryz.prog 21 #[.string s] w (CpP w):=by
 go_enter Tryz.func21,Tryz.ntmps21
 go_wp2_with fail
 refine (rparse_any s _).mono ?_
 rintro r w1 ⟨hb,⟨fe,fa,hfe,rfl⟩|⟨g,iv,nv,ns,I,l,rfl,hp,hr,hI⟩⟩
 ·have q0:(fe != 0)=true:=by rw[bne_iff_ne];exact hfe
  have NZ:=hid hfe
  have XB:Hid (Below w.heap.size w w1):=below_step (brf.alloc nlr _) hb
  have XR:Hid (w1.heap[w.heap.size]?=some (.cells #[.int .i64 0,.int .i64 0] 44 (0,0))):=(hb.block _ (by simp)).trans (han w _)
  have X1:=bRow w1 #[.int .i64 fe,.int .i64 fa] 44
  clear hb hfe
  go_upto_region 2 with (fail)
  have XF:=nRow w1 #[.int .i64 fe,.int .i64 fa] 44
  have XR2:Hid ((w1.alloc (.cells #[.int .i64 fe,.int .i64 fa] 44)).heap[w.heap.size]?=some (.cells #[.int .i64 0,.int .i64 0] 44 (0,0))):=(X1.out.block _ (ags XR.out).1).trans XR.out
  have XB2:=hid (below_step XB.out X1.out)
  clear XR XB X1
  generalize (w1.alloc (.cells #[.int .i64 fe,.int .i64 fa] 44))=W at XF XR2 XB2 ⊢
  generalize w1.heap.size=fb at XF ⊢
  have HFA:Hid (W.heap[fb]?=some (.cells #[.int .i64 fe,.int .i64 fa] 44 (0,0))):=XF.out
  have HRB:Hid (W.heap[w.heap.size]?=some (.cells #[.int .i64 0,.int .i64 0] 44 (0,0))):=XR2.out
  have HBL:Hid (Below w.heap.size w W):=XB2.out
  have HNE:Hid (fb≠w.heap.size):=by
   intro e
   have h1:=HFA.out
   rw[e,HRB.out] at h1
   simp at h1
   exact NZ.out h1.1.symm
  have j0:∀w',Offs w.heap.size W w'->w'.cell? ⟨fb,0,none⟩=some (.int .i64 fe):=fun w' h=>h.cell HNE.out (two_at HFA.out).1
  have j1:∀w',Offs w.heap.size W w'->w'.cell? ⟨fb,1,none⟩=some (.int .i64 fa):=fun w' h=>h.cell HNE.out (two_at HFA.out).2.1
  have k0:=(two_at HFA.out).1
  obtain⟨g0,g1,z0⟩:=two_at HRB.out
  go_wp2_with fail
  clear k0
  go_region_held3 (fun w'=>Offs w.heap.size W w') (first|assumption|exact Offs.refl _ _|exact (Offs.refl _ _).drew|exact Offs.setCell (by assumption) _ _|exact Offs.setCell (Offs.setCell (by assumption) _ _) _ _|exact Offs.setCell (Offs.setCell (Offs.refl _ _).drew _ _) _ _|exact Offs.setCell (Offs.setCell (Offs.refl _ _) _ _) _ _) (fail)
  clear j0 j1 g0 g1 z0
  go_wp2_with fail
  obtain⟨a2,a3,_⟩:=two_setL (u:=.int .i64 fe) (v:=.int .i64 fa) HRB.out
  refine bodyPost_ret (v:=.tuple #[.pointer none,.agg #[.int .i64 fe,.int .i64 fa]]) (by simp[results,Tryz.results21,a2,a3,go_sem]) rfl ?_
  exact⟨⟨_,_,_,rfl⟩,((HBL.out.setCell nlr _).setCell nlr _).drew⟩
 ·obtain⟨k1,k2,k3⟩:=Mil.parsed_ok hp
  have IK:Hid (Ik ns I):=ik_of hr k1 k2 k3
  have C0:Hid (CS w w1.heap.size (w1.heap.size+1) g iv nv (.slice none 0 0) ns I [] (.int .i64 0) (.int .i64 0) ((w1.alloc (.cells #[.int .i64 0,.int .i64 0] 44)).alloc (.cells #[.pointer (some ⟨g,0,none⟩),.slice none 0 0,.slice none 0 0] 129))):=cs_start hb hI
  clear hb hp hr hI k1 k2 k3
  go_wp2_with fail
  generalize ((w1.alloc (.cells #[.int .i64 0,.int .i64 0] 44)).alloc (.cells #[.pointer (some ⟨g,0,none⟩),.slice none 0 0,.slice none 0 0] 129))=W at C0 ⊢
  generalize w1.heap.size+1=ub at C0 ⊢
  generalize w1.heap.size=fb at C0 ⊢
  refine (declare_any (fb+1) ub g iv nv (.slice none 0 0) ns I (by have:=C0.out.lt;omega) C0.out.un IK.out.len IK.out.names _ C0.out.um).mono ?_
  rintro r w4 ⟨fe,fa,F,fv,rfl,hUM,hUd,hBl,hFl,hFo⟩
  have HF:Hid (F.length<=60/\∀f,f∈F->FlOf I f):=⟨Nat.le_trans hFl IK.out.len,hFo⟩
  have C1:Hid (CS w fb ub g iv nv fv ns I F (.int .i64 0) (.int .i64 0) w4):=C0.out.call hUM hUd hBl
  clear C0 hUM hUd hBl hFl hFo
  obtain⟨x0,x1,xz⟩:=two_at C1.out.fa
  have C2:Hid (CS w fb ub g iv nv fv ns I F (.int .i64 fe) (.int .i64 fa) ((w4.setCell ⟨fb,0,none⟩ (.int .i64 fe)).setCell ⟨fb,1,none⟩ (.int .i64 fa))):=C1.out.put _ _
  go_upto_region 6 with (fail)
  clear x0 x1 xz C1
  generalize (w4.setCell ⟨fb,0,none⟩ (.int .i64 fe)).setCell ⟨fb,1,none⟩ (.int .i64 fa)=V1 at C2 ⊢
  by_cases hfe:fe=0
  ·subst hfe
   obtain⟨x0,x1,xz⟩:=two_at C2.out.fa
   clear x1 xz
   go_wp2_with fail
   clear x0
   refine (names_any (fb+1) ub g iv nv fv (.slice none 0 0) ns I F C2.out.ud (by have:=C2.out.lt;omega) HF.out.1 IK.out.len IK.out.trees IK.out.names _ C2.out.um).mono ?_
   rintro r w5 ⟨fe,fa,G,rfl,hL,hpe,hUM,hBl,hTr⟩
   have HTr:Hid ((fe:Int)=0->∀y,y∈I->y.im.kind=3->∃e,Mil.wf e false/\Ref.Has ns e y.im.expr/\Ref.Closed G e/\(Ref.namesIn e).length<=2000):=fun h y hy h3=>by
    obtain⟨e,k1,k2,k3,k4⟩:=hTr (by omega) y hy h3
    exact⟨e,k1,k2,closed_like hL k3,k4⟩
   have HF2:Hid (G.length<=60/\∀f,f∈G->FlOf I f):=⟨by rw[hL.len];exact HF.out.1,hL.fl hpe HF.out.2⟩
   have C3:Hid (CS w fb ub g iv nv fv ns I G (.int .i64 0) _ w5):=C2.out.call hUM C2.out.ud hBl
   clear C2 HF hL hpe hUM hBl hTr F
   rename List Ref.Fl=>F
   generalize ((fe:Nat):Int)=fe at HTr ⊢
   obtain⟨x0,x1,xz⟩:=two_at C3.out.fa
   have C4:Hid (CS w fb ub g iv nv fv ns I F (.int .i64 fe) (.int .i64 fa) ((w5.setCell ⟨fb,0,none⟩ (.int .i64 fe)).setCell ⟨fb,1,none⟩ (.int .i64 fa))):=C3.out.put _ _
   go_upto_region 8 with (fail)
   clear x0 x1 xz C3
   generalize (w5.setCell ⟨fb,0,none⟩ (.int .i64 fe)).setCell ⟨fb,1,none⟩ (.int .i64 fa)=V2 at C4 ⊢
   by_cases hfe:fe=0
   ·subst hfe
    obtain⟨x0,x1,xz⟩:=two_at C4.out.fa
    have HT:=HTr.out rfl
    have HI:Hid (Iok ns I F):=⟨IK.out.len,HF2.out.1,HT⟩
    have HRk:Hid (Rok ns I F):=by
     refine⟨HF2.out.1,IK.out.len,fun f hf=>?_,fun f hf=>?_,HT⟩
     ·obtain⟨y,h1,_,_,h4⟩:=HF2.out.2 f hf
      rw[h4]
      exact (IK.out.per y (List.mem_of_getElem? h1)).1
     ·obtain⟨y,h1,h2,_,h4⟩:=HF2.out.2 f hf
      refine⟨y,h1,fun h0=>?_⟩
      have hy:=List.mem_of_getElem? h1
      rcases IK.out.kind y hy with h|h|h
      ·have:=(IK.out.per y hy).2 h
       omega
      ·exact absurd h h2
      ·exact h
    clear x1 xz HT HTr
    go_wp2_with fail
    clear x0
    refine (types_any (fb+1) ub g iv nv fv (.slice none 0 0) ns I F HI.out _ C4.out.um).mono ?_
    rintro r w6 ⟨⟨fe,fa,rfl⟩,hb⟩
    have C5:Hid (CS w fb ub g iv nv fv ns I F (.int .i64 0) _ w6):=C4.out.read hb
    clear C4 hb HI
    obtain⟨x0,x1,xz⟩:=two_at C5.out.fa
    have C6:Hid (CS w fb ub g iv nv fv ns I F (.int .i64 fe) (.int .i64 fa) ((w6.setCell ⟨fb,0,none⟩ (.int .i64 fe)).setCell ⟨fb,1,none⟩ (.int .i64 fa))):=C5.out.put _ _
    go_upto_region 10 with (fail)
    clear x0 x1 xz C5
    generalize (w6.setCell ⟨fb,0,none⟩ (.int .i64 fe)).setCell ⟨fb,1,none⟩ (.int .i64 fa)=V3 at C6 ⊢
    by_cases hfe:fe=0
    ·subst hfe
     obtain⟨x0,x1,xz⟩:=two_at C6.out.fa
     clear x1 xz
     go_wp2_with fail
     clear x0
     refine (rates_any (fb+1) ub g iv nv fv (.slice none 0 0) ns I F C6.out.ud (by have:=C6.out.lt;omega) HRk.out _ C6.out.um).mono ?_
     rintro r w7 ⟨fe,fa,G,rfl,hL,hUM,hBl,hRk⟩
     have HU:Hid (Uok ns I G):=by
      refine⟨fun f hf=>?_,hRk.len,hRk.items,hRk.pe⟩
      obtain⟨j,hj,rfl⟩:=List.getElem_of_mem hf
      have hl:j < F.length:=by rw[<-hL.len];exact hj
      have at_:∀{α:Type} (q:Ref.Fl->α),G.map q=F.map q->q G[j]=q F[j]:=fun q e=>by
       have:=congrArg (·[j]?) e
       simpa [hj,hl] using this
      obtain⟨y,h1,h2,h3,_⟩:=HF2.out.2 F[j] (List.getElem_mem hl)
      refine⟨y,by rw[at_ Ref.Fl.item hL.2.2];exact h1,fun hi=>?_⟩
      rw[at_ Ref.Fl.inp hL.2.1,h3] at hi
      have hy:=List.mem_of_getElem? h1
      refine hRk.trees y hy ?_
      rcases IK.out.kind y hy with h|h|h
      ·rw[h] at hi;cases hi
      ·exact absurd h h2
      ·exact h
     have C7:Hid (CS w fb ub g iv nv fv ns I G (.int .i64 0) _ w7):=C6.out.call hUM C6.out.ud hBl
     clear C6 HF2 hL hUM hBl hRk HRk F
     rename List Ref.Fl=>F
     obtain⟨x0,x1,xz⟩:=two_at C7.out.fa
     have C8:Hid (CS w fb ub g iv nv fv ns I F (.int .i64 fe) (.int .i64 fa) ((w7.setCell ⟨fb,0,none⟩ (.int .i64 fe)).setCell ⟨fb,1,none⟩ (.int .i64 fa))):=C7.out.put _ _
     go_upto_region 12 with (fail)
     clear x0 x1 xz C7
     generalize (w7.setCell ⟨fb,0,none⟩ (.int .i64 fe)).setCell ⟨fb,1,none⟩ (.int .i64 fa)=V4 at C8 ⊢
     by_cases hfe:fe=0
     ·subst hfe
      obtain⟨x0,x1,xz⟩:=two_at C8.out.fa
      clear x1 xz
      go_wp2_with fail
      clear x0
      refine (cycles_any (fb+1) ub g iv nv fv (.slice none 0 0) ns I F HU.out _ C8.out.um).mono ?_
      rintro r w8 ⟨⟨fe,fa,rfl⟩,hb⟩
      have C9:Hid (CS w fb ub g iv nv fv ns I F (.int .i64 0) _ w8):=C8.out.read hb
      clear C8 hb
      obtain⟨x0,x1,xz⟩:=two_at C9.out.fa
      have CA:Hid (CS w fb ub g iv nv fv ns I F (.int .i64 fe) (.int .i64 fa) ((w8.setCell ⟨fb,0,none⟩ (.int .i64 fe)).setCell ⟨fb,1,none⟩ (.int .i64 fa))):=C9.out.put _ _
      go_upto_region 14 with (fail)
      clear x0 x1 xz C9
      generalize (w8.setCell ⟨fb,0,none⟩ (.int .i64 fe)).setCell ⟨fb,1,none⟩ (.int .i64 fa)=V5 at CA ⊢
      by_cases hfe:fe=0
      ·subst hfe
       obtain⟨x0,x1,xz⟩:=two_at CA.out.fa
       clear x1 xz
       go_wp2_with fail
       clear x0
       refine (plan_any (fb+1) ub g iv nv fv ns I F HU.out (by have:=CA.out.lt;omega) ⟨CA.out.un.1,CA.out.un.2.1,CA.out.un.2.2.1,(fun e=>(CA.out.ud ub e).1 rfl),CA.out.un.2.2.2⟩ _ CA.out.um).mono ?_
       rintro r w9 ⟨⟨v,rfl⟩,hb⟩
       have HRB:Hid (w9.heap[w.heap.size]?=some (.cells #[.int .i64 0,.int .i64 0] 44 (0,0))):=(hb.block _ (by have:=CA.out.lt;omega)).trans CA.out.rb
       have HBL:Hid (Below w.heap.size w w9):=CA.out.bl.trans (hb.mono (by have:=CA.out.lt;omega))
       obtain⟨g0,g1,z0⟩:=two_at HRB.out
       clear hb CA
       go_wp2_with fail
       obtain⟨a2,a3,_⟩:=two_setL (u:=.int .i64 0) (v:=.int .i64 0) HRB.out
       refine bodyPost_ret (v:=.tuple #[.pointer (some ⟨ub,0,none⟩),.agg #[.int .i64 0,.int .i64 0]]) (by simp[results,Tryz.results21,a2,a3,go_sem]) rfl ?_
       exact⟨⟨_,_,_,rfl⟩,(HBL.out.setCell nlr _).setCell nlr _⟩
      ·have q0:(fe != 0)=true:=by rw[bne_iff_ne];exact hfe
       have q1:(fe==0)=false:=by rw[beq_eq_false_iff_ne];exact hfe
       have NZ:=hid hfe
       clear hfe
       have HFA:Hid (V5.heap[fb]?=some (.cells #[.int .i64 fe,.int .i64 fa] 44 (0,0))):=CA.out.fa
       have HRB:Hid (V5.heap[w.heap.size]?=some (.cells #[.int .i64 0,.int .i64 0] 44 (0,0))):=CA.out.rb
       have HBL:Hid (Below w.heap.size w V5):=CA.out.bl
       have HNE:Hid (fb≠w.heap.size):=by
        intro e
        have h1:=HFA.out
        rw[e,HRB.out] at h1
        simp at h1
        exact NZ.out h1.1.symm
       have j0:∀w',Offs w.heap.size V5 w'->w'.cell? ⟨fb,0,none⟩=some (.int .i64 fe):=fun w' h=>h.cell HNE.out (two_at HFA.out).1
       have j1:∀w',Offs w.heap.size V5 w'->w'.cell? ⟨fb,1,none⟩=some (.int .i64 fa):=fun w' h=>h.cell HNE.out (two_at HFA.out).2.1
       have k0:=(two_at HFA.out).1
       obtain⟨g0,g1,z0⟩:=two_at HRB.out
       go_wp2_with fail
       clear k0
       go_region_held3 (fun w'=>Offs w.heap.size V5 w') (first|assumption|exact Offs.refl _ _|exact (Offs.refl _ _).drew|exact Offs.setCell (by assumption) _ _|exact Offs.setCell (Offs.setCell (by assumption) _ _) _ _|exact Offs.setCell (Offs.setCell (Offs.refl _ _).drew _ _) _ _|exact Offs.setCell (Offs.setCell (Offs.refl _ _) _ _) _ _) (fail)
       clear j0 j1 g0 g1 z0
       go_wp2_with fail
       obtain⟨a2,a3,_⟩:=two_setL (u:=.int .i64 fe) (v:=.int .i64 fa) HRB.out
       refine bodyPost_ret (v:=.tuple #[.pointer none,.agg #[.int .i64 fe,.int .i64 fa]]) (by simp[results,Tryz.results21,a2,a3,go_sem]) rfl ?_
       exact⟨⟨_,_,_,rfl⟩,((HBL.out.setCell nlr _).setCell nlr _).drew⟩
     ·have q0:(fe != 0)=true:=by rw[bne_iff_ne];exact hfe
      have q1:(fe==0)=false:=by rw[beq_eq_false_iff_ne];exact hfe
      have NZ:=hid hfe
      clear hfe
      have HFA:Hid (V4.heap[fb]?=some (.cells #[.int .i64 fe,.int .i64 fa] 44 (0,0))):=C8.out.fa
      have HRB:Hid (V4.heap[w.heap.size]?=some (.cells #[.int .i64 0,.int .i64 0] 44 (0,0))):=C8.out.rb
      have HBL:Hid (Below w.heap.size w V4):=C8.out.bl
      have HNE:Hid (fb≠w.heap.size):=by
       intro e
       have h1:=HFA.out
       rw[e,HRB.out] at h1
       simp at h1
       exact NZ.out h1.1.symm
      have j0:∀w',Offs w.heap.size V4 w'->w'.cell? ⟨fb,0,none⟩=some (.int .i64 fe):=fun w' h=>h.cell HNE.out (two_at HFA.out).1
      have j1:∀w',Offs w.heap.size V4 w'->w'.cell? ⟨fb,1,none⟩=some (.int .i64 fa):=fun w' h=>h.cell HNE.out (two_at HFA.out).2.1
      have k0:=(two_at HFA.out).1
      obtain⟨g0,g1,z0⟩:=two_at HRB.out
      go_wp2_with fail
      clear k0
      go_region_held3 (fun w'=>Offs w.heap.size V4 w') (first|assumption|exact Offs.refl _ _|exact (Offs.refl _ _).drew|exact Offs.setCell (by assumption) _ _|exact Offs.setCell (Offs.setCell (by assumption) _ _) _ _|exact Offs.setCell (Offs.setCell (Offs.refl _ _).drew _ _) _ _|exact Offs.setCell (Offs.setCell (Offs.refl _ _) _ _) _ _) (fail)
      clear j0 j1 g0 g1 z0
      go_wp2_with fail
      obtain⟨a2,a3,_⟩:=two_setL (u:=.int .i64 fe) (v:=.int .i64 fa) HRB.out
      refine bodyPost_ret (v:=.tuple #[.pointer none,.agg #[.int .i64 fe,.int .i64 fa]]) (by simp[results,Tryz.results21,a2,a3,go_sem]) rfl ?_
      exact⟨⟨_,_,_,rfl⟩,((HBL.out.setCell nlr _).setCell nlr _).drew⟩
    ·have q0:(fe != 0)=true:=by rw[bne_iff_ne];exact hfe
     have q1:(fe==0)=false:=by rw[beq_eq_false_iff_ne];exact hfe
     have NZ:=hid hfe
     clear hfe
     have HFA:Hid (V3.heap[fb]?=some (.cells #[.int .i64 fe,.int .i64 fa] 44 (0,0))):=C6.out.fa
     have HRB:Hid (V3.heap[w.heap.size]?=some (.cells #[.int .i64 0,.int .i64 0] 44 (0,0))):=C6.out.rb
     have HBL:Hid (Below w.heap.size w V3):=C6.out.bl
     have HNE:Hid (fb≠w.heap.size):=by
      intro e
      have h1:=HFA.out
      rw[e,HRB.out] at h1
      simp at h1
      exact NZ.out h1.1.symm
     have j0:∀w',Offs w.heap.size V3 w'->w'.cell? ⟨fb,0,none⟩=some (.int .i64 fe):=fun w' h=>h.cell HNE.out (two_at HFA.out).1
     have j1:∀w',Offs w.heap.size V3 w'->w'.cell? ⟨fb,1,none⟩=some (.int .i64 fa):=fun w' h=>h.cell HNE.out (two_at HFA.out).2.1
     have k0:=(two_at HFA.out).1
     obtain⟨g0,g1,z0⟩:=two_at HRB.out
     go_wp2_with fail
     clear k0
     go_region_held3 (fun w'=>Offs w.heap.size V3 w') (first|assumption|exact Offs.refl _ _|exact (Offs.refl _ _).drew|exact Offs.setCell (by assumption) _ _|exact Offs.setCell (Offs.setCell (by assumption) _ _) _ _|exact Offs.setCell (Offs.setCell (Offs.refl _ _).drew _ _) _ _|exact Offs.setCell (Offs.setCell (Offs.refl _ _) _ _) _ _) (fail)
     clear j0 j1 g0 g1 z0
     go_wp2_with fail
     obtain⟨a2,a3,_⟩:=two_setL (u:=.int .i64 fe) (v:=.int .i64 fa) HRB.out
     refine bodyPost_ret (v:=.tuple #[.pointer none,.agg #[.int .i64 fe,.int .i64 fa]]) (by simp[results,Tryz.results21,a2,a3,go_sem]) rfl ?_
     exact⟨⟨_,_,_,rfl⟩,((HBL.out.setCell nlr _).setCell nlr _).drew⟩
   ·have q0:(fe != 0)=true:=by rw[bne_iff_ne];exact hfe
    have q1:(fe==0)=false:=by rw[beq_eq_false_iff_ne];exact hfe
    have NZ:=hid hfe
    clear hfe
    have HFA:Hid (V2.heap[fb]?=some (.cells #[.int .i64 fe,.int .i64 fa] 44 (0,0))):=C4.out.fa
    have HRB:Hid (V2.heap[w.heap.size]?=some (.cells #[.int .i64 0,.int .i64 0] 44 (0,0))):=C4.out.rb
    have HBL:Hid (Below w.heap.size w V2):=C4.out.bl
    have HNE:Hid (fb≠w.heap.size):=by
     intro e
     have h1:=HFA.out
     rw[e,HRB.out] at h1
     simp at h1
     exact NZ.out h1.1.symm
    have j0:∀w',Offs w.heap.size V2 w'->w'.cell? ⟨fb,0,none⟩=some (.int .i64 fe):=fun w' h=>h.cell HNE.out (two_at HFA.out).1
    have j1:∀w',Offs w.heap.size V2 w'->w'.cell? ⟨fb,1,none⟩=some (.int .i64 fa):=fun w' h=>h.cell HNE.out (two_at HFA.out).2.1
    have k0:=(two_at HFA.out).1
    obtain⟨g0,g1,z0⟩:=two_at HRB.out
    go_wp2_with fail
    clear k0
    go_region_held3 (fun w'=>Offs w.heap.size V2 w') (first|assumption|exact Offs.refl _ _|exact (Offs.refl _ _).drew|exact Offs.setCell (by assumption) _ _|exact Offs.setCell (Offs.setCell (by assumption) _ _) _ _|exact Offs.setCell (Offs.setCell (Offs.refl _ _).drew _ _) _ _|exact Offs.setCell (Offs.setCell (Offs.refl _ _) _ _) _ _) (fail)
    clear j0 j1 g0 g1 z0
    go_wp2_with fail
    obtain⟨a2,a3,_⟩:=two_setL (u:=.int .i64 fe) (v:=.int .i64 fa) HRB.out
    refine bodyPost_ret (v:=.tuple #[.pointer none,.agg #[.int .i64 fe,.int .i64 fa]]) (by simp[results,Tryz.results21,a2,a3,go_sem]) rfl ?_
    exact⟨⟨_,_,_,rfl⟩,((HBL.out.setCell nlr _).setCell nlr _).drew⟩
  ·have q0:(fe != 0)=true:=by rw[bne_iff_ne];exact hfe
   have q1:(fe==0)=false:=by rw[beq_eq_false_iff_ne];exact hfe
   have NZ:=hid hfe
   clear hfe
   have HFA:Hid (V1.heap[fb]?=some (.cells #[.int .i64 fe,.int .i64 fa] 44 (0,0))):=C2.out.fa
   have HRB:Hid (V1.heap[w.heap.size]?=some (.cells #[.int .i64 0,.int .i64 0] 44 (0,0))):=C2.out.rb
   have HBL:Hid (Below w.heap.size w V1):=C2.out.bl
   have HNE:Hid (fb≠w.heap.size):=by
    intro e
    have h1:=HFA.out
    rw[e,HRB.out] at h1
    simp at h1
    exact NZ.out h1.1.symm
   have j0:∀w',Offs w.heap.size V1 w'->w'.cell? ⟨fb,0,none⟩=some (.int .i64 fe):=fun w' h=>h.cell HNE.out (two_at HFA.out).1
   have j1:∀w',Offs w.heap.size V1 w'->w'.cell? ⟨fb,1,none⟩=some (.int .i64 fa):=fun w' h=>h.cell HNE.out (two_at HFA.out).2.1
   have k0:=(two_at HFA.out).1
   obtain⟨g0,g1,z0⟩:=two_at HRB.out
   go_wp2_with fail
   clear k0
   go_region_held3 (fun w'=>Offs w.heap.size V1 w') (first|assumption|exact Offs.refl _ _|exact (Offs.refl _ _).drew|exact Offs.setCell (by assumption) _ _|exact Offs.setCell (Offs.setCell (by assumption) _ _) _ _|exact Offs.setCell (Offs.setCell (Offs.refl _ _).drew _ _) _ _|exact Offs.setCell (Offs.setCell (Offs.refl _ _) _ _) _ _) (fail)
   clear j0 j1 g0 g1 z0
   go_wp2_with fail
   obtain⟨a2,a3,_⟩:=two_setL (u:=.int .i64 fe) (v:=.int .i64 fa) HRB.out
   refine bodyPost_ret (v:=.tuple #[.pointer none,.agg #[.int .i64 fe,.int .i64 fa]]) (by simp[results,Tryz.results21,a2,a3,go_sem]) rfl ?_
   exact⟨⟨_,_,_,rfl⟩,((HBL.out.setCell nlr _).setCell nlr _).drew⟩
end
section
open Go.ChangeShapes Go.WideShapes Go.ChangeAt Go.RowKit Go.Deep
theorem ownKnobs:ownKnob Tryz.prog.godebug=none:=by kernel_rfl
theorem laidOuts:laidOutB Tryz.prog=true:=k_laidOut
theorem said (al a:Nat->Addr) (wb:Nat):Said (All al a) wb:=
 ⟨fun _ _ h hb=>h.below hb,fun s w h=>parsed_true al a s w h,fun s w h=>printed_any al a s w h,fun s w _=>compiled_any wb s w (compile_any s)⟩
theorem law_any (al a:Nat->Addr) (w:World) (h:All al a w) {H:Type} {enc:TypeId×Value->H} {v:Value} {d:DataW H} {p:List MemPlace} (h0:DataW.Trod enc Tryz.prog w 0 (fun _=>true) true 22 v d p) (hv:∃o n c,v=.slice o n c) (hw:∀y,y∈d.weights Tryz.prog 22->y<=reachBytes) :
  Calls Tryz.prog 3 #[v] w fun e w'=>e=.returned (.bool true)/\Below w.heap.size w w':=by
 obtain⟨o,n,c,rfl⟩:=hv
 obtain⟨fuel,hf⟩:=h0
 rcases open_script hf hw with ⟨o',c',e⟩|⟨b,off,n',c',e,hc⟩
 ·have e':(Value.slice o n c)=.slice o' 0 c':=by simpa [Value.cells] using e
  rw[e']
  exact parses_zero o' c' w
 ·have e':(Value.slice o n c)=.slice (some ⟨b,off,none⟩) n' c':=by simpa [Value.cells] using e
  rw[e']
  exact parses_some (said al a) b off n' c' w h hc
theorem door_met (os:Os) (args:Array Value):laidMetH Tryz.prog Rows.parsesRow.laid ((World.doorLaid Tryz.prog 4000 os).forCall (fun _ _=>0) ⟨#[],args,[]⟩).memory:=
 laidMetH_of_parts3 (fuel:=8) (laidMet_of_run' 8 (by kernel_rfl) (by kernel_rfl)) (by kernel_rfl) (by kernel_rfl)
theorem lifted (os:Os) (started:os.Started) (H:Type) (enc:TypeId×Value->H) :
  ReturnsInHanded {} Tryz.checked os 3 .any (fun w args=>(Rows.parsesSpec.pre enc Tryz.prog Tryz.f3 [] false w args/\laidMetH Tryz.prog Rows.parsesRow.laid w)/\sizedMet enc Tryz.prog Tryz.f3 (OpenSpec.ofChange Rows.parsesSpec) false w args)
   (Rows.parsesSpec.post enc Tryz.prog Tryz.f3 false true false false):=by
 refine returnsInHanded_of_change_and (C:=Tryz.checked) (X:=fun w _=>laidMetH Tryz.prog Rows.parsesRow.laid w) (fun _ _ _ hh h=>h.of_heap hh) ownKnobs started (by kernel_rfl) Tryz.func3
  (ChangeSpec.witness_shaped (enc:=enc) (C:=Tryz.checked) (os:=os) (X:=fun w _=>laidMetH Tryz.prog Rows.parsesRow.laid w) false (World.doorLaid Tryz.prog 4000 os) #[.slice none 0 0] 8 rfl (World.shaped_of_RefB (by kernel_rfl) (by kernel_rfl)) (by kernel_rfl) (by kernel_rfl) (by kernel_rfl) (door_met os _)) ?_
 intro W base args ds gs before hval0 hW _ hsz0 hL _
 have hsz:(DataW.weightsEach Tryz.prog (Tryz.f3.params.toList++Rows.parsesSpec.plain.varTypes Tryz.prog) (ds++gs)).all (·<=reachBytes)=true:=hsz0
 have hval:∀(j:Nat) t v,Tryz.f3.params[j]?=some t->args[j]?=some v->Value.okWide Tryz.prog W .any base t v:=hval0
 have hW':=hW
 obtain⟨p,q,hA0,hV,rfl,hfz,hnd⟩:=hW
 have hA:DataW.TrodAll enc Tryz.prog W 0 (fun _=>true) true Tryz.f3.params.toList args.toList ds p:=hA0
 rw[Tryz.params3] at hA hval hsz
 obtain⟨v0,d0,hargs,rfl,h0⟩:=trodAll_one hA
 obtain⟨rfl,rfl⟩:=trodVars_none hV
 have hw:∀y,y∈d0.weights Tryz.prog 22->y<=reachBytes:=fun y hy=>by
  have:=List.all_eq_true.1 hsz y (weightsEach_at (i:=0) hy rfl rfl)
  simpa using this
 obtain⟨al,a,hE,hP,e1,e2,e3,e4,hD⟩:=of_laid hL
 have hargs':args=#[v0]:=by
  cases args with|mk l=>simp at hargs;rw[hargs]
 subst hargs'
 have hsl:=okWide_slice Tryz.underlying22 (hval 0 22 v0 rfl rfl)
 have hlt:∀x∈p,x.block < W.heap.size:=fun x hx=>by simpa using hW'.lt x (List.mem_append_left _ hx)
 refine (law_any al a W ⟨hP,hE,⟨e1,e2,e3,e4⟩,hD⟩ h0 hsl hw).mono fun e W' ⟨he,hb⟩=>?_
 subst he
 refine⟨_,rfl,_,_,_,[],p,[],hW',?_,?_,?_,hb.frame _,fun h=>by cases h⟩
 ·exact trodAll_mk1 (shut_bool Tryz.underlying4 true)
 ·exact trodAll_mk1 (Below.trod laidOuts (by kernel_rfl) (of_decide_eq_true (by kernel_rfl)) h0 hb hlt)
 ·rfl
theorem parses_holds:Rows.ParsesSaid:=
 OpenClaim.holds_of_wide 3 Tryz.f3 rfl rfl rfl rfl rfl rfl rfl ⟨rfl,rfl,rfl,rfl,rfl⟩ rfl rfl rfl rfl rfl (by kernel_rfl) Tryz.func3 parses_closed
  (of_decide_eq_true (by kernel_rfl)) (by unfold Func.isWrapper;first|(rw[if_pos (by decide +kernel)];kernel_rfl)|(rw[if_neg (by decide +kernel)];exact⟨rfl,rfl⟩))
  (fun os started H enc _=>lifted os started H enc)
#print axioms parses_holds
end
section
open Go
theorem parses_card:Rows.ParsesCardSaid:=
 Claim7.holds_tied_plain_at .later [] [.data, .data, .data, .handle, .sentinel, .sentinel, .sentinel, .sentinel, .sentinel, .sentinel, .sentinel, .sentinel, .sentinel, .sentinel, .sentinel, .sentinel, .sentinel, .sentinel, .sentinel, .sentinel, .sentinel, .sentinel, .sentinel, .data, .data, .data, .data] true (true, "97dbc5b4873f983f8cfa8c2afe095fb2dfbec3fc7205f7a1ed54f98c0b33d169") true
  parses_holds (fun _ h=>by cases h) (by kernel_rfl) (fun _ h=>by cases h) parses_row_tie rfl ⟨rfl,rfl⟩ (by kernel_rfl) rfl
  (fun f fn hf hfn=>by
   obtain rfl : f = 3 := Option.some.inj ((show Tryz.prog.funcNamed "ratemill/ratemilllaw.Parses" = some 3 by kernel_rfl).symm.trans hf) |>.symm
   obtain rfl:fn=Tryz.f3:=(osi (Tryz.func3.symm.trans hfn)).symm
   exact⟨by kernel_rfl,fun j t ht=>by
    rw[Tryz.params3] at ht
    have hm:t∈[22]:=by simpa using Array.mem_of_getElem? ht
    have hall:([22].all fun u=>!Tryz.prog.wantsStandIn u)=true:=by kernel_rfl
    exact (show Tryz.prog.wantsStandIn t=false by simpa using List.all_eq_true.1 hall t hm)⟩)
  (by kernel_rfl)
#print axioms parses_card
end
end Go.Proofs.YtoiajojadihpbaaGreatDoor
