import Derived.Test.YtjehljjlcifndaaGreatDoorX47
import Derived.Test.YtjehljjlcifndaaGreatDoorX40
import Derived.BigQuiet
namespace Go.Proofs.YtjehljjlcifndaaGreatDoor
set_option maxHeartbeats 32000000
set_option maxRecDepth 100000
section
open Go.RowKit
theorem Lst.jq {w:World} {v:Value} {xs:List Nat} (h:Lst w v xs) (h60:xs.length<=60):Jq w v xs:=by
 rcases h with ⟨rfl,rfl⟩|⟨g,cap,⟨_,h1⟩,rfl,_,h2⟩
 ·exact Or.inl ⟨rfl,_,_,rfl⟩
 ·refine Or.inr ⟨g,0,cap,rfl,h1,h60,fun i x hx=>?_⟩
  rw[Nat.zero_add]
  exact h2 i x hx
theorem Lst.shp {w:World} {v:Value} {xs:List Nat} (h:Lst w v xs):∃o n c,v=.slice o n c:=by
 rcases h with ⟨_,rfl⟩|⟨g,cap,_,rfl,_⟩
 ·exact⟨_,_,_,rfl⟩
 ·exact⟨_,_,_,rfl⟩
theorem rall_q:∃ρ,Rall2 ρ:=⟨fun x=>(reckoning_ex (bs x)).choose,fun x=>(reckoning_ex (bs x)).choose_spec⟩
abbrev oU (N:Nat) (l:List Mip.It) (U:List (Nat×Value)) (t:Nat):List Nat:=ordOf (dcl N l).2.m (prd N l) (dcl N l).2.Q (ptU U t)
theorem tw_len' {m:Mil.Bytes->Option Int} {F:List Flo} {Q:List Nq} {B:Nat} {w:World} {v:Value} {U:List (Nat×Value)} (h:Tw m F Q B w v U):U.length<=Q.length:=by
 have h1:=Mip.len_le (U.map Prod.fst) (Q.map fun q=>perAt F q.flow) (flows_nodup h.up) (fun p hp=>by
  obtain⟨q,h1,h2⟩:=(h.all p).1 hp
  exact List.mem_map.2 ⟨q,h1,h2⟩)
 simpa using h1
structure Mw (ρ:Mil.Bytes->Int->Int->Int) (B0 N:Nat) (l:List Mip.It) (w:World) (P:Nat) (of ot:Option Addr) (cf ct g:Nat) (U:List (Nat×Value)) (r:Nat->Nat):Prop where
 blk:w.heap[P]?=some (.cells #[.slice of (prd N l).length cf,.slice ot U.length ct,.slice (some ⟨g,0,none⟩) (prd N l).length (prd N l).length] 57 (0,0))
 pt:Ptm (prd N l) U (oU N l U) w (.slice of (prd N l).length cf) (.slice ot U.length ct)
 pm:Pm (dcl N l).2.m ρ (prd N l) (dcl N l).2.Q r w (.slice (some ⟨g,0,none⟩) (prd N l).length (prd N l).length) B0
 tp:Tp (dcl N l).2.m (prd N l) (dcl N l).2.Q r U.length (ptU U) (oU N l U)
 f60:(prd N l).length<=60
 u60:U.length<=60
 up:(U.map Prod.fst).Pairwise (· < ·)
 all:∀p,p∈U.map Prod.fst↔∃q∈(dcl N l).2.Q,perAt (prd N l) q.flow=p
theorem mw_ex {ρ:Mil.Bytes->Int->Int->Int} {B0 N:Nat} {l:List Mip.It} {w:World} {P:Nat} (hi:Items l) (h:Prg ρ B0 N l w P):∃of ot cf ct g U r,Mw ρ B0 N l w P of ot cf ct g U r:=by
 obtain⟨fv,tv,wv,U,B,B',h1,h2,h3,h4⟩:=h.blk
 obtain⟨r,hC⟩:=cd_ex hi h.ok h.len.1 h.len.2
 obtain⟨of,cf,rfl⟩:=own_shape h2
 obtain⟨ot,ct,rfl⟩:=own_shape h3.row
 obtain⟨g,hg⟩:∃g,wv=.slice (some ⟨g,0,none⟩) (prd N l).length (prd N l).length:=by
  obtain⟨g,_,_,e,_⟩:=h4
  exact⟨g,e⟩
 subst hg
 have hf60:(prd N l).length<=60:=by rw[prd_len];exact h.len.1
 have hu60:U.length<=60:=Nat.le_trans (tw_len' h3) h.len.2
 have tp:=tp_ex hi h.ok h.len.2 hC h3.up h3.all
 refine⟨of,ot,cf,ct,g,U,r,⟨h1,⟨⟨_,h2⟩,⟨_,h3.row⟩,hf60,hu60,tp.pos,fun u hu=>?_,fun i u hu=>?_⟩,⟨hC,h4,tp.fit,hf60⟩,tp,hf60,hu60,h3.up,h3.all⟩⟩
 ·obtain⟨t,ht⟩:=List.getElem?_of_mem hu
  have:=tp.ptp t (lgs ht).1
  rw[ptU_of ht] at this
  exact⟨this,(h3.lst u hu).shp⟩
 ·have hlt:=(lgs hu).1
  show Jq w u.2 (ordOf _ _ _ (ptU U i))
  have hlen:(oU N l U i).length<=(List.range (prd N l).length).length:=Mip.len_le _ _ (tp.nd i hlt) (fun x hx=>by
   obtain⟨_,_,_,_,hl⟩:=tp.at_ hlt hx
   exact List.mem_range.2 hl)
  rw[List.length_range] at hlen
  have hl2:=Nat.le_trans hlen hf60
  unfold oU at hl2
  rw[ptU_of hu] at hl2 ⊢
  exact (h3.lst u (List.mem_of_getElem? hu)).jq hl2
end
section
open Go.RowKit
def Fsh (B:Nat) (v:Value):Prop:=∀g,v.ownBlock=some g->B<=g
theorem clone_keeps {w:World} {v:Value} {L:List Nat} (h:Lst w v L) (hL:L.length<=1000000):Calls Tryz.prog 47 #[v] w fun e w'=>∃v',e=.returned v'/\Lst w' v' L/\Below w.heap.size w w'/\Fsh w.heap.size v':=by
 by_cases hne:L=[]
 ·rcases h with ⟨_,rfl⟩|⟨g,cap,h1,_⟩
  ·refine (Tryz.slices_Clone_nil 0 0 w).mono ?_
   rintro E w' ⟨rfl,rfl⟩
   exact⟨_,rfl,Or.inl ⟨hne,rfl⟩,Below.refl _ _,fun g hg=>by cases hg⟩
  ·exact absurd hne h1.1
 ·refine (clone_lst h hL).mono ?_
  rintro E w' ⟨v',rfl,h1,h2⟩
  exact⟨v',rfl,Ndr.lst ⟨h1,fun e=>absurd e hne⟩,h2,fun g hg=>(own_lt h1 g hg).1⟩
theorem tks_set (v:Value):∀(U:List (Nat×Value)) (j:Nat) (p:Nat) (u:Value),U[j]?=some (p,u)->tks (U.set j (p,v))=(tks U).set (j*2+1) v
 | [],j,p,u,h=>by simp at h
 | x::r,0,p,u,h=>by
  have e:x=(p,u):=by simpa using h
  subst e
  show tks ((p,v)::r)=_
  unfold tks
  rw[List.flatMap_cons,List.flatMap_cons,List.set_append_left _ _ (by show 0*2+1 < 2;omega)]
  rfl
 | x::r,j+1,p,u,h=>by
  have ih:=tks_set v r j p u (by simpa using h)
  show tks (x::r.set j (p,v))=_
  unfold tks at ih ⊢
  rw[List.flatMap_cons,List.flatMap_cons,ih,List.set_append_right _ _ (by show 2<=_;omega)]
  have e:(j+1)*2+1 - (tkC x).length=j*2+1:=by show (j+1)*2+1 - 2=_;omega
  rw[e]
theorem tks_len (U:List (Nat×Value)):(tks U).length=U.length*2:=by
 induction U with
 | nil=>rfl
 | cons f r ih=>
  unfold tks at ih ⊢
  rw[List.flatMap_cons,List.length_append,ih,List.length_cons]
  show 2+_=_
  omega
theorem ord_len (nd:Nat->List Nat) (l:List Nat):∀n acc,(Mip.ord nd l n acc).length<=acc.length+n
 | 0,acc=>Nat.le_refl _
 | n+1,acc=>by
  rw[Mip.ord]
  cases l.find? (Mip.rdy nd l acc) with
  | none=>have:=ord_len nd l n acc;show (Mip.ord nd l n acc).length<=_;omega
  | some f=>have:=ord_len nd l n (acc++[f]);rw[List.length_append] at this;show (Mip.ord nd l n (acc++[f])).length<=_;simp at this;omega
theorem ordOf_len (m:Mil.Bytes->Option Int) (F:List Flo) (Q:List Nq) (p:Nat):(ordOf m F Q p).length<=Q.length:=by
 have h1:=ord_len (ndf m Q) ((part F Q p).map Nq.flow) (part F Q p).length []
 have h2:(part F Q p).length<=Q.length:=List.length_filter_le _ _
 unfold ordOf
 simp at h1
 omega
def TqPost (N:Nat) (l:List Mip.It) (w:World) (E:Ending) (w':World):Prop:=Below w.heap.size w w'/\∃v U,E=.returned v/\Tw (dcl N l).2.m (prd N l) (dcl N l).2.Q w.heap.size w' v U/\∀u∈U,Fsh w.heap.size u.2
theorem tasksOf_any {ρ:Mil.Bytes->Int->Int->Int} {B0 N:Nat} {l:List Mip.It} {w:World} {P:Nat} (h:Prg ρ B0 N l w P) (hU:∀(B:Nat) (tv:Value) (U:List (Nat×Value)),Tw (dcl N l).2.m (prd N l) (dcl N l).2.Q B w tv U->U.length<=1000):Calls Tryz.prog 28 #[.pointer (some ⟨P,0,none⟩)] w (TqPost N l w):=by
 obtain⟨fv,tv,wv,U,B,B',h1,h2,h3,_⟩:=h.blk
 have c1:w.cell? ⟨P,1,none⟩=some tv:=(cor w P 1 _ _ _ h1).trans rfl
 have hU6:=hU B' tv U h3
 have hQ:(dcl N l).2.Q.length<=60:=h.len.2
 obtain⟨i0,hi0,jz0,jz1,jz2⟩:=info_parts Tryz.infoTask
 generalize hm:(dcl N l).2.m=m at h3
 generalize hq:(dcl N l).2.Q=Q at h3 hQ
 generalize hF:prd N l=F at h3
 rcases h3.row.2 with ⟨e,e'⟩|⟨g,cap,cur,e,_⟩
 ·subst e
  have hUn:U=[]:=List.length_eq_zero_iff.1 e'
  subst hUn
  have HT:Hid (Tw m F Q B' w (.slice none 0 0) []):=h3
  clear h1 h2 h3 h e' hU hU6
  go_enter Tryz.func28,Tryz.ntmps28
  go_wp2_with fail
  refine (Tryz.clone_task_nil 0 0 w).mono ?_
  rintro E w2 ⟨rfl,rfl⟩
  go_wp2_with fail
  go_loopg [14] 0 (fun gk s14 wr=>s14=.int .i64 0/\wr=w2)
  case atStart=>exact⟨rfl,rfl⟩
  case round=>
   obtain⟨rfl,rfl⟩:=hrel
   go_wp2
   go_ret
   refine⟨Below.refl _ _,_,[],rfl,?_⟩
   rw[hm,hq,hF]
   exact⟨⟨World.ownsRow_nil _ _ _ _,HT.out.up,HT.out.all,HT.out.lst⟩,fun u hu=>by cases hu⟩
 ·have h3':=h3.row
  rw[e] at h3' c1
  have HCL:=Tryz.clone_task i0 _ 2 32 hi0 jz0 jz1 jz2 rfl (by decide) Tryz.sizeTask g 0 U.length cap (tks U) w (tks_len _) (by unfold maxLen;omega) (by omega) (fun j u hu=>by rw[Nat.zero_add];exact own_cell h3' hu) (fun u hu=>by
   obtain⟨x,hx,h⟩:=List.mem_flatMap.1 hu
   obtain⟨s1,s2,s3,hs⟩:=(h3.lst x hx).shape
   simp[tkC,hs] at h
   rcases h with rfl|rfl <;> rfl)
  have HT:Hid (Tw m F Q B' w tv U):=h3
  have HQ6:Hid (Q.length<=60):=hQ
  have HMF:Hid ((dcl N l).2.m=m/\(dcl N l).2.Q=Q/\prd N l=F):=⟨hm,hq,hF⟩
  clear h1 h2 h3 h h3' hU hm hq hF hQ
  go_enter Tryz.func28,Tryz.ntmps28
  go_wp2_with fail
  refine HCL.mono ?_
  rintro E W ⟨v',rfl,hr,hnn,hb⟩
  obtain⟨o1,c1',hs⟩:=own_shape hr
  subst hs
  have HR:Hid (W.ownsRow w.heap.size 72 2 (.slice o1 U.length c1') U.length (tks U)/\Below w.heap.size w W):=⟨hr,hb⟩
  have HL0:Hid (∀u∈U,Lst W u.2 (ordOf m F Q u.1)):=fun u hu=>(HT.out.lst u hu).below hb
  clear hr hb HCL hnn
  go_wp2_with fail
  go_loopg [14] U.length (fun gk s14 wr=>∃(j:Nat) (V:List (Nat×Value)),j<=U.length/\s14=.int .i64 (j:Nat)/\gk=U.length - j/\Hid (V.map Prod.fst=U.map Prod.fst)/\Hid (Below w.heap.size w wr)/\Hid (wr.ownsRow w.heap.size 72 2 (.slice o1 U.length c1') U.length (tks V))/\Hid (∀u∈V,Lst wr u.2 (ordOf m F Q u.1))/\Hid (∀(i:Nat) (x:Nat×Value),i < j->V[i]?=some x->Fsh w.heap.size x.2))
  case atStart=>exact⟨0,U,Nat.zero_le _,rfl,rfl,rfl,HR.out.2,HR.out.1,HL0,fun i x hi _=>absurd hi (Nat.not_lt_zero _)⟩
  case round=>
   obtain⟨j,V,hj,rfl,hg,KV,KB,KR,KL,KF⟩:=hrel
   have HG:Hid (gk=U.length - j):=hg
   have HVL:Hid (V.length=U.length):=by have h:=congrArg List.length KV.out;show V.length=U.length;simpa using h
   clear hg HR HL0
   by_cases hlt:j < U.length
   ·have HLT:Hid (j < U.length):=hlt
    obtain⟨⟨p,u⟩,hq⟩:∃x,V[j]?=some x:=⟨_,List.getElem?_eq_getElem (by rw[HVL.out];exact hlt)⟩
    have HQV:Hid (V[j]?=some (p,u)):=hq
    obtain⟨g1,rfl⟩:∃g1,o1=some ⟨g1,0,none⟩:=by
     rcases KR.out.2 with ⟨_,e⟩|⟨g1,cap1,cur1,e,_⟩
     ·omega
     ·injection e with e1 _ _
      exact⟨g1,e1⟩
    have hcu:wr.cell? ⟨g1,j*2+1,none⟩=some u:=own_cell KR.out ((flat_at tkC 2 (fun _=>rfl) V j 1 (p,u) hq (by decide)).trans rfl)
    have HLU:Hid (Lst wr u (ordOf m F Q p)):=KL.out (p,u) (List.mem_of_getElem? hq)
    obtain⟨s1,s2,s3,hs⟩:=HLU.out.shape
    subst hs
    have h0:(0:Int)<=(j:Int):=by omega
    have h1:(j:Int) < (U.length:Int):=by omega
    clear hq
    go_wp2_with fail
    refine (clone_keeps HLU.out (by have:=ordOf_len m F Q p;have:=HQ6.out;omega)).mono ?_
    rintro E w2 ⟨v2,rfl,hl2,hb2,hf2⟩
    have KR2:Hid (w2.ownsRow w.heap.size 72 2 (.slice (some ⟨g1,0,none⟩) U.length c1') U.length (tks V)):=own_kept KR.out (fun g hg=>hb2.block g (lt_of_heap (own_lt KR.out g hg).2.choose_spec))
    obtain⟨r1,r2,r3,hs2⟩:=hl2.shape
    subst hs2
    have hgc:=(own_lt KR2.out g1 rfl).2
    have z2:w2.frozen? ⟨g1,j*2+1,none⟩=false:=by
     obtain⟨cur1,hcur⟩:=hgc
     unfold World.frozen?;rw[hcur];simp
    have c2:w2.cell? ⟨g1,j*2+1,none⟩=some (.slice s1 s2 s3):=own_cell KR2.out ((flat_at tkC 2 (fun _=>rfl) V j 1 (p,.slice s1 s2 s3) HQV.out (by decide)).trans rfl)
    have HR3:Hid ((w2.setCell ⟨g1,j*2+1,none⟩ (.slice r1 r2 r3)).ownsRow w.heap.size 72 2 (.slice (some ⟨g1,0,none⟩) U.length c1') U.length (tks (V.set j (p,.slice r1 r2 r3)))):=by
     show World.ownsRow _ _ _ _ _ _ _
     rw[tks_set _ V j p _ HQV.out]
     exact own_set KR2.out _ _
    have HB3:Hid (Below w.heap.size w (w2.setCell ⟨g1,j*2+1,none⟩ (.slice r1 r2 r3))):=(below_step KB.out hb2).setCell (own_lt KR2.out g1 rfl).1 _
    have HL3:Hid (∀x∈V.set j (p,Value.slice r1 r2 r3),Lst (w2.setCell ⟨g1,j*2+1,none⟩ (.slice r1 r2 r3)) x.2 (ordOf m F Q x.1)):=fun x hx=>by
     obtain⟨cur1,hcur⟩:=hgc
     have hl:Lst w2 x.2 (ordOf m F Q x.1):=by
      rcases List.mem_or_eq_of_mem_set hx with h|h
      ·exact (KL.out x h).below hb2
      ·rw[h];exact hl2
     exact hl.set hcur (by decide)
    have HV3:Hid ((V.set j (p,Value.slice r1 r2 r3)).map Prod.fst=U.map Prod.fst):=by
     show _=_
     rw[List.map_set,<-KV.out]
     apply List.ext_getElem?
     intro i
     rw[List.getElem?_set]
     by_cases e:j=i
     ·subst e
      rw[if_pos rfl,List.getElem?_map,HQV.out,if_pos (by rw[List.length_map,HVL.out];exact HLT.out)];rfl
     ·rw[if_neg e]
    have HF3:Hid (∀(i:Nat) (x:Nat×Value),i < j+1->(V.set j (p,Value.slice r1 r2 r3))[i]?=some x->Fsh w.heap.size x.2):=fun i x hi hx=>by
     rw[List.getElem?_set] at hx
     by_cases e:j=i
     ·rw[if_pos e] at hx
      split at hx
      ·obtain rfl:=osi hx
       exact fun g hg=>Nat.le_trans KB.out.size (hf2 g hg)
      ·cases hx
     ·rw[if_neg e] at hx
      exact KF.out i x (by omega) hx
    clear hb2 hl2 hgc hcu hf2
    go_wp2
    go_roundg (U.length - (j+1))
    case measure=>have:=HG.out;have:=HLT.out;omega
    case rel=>exact⟨j+1,_,HLT.out,by go_num,rfl,HV3,HB3,HR3,HL3,HF3⟩
   ·have hle:(U.length:Int)<=(j:Int):=by omega
    go_wp2
    go_ret
    refine⟨KB.out,_,V,rfl,?_⟩
    rw[HMF.out.1,HMF.out.2.1,HMF.out.2.2]
    have hr:=KR.out
    refine⟨⟨?_,by rw[KV.out];exact HT.out.up,fun p=>by rw[KV.out];exact HT.out.all p,KL.out⟩,fun u hu=>by
     obtain⟨i,hi⟩:=List.getElem?_of_mem hu
     have:=(lgs hi).1
     rw[HVL.out] at this
     exact KF.out i u (by omega) hi⟩
    rw[HVL.out]
    exact hr
end
section
open Go.RowKit
namespace Mip
theorem Parsed.unique {b:Mil.Bytes} {x y:List It} (h:Parsed b x) (k:Parsed b y):x=y:=by
 obtain⟨n,h⟩:=h
 obtain⟨m,k⟩:=k
 unfold parse at h k
 by_cases c:4000 < b.length
 ·rw[if_pos c] at h;cases h
 ·rw[if_neg c] at h k
  obtain⟨s,h1,h2⟩:=obs h
  obtain⟨s',k1,k2⟩:=obs k
  obtain rfl:=osi (h1.symm.trans k1)
  exact osi ((pprog_le n (n+m) _ _ x (by omega) h2).symm.trans (pprog_le m (n+m) _ _ y (by omega) k2))
def txA:Mil.Bytes:=[105,110,112,117,116,32,120,32,58,32,105,110,116,32,101,118,101,114,121,32,50,59,32,115,32,58,32,105,110,116,32,61,32,120,32,43,32,102,98,121,40,48,44,32,115,41,59,32,117,32,58,32,105,110,116,32,61,32,117,110,100,101,114,40,115,44,32,50,41,59,32,104,32,58,32,105,110,116,32,61,32,104,111,108,100,40,55,44,32,117,44,32,50,41,32,43,32,115,59,32,111,117,116,112,117,116,32,104,59]
def lsA:List It:=(parse 60 txA).getD []
theorem parsedA:Parsed txA lsA:=⟨60,by kernel_rfl⟩
def txB:Mil.Bytes:=[97,32,58,32,105,110,116,32,61,32,98,59,32,98,32,58,32,105,110,116,32,61,32,97,32,43,32,49,59]
def lsB:List It:=(parse 60 txB).getD []
theorem parsedB:Parsed txB lsB:=⟨60,by kernel_rfl⟩
def txC:Mil.Bytes:=[105,110,112,117,116,32,120,32,58,32,105,110,116,32,101,118,101,114,121,32,49,59,32,97,32,58,32,105,110,116,32,61,32,98,32,43,32,120,59,32,98,32,58,32,105,110,116,32,61,32,97,59]
def lsC:List It:=(parse 60 txC).getD []
theorem parsedC:Parsed txC lsC:=⟨60,by kernel_rfl⟩
end Mip
def goodC (N:Nat) (l:List Mip.It):Bool:=
 (dcl N l).1.isNone && (rsv N l).1.isNone && (dcl N l).2.Q.all (fun q=>Mip.tyOf (dcl N l).2.m (rsv N l).2 q.body==some q.ty)
def goodD (N:Nat) (l:List Mip.It):Bool:=
 (freeAt (prd N l) (dcl N l).2.Q).isNone && (dcl N l).2.Q.all (fun q=>Mip.pfault (dcl N l).2.m (prd N l) q.body==none && Mip.perOf (dcl N l).2.m (prd N l) q.body==perAt (prd N l) q.flow) && !tooGreat 1 (prd N l)
theorem okk_three {N:Nat} {l:List Mip.It} (h:goodC N l=true):okk N l 3:=by
 simp only[goodC,Bool.and_eq_true,Option.isNone_iff_eq_none,List.all_eq_true,beq_iff_eq] at h
 exact⟨fun _=>h.1.1,fun _=>h.1.2,fun _=>h.2,fun e=>by omega,fun e=>by omega,fun e=>by omega,fun e=>by omega⟩
theorem okk_six {N:Nat} {l:List Mip.It} (h:goodC N l=true) (k:goodD N l=true):okk N l 6:=by
 have h3:=okk_three h
 simp only[goodD,Bool.and_eq_true,Option.isNone_iff_eq_none,List.all_eq_true,beq_iff_eq,Bool.not_eq_true'] at k
 exact⟨fun _=>h3.1 (by omega),fun _=>h3.2.1 (by omega),fun _=>h3.2.2.1 (by omega),fun _=>k.1.1,fun _=>k.1.2,fun _=>k.2,fun e=>by omega⟩
theorem goodA:goodC 109 Mip.lsA=true/\goodD 109 Mip.lsA=true:=⟨by kernel_rfl,by kernel_rfl⟩
theorem goodB:goodC 29 Mip.lsB=true:=by kernel_rfl
theorem goodCC:goodC 52 Mip.lsC=true/\goodD 52 Mip.lsC=true:=⟨by kernel_rfl,by kernel_rfl⟩
theorem freeB:freeAt (prd 29 Mip.lsB) (dcl 29 Mip.lsB).2.Q=some 29:=by kernel_rfl
theorem ndf_none {m:Mil.Bytes->Option Int} {Q:List Nq} {a:Nat} (h:Q.all (fun q=>q.flow != a)=true):ndf m Q a=[]:=by
 unfold ndf
 rw[List.find?_eq_none.2 (fun q hq=>by have:=List.all_eq_true.1 h q hq;simpa using this)]
 rfl
def qA:List Nq:=(dcl 109 Mip.lsA).2.Q
def mA:Mil.Bytes->Option Int:=(dcl 109 Mip.lsA).2.m
theorem flowsA:qA.map Nq.flow=[1,2,3]:=by kernel_rfl
theorem ndA:ndf mA qA 1=[0]/\ndf mA qA 2=[1]/\ndf mA qA 3=[1]:=⟨by kernel_rfl,by kernel_rfl,by kernel_rfl⟩
theorem memA {q:Nq} (h:q∈qA):q.flow=1\/q.flow=2\/q.flow=3:=by
 have:q.flow∈qA.map Nq.flow:=List.mem_map.2 ⟨q,h,rfl⟩
 rw[flowsA] at this
 simpa using this
theorem rankA (a b:Nat) (h:b∈ndf mA qA a):b < a:=by
 by_cases h1:a=1
 ·subst h1;rw[ndA.1] at h;simp at h;omega
 by_cases h2:a=2
 ·subst h2;rw[ndA.2.1] at h;simp at h;omega
 by_cases h3:a=3
 ·subst h3;rw[ndA.2.2] at h;simp at h;omega
 ·rw[ndf_none (List.all_eq_true.2 fun q hq=>by rcases memA hq with e|e|e <;> simp[e] <;> omega)] at h
  cases h
theorem okA:okk 109 Mip.lsA 7:=by
 have h6:=okk_six goodA.1 goodA.2
 refine okk_up h6 (by decide) (fun e=>by cases e) (fun e=>by cases e) (fun e=>by cases e) (fun e=>by cases e) (fun e=>by cases e) (fun e=>by cases e) (fun _=>?_)
 unfold cyc
 have e:List.find? (fun q=>@decide (Mip.Way (ndf (dcl 109 Mip.lsA).2.m (dcl 109 Mip.lsA).2.Q) q.flow q.flow) (Classical.propDecidable _)) (dcl 109 Mip.lsA).2.Q=none:=List.find?_eq_none.2 (fun q hq=>by
  have:=Mip.no_way_of_rank (nd:=ndf mA qA) id rankA q.flow
  simpa [mA,qA] using this)
 rw[e]
 rfl
theorem notBadA {k:Nat} {p:Int}:¬Bad 109 Mip.lsA k p:=by
 have h:=okA
 rintro (⟨_,e⟩|⟨_,_,e⟩|⟨_,_,e⟩|⟨_,_,q,e,_⟩|⟨_,_,e⟩|⟨_,_,q,e,_⟩)
 ·exact e (h.1 (by decide))
 ·exact e (h.2.1 (by decide))
 ·exact e (h.2.2.1 (by decide))
 ·rw[h.2.2.2.1 (by decide)] at e;cases e
 ·exact e ⟨h.2.2.2.2.1 (by decide),h.2.2.2.2.2.1 (by decide)⟩
 ·have:=cyc_two (h.2.2.2.2.2.2 (by decide)) e;cases this
theorem badB {k:Nat} {p:Int} (h:Bad 29 Mip.lsB k p):k=9/\p=0:=by
 have h3:=okk_three goodB
 rcases h with ⟨_,e⟩|⟨_,_,e⟩|⟨_,_,e⟩|⟨hk,_,q,e,hp⟩|⟨_,h4,_⟩|⟨_,h6,_⟩
 ·exact absurd (h3.1 (by decide)) e
 ·exact absurd (h3.2.1 (by decide)) e
 ·exact absurd (h3.2.2.1 (by decide)) e
 ·rw[freeB] at e
  obtain rfl:=osi e
  exact⟨hk,hp⟩
 ·have:=h4.2.2.2.1 (by decide);rw[freeB] at this;cases this
 ·have:=h6.2.2.2.1 (by decide);rw[freeB] at this;cases this
theorem notB:¬okk 29 Mip.lsB 7:=fun h=>by have:=h.2.2.2.1 (by decide);rw[freeB] at this;cases this
def qC:List Nq:=(dcl 52 Mip.lsC).2.Q
def mC:Mil.Bytes->Option Int:=(dcl 52 Mip.lsC).2.m
def c1:Nq:=qC.headD ⟨[],0,0,.nil,0⟩
theorem qC_is:qC=c1::qC.tail:=by kernel_rfl
theorem c1_is:c1.flow=1/\c1.at_=29:=⟨by kernel_rfl,by kernel_rfl⟩
theorem ndC:ndf mC qC 1=[2,0]/\ndf mC qC 2=[1]:=⟨by kernel_rfl,by kernel_rfl⟩
theorem wayC:Mip.Way (ndf mC qC) 1 1:=.tail (.single (b:=2) (by rw[ndC.1];simp)) (by rw[ndC.2];simp)
theorem cycC:cyc (dcl 52 Mip.lsC).2.m (dcl 52 Mip.lsC).2.Q (some 29):=by
 show cyc mC qC (some 29)
 unfold cyc
 have e:List.find? (fun q=>@decide (Mip.Way (ndf mC qC) q.flow q.flow) (Classical.propDecidable _)) (c1::qC.tail)=some c1:=List.find?_cons_of_pos (by
  have:=wayC
  rw[<-c1_is.1] at this
  simpa using this)
 rw[<-qC_is] at e
 rw[e]
 show some c1.at_=_
 rw[c1_is.2]
theorem notC:¬okk 52 Mip.lsC 7:=fun h=>by have:=cyc_two (h.2.2.2.2.2.2 (by decide)) cycC;cases this
theorem badC {k:Nat} {p:Int} (h:Bad 52 Mip.lsC k p):k=10/\p=23:=by
 have h6:=okk_six goodCC.1 goodCC.2
 rcases h with ⟨_,e⟩|⟨_,_,e⟩|⟨_,_,e⟩|⟨_,_,q,e,_⟩|⟨_,_,e⟩|⟨hk,_,q,e,hp⟩
 ·exact absurd (h6.1 (by decide)) e
 ·exact absurd (h6.2.1 (by decide)) e
 ·exact absurd (h6.2.2.1 (by decide)) e
 ·rw[h6.2.2.2.1 (by decide)] at e;cases e
 ·exact absurd ⟨h6.2.2.2.2.1 (by decide),h6.2.2.2.2.2.1 (by decide)⟩ e
 ·obtain rfl:=osi (cyc_two cycC e)
  exact⟨hk,hp⟩
def fA:List Flo:=prd 109 Mip.lsA
theorem lenA:fA.length=4:=by kernel_rfl
theorem flA:fA[0]?.map (fun f=>(f.inp,f.per))=some (true,2)/\fA[2]?.map Flo.per=some 4/\fA[3]?.map Flo.out=some true:=⟨by kernel_rfl,by kernel_rfl,by kernel_rfl⟩
theorem persA:qA.map (fun q=>perAt fA q.flow)=[2,4,2]:=by kernel_rfl
theorem ordA:ordOf mA fA qA 2=[1,3]/\ordOf mA fA qA 4=[2]:=⟨by kernel_rfl,by kernel_rfl⟩
theorem tasksA {l:List Nat} (hu:l.Pairwise (· < ·)) (ha:∀p,p∈l↔∃q∈qA,perAt fA q.flow=p):l=[2,4]:=by
 have hm:∀p,p∈l↔p=2\/p=4:=fun p=>by
  rw[ha p]
  have e:(∃q∈qA,perAt fA q.flow=p)↔p∈qA.map (fun q=>perAt fA q.flow):=by rw[List.mem_map]
  rw[e,persA]
  simp
  omega
 match l,hu,hm with
 | [],_,hm=>have:=(hm 2).2 (Or.inl rfl);cases this
 | [x],_,hm=>
  have h1:=(hm 2).2 (Or.inl rfl)
  have h2:=(hm 4).2 (Or.inr rfl)
  simp at h1 h2
  omega
 | [x,y],hu,hm=>
  have h1:=(hm x).1 (by simp)
  have h2:=(hm y).1 (by simp)
  simp at hu
  have e1:x=2:=by omega
  have e2:y=4:=by omega
  rw[e1,e2]
 | x::y::z::r,hu,hm=>
  have h1:=(hm x).1 (by simp)
  have h2:=(hm y).1 (by simp)
  have h3:=(hm z).1 (by simp)
  simp at hu
  omega
end
section
open Go.RowKit
structure Alp (al:Nat->Addr) (w:World):Prop where
 l:Laid (up1 al) w
 e:Errs al w
 d:∀i k,k < i->i < 13->al k≠al i
theorem Alp.below {al:Nat->Addr} {w w':World} (h:Alp al w) (hb:Below w.heap.size w w'):Alp al w':=⟨h.l.below h.e.size hb,h.e.below hb,h.d⟩
theorem comA {ρ:Mil.Bytes->Int->Int->Int} (hr:Rall2 ρ) {al:Nat->Addr} {w:World} (h:Alp al w) (s:ByteArray) (hs:s.data.toList=Mip.txA) :
  Calls Tryz.prog 7 #[.string s] w fun e w'=>Below w.heap.size w w'/\∃P,e=.returned (.tuple #[.pointer (some ⟨P,0,none⟩),.agg #[.int .i64 0,.int .i64 0]])/\∃B0,Prg ρ B0 109 Mip.lsA w' P:=by
 have hn:s.size=109:=by
  have:s.data.toList.length=109:=by rw[hs];rfl
  simpa using this
 have H:=plainCompile_is hr al s w h.l h.e
 rw[hs,hn] at H
 refine H.mono ?_
 rintro e w' ⟨hb,⟨l,P,rfl,hp,B0,hP⟩|⟨f,at_,_,_,hno|⟨l,k,hp,hbad,_⟩⟩⟩
 ·obtain rfl:=Mip.Parsed.unique hp Mip.parsedA
  exact⟨hb,P,rfl,B0,hP⟩
 ·exact absurd Mip.parsedA.er (hno _)
 ·obtain rfl:=Mip.Parsed.unique hp Mip.parsedA
  exact absurd hbad notBadA
theorem comB {ρ:Mil.Bytes->Int->Int->Int} (hr:Rall2 ρ) {al:Nat->Addr} {w:World} (h:Alp al w) (s:ByteArray) (hs:s.data.toList=Mip.txB) :
  Calls Tryz.prog 7 #[.string s] w fun e w'=>Below w.heap.size w w'/\e=.returned (.tuple #[.pointer none,.agg #[.int .i64 9,.int .i64 0]]):=by
 have hn:s.size=29:=by
  have:s.data.toList.length=29:=by rw[hs];rfl
  simpa using this
 have H:=plainCompile_is hr al s w h.l h.e
 rw[hs,hn] at H
 refine H.mono ?_
 rintro e w' ⟨hb,⟨l,P,rfl,hp,B0,hP⟩|⟨f,at_,_,rfl,hno|⟨l,k,hp,hbad,rfl⟩⟩⟩
 ·obtain rfl:=Mip.Parsed.unique hp Mip.parsedB
  exact absurd hP.ok notB
 ·exact absurd Mip.parsedB.er (hno _)
 ·obtain rfl:=Mip.Parsed.unique hp Mip.parsedB
  obtain⟨rfl,rfl⟩:=badB hbad
  have e:lastOf al (up1 al 9) 13=9:=by
   show lastOf al (al 8) 13=9
   have n0:∀j,8 < j->j < 13->al 8≠al j:=fun j h1 h2=>h.d j 8 h1 h2
   simp[lastOf,n0]
  rw[e]
  exact⟨hb,rfl⟩
theorem comC {ρ:Mil.Bytes->Int->Int->Int} (hr:Rall2 ρ) {al:Nat->Addr} {w:World} (h:Alp al w) (s:ByteArray) (hs:s.data.toList=Mip.txC) :
  Calls Tryz.prog 7 #[.string s] w fun e w'=>Below w.heap.size w w'/\e=.returned (.tuple #[.pointer none,.agg #[.int .i64 10,.int .i64 23]]):=by
 have hn:s.size=52:=by
  have:s.data.toList.length=52:=by rw[hs];rfl
  simpa using this
 have H:=plainCompile_is hr al s w h.l h.e
 rw[hs,hn] at H
 refine H.mono ?_
 rintro e w' ⟨hb,⟨l,P,rfl,hp,B0,hP⟩|⟨f,at_,_,rfl,hno|⟨l,k,hp,hbad,rfl⟩⟩⟩
 ·obtain rfl:=Mip.Parsed.unique hp Mip.parsedC
  exact absurd hP.ok notC
 ·exact absurd Mip.parsedC.er (hno _)
 ·obtain rfl:=Mip.Parsed.unique hp Mip.parsedC
  obtain⟨rfl,rfl⟩:=badC hbad
  have e:lastOf al (up1 al 10) 13=10:=by
   show lastOf al (al 9) 13=10
   have n0:∀j,9 < j->j < 13->al 9≠al j:=fun j h1 h2=>h.d j 9 h1 h2
   simp[lastOf,n0]
  rw[e]
  exact⟨hb,rfl⟩
theorem tw_len {m:Mil.Bytes->Option Int} {F:List Flo} {Q:List Nq} {B:Nat} {w:World} {v:Value} {U:List (Nat×Value)} (h:Tw m F Q B w v U):U.length<=Q.length:=by
 have h1:=Mip.len_le (U.map Prod.fst) (Q.map fun q=>perAt F q.flow) (flows_nodup h.up) (fun p hp=>by
  obtain⟨q,h1,h2⟩:=(h.all p).1 hp
  exact List.mem_map.2 ⟨q,h1,h2⟩)
 simpa using h1
theorem tasks_any' {ρ:Mil.Bytes->Int->Int->Int} {B0 N:Nat} {l:List Mip.It} {w:World} {P:Nat} (h:Prg ρ B0 N l w P):Calls Tryz.prog 28 #[.pointer (some ⟨P,0,none⟩)] w (TqPost N l w):=
 tasksOf_any h (fun B tv U hT=>Nat.le_trans (Nat.le_trans (tw_len hT) h.len.2) (by decide))
theorem fls_cell {w:World} {B g cap:Nat} {F:List Flo} (h:w.ownsRow B 52 5 (.slice (some ⟨g,0,none⟩) F.length cap) F.length (fls F)) {j:Nat} {f:Flo} (hf:F[j]?=some f) :
  w.cell? ⟨g,j*5+2,none⟩=some (.int .i64 (f.per:Nat))/\w.cell? ⟨g,j*5+3,none⟩=some (.bool f.inp)/\w.cell? ⟨g,j*5+4,none⟩=some (.bool f.out):=
 ⟨own_cell h (flat_at flC 5 (fun _=>rfl) F j 2 f hf (by decide)),own_cell h (flat_at flC 5 (fun _=>rfl) F j 3 f hf (by decide)),own_cell h (flat_at flC 5 (fun _=>rfl) F j 4 f hf (by decide))⟩
theorem tks_cell {w:World} {B g cap:Nat} {U:List (Nat×Value)} (h:w.ownsRow B 72 2 (.slice (some ⟨g,0,none⟩) U.length cap) U.length (tks U)) {j:Nat} {u:Nat×Value} (hu:U[j]?=some u) :
  w.cell? ⟨g,j*2+0,none⟩=some (.int .i64 (u.1:Nat))/\w.cell? ⟨g,j*2+1,none⟩=some u.2:=
 ⟨own_cell h (flat_at tkC 2 (fun _=>rfl) U j 0 u hu (by decide)),own_cell h (flat_at tkC 2 (fun _=>rfl) U j 1 u hu (by decide))⟩
theorem own_some {w:World} {B:Nat} {t:TypeId} {s:Nat} {o:Option Addr} {n c:Nat} {xs:List Value} (h:w.ownsRow B t s (.slice o n c) n xs) (h0:n≠0):∃g,o=some ⟨g,0,none⟩/\∃cur,w.heap[g]?=some (.cells cur t (0,0)):=by
 rcases h.2 with ⟨_,e⟩|⟨g,cap,cur,e,_,hg,_⟩
 ·exact absurd e h0
 ·injection e with e1 _ _
  exact⟨g,e1,cur,hg⟩
theorem tasked_is {ρ:Mil.Bytes->Int->Int->Int} (hr:Rall2 ρ) (al:Nat->Addr) (w:World) (h:Alp al w) :
  Calls Tryz.prog 14 #[] w fun e w'=>Below w.heap.size w w'/\∃P B0,e=.returned (.tuple #[.pointer (some ⟨P,0,none⟩),.bool true])/\Prg ρ B0 109 Mip.lsA w' P:=by
 have H:Hid (Alp al w):=h
 have HRR:Hid (Rall2 ρ):=hr
 clear h hr
 go_enter Tryz.func14,Tryz.ntmps14
 go_wp2_with fail
 refine (comA HRR.out H.out _ (by rfl)).mono ?_
 rintro e w1 ⟨hb1,P,rfl,B0,hP⟩
 have HB1:Hid (Below w.heap.size w w1):=hb1
 have HP:Hid (Prg ρ B0 109 Mip.lsA w1 P):=hP
 clear hb1 hP
 go_wp2_with fail
 have HA1:Hid (Below w1.heap.size w1 (w1.alloc (.cells #[.int .i64 0,.int .i64 0] 30))):=brf.alloc nlr _
 refine (flows_any (HP.out.below HA1.out)).mono ?_
 rintro e w2 ⟨hb2,v2,rfl,hF⟩
 obtain⟨of,cf,e2⟩:=own_shape hF
 have hl4:(prd 109 Mip.lsA).length=4:=lenA
 subst e2
 obtain⟨gf,rfl,_⟩:=own_some hF (by rw[hl4];decide)
 have HF2:Hid (w2.ownsRow _ 52 5 (.slice (some ⟨gf,0,none⟩) (prd 109 Mip.lsA).length cf) (prd 109 Mip.lsA).length (fls (prd 109 Mip.lsA))):=hF
 have HB2:Hid (Below w.heap.size w w2):=below_step (below_step HB1.out HA1.out) hb2
 have HP2:Hid (Prg ρ B0 109 Mip.lsA w2 P):=(HP.out.below HA1.out).below hb2
 rw[hl4]
 clear hF hb2 HA1 HP HB1 hl4
 go_wp2_with fail
 refine (tasks_any' HP2.out).mono ?_
 rintro e w3 ⟨hb3,v3,U,rfl,hT,_⟩
 have hU:U.map Prod.fst=[2,4]:=tasksA hT.up hT.all
 obtain⟨u0,u1,rfl⟩:∃u0 u1,U=[(2,u0),(4,u1)]:=by
  match U,hU with
  | [(a,x),(b,y)],hU=>
   simp at hU
   exact⟨x,y,by rw[hU.1,hU.2]⟩
 obtain⟨ot,ct,e3⟩:=own_shape hT.row
 subst e3
 obtain⟨gt,rfl,_⟩:=own_some hT.row (by simp)
 have q0:=tks_cell hT.row (j:=0) (u:=(2,u0)) rfl
 have q1:=tks_cell hT.row (j:=1) (u:=(4,u1)) rfl
 have z0:=hT.lst (2,u0) (by simp)
 have z1:=hT.lst (4,u1) (by simp)
 rw[show ordOf (dcl 109 Mip.lsA).2.m (prd 109 Mip.lsA) (dcl 109 Mip.lsA).2.Q 2=[1,3] from ordA.1] at z0
 rw[show ordOf (dcl 109 Mip.lsA).2.m (prd 109 Mip.lsA) (dcl 109 Mip.lsA).2.Q 4=[2] from ordA.2] at z1
 rcases z0 with ⟨e,_⟩|⟨g0,k0,_,rfl,_,d0⟩
 ·cases e
 rcases z1 with ⟨e,_⟩|⟨g1,k1,_,rfl,_,d1⟩
 ·cases e
 have a0:w3.cell? ⟨g0,0,none⟩=some (.int .i64 1):=d0 0 1 rfl
 have a1:w3.cell? ⟨g0,1,none⟩=some (.int .i64 3):=d0 1 3 rfl
 have b0:w3.cell? ⟨g1,0,none⟩=some (.int .i64 2):=d1 0 2 rfl
 have HF3:=own_kept HF2.out (fun g hg=>hb3.block g (lt_of_heap (own_lt HF2.out g hg).2.choose_spec))
 obtain⟨f0,h0,i0⟩:=oms flA.1
 obtain⟨f2,h2,i2⟩:=oms flA.2.1
 obtain⟨f3,h3,i3⟩:=oms flA.2.2
 have c0:=fls_cell HF3 h0
 have c2:=fls_cell HF3 h2
 have c3:=fls_cell HF3 h3
 injection i0 with i0 i0'
 rw[i0,i0'] at c0
 rw[i2] at c2
 rw[i3] at c3
 have HB3:Hid (Below w.heap.size w w3):=below_step HB2.out hb3
 have HP3:Hid (Prg ρ B0 109 Mip.lsA w3 P):=HP2.out.below hb3
 simp only[Nat.zero_mul,Nat.zero_add,Nat.one_mul,Nat.reduceMul,Nat.reduceAdd,List.length_cons,List.length_nil] at c0 c2 c3 q0 q1
 obtain⟨c00,c01,_⟩:=c0
 obtain⟨c20,_⟩:=c2
 obtain⟨_,_,c32⟩:=c3
 obtain⟨q00,q01⟩:=q0
 obtain⟨q10,q11⟩:=q1
 clear hT hU d0 d1 HF2 HF3 hb3 h0 h2 h3 i0 i0' i2 i3 HB2 HP2
 go_wp2_with fail
 refine (comB HRR.out (H.out.below HB3.out) _ (by rfl)).mono ?_
 rintro e w4 ⟨hb4,rfl⟩
 have HB4:Hid (Below w.heap.size w w4):=below_step HB3.out hb4
 have HP4:Hid (Prg ρ B0 109 Mip.lsA w4 P):=HP3.out.below hb4
 clear c00 c01 c20 c32 q00 q01 q10 q11 a0 a1 b0 hb4 HB3 HP3
 go_wp2_with fail
 have HA4:Hid (Below w4.heap.size w4 (w4.alloc (.cells #[.int .i64 9,.int .i64 0] 30))):=brf.alloc nlr _
 have k4:=han w4 (.cells #[.int .i64 9,.int .i64 0] 30)
 have HB4':Hid (Below w.heap.size w (w4.alloc (.cells #[.int .i64 9,.int .i64 0] 30))):=below_step HB4.out HA4.out
 have HP5:Hid (Prg ρ B0 109 Mip.lsA (w4.alloc (.cells #[.int .i64 9,.int .i64 0] 30)) P):=HP4.out.below HA4.out
 generalize w4.alloc (.cells #[.int .i64 9,.int .i64 0] 30)=w5 at HB4' k4 HP5 ⊢
 generalize w4.heap.size=n4 at k4 ⊢
 clear HA4 HB4 HP4
 refine (comC HRR.out (H.out.below HB4'.out) _ (by rfl)).mono ?_
 rintro e w6 ⟨hb6,rfl⟩
 have k6:=(hb6.block n4 (lt_of_heap k4)).trans k4
 have HB6:Hid (Below w.heap.size w w6):=below_step HB4'.out hb6
 have HP6:Hid (Prg ρ B0 109 Mip.lsA w6 P):=HP5.out.below hb6
 clear hb6 k4
 go_wp2_with fail
 have HB7:Hid (Below w.heap.size w (w6.alloc (.cells #[.int .i64 10,.int .i64 23] 30))):=below_step HB6.out (brf.alloc nlr _)
 have k7:=han w6 (.cells #[.int .i64 10,.int .i64 23] 30)
 have k8:=(((Below.refl _ w6).alloc nlr (.cells #[.int .i64 10,.int .i64 23] 30)).block n4 (lt_of_heap k6)).trans k6
 have HP7:Hid (Prg ρ B0 109 Mip.lsA (w6.alloc (.cells #[.int .i64 10,.int .i64 23] 30)) P):=HP6.out.below (brf.alloc nlr _)
 generalize w6.alloc (.cells #[.int .i64 10,.int .i64 23] 30)=w7 at HB7 k7 k8 HP7 ⊢
 generalize w6.heap.size=n6 at k7 ⊢
 have x0:w7.cell? ⟨n4,0,none⟩=some (.int .i64 9):=(cor w7 n4 0 _ _ _ k8).trans rfl
 have x1:w7.cell? ⟨n4,1,none⟩=some (.int .i64 0):=(cor w7 n4 1 _ _ _ k8).trans rfl
 have x2:w7.cell? ⟨n6,0,none⟩=some (.int .i64 10):=(cor w7 n6 0 _ _ _ k7).trans rfl
 have x3:w7.cell? ⟨n6,1,none⟩=some (.int .i64 23):=(cor w7 n6 1 _ _ _ k7).trans rfl
 clear k6 k7 k8 HB6 HB4' HP6 HP5
 go_quiet (fail)
 all_goals go_wp2
 all_goals go_ret2
 all_goals exact⟨below_drewN HB7.out _,P,B0,rfl,HP7.out.below (below_drewN brf _)⟩
end
end Go.Proofs.YtjehljjlcifndaaGreatDoor
