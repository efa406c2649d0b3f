import Derived.Test.YtoiajojadihpbaaGreatDoorQt19
import Derived.Test.YtoiajojadihpbaaGreatDoorQt21
import Derived.Deep.RegionLaw
import Derived.Deep.AppendLies
namespace Go.Proofs.YtoiajojadihpbaaGreatDoor
set_option maxHeartbeats 8000000
set_option maxRecDepth 100000
section
open Go.RowKit
abbrev nds (N:List Ref.Nd):List Value:=N.flatMap Ref.ndCells
theorem flat_at {α:Type} {f:α->List Value} {c:Nat} (hf:∀x,(f x).length=c):∀(l:List α) (p i:Nat) (x:α),l[p]?=some x->i < c->(l.flatMap f)[p*c+i]?=(f x)[i]?
 | [],p,i,x,h,_=>by simp at h
 | y::l,0,i,x,h,hi=>by
  have:y=x:=by simpa using h
  subst this
  rw[List.flatMap_cons,Nat.zero_mul,Nat.zero_add,List.getElem?_append_left (by rw[hf];exact hi)]
 | y::l,p+1,i,x,h,hi=>by
  have h':l[p]?=some x:=by simpa using h
  rw[List.flatMap_cons,List.getElem?_append_right (by rw[hf,Nat.succ_mul];omega),hf,show (p+1)*c+i - c=p*c+i by rw[Nat.succ_mul];omega]
  exact flat_at hf l p i x h' hi
def Ref.Wf (T:List Ref.Tk):Prop:=∀(i:Nat) (t:Ref.Tk),T[i]?=some t->(t.e=0->t.t≠[]->i+1 < T.length)/\(t.name=true->t.t≠[])/\(t.number=true->t.t≠[])
structure RM (B b g:Nat) (T:List Ref.Tk) (tv iv:Value) (s:Ref.Rs) (nv:Value) (w:World):Prop where
 rd:w.heap[b]?=some (.cells #[tv,.int .i64 s.p,.pointer (some ⟨g,0,none⟩),.int .i64 s.fe,.int .i64 s.fa] 102 (0,0))
 pr:w.heap[g]?=some (.cells #[iv,nv] 100 (0,0))
 tok:w.ownsRow B 104 6 tv T.length (tks T)
 nod:w.ownsRow B 195 8 nv s.ns.length (nds s.ns)
 hb:B<=b
 hg:B<=g
 bg:b≠g
 tb:∀k,tv.ownBlock=some k->k≠b/\k≠g
 nb:∀k,nv.ownBlock=some k->k≠b/\k≠g/\tv.ownBlock≠some k
 lt:s.p < T.length
 wf:Ref.Wf T
structure Fr (b g:Nat) (w:World) (nv:Value) (w':World) (nv':Value):Prop where
 os:w'.os=w.os
 tape:w'.tape=w.tape
 output:w'.output=w.output
 size:w.heap.size<=w'.heap.size
 row:∀k,nv'.ownBlock=some k->nv.ownBlock=some k\/w.heap.size<=k
 block:∀k,k < w.heap.size->k≠b->k≠g->nv.ownBlock≠some k->w'.heap[k]?=w.heap[k]?
theorem Fr.refl (b g:Nat) (w:World) (nv:Value):Fr b g w nv w nv:=⟨rfl,rfl,rfl,Nat.le_refl _,fun _ h=>Or.inl h,fun _ _ _ _ _=>rfl⟩
theorem Fr.trans {b g:Nat} {u v w:World} {x y z:Value} (h:Fr b g u x v y) (k:Fr b g v y w z):Fr b g u x w z:=by
 refine⟨k.os.trans h.os,k.tape.trans h.tape,k.output.trans h.output,Nat.le_trans h.size k.size,fun i hi=>?_,fun i h1 h2 h3 h4=>?_⟩
 ·rcases k.row i hi with r|r
  ·exact h.row i r
  ·exact Or.inr (Nat.le_trans h.size r)
 ·refine (k.block i (Nat.lt_of_lt_of_le h1 h.size) h2 h3 (fun e=>?_)).trans (h.block i h1 h2 h3 h4)
  rcases h.row i e with r|r
  ·exact h4 r
  ·omega
theorem Fr.of_below {b g:Nat} {w w':World} {nv:Value} (h:Below w.heap.size w w'):Fr b g w nv w' nv:=⟨h.os,h.tape,h.output,h.size,fun _ h=>Or.inl h,fun k h1 _ _ _=>h.block k h1⟩
theorem own_kept {w w':World} {base:Nat} {e:TypeId} {size:Nat} {v:Value} {n:Nat} {xs:List Value} (ho:w.ownsRow base e size v n xs) (hk:∀k,v.ownBlock=some k->w'.heap[k]?=w.heap[k]?):w'.ownsRow base e size v n xs:=by
 refine⟨ho.1,?_⟩
 rcases ho.2 with hn|⟨g,cap,cur,rfl,hbg,hgg,rest⟩
 ·exact .inl hn
 ·exact .inr ⟨g,cap,cur,rfl,hbg,(hk g rfl).trans hgg,rest⟩
theorem RM.below {B b g:Nat} {T:List Ref.Tk} {tv iv:Value} {s:Ref.Rs} {nv:Value} {w w':World} (h:RM B b g T tv iv s nv w) (hb:Below w.heap.size w w'):RM B b g T tv iv s nv w':=
 ⟨(hb.block _ (ags h.rd).1).trans h.rd,(hb.block _ (ags h.pr).1).trans h.pr,own_kept h.tok (fun k hk=>hb.block k (h.tok.lt k hk).2),own_kept h.nod (fun k hk=>hb.block k (h.nod.lt k hk).2),h.hb,h.hg,h.bg,h.tb,h.nb,h.lt,h.wf⟩
theorem RM.cells {B b g:Nat} {T:List Ref.Tk} {tv iv:Value} {s:Ref.Rs} {nv:Value} {w:World} (h:RM B b g T tv iv s nv w) :
  w.cell? ⟨b,0,none⟩=some tv/\w.cell? ⟨b,1,none⟩=some (.int .i64 s.p)/\w.cell? ⟨b,2,none⟩=some (.pointer (some ⟨g,0,none⟩))/\w.cell? ⟨b,3,none⟩=some (.int .i64 s.fe)/\w.cell? ⟨b,4,none⟩=some (.int .i64 s.fa) /\
  w.cell? ⟨g,0,none⟩=some iv/\w.cell? ⟨g,1,none⟩=some nv/\(∀o,w.frozen? ⟨b,o,none⟩=false)/\(∀o,w.frozen? ⟨g,o,none⟩=false):=by
 refine⟨?_,?_,?_,?_,?_,?_,?_,fun o=>?_,fun o=>?_⟩
 ·rw[cor w _ 0 _ _ _ h.rd];rfl
 ·rw[cor w _ 1 _ _ _ h.rd];rfl
 ·rw[cor w _ 2 _ _ _ h.rd];rfl
 ·rw[cor w _ 3 _ _ _ h.rd];rfl
 ·rw[cor w _ 4 _ _ _ h.rd];rfl
 ·rw[cor w _ 0 _ _ _ h.pr];rfl
 ·rw[cor w _ 1 _ _ _ h.pr];rfl
 ·unfold World.frozen?;rw[h.rd];simp
 ·unfold World.frozen?;rw[h.pr];simp
theorem RM.tokAt {B b g:Nat} {T:List Ref.Tk} {tv iv:Value} {s:Ref.Rs} {nv:Value} {w:World} (h:RM B b g T tv iv s nv w) :
  ∃k c,tv=.slice (some ⟨k,0,none⟩) T.length c/\∀i,i < 6->w.cell? ⟨k,s.p*6+i,none⟩=(Ref.tokCells (Ref.now T s))[i]?:=by
 obtain⟨h1,⟨h2,h3⟩|⟨k,cap,cur,rfl,hbk,hk,hcap,hmx,hsz,htk⟩⟩:=h.tok
 ·have:=h.lt;omega
 ·refine⟨k,cap,rfl,fun i hi=>?_⟩
  have hT:T[s.p]?=some (Ref.now T s):=by
   unfold Ref.now
   rw[List.getD_eq_getElem?_getD,List.getElem?_eq_getElem h.lt];rfl
  have e1:=flat_at (f:=Ref.tokCells) (c:=6) (fun _=>rfl) T s.p i _ hT hi
  have e2:(tks T)[s.p*6+i]?=(Ref.tokCells (Ref.now T s))[i]?:=e1
  rw[cor w k _ _ _ _ hk,<-e2,<-htk,List.getElem?_take]
  have hlt:=h.lt
  rw[if_pos (by omega)]
  simp
theorem RM.setP {B b g:Nat} {T:List Ref.Tk} {tv iv:Value} {s:Ref.Rs} {nv:Value} {w:World} (h:RM B b g T tv iv s nv w) (h1:s.p+1 < T.length):RM B b g T tv iv (Ref.up s) nv (w.setCell ⟨b,1,none⟩ (.int .i64 ((s.p:Int)+1)))/\Fr b g w nv (w.setCell ⟨b,1,none⟩ (.int .i64 ((s.p:Int)+1))) nv:=by
 have oth:∀k,k≠b->(w.setCell ⟨b,1,none⟩ (.int .i64 ((s.p:Int)+1))).heap[k]?=w.heap[k]?:=fun k hk=>bhs w ⟨b,1,none⟩ _ k hk
 refine⟨⟨?_,(oth g (Ne.symm h.bg)).trans h.pr,own_kept h.tok (fun k hk=>oth k (h.tb k hk).1),own_kept h.nod (fun k hk=>oth k (h.nb k hk).1),h.hb,h.hg,h.bg,h.tb,h.nb,h1,h.wf⟩,⟨rfl,rfl,rfl,by simp,fun _ h=>Or.inl h,fun k _ h2 _ _=>oth k h2⟩⟩
 show (w.heap.modify b _)[b]?=_
 rw[Array.getElem?_modify,if_pos rfl,h.rd];rfl
theorem RM.setF {B b g:Nat} {T:List Ref.Tk} {tv iv:Value} {s:Ref.Rs} {nv:Value} {w:World} (h:RM B b g T tv iv s nv w) (e a:Nat):RM B b g T tv iv { s with fe:=e,fa:=a } nv ((w.setCell ⟨b,3,none⟩ (.int .i64 e)).setCell ⟨b,4,none⟩ (.int .i64 a))/\Fr b g w nv ((w.setCell ⟨b,3,none⟩ (.int .i64 e)).setCell ⟨b,4,none⟩ (.int .i64 a)) nv:=by
 have oth:∀k,k≠b->((w.setCell ⟨b,3,none⟩ (.int .i64 e)).setCell ⟨b,4,none⟩ (.int .i64 a)).heap[k]?=w.heap[k]?:=fun k hk=>(bhs _ ⟨b,4,none⟩ _ k hk).trans (bhs w ⟨b,3,none⟩ _ k hk)
 refine⟨⟨?_,(oth g (Ne.symm h.bg)).trans h.pr,own_kept h.tok (fun k hk=>oth k (h.tb k hk).1),own_kept h.nod (fun k hk=>oth k (h.nb k hk).1),h.hb,h.hg,h.bg,h.tb,h.nb,h.lt,h.wf⟩,⟨rfl,rfl,rfl,by simp,fun _ h=>Or.inl h,fun k _ h2 _ _=>oth k h2⟩⟩
 have e3:(w.setCell ⟨b,3,none⟩ (.int .i64 e)).heap[b]?=some (.cells #[tv,.int .i64 s.p,.pointer (some ⟨g,0,none⟩),.int .i64 e,.int .i64 s.fa] 102 (0,0)):=by
  show (w.heap.modify b _)[b]?=_
  rw[Array.getElem?_modify,if_pos rfl,h.rd];rfl
 show ((w.setCell ⟨b,3,none⟩ (.int .i64 e)).heap.modify b _)[b]?=_
 rw[Array.getElem?_modify,if_pos rfl,e3];rfl
theorem now_any (B b g:Nat) (T:List Ref.Tk) (tv iv:Value) (s:Ref.Rs) (nv:Value) (w:World) (h:RM B b g T tv iv s nv w) :
  Calls Tryz.prog 48 #[.pointer (some ⟨b,0,none⟩)] w fun e w'=>e=.returned (Ref.tokV (Ref.now T s))/\Below w.heap.size w w':=by
 have c0:=h.cells.1
 have c1:=h.cells.2.1
 obtain⟨k,c,hv,ht⟩:=h.tokAt
 have hlt:=h.lt
 rw[hv] at c0
 clear h hv
 generalize Ref.now T s=t at ht ⊢
 obtain⟨tt,ta,tn,tm,tu,te⟩:=t
 have t0:w.cell? ⟨k,s.p*6,none⟩=some (.string (bs tt)):=ht 0 (by decide)
 have t1:w.cell? ⟨k,s.p*6+1,none⟩=some (.int .i64 (ta:Nat)):=ht 1 (by decide)
 have t2:w.cell? ⟨k,s.p*6+2,none⟩=some (.bool tn):=ht 2 (by decide)
 have t3:w.cell? ⟨k,s.p*6+3,none⟩=some (.bool tm):=ht 3 (by decide)
 have t4:w.cell? ⟨k,s.p*6+4,none⟩=some (.int .i64 (tu:Nat)):=ht 4 (by decide)
 have t5:w.cell? ⟨k,s.p*6+5,none⟩=some (.int .i64 (te:Nat)):=ht 5 (by decide)
 clear ht
 have up:∀{q:Addr} {v:Value},w.cell? q=some v->(w.alloc (.cells #[.string ⟨#[]⟩,.int .i64 0,.bool false,.bool false,.int .i64 0,.int .i64 0] 104)).cell? q=some v:=fun hq=>(((Below.refl w.heap.size w).alloc nlr _).cell (lt_of_cell hq)).trans hq
 have c0':=up c0
 have c1':=up c1
 have t0':=up t0
 have t1':=up t1
 have t2':=up t2
 have t3':=up t3
 have t4':=up t4
 have t5':=up t5
 clear c0 c1 t0 t1 t2 t3 t4 t5 up
 go_enter Tryz.func48,Tryz.ntmps48
 go_wp2
 go_region
 all_goals go_wp2
 refine bodyPost_ret (v:=.agg #[.string (bs tt),.int .i64 (ta:Nat),.bool tn,.bool tm,.int .i64 (tu:Nat),.int .i64 (te:Nat)]) (by simp[results,Tryz.results48,go_sem]) rfl ⟨rfl,?_⟩
 exact (brf.alloc nlr _).drew
theorem tokV_eq (t:Ref.Tk):Ref.tokV t=.agg #[.string (bs t.t),.int .i64 (t.at_:Nat),.bool t.number,.bool t.name,.int .i64 (t.v:Nat),.int .i64 (t.e:Nat)]:=rfl
theorem fail_any (B b g:Nat) (T:List Ref.Tk) (tv iv:Value) (s:Ref.Rs) (nv:Value) (e:Nat) (w:World) (h:RM B b g T tv iv s nv w) :
  Calls Tryz.prog 49 #[.pointer (some ⟨b,0,none⟩),.int .i64 (e:Nat)] w fun r w'=>r=.returned (.tuple #[])/\RM B b g T tv iv (Ref.fail T e s) nv w'/\Fr b g w nv w' nv:=by
 have H:=hid h
 have c3:=h.cells.2.2.2.1
 by_cases h0:s.fe=0
 ·have b0:((s.fe:Int) != 0)=false:=by simp;omega
  have HF:Hid (Ref.fail T e s={ s with fe:=if (Ref.now T s).e≠0 then (Ref.now T s).e else e,fa:=(Ref.now T s).at_ }):=by
   show _=_
   unfold Ref.fail
   rw[if_neg (by omega)]
  clear h h0
  go_enter Tryz.func49,Tryz.ntmps49
  go_wp2_with fail
  refine (now_any B b g T tv iv s nv _ H.out).mono ?_
  rintro r w1 ⟨rfl,hb1⟩
  rw[tokV_eq]
  generalize Ref.now T s=t at HF ⊢
  have hB2:Below w.heap.size w (w1.alloc (.cells #[.string (bs t.t),.int .i64 (t.at_:Nat),.bool t.number,.bool t.name,.int .i64 (t.v:Nat),.int .i64 (t.e:Nat)] 104)):=hb1.alloc hb1.size _
  have H2:=hid (H.out.below hB2)
  have HB2:=hid hB2
  obtain⟨_,_,_,d3,d4,_,_,z,_⟩:=H2.out.cells
  clear hb1 hB2 c3
  by_cases hte:t.e=0
  ·have b1:((t.e:Int) != 0)=false:=by simp;omega
   rw[if_neg (by omega)] at HF
   clear hte
   go_wp2
   go_end0
   rw[HF.out]
   obtain⟨m1,m2⟩:=H2.out.setF e t.at_
   exact⟨rfl,m1,(Fr.of_below HB2.out).trans m2⟩
  ·have b1:((t.e:Int) != 0)=true:=by simp;omega
   rw[if_pos hte] at HF
   clear hte
   go_wp2
   go_end0
   rw[HF.out]
   obtain⟨m1,m2⟩:=H2.out.setF t.e t.at_
   exact⟨rfl,m1,(Fr.of_below HB2.out).trans m2⟩
 ·have b0:((s.fe:Int) != 0)=true:=by simp;omega
  have HF:Hid (Ref.fail T e s=s):=by
   show _=_
   unfold Ref.fail
   rw[if_pos h0]
  clear h h0
  go_enter Tryz.func49,Tryz.ntmps49
  go_wp2
  refine bodyPost_ret (v:=.tuple #[]) (by simp[results,Tryz.results49,go_sem]) rfl ?_
  rw[HF.out]
  exact⟨rfl,H.out,Fr.refl _ _ _ _⟩
theorem RM.nowWf {B b g:Nat} {T:List Ref.Tk} {tv iv:Value} {s:Ref.Rs} {nv:Value} {w:World} (h:RM B b g T tv iv s nv w) :
  ((Ref.now T s).e=0->(Ref.now T s).t≠[]->s.p+1 < T.length)/\((Ref.now T s).name=true->(Ref.now T s).t≠[])/\((Ref.now T s).number=true->(Ref.now T s).t≠[]):=by
 have hT:T[s.p]?=some (Ref.now T s):=by
  unfold Ref.now
  rw[List.getD_eq_getElem?_getD,List.getElem?_eq_getElem h.lt];rfl
 exact h.wf s.p _ hT
theorem bs_beq (x y:Mil.Bytes):((bs x).toList==(bs y).toList)=(x==y):=by rw[Lib.toList_data,Lib.toList_data,bs_list,bs_list]
theorem is_any (B b g:Nat) (T:List Ref.Tk) (tv iv:Value) (s:Ref.Rs) (nv:Value) (x:Mil.Bytes) (w:World) (h:RM B b g T tv iv s nv w) :
  Calls Tryz.prog 91 #[.pointer (some ⟨b,0,none⟩),.string (bs x)] w fun r w'=>r=.returned (.bool (Ref.is T x s))/\Below w.heap.size w w':=by
 have H:=hid h
 have HI:Hid (Ref.is T x s=(s.fe==0 && (Ref.now T s).e==0 && (Ref.now T s).t==x && !(Ref.now T s).name)):=rfl
 clear h
 go_enter Tryz.func91,Tryz.ntmps91
 go_wp2_with fail
 refine (now_any B b g T tv iv s nv _ H.out).mono ?_
 rintro r w1 ⟨rfl,hb1⟩
 rw[tokV_eq]
 generalize Ref.now T s=t at HI ⊢
 have hB2:Below w.heap.size w (w1.alloc (.cells #[.string (bs t.t),.int .i64 (t.at_:Nat),.bool t.number,.bool t.name,.int .i64 (t.v:Nat),.int .i64 (t.e:Nat)] 104)):=hb1.alloc hb1.size _
 have H2:=hid (H.out.below hB2)
 have HB2:=hid hB2
 have d3:=H2.out.cells.2.2.2.1
 clear hb1 hB2
 by_cases h0:s.fe=0
 ·have b0:((s.fe:Int)==0)=true:=by simp;omega
  have g0:(s.fe==0)=true:=by simp;omega
  by_cases h1:t.e=0
  ·have b1:((t.e:Int)==0)=true:=by simp;omega
   have g1:(t.e==0)=true:=by simp;omega
   by_cases h2:t.t=x
   ·have b2:((bs t.t).toList==(bs x).toList)=true:=by rw[bs_beq];simp;exact h2
    have g2:(t.t==x)=true:=by simp;exact h2
    rw[g0,g1,g2] at HI
    clear h0 h1 h2 g0 g1 g2
    go_wp2
    go_ret
    exact⟨ret_bool (by rw[HI.out];rfl),HB2.out⟩
   ·have b2:((bs t.t).toList==(bs x).toList)=false:=by rw[bs_beq];simp;exact h2
    have g2:(t.t==x)=false:=by simp;exact h2
    rw[g0,g1,g2] at HI
    clear h0 h1 h2 g0 g1 g2
    go_wp2
    go_ret
    exact⟨ret_bool (by rw[HI.out];rfl),HB2.out⟩
  ·have b1:((t.e:Int)==0)=false:=by simp;omega
   have g1:(t.e==0)=false:=by simp;omega
   rw[g0,g1] at HI
   clear h0 h1 g0 g1
   go_wp2
   go_ret
   exact⟨ret_bool (by rw[HI.out];rfl),HB2.out⟩
 ·have b0:((s.fe:Int)==0)=false:=by simp;omega
  have g0:(s.fe==0)=false:=by simp;omega
  rw[g0] at HI
  clear h0 g0
  go_wp2
  go_ret
  exact⟨ret_bool (by rw[HI.out];rfl),HB2.out⟩
theorem is_up {B b g:Nat} {T:List Ref.Tk} {tv iv:Value} {s:Ref.Rs} {nv:Value} {w:World} (h:RM B b g T tv iv s nv w) {x:Mil.Bytes} (hx:x≠[]) (hi:Ref.is T x s=true):s.p+1 < T.length:=by
 unfold Ref.is at hi
 simp at hi
 obtain⟨⟨⟨_,h2⟩,h3⟩,_⟩:=hi
 exact h.nowWf.1 h2 (by rw[h3];exact hx)
theorem take_any (B b g:Nat) (T:List Ref.Tk) (tv iv:Value) (s:Ref.Rs) (nv:Value) (x:Mil.Bytes) (hx:x≠[]) (w:World) (h:RM B b g T tv iv s nv w) (hs:T.length<=4001) :
  Calls Tryz.prog 93 #[.pointer (some ⟨b,0,none⟩),.string (bs x)] w fun r w'=>r=.returned (.tuple #[])/\RM B b g T tv iv (Ref.take T x s) nv w'/\Fr b g w nv w' nv:=by
 have H:=hid h
 have hlt:=h.lt
 clear h
 cases hi:Ref.is T x s
 ·have HT:Hid (Ref.take T x s=Ref.fail T 3 s):=by show _=_;unfold Ref.take;rw[hi];rfl
  go_enter Tryz.func93,Tryz.ntmps93
  go_wp2_with fail
  refine (is_any B b g T tv iv s nv x _ H.out).mono ?_
  rintro r w1 ⟨rfl,hb1⟩
  rw[hi]
  have H1:=hid (H.out.below hb1)
  have F1:Hid (Fr b g w nv w1 nv):=Fr.of_below hb1
  clear hi hb1
  go_wp2_with fail
  refine (fail_any B b g T tv iv s nv 3 _ H1.out).mono ?_
  rintro r w2 ⟨rfl,m2,f2⟩
  have M2:=hid m2
  have F2:=hid f2
  clear m2 f2
  go_wp2
  refine bodyPost_ret (v:=.tuple #[]) (by simp[results,Tryz.results93,go_sem]) rfl ?_
  rw[HT.out]
  exact⟨rfl,M2.out,F1.out.trans F2.out⟩
 ·have HT:Hid (Ref.take T x s=Ref.up s):=by show _=_;unfold Ref.take;rw[hi];rfl
  have HU:Hid (s.p+1 < T.length):=is_up H.out hx hi
  go_enter Tryz.func93,Tryz.ntmps93
  go_wp2_with fail
  refine (is_any B b g T tv iv s nv x _ H.out).mono ?_
  rintro r w1 ⟨rfl,hb1⟩
  rw[hi]
  have H1:=hid (H.out.below hb1)
  have F1:Hid (Fr b g w nv w1 nv):=Fr.of_below hb1
  have d1:=H1.out.cells.2.1
  have z:=H1.out.cells.2.2.2.2.2.2.2.1
  clear hi hb1
  go_wp2
  go_end0
  rw[HT.out]
  obtain⟨m1,m2⟩:=H1.out.setP HU.out
  exact⟨rfl,m1,F1.out.trans m2⟩
end
section
open Go.RowKit
abbrev zTok:Array Value:=#[.string ⟨#[]⟩,.int .i64 0,.bool false,.bool false,.int .i64 0,.int .i64 0]
abbrev tkA (t:Ref.Tk):Array Value:=#[.string (bs t.t),.int .i64 (t.at_:Nat),.bool t.number,.bool t.name,.int .i64 (t.v:Nat),.int .i64 (t.e:Nat)]
theorem zero_cells {w:World} {r:Nat} {e:TypeId} (h:w.heap[r]?=some (.cells zTok e (0,0))):w.cell? ⟨r,0,none⟩=some (.string ⟨#[]⟩)/\w.cell? ⟨r,1,none⟩=some (.int .i64 0)/\w.cell? ⟨r,2,none⟩=some (.bool false)/\w.cell? ⟨r,3,none⟩=some (.bool false)/\w.cell? ⟨r,4,none⟩=some (.int .i64 0)/\w.cell? ⟨r,5,none⟩=some (.int .i64 0)/\∀o,w.frozen? ⟨r,o,none⟩=false:=by
 refine⟨?_,?_,?_,?_,?_,?_,fun o=>?_⟩
 ·rw[cor w _ 0 _ _ _ h];rfl
 ·rw[cor w _ 1 _ _ _ h];rfl
 ·rw[cor w _ 2 _ _ _ h];rfl
 ·rw[cor w _ 3 _ _ _ h];rfl
 ·rw[cor w _ 4 _ _ _ h];rfl
 ·rw[cor w _ 5 _ _ _ h];rfl
 ·unfold World.frozen?;rw[h];simp
abbrev six (W:World) (r:Nat) (v0 v1 v2 v3 v4 v5:Value):World:=(((((W.setCell ⟨r,0,none⟩ v0).setCell ⟨r,1,none⟩ v1).setCell ⟨r,2,none⟩ v2).setCell ⟨r,3,none⟩ v3).setCell ⟨r,4,none⟩ v4).setCell ⟨r,5,none⟩ v5
theorem set_row {W:World} {r o:Nat} {A:Array Value} {e:TypeId} (h:W.heap[r]?=some (.cells A e (0,0))) (v:Value):(W.setCell ⟨r,o,none⟩ v).heap[r]?=some (.cells (A.setIfInBounds o v) e (0,0)):=by
 show (W.heap.modify r _)[r]?=_
 rw[Array.getElem?_modify,if_pos rfl,h];rfl
theorem six_row {W:World} {r:Nat} {e:TypeId} (h:W.heap[r]?=some (.cells zTok e (0,0))) (v0 v1 v2 v3 v4 v5:Value):(six W r v0 v1 v2 v3 v4 v5).heap[r]?=some (.cells #[v0,v1,v2,v3,v4,v5] e (0,0)):=
 set_row (set_row (set_row (set_row (set_row (set_row h v0) v1) v2) v3) v4) v5
theorem six_cells {W:World} {r:Nat} {e:TypeId} (h:W.heap[r]?=some (.cells zTok e (0,0))) (v0 v1 v2 v3 v4 v5:Value) :
  (six W r v0 v1 v2 v3 v4 v5).cell? ⟨r,0,none⟩=some v0/\(six W r v0 v1 v2 v3 v4 v5).cell? ⟨r,1,none⟩=some v1/\(six W r v0 v1 v2 v3 v4 v5).cell? ⟨r,2,none⟩=some v2/\(six W r v0 v1 v2 v3 v4 v5).cell? ⟨r,3,none⟩=some v3/\(six W r v0 v1 v2 v3 v4 v5).cell? ⟨r,4,none⟩=some v4/\(six W r v0 v1 v2 v3 v4 v5).cell? ⟨r,5,none⟩=some v5:=by
 have h6:=six_row h v0 v1 v2 v3 v4 v5
 refine⟨?_,?_,?_,?_,?_,?_⟩
 ·rw[cor _ _ 0 _ _ _ h6];rfl
 ·rw[cor _ _ 1 _ _ _ h6];rfl
 ·rw[cor _ _ 2 _ _ _ h6];rfl
 ·rw[cor _ _ 3 _ _ _ h6];rfl
 ·rw[cor _ _ 4 _ _ _ h6];rfl
 ·rw[cor _ _ 5 _ _ _ h6];rfl
theorem six_below (B:Nat) (W:World) (r:Nat) (hr:B<=r) (v0 v1 v2 v3 v4 v5:Value):Below B W (six W r v0 v1 v2 v3 v4 v5):=
 (((((((Below.refl B W).setCell (p:=⟨r,0,none⟩) hr v0).setCell (p:=⟨r,1,none⟩) hr v1).setCell (p:=⟨r,2,none⟩) hr v2).setCell (p:=⟨r,3,none⟩) hr v3).setCell (p:=⟨r,4,none⟩) hr v4).setCell (p:=⟨r,5,none⟩) hr v5)
theorem RM.later {B b g:Nat} {T:List Ref.Tk} {tv iv:Value} {s0 s:Ref.Rs} {nv:Value} {w0 w w':World} (h0:RM B b g T tv iv s0 nv w0) (h:RM B b g T tv iv s nv w) (hb:Below w0.heap.size w w'):RM B b g T tv iv s nv w':=
 ⟨(hb.block _ (ags h0.rd).1).trans h.rd,(hb.block _ (ags h0.pr).1).trans h.pr,own_kept h.tok (fun k hk=>hb.block k (h0.tok.lt k hk).2),own_kept h.nod (fun k hk=>hb.block k (h0.nod.lt k hk).2),h.hb,h.hg,h.bg,h.tb,h.nb,h.lt,h.wf⟩
theorem Fr.later {b g:Nat} {w w1 w2:World} {nv nv':Value} (h:Fr b g w nv w1 nv') (hb:Below w.heap.size w1 w2):Fr b g w nv w2 nv':=
 ⟨hb.os.trans h.os,hb.tape.trans h.tape,hb.output.trans h.output,Nat.le_trans h.size hb.size,h.row,fun k h1 h2 h3 h4=>(hb.block k h1).trans (h.block k h1 h2 h3 h4)⟩
theorem rname_any (B b g:Nat) (T:List Ref.Tk) (tv iv:Value) (s:Ref.Rs) (nv:Value) (w:World) (h:RM B b g T tv iv s nv w) (hs:T.length<=4001) :
  Calls Tryz.prog 92 #[.pointer (some ⟨b,0,none⟩)] w fun r w'=>r=.returned (Ref.tokV (Ref.rname T s).1)/\RM B b g T tv iv (Ref.rname T s).2 nv w'/\Fr b g w nv w' nv:=by
 have H:=hid h
 have hlt:=h.lt
 have hwf:=h.nowWf
 have HB0:Hid (Below w.heap.size w (w.alloc (.cells zTok 104))):=brf.alloc nlr _
 have H0:Hid (RM B b g T tv iv s nv (w.alloc (.cells zTok 104))):=h.below HB0.out
 have HZ:Hid ((w.alloc (.cells zTok 104)).heap[w.heap.size]?=some (.cells zTok 104 (0,0))):=han w _
 have hbw:b < w.heap.size:=(ags h.rd).1
 by_cases hc:s.fe=0/\(Ref.now T s).e=0/\(Ref.now T s).name=true
 ·have HR:Hid (Ref.rname T s=(Ref.now T s,Ref.up s)):=by show _=_;unfold Ref.rname;rw[if_pos hc]
  have HU:Hid (s.p+1 < T.length):=hwf.1 hc.2.1 (hwf.2.1 hc.2.2)
  have b0:((s.fe:Int) != 0)=false:=by simp;omega
  have b1:(((Ref.now T s).e:Int) != 0)=false:=by simp;omega
  have b2:(Ref.now T s).name=true:=hc.2.2
  clear hwf hc h
  go_enter Tryz.func92,Tryz.ntmps92
  go_wp2_with fail
  refine (now_any B b g T tv iv s nv _ H0.out).mono ?_
  rintro r w1 ⟨rfl,hb1⟩
  rw[tokV_eq]
  generalize Ref.now T s=t at HR b1 b2 ⊢
  obtain⟨tt,ta,tn,tm,tu,te⟩:=t
  simp only[] at b1 b2
  subst b2
  have HB1:Hid (Below w.heap.size w w1):=HB0.out.trans (hb1.mono HB0.out.size)
  have H1:=hid (H0.out.below hb1)
  have HZ1:Hid (w1.heap[w.heap.size]?=some (.cells zTok 104 (0,0))):=(hb1.block _ (by simp)).trans HZ.out
  have hb2:Below w1.heap.size w1 (w1.alloc (.cells (tkA ⟨tt,ta,tn,true,tu,te⟩) 104)):=brf.alloc nlr _
  have hw1:w.heap.size < w1.heap.size:=(ags HZ1.out).1
  have H2:=hid (H1.out.below hb2)
  have HB2:Hid (Below w.heap.size w (w1.alloc (.cells (tkA ⟨tt,ta,tn,true,tu,te⟩) 104))):=HB1.out.trans (hb2.mono HB1.out.size)
  have HZ2:(w1.alloc (.cells (tkA ⟨tt,ta,tn,true,tu,te⟩) 104)).heap[w.heap.size]?=some (.cells zTok 104 (0,0)):=(hb2.block _ hw1).trans HZ1.out
  obtain⟨r0,r1,r2,r3,r4,r5,zr⟩:=zero_cells HZ2
  have HZ2':Hid ((w1.alloc (.cells (tkA ⟨tt,ta,tn,true,tu,te⟩) 104)).heap[w.heap.size]?=some (.cells zTok 104 (0,0))):=HZ2
  have d1:=H2.out.cells.2.1
  have d3:=H2.out.cells.2.2.2.1
  have zb:=H2.out.cells.2.2.2.2.2.2.2.1
  clear hb1 hb2 HZ HZ1 H0 HB0 HZ2 H1 HB1
  have HZ3:Hid (((w1.alloc (.cells (tkA ⟨tt,ta,tn,true,tu,te⟩) 104)).setCell ⟨b,1,none⟩ (.int .i64 ((s.p:Int)+1))).heap[w.heap.size]?=some (.cells zTok 104 (0,0))):=(bhs _ ⟨b,1,none⟩ _ _ (by show w.heap.size≠b;omega)).trans HZ2'.out
  go_wp2
  obtain⟨y0,y1,y2,y3,y4,y5⟩:=six_cells HZ3.out (.string (bs tt)) (.int .i64 (ta:Nat)) (.bool tn) (.bool true) (.int .i64 (tu:Nat)) (.int .i64 (te:Nat))
  obtain⟨m1,m2⟩:=H2.out.setP HU.out
  have hlast:=six_below w.heap.size ((w1.alloc (.cells (tkA ⟨tt,ta,tn,true,tu,te⟩) 104)).setCell ⟨b,1,none⟩ (.int .i64 ((s.p:Int)+1))) w.heap.size nlr (.string (bs tt)) (.int .i64 (ta:Nat)) (.bool tn) (.bool true) (.int .i64 (tu:Nat)) (.int .i64 (te:Nat))
  refine bodyPost_ret (v:=.agg (tkA ⟨tt,ta,tn,true,tu,te⟩)) (by simp[results,Tryz.results92,go_sem,y0,y1,y2,y3,y4,y5]) rfl ?_
  rw[HR.out]
  exact⟨rfl,H.out.later m1 hlast,((Fr.of_below HB2.out).trans m2).later hlast⟩
 ·have HR:Hid (Ref.rname T s=(Ref.tk0,Ref.fail T 3 s)):=by show _=_;unfold Ref.rname;rw[if_neg hc]
  have HC:=hid hc
  clear hwf hc h
  go_enter Tryz.func92,Tryz.ntmps92
  go_wp2_with fail
  refine (now_any B b g T tv iv s nv _ H0.out).mono ?_
  rintro r w1 ⟨rfl,hb1⟩
  rw[tokV_eq]
  generalize Ref.now T s=t at HC ⊢
  obtain⟨tt,ta,tn,tm,tu,te⟩:=t
  have HB1:Hid (Below w.heap.size w w1):=HB0.out.trans (hb1.mono HB0.out.size)
  have H1:=hid (H0.out.below hb1)
  have HZ1:Hid (w1.heap[w.heap.size]?=some (.cells zTok 104 (0,0))):=(hb1.block _ (by simp)).trans HZ.out
  have hb2:Below w1.heap.size w1 (w1.alloc (.cells (tkA ⟨tt,ta,tn,tm,tu,te⟩) 104)):=brf.alloc nlr _
  have hw1:w.heap.size < w1.heap.size:=(ags HZ1.out).1
  have H2:=hid (H1.out.below hb2)
  have HB2:Hid (Below w.heap.size w (w1.alloc (.cells (tkA ⟨tt,ta,tn,tm,tu,te⟩) 104))):=HB1.out.trans (hb2.mono HB1.out.size)
  have HZ2:Hid ((w1.alloc (.cells (tkA ⟨tt,ta,tn,tm,tu,te⟩) 104)).heap[w.heap.size]?=some (.cells zTok 104 (0,0))):=(hb2.block _ hw1).trans HZ1.out
  have d3:=H2.out.cells.2.2.2.1
  have hcase:(((s.fe:Int) != 0)=true)\/(((s.fe:Int) != 0)=false/\((te:Int) != 0)=true)\/(((s.fe:Int) != 0)=false/\((te:Int) != 0)=false/\tm=false):=by
   have:=HC.out
   by_cases q0:s.fe=0
   ·by_cases q1:te=0
    ·right;right
     refine⟨by simp;omega,by simp;omega,?_⟩
     cases tm
     ·rfl
     ·exact absurd ⟨q0,q1,rfl⟩ this
    ·exact Or.inr (Or.inl ⟨by simp;omega,by simp;omega⟩)
   ·exact Or.inl (by simp;omega)
  clear hb1 hb2 HZ HZ1 H0 HB0 H1 HB1 HC
  rcases hcase with k0|⟨k0,k1⟩|⟨k0,k1,rfl⟩
  all_goals
   go_wp2_with fail
   refine (fail_any B b g T tv iv s nv 3 _ H2.out).mono ?_
   rintro r w3 ⟨rfl,m3,f3⟩
   have M3:=hid m3
   have F3:Hid (Fr b g w nv w3 nv):=(Fr.of_below HB2.out).trans f3
   have hZ3:w3.heap[w.heap.size]?=some (.cells zTok 104 (0,0)):=(f3.block _ (by simp;omega) (by omega) (by have:=(ags H.out.pr).1;omega) (fun e=>by have:=(H.out.nod.lt _ e).2;omega)).trans HZ2.out
   have HZ3:=hid hZ3
   obtain⟨r0,r1,r2,r3,r4,r5,zr⟩:=zero_cells hZ3
   clear m3 f3 hZ3
   go_wp2
   obtain⟨y0,y1,y2,y3,y4,y5⟩:=six_cells HZ3.out (.string ⟨#[]⟩) (.int .i64 0) (.bool false) (.bool false) (.int .i64 0) (.int .i64 0)
   have hlast:=six_below w.heap.size w3 w.heap.size nlr (.string ⟨#[]⟩) (.int .i64 0) (.bool false) (.bool false) (.int .i64 0) (.int .i64 0)
   refine bodyPost_ret (v:=.agg zTok) (by simp[results,Tryz.results92,go_sem,y0,y1,y2,y3,y4,y5]) rfl ?_
   rw[HR.out]
   exact⟨rfl,H.out.later M3.out hlast,F3.out.later hlast⟩
end
section
open Go.RowKit
theorem rnumber_any (B b g:Nat) (T:List Ref.Tk) (tv iv:Value) (s:Ref.Rs) (nv:Value) (lo hi:Nat) (w:World) (h:RM B b g T tv iv s nv w) (hs:T.length<=4001) :
  Calls Tryz.prog 95 #[.pointer (some ⟨b,0,none⟩),.int .i64 (lo:Nat),.int .i64 (hi:Nat)] w fun r w'=>r=.returned (.int .i64 ((Ref.rnumber T lo hi s).1:Nat))/\RM B b g T tv iv (Ref.rnumber T lo hi s).2 nv w'/\Fr b g w nv w' nv:=by
 have H:=hid h
 have hlt:=h.lt
 have hwf:=h.nowWf
 have hbw:b < w.heap.size:=(ags h.rd).1
 by_cases hc:s.fe=0/\(Ref.now T s).e=0/\(Ref.now T s).number=true/\lo<=(Ref.now T s).v/\(Ref.now T s).v<=hi
 ·have HR:Hid (Ref.rnumber T lo hi s=((Ref.now T s).v,Ref.up s)):=by show _=_;unfold Ref.rnumber;rw[if_pos hc]
  have HU:Hid (s.p+1 < T.length):=hwf.1 hc.2.1 (hwf.2.2 hc.2.2.1)
  have b0:((s.fe:Int) != 0)=false:=by simp;omega
  have b1:(((Ref.now T s).e:Int) != 0)=false:=by simp;omega
  have b2:(Ref.now T s).number=true:=hc.2.2.1
  have b3:lo<=(Ref.now T s).v:=hc.2.2.2.1
  have b4:(Ref.now T s).v<=hi:=hc.2.2.2.2
  clear hwf hc h
  go_enter Tryz.func95,Tryz.ntmps95
  go_wp2_with fail
  refine (now_any B b g T tv iv s nv _ H.out).mono ?_
  rintro r w1 ⟨rfl,hb1⟩
  rw[tokV_eq]
  generalize Ref.now T s=t at HR b1 b2 b3 b4 ⊢
  obtain⟨tt,ta,tn,tm,tu,te⟩:=t
  simp only[] at b1 b2 b3 b4
  subst b2
  have b5:(tu < lo)=False:=by simp;omega
  have b6:(hi < tu)=False:=by simp;omega
  have hb2:Below w.heap.size w (w1.alloc (.cells (tkA ⟨tt,ta,true,tm,tu,te⟩) 104)):=hb1.alloc hb1.size _
  have H2:=hid (H.out.below hb2)
  have HB2:=hid hb2
  have hw1:w.heap.size<=w1.heap.size:=hb1.size
  have d1:=H2.out.cells.2.1
  have d3:=H2.out.cells.2.2.2.1
  have zb:=H2.out.cells.2.2.2.2.2.2.2.1
  clear hb1 hb2
  go_wp2
  go_ret
  rw[HR.out]
  obtain⟨m1,m2⟩:=H2.out.setP HU.out
  exact⟨rfl,m1,(Fr.of_below HB2.out).trans m2⟩
 ·have HR:Hid (Ref.rnumber T lo hi s=(lo,Ref.fail T 3 s)):=by show _=_;unfold Ref.rnumber;rw[if_neg hc]
  have HC:=hid hc
  clear hwf hc h
  go_enter Tryz.func95,Tryz.ntmps95
  go_wp2_with fail
  refine (now_any B b g T tv iv s nv _ H.out).mono ?_
  rintro r w1 ⟨rfl,hb1⟩
  rw[tokV_eq]
  generalize Ref.now T s=t at HC ⊢
  obtain⟨tt,ta,tn,tm,tu,te⟩:=t
  have hb2:Below w.heap.size w (w1.alloc (.cells (tkA ⟨tt,ta,tn,tm,tu,te⟩) 104)):=hb1.alloc hb1.size _
  have H2:=hid (H.out.below hb2)
  have HB2:=hid hb2
  have d3:=H2.out.cells.2.2.2.1
  have hcase:(((s.fe:Int) != 0)=true)\/(((s.fe:Int) != 0)=false/\((te:Int) != 0)=true)\/(((s.fe:Int) != 0)=false/\((te:Int) != 0)=false/\tn=false) \/
    (((s.fe:Int) != 0)=false/\((te:Int) != 0)=false/\tn=true/\tu < lo)\/(((s.fe:Int) != 0)=false/\((te:Int) != 0)=false/\tn=true/\(tu < lo)=False/\hi < tu):=by
   have:=HC.out
   by_cases q0:s.fe=0
   ·by_cases q1:te=0
    ·right;right
     cases tn
     ·exact Or.inl ⟨by simp;omega,by simp;omega,rfl⟩
     ·right
      by_cases q3:tu < lo
      ·exact Or.inl ⟨by simp;omega,by simp;omega,rfl,q3⟩
      ·refine Or.inr ⟨by simp;omega,by simp;omega,rfl,by simp;omega,?_⟩
       by_cases q4:hi < tu
       ·exact q4
       ·exact absurd ⟨q0,q1,rfl,by show lo<=tu;omega,by show tu<=hi;omega⟩ this
    ·exact Or.inr (Or.inl ⟨by simp;omega,by simp;omega⟩)
   ·exact Or.inl (by simp;omega)
  clear hb1 hb2 HC
  rcases hcase with k0|⟨k0,k1⟩|⟨k0,k1,rfl⟩|⟨k0,k1,rfl,k3⟩|⟨k0,k1,rfl,k3,k4⟩
  all_goals
   go_wp2_with fail
   refine (fail_any B b g T tv iv s nv 3 _ H2.out).mono ?_
   rintro r w3 ⟨rfl,m3,f3⟩
   have M3:=hid m3
   have F3:Hid (Fr b g w nv w3 nv):=(Fr.of_below HB2.out).trans f3
   clear m3 f3
   go_wp2
   go_ret
   rw[HR.out]
   exact⟨rfl,M3.out,F3.out⟩
theorem rtyped_any (B b g:Nat) (T:List Ref.Tk) (tv iv:Value) (s:Ref.Rs) (nv:Value) (w:World) (h:RM B b g T tv iv s nv w) (hs:T.length<=4001) :
  Calls Tryz.prog 94 #[.pointer (some ⟨b,0,none⟩)] w fun r w'=>r=.returned (.int .i64 ((Ref.rtyped T s).1:Nat))/\RM B b g T tv iv (Ref.rtyped T s).2 nv w'/\Fr b g w nv w' nv:=by
 have H:=hid h
 have hlt:=h.lt
 clear h
 cases hi:Ref.is T Mil.wBool s
 ·have HT:Hid (Ref.rtyped T s=(0,Ref.take T Mil.wInt s)):=by show _=_;unfold Ref.rtyped;rw[hi];rfl
  go_enter Tryz.func94,Tryz.ntmps94
  go_wp2_with fail
  refine (is_any B b g T tv iv s nv Mil.wBool _ H.out).mono ?_
  rintro r w1 ⟨rfl,hb1⟩
  rw[hi]
  have H1:=hid (H.out.below hb1)
  have F1:Hid (Fr b g w nv w1 nv):=Fr.of_below hb1
  clear hi hb1
  go_wp2_with fail
  refine (take_any B b g T tv iv s nv Mil.wInt (by decide) _ H1.out hs).mono ?_
  rintro r w2 ⟨rfl,m2,f2⟩
  have M2:=hid m2
  have F2:=hid f2
  clear m2 f2
  go_wp2
  go_ret
  rw[HT.out]
  exact⟨rfl,M2.out,F1.out.trans F2.out⟩
 ·have HT:Hid (Ref.rtyped T s=(1,Ref.up s)):=by show _=_;unfold Ref.rtyped;rw[hi];rfl
  have HU:Hid (s.p+1 < T.length):=is_up H.out (by decide) hi
  go_enter Tryz.func94,Tryz.ntmps94
  go_wp2_with fail
  refine (is_any B b g T tv iv s nv Mil.wBool _ H.out).mono ?_
  rintro r w1 ⟨rfl,hb1⟩
  rw[hi]
  have H1:=hid (H.out.below hb1)
  have F1:Hid (Fr b g w nv w1 nv):=Fr.of_below hb1
  have d1:=H1.out.cells.2.1
  have z:=H1.out.cells.2.2.2.2.2.2.2.1
  clear hi hb1
  go_wp2
  go_ret
  rw[HT.out]
  obtain⟨m1,m2⟩:=H1.out.setP HU.out
  exact⟨rfl,m1,F1.out.trans m2⟩
theorem Tryz.infoNode:(Tryz.prog.info? 195).map (fun i=>(i.zero,i.size,i.bytes))=some (some (.agg #[.int .i64 0,.string ⟨#[]⟩,.int .i64 0,.int .i64 0,.bool false,.int .i64 0,.int .i64 0,.int .i64 0]),8,72):=by kernel_rfl
abbrev ndA (n:Ref.Nd):Array Value:=#[.int .i64 (n.kind:Nat),.string (bs n.t),.int .i64 (n.at_:Nat),.int .i64 (n.v:Nat),.bool n.neg,.int .i64 (n.a:Nat),.int .i64 (n.b:Nat),.int .i64 (n.c:Nat)]
theorem nd_one (k:Ref.Nd):∀u∈Ref.ndCells k,u.oneCell'=true:=by
 intro u hu
 simp[Ref.ndCells] at hu
 rcases hu with rfl|rfl|rfl|rfl|rfl|rfl|rfl|rfl <;> rfl
theorem after_nodes {B b g:Nat} {T:List Ref.Tk} {tv iv:Value} {s:Ref.Rs} {nv:Value} {w w7:World} {o:Option Addr} {c:Nat} (h:RM B b g T tv iv s nv w) (hv:nv=.slice o s.ns.length c) (hg:w.grownBy w7 (Value.slice o s.ns.length c).ownBlock) :
  w7.cell? ⟨b,2,none⟩=some (.pointer (some ⟨g,0,none⟩))/\w7.cell? ⟨g,1,none⟩=some (.slice o s.ns.length c)/\∀k,w7.frozen? ⟨g,k,none⟩=false:=by
 rw[<-hv] at hg ⊢
 have e1:w7.heap[b]?=w.heap[b]?:=hg.block b (ags h.rd).1 (fun e=>(h.nb b e.symm).1 rfl)
 have e2:w7.heap[g]?=w.heap[g]?:=hg.block g (ags h.pr).1 (fun e=>(h.nb g e.symm).2.1 rfl)
 refine⟨?_,?_,fun k=>?_⟩
 ·rw[cor w7 _ 2 _ _ _ (e1.trans h.rd)];rfl
 ·rw[cor w7 _ 1 _ _ _ (e2.trans h.pr)];rfl
 ·unfold World.frozen?;rw[e2.trans h.pr];simp
theorem nodes_end {B b g:Nat} {T:List Ref.Tk} {tv iv:Value} {s:Ref.Rs} {nv:Value} {w W w7:World} {o:Option Addr} {c k c7:Nat} {n:Ref.Nd} (h1:RM B b g T tv iv s nv W) (hB:Below w.heap.size w W) (hv:nv=.slice o s.ns.length c)
  (O7:w7.ownsRow B 195 8 (.slice (some ⟨k,0,none⟩) (s.ns.length+1) c7) (s.ns.length+1) (nds s.ns++Ref.ndCells n)) (hg:W.grownBy w7 (Value.slice o s.ns.length c).ownBlock) (hat:(Value.slice o s.ns.length c).ownBlock=some k\/k=W.heap.size) :
  RM B b g T tv iv (Ref.node n s).2 (.slice (some ⟨k,0,none⟩) (s.ns.length+1) c7) (w7.setCell ⟨g,1,none⟩ (.slice (some ⟨k,0,none⟩) (s.ns.length+1) c7))/\Fr b g w nv (w7.setCell ⟨g,1,none⟩ (.slice (some ⟨k,0,none⟩) (s.ns.length+1) c7)) (.slice (some ⟨k,0,none⟩) (s.ns.length+1) c7):=by
 rw[<-hv] at hg hat
 have lb:=(ags h1.rd).1
 have lg:=(ags h1.pr).1
 have kb:k≠b/\k≠g/\tv.ownBlock≠some k:=by
  rcases hat with hk|hk
  ·exact h1.nb k hk
  ·refine⟨by omega,by omega,fun e=>?_⟩
   have:=(h1.tok.lt k e).2
   omega
 have oth:∀j,j≠g->(w7.setCell ⟨g,1,none⟩ (.slice (some ⟨k,0,none⟩) (s.ns.length+1) c7)).heap[j]?=w7.heap[j]?:=fun j hj=>bhs w7 ⟨g,1,none⟩ _ j hj
 have gr:∀j,j < W.heap.size->nv.ownBlock≠some j->w7.heap[j]?=W.heap[j]?:=fun j h1 h2=>hg.block j h1 (fun e=>h2 e.symm)
 have e2:w7.heap[g]?=some (.cells #[iv,nv] 100 (0,0)):=(gr g lg (fun e=>(h1.nb g e).2.1 rfl)).trans h1.pr
 refine⟨⟨?_,?_,?_,?_,h1.hb,h1.hg,h1.bg,h1.tb,?_,h1.lt,h1.wf⟩,⟨?_,?_,?_,?_,?_,?_⟩⟩
 ·exact (oth b h1.bg).trans ((gr b lb (fun e=>(h1.nb b e).1 rfl)).trans h1.rd)
 ·exact set_row e2 _
 ·refine own_kept h1.tok (fun j hj=>(oth j (h1.tb j hj).2).trans (gr j (h1.tok.lt j hj).2 (fun e=>(h1.nb j e).2.2 hj)))
 ·have:nds (s.ns++[n])=nds s.ns++Ref.ndCells n:=by simp[nds]
  show World.ownsRow _ _ _ _ _ (s.ns++[n]).length (nds (s.ns++[n]))
  rw[this,List.length_append]
  exact own_kept O7 (fun j hj=>by
   have:k=j:=by simpa [Value.ownBlock] using hj
   subst this
   exact oth k kb.2.1)
 ·intro j hj
  have:k=j:=by simpa [Value.ownBlock] using hj
  subst this
  exact kb
 ·exact hg.os.trans hB.os
 ·exact hg.tape.trans hB.tape
 ·exact hg.output.trans hB.output
 ·have:=hg.size
  have:=hB.size
  simp
  omega
 ·intro j hj
  have:k=j:=by simpa [Value.ownBlock] using hj
  subst this
  rcases hat with hk|hk
  ·exact Or.inl hk
  ·exact Or.inr (by have:=hB.size;omega)
 ·intro j h2 h3 h4 h5
  exact (oth j h4).trans ((gr j (Nat.lt_of_lt_of_le h2 hB.size) h5).trans (hB.block j h2))
theorem node_any (B b g:Nat) (T:List Ref.Tk) (tv iv:Value) (s:Ref.Rs) (nv:Value) (n:Ref.Nd) (w:World) (h:RM B b g T tv iv s nv w) (hn:s.ns.length<=100000000) :
  Calls Tryz.prog 132 #[.pointer (some ⟨b,0,none⟩),.agg (ndA n)] w fun r w'=>r=.returned (.int .i64 ((Ref.node n s).1:Nat))/\∃nv',RM B b g T tv iv (Ref.node n s).2 nv' w'/\Fr b g w nv w' nv':=by
 obtain⟨i0,hi,hz0,hz1,hz2⟩:=info_parts Tryz.infoNode
 have H:=hid h
 obtain⟨o,c,hv⟩:=own_shape h.nod
 have hbw:b < w.heap.size:=(ags h.rd).1
 have hgw:g < w.heap.size:=(ags h.pr).1
 have hb0:Below w.heap.size w (w.alloc (.cells (ndA n) 195)):=brf.alloc nlr _
 have hb1:Below w.heap.size w ((w.alloc (.cells (ndA n) 195)).alloc (.cells (ndA n) 195)):=hb0.alloc (by simp) _
 have H0:Hid (RM B b g T tv iv s nv (w.alloc (.cells (ndA n) 195))):=h.below hb0
 have H1:Hid (RM B b g T tv iv s nv ((w.alloc (.cells (ndA n) 195)).alloc (.cells (ndA n) 195))):=h.below hb1
 have HB1:=hid hb1
 have e2:=H0.out.cells.2.2.1
 have e6:=H0.out.cells.2.2.2.2.2.2.1
 have f2:=H1.out.cells.2.2.1
 have f6:=H1.out.cells.2.2.2.2.2.2.1
 rw[hv] at e6 f6
 have HV:=hid hv
 have HN:=hid hn
 have OW:Hid (((w.alloc (.cells (ndA n) 195)).alloc (.cells (ndA n) 195)).ownsRow B 195 8 (.slice o s.ns.length c) s.ns.length (nds s.ns)):=by
  show World.ownsRow _ _ _ _ _ _ _
  rw[<-hv]
  exact H1.out.nod
 have NW:Hid (∀(j:Nat) (u:Value),(Ref.ndCells n)[j]?=some u->((w.alloc (.cells (ndA n) 195)).alloc (.cells (ndA n) 195)).cell? ((⟨w.heap.size+1,0,none⟩:Addr).add j)=some u):=fun j u h=>by
  have:=news_cells (w.alloc (.cells (ndA n) 195)) (Ref.ndCells n) 195 j u h
  rw[show (w.alloc (.cells (ndA n) 195)).heap.size=w.heap.size+1 by simp] at this
  exact this
 have BW:Hid (B<=((w.alloc (.cells (ndA n) 195)).alloc (.cells (ndA n) 195)).heap.size):=Nat.le_trans h.hb (Nat.le_trans (Nat.le_of_lt hbw) HB1.out.size)
 have hbg:b≠g:=h.bg
 clear hb0 hb1 h hv hn
 go_enter Tryz.func132,Tryz.ntmps132
 go_wp2_with fail
 go_region_law (refine step_append_lies _ rfl (.tmp 15) (.tmp 17) 98 rfl B 195 i0 (.agg #[.int .i64 0,.string ⟨#[]⟩,.int .i64 0,.int .i64 0,.bool false,.int .i64 0,.int .i64 0,.int .i64 0]) 8 72 Tryz.underlying98 hi hz0 hz1 hz2 rfl (by decide) (.slice o s.ns.length c) s.ns.length (nds s.ns) rfl OW.out ⟨w.heap.size+1,0,none⟩ 1 1 (Ref.ndCells n) rfl rfl NW.out (nd_one _) (by decide) (by unfold maxLen;have:=HN.out;omega) (by have:=HN.out;omega) BW.out _ rfl ?_;intro k7 c7 w7 O7 hg7 hat7 hlt7;obtain⟨x2,x6,xz⟩:=after_nodes (H1.out.below brf.drew) HV.out hg7;have HE:Hid (_/\_):=nodes_end (H1.out.below brf.drew) (HB1.out.drew) HV.out O7 hg7 hat7)
 all_goals go_wp2
 all_goals go_ret
 all_goals
  refine⟨?_,_,HE.out.1,HE.out.2⟩
  refine congrArg (fun z:Int=>Ending.returned (.int .i64 z)) ?_
  have:=HN.out
  show wrap64 (s.ns.length:Int)=((s.ns.length:Nat):Int)
  unfold wrap64
  omega
end
end Go.Proofs.YtoiajojadihpbaaGreatDoor
