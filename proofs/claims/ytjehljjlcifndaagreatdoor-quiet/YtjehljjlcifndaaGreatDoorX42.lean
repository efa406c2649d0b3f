import Derived.Test.YtjehljjlcifndaaGreatDoorX41
namespace Go.Proofs.YtjehljjlcifndaaGreatDoor
set_option maxHeartbeats 32000000
set_option maxRecDepth 100000
section
open Go.RowKit
theorem en_mat:En 72:=fun _ _=>by kernel_rfl
def lput (L:Nat->List Int) (j:Nat) (v:Int) (k:Nat):List Int:=if k=j then L j++[v] else L k
section
variable {D:Nat->Obj->Prop} {wE:World} {mb lb jb K T:Nat} {fv tv wv:Value} {c:Int} {ov:Bool} {L:Nat->List Int} {J:Nat->List Nat} {fn jn:Nat->Value} {w:World}
theorem Mc.env {lo:Nat}:Env lo wE (Mc D wE mb lb jb K T fv tv wv c ov L J fn jn) where
 keep:=fun _ h k _ hk=>h.be.block k hk
 grow:=fun _ _ h hb=>h.below hb
theorem Mc.src {m:Mil.Bytes->Option Int} (hm:∀x k,m x=some k->0<=k/\k.toNat < K):Src (Mc D wE mb lb jb K T fv tv wv c ov L J fn jn) (.func (.func 72) #[.pointer (some ⟨mb,0,none⟩)] #[]) (SL L) (fun j' n'=>0<=n'/\∃x,m x=some j'):=by
 refine⟨_,_,rfl,en_mat,fun j' n' w hd hI=>?_⟩
 obtain⟨_,x,hx⟩:=hd
 obtain⟨f1,f2⟩:=hm x j' hx
 exact (mat_any hI f1 f2).mono (fun E w' h=>by obtain⟨rfl,h2⟩:=h;exact⟨hI,h2⟩)
theorem Mc.mid {w7:World} (h:Mc D wE mb lb jb K T fv tv wv c ov L J fn jn w) {v:Value} {xs:List Int} (hx:Nl w wE.heap.size v xs) (hg:w.grownBy w7 v.ownBlock):w7.heap[mb]?=w.heap[mb]?/\w7.heap[lb]?=w.heap[lb]?/\w7.heap[jb]?=w.heap[jb]?:=by
 obtain⟨cr,hcr⟩:=rowIs_heap h.row
 obtain⟨cj,hcj⟩:=rowIs_heap h.jrow
 exact⟨hg.block mb (lt_of_heap h.m0) (fun e=>heap_nt h.m0 (own_lt hx mb e.symm).2.choose_spec (by decide) rfl),hg.block lb h.row.lt (fun e=>heap_nt hcr (own_lt hx lb e.symm).2.choose_spec (by decide) rfl),hg.block jb h.jrow.lt (fun e=>heap_nt hcj (own_lt hx jb e.symm).2.choose_spec (by decide) rfl)⟩
theorem Mc.put {w7:World} (h:Mc D wE mb lb jb K T fv tv wv c ov L J fn jn w) {j:Nat} (hj:j < K) (hlen:(L j).length<=2000) {v:Int} {g cg:Nat}
  (O:w7.ownsRow wE.heap.size 2 1 (.slice (some ⟨g,0,none⟩) ((L j).length+1) cg) ((L j).length+1) (i64s (L j)++[.int .i64 v])) (hg:w.grownBy w7 (fn j).ownBlock) (hgg:(fn j).ownBlock=some g\/g=w.heap.size) :
  Mc D wE mb lb jb K T fv tv wv c ov (lput L j v) J (fun k=>if k=j then .slice (some ⟨g,0,none⟩) ((L j).length+1) cg else fn k) jn (w7.setCell ⟨lb,j,none⟩ (.slice (some ⟨g,0,none⟩) ((L j).length+1) cg)):=by
 obtain⟨cr,hcr⟩:=rowIs_heap h.row
 obtain⟨cj,hcj⟩:=rowIs_heap h.jrow
 have hx:=(h.log j hj).2
 have nb:∀k,(fn j).ownBlock=some k->wE.heap.size<=k/\∃cur,w.heap[k]?=some (.cells cur 2 (0,0)):=own_lt hx
 have old:∀k,k < w.heap.size->(fn j).ownBlock≠some k->w7.heap[k]?=w.heap[k]?:=fun k hk hn=>hg.block k hk (fun e=>hn e.symm)
 obtain⟨em,el,ej⟩:=h.mid hx hg
 have nml:mb≠lb:=heap_nt h.m0 hcr (by decide)
 have njl:jb≠lb:=heap_nt hcj hcr (by decide)
 obtain⟨cg',hcg⟩:=(own_lt O g rfl).2
 have ngl:g≠lb:=heap_nt hcg (el.trans hcr) (by decide)
 have keep:∀k,k≠lb->(w7.setCell ⟨lb,j,none⟩ (.slice (some ⟨g,0,none⟩) ((L j).length+1) cg)).heap[k]?=w7.heap[k]?:=fun k hk=>bhs w7 ⟨lb,j,none⟩ _ k hk
 have be7:Below wE.heap.size wE w7:=below_grown h.be h.be.size hg (fun k hk=>(nb k hk).1)
 refine⟨be7.setCell (p:=⟨lb,j,none⟩) h.lo2 _,(keep mb nml).trans (em.trans h.m0),(h.row.of_block el).set j _,h.jrow.of_block ((keep jb njl).trans ej),h.lo1,h.lo2,h.lo3,fun k hk=>?_,fun k k' q hk hk' e e'=>?_,h.job,fun b o hb=>?_⟩
 ·by_cases e:k=j
  ·subst e
   refine⟨by unfold lput;rw[if_pos rfl];simp;omega,?_⟩
   show Nl _ _ (if k=k then _ else fn k) _
   rw[if_pos rfl]
   have e0:lput L k v k=L k++[v]:=if_pos rfl
   have e1:(L k++[v]).length=(L k).length+1:=by simp
   have e2:i64s (L k++[v])=i64s (L k)++[.int .i64 v]:=by simp[i64s]
   show World.ownsRow _ _ _ _ _ _ _
   rw[e0,e1,e2]
   exact own_kept O (fun k' hk'=>by
    have e3:g=k':=by simpa [Value.ownBlock] using hk'
    exact keep k' (e3 ▸ ngl))
  ·obtain⟨y0,y1⟩:=h.log k hk
   have e0:lput L j v k=L k:=if_neg e
   show (lput L j v k).length<=2001/\Nl _ _ (if k=j then _ else fn k) (lput L j v k)
   rw[if_neg e,e0]
   refine⟨y0,own_kept y1 (fun q hq=>?_)⟩
   obtain⟨_,cy,hcy⟩:=own_lt y1 q hq
   have hn1:q≠lb:=heap_nt hcy hcr (by decide)
   exact (keep q hn1).trans (old q (lt_of_heap hcy) (fun e'=>e (h.ap k j q hk hj hq e')))
 ·by_cases c1:k=j
  ·by_cases c2:k'=j
   ·rw[c1,c2]
   ·exfalso
    rw[if_pos c1] at e
    rw[if_neg c2] at e'
    have e3:g=q:=by simpa [Value.ownBlock] using e
    obtain⟨y0,y1⟩:=h.log k' hk'
    obtain⟨_,cy,hcy⟩:=own_lt y1 q e'
    rcases hgg with d|d
    ·exact c2 (h.ap k' j q hk' hj e' (e3 ▸ d))
    ·have:=lt_of_heap hcy;omega
  ·by_cases c2:k'=j
   ·exfalso
    rw[if_neg c1] at e
    rw[if_pos c2] at e'
    have e3:g=q:=by simpa [Value.ownBlock] using e'
    obtain⟨y0,y1⟩:=h.log k hk
    obtain⟨_,cy,hcy⟩:=own_lt y1 q e
    rcases hgg with d|d
    ·exact c1 (h.ap k j q hk hj e (e3 ▸ d))
    ·have:=lt_of_heap hcy;omega
   ·rw[if_neg c1] at e
    rw[if_neg c2] at e'
    exact h.ap k k' q hk hk' e e'
 ·obtain⟨k1,k2,k3,k4,k5⟩:=h.kp b o hb
  refine⟨(keep b k3).trans ((old b (lt_of_heap k1) (k5 j hj)).trans k1),k2,k3,k4,fun k hk e=>?_⟩
  by_cases c1:k=j
  ·rw[if_pos c1] at e
   have e3:g=b:=by simpa [Value.ownBlock] using e
   rcases hgg with d|d
   ·exact k5 j hj (e3 ▸ d)
   ·have:=lt_of_heap k1;omega
  ·rw[if_neg c1] at e
   exact k5 k hk e
end
structure Pm (m:Mil.Bytes->Option Int) (ρ:Mil.Bytes->Int->Int->Int) (F:List Flo) (Q:List Nq) (r:Nat->Nat) (wE:World) (wv:Value) (B0:Nat):Prop where
 cd:Cd m F Q r
 wr:Wrw m ρ B0 F.length Q wv wE
 fit:∀x k,m x=some k->0<=k/\k.toNat < F.length
 k60:F.length<=60
def GmP (D:Nat->Obj->Prop) (wE:World) (mb lb jb K T:Nat) (fv tv wv:Value) (c:Int) (ov:Bool) (L:Nat->List Int) (J:Nat->List Nat) (jn:Nat->Value) (j:Nat) (rv:Option Int) (E:Ending) (w':World):Prop:=
 E=.returned (.bool rv.isSome)/\∃fn',Mc D wE mb lb jb K T fv tv wv c ov (match rv with|none=>L|some v=>lput L j v) J fn' jn w'
theorem mgoOn_any {m:Mil.Bytes->Option Int} {ρ:Mil.Bytes->Int->Int->Int} {F:List Flo} {Q:List Nq} {r:Nat->Nat} {B0 mb lb jb T:Nat} {D:Nat->Obj->Prop} {wE:World} {fv tv wv:Value} {c:Int} {ov:Bool} {L:Nat->List Int} {J:Nat->List Nat} {fn jn:Nat->Value} {w:World} (P:Pm m ρ F Q r wE wv B0) {j:Nat} (hj:j < F.length) {q:Nq} (hqm:q∈Q) (hqj:q.flow=j) (hlen:(L j).length<=2000) (h:Mc D wE mb lb jb F.length T fv tv wv c ov L J fn jn w) :
  Calls Tryz.prog 45 #[.pointer (some ⟨mb,0,none⟩),.int .i64 (j:Nat)] w (GmP D wE mb lb jb F.length T fv tv wv c ov L J jn j (Mip.sm m ρ (SL L) q.body ((L j).length:Nat))):=by
 obtain⟨gw,lo,fw,rfl,_,hrow,_,hlo,hyes,_⟩:=P.wr
 obtain⟨fc,cc,hfw,hbv⟩:=hyes q hqm
 have hcall:Calls Tryz.prog fc (#[.func (.func 72) #[.pointer (some ⟨mb,0,none⟩)] #[],.int .i64 ((L j).length:Nat)]++cc) w.drew (Ps (Mc D wE mb lb jb F.length T fv tv (.slice (some ⟨gw,0,none⟩) F.length F.length) c ov L J fn jn) (Mip.sm m ρ (SL L) q.body ((L j).length:Nat))):=
  hbv.2 _ _ (SL L) _ Mc.env (Mc.src P.fit) ((L j).length:Nat) w.drew (h.below brf.drew) (Mip.ask_mono (fun j n h=>⟨h.1,h.2.1⟩) _ (P.cd.hl q hqm).wf _ (asks P.cd hqm (by omega) (by omega) (j:Nat) (by rw[hqj];omega)))
 have HCALL:Hid (Calls Tryz.prog fc (#[.func (.func 72) #[.pointer (some ⟨mb,0,none⟩)] #[],.int .i64 ((L j).length:Nat)]++cc) w.drew (Ps (Mc D wE mb lb jb F.length T fv tv (.slice (some ⟨gw,0,none⟩) F.length F.length) c ov L J fn jn) (Mip.sm m ρ (SL L) q.body ((L j).length:Nat)))):=hcall
 have hen:=fun xs w=>hbv.1 xs w
 obtain⟨oj,cj,hfj⟩:=own_shape (h.log j hj).2
 have HFJ:Hid (fn j=.slice oj (L j).length cj):=hfj
 obtain⟨_,_,c2,_,_,c5,_⟩:=h.cells
 have cl:w.cell? ⟨lb,j,none⟩=some (.slice oj (L j).length cj):=by rw[h.row.cell hj,hfj]
 have cw:w.cell? ⟨gw,j,none⟩=some (.func (.func fc) #[] cc):=by
  rw[(h.be.cell hrow.lt:w.cell? ⟨gw,j,none⟩=_),hrow.cell hj,<-hqj,hfw]
 have h0:(0:Int)<=(j:Int):=by omega
 have h1:(j:Int) < (F.length:Int):=by omega
 have hmf:=makeFunc_run
 have HJ:Hid (j < F.length/\(L j).length<=2000):=⟨hj,hlen⟩
 obtain⟨n0,hn0,nz0,nz1,nz2⟩:=info_parts Tryz.infoI64
 have HGW:Hid (∀w',Mc D wE mb lb jb F.length T fv tv (.slice (some ⟨gw,0,none⟩) F.length F.length) c ov L J fn jn w'->w'.heap[gw]?=wE.heap[gw]?):=fun w' h'=>h'.be.block gw hrow.lt
 have HW0:Hid (Mc D wE mb lb jb F.length T fv tv (.slice (some ⟨gw,0,none⟩) F.length F.length) c ov L J fn jn w):=h
 clear P hrow hyes hfw hbv h hfj hj hqm hqj hlen hcall
 generalize hrv:Mip.sm m ρ (SL L) q.body ((L j).length:Nat)=rv at HCALL ⊢
 clear hrv
 go_enter Tryz.func45,Tryz.ntmps45
 go_wp2_with fail
 refine region_L (fun w'=>w'.cell? ⟨mb,2,none⟩=some (.slice (some ⟨gw,0,none⟩) F.length F.length)/\w'.cell? ⟨mb,5,none⟩=some (.slice (some ⟨lb,0,none⟩) F.length F.length)/\w'.cell? ⟨lb,j,none⟩=some (.slice oj (L j).length cj)/\w'.cell? ⟨gw,j,none⟩=some (.func (.func fc) #[] cc)) 23 (by kernel_rfl) ⟨c2,c5,cl,cw⟩ (fun hS=>?_)
 refine Lu 0 (v:=?_) rfl (by kernel_rfl) (fun _ _ _ h=>h) (Or.inl ⟨by rfl,?_⟩) (by assumption) ?_
 rotate_left 1
 ·(intro w' hSw;(try dsimp only at hSw);go_simp <;> with_reducible rfl)
 try simp only[Act.put,sa,sz,sn]
 refine Lu 1 (v:=?_) rfl (by kernel_rfl) (fun _ _ _ h=>h) (Or.inl ⟨by rfl,?_⟩) (by assumption) ?_
 rotate_left 1
 ·(intro w' hSw;(try dsimp only at hSw);go_simp <;> with_reducible rfl)
 try simp only[Act.put,sa,sz,sn]
 refine Lu 2 (v:=?_) rfl (by kernel_rfl) (fun _ _ _ h=>h) (Or.inl ⟨by rfl,?_⟩) (by assumption) ?_
 rotate_left 1
 ·(intro w' hSw;(try dsimp only at hSw);go_simp <;> with_reducible rfl)
 try simp only[Act.put,sa,sz,sn]
 refine Lu 3 (v:=?_) rfl (by kernel_rfl) (fun _ _ _ h=>h) (Or.inl ⟨by rfl,?_⟩) (by assumption) ?_
 rotate_left 1
 ·(intro w' hSw;(try dsimp only at hSw);go_simp <;> with_reducible rfl)
 try simp only[Act.put,sa,sz,sn]
 refine Lu 4 (v:=?_) rfl (by kernel_rfl) (fun _ _ _ h=>h) (Or.inl ⟨by rfl,?_⟩) (by assumption) ?_
 rotate_left 1
 ·(intro w' hSw;(try dsimp only at hSw);go_simp <;> with_reducible rfl)
 try simp only[Act.put,sa,sz,sn]
 refine Lu 5 (v:=?_) rfl (by kernel_rfl) (fun _ _ _ h=>h) (Or.inl ⟨by rfl,?_⟩) (by assumption) ?_
 rotate_left 1
 ·(intro w' hSw;(try dsimp only at hSw);go_simp <;> with_reducible rfl)
 try simp only[Act.put,sa,sz,sn]
 refine Lu 6 (v:=?_) rfl (by kernel_rfl) (fun _ _ _ h=>h) (Or.inl ⟨by rfl,?_⟩) (by assumption) ?_
 rotate_left 1
 ·(intro w' hSw;(try dsimp only at hSw);go_simp <;> with_reducible rfl)
 try simp only[Act.put,sa,sz,sn]
 refine Lu 7 (v:=?_) rfl (by kernel_rfl) (fun _ _ _ h=>h) (Or.inl ⟨by rfl,?_⟩) (by assumption) ?_
 rotate_left 1
 ·(intro w' hSw;(try dsimp only at hSw);go_simp <;> with_reducible rfl)
 try simp only[Act.put,sa,sz,sn]
 refine Lu 8 (v:=?_) rfl (by kernel_rfl) (fun _ _ _ h=>h) (Or.inl ⟨by rfl,?_⟩) (by assumption) ?_
 rotate_left 1
 ·(intro w' hSw;(try dsimp only at hSw);go_simp <;> with_reducible rfl)
 try simp only[Act.put,sa,sz,sn]
 refine Lu 9 (v:=?_) rfl (by kernel_rfl) (fun _ _ _ h=>h) (Or.inl ⟨by rfl,?_⟩) (by assumption) ?_
 rotate_left 1
 ·(intro w' hSw;(try dsimp only at hSw);go_simp <;> with_reducible rfl)
 try simp only[Act.put,sa,sz,sn]
 refine Lu 10 (v:=?_) rfl (by kernel_rfl) (fun _ _ _ h=>h) (Or.inl ⟨by rfl,?_⟩) (by assumption) ?_
 rotate_left 1
 ·(intro w' hSw;(try dsimp only at hSw);go_simp <;> with_reducible rfl)
 try simp only[Act.put,sa,sz,sn]
 refine Lu 11 (v:=?_) rfl (by kernel_rfl) (fun _ _ _ h=>h) (Or.inl ⟨by rfl,?_⟩) (by assumption) ?_
 rotate_left 1
 ·(intro w' hSw;(try dsimp only at hSw);go_simp <;> with_reducible rfl)
 try simp only[Act.put,sa,sz,sn]
 refine Lu 12 (v:=?_) rfl (by kernel_rfl) (fun _ _ _ h=>h) (Or.inl ⟨by rfl,?_⟩) (by assumption) ?_
 rotate_left 1
 ·(intro w' hSw;(try dsimp only at hSw);go_simp <;> with_reducible rfl)
 try simp only[Act.put,sa,sz,sn]
 refine Lu 13 (v:=?_) rfl (by kernel_rfl) (fun _ _ _ h=>h) (Or.inl ⟨by rfl,?_⟩) (by assumption) ?_
 rotate_left 1
 ·(intro w' hSw;(try dsimp only at hSw);go_simp <;> with_reducible rfl)
 try simp only[Act.put,sa,sz,sn]
 refine Lu 14 (v:=?_) rfl (by kernel_rfl) (fun _ _ _ h=>h) (Or.inl ⟨by rfl,?_⟩) (by assumption) ?_
 rotate_left 1
 ·(intro w' hSw;(try dsimp only at hSw);go_simp <;> with_reducible rfl)
 try simp only[Act.put,sa,sz,sn]
 refine Lu 15 (v:=?_) rfl (by kernel_rfl) (fun _ _ _ h=>h) (Or.inl ⟨by rfl,?_⟩) (by assumption) ?_
 rotate_left 1
 ·(intro w' hSw;(try dsimp only at hSw);go_simp <;> with_reducible rfl)
 try simp only[Act.put,sa,sz,sn]
 refine Lu 16 (v:=?_) rfl (by kernel_rfl) (fun _ _ _ h=>h) (Or.inl ⟨by rfl,?_⟩) (by assumption) ?_
 rotate_left 1
 ·(intro w' hSw;(try dsimp only at hSw);go_simp <;> with_reducible rfl)
 try simp only[Act.put,sa,sz,sn]
 refine Lu 17 (v:=?_) rfl (by kernel_rfl) (fun _ _ _ h=>h) (Or.inl ⟨by rfl,?_⟩) (by assumption) ?_
 rotate_left 1
 ·(intro w' hSw;(try dsimp only at hSw);go_simp <;> with_reducible rfl)
 try simp only[Act.put,sa,sz,sn]
 refine L_one 18 (by kernel_rfl) rfl (fun K hK=>?_)
 go_simp
 refine HCALL.out.mono ?_
 rintro E w1 ⟨hM1,x,rfl,hx⟩
 obtain⟨_,_,e2,_,_,e5,_⟩:=hM1.cells
 have el:w1.cell? ⟨lb,j,none⟩=some (.slice oj (L j).length cj):=by rw[hM1.row.cell HJ.out.1,HFJ.out]
 have ew:w1.cell? ⟨gw,j,none⟩=some (.func (.func fc) #[] cc):=by
  have z:w.heap[gw]?=wE.heap[gw]?:=HGW.out w HW0.out
  have z1:w1.heap[gw]?=wE.heap[gw]?:=HGW.out w1 hM1
  exact (World.cell?_of_block (w:=w) (z1.trans z.symm)).trans cw
 have HM1:Hid (Mc D wE mb lb jb F.length T fv tv (.slice (some ⟨gw,0,none⟩) F.length F.length) c ov L J fn jn w1):=hM1
 refine hK.out _ _ (Or.inr ⟨e2,e5,el,ew⟩) (fun h18=>?_)
 replace h18:=h18.resolve_left (by decide)
 clear hK K hS hM1 c2 c5 cl cw HCALL ew e2 hmf
 try simp only[Act.put,sa,sz,sn]
 refine Lu 19 (v:=?_) rfl (by kernel_rfl) (fun _ _ _ h=>h) (Or.inl ⟨by rfl,?_⟩) (by assumption) ?_
 rotate_left 1
 ·(intro w' hSw;(try dsimp only at hSw);go_simp <;> with_reducible rfl)
 try simp only[Act.put,sa,sz,sn]
 refine Lu 20 (v:=?_) rfl (by kernel_rfl) (fun _ _ _ h=>h) (Or.inl ⟨by rfl,?_⟩) (by assumption) ?_
 rotate_left 1
 ·(intro w' hSw;(try dsimp only at hSw);go_simp <;> with_reducible rfl)
 try simp only[Act.put,sa,sz,sn]
 refine Lu 21 (v:=?_) rfl (by kernel_rfl) (fun _ _ _ h=>h) (Or.inl ⟨by rfl,?_⟩) (by assumption) ?_
 rotate_left 1
 ·(intro w' hSw;(try dsimp only at hSw);go_simp <;> with_reducible rfl)
 try simp only[Act.put,sa,sz,sn]
 refine Lu 22 (v:=?_) rfl (by kernel_rfl) (fun _ _ _ h=>h) (Or.inl ⟨by rfl,?_⟩) (by assumption) ?_
 rotate_left 1
 ·(intro w' hSw;(try dsimp only at hSw);go_simp <;> with_reducible rfl)
 try simp only[Act.put,sa,sz,sn]
 refine L_one 23 (by kernel_rfl) rfl (fun K hK=>?_)
 go_simp
 refine hK.out _ _ (Or.inl rfl) (fun _=>?_)
 clear hK K h18
 try simp only[Act.put,sa,sz,sn]
 refine L_done (by kernel_rfl) ?_ _
 cases rv with
 | none=>
  clear hx
  go_wp2_with fail
  go_ret
  exact⟨rfl,fn,HM1.out⟩
 | some v=>
  obtain rfl:=hx v rfl
  clear hx
  dsimp only[Option.isSome]
  have XB:Hid (Below w1.heap.size w1 (w1.alloc (.cells #[.int .i64 x] 2)).drew):=(brf.alloc nlr _).drew
  have hxo:=(HM1.out.log j HJ.out.1).2
  have OW:Hid ((w1.alloc (.cells #[.int .i64 x] 2)).drew.ownsRow wE.heap.size 2 1 (.slice oj (L j).length cj) (L j).length (i64s (L j))):=by
   have:=own_kept hxo (w':=(w1.alloc (.cells #[.int .i64 x] 2)).drew) (fun g hg=>XB.out.block g (lt_of_heap (own_lt hxo g hg).2.choose_spec))
   rw[HFJ.out] at this
   exact this
  have NW:Hid (∀(k:Nat) (y:Value),[Value.int .i64 x][k]?=some y->(w1.alloc (.cells #[.int .i64 x] 2)).drew.cell? ((⟨w1.heap.size,0,none⟩:Addr).add k)=some y):=fun k y hk=>news_cells w1 [Value.int .i64 x] 2 k y hk
  clear hxo
  go_wp2_with fail
  refine region_L (fun w'=>w'.cell? ⟨mb,5,none⟩=some (.slice (some ⟨lb,0,none⟩) F.length F.length)/\w'.cell? ⟨lb,j,none⟩=some (.slice oj (L j).length cj)) 16 (by kernel_rfl) ⟨e5,el⟩ (fun hS=>?_)
  refine Lu 0 (v:=?_) rfl (by kernel_rfl) (fun _ _ _ h=>h) (Or.inl ⟨by rfl,?_⟩) (by assumption) ?_
  rotate_left 1
  ·(intro w' hSw;(try dsimp only at hSw);go_simp <;> with_reducible rfl)
  try simp only[Act.put,sa,sz,sn]
  refine Lu 1 (v:=?_) rfl (by kernel_rfl) (fun _ _ _ h=>h) (Or.inl ⟨by rfl,?_⟩) (by assumption) ?_
  rotate_left 1
  ·(intro w' hSw;(try dsimp only at hSw);go_simp <;> with_reducible rfl)
  try simp only[Act.put,sa,sz,sn]
  refine Lu 2 (v:=?_) rfl (by kernel_rfl) (fun _ _ _ h=>h) (Or.inl ⟨by rfl,?_⟩) (by assumption) ?_
  rotate_left 1
  ·(intro w' hSw;(try dsimp only at hSw);go_simp <;> with_reducible rfl)
  try simp only[Act.put,sa,sz,sn]
  refine Lu 3 (v:=?_) rfl (by kernel_rfl) (fun _ _ _ h=>h) (Or.inl ⟨by rfl,?_⟩) (by assumption) ?_
  rotate_left 1
  ·(intro w' hSw;(try dsimp only at hSw);go_simp <;> with_reducible rfl)
  try simp only[Act.put,sa,sz,sn]
  refine Lu 4 (v:=?_) rfl (by kernel_rfl) (fun _ _ _ h=>h) (Or.inl ⟨by rfl,?_⟩) (by assumption) ?_
  rotate_left 1
  ·(intro w' hSw;(try dsimp only at hSw);go_simp <;> with_reducible rfl)
  try simp only[Act.put,sa,sz,sn]
  refine Lu 5 (v:=?_) rfl (by kernel_rfl) (fun _ _ _ h=>h) (Or.inl ⟨by rfl,?_⟩) (by assumption) ?_
  rotate_left 1
  ·(intro w' hSw;(try dsimp only at hSw);go_simp <;> with_reducible rfl)
  try simp only[Act.put,sa,sz,sn]
  refine Lu 6 (v:=?_) rfl (by kernel_rfl) (fun _ _ _ h=>h) (Or.inl ⟨by rfl,?_⟩) (by assumption) ?_
  rotate_left 1
  ·(intro w' hSw;(try dsimp only at hSw);go_simp <;> with_reducible rfl)
  try simp only[Act.put,sa,sz,sn]
  refine Lu 7 (v:=?_) rfl (by kernel_rfl) (fun _ _ _ h=>h) (Or.inl ⟨by rfl,?_⟩) (by assumption) ?_
  rotate_left 1
  ·(intro w' hSw;(try dsimp only at hSw);go_simp <;> with_reducible rfl)
  try simp only[Act.put,sa,sz,sn]
  refine Lu 8 (v:=?_) rfl (by kernel_rfl) (fun _ _ _ h=>h) (Or.inl ⟨by rfl,?_⟩) (by assumption) ?_
  rotate_left 1
  ·(intro w' hSw;(try dsimp only at hSw);go_simp <;> with_reducible rfl)
  try simp only[Act.put,sa,sz,sn]
  refine Lu 9 (v:=?_) rfl (by kernel_rfl) (fun _ _ _ h=>h) (Or.inl ⟨by rfl,?_⟩) (by assumption) ?_
  rotate_left 1
  ·(intro w' hSw;(try dsimp only at hSw);go_simp <;> with_reducible rfl)
  try simp only[Act.put,sa,sz,sn]
  refine Lu 10 (v:=?_) rfl (by kernel_rfl) (fun _ _ _ h=>h) (Or.inl ⟨by rfl,?_⟩) (by assumption) ?_
  rotate_left 1
  ·(intro w' hSw;(try dsimp only at hSw);go_simp <;> with_reducible rfl)
  try simp only[Act.put,sa,sz,sn]
  refine Lu 11 (v:=?_) rfl (by kernel_rfl) (fun _ _ _ h=>h) (Or.inl ⟨by rfl,?_⟩) (by assumption) ?_
  rotate_left 1
  ·(intro w' hSw;(try dsimp only at hSw);go_simp <;> with_reducible rfl)
  try simp only[Act.put,sa,sz,sn]
  refine Lu 12 (v:=?_) rfl (by kernel_rfl) (fun _ _ _ h=>h) (Or.inl ⟨by rfl,?_⟩) (by assumption) ?_
  rotate_left 1
  ·(intro w' hSw;(try dsimp only at hSw);go_simp <;> with_reducible rfl)
  try simp only[Act.put,sa,sz,sn]
  refine L_one 13 (by kernel_rfl) rfl (fun K hK=>?_)
  go_simp
  refine hK.out _ _ (Or.inr ?_) (fun h13=>?_)
  ·have kp:∀{p:Addr} {y:Value},w1.cell? p=some y->(w1.alloc (.cells #[.int .i64 x] 2)).drew.cell? p=some y:=fun hp=>(XB.out.cell (lt_of_cell hp)).trans hp
   exact⟨kp e5,kp el⟩
  replace h13:=h13.resolve_left (by decide)
  clear hK K hS e5 el
  try simp only[Act.put,sa,sz,sn]
  refine L_one 14 (by kernel_rfl) rfl (fun K hK=>?_)
  refine step_append_lies _ rfl _ _ 35 rfl wE.heap.size 2 n0 (.int .i64 0) 1 8 Tryz.underlying35 hn0 nz0 nz1 nz2 rfl (by decide) (.slice oj (L j).length cj) (L j).length (i64s (L j)) rfl OW.out ⟨w1.heap.size,0,none⟩ 1 1 [Value.int .i64 x] rfl rfl NW.out (by intro y hy;simp at hy;subst hy;rfl) (by decide) (by unfold maxLen;have:=HJ.out.2;omega) (by have:=HJ.out.2;omega) (Nat.le_trans HM1.out.be.size XB.out.size) _ rfl ?_
  intro k7 c7 w7 O7 hg7 hat7 hlt7
  have HM8:Mc D wE mb lb jb F.length T fv tv (.slice (some ⟨gw,0,none⟩) F.length F.length) c ov L J fn jn (w1.alloc (.cells #[.int .i64 x] 2)).drew:=HM1.out.below XB.out
  have hxo8:=(HM8.log j HJ.out.1).2
  rw[<-HFJ.out] at hg7 hat7
  obtain⟨em,el,_⟩:=HM8.mid hxo8 hg7
  have y1:w7.cell? ⟨mb,5,none⟩=some (.slice (some ⟨lb,0,none⟩) F.length F.length):=(cor w7 mb 5 _ _ _ (em.trans HM8.m0)).trans rfl
  have yr:=HM8.row.of_block el
  have y2:w7.cell? ⟨lb,j,none⟩=some (.slice oj (L j).length cj):=by rw[yr.cell HJ.out.1,HFJ.out]
  have yz:w7.frozen? ⟨lb,j,none⟩=false:=yr.frozen j
  have PUT:=HM8.put (g:=k7) (cg:=c7) HJ.out.1 HJ.out.2 O7 hg7 hat7
  have HPUT:Hid (∃fn',Mc D wE mb lb jb F.length T fv tv (.slice (some ⟨gw,0,none⟩) F.length F.length) c ov (lput L j x) J fn' jn (w7.setCell ⟨lb,j,none⟩ (.slice (some ⟨k7,0,none⟩) ((L j).length+1) c7))):=⟨_,PUT⟩
  clear PUT HM8 hxo8 em el yr O7 hg7 hat7 hlt7 h13
  refine hK.out _ _ (Or.inr ⟨y1,y2⟩) (fun h14=>?_)
  replace h14:=h14.resolve_left (by decide)
  clear hK K
  try simp only[Act.put,sa,sz,sn]
  refine L_one 15 (by kernel_rfl) rfl (fun K hK=>?_)
  go_simp
  refine hK.out _ _ (Or.inr (by assumption)) (fun h15=>?_)
  clear h15 hK K
  try simp only[Act.put,sa,sz,sn]
  refine L_one 16 (by kernel_rfl) rfl (fun K hK=>?_)
  go_simp
  refine hK.out _ _ (Or.inl rfl) (fun _=>?_)
  clear hK K h14 y1 y2 yz
  try simp only[Act.put,sa,sz,sn]
  refine L_done (by kernel_rfl) ?_ _
  go_wp2_with fail
  go_ret
  exact⟨rfl,HPUT.out⟩
end
section
open Go.RowKit
def jput (J:Nat->List Nat) (t:Nat) (xs:List Nat) (k:Nat):List Nat:=if k=t then xs else J k
theorem Mc.jset {D:Nat->Obj->Prop} {wE:World} {mb lb jb K T:Nat} {fv tv wv:Value} {c:Int} {ov:Bool} {L:Nat->List Int} {J:Nat->List Nat} {fn jn:Nat->Value} {w:World} (h:Mc D wE mb lb jb K T fv tv wv c ov L J fn jn w) {t:Nat} {v:Value} {xs:List Nat} (hv:Jq wE v xs) :
  Mc D wE mb lb jb K T fv tv wv c ov L (jput J t xs) fn (fun k=>if k=t then v else jn k) (w.setCell ⟨jb,t,none⟩ v):=by
 obtain⟨cr,hcr⟩:=rowIs_heap h.row
 obtain⟨cj,hcj⟩:=rowIs_heap h.jrow
 have keep:∀k,k≠jb->(w.setCell ⟨jb,t,none⟩ v).heap[k]?=w.heap[k]?:=fun k hk=>bhs w ⟨jb,t,none⟩ _ k hk
 have n1:mb≠jb:=heap_nt h.m0 hcj (by decide)
 have n2:lb≠jb:=heap_nt hcr hcj (by decide)
 refine⟨h.be.setCell (p:=⟨jb,t,none⟩) h.lo3 _,(keep mb n1).trans h.m0,h.row.of_block (keep lb n2),h.jrow.set t _,h.lo1,h.lo2,h.lo3,fun j hj=>?_,h.ap,fun k hk=>?_,fun b o hb=>?_⟩
 ·obtain⟨y0,y1⟩:=h.log j hj
  refine⟨y0,own_kept y1 (fun q hq=>?_)⟩
  obtain⟨_,cy,hcy⟩:=own_lt y1 q hq
  exact keep q (heap_nt hcy hcj (by decide))
 ·unfold jput
  by_cases e:k=t
  ·rw[if_pos e,if_pos e];exact hv
  ·rw[if_neg e,if_neg e];exact h.job k hk
 ·obtain⟨k1,k2,k3,k4,k5⟩:=h.kp b o hb
  exact⟨(keep b k4).trans k1,k2,k3,k4,k5⟩
def pk (m:Mil.Bytes->Option Int) (ρ:Mil.Bytes->Int->Int->Int) (Q:List Nq) (L:Nat->List Int) (J:Nat->List Nat) (t:Nat):(Nat->List Int)×(Nat->List Nat):=
 match J t with
 | []=>(L,J)
 | j::rest=>match (Q.find? fun q=>q.flow==j).bind fun q=>Mip.sm m ρ (SL L) q.body ((L j).length:Nat) with
  | none=>(L,J)
  | some v=>(lput L j v,jput J t rest)
def Jok (F:List Flo) (Q:List Nq) (L:Nat->List Int) (xs:List Nat):Prop:=∀j∈xs,j < F.length/\(∃q∈Q,q.flow=j)/\(L j).length<=2000
theorem Jq.tail {w:World} {g off c:Nat} {x:Nat} {r:List Nat} (h:Jq w (.slice (some ⟨g,off,none⟩) (x::r).length c) (x::r)):Jq w (.slice (some ⟨g,off+1,none⟩) r.length (c - 1)) r:=by
 rcases h with ⟨e,_⟩|⟨g',off',c',e,h1,h2,h3⟩
 ·cases e
 ·injection e with e1 e2 e3
  injection e1 with e1
  injection e1 with e4 e5 _
  subst e4 e5 e3
  simp only[List.length_cons] at h1 h2
  refine Or.inr ⟨_,_,_,rfl,by omega,by omega,fun i y hy=>?_⟩
  have:=h3 (i+1) y (by simpa using hy)
  rw[Nat.add_assoc,Nat.add_comm 1 i]
  exact this
theorem pick_any {m:Mil.Bytes->Option Int} {ρ:Mil.Bytes->Int->Int->Int} {F:List Flo} {Q:List Nq} {r:Nat->Nat} {B0 mb lb jb T:Nat} {D:Nat->Obj->Prop} {wE:World} {fv tv wv:Value} {c:Int} {ov:Bool} {L:Nat->List Int} {J:Nat->List Nat} {fn jn:Nat->Value} {w:World} (P:Pm m ρ F Q r wE wv B0) {t:Nat} (ht:t < T) (hok:Jok F Q L (J t)) (h:Mc D wE mb lb jb F.length T fv tv wv c ov L J fn jn w) :
  Calls Tryz.prog 26 #[.pointer (some ⟨mb,0,none⟩),.int .i64 (t:Nat)] w fun E w'=>(∃k:Int,E=.returned (.int .i64 k))/\∃fn' jn',Mc D wE mb lb jb F.length T fv tv wv c ov (pk m ρ Q L J t).1 (pk m ρ Q L J t).2 fn' jn' w':=by
 obtain⟨_,_,_,_,_,_,c6⟩:=h.cells
 have HM:Hid (Mc D wE mb lb jb F.length T fv tv wv c ov L J fn jn w):=h
 have HP:Hid (Pm m ρ F Q r wE wv B0):=P
 have HT:Hid (t < T):=ht
 have HOK:Hid (Jok F Q L (J t)):=hok
 have hjq:=h.job t ht
 have h0:(0:Int)<=(t:Int):=by omega
 have h1:(t:Int) < (T:Int):=by omega
 have ct0:w.cell? ⟨jb,t,none⟩=some (jn t):=h.jrow.cell ht
 have HH:Hid (∀w,Calls Tryz.prog 44 #[.slice (some ⟨jb,0,none⟩) T T,.int .i64 (t:Nat)] w fun E w'=>E=.returned (.bool true)/\w=w'):=fun w=>hasJ_any _ _ _ _ w (decide_eq_true ⟨h0,h1⟩).symm
 clear h P ht hok
 cases hJ:J t with
 | nil=>
  rw[hJ] at hjq
  obtain⟨o,cj,hs⟩:=hjq.shape
  have ct:w.cell? ⟨jb,t,none⟩=some (.slice o 0 cj):=by rw[ct0,hs];rfl
  have HPK:Hid (pk m ρ Q L J t=(L,J)):=by show _=_;unfold pk;rw[hJ]
  clear hjq hs ct0 hJ
  go_enter Tryz.func26,Tryz.ntmps26
  go_wp2_with (go_at_call 44;refine (HH.out _).mono ?_;rintro E w1 ⟨rfl,rfl⟩)
  go_ret
  rw[HPK.out]
  exact⟨⟨_,rfl⟩,fn,jn,HM.out⟩
 | cons j rest=>
  rw[hJ] at hjq
  obtain⟨g,off,cj,hs,hle,h60,hcell⟩:∃g off c,jn t=.slice (some ⟨g,off,none⟩) (j::rest).length c/\(j::rest).length<=c/\(j::rest).length<=60/\∀(i:Nat) x,(j::rest)[i]?=some x->wE.cell? ⟨g,off+i,none⟩=some (.int .i64 (x:Nat)):=by
   rcases hjq with ⟨e,_⟩|h
   ·cases e
   ·exact h
  have HJQ:Hid (Jq wE (.slice (if cj=1 then some ⟨g,off,none⟩ else some ⟨g,off+1,none⟩) rest.length (cj - 1)) rest):=by
   have ht:=hjq
   rw[hs] at ht
   by_cases e1:cj=1
   ·have e2:rest=[]:=List.length_eq_zero_iff.1 (by simp only[List.length_cons] at hle;omega)
    subst e2
    exact Or.inl ⟨rfl,_,_,rfl⟩
   ·rw[if_neg e1]
    exact ht.tail
  have ct:w.cell? ⟨jb,t,none⟩=some (.slice (some ⟨g,off,none⟩) (rest.length+1) cj):=by rw[ct0,hs];rfl
  have cg:w.cell? ⟨g,off,none⟩=some (.int .i64 (j:Nat)):=by
   have:=hcell 0 j rfl
   exact (HM.out.be.cell (lt_of_cell this)).trans this
  have HLE:Hid (rest.length+1<=cj/\rest.length+1<=60):=⟨hle,h60⟩
  have hok:=HOK.out
  rw[hJ] at hok
  obtain⟨hjF,⟨q,hqm,hqj⟩,hlen⟩:=hok j (by simp)
  have hfind:Q.find? (fun q=>q.flow==j)=some q:=by
   have:=HP.out.cd.up q hqm
   rw[hqj] at this
   exact this
  have HPK:Hid (pk m ρ Q L J t=match Mip.sm m ρ (SL L) q.body ((L j).length:Nat) with|none=>(L,J)|some v=>(lput L j v,jput J t rest)):=by
   show _=_
   unfold pk
   rw[hJ]
   dsimp only
   rw[hfind]
   rfl
  have HGO:Hid (∀w',Mc D wE mb lb jb F.length T fv tv wv c ov L J fn jn w'->Calls Tryz.prog 45 #[.pointer (some ⟨mb,0,none⟩),.int .i64 (j:Nat)] w' (GmP D wE mb lb jb F.length T fv tv wv c ov L J jn j (Mip.sm m ρ (SL L) q.body ((L j).length:Nat)))):=fun w' h'=>mgoOn_any HP.out hjF hqm hqj hlen h'
  have l0:¬(((rest.length+1:Nat):Int)=0):=by omega
  have l1:(0:Int) < ((rest.length+1:Nat):Int):=by omega
  have l2:(1:Int)<=((rest.length+1:Nat):Int):=by omega
  have l4:(1:Int)<=(rest.length:Int)+1:=by omega
  have l3:((rest.length+1:Nat):Int)<=((cj:Nat):Int):=by have:=HLE.out.1;omega
  clear hjq hs ct0 hJ hcell hok hfind hqm hqj hlen hjF hle h60
  generalize Mip.sm m ρ (SL L) q.body ((L j).length:Nat)=rv at HPK HGO
  go_enter Tryz.func26,Tryz.ntmps26
  cases rv with
  | none=>
   go_wp2_with (first
    | (go_at_call 44;refine (HH.out _).mono ?_;rintro E w1 ⟨rfl,rfl⟩)
    | (go_at_call 45;refine (HGO.out _ HM.out).mono ?_;rintro E w2 ⟨rfl,fn',hM2⟩;have HM2:Hid (Mc D wE mb lb jb F.length T fv tv wv c ov L J fn' jn w2):=hM2;clear hM2;dsimp only[Option.isSome]))
   go_ret
   rw[HPK.out]
   exact⟨⟨_,rfl⟩,fn',jn,HM2.out⟩
  | some v=>
   go_wp2_with (first
    | (go_at_call 44;refine (HH.out _).mono ?_;rintro E w1 ⟨rfl,rfl⟩)
    | (go_at_call 45;refine (HGO.out _ HM.out).mono ?_;rintro E w2 ⟨rfl,fn',hM2⟩;have HM2:Hid (Mc D wE mb lb jb F.length T fv tv wv c ov (lput L j v) J fn' jn w2):=hM2;clear hM2;dsimp only[Option.isSome]))
   have c6':w2.cell? ⟨mb,6,none⟩=some (.slice (some ⟨jb,0,none⟩) T T):=HM2.out.cells.2.2.2.2.2.2
   refine region_L (fun w'=>w'.cell? ⟨mb,6,none⟩=some (.slice (some ⟨jb,0,none⟩) T T)) 8 (by kernel_rfl) c6' (fun hS=>?_)
   refine Lu 0 (v:=?_) rfl (by kernel_rfl) (fun _ _ _ h=>h) (Or.inl ⟨by rfl,?_⟩) (by assumption) ?_
   rotate_left 1
   ·(intro w' hSw;(try dsimp only at hSw);go_simp <;> with_reducible rfl)
   try simp only[Act.put,sa,sz,sn]
   refine Lu 1 (v:=?_) rfl (by kernel_rfl) (fun _ _ _ h=>h) (Or.inl ⟨by rfl,?_⟩) (by assumption) ?_
   rotate_left 1
   ·(intro w' hSw;(try dsimp only at hSw);go_simp <;> with_reducible rfl)
   try simp only[Act.put,sa,sz,sn]
   refine Lu 2 (v:=?_) rfl (by kernel_rfl) (fun _ _ _ h=>h) (Or.inl ⟨by rfl,?_⟩) (by assumption) ?_
   rotate_left 1
   ·(intro w' hSw;(try dsimp only at hSw);go_simp <;> with_reducible rfl)
   try simp only[Act.put,sa,sz,sn]
   refine Lu 3 (v:=?_) rfl (by kernel_rfl) (fun _ _ _ h=>h) (Or.inl ⟨by rfl,?_⟩) (by assumption) ?_
   rotate_left 1
   ·(intro w' hSw;(try dsimp only at hSw);go_simp <;> with_reducible rfl)
   try simp only[Act.put,sa,sz,sn]
   refine Lu 4 (v:=?_) rfl (by kernel_rfl) (fun _ _ _ h=>h) (Or.inl ⟨by rfl,?_⟩) (by assumption) ?_
   rotate_left 1
   ·(intro w' hSw;(try dsimp only at hSw);go_simp <;> with_reducible rfl)
   try simp only[Act.put,sa,sz,sn]
   refine Lu 5 (v:=?_) rfl (by kernel_rfl) (fun _ _ _ h=>h) (Or.inl ⟨by rfl,?_⟩) (by assumption) ?_
   rotate_left 1
   ·(intro w' hSw;(try dsimp only at hSw);go_simp <;> with_reducible rfl)
   try simp only[Act.put,sa,sz,sn]
   refine Lu 6 (v:=?_) rfl (by kernel_rfl) (fun _ _ _ h=>h) (Or.inl ⟨by rfl,?_⟩) (by assumption) ?_
   rotate_left 1
   ·(intro w' hSw;(try dsimp only at hSw);go_simp <;> with_reducible rfl)
   try simp only[Act.put,sa,sz,sn]
   refine Lu 7 (v:=?_) rfl (by kernel_rfl) (fun _ _ _ h=>h) (Or.inl ⟨by rfl,?_⟩) (by assumption) ?_
   rotate_left 1
   ·(intro w' hSw;(try dsimp only at hSw);go_simp <;> with_reducible rfl)
   try simp only[Act.put,sa,sz,sn]
   have ct':w2.drew.cell? ⟨jb,t,none⟩=some (jn t):=HM2.out.jrow.cell HT.out
   have cz':w2.drew.frozen? ⟨jb,t,none⟩=false:=HM2.out.jrow.frozen t
   have HS2:Hid (Mc D wE mb lb jb F.length T fv tv wv c ov (lput L j v) (jput J t rest) fn' (fun k=>if k=t then .slice (if cj=1 then some ⟨g,off,none⟩ else some ⟨g,off+1,none⟩) rest.length (cj - 1) else jn k) (w2.setCell ⟨jb,t,none⟩ (.slice (if cj=1 then some ⟨g,off,none⟩ else some ⟨g,off+1,none⟩) rest.length (cj - 1))).drew):=(HM2.out.jset HJQ.out).below brf.drew
   refine L_one 8 (by kernel_rfl) rfl (fun K hK=>?_)
   go_simp
   refine hK.out _ _ (Or.inl rfl) (fun _=>?_)
   clear hK K hS c6' ct' cz'
   try simp only[Act.put,sa,sz,sn]
   refine L_done (by kernel_rfl) ?_ _
   generalize (w2.setCell ⟨jb,t,none⟩ (.slice (if cj=1 then some ⟨g,off,none⟩ else some ⟨g,off+1,none⟩) rest.length (cj - 1))).drew=w3 at HS2 ⊢
   clear c6 ct cg
   go_wp2
   all_goals go_ret
   all_goals rw[HPK.out]
   all_goals exact⟨⟨_,rfl⟩,fn',_,HS2.out⟩
end
end Go.Proofs.YtjehljjlcifndaaGreatDoor
