import Derived.Test.YticbokabjhnagaaGreatDoorW34
namespace Go.Proofs.YticbokabjhnagaaGreatDoor
set_option maxHeartbeats 32000000
section
open Go.RowKit Go.Maps
abbrev setM (W:Nat→Bool):Nat→Option Value:=fun k=>if W k then some (.agg #[]) else none
theorem zeroU (w:World):(zeroValue 162).run Tryz.prog w=.ok (.agg #[]) w:=by kernel_rfl
theorem set_look {w:World} {b n:Nat} {W:Nat→Bool} (h:Mpi w b n (setM W)) (x:Nat) (hx:x≤1000000000) :
  (Instr.lookup 161 (.map (some b)) (.int .i64 (x:Nat)) true).run Tryz.prog w=.ok (.tuple #[.agg #[],.bool (W x)]) w:=by
 have h1:=h.look Tryz.underlying161 (zeroU w) x hx
 rw [h1]
 show Result.ok (Value.tuple #[(if W x then some (.agg #[]) else none:Option Value).getD (.agg #[]),.bool (if W x then some (.agg #[]) else none:Option Value).isSome]) w=_
 cases W x <;> rfl
def BoPost (v:Bool) (w:World) (E:Ending) (w':World):Prop:=Below w.heap.size w w'∧E=.returned (.bool v)
set_option maxRecDepth 100000 in
theorem isReady_any {w:World} {b n:Nat} {W:Nat→Bool} (hM:Mpi w b n (setM W)) (at_:Int) (nm:Mil.Bytes) (ty fl:Nat) (T:TypeId) (y:Value) (so:Option Addr) (sn sc:Nat) (L:List Nat) (hL:Lst w (.slice so sn sc) L) (hf:fl≤1000000000) (hx:∀x∈L,x≤1000000000) (hl:L.length≤100000) :
  Calls Tryz.prog 68 #[.agg #[.int .i64 at_,.string (bs nm),.int .i64 (ty:Nat),.iface T y,.int .i64 (fl:Nat),.slice so sn sc],.map (some b)] w (BoPost (W fl && L.all fun x=>!W x) w):=by
 have HM:Hid (Mpi w b n (setM W)):=hM
 have HL:Hid (Lst w (.slice so sn sc) L):=hL
 have HX:Hid (∀x∈L,x≤1000000000):=hx
 have HB:Hid (Below w.heap.size w (w.alloc (.cells #[.int .i64 at_,.string (bs nm),.int .i64 (ty:Nat),.iface T y,.int .i64 (fl:Nat),.slice so sn sc] 109))):=(Below.refl _ _).alloc (Nat.le_refl _) _
 have HXB:Hid ((w.alloc (.cells #[.int .i64 at_,.string (bs nm),.int .i64 (ty:Nat),.iface T y,.int .i64 (fl:Nat),.slice so sn sc] 109)).heap[w.heap.size]?=some (.cells #[.int .i64 at_,.string (bs nm),.int .i64 (ty:Nat),.iface T y,.int .i64 (fl:Nat),.slice so sn sc] 109 (0,0))):=heap_alloc_new w _
 have hlk:=set_look (HM.out.below HB.out) fl hf
 have hsn:sn=L.length:=by
  rcases hL with ⟨rfl,e⟩ | ⟨g,cap,_,e,_⟩
  ·injection e
  ·injection e
 subst hsn
 clear hM hL hx hf
 go_enter Tryz.func68,Tryz.ntmps68
 cases hW:W fl with
 | false=>
  rw [hW] at hlk
  have HWF:Hid (W fl=false):=hW
  clear hW
  go_wp2
  go_ret
  exact ⟨below_step HB.out ((Below.refl _ _).alloc (Nat.le_refl _) _),rfl⟩
 | true=>
  rw [hW] at hlk
  have HWF:Hid (W fl=true):=hW
  clear hW
  have HB2:Hid (Below w.heap.size w ((w.alloc (.cells #[.int .i64 at_,.string (bs nm),.int .i64 (ty:Nat),.iface T y,.int .i64 (fl:Nat),.slice so L.length sc] 109)).alloc (.cells #[] 162))):=below_step HB.out ((Below.refl _ _).alloc (Nat.le_refl _) _)
  go_wp2_with fail
  clear hlk HXB HB
  generalize (w.alloc (.cells #[.int .i64 at_,.string (bs nm),.int .i64 (ty:Nat),.iface T y,.int .i64 (fl:Nat),.slice so L.length sc] 109)).alloc (.cells #[] 162)=V at HB2 ⊢
  go_loopg [23] L.length (fun gk s23 wr=>∃j:Nat,j≤L.length∧s23=.int .i64 (j:Nat)∧gk=L.length - j∧Hid (∀x∈L.take j,W x=false)∧Hid (Below w.heap.size w wr))
  case atStart=>exact ⟨0,Nat.zero_le _,rfl,rfl,fun x hx=>by simp at hx,HB2⟩
  case round=>
   obtain ⟨j,hj,rfl,hg,HP,KB⟩:=hrel
   have HG:Hid (gk=L.length - j):=hg
   clear hg
   by_cases hlt:j < L.length
   ·have HLT:Hid (j < L.length):=hlt
    obtain ⟨x,hxj⟩:∃x,L[j]?=some x:=⟨_,List.getElem?_eq_getElem hlt⟩
    have HQ:Hid (L[j]?=some x):=hxj
    have hxm:=List.mem_of_getElem? hxj
    obtain ⟨g,rfl,hc⟩:∃g,so=some ⟨g,0,none⟩∧wr.cell? ⟨g,j,none⟩=some (.int .i64 (x:Nat)):=by
     rcases HL.out.below KB.out with ⟨e,_⟩ | ⟨g,cap,_,e,_,h4⟩
     ·rw [e] at hlt;simp at hlt
     ·injection e with e1 _ _
      exact ⟨g,e1,h4 j x hxj⟩
    have hlk:=set_look (HM.out.below KB.out) x (HX.out x hxm)
    have HM2:Hid (x∈L):=hxm
    have h0:(0:Int)≤(j:Int):=by omega
    have h1:(j:Int) < (L.length:Int):=by omega
    clear hxj hxm
    cases hW:W x with
    | true=>
     rw [hW] at hlk
     have HWX:Hid (W x=true):=hW
     clear hW
     go_wp2
     go_ret
     refine ⟨below_step KB.out ((Below.refl _ _).alloc (Nat.le_refl _) _),?_⟩
     have e:(L.all fun x=>!W x)=false:=by
      rw [List.all_eq_false]
      exact ⟨x,HM2.out,by simp [HWX.out]⟩
     rw [e,Bool.and_false];rfl
    | false=>
     rw [hW] at hlk
     have HWX:Hid (W x=false):=hW
     have HB3:Hid (Below w.heap.size w (wr.alloc (.cells #[] 162))):=below_step KB.out ((Below.refl _ _).alloc (Nat.le_refl _) _)
     clear hW
     go_wp2
     go_roundg (L.length - (j+1))
     case measure=>have:=HG.out;have:=HLT.out;omega
     case rel=>exact ⟨j+1,HLT.out,by go_num,rfl,fun z hz=>by
      rw [List.take_add_one,HQ.out] at hz
      rcases List.mem_append.1 hz with h | h
      ·exact HP.out z h
      ·simp at h;rw [h];exact HWX.out,HB3⟩
   ·have hle:(L.length:Int)≤(j:Int):=by omega
    have HJ:Hid (j=L.length):=by show _=_;omega
    go_wp2
    go_ret
    refine ⟨KB.out,?_⟩
    have e:(L.all fun x=>!W x)=true:=by
     rw [List.all_eq_true]
     intro x hx
     have h:=HP.out x (by rw [HJ.out,List.take_length];exact hx)
     simp [h]
    rw [e];rfl
end
section
open Go.RowKit Go.Maps
structure Yr (N:Nat) (nd:Nat→List Nat) (K:Nat) (w:World) (v:Value) (Y:List (Nq×Value)):Prop where
 row:∃B,w.ownsRow B 109 6 v Y.length (nqs N Y)
 wf:∀x∈Y,Mil.wf (Mip.er x.1.body) false∧x.1.flow≤1000
 lst:∀x∈Y,Lst w x.2 (nd x.1.flow)
 lt:∀k x,x∈nd k→x≤1000
 len:∀k,(nd k).length≤100000
 many:Y.length≤K
theorem Yr.below {N:Nat} {nd:Nat→List Nat} {K:Nat} {w w':World} {v:Value} {Y:List (Nq×Value)} (h:Yr N nd K w v Y) (k:Below w.heap.size w w'):Yr N nd K w' v Y:=by
 obtain ⟨B,hr⟩:=h.row
 exact ⟨⟨B,own_kept hr (fun q hq=>k.block q (lt_of_heap (own_lt hr q hq).2.choose_spec))⟩,h.wf,fun x hx=>(h.lst x hx).below k,h.lt,h.len,h.many⟩
theorem Yr.eqAt {N:Nat} {nd:Nat→List Nat} {K:Nat} {w:World} {v:Value} {Y:List (Nq×Value)} (h:Yr N nd K w v Y) {j:Nat} {x:Nq×Value} (hx:Y[j]?=some x):∃g cap,v=.slice (some ⟨g,0,none⟩) Y.length cap∧w.cell? ⟨g,j*6,none⟩=some (.int .i64 ((N:Int) - (x.1.at_:Nat)))∧w.cell? ⟨g,j*6+1,none⟩=some (.string (bs x.1.nm))∧w.cell? ⟨g,j*6+2,none⟩=some (.int .i64 (x.1.ty:Nat))∧w.cell? ⟨g,j*6+3,none⟩=some (ev N x.1.body)∧w.cell? ⟨g,j*6+4,none⟩=some (.int .i64 (x.1.flow:Nat))∧w.cell? ⟨g,j*6+5,none⟩=some x.2:=by
 obtain ⟨B,hr⟩:=h.row
 have hj:=(List.getElem?_eq_some_iff.1 hx).1
 have he:=hr
 rcases hr.2 with ⟨_,h'⟩ | ⟨g,cap,cur,e,_⟩
 ·omega
 ·rw [e] at he
  have at_:∀i v,i < 6→(nqC N x)[i]?=some v→w.cell? ⟨g,j*6+i,none⟩=some v:=fun i v hi hv=>own_cell he ((flat_at (nqC N) 6 (fun _=>rfl) Y j i x hx hi).trans hv)
  exact ⟨g,cap,e,at_ 0 _ (by decide) rfl,at_ 1 _ (by decide) rfl,at_ 2 _ (by decide) rfl,at_ 3 _ (by decide) rfl,at_ 4 _ (by decide) rfl,at_ 5 _ (by decide) rfl⟩
def waitB (l acc:List Nat) (x:Nat):Bool:=l.contains x && !acc.contains x
theorem wait_ready {nd:Nat→List Nat} {l acc:List Nat} {f:Nat} (hf:f∈l):(waitB l acc f && (nd f).all fun x=>!waitB l acc x)=Mip.rdy nd l acc f:=by
 unfold waitB Mip.rdy
 have:l.contains f=true:=by simpa using hf
 rw [this,Bool.true_and]
theorem wait_take (l acc:List Nat) (f:Nat):delN (setM (waitB l acc)) f=setM (waitB l (acc++[f])):=by
 funext k
 show (if k=f then none else if waitB l acc k then some (Value.agg #[]) else none)=if waitB l (acc++[f]) k then some (Value.agg #[]) else none
 by_cases e:k=f
 ·subst e
  rw [if_pos rfl]
  have:waitB l (acc++[k]) k=false:=by simp [waitB]
  rw [this];rfl
 ·rw [if_neg e]
  have:waitB l (acc++[f]) k=waitB l acc k:=by
   unfold waitB
   have e2:(acc++[f]).contains k=acc.contains k:=by simp [e]
   rw [e2]
  rw [this]
theorem wait_more (l:List Nat) (f:Nat):updN (setM (waitB l [])) f (.agg #[])=setM (waitB (l++[f]) []):=by
 funext k
 show (if k=f then some (Value.agg #[]) else if waitB l [] k then some (Value.agg #[]) else none)=if waitB (l++[f]) [] k then some (Value.agg #[]) else none
 by_cases e:k=f
 ·subst e
  rw [if_pos rfl]
  have:waitB (l++[k]) [] k=true:=by simp [waitB]
  rw [this];rfl
 ·rw [if_neg e]
  have:waitB (l++[f]) [] k=waitB l [] k:=by simp [waitB,e]
  rw [this]
theorem find_rdy {nd:Nat→List Nat} {l0 acc:List Nat}:∀{l:List Nat} {j:Nat} {f:Nat},l[j]?=some f→Mip.rdy nd l0 acc f=true→(∀x∈l.take j,Mip.rdy nd l0 acc x=false)→l.find? (Mip.rdy nd l0 acc)=some f
 | [],_,_,h,_,_=>by simp at h
 | x::r,0,f,h,k,_=>by
  have e:x=f:=by simpa using h
  subst e
  rw [List.find?_cons_of_pos k]
 | x::r,j+1,f,h,k,hn=>by
  have hx:Mip.rdy nd l0 acc x=false:=hn x (by simp)
  rw [List.find?_cons_of_neg (by rw [hx];decide)]
  exact find_rdy (l:=r) (j:=j) (by simpa using h) k (fun z hz=>hn z (by simp [hz]))
theorem wrap_succ {k:Nat} (h:k≤1000000):Value.int .i64 (wrap64 ((k:Int)+1))=.int .i64 ((k+1:Nat):Int):=by
 have e:wrap64 ((k:Int)+1)=(k:Int)+1:=by unfold wrap64;omega
 rw [e];rfl
def OrPost (L:List Nat) (w:World) (E:Ending) (w':World):Prop:=Below w.heap.size w w'∧∃v,E=.returned v∧Ndr w' w.heap.size v L
set_option maxRecDepth 100000 in
theorem inOrder_any (N:Nat) (nd:Nat→List Nat) {w:World} {o:Option Addr} {cap:Nat} {Y:List (Nq×Value)} (hY:Yr N nd 60 w (.slice o Y.length cap) Y) :
  Calls Tryz.prog 41 #[.slice o Y.length cap] w (OrPost (Mip.ord nd (Y.map fun x=>x.1.flow) Y.length []) w):=by
 have HY:Hid (Yr N nd 60 w (.slice o Y.length cap) Y):=hY
 have hlen:=hY.many
 have HB0:Hid (Below w.heap.size w (w.alloc (.map #[] 0))):=(Below.refl _ _).alloc (Nat.le_refl _) _
 have HM0:Hid (Mpi (w.alloc (.map #[] 0)) w.heap.size 0 (setM (waitB [] []))):=by
  have h:=Mpi.made w
  have e:setM (waitB [] [])=fun _=>none:=by funext k;rfl
  show Mpi _ _ _ _
  rw [e];exact h
 obtain ⟨i0,hi0,jz0,jz1,jz2⟩:=info_parts Tryz.infoI
 have hmm:=@run_makeMap Tryz.prog
 clear hY
 go_enter Tryz.func41,Tryz.ntmps41
 go_wp2_with fail
 clear hmm
 generalize hmo:w.heap.size=mo at HM0
 have HMO:Hid (w.heap.size=mo):=hmo
 generalize w.alloc (.map #[] 0)=W at HB0 HM0 ⊢
 clear hmo
 have HKP:Hid (∀u v:World,Below w.heap.size w u→Fr (fun i=>i=mo) u v→Below w.heap.size w v):=fun u v h1 h2=>⟨h2.os.trans h1.os,h2.tape.trans h1.tape,h2.output.trans h1.output,Nat.le_trans h1.size h2.size,fun i hi=>(h2.block i (Nat.lt_of_lt_of_le hi h1.size) (fun e=>by have e':i=mo:=e;have:=HMO.out;omega)).trans (h1.block i hi)⟩
 go_loopg [12] Y.length (fun gk s12 wr=>∃j:Nat,j≤Y.length∧s12=.int .i64 (j:Nat)∧gk=Y.length - j∧Hid (Below w.heap.size w wr)∧Hid (Mpi wr mo j (setM (waitB ((Y.take j).map fun x=>x.1.flow) []))))
 case atStart=>exact ⟨0,Nat.zero_le _,rfl,rfl,HB0,HM0⟩
 case round=>
  obtain ⟨j,hj,rfl,hg,KB,KM⟩:=hrel
  have HG:Hid (gk=Y.length - j):=hg
  clear hg HB0 HM0
  by_cases hlt:j < Y.length
  ·have HLT:Hid (j < Y.length):=hlt
   obtain ⟨⟨q,u⟩,hq⟩:∃x,Y[j]?=some x:=⟨_,List.getElem?_eq_getElem hlt⟩
   have hmem:=List.mem_of_getElem? hq
   have hwf:=HY.out.wf _ hmem
   have HFQ:Hid (q.flow≤1000000000):=by have h2:q.flow≤1000:=hwf.2;show _≤_;omega
   obtain ⟨gq,cap',hqv,e0,e1,e2,e3,e4,e5⟩:=(HY.out.below KB.out).eqAt hq
   obtain ⟨rfl,rfl⟩:o=some ⟨gq,0,none⟩∧cap=cap':=by injection hqv with h1 h2 h3;exact ⟨h1,h3⟩
   obtain ⟨T,y,hev⟩:=ev_iface N q.body hwf.1
   simp only [hev] at e3
   obtain ⟨so,sn,sc,hus⟩:=(HY.out.lst _ hmem).shape
   have hus':u=.slice so sn sc:=hus
   subst hus'
   have h0:(0:Int)≤(j:Int):=by omega
   have h1:(j:Int) < (Y.length:Int):=by omega
   have HB:Hid (Below wr.heap.size wr (wr.alloc (.cells #[.int .i64 ((N:Int) - (q.at_:Nat)),.string (bs q.nm),.int .i64 (q.ty:Nat),.iface T y,.int .i64 (q.flow:Nat),.slice so sn sc] 109))):=(Below.refl _ _).alloc (Nat.le_refl _) _
   obtain ⟨Z,hst,hZM,hZF⟩:=(KM.out.below HB.out).store Tryz.underlying161 q.flow HFQ.out (by omega) (.agg #[])
   have HZM:Hid (Mpi Z mo (j+1) (setM (waitB ((Y.take (j+1)).map fun x=>x.1.flow) []))):=by
    have e:(Y.take (j+1)).map (fun x=>x.1.flow)=(Y.take j).map (fun x=>x.1.flow)++[q.flow]:=by rw [List.take_add_one,hq,List.map_append];rfl
    show Mpi _ _ _ _
    rw [e,←wait_more]
    exact hZM
   have HZB:Hid (Below w.heap.size w Z):=HKP.out _ _ (below_step KB.out HB.out) hZF
   clear hq hmem hwf hqv hev hus HB hZM hZF
   go_wp2
   go_roundg (Y.length - (j+1))
   case measure=>have:=HG.out;have:=HLT.out;omega
   case rel=>exact ⟨j+1,HLT.out,by go_num,rfl,HZB,HZM⟩
  ·have hle:(Y.length:Int)≤(j:Int):=by omega
   have hnl:((j:Int) < (Y.length:Int))=False:=by simp;omega
   have HJ:Hid (j=Y.length):=by show _=_;omega
   have HMA:Hid (Mpi wr mo 60 (setM (waitB (Y.map fun x=>x.1.flow) []))):=by
    have h:=KM.out.more (n':=60) (by omega)
    rw [HJ.out,List.take_length] at h
    exact h
   have HBA:=KB
   clear hj hlt KM
   go_wp2_with fail
   clear hnl hle
   generalize hl:(Y.map fun x=>x.1.flow)=l at HMA
   have HLL:Hid (Y.map (fun x=>x.1.flow)=l):=hl
   clear hl
   go_loopg [6,23] Y.length (fun gk s6 s23 wz=>∃(k:Nat) (acc:List Nat) (v:Value),s6=v∧k≤Y.length∧s23=.int .i64 (k:Nat)∧gk=Y.length - k∧Hid (Mip.ord nd l Y.length []=Mip.ord nd l (Y.length - k) acc∧acc.length≤k)∧Hid (Below w.heap.size w wz)∧Hid (Mpi wz mo 60 (setM (waitB l acc)))∧Hid (Ndr wz (mo+1) v acc))
   case atStart=>exact ⟨0,[],.slice none 0 0,rfl,Nat.zero_le _,rfl,rfl,⟨rfl,Nat.le_refl _⟩,HBA,HMA,⟨World.ownsRow_nil _ _ _ _,fun _=>rfl⟩⟩
   case round=>
    rename World=>wz
    obtain ⟨k,acc,v,hs6,hk,rfl,hg,KO,KB2,KM2,KR⟩:=hrel
    have HG2:Hid (gk=Y.length - k):=hg
    obtain ⟨ov,cv,hv⟩:=own_shape KR.out.1
    have hs6':=hs6.trans hv
    subst hs6'
    have HVV:Hid (v=.slice ov acc.length cv):=hv
    clear hg hs6 hv
    by_cases hlt:k < Y.length
    ·have HLT:Hid (k < Y.length):=hlt
     have hkt:((k:Int) < (Y.length:Int))=True:=by simp;omega
     clear hlt hk
     go_wp2_with fail
     clear hkt
     go_loopg [6,27] Y.length (fun gk s6 s27 wy=>∃j:Nat,s6=.slice ov acc.length cv∧j≤Y.length∧s27=.int .i64 (j:Nat)∧gk=Y.length - j∧Hid (∀x∈l.take j,Mip.rdy nd l acc x=false)∧Hid (Below wz.heap.size wz wy))
     case atStart=>exact ⟨0,rfl,Nat.zero_le _,rfl,rfl,fun x hx=>by simp at hx,Below.refl _ _⟩
     case round=>
      rename World=>wy
      obtain ⟨j,rfl,hj,rfl,hg,HP,KB3⟩:=hrel
      have HG3:Hid (gk=Y.length - j):=hg
      clear hg
      by_cases hlt:j < Y.length
      ·have HLT3:Hid (j < Y.length):=hlt
       obtain ⟨⟨q,u⟩,hq⟩:∃x,Y[j]?=some x:=⟨_,List.getElem?_eq_getElem hlt⟩
       have hmem:=List.mem_of_getElem? hq
       have hwf:=HY.out.wf _ hmem
       have HFQ:Hid (q.flow≤1000):=hwf.2
       have BW:Hid (Below w.heap.size w wy):=below_step KB2.out KB3.out
       obtain ⟨gq,cap',hqv,e0,e1,e2,e3,e4,e5⟩:=(HY.out.below BW.out).eqAt hq
       obtain ⟨rfl,rfl⟩:o=some ⟨gq,0,none⟩∧cap=cap':=by injection hqv with h1 h2 h3;exact ⟨h1,h3⟩
       obtain ⟨T,y,hev⟩:=ev_iface N q.body hwf.1
       simp only [hev] at e3
       have HLU:Hid (Lst w u (nd q.flow)):=HY.out.lst _ hmem
       obtain ⟨so,sn,sc,hus⟩:=HLU.out.shape
       subst hus
       have HQL:Hid (l[j]?=some q.flow):=by show _=_;rw [←HLL.out,List.getElem?_map,hq];rfl
       have h0:(0:Int)≤(j:Int):=by omega
       have h1:(j:Int) < (Y.length:Int):=by omega
       have HB:Hid (Below wy.heap.size wy (wy.alloc (.cells #[.int .i64 ((N:Int) - (q.at_:Nat)),.string (bs q.nm),.int .i64 (q.ty:Nat),.iface T y,.int .i64 (q.flow:Nat),.slice so sn sc] 109))):=(Below.refl _ _).alloc (Nat.le_refl _) _
       have HXB:Hid ((wy.alloc (.cells #[.int .i64 ((N:Int) - (q.at_:Nat)),.string (bs q.nm),.int .i64 (q.ty:Nat),.iface T y,.int .i64 (q.flow:Nat),.slice so sn sc] 109)).heap[wy.heap.size]?=some (.cells #[.int .i64 ((N:Int) - (q.at_:Nat)),.string (bs q.nm),.int .i64 (q.ty:Nat),.iface T y,.int .i64 (q.flow:Nat),.slice so sn sc] 109 (0,0))):=heap_alloc_new wy _
       clear hq hmem hwf hqv hev
       go_wp2_with fail
       have VB:Hid (Below wz.heap.size wz (wy.alloc (.cells #[.int .i64 ((N:Int) - (q.at_:Nat)),.string (bs q.nm),.int .i64 (q.ty:Nat),.iface T y,.int .i64 (q.flow:Nat),.slice so sn sc] 109))):=below_step KB3.out HB.out
       clear e0 e1 e2 e3 e4 e5 HB
       generalize wy.alloc (.cells #[.int .i64 ((N:Int) - (q.at_:Nat)),.string (bs q.nm),.int .i64 (q.ty:Nat),.iface T y,.int .i64 (q.flow:Nat),.slice so sn sc] 109)=V at VB HXB ⊢
       generalize wy.heap.size=ib at HXB ⊢
       have HVW:Hid (Below w.heap.size w V):=below_step KB2.out VB.out
       refine (isReady_any (KM2.out.below VB.out) _ _ _ _ _ _ _ _ _ (nd q.flow) (HLU.out.below HVW.out) (by have:=HFQ.out;omega) (fun x hx=>by have:=HY.out.lt _ x hx;omega) (HY.out.len _)).mono ?_
       rintro E w1 ⟨hb1,rfl⟩
       have HB1:Hid (Below wz.heap.size wz w1):=below_step VB.out hb1
       have HX1:Hid (w1.heap[ib]?=some (.cells #[.int .i64 ((N:Int) - (q.at_:Nat)),.string (bs q.nm),.int .i64 (q.ty:Nat),.iface T y,.int .i64 (q.flow:Nat),.slice so sn sc] 109 (0,0))):=(hb1.block _ (lt_of_heap HXB.out)).trans HXB.out
       rw [wait_ready (List.mem_of_getElem? HQL.out)]
       clear hb1 VB HXB HVW
       cases hr:Mip.rdy nd l acc q.flow with
       | false=>
        have HR0:Hid (Mip.rdy nd l acc q.flow=false):=hr
        clear hr
        go_wp2
        go_roundg (Y.length - (j+1))
        case measure=>have:=HG3.out;have:=HLT3.out;omega
        case rel=>exact ⟨j+1,rfl,HLT3.out,by go_num,rfl,fun x hx=>by
         rw [List.take_add_one,HQL.out] at hx
         rcases List.mem_append.1 hx with h | h
         ·exact HP.out x h
         ·simp at h;rw [h];exact HR0.out,HB1⟩
       | true=>
        have HFD:Hid (l.find? (Mip.rdy nd l acc)=some q.flow):=find_rdy HQL.out hr HP.out
        have HON:Hid (Mip.ord nd l Y.length []=Mip.ord nd l (Y.length - (k+1)) (acc++[q.flow])):=by
         show _=_
         rw [KO.out.1,show Y.length - k=(Y.length - (k+1))+1 by have:=HLT.out;omega,Mip.ord,HFD.out]
        have x4:w1.cell? ⟨ib,4,none⟩=some (.int .i64 (q.flow:Nat)):=(cell_of_row w1 _ 4 _ _ _ HX1.out).trans rfl
        have HA1:Hid (Below wz.heap.size wz (w1.alloc (.cells #[.int .i64 (q.flow:Nat)] 3))):=below_step HB1.out ((Below.refl _ _).alloc (Nat.le_refl _) _)
        have OW:Hid ((w1.alloc (.cells #[.int .i64 (q.flow:Nat)] 3)).ownsRow (mo+1) 3 1 (.slice ov acc.length cv) acc.length (acc.map encN)):=by
         have h:=(KR.out.below HA1.out).1
         rw [HVV.out] at h
         exact h
        have NW:Hid (∀(i:Nat) (z:Value),([q.flow].map encN)[i]?=some z→(w1.alloc (.cells #[.int .i64 (q.flow:Nat)] 3)).cell? ((⟨w1.heap.size,0,none⟩:Addr).add i)=some z):=fun i z hz=>news_cells w1 [.int .i64 (q.flow:Nat)] 3 i z hz
        have HSZ:Hid (mo+1≤(w1.alloc (.cells #[.int .i64 (q.flow:Nat)] 3)).heap.size):=by
         obtain ⟨es,cl,hh⟩:=(KM2.out.below HA1.out).heap
         exact lt_of_heap hh
        have HX2:Hid ((w1.alloc (.cells #[.int .i64 (q.flow:Nat)] 3)).heap[ib]?=some (.cells #[.int .i64 ((N:Int) - (q.at_:Nat)),.string (bs q.nm),.int .i64 (q.ty:Nat),.iface T y,.int .i64 (q.flow:Nat),.slice so sn sc] 109 (0,0))):=(Below.heap_alloc w1 _ ib (lt_of_heap HX1.out)).trans HX1.out
        have HAL:Hid (acc.length≤60):=by have:=KO.out.2;have:=HLT.out;show _≤_;omega
        have HMA2:Hid (Mpi (w1.alloc (.cells #[.int .i64 (q.flow:Nat)] 3)) mo 60 (setM (waitB l acc))):=KM2.out.below HA1.out
        have HBW2:Hid (Below w.heap.size w (w1.alloc (.cells #[.int .i64 (q.flow:Nat)] 3))):=below_step KB2.out HA1.out
        clear hr
        go_upto_region 15 with (at_builtin;refine wpList_append_lies _ rfl _ _ 36 rfl (mo+1) 3 i0 (.int .i64 0) 1 8 Tryz.underlying36 hi0 jz0 jz1 jz2 rfl (by decide) (.slice ov acc.length cv) acc.length (acc.map encN) rfl OW.out ⟨w1.heap.size,0,none⟩ 1 1 ([q.flow].map encN) rfl rfl NW.out (by intro z hz;simp at hz;subst hz;rfl) (by decide) (by unfold maxLen;have:=HAL.out;omega) (by have:=HAL.out;omega) HSZ.out _ rfl ?_;intro k9 c9 w9 O9 hg9 hat9 hlt9)
        have HF9:Hid (Fr (fun i=>(Value.slice ov acc.length cv).ownBlock=some i) (w1.alloc (.cells #[.int .i64 (q.flow:Nat)] 3)) w9):=⟨hg9.os,hg9.tape,hg9.output,hg9.size,fun i h1 h2=>hg9.block i h1 (fun e=>h2 e.symm)⟩
        have HM9:Hid (Mpi w9 mo 60 (setM (waitB l acc))):=HMA2.out.fr HF9.out (fun e=>by have:=(own_lt OW.out mo e).1;omega)
        have HB9:Hid (Below w.heap.size w w9):=below_grown HBW2.out HBW2.out.size hg9 (fun i e=>by have:=(own_lt OW.out i e).1;have:=HMO.out;omega)
        have HR9:Hid (Ndr w9 (mo+1) (.slice (some ⟨k9,0,none⟩) (acc.length+1) c9) (acc++[q.flow])):=by
         refine ⟨?_,fun e=>by simp at e⟩
         rw [List.map_append,List.length_append];exact O9
        have x9:w9.cell? ⟨ib,4,none⟩=some (.int .i64 (q.flow:Nat)):=by
         have hn:¬(Value.slice ov acc.length cv).ownBlock=some ib:=fun e=>heap_nt (own_lt OW.out ib e).2.choose_spec HX2.out (by decide) rfl
         exact HF9.out.held ((cell_of_row (w1.alloc (.cells #[.int .i64 (q.flow:Nat)] 3)) _ 4 _ _ _ HX2.out).trans rfl) hn
        clear O9 hg9 hat9 hlt9 x4
        go_wp2_with (at_delete;refine wpList_drop rfl _ _ 161 162 rfl Tryz.underlying161 mo 60 _ q.flow (by have:=HFQ.out;omega) rfl rfl HM9.out ?_;intro z1 hz1 hz2)
        have HZ1:Hid (Mpi z1 mo 60 (setM (waitB l (acc++[q.flow])))):=by have h:=hz1;rw [wait_take] at h;exact h
        have HZ2:Hid (Below w.heap.size w z1):=HKP.out _ _ HB9.out hz2
        have HZ3:Hid (Ndr z1 (mo+1) (.slice (some ⟨k9,0,none⟩) (acc.length+1) c9) (acc++[q.flow])):=⟨own_kept HR9.out.1 (fun i hi=>hz2.block i (lt_of_heap (own_lt HR9.out.1 i hi).2.choose_spec) (fun e=>by have h1:=(own_lt HR9.out.1 i hi).1;have e':i=mo:=e;omega)),HR9.out.2⟩
        clear hz1 hz2 x9
        go_roundg (Y.length - (k+1))
        case measure=>have:=HG2.out;have:=HLT.out;omega
        case rel=>exact ⟨k+1,acc++[q.flow],_,rfl,HLT.out,wrap_succ (by have:=HLT.out;omega),rfl,⟨HON.out,by have:=KO.out.2;rw [List.length_append];show _+1≤_;omega⟩,HZ2,HZ1,HZ3⟩
      ·have hle:(Y.length:Int)≤(j:Int):=by omega
       have HJ3:Hid (j=Y.length):=by show _=_;omega
       have HON:Hid (Mip.ord nd l Y.length []=Mip.ord nd l (Y.length - (k+1)) acc):=by
        have hfn:l.find? (Mip.rdy nd l acc)=none:=List.find?_eq_none.2 (fun x hx=>by
         have h:=HP.out x (by rw [HJ3.out,show Y.length=l.length by rw [←HLL.out];simp,List.take_length];exact hx)
         rw [h];decide)
        show _=_
        rw [KO.out.1,show Y.length - k=(Y.length - (k+1))+1 by have:=HLT.out;omega,Mip.ord,hfn]
       go_wp2
       go_roundg (Y.length - (k+1))
       case measure=>have:=HG2.out;have:=HLT.out;omega
       case rel=>exact ⟨k+1,acc,v,HVV.out.symm,HLT.out,wrap_succ (by have:=HLT.out;omega),rfl,⟨HON.out,by have:=KO.out.2;omega⟩,below_step KB2.out KB3.out,KM2.out.below KB3.out,KR.out.below KB3.out⟩
    ·have hle:(Y.length:Int)≤(k:Int):=by omega
     have HJ2:Hid (k=Y.length):=by show _=_;omega
     go_wp2
     go_ret
     refine ⟨KB2.out,_,rfl,?_⟩
     have e1:Mip.ord nd l Y.length []=acc:=by rw [KO.out.1,HJ2.out,Nat.sub_self];rfl
     rw [HLL.out,e1]
     have h:=KR.out.base (B':=w.heap.size) (by have:=HMO.out;omega)
     rw [HVV.out] at h
     exact h
end
end Go.Proofs.YticbokabjhnagaaGreatDoor
