import Derived.Test.YtjehljjlcifndaaGreatDoorV19
import Derived.Test.YtjehljjlcifndaaGreatDoorV11
import Derived.Test.YtjehljjlcifndaaGreatDoorV17
import Derived.Carry
namespace Go.Proofs.YtjehljjlcifndaaGreatDoor
set_option maxHeartbeats 32000000
set_option maxRecDepth 100000
section
namespace Mip
open Mil
theorem adv_off {s s1:St} (h:adv s=some s1):off s1<=2*mu s:=by
 have h1:=adv_le h
 have h2:s1.rest.length<=mu s1:=by unfold mu;split <;> omega
 have h3:s.rest.length<=mu s:=by unfold mu;split <;> omega
 have h4:s1.tok.txt.length<=s.rest.length:=by
  unfold adv adv' at h
  split at h
  ·cases h
  ·rename_i t r hc
   have k1:=cut_len hc
   have k2:=zbp false s.rest
   split at h
   ·obtain rfl:=(osi h).symm
    exact Nat.le_trans k1 k2
   ·split at h
    ·cases h
    ·obtain rfl:=(osi h).symm
     exact Nat.le_trans k1 k2
 unfold off
 omega
theorem names_places:∀(n:Nat) (acc:List (Bytes×Nat)) (s:St) (x:List (Bytes×Nat)×St),pnames n acc s=some x->mu s<=4001->(∀y∈acc,y.2<=10000)->∀y∈x.1,y.2<=10000
 | 0,_,_,_,h,_,_=>by cases h
 | n+1,acc,s,x,h,hs,ha=>by
  rw[pnames] at h
  split at h
  ·obtain⟨s1,h1,h⟩:=obs h
   obtain⟨y,h2,h⟩:=obs h
   have k1:=adv_le h1
   have k2:=name_mu h2
   have k3:=adv_off h1
   refine names_places n _ _ _ h (by omega) (fun z hz=>?_)
   rcases List.mem_append.1 hz with hz|hz
   ·exact ha z hz
   ·simp at hz
    rw[hz]
    show off s1<=10000
    omega
  ·obtain rfl:=osi h
   exact ha
theorem item_places {n:Nat} {s:St} {x:It×St} (h:pitem n s=some x) (hs:mu s<=4001):∀y∈x.1.names,y.2<=10000:=by
 unfold pitem at h
 split at h
 ·obtain⟨s1,_,h⟩:=obs h
  obtain⟨_,_,h⟩:=obs h
  obtain⟨_,_,h⟩:=obs h
  obtain⟨_,_,h⟩:=obs h
  obtain⟨_,_,h⟩:=obs h
  obtain⟨_,_,h⟩:=obs h
  obtain⟨_,_,rfl⟩:=oms h
  intro y hy;cases hy
 ·split at h
  ·obtain⟨s1,h1,h⟩:=obs h
   obtain⟨z,h2,h⟩:=obs h
   obtain⟨l,h3,h⟩:=obs h
   obtain⟨_,_,rfl⟩:=oms h
   have k1:=adv_le h1
   have k2:=name_mu h2
   have k3:=adv_off h1
   exact names_places n _ _ _ h3 (by omega) (fun y hy=>by
    simp at hy
    rw[hy]
    show off s1<=10000
    omega)
  ·obtain⟨_,_,h⟩:=obs h
   obtain⟨_,_,h⟩:=obs h
   obtain⟨_,_,h⟩:=obs h
   obtain⟨_,_,h⟩:=obs h
   obtain⟨_,_,h⟩:=obs h
   obtain⟨_,_,rfl⟩:=oms h
   intro y hy;cases hy
theorem prog_places:∀(n:Nat) (acc:List It) (s:St) (l:List It),pprog n acc s=some l->mu s<=4001->(∀i∈acc,∀y∈i.names,y.2<=10000)->∀i∈l,∀y∈i.names,y.2<=10000
 | 0,_,_,_,h,_,_=>by cases h
 | n+1,acc,s,l,h,hs,ha=>by
  rw[pprog] at h
  split at h
  ·obtain rfl:=osi h
   exact ha
  ·split at h
   ·cases h
   ·obtain⟨x,h1,h⟩:=obs h
    have k1:mu x.2 < mu s:=Mil.rit_mu (i:=eri x.1) ⟨n,by rw[sim_item,h1];rfl⟩
    refine prog_places n _ _ _ h (by omega) (fun i hi=>?_)
    rcases List.mem_append.1 hi with hi|hi
    ·exact ha i hi
    ·simp at hi
     rw[hi]
     exact item_places h1 hs
end Mip
namespace Mil
theorem toks_mem {l:List It} {i:It} (h:i∈l):(itemToks i).length<=(allToks l).length:=by
 induction l with
 | nil=>cases h
 | cons x r ih=>
  have e:allToks (x::r)=itemToks x++allToks r:=by simp[allToks]
  rw[e,List.length_append]
  rcases List.mem_cons.1 h with rfl|h
  ·omega
  ·have:=ih h;omega
end Mil
structure Items (l:List Mip.It):Prop where
 ok:∀i∈l,IOk i
 len:l.length<=60
 short:∀i∈l,Short i.names/\i.names.length<=600
 some_:∀i∈l,i.kind=2->i.names≠[]
theorem items_of {b:Mil.Bytes} {l:List Mip.It} (h:Mip.Parsed b l):Items l:=by
 obtain⟨h1,h2,h3⟩:=Mil.parsed_ok h.er
 have hk:∀i∈l,IOk i:=fun i hi=>by
  rcases h1 (Mip.eri i) (List.mem_map.2 ⟨i,hi,rfl⟩) with ⟨x,t,k,e,a1,a2,a3,a4⟩|⟨x,r,e,a1,a2⟩|⟨x,t,e',e,a1,a2,a3⟩
  ·injection e with e1 e2 e3 e4 e5 e6
   exact Or.inl ⟨e1,by rw[e2];exact a1,by rw[e3];exact a2,by rw[e4];exact a3,by rw[e4];exact a4⟩
  ·injection e with e1 e2 e3 e4 e5 e6
   refine Or.inr (Or.inl ⟨e1,fun y hy=>?_⟩)
   have hm:y.1∈x::r:=by rw[<-e5];exact List.mem_map.2 ⟨y,hy,rfl⟩
   rcases List.mem_cons.1 hm with e|e
   ·rw[e];exact a1
   ·exact a2 _ e
  ·injection e with e1 e2 e3 e4 e5 e6
   exact Or.inr (Or.inr ⟨e1,by rw[e2];exact a1,by rw[e3];exact a2,by rw[e6];exact a3⟩)
 have hp:∀i∈l,∀y∈i.names,y.2<=10000:=by
  obtain⟨n,hn⟩:=h
  unfold Mip.parse at hn
  split at hn
  ·cases hn
  ·rename_i h4
   obtain⟨s,k1,k2⟩:=obs hn
   refine Mip.prog_places n [] s l k2 ?_ (fun i hi=>by cases hi)
   have k3:Mil.mu s<=Mil.mu ⟨⟨0,[],0⟩,b,0⟩:=Mil.adv_le (s:=⟨⟨0,[],0⟩,b,0⟩) k1
   have k4:Mil.mu ⟨⟨0,[],0⟩,b,0⟩=b.length:=by unfold Mil.mu;rfl
   omega
 have hn:∀i∈l,(i.kind=2->i.names≠[])/\∀y∈i.names,y.1.length<=4000:=fun i hi=>by
  rcases h1 (Mip.eri i) (List.mem_map.2 ⟨i,hi,rfl⟩) with ⟨x,t,k,e,_⟩|⟨x,r,e,a1,a2⟩|⟨x,t,e',e,_⟩
  ·injection e with e1 e2 e3 e4 e5 e6
   have e7:i.names=[]:=List.map_eq_nil_iff.1 e5
   exact⟨(fun h=>by rw[e1] at h;cases h),(fun y hy=>by rw[e7] at hy;cases hy)⟩
  ·injection e with e1 e2 e3 e4 e5 e6
   refine⟨(fun _ h=>by rw[h] at e5;cases e5),fun y hy=>?_⟩
   have hm:y.1∈x::r:=by rw[<-e5];exact List.mem_map.2 ⟨y,hy,rfl⟩
   rcases List.mem_cons.1 hm with e|e
   ·rw[e];have:=a1.2.2.1;omega
   ·have:=(a2 _ e).2.2.1;omega
  ·injection e with e1 e2 e3 e4 e5 e6
   have e7:i.names=[]:=List.map_eq_nil_iff.1 e5
   exact⟨(fun h=>by rw[e1] at h;cases h),(fun y hy=>by rw[e7] at hy;cases hy)⟩
 have hc:∀i∈l,i.names.length<=600:=fun i hi=>by
  have hm:=Mil.toks_mem (i:=Mip.eri i) (List.mem_map.2 ⟨i,hi,rfl⟩)
  have ht:i.names.length<=(Mil.itemToks (Mip.eri i)).length:=by
   rcases h1 (Mip.eri i) (List.mem_map.2 ⟨i,hi,rfl⟩) with ⟨x,t,k,e,_⟩|⟨x,r,e,a1,a2⟩|⟨x,t,e',e,_⟩
   ·injection e with e1 e2 e3 e4 e5 e6
    rw[List.map_eq_nil_iff.1 e5];exact Nat.zero_le _
   ·rw[e]
    injection e with e1 e2 e3 e4 e5 e6
    have hl:i.names.length=r.length+1:=by have:=congrArg List.length e5;simpa using this
    unfold Mil.itemToks
    rw[if_neg (show ¬(2=1) by decide),if_pos (show 2=2 from rfl)]
    simp[Mil.moreToks_len]
    omega
   ·injection e with e1 e2 e3 e4 e5 e6
    rw[List.map_eq_nil_iff.1 e5];exact Nat.zero_le _
  omega
 exact⟨hk,by simpa using h2,fun i hi=>⟨fun y hy=>⟨(hn i hi).2 y hy,hp i hi y hy⟩,hc i hi⟩,fun i hi=>(hn i hi).1⟩
end
section
open Go.RowKit
variable {X:List (Nq×Value)} {F:List Flo} {m:Mbo} {N b b0 c n:Nat} {fv iv qv:Value} {w w0:World}
theorem ti_in_in (v:Value) (w:World):(Instr.typeAssert (.iface 162 v) 159 162 true).run Tryz.prog w=.ok (.tuple #[v,.bool true]) w:=by kernel_rfl
theorem ti_eq_in (v:Value) (w:World):(Instr.typeAssert (.iface 123 v) 159 162 true).run Tryz.prog w=.ok (.tuple #[.agg #[.int .i64 0,.string ⟨#[]⟩,.int .i64 0,.int .i64 0],.bool false]) w:=by kernel_rfl
theorem ti_out_in (v:Value) (w:World):(Instr.typeAssert (.iface 166 v) 159 162 true).run Tryz.prog w=.ok (.tuple #[.agg #[.int .i64 0,.string ⟨#[]⟩,.int .i64 0,.int .i64 0],.bool false]) w:=by kernel_rfl
theorem ti_eq_eq (v:Value) (w:World):(Instr.typeAssert (.iface 123 v) 159 123 true).run Tryz.prog w=.ok (.tuple #[v,.bool true]) w:=by kernel_rfl
theorem ti_in_eq (v:Value) (w:World):(Instr.typeAssert (.iface 162 v) 159 123 true).run Tryz.prog w=.ok (.tuple #[.agg #[.int .i64 0,.string ⟨#[]⟩,.int .i64 0,.nilIface],.bool false]) w:=by kernel_rfl
theorem ti_out_eq (v:Value) (w:World):(Instr.typeAssert (.iface 166 v) 159 123 true).run Tryz.prog w=.ok (.tuple #[.agg #[.int .i64 0,.string ⟨#[]⟩,.int .i64 0,.nilIface],.bool false]) w:=by kernel_rfl
theorem ti_out_out (v:Value) (w:World):(Instr.typeAssert (.iface 166 v) 159 166 true).run Tryz.prog w=.ok (.tuple #[v,.bool true]) w:=by kernel_rfl
theorem ti_in_out (v:Value) (w:World):(Instr.typeAssert (.iface 162 v) 159 166 true).run Tryz.prog w=.ok (.tuple #[.agg #[.slice none 0 0],.bool false]) w:=by kernel_rfl
theorem Tryz.infoNq:(Tryz.prog.info? 125).map (fun i=>(i.zero,i.size,i.bytes))=some (some (.agg #[.int .i64 0,.string ⟨#[]⟩,.int .i64 0,.nilIface,.int .i64 0,.slice none 0 0]),6,80):=by kernel_rfl
theorem item_at {l:List Mip.It} {o:Option Addr} {ci:Nat} (hR:Row N w0 b0 l (.slice o l.length ci)) (hB:Below w0.heap.size w0 w) {j:Nat} {i:Mip.It} (hi:l[j]?=some i):∃g v,o=some ⟨g,0,none⟩/\w.cell? ⟨g,j,none⟩=some v/\Iv N w0 b0 i v:=by
 obtain⟨vs,h1,h2,h3⟩:=hR
 have hj:=(lgs hi).1
 obtain⟨v,hv⟩:∃v,vs[j]?=some v:=⟨_,List.getElem?_eq_getElem (by omega)⟩
 have hcell:∀g,o=some ⟨g,0,none⟩->w0.cell? ⟨g,j,none⟩=some v:=fun g hg=>by
  subst hg
  exact zan h1 hv
 rcases h1.2 with ⟨h,h'⟩|⟨g,cap,cur,h,_⟩
 ·omega
 ·injection h with e1 e2 e3
  exact⟨g,v,e1,(hB.cell (zab (hcell g e1))).trans (hcell g e1),h3 j i v hi hv⟩
def nilX (Q:List Nq):List (Nq×Value):=Q.map fun q=>(q,.slice none 0 0)
def DcPost (N:Nat) (a:Nat->Addr) (w0:World) (iv:Value) (c b:Nat) (r:Option Nat×Ds) (w:World) (E:Ending) (w':World):Prop:=
 Below w0.heap.size w0 w'/\((r.1=none/\E=.returned (.pointer none)/\∃n fv qv,n<=60/\r.2.F.length<=60/\r.2.Q.length<=60/\Cs N w0 iv c b n r.2.m r.2.F (nilX r.2.Q) fv qv w'/\Kt w w')\/∃p d,r.1=some p/\E=.returned (.pointer (some ⟨d,0,none⟩))/\Dg a w' d ((N:Int) - (p:Nat)) 5)
theorem names_at {l:List (Mil.Bytes×Nat)} {g cc:Nat} (h:w0.ownsRow (b0+1) 119 2 (.slice (some ⟨g,0,none⟩) l.length cc) l.length (nms N l)) (hB:Below w0.heap.size w0 w):Nml N w g 0 l:=fun j x p hj=>by
 have e0:(nms N l)[j*2+0]?=some (.int .i64 ((N:Int) - (p:Nat))):=(zbc _ 2 (fun _=>rfl) l j 0 (x,p) hj (by decide)).trans rfl
 have e1:(nms N l)[j*2+1]?=some (.string (bs x)):=(zbc _ 2 (fun _=>rfl) l j 1 (x,p) hj (by decide)).trans rfl
 have c0:=zan h e0
 have c1:=zan h e1
 refine⟨?_,?_⟩
 ·rw[show 0+j*2=j*2+0 by omega];exact (hB.cell (zab c0)).trans c0
 ·rw[show 0+j*2+1=j*2+1 by omega];exact (hB.cell (zab c1)).trans c1
theorem add_kt (h:Cs N w0 iv c b n m F X fv qv w):∀(i:Nat) (cur:Array Value),(i=b\/i=c\/fv.ownBlock=some i)->w.heap[i]?=some (.cells cur 79 (0,0))->False:=fun i cur e e'=>by
 rcases e with e|e|e
 ·obtain⟨es,cl,hh⟩:=h.mp.heap
  rw[e,hh] at e';cases e'
 ·rw[e] at e'
  exact zai h.cm e' (by decide) rfl
 ·exact zai (zac h.fl i e).2.choose_spec e' (by decide) rfl
theorem eqn_kt (h:Cs N w0 iv c b n m F X fv qv w):∀(i:Nat) (cur:Array Value),(i=c\/qv.ownBlock=some i)->w.heap[i]?=some (.cells cur 79 (0,0))->False:=fun i cur e e'=>by
 rcases e with e|e
 ·rw[e] at e'
  exact zai h.cm e' (by decide) rfl
 ·exact zai (zac h.eq i e).2.choose_spec e' (by decide) rfl
theorem declare_any (N:Nat) (hN:N<=4000) (a:Nat->Addr) (w0:World) (hE:Ce a w0) (b0:Nat) (l:List Mip.It) (hl:Items l) (o:Option Addr) (ci:Nat) (hR:Row N w0 b0 l (.slice o l.length ci)) (c b:Nat) (w:World) (h:Cs N w0 (.slice o l.length ci) c b 0 (fun _=>none) [] [] (.slice none 0 0) (.slice none 0 0) w) :
  Calls Tryz.prog 49 #[.pointer (some ⟨c,0,none⟩)] w (DcPost N a w0 (.slice o l.length ci) c b (decl N Ds.zero l) w):=by
 have HN:=hid hN
 have HE:=hid hE
 have HI:=hid hl
 have HR:=hid hR
 have hll:=hl.len
 have HB0:Hid (Below w.heap.size w (w.alloc (.map #[] 0))):=brf.alloc nlr _
 have HC0:=hid (h.below HB0.out)
 have HM0:=hid (Msi.made w)
 have HMO:Hid (w.heap.size≠b/\w0.heap.size<=w.heap.size):=⟨(h.new nlr).2.2.1,h.blw.size⟩
 have c0:(w.alloc (.map #[] 0)).cell? ⟨c,0,none⟩=some (.slice o l.length ci):=HC0.out.cells.1
 have hmm:=@run_makeMap Tryz.prog
 clear hN hE hl hR h
 generalize hmo:w.heap.size=mo at HM0 HMO
 go_enter Tryz.func49,Tryz.ntmps49
 go_wp2_with fail
 try rw[hmo]
 clear hmm hmo
 generalize w.alloc (.map #[] 0)=W at HB0 HC0 HM0 c0 ⊢
 go_loopg [16] l.length (fun gk s16 wr=>∃(j n no:Nat) (s:Ds) (fv qv:Value),j<=l.length/\s16=.int .i64 (j:Nat)/\gk=l.length - j/\Hid (decl N Ds.zero l=decl N s (l.drop j))/\Hid (Cs N w0 (.slice o l.length ci) c b n s.m s.F (nilX s.Q) fv qv wr)/\Hid (n<=j/\s.F.length<=j/\s.Q.length<=j/\no<=600*j)/\Hid (Msi wr mo no s.om)/\Hid (Kt w wr))
 case atStart=>exact⟨0,0,0,Ds.zero,_,_,Nat.zero_le _,rfl,rfl,rfl,HC0,⟨Nat.le_refl _,Nat.le_refl _,Nat.le_refl _,Nat.le_refl _⟩,HM0,Kt.of_below HB0.out⟩
 case round=>
  obtain⟨j,n,no,s,fv,qv,hj,rfl,hg,KD,KC,KN,KM,KT⟩:=hrel
  have HG:=hid hg
  clear hg c0 HC0 HM0 HB0
  by_cases hlt:j < l.length
  ·obtain⟨i,hi⟩:∃i,l[j]?=some i:=⟨_,List.getElem?_eq_getElem hlt⟩
   obtain⟨gi,v,rfl,hv,hIv⟩:=item_at HR.out KC.out.blw hi
   have HOK:=hid (HI.out.ok i (List.mem_of_getElem? hi))
   have HSH:=hid (HI.out.short i (List.mem_of_getElem? hi))
   have HNE:=hid (HI.out.some_ i (List.mem_of_getElem? hi))
   have HD:=hid (KD.out.trans (decl_drop N hi))
   have HL60:=hid hll
   have HLT:=hid hlt
   have NMO:Hid (mo≠c/\fv.ownBlock≠some mo/\qv.ownBlock≠some mo):=by
    obtain⟨es,cl,hb⟩:=KM.out.heap
    exact⟨zbb hb KC.out.cm (by intro e;cases e),(fun e=>zbb (zac KC.out.fl mo e).2.choose_spec hb (by intro e;cases e) rfl),(fun e=>zbb (zac KC.out.eq mo e).2.choose_spec hb (by intro e;cases e) rfl)⟩
   have h0j:(0:Int)<=(j:Int):=by omega
   have h1j:(j:Int) < (l.length:Int):=by omega
   clear hi KD
   rcases hIv with ⟨hk,rfl⟩|⟨hk,r,rfl,hr⟩|⟨hk,rfl⟩
   ·
    have HK:=hid hk
    have t1:=ti_in_in (.agg #[.int .i64 ((N:Int) - (i.at_:Nat)),.string (bs i.nm),.int .i64 (i.ty:Nat),.int .i64 (i.every:Nat)])
    have HX:Hid (i.nm.length<=4000):=by
     rcases HOK.out with ⟨_,e,_⟩|⟨e,_⟩|⟨e,_⟩
     ·have:=e.2.2.1;show _<=_;omega
     ·have:=HK.out;omega
     ·have:=HK.out;omega
    have XB:Hid (Below wr.heap.size wr (wr.alloc (.cells #[.int .i64 ((N:Int) - (i.at_:Nat)),.string (bs i.nm),.int .i64 (i.ty:Nat),.int .i64 (i.every:Nat)] 162))):=brf.alloc nlr _
    have XC:=hid (KC.out.below XB.out)
    have XM:Hid (Msi (wr.alloc (.cells #[.int .i64 ((N:Int) - (i.at_:Nat)),.string (bs i.nm),.int .i64 (i.ty:Nat),.int .i64 (i.every:Nat)] 162)) mo no s.om):=KM.out.fr (Fr.of_below (own:=fun _=>False) XB.out) (fun e=>e)
    clear hk
    go_wp2_with fail
    have KTV:=hid (KT.out.step XB.out)
    clear t1 hv XB
    generalize wr.alloc (.cells #[.int .i64 ((N:Int) - (i.at_:Nat)),.string (bs i.nm),.int .i64 (i.ty:Nat),.int .i64 (i.every:Nat)] 162)=V at XC XM KTV ⊢
    by_cases hm:(s.m i.nm).isSome=true
    ·have HP:Hid ((decl N Ds.zero l).1=some i.at_):=by show _=_;rw[HD.out,decl,if_pos HK.out,if_pos hm]
     refine (zef XC.out (HE.out.below XC.out.blw) i.nm HX.out hm _ _ _ _ _ _).mono ?_
     rintro E w1 ⟨hb1,d,rfl,hd⟩
     have HB1:=hid (zaa XC.out.blw hb1)
     have HDG:=hid hd
     clear hb1 hd hm
     go_wp2
     go_ret
     exact⟨HB1.out,Or.inr ⟨_,d,HP.out,rfl,HDG.out⟩⟩
    ·have hm':(s.m i.nm).isSome=false:=by simpa using hm
     have HR2:Hid (decl N Ds.zero l=decl N (s.inp i) (l.drop (j+1))):=by show _=_;rw[HD.out,decl,if_pos HK.out,if_neg hm]
     refine (addFlow_new XC.out (by have:=KN.out.2.1;have:=HL60.out;omega) i.nm HX.out (by have:=KN.out.1;have:=HL60.out;omega) hm' _ _ _ _ _ _).mono ?_
     rintro E w1 ⟨rfl,⟨g1,cap1,hC1⟩,hF1⟩
     have HC1:=hid hC1
     have HT1:=hid (KTV.out.fr hF1 (add_kt XC.out))
     have HM1:Hid (Msi w1 mo no (s.inp i).om):=XM.out.fr hF1 (fun e=>by
      rcases e with e|e|e
      ·exact HMO.out.1 e
      ·exact NMO.out.1 e
      ·exact NMO.out.2.1 e)
     clear hC1 hF1 hm hm'
     go_wp2
     go_roundg (l.length - (j+1))
     case measure=>have:=HG.out;have:=HLT.out;omega
     case rel=>exact⟨j+1,n+1,no,s.inp i,_,qv,HLT.out,by go_num,rfl,HR2,HC1,⟨by have:=KN.out.1;omega,by have:=KN.out.2.1;simp[Ds.inp];omega,by have:=KN.out.2.2.1;simp[Ds.inp];omega,by have:=KN.out.2.2.2;omega⟩,HM1,HT1⟩
   ·
    have HK:=hid hk
    have t1:=ti_out_in (.agg #[r])
    have t2:=ti_out_eq (.agg #[r])
    have t3:=ti_out_out (.agg #[r])
    obtain⟨or,cr,hrs⟩:=zae hr
    subst hrs
    have HRW:=hid hr
    have XB:Hid (Below wr.heap.size wr (wr.alloc (.cells #[.slice or i.names.length cr] 166))):=brf.alloc nlr _
    have XC:=hid (KC.out.below XB.out)
    have XM:Hid (Msi (wr.alloc (.cells #[.slice or i.names.length cr] 166)) mo no s.om):=KM.out.fr (Fr.of_below (own:=fun _=>False) XB.out) (fun e=>e)
    clear hk hr
    go_wp2_with fail
    have KTV:=hid (KT.out.step XB.out)
    clear t1 t2 t3 hv XB
    generalize wr.alloc (.cells #[.slice or i.names.length cr] 166)=V at XC XM KTV ⊢
    obtain⟨gn,hgn,hgl⟩:∃gn,or=some ⟨gn,0,none⟩/\gn < w0.heap.size:=by
     have hne:i.names≠[]:=by
      rcases HOK.out with ⟨e,_⟩|⟨_,e⟩|⟨e,_⟩
      ·have:=HK.out;omega
      ·exact HNE.out HK.out
      ·have:=HK.out;omega
     rcases HRW.out.2 with ⟨e,e'⟩|⟨g,cap,cur,e,_,hgg,_⟩
     ·exact absurd (List.length_eq_zero_iff.1 e') hne
     ·injection e with e1 e2 e3
      exact⟨g,e1,lt_of_heap hgg⟩
    subst hgn
    refine (enterAll_any N HN.out a mo no s.om i.names HSH.out.1 (by have:=KN.out.2.2.2;have:=HL60.out;have:=HSH.out.2;have:=HLT.out;omega) gn 0 cr V (HE.out.below XC.out.blw) (Nat.le_trans HE.out.size HMO.out.2) (by have:=HMO.out.2;omega) XM.out (names_at HRW.out XC.out.blw)).mono ?_
    rintro E w1 ⟨hF1,(⟨hn,rfl,hM1⟩|⟨p,d,hn,rfl,hd⟩)⟩
    ·have HR2:Hid (decl N Ds.zero l=decl N ⟨s.m,s.F,s.Q,(entAll N s.om i.names).2⟩ (l.drop (j+1))):=by
      show _=_
      rw[HD.out,decl,if_neg (by have:=HK.out;omega),if_neg (by have:=HK.out;omega),if_neg (by rw[hn];decide)]
     have HC1:=hid (XC.out.off hF1 HMO.out.2 NMO.out.1 HMO.out.1 NMO.out.2.1 NMO.out.2.2)
     have HM1:=hid hM1
     have HT1:=hid (KTV.out.map hF1 XM.out.heap)
     clear hF1 hM1 hn
     go_wp2
     go_roundg (l.length - (j+1))
     case measure=>have:=HG.out;have:=HLT.out;omega
     case rel=>exact⟨j+1,n,no+i.names.length,⟨s.m,s.F,s.Q,(entAll N s.om i.names).2⟩,fv,qv,HLT.out,by go_num,rfl,HR2,HC1,⟨by have:=KN.out.1;omega,by have:=KN.out.2.1;show s.F.length<=_;omega,by have:=KN.out.2.2.1;show s.Q.length<=_;omega,by have:=KN.out.2.2.2;have:=HSH.out.2;omega⟩,HM1,HT1⟩
    ·have HP:Hid ((decl N Ds.zero l).1=some p):=by
      show _=_
      rw[HD.out,decl,if_neg (by have:=HK.out;omega),if_neg (by have:=HK.out;omega),if_pos (by rw[hn];rfl),hn]
     have HB1:Hid (Below w0.heap.size w0 w1):=(XC.out.off hF1 HMO.out.2 NMO.out.1 HMO.out.1 NMO.out.2.1 NMO.out.2.2).blw
     have HDG:=hid hd
     clear hF1 hd hn
     go_wp2
     go_ret
     exact⟨HB1.out,Or.inr ⟨p,d,HP.out,rfl,HDG.out⟩⟩
   ·
    have HK:=hid hk
    have HW:Hid (Mil.wf (Mip.er i.body) false/\i.nm.length<=4000):=by
     rcases HOK.out with ⟨e,_⟩|⟨e,_⟩|⟨_,e,_,e'⟩
     ·have:=HK.out;omega
     ·have:=HK.out;omega
     ·exact⟨e',by have:=e.2.2.1;omega⟩
    obtain⟨T,y,hev⟩:=zaz N i.body HW.out.1
    have HEV:=hid hev
    rw[hev] at hv
    have t1:=ti_eq_in (.agg #[.int .i64 ((N:Int) - (i.at_:Nat)),.string (bs i.nm),.int .i64 (i.ty:Nat),.iface T y])
    have t2:=ti_eq_eq (.agg #[.int .i64 ((N:Int) - (i.at_:Nat)),.string (bs i.nm),.int .i64 (i.ty:Nat),.iface T y])
    have XB:Hid (Below wr.heap.size wr (wr.alloc (.cells #[.int .i64 ((N:Int) - (i.at_:Nat)),.string (bs i.nm),.int .i64 (i.ty:Nat),.iface T y] 123))):=brf.alloc nlr _
    have XC:=hid (KC.out.below XB.out)
    have XM:Hid (Msi (wr.alloc (.cells #[.int .i64 ((N:Int) - (i.at_:Nat)),.string (bs i.nm),.int .i64 (i.ty:Nat),.iface T y] 123)) mo no s.om):=KM.out.fr (Fr.of_below (own:=fun _=>False) XB.out) (fun e=>e)
    have XE:Hid ((wr.alloc (.cells #[.int .i64 ((N:Int) - (i.at_:Nat)),.string (bs i.nm),.int .i64 (i.ty:Nat),.iface T y] 123)).heap[wr.heap.size]?=some (.cells #[.int .i64 ((N:Int) - (i.at_:Nat)),.string (bs i.nm),.int .i64 (i.ty:Nat),.iface T y] 123 (0,0))):=han wr _
    have XQ:Hid (qv.ownBlock≠some wr.heap.size/\wr.heap.size≠c/\wr.heap.size≠b):=by
     obtain⟨_,k2,k3,_,k5⟩:=KC.out.new (Nat.le_refl wr.heap.size)
     exact⟨k5,k2,k3⟩
    clear hk hev
    go_wp2_with fail
    have KTV:=hid (KT.out.step XB.out)
    clear t1 t2 hv XB
    generalize wr.alloc (.cells #[.int .i64 ((N:Int) - (i.at_:Nat)),.string (bs i.nm),.int .i64 (i.ty:Nat),.iface T y] 123)=V at XC XM XE KTV ⊢
    generalize wr.heap.size=ib at XE XQ ⊢
    obtain⟨of,cf,hfv⟩:=zae XC.out.fl
    obtain⟨oq,cq,hqv⟩:=zae XC.out.eq
    have HFV:=hid hfv
    have hlx:(nilX s.Q).length=s.Q.length:=by simp[nilX]
    rw[hlx] at hqv
    have HQV:=hid hqv
    obtain⟨_,d1,_,d3⟩:=XC.out.cells
    rw[HFV.out] at d1
    rw[HQV.out] at d3
    have e0:V.cell? ⟨ib,0,none⟩=some (.int .i64 ((N:Int) - (i.at_:Nat))):=(cor V _ 0 _ _ _ XE.out).trans rfl
    have e1:V.cell? ⟨ib,1,none⟩=some (.string (bs i.nm)):=(cor V _ 1 _ _ _ XE.out).trans rfl
    have e2:V.cell? ⟨ib,2,none⟩=some (.int .i64 (i.ty:Nat)):=(cor V _ 2 _ _ _ XE.out).trans rfl
    have e3:V.cell? ⟨ib,3,none⟩=some (.iface T y):=(cor V _ 3 _ _ _ XE.out).trans rfl
    obtain⟨f0,hf0,fz0,fz1,fz2⟩:=info_parts Tryz.infoNq
    have VB:Hid (Below V.heap.size V (V.alloc (.cells #[.int .i64 ((N:Int) - (i.at_:Nat)),.string (bs i.nm),.int .i64 (i.ty:Nat),.iface T y,.int .i64 (s.F.length:Nat),.slice none 0 0] 125)).drew):=(brf.alloc nlr _).drew
    have VC:=hid (XC.out.below VB.out)
    have HNC:Hid (nqC N (⟨i.nm,i.at_,i.ty,i.body,s.F.length⟩,.slice none 0 0)=[.int .i64 ((N:Int) - (i.at_:Nat)),.string (bs i.nm),.int .i64 (i.ty:Nat),.iface T y,.int .i64 (s.F.length:Nat),.slice none 0 0]):=by
     show [Value.int .i64 ((N:Int) - (i.at_:Nat)),.string (bs i.nm),.int .i64 (i.ty:Nat),ev N i.body,.int .i64 (s.F.length:Nat),.slice none 0 0]=_
     rw[HEV.out]
    have NW:Hid (∀(q:Nat) (u:Value),(nqC N (⟨i.nm,i.at_,i.ty,i.body,s.F.length⟩,.slice none 0 0))[q]?=some u->(V.alloc (.cells #[.int .i64 ((N:Int) - (i.at_:Nat)),.string (bs i.nm),.int .i64 (i.ty:Nat),.iface T y,.int .i64 (s.F.length:Nat),.slice none 0 0] 125)).drew.cell? ((⟨V.heap.size,0,none⟩:Addr).add q)=some u):=by
     show ∀(q:Nat) (u:Value),_
     rw[HNC.out]
     exact fun q u h=>zbe V _ 125 q u h
    have OW:Hid ((V.alloc (.cells #[.int .i64 ((N:Int) - (i.at_:Nat)),.string (bs i.nm),.int .i64 (i.ty:Nat),.iface T y,.int .i64 (s.F.length:Nat),.slice none 0 0] 125)).drew.ownsRow w0.heap.size 125 6 (.slice oq s.Q.length cq) s.Q.length (nqs N (nilX s.Q))):=by
     show World.ownsRow _ _ _ _ _ _ _
     have e:=VC.out.eq
     rw[hlx,HQV.out] at e
     exact e
    clear hfv hqv
    refine zbu (fun w'=>w'.cell? ⟨c,3,none⟩=some (.slice oq s.Q.length cq)/\w'.cell? ⟨c,1,none⟩=some (.slice of s.F.length cf)/\w'.cell? ⟨ib,0,none⟩=some (.int .i64 ((N:Int) - (i.at_:Nat)))/\w'.cell? ⟨ib,1,none⟩=some (.string (bs i.nm))/\w'.cell? ⟨ib,2,none⟩=some (.int .i64 (i.ty:Nat))/\w'.cell? ⟨ib,3,none⟩=some (.iface T y)) 16 (by kernel_rfl) ⟨d3,d1,e0,e1,e2,e3⟩ (fun hS=>?_)
    refine Lu 0 (v:=?_) rfl (by kernel_rfl) (fun _ _ _ h=>h) (Or.inl ⟨by rfl,?_⟩) (by assumption) ?_
    rotate_left 1
    ·(intro w' hSw;(try dsimp only at hSw);go_simp <;> with_reducible rfl)
    try simp only[Act.put,sa,sz,sn]
    refine Lu 1 (v:=?_) rfl (by kernel_rfl) (fun _ _ _ h=>h) (Or.inl ⟨by rfl,?_⟩) (by assumption) ?_
    rotate_left 1
    ·(intro w' hSw;(try dsimp only at hSw);go_simp <;> with_reducible rfl)
    try simp only[Act.put,sa,sz,sn]
    refine Lu 2 (v:=?_) rfl (by kernel_rfl) (fun _ _ _ h=>h) (Or.inl ⟨by rfl,?_⟩) (by assumption) ?_
    rotate_left 1
    ·(intro w' hSw;(try dsimp only at hSw);go_simp <;> with_reducible rfl)
    try simp only[Act.put,sa,sz,sn]
    refine Lu 3 (v:=?_) rfl (by kernel_rfl) (fun _ _ _ h=>h) (Or.inl ⟨by rfl,?_⟩) (by assumption) ?_
    rotate_left 1
    ·(intro w' hSw;(try dsimp only at hSw);go_simp <;> with_reducible rfl)
    try simp only[Act.put,sa,sz,sn]
    refine Lu 4 (v:=?_) rfl (by kernel_rfl) (fun _ _ _ h=>h) (Or.inl ⟨by rfl,?_⟩) (by assumption) ?_
    rotate_left 1
    ·(intro w' hSw;(try dsimp only at hSw);go_simp <;> with_reducible rfl)
    try simp only[Act.put,sa,sz,sn]
    refine Lu 5 (v:=?_) rfl (by kernel_rfl) (fun _ _ _ h=>h) (Or.inl ⟨by rfl,?_⟩) (by assumption) ?_
    rotate_left 1
    ·(intro w' hSw;(try dsimp only at hSw);go_simp <;> with_reducible rfl)
    try simp only[Act.put,sa,sz,sn]
    refine Lu 6 (v:=?_) rfl (by kernel_rfl) (fun _ _ _ h=>h) (Or.inl ⟨by rfl,?_⟩) (by assumption) ?_
    rotate_left 1
    ·(intro w' hSw;(try dsimp only at hSw);go_simp <;> with_reducible rfl)
    try simp only[Act.put,sa,sz,sn]
    refine Lu 7 (v:=?_) rfl (by kernel_rfl) (fun _ _ _ h=>h) (Or.inl ⟨by rfl,?_⟩) (by assumption) ?_
    rotate_left 1
    ·(intro w' hSw;(try dsimp only at hSw);go_simp <;> with_reducible rfl)
    try simp only[Act.put,sa,sz,sn]
    refine Lu 8 (v:=?_) rfl (by kernel_rfl) (fun _ _ _ h=>h) (Or.inl ⟨by rfl,?_⟩) (by assumption) ?_
    rotate_left 1
    ·(intro w' hSw;(try dsimp only at hSw);go_simp <;> with_reducible rfl)
    try simp only[Act.put,sa,sz,sn]
    refine Lu 9 (v:=?_) rfl (by kernel_rfl) (fun _ _ _ h=>h) (Or.inl ⟨by rfl,?_⟩) (by assumption) ?_
    rotate_left 1
    ·(intro w' hSw;(try dsimp only at hSw);go_simp <;> with_reducible rfl)
    try simp only[Act.put,sa,sz,sn]
    refine Lu 10 (v:=?_) rfl (by kernel_rfl) (fun _ _ _ h=>h) (Or.inl ⟨by rfl,?_⟩) (by assumption) ?_
    rotate_left 1
    ·(intro w' hSw;(try dsimp only at hSw);go_simp <;> with_reducible rfl)
    try simp only[Act.put,sa,sz,sn]
    refine Lu 11 (v:=?_) rfl (by kernel_rfl) (fun _ _ _ h=>h) (Or.inl ⟨by rfl,?_⟩) (by assumption) ?_
    rotate_left 1
    ·(intro w' hSw;(try dsimp only at hSw);go_simp <;> with_reducible rfl)
    try simp only[Act.put,sa,sz,sn]
    refine L_one 12 (by kernel_rfl) rfl (fun K hK=>?_)
    go_simp
    refine hK.out _ _ (Or.inr ?_) (fun h6=>?_)
    ·have kp:∀{q:Addr} {v:Value},V.cell? q=some v->(V.alloc (.cells #[.int .i64 ((N:Int) - (i.at_:Nat)),.string (bs i.nm),.int .i64 (i.ty:Nat),.iface T y,.int .i64 (s.F.length:Nat),.slice none 0 0] 125)).drew.cell? q=some v:=fun hq=>(VB.out.cell (zab hq)).trans hq
     exact⟨kp d3,kp d1,kp e0,kp e1,kp e2,kp e3⟩
    replace h6:=h6.resolve_left (by decide)
    clear hK K hS d1 d3 e0 e1 e2 e3
    try simp only[Act.put,sa,sz,sn]
    refine L_one 13 (by kernel_rfl) rfl (fun K hK=>?_)
    refine step_append_lies _ rfl _ _ 82 rfl w0.heap.size 125 f0 (.agg #[.int .i64 0,.string ⟨#[]⟩,.int .i64 0,.nilIface,.int .i64 0,.slice none 0 0]) 6 80 Tryz.underlying82 hf0 fz0 fz1 fz2 rfl (by decide) (.slice oq s.Q.length cq) s.Q.length (nqs N (nilX s.Q)) rfl OW.out ⟨V.heap.size,0,none⟩ 1 1 (nqC N (⟨i.nm,i.at_,i.ty,i.body,s.F.length⟩,.slice none 0 0)) rfl rfl NW.out (by rw[HNC.out];intro u hu;simp at hu;rcases hu with rfl|rfl|rfl|rfl|rfl|rfl <;> rfl) (by decide) (by unfold maxLen;have:=KN.out.2.2.1;have:=HL60.out;have:=HLT.out;omega) (by have:=KN.out.2.2.1;have:=HL60.out;have:=HLT.out;omega) VC.out.blw.size _ rfl ?_
    intro k7 c7 w7 O7 hg7 hat7 hlt7
    rw[<-HQV.out] at hg7 hat7
    rw[<-hlx] at O7
    obtain⟨E1,⟨x1,xz⟩,E3⟩:=VC.out.eqn (x:=(⟨i.nm,i.at_,i.ty,i.body,s.F.length⟩,.slice none 0 0)) hg7 O7 hat7
    rw[hlx] at E1 E3
    have x3:w7.cell? ⟨c,3,none⟩=some (.slice oq s.Q.length cq):=by rw[<-HQV.out];exact x1
    have x4:w7.cell? ⟨c,1,none⟩=some (.slice of s.F.length cf):=by
     have e1:w7.heap[c]?=some (.cells #[.slice (some ⟨gi,0,none⟩) l.length ci,fv,.map (some b),qv] 84 (0,0)):=(hg7.block c (lt_of_heap VC.out.cm) (fun e=>zai (zac VC.out.eq c e.symm).2.choose_spec VC.out.cm (by decide) rfl)).trans VC.out.cm
     rw[cor w7 _ 1 _ _ _ e1,<-HFV.out];rfl
    have EI:w7.heap[ib]?=some (.cells #[.int .i64 ((N:Int) - (i.at_:Nat)),.string (bs i.nm),.int .i64 (i.ty:Nat),.iface T y] 123 (0,0)):=(hg7.block _ (Nat.lt_of_lt_of_le (lt_of_heap XE.out) VB.out.size) (fun e=>XQ.out.1 e.symm)).trans ((VB.out.block _ (lt_of_heap XE.out)).trans XE.out)
    have xl:=And.intro ((cor w7 _ 0 _ _ _ EI).trans rfl:w7.cell? ⟨ib,0,none⟩=some (.int .i64 ((N:Int) - (i.at_:Nat)))) (And.intro ((cor w7 _ 1 _ _ _ EI).trans rfl:w7.cell? ⟨ib,1,none⟩=some (.string (bs i.nm))) (And.intro ((cor w7 _ 2 _ _ _ EI).trans rfl:w7.cell? ⟨ib,2,none⟩=some (.int .i64 (i.ty:Nat))) ((cor w7 _ 3 _ _ _ EI).trans rfl:w7.cell? ⟨ib,3,none⟩=some (.iface T y))))
    have G1:Hid (Cs N w0 (.slice (some ⟨gi,0,none⟩) l.length ci) c b n s.m s.F (nilX (s.Q++[⟨i.nm,i.at_,i.ty,i.body,s.F.length⟩])) fv (.slice (some ⟨k7,0,none⟩) (s.Q.length+1) c7) (w7.setCell ⟨c,3,none⟩ (.slice (some ⟨k7,0,none⟩) (s.Q.length+1) c7))):=by
     have e:nilX (s.Q++[⟨i.nm,i.at_,i.ty,i.body,s.F.length⟩])=nilX s.Q++[(⟨i.nm,i.at_,i.ty,i.body,s.F.length⟩,.slice none 0 0)]:=by simp[nilX]
     show Cs _ _ _ _ _ _ _ _ _ _ _ _
     rw[e]
     exact E1
    have G2:Hid (Msi (w7.setCell ⟨c,3,none⟩ (.slice (some ⟨k7,0,none⟩) (s.Q.length+1) c7)) mo no s.om):=(XM.out.fr (Fr.of_below (own:=fun _=>False) VB.out) (fun e=>e)).fr E3 (fun e=>by
     rcases e with e|e
     ·exact NMO.out.1 e
     ·exact NMO.out.2.2 e)
    have G4:Hid (Kt w (w7.setCell ⟨c,3,none⟩ (.slice (some ⟨k7,0,none⟩) (s.Q.length+1) c7))):=(KTV.out.step VB.out).fr E3 (eqn_kt VC.out)
    have G3:Hid ((w7.setCell ⟨c,3,none⟩ (.slice (some ⟨k7,0,none⟩) (s.Q.length+1) c7)).heap[ib]?=some (.cells #[.int .i64 ((N:Int) - (i.at_:Nat)),.string (bs i.nm),.int .i64 (i.ty:Nat),.iface T y] 123 (0,0))):=(bhs w7 ⟨c,3,none⟩ _ ib XQ.out.2.1).trans EI
    have zc:=xz 3
    clear E1 E3 EI O7 hg7 hat7 hlt7 h6 xz x1
    refine hK.out _ _ (Or.inr ⟨x3,x4,xl⟩) (fun h7=>?_)
    replace h7:=h7.resolve_left (by decide)
    clear hK K
    try simp only[Act.put,sa,sz,sn]
    refine L_one 14 (by kernel_rfl) rfl (fun K hK=>?_)
    go_simp
    refine hK.out _ _ (Or.inr (by assumption)) (fun h14=>?_)
    clear h14 hK K
    try simp only[Act.put,sa,sz,sn]
    refine L_one 15 (by kernel_rfl) rfl (fun K hK=>?_)
    go_simp
    refine hK.out _ _ (Or.inr (by assumption)) (fun h15=>?_)
    clear h15 hK K
    try simp only[Act.put,sa,sz,sn]
    refine L_one 16 (by kernel_rfl) rfl (fun K hK=>?_)
    go_simp
    refine hK.out _ _ (Or.inl rfl) (fun _=>?_)
    clear hK K h7 x3 x4 xl zc
    try simp only[Act.put,sa,sz,sn]
    refine zdd (by kernel_rfl) ?_ _
    clear XC XM XE VB VC HNC NW OW
    generalize w7.setCell ⟨c,3,none⟩ (.slice (some ⟨k7,0,none⟩) (s.Q.length+1) c7)=V2 at G1 G2 G3 G4 ⊢
    have e0:V2.cell? ⟨ib,0,none⟩=some (.int .i64 ((N:Int) - (i.at_:Nat))):=(cor V2 _ 0 _ _ _ G3.out).trans rfl
    have e1:V2.cell? ⟨ib,1,none⟩=some (.string (bs i.nm)):=(cor V2 _ 1 _ _ _ G3.out).trans rfl
    have e2:V2.cell? ⟨ib,2,none⟩=some (.int .i64 (i.ty:Nat)):=(cor V2 _ 2 _ _ _ G3.out).trans rfl
    go_wp2_with fail
    clear e0 e1 e2
    by_cases hm:(s.m i.nm).isSome=true
    ·have HP:Hid ((decl N Ds.zero l).1=some i.at_):=by show _=_;rw[HD.out,decl,if_neg (by have:=HK.out;omega),if_pos HK.out,if_pos hm]
     refine (zef G1.out (HE.out.below G1.out.blw) i.nm HW.out.2 hm _ _ _ 0 _ _).mono ?_
     rintro E w1 ⟨hb1,d,rfl,hd⟩
     have HB1:=hid (zaa G1.out.blw hb1)
     have HDG:=hid hd
     clear hb1 hd hm
     go_wp2
     go_ret
     exact⟨HB1.out,Or.inr ⟨_,d,HP.out,rfl,HDG.out⟩⟩
    ·have hm':(s.m i.nm).isSome=false:=by simpa using hm
     have HR2:Hid (decl N Ds.zero l=decl N (s.eqn i) (l.drop (j+1))):=by show _=_;rw[HD.out,decl,if_neg (by have:=HK.out;omega),if_pos HK.out,if_neg hm]
     refine (addFlow_new G1.out (by have:=KN.out.2.1;have:=HL60.out;omega) i.nm HW.out.2 (by have:=KN.out.1;have:=HL60.out;omega) hm' _ _ _ 0 _ _).mono ?_
     rintro E w1 ⟨rfl,⟨g1,cap1,hC1⟩,hF1⟩
     have HC1:=hid hC1
     have HT1:=hid (G4.out.fr hF1 (add_kt G1.out))
     have HM1:Hid (Msi w1 mo no (s.eqn i).om):=G2.out.fr hF1 (fun e=>by
      rcases e with e|e|e
      ·exact HMO.out.1 e
      ·exact NMO.out.1 e
      ·exact NMO.out.2.1 e)
     clear hC1 hF1 hm hm'
     go_wp2
     go_roundg (l.length - (j+1))
     case measure=>have:=HG.out;have:=HLT.out;omega
     case rel=>exact⟨j+1,n+1,no,s.eqn i,_,_,HLT.out,by go_num,rfl,HR2,HC1,⟨by have:=KN.out.1;omega,by have:=KN.out.2.1;simp[Ds.eqn];omega,by have:=KN.out.2.2.1;simp[Ds.eqn];omega,by have:=KN.out.2.2.2;omega⟩,HM1,HT1⟩
  ·have hle:(l.length:Int)<=(j:Int):=by omega
   have HJ:Hid (j=l.length):=by show _=_;omega
   have HL60:=hid hll
   go_wp2
   go_ret
   have e1:decl N Ds.zero l=(none,s):=by rw[KD.out,HJ.out,List.drop_length];rfl
   refine⟨KC.out.blw,Or.inl ⟨by rw[e1],rfl,n,fv,qv,?_⟩⟩
   rw[e1]
   have h1:=KN.out
   have h2:=HL60.out
   have h3:=HJ.out
   exact⟨by omega,by show s.F.length<=60;omega,by show s.Q.length<=60;omega,KC.out,KT.out⟩
end
end Go.Proofs.YtjehljjlcifndaaGreatDoor
