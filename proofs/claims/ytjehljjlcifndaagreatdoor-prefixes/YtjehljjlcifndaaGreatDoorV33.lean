import Derived.Test.YtjehljjlcifndaaGreatDoorV32
namespace Go.Proofs.YtjehljjlcifndaaGreatDoor
set_option maxHeartbeats 32000000
set_option maxRecDepth 100000
section
open Go.RowKit
variable {X:List (Nq×Value)} {Q:List Nq} {ρ:Mbi} {m:Mbo} {B0 g j lo n:Nat} {fn:Nat->Value} {wv:Value} {w w':World}
abbrev Xe (lo:Nat) (m:Mbo) (ρ:Mbi) (e:Mip.E):World->Nat->Array Value->Prop:=Xb lo (fun d n=>Mip.ask m d e n) (fun S n=>Mip.sm m ρ S e n)
def WE (lo N:Nat) (a:Nat->Addr) (c b n:Nat) (m:Mbo) (ρ:Mbi) (e:Mip.E):Prop:=
 (∃T y,ev N e=.iface T y)/\∀w,Nm a c b n m w/\lo<=w.heap.size->Calls Tryz.prog 59 #[.pointer (some ⟨c,0,none⟩),ev N e] w (FnP w (Xe lo m ρ e))
theorem bs_not (x:Mil.Bytes):((bs x).toList==[110,111,116])=decide (x=Mil.wNot):=by
 rw[Lib.toList_data,zcb]
 by_cases h:x=Mil.wNot
 ·rw[h];rfl
 ·rw[decide_eq_false h];exact beq_false_of_ne h
theorem worthOf_is (lo N:Nat) (a':Nat->Addr) (c b' n:Nat) (m:Mbo) {ρ:Mbi} (hr:Rall2 ρ):∀e,Mil.wf (Mip.er e) false->WE lo N a' c b' n m ρ e:=by
 refine Mip.tree_induct ?_ ?_ ?_ ?_ ?_ ?_ ?_ ?_ ?_ ?_
 ·intro p k _
  have e0:ev N (Mip.eInt p k)=.iface 183 (.agg #[.int .i64 ((N:Int) - (p:Nat)),.int .i64 (k:Nat)]):=by
   show Value.iface 183 (.agg #[.int .i64 ((N:Int) - (p:Nat)),.int .i64 (k:Nat)])=_
   rfl
  refine⟨⟨_,_,e0⟩,fun w hN=>?_⟩
  rw[e0]
  exact (we_int N a' c b' n m p k w hN).mono (fun E w' h=>h.conv (fun f c h=>Bv.conv h (fun d n _=>trivial) (fun S n=>(Mip.sm_int m ρ S p k n).symm)))
 ·intro p k _
  have e0:ev N (Mip.eBool p k)=.iface 186 (.agg #[.int .i64 ((N:Int) - (p:Nat)),.bool (k==1)]):=by
   show Value.iface 186 (.agg #[.int .i64 ((N:Int) - (p:Nat)),.bool (k==1)])=_
   rfl
  refine⟨⟨_,_,e0⟩,fun w hN=>?_⟩
  rw[e0]
  exact (we_bool N a' c b' n m p k w hN).mono (fun E w' h=>h.conv (fun f c h=>Bv.conv h (fun d n _=>trivial) (fun S n=>by rw[Mip.sm_bool];simp)))
 ·intro p x hx
  have e0:ev N (Mip.eName p x)=.iface 119 (.agg #[.int .i64 ((N:Int) - (p:Nat)),.string (bs x)]):=by
   show Value.iface 119 (.agg #[.int .i64 ((N:Int) - (p:Nat)),.string (bs x)])=_
   rfl
  refine⟨⟨_,_,e0⟩,fun w hN=>?_⟩
  rw[e0]
  exact (we_name N a' c b' n m p x (by have:=hx.2.2.1;omega) w hN).mono (fun E w' h=>h.conv (fun f c h=>Bv.conv h (fun d n h=>by rw[Mip.ask_name] at h;exact h) (fun S n=>(Mip.sm_name m ρ S p x n).symm)))
 ·intro p x a hx iha
  obtain⟨⟨ta,ya,ea⟩,ra⟩:=iha
  rw[ea] at ra
  have e0:ev N (Mip.ePre p x a)=.iface 190 (.agg #[.int .i64 ((N:Int) - (p:Nat)),.string (bs x),.iface ta ya]):=by
   show Value.iface 190 (.agg #[.int .i64 ((N:Int) - (p:Nat)),.string (bs x),ev N a])=_
   rw[ea]
  refine⟨⟨_,_,e0⟩,fun w hN=>?_⟩
  rw[e0]
  exact (we_pre N a' c b' n m hr p x ta ya ra w hN).mono (fun E w' h=>h.conv (fun f c h=>Bv.conv h (fun d n h=>(Mip.ask_pre m d p x a n).1 h) (fun S n=>by rw[Mip.sm_pre,bs_not];simp)))
 ·intro p x a b hx iha ihb
  obtain⟨⟨ta,ya,ea⟩,ra⟩:=iha
  obtain⟨⟨tb,yb,eb⟩,rb⟩:=ihb
  rw[ea] at ra
  rw[eb] at rb
  have e0:ev N (Mip.eTwo p x a b)=.iface 193 (.agg #[.int .i64 ((N:Int) - (p:Nat)),.string (bs x),.iface ta ya,.iface tb yb]):=by
   show Value.iface 193 (.agg #[.int .i64 ((N:Int) - (p:Nat)),.string (bs x),ev N a,ev N b])=_
   rw[ea,eb]
  refine⟨⟨_,_,e0⟩,fun w hN=>?_⟩
  rw[e0]
  exact (we_two N a' c b' n m hr p x ta ya tb yb ra rb w hN).mono (fun E w' h=>h.conv (fun f c h=>Bv.conv h (fun d n h=>(Mip.ask_two m d p x a b n).1 h) (fun S n=>(Mip.sm_two m ρ S p x a b n).symm)))
 ·intro p y a b d iha ihb ihd
  obtain⟨⟨ta,ya,ea⟩,ra⟩:=iha
  obtain⟨⟨tb,yb,eb⟩,rb⟩:=ihb
  obtain⟨⟨td,yd,ed⟩,rd⟩:=ihd
  rw[ea] at ra
  rw[eb] at rb
  rw[ed] at rd
  have e0:ev N ((.node 6 0 ([],p) a (.node 0 0 ([],y) b d)))=.iface 200 (.agg #[.int .i64 ((N:Int) - (p:Nat)),.iface ta ya,.iface tb yb,.iface td yd]):=by
   show Value.iface 200 (.agg #[.int .i64 ((N:Int) - (p:Nat)),ev N a,ev N b,ev N d])=_
   rw[ea,eb,ed]
  refine⟨⟨_,_,e0⟩,fun w hN=>?_⟩
  rw[e0]
  exact (we_if N a' c b' n m p ta ya tb yb td yd ra rb rd w hN).mono (fun E w' h=>h.conv (fun f c h=>Bv.conv h (fun e n h=>(Mip.ask_if m e p y a b d n).1 h) (fun S n=>(Mip.sm_if m ρ S p y a b d n).symm)))
 ·intro p a b iha ihb
  obtain⟨⟨ta,ya,ea⟩,ra⟩:=iha
  obtain⟨⟨tb,yb,eb⟩,rb⟩:=ihb
  rw[ea] at ra
  rw[eb] at rb
  have e0:ev N (Mip.eFby p a b)=.iface 203 (.agg #[.int .i64 ((N:Int) - (p:Nat)),.iface ta ya,.iface tb yb]):=by
   show Value.iface 203 (.agg #[.int .i64 ((N:Int) - (p:Nat)),ev N a,ev N b])=_
   rw[ea,eb]
  refine⟨⟨_,_,e0⟩,fun w hN=>?_⟩
  rw[e0]
  exact (we_fby N a' c b' n m p ta ya tb yb ra rb w hN).mono (fun E w' h=>h.conv (fun f c h=>Bv.conv h (fun d n h=>(Mip.ask_fby m d p a b n).1 h) (fun S n=>(Mip.sm_fby m ρ S p a b n).symm)))
 ·intro p a k h2 hk iha
  obtain⟨⟨ta,ya,ea⟩,ra⟩:=iha
  rw[ea] at ra
  have e0:ev N (Mip.eUnder p a k)=.iface 206 (.agg #[.int .i64 ((N:Int) - (p:Nat)),.iface ta ya,.int .i64 (k:Nat)]):=by
   show Value.iface 206 (.agg #[.int .i64 ((N:Int) - (p:Nat)),ev N a,.int .i64 (k:Nat)])=_
   rw[ea]
  refine⟨⟨_,_,e0⟩,fun w hN=>?_⟩
  rw[e0]
  exact (we_under N a' c b' n m p k ta ya ra w hN).mono (fun E w' h=>h.conv (fun f c h=>Bv.conv h (fun d n h=>(Mip.ask_under m d p a k n).1 h) (fun S n=>(Mip.sm_under m ρ S p a k n).symm)))
 ·intro p a b k h2 hk iha ihb
  obtain⟨⟨ta,ya,ea⟩,ra⟩:=iha
  obtain⟨⟨tb,yb,eb⟩,rb⟩:=ihb
  rw[ea] at ra
  rw[eb] at rb
  have e0:ev N (Mip.eHold p a b k)=.iface 209 (.agg #[.int .i64 ((N:Int) - (p:Nat)),.iface ta ya,.iface tb yb,.int .i64 (k:Nat)]):=by
   show Value.iface 209 (.agg #[.int .i64 ((N:Int) - (p:Nat)),ev N a,ev N b,.int .i64 (k:Nat)])=_
   rw[ea,eb]
  refine⟨⟨_,_,e0⟩,fun w hN=>?_⟩
  rw[e0]
  exact (we_hold N a' c b' n m p k ta ya tb yb ra rb (by omega) w hN).mono (fun E w' h=>h.conv (fun f c h=>Bv.conv h (fun d n h=>(Mip.ask_hold m d p a b k n).1 h) (fun S n=>(Mip.sm_hold m ρ S p a b k n).symm)))
 ·intro p x a b hx iha ihb
  obtain⟨⟨ta,ya,ea⟩,ra⟩:=iha
  obtain⟨⟨tb,yb,eb⟩,rb⟩:=ihb
  rw[ea] at ra
  rw[eb] at rb
  have e0:ev N (Mip.eLeast p x a b)=.iface 198 (.agg #[.int .i64 ((N:Int) - (p:Nat)),.string (bs x),.iface ta ya,.iface tb yb]):=by
   show Value.iface 198 (.agg #[.int .i64 ((N:Int) - (p:Nat)),.string (bs x),ev N a,ev N b])=_
   rw[ea,eb]
  refine⟨⟨_,_,e0⟩,fun w hN=>?_⟩
  rw[e0]
  exact (we_least N a' c b' n m hr p x ta ya tb yb ra rb w hN).mono (fun E w' h=>h.conv (fun f c h=>Bv.conv h (fun d n h=>(Mip.ask_least m d p x a b n).1 h) (fun S n=>(Mip.sm_least m ρ S p x a b n).symm)))
structure Wro (m:Mbo) (ρ:Mbi) (g lo n:Nat) (X:List (Nq×Value)) (j:Nat) (wr:World) (fn:Nat->Value):Prop where
 row:wr.rowIs g 132 n fn
 lo1:g < lo
 lo2:lo<=wr.heap.size
 yes:∀i q,i < j->X[i]?=some q->∃f c,fn q.1.flow=.func (.func f) #[] c/\Xe lo m ρ q.1.body wr f c
 no:∀k,(∀i q,i < j->X[i]?=some q->q.1.flow≠k)->fn k=.nilFunc
theorem Wro.below (h:Wro m ρ g lo n X j w fn) (k:Below w.heap.size w w'):Wro m ρ g lo n X j w' fn:=by
 refine⟨h.row.of_block (k.block _ h.row.lt),h.lo1,Nat.le_trans h.lo2 k.size,fun i q hi hq=>?_,h.no⟩
 obtain⟨f,c,h1,h2⟩:=h.yes i q hi hq
 exact⟨f,c,h1,h2.mono k⟩
theorem Wro.set (h:Wro m ρ g lo n X j w fn) {q:Nq×Value} (hq:X[j]?=some q) (hd:∀i x,i < j->X[i]?=some x->x.1.flow≠q.1.flow) {f:Nat} {c:Array Value} (hb:Xe lo m ρ q.1.body w f c):∃fn',Wro m ρ g lo n X (j+1) (w.setCell ⟨g,q.1.flow,none⟩ (.func (.func f) #[] c)) fn':=by
 have hmv:∀{f c e},Xe lo m ρ e w f c->Xe lo m ρ e (w.setCell ⟨g,q.1.flow,none⟩ (.func (.func f) #[] c)) f c->True:=fun _ _=>trivial
 have lo1:=h.lo1
 have mv:∀{f':Nat} {c':Array Value} {e:Mip.E},Xe lo m ρ e w f' c'->Xe lo m ρ e (w.setCell ⟨g,q.1.flow,none⟩ (.func (.func f) #[] c)) f' c':=fun hx=>Bv.move hx (fun b hl _=>bhs w ⟨g,q.1.flow,none⟩ _ b (by show b≠g;omega)) (by simp)
 clear hmv
 refine⟨_,h.row.set q.1.flow _,h.lo1,by simpa using h.lo2,fun i x hi hx=>?_,fun k hk=>?_⟩
 ·by_cases e:i=j
  ·subst e
   rw[hq] at hx
   cases hx
   exact⟨f,c,if_pos rfl,mv hb⟩
  ·obtain⟨f',c',h1,h2⟩:=h.yes i x (by omega) hx
   exact⟨f',c',by rw[if_neg (hd i x (by omega) hx)];exact h1,mv h2⟩
 ·rw[if_neg (fun e=>hk j q (by omega) hq e.symm)]
  exact h.no k (fun i x hi hx=>hk i x (by omega) hx)
def Wrw (m:Mbo) (ρ:Mbi) (B0 n:Nat) (Q:List Nq) (wv:Value) (w:World):Prop:=
 ∃g lo fn,wv=.slice (some ⟨g,0,none⟩) n n/\B0<=g/\w.rowIs g 132 n fn/\g < lo/\lo<=w.heap.size/\(∀q∈Q,∃f c,fn q.flow=.func (.func f) #[] c/\Xe lo m ρ q.body w f c)/\∀k,(∀q∈Q,q.flow≠k)->fn k=.nilFunc
theorem Wrw.fr (h:Wrw m ρ B0 n Q wv w) {own:Nat->Prop} (k:Fr own w w') (ho:∀i,own i->i < B0):Wrw m ρ B0 n Q wv w':=by
 obtain⟨g,lo,fn,h1,h0,h2,h3,h4,h5,h6⟩:=h
 refine⟨g,lo,fn,h1,h0,h2.of_block (k.block _ h2.lt (fun e=>by have:=ho _ e;omega)),h3,Nat.le_trans h4 k.size,fun q hq=>?_,h6⟩
 obtain⟨f,c,k1,k2⟩:=h5 q hq
 exact⟨f,c,k1,Bv.move k2 (fun b hl hb=>k.block b hb (fun e=>by have:=ho _ e;omega)) k.size⟩
theorem Wrw.below (h:Wrw m ρ B0 n Q wv w) (k:Below w.heap.size w w'):Wrw m ρ B0 n Q wv w':=h.fr (Fr.of_below (own:=fun _=>False) k) (fun _ e=>e.elim)
theorem Wrw.less {B1:Nat} (h:Wrw m ρ B0 n Q wv w) (hb:B1<=B0):Wrw m ρ B1 n Q wv w:=by
 obtain⟨g,lo,fn,h1,h0,h2⟩:=h
 exact⟨g,lo,fn,h1,Nat.le_trans hb h0,h2⟩
def WsP (m:Mbo) (ρ:Mbi) (n:Nat) (Q:List Nq) (w:World) (E:Ending) (w':World):Prop:=Below w.heap.size w w'/\∃g,E=.returned (.slice (some ⟨g,0,none⟩) n n)/\Wrw m ρ w.heap.size n Q (.slice (some ⟨g,0,none⟩) n n) w'
theorem worths_is (hr:Rall2 ρ) {N:Nat} {a:Nat->Addr} {w0:World} {iv:Value} {c b n:Nat} {m:Mbo} {F:List Flo} {Q:List Nq} {fv qv:Value} {w:World} (h:Fin N w0 iv c b n m F Q fv qv w) (hE:Ce a w0) (hz:Rz2 m F Q) (hF:F.length<=60) :
  Calls Tryz.prog 33 #[.pointer (some ⟨c,0,none⟩)] w (WsP m ρ F.length Q w):=by
 obtain⟨X,hXQ,hC,hXL⟩:=h
 have HXQ:=hid hXQ
 have hXl:X.length=Q.length:=by rw[<-hXQ];simp
 have HC:=hid hC
 have HXL:=hid hXL
 have HE:=hid hE
 have HRR:=hid hr
 have HZ:=hid hz
 have HXM:Hid (∀x∈X,x.1∈Q):=fun x hx=>by rw[<-HXQ.out];exact List.mem_map.2 ⟨x,hx,rfl⟩
 obtain⟨oq,cq,hqv⟩:=zae hC.eq
 have HQV:=hid hqv
 obtain⟨of,cf,hfv⟩:=zae hC.fl
 have hlen:X.length<=60:=by rw[hXl];exact hz.len
 have d1:=hC.cells.2.1
 rw[hfv] at d1
 have hmk:=fun w=>run_make_row' (P:=Tryz.prog) 55 132 .nilFunc 8 Tryz.underlying55 Tryz.infoW rfl .i64 .i64 F.length (by omega) (by omega) w
 have HB0:Hid (Below w.heap.size w (w.alloc (.cells (madeCells #[.nilFunc] F.length) 132))):=brf.alloc nlr _
 have HR0:Hid (∃fn,Wro m ρ w.heap.size (w.heap.size+1) F.length X 0 (w.alloc (.cells (madeCells #[.nilFunc] F.length) 132)) fn):=⟨_,World.rowIs_made w .nilFunc F.length 132,by omega,by simp,fun i q hi=>by omega,fun _ _=>rfl⟩
 have c3:=(hC.below HB0.out).cells.2.2.2
 rw[hqv] at c3
 clear hXQ hXl hC hXL hE hz hF hqv hfv hr
 go_enter Tryz.func33,Tryz.ntmps33
 go_wp2_with fail
 clear hmk
 generalize w.alloc (.cells (madeCells #[.nilFunc] F.length) 132)=W at HB0 HR0 c3 ⊢
 go_loopg [17] X.length (fun gk s17 wr=>∃(j:Nat),j<=X.length/\s17=.int .i64 (j:Nat)/\gk=X.length - j/\Hid (Below w.heap.size w wr)/\Hid (∃fn,Wro m ρ w.heap.size (w.heap.size+1) F.length X j wr fn))
 case atStart=>exact⟨0,Nat.zero_le _,rfl,rfl,HB0,HR0⟩
 case round=>
  obtain⟨j,hj,rfl,hg,KB,KR⟩:=hrel
  have HG:=hid hg
  clear hg c3 HB0 HR0
  by_cases hlt:j < X.length
  ·have HLT:=hid hlt
   obtain⟨⟨q,u⟩,hq⟩:∃x,X[j]?=some x:=⟨_,List.getElem?_eq_getElem hlt⟩
   have hmem:=List.mem_of_getElem? hq
   have HXJ:Hid (X[j]?=some (q,u)/\∀i x,i < j->X[i]?=some x->x.1.flow≠q.flow):=⟨hq,fun i x hi hx=>by
    have hp:=HZ.out.fq.up
    rw[<-HXQ.out,List.map_map,List.pairwise_iff_getElem] at hp
    obtain⟨l1,e1⟩:=lgs hx
    obtain⟨l2,e2⟩:=lgs hq
    have:=hp i j (by simpa using l1) (by simpa using l2) hi
    simp[e1,e2] at this
    omega⟩
   have hqm:q∈Q:=HXM.out _ hmem
   have hwf:=(HZ.out.fq.wf q hqm).1
   obtain⟨gq,cap',hqv,e0,e1,e2,e3,e4,e5⟩:=(HC.out.below KB.out).eqAt hq
   rw[HQV.out] at hqv
   obtain⟨rfl,rfl⟩:oq=some ⟨gq,0,none⟩/\cq=cap':=by injection hqv with h1 h2 h3;exact⟨h1,h3⟩
   obtain⟨T,y,hev⟩:=zaz N q.body hwf
   simp only[hev] at e3
   have HWO:=(worthOf_is (w.heap.size+1) N a c b n m HRR.out q.body hwf).2
   rw[hev] at HWO
   have HWO':Hid (∀w1,Nm a c b n m w1/\w.heap.size+1<=w1.heap.size->Calls Tryz.prog 59 #[.pointer (some ⟨c,0,none⟩),.iface T y] w1 (FnP w1 (Xe (w.heap.size+1) m ρ q.body))):=HWO
   obtain⟨so,sn,sc,hus⟩:=(HXL.out _ hmem).shape
   have hus':u=.slice so sn sc:=hus
   subst hus'
   obtain⟨f,hf,_⟩:=HZ.out.fq.eqf q hqm
   have hfl:=(lgs hf).1
   have HFL:=hid hfl
   have f0:(0:Int)<=(q.flow:Int):=by omega
   have f1:(q.flow:Int) < (F.length:Int):=by omega
   have h0:(0:Int)<=(j:Int):=by omega
   have h1:(j:Int) < (X.length:Int):=by omega
   have HB:Hid (Below wr.heap.size wr (wr.alloc (.cells #[.int .i64 ((N:Int) - (q.at_:Nat)),.string (bs q.nm),.int .i64 (q.ty:Nat),.iface T y,.int .i64 (q.flow:Nat),.slice so sn sc] 125))):=brf.alloc nlr _
   have HXB:Hid ((wr.alloc (.cells #[.int .i64 ((N:Int) - (q.at_:Nat)),.string (bs q.nm),.int .i64 (q.ty:Nat),.iface T y,.int .i64 (q.flow:Nat),.slice so sn sc] 125)).heap[wr.heap.size]?=some (.cells #[.int .i64 ((N:Int) - (q.at_:Nat)),.string (bs q.nm),.int .i64 (q.ty:Nat),.iface T y,.int .i64 (q.flow:Nat),.slice so sn sc] 125 (0,0))):=han wr _
   clear hq hmem hqm hwf hqv hev hus hf hfl HWO
   go_wp2_with fail
   have VB:=hid (zaa KB.out HB.out)
   have VR:Hid (∃fn,Wro m ρ w.heap.size (w.heap.size+1) F.length X j (wr.alloc (.cells #[.int .i64 ((N:Int) - (q.at_:Nat)),.string (bs q.nm),.int .i64 (q.ty:Nat),.iface T y,.int .i64 (q.flow:Nat),.slice so sn sc] 125)) fn):=KR.out.imp (fun fn h=>h.below HB.out)
   clear e0 e1 e2 e3 e4 e5 HB
   generalize wr.alloc (.cells #[.int .i64 ((N:Int) - (q.at_:Nat)),.string (bs q.nm),.int .i64 (q.ty:Nat),.iface T y,.int .i64 (q.flow:Nat),.slice so sn sc] 125)=V at VB VR HXB ⊢
   generalize wr.heap.size=ib at HXB ⊢
   have x3:V.cell? ⟨ib,3,none⟩=some (.iface T y):=(cor V _ 3 _ _ _ HXB.out).trans rfl
   have x4:V.cell? ⟨ib,4,none⟩=some (.int .i64 (q.flow:Nat)):=(cor V _ 4 _ _ _ HXB.out).trans rfl
   refine zbu (fun w'=>w'.cell? ⟨ib,4,none⟩=some (.int .i64 (q.flow:Nat))/\w'.cell? ⟨ib,3,none⟩=some (.iface T y)) 9 (by kernel_rfl) ⟨x4,x3⟩ (fun hS=>?_)
   refine Lu 0 (v:=?_) rfl (by kernel_rfl) (fun _ _ _ h=>h) (Or.inl ⟨by rfl,?_⟩) (by assumption) ?_
   rotate_left 1
   ·(intro w' hSw;(try dsimp only at hSw);go_simp <;> with_reducible rfl)
   try simp only[Act.put,sa,sz,sn]
   refine Lu 1 (v:=?_) rfl (by kernel_rfl) (fun _ _ _ h=>h) (Or.inl ⟨by rfl,?_⟩) (by assumption) ?_
   rotate_left 1
   ·(intro w' hSw;(try dsimp only at hSw);go_simp <;> with_reducible rfl)
   try simp only[Act.put,sa,sz,sn]
   refine Lu 2 (v:=?_) rfl (by kernel_rfl) (fun _ _ _ h=>h) (Or.inl ⟨by rfl,?_⟩) (by assumption) ?_
   rotate_left 1
   ·(intro w' hSw;(try dsimp only at hSw);go_simp <;> with_reducible rfl)
   try simp only[Act.put,sa,sz,sn]
   refine Lu 3 (v:=?_) rfl (by kernel_rfl) (fun _ _ _ h=>h) (Or.inl ⟨by rfl,?_⟩) (by assumption) ?_
   rotate_left 1
   ·(intro w' hSw;(try dsimp only at hSw);go_simp <;> with_reducible rfl)
   try simp only[Act.put,sa,sz,sn]
   refine Lu 4 (v:=?_) rfl (by kernel_rfl) (fun _ _ _ h=>h) (Or.inl ⟨by rfl,?_⟩) (by assumption) ?_
   rotate_left 1
   ·(intro w' hSw;(try dsimp only at hSw);go_simp <;> with_reducible rfl)
   try simp only[Act.put,sa,sz,sn]
   refine Lu 5 (v:=?_) rfl (by kernel_rfl) (fun _ _ _ h=>h) (Or.inl ⟨by rfl,?_⟩) (by assumption) ?_
   rotate_left 1
   ·(intro w' hSw;(try dsimp only at hSw);go_simp <;> with_reducible rfl)
   try simp only[Act.put,sa,sz,sn]
   refine Lu 6 (v:=?_) rfl (by kernel_rfl) (fun _ _ _ h=>h) (Or.inl ⟨by rfl,?_⟩) (by assumption) ?_
   rotate_left 1
   ·(intro w' hSw;(try dsimp only at hSw);go_simp <;> with_reducible rfl)
   try simp only[Act.put,sa,sz,sn]
   refine L_one 7 (by kernel_rfl) rfl (fun K hK=>?_)
   go_simp
   refine (HWO'.out _ ⟨((HC.out.below VB.out).below brf.drew).nm HE.out,VR.out.choose_spec.lo2⟩).mono ?_
   rintro E w1 ⟨hb1,f1,c1,rfl,hy1⟩
   have HY1:=hid hy1
   clear hy1
   have HB1:=hid (zaa VB.out.drew hb1)
   have HR1:Hid (∃fn,Wro m ρ w.heap.size (w.heap.size+1) F.length X j w1 fn):=VR.out.imp (fun fn h=>(h.below brf.drew).below hb1)
   have kp:∀{q:Addr} {v:Value},V.cell? q=some v->w1.cell? q=some v:=fun hq=>(hb1.cell (zab (w:=V.drew) hq)).trans hq
   refine hK.out _ _ (Or.inr ⟨kp x4,kp x3⟩) (fun h7=>?_)
   replace h7:=h7.resolve_left (by decide)
   clear hK K hS kp hb1 x3 x4
   try simp only[Act.put,sa,sz,sn]
   refine L_one 8 (by kernel_rfl) rfl (fun K hK=>?_)
   go_simp
   refine hK.out _ _ (Or.inr (by assumption)) (fun h8=>?_)
   clear h8 hK K
   try simp only[Act.put,sa,sz,sn]
   obtain⟨fn,hfn⟩:=HR1.out
   have ca:=hfn.row.cell HFL.out
   have za:=hfn.row.frozen q.flow
   have HR2:=hid (hfn.set HXJ.out.1 HXJ.out.2 HY1.out)
   have HB2:Hid (Below w.heap.size w (w1.setCell ⟨w.heap.size,q.flow,none⟩ (.func (.func f1) #[] c1))):=HB1.out.setCell nlr _
   refine L_one 9 (by kernel_rfl) rfl (fun K hK=>?_)
   go_simp
   refine hK.out _ _ (Or.inl rfl) (fun _=>?_)
   clear hK K h7 ca za hfn
   try simp only[Act.put,sa,sz,sn]
   refine zdd (by kernel_rfl) ?_ _
   go_wp2
   go_roundg (X.length - (j+1))
   case measure=>have:=HG.out;have:=HLT.out;omega
   case rel=>exact⟨j+1,HLT.out,by go_num,rfl,HB2,HR2⟩
  ·have hle:(X.length:Int)<=(j:Int):=by omega
   go_wp2
   go_ret
   obtain⟨fn,hfn⟩:=KR.out
   refine⟨KB.out,_,rfl,_,_,fn,rfl,Nat.le_refl _,hfn.row,hfn.lo1,hfn.lo2,fun q hq=>?_,fun k hk=>hfn.no k (fun i x hi hx=>hk x.1 (by rw[<-HXQ.out];exact List.mem_map.2 ⟨x,List.mem_of_getElem? hx,rfl⟩))⟩
   rw[<-HXQ.out] at hq
   obtain⟨x,hx,rfl⟩:=List.mem_map.1 hq
   obtain⟨i,hi⟩:=List.getElem?_of_mem hx
   exact hfn.yes i x (by have:=(lgs hi).1;omega) hi
end
section
open Go.RowKit
variable {l:List Mip.It} {N b c k:Nat} {a:Nat->Addr} {iv:Value} {w w' w0:World}
theorem decl_src (N:Nat):∀(l:List Mip.It) (s:Ds),∀q∈(decl N s l).2.Q,q∈s.Q\/∃i∈l,i.kind=3/\q.body=i.body
 | [],_,q,hq=>Or.inl hq
 | i::r,s,q,hq=>by
  have up:∀s',q∈(decl N s' r).2.Q->(q∈s'.Q->q∈s.Q\/∃i'∈i::r,i'.kind=3/\q.body=i'.body)->q∈s.Q\/∃i'∈i::r,i'.kind=3/\q.body=i'.body:=fun s' h k=>by
   rcases decl_src N r s' q h with h1|⟨i',h1,h2⟩
   ·exact k h1
   ·exact Or.inr ⟨i',by simp[h1],h2⟩
  rw[decl] at hq
  by_cases k1:i.kind=1
  ·rw[if_pos k1] at hq
   split at hq
   ·exact Or.inl hq
   ·exact up _ hq Or.inl
  ·rw[if_neg k1] at hq
   by_cases k3:i.kind=3
   ·rw[if_pos k3] at hq
    split at hq
    ·exact Or.inl hq
    ·refine up _ hq (fun h=>?_)
     rcases List.mem_append.1 h with h|h
     ·exact Or.inl h
     ·simp at h
      exact Or.inr ⟨i,by simp,k3,by rw[h]⟩
   ·rw[if_neg k3] at hq
    split at hq
    ·exact Or.inl hq
    ·exact up _ hq Or.inl
theorem reso_un (m:Mbo):∀(l:List Mip.It) (F:List Flo),(reso m F l).1=none->∀i∈l,i.kind=3->Mip.unres m i.body=none
 | [],_,_,i,hi,_=>by cases hi
 | x::r,F,h,i,hi,hk=>by
  rw[reso] at h
  by_cases k3:x.kind=3
  ·rw[if_pos k3] at h
   by_cases hu:(Mip.unres m x.body).isSome=true
   ·rw[if_pos hu] at h
    have h':Mip.unres m x.body=none:=h
    rw[h'] at hu;cases hu
   ·rw[if_neg hu] at h
    rcases List.mem_cons.1 hi with rfl|hi
    ·simpa using hu
    ·exact reso_un m r F h i hi hk
  ·rw[if_neg k3] at h
   rcases List.mem_cons.1 hi with rfl|hi
   ·exact absurd hk k3
   ·by_cases k2:x.kind=2
    ·rw[if_pos k2] at h
     split at h
     ·rename_i hs
      have h':(markAll m F x.names).1=none:=h
      rw[h'] at hs;cases hs
     ·exact reso_un m r _ h i hi hk
    ·rw[if_neg k2] at h
     exact reso_un m r F h i hi hk
def dcl (N:Nat) (l:List Mip.It):Option Nat×Ds:=decl N Ds.zero l
def rsv (N:Nat) (l:List Mip.It):Option Nat×List Flo:=reso (dcl N l).2.m (dcl N l).2.F l
def prd (N:Nat) (l:List Mip.It):List Flo:=rnds (dcl N l).2.m (dcl N l).2.Q 61 (rsv N l).2
def TysOk (N:Nat) (l:List Mip.It):Prop:=∀q∈(dcl N l).2.Q,Mip.tyOf (dcl N l).2.m (rsv N l).2 q.body=some q.ty
def okk (N:Nat) (l:List Mip.It) (k:Nat):Prop:=
 (1<=k->(dcl N l).1=none)/\(2<=k->(rsv N l).1=none)/\(3<=k->TysOk N l)/\(4<=k->freeAt (prd N l) (dcl N l).2.Q=none)/\(5<=k->PerOk (dcl N l).2.m (prd N l) (dcl N l).2.Q)/\(6<=k->tooGreat 1 (prd N l)=false)/\(7<=k->cyc (dcl N l).2.m (dcl N l).2.Q none)
def Bad (N:Nat) (l:List Mip.It) (k:Nat) (p:Int):Prop:=
 (k=5/\(dcl N l).1≠none)\/(k=6/\okk N l 1/\(rsv N l).1≠none)\/(k=7/\okk N l 2/\¬TysOk N l)\/(k=9/\okk N l 3/\∃q,freeAt (prd N l) (dcl N l).2.Q=some q/\p=(N:Int) - (q:Nat)) \/
 (k=8/\okk N l 4/\¬(PerOk (dcl N l).2.m (prd N l) (dcl N l).2.Q/\tooGreat 1 (prd N l)=false))\/(k=10/\okk N l 6/\∃q,cyc (dcl N l).2.m (dcl N l).2.Q (some q)/\p=(N:Int) - (q:Nat))
def Ph (N:Nat) (w0:World) (iv:Value) (c b:Nat) (l:List Mip.It) (k:Nat) (w:World):Prop:=
 okk N l k/\((k=0/\Cs N w0 iv c b 0 (fun _=>none) [] [] (.slice none 0 0) (.slice none 0 0) w) \/
  (k≠0/\(dcl N l).2.F.length<=60/\(dcl N l).2.Q.length<=60/\∃n fv qv,(k=1/\Cs N w0 iv c b n (dcl N l).2.m (dcl N l).2.F (nilX (dcl N l).2.Q) fv qv w)\/((k=2\/k=3)/\Cs N w0 iv c b n (dcl N l).2.m (rsv N l).2 (nilX (dcl N l).2.Q) fv qv w) \/
   ((k=4\/k=5\/k=6)/\Cs N w0 iv c b n (dcl N l).2.m (prd N l) (nilX (dcl N l).2.Q) fv qv w)\/(k=7/\Fin N w0 iv c b n (dcl N l).2.m (prd N l) (dcl N l).2.Q fv qv w)))
theorem Cs.fin_below {n:Nat} {m:Mbo} {F:List Flo} {Q:List Nq} {fv qv:Value} (h:Fin N w0 iv c b n m F Q fv qv w) (k:Below w.heap.size w w'):Fin N w0 iv c b n m F Q fv qv w':=by
 obtain⟨X,h1,h2,h3⟩:=h
 exact⟨X,h1,h2.below k,fun x hx=>(h3 x hx).below k⟩
theorem Ph.below (h:Ph N w0 iv c b l k w) (hb:Below w.heap.size w w'):Ph N w0 iv c b l k w':=by
 obtain⟨h0,h⟩:=h
 refine⟨h0,?_⟩
 rcases h with ⟨h1,h2⟩|⟨h1,h2,h3,n,fv,qv,h⟩
 ·exact Or.inl ⟨h1,h2.below hb⟩
 ·refine Or.inr ⟨h1,h2,h3,n,fv,qv,?_⟩
  rcases h with ⟨e,h⟩|⟨e,h⟩|⟨e,h⟩|⟨e,h⟩
  ·exact Or.inl ⟨e,h.below hb⟩
  ·exact Or.inr (Or.inl ⟨e,h.below hb⟩)
  ·exact Or.inr (Or.inr (Or.inl ⟨e,h.below hb⟩))
  ·exact Or.inr (Or.inr (Or.inr ⟨e,Cs.fin_below h hb⟩))
section
variable {N:Nat} {l:List Mip.It}
theorem fq_dcl (hi:Items l) (h:okk N l 1):Fq (dcl N l).2.m (dcl N l).2.F (dcl N l).2.Q:=decl_ok N l Ds.zero hi.ok Fq.zero (h.1 (by decide))
theorem rz_rsv (hi:Items l) (h:okk N l 2) (hq:(dcl N l).2.Q.length<=60):Rz2 (dcl N l).2.m (rsv N l).2 (dcl N l).2.Q:=by
 have h1:okk N l 1:=⟨fun _=>h.1 (by decide),(fun e=>by omega),(fun e=>by omega),(fun e=>by omega),(fun e=>by omega),(fun e=>by omega),fun e=>by omega⟩
 obtain⟨k1,k2⟩:=zcd (dcl N l).2.m l (dcl N l).2.F
 refine⟨(fq_dcl hi h1).kept k1 k2,fun q hq=>?_,hq⟩
 rcases decl_src N l Ds.zero q hq with h3|⟨i,h3,h4,h5⟩
 ·cases h3
 ·rw[h5]
  exact reso_un _ l _ (h.2.1 (by decide)) i h3 h4
theorem rz_prd (hi:Items l) (h:okk N l 2) (hq:(dcl N l).2.Q.length<=60):Rz2 (dcl N l).2.m (prd N l) (dcl N l).2.Q:=
 (rz_rsv hi h hq).alike (rnds_alike _ _ _ _) (rnds_le _ _ _ _ (rz_rsv hi h hq).fq.per)
theorem zbf {j:Nat} (h:okk N l k) (hjk:j<=k):okk N l j:=
 ⟨fun e=>h.1 (by omega),fun e=>h.2.1 (by omega),fun e=>h.2.2.1 (by omega),fun e=>h.2.2.2.1 (by omega),fun e=>h.2.2.2.2.1 (by omega),fun e=>h.2.2.2.2.2.1 (by omega),fun e=>h.2.2.2.2.2.2 (by omega)⟩
theorem zb9 (l:List Mip.It):(prd N l).length=(dcl N l).2.F.length:=(rnds_alike _ _ _ _).len.trans (zcd _ _ _).1
theorem prd_pos (hi:Items l) (h:okk N l 4) (hq:(dcl N l).2.Q.length<=60):∀f∈prd N l,0 < f.per/\f.per<=1000000:=fun f hf=>by
 have hz:=rz_prd hi (zbf h (by decide)) hq
 refine⟨?_,hz.fq.per f hf⟩
 cases e:f.inp with
 | true=>exact hz.fq.inp f hf e
 | false=>
  obtain⟨i,hfi⟩:=List.getElem?_of_mem hf
  obtain⟨q,h1,h2⟩:=hz.fq.fe i f hfi e
  have:=freeAt_each (h.2.2.2.1 (by decide)) q h1
  rw[h2,za4 hfi] at this
  omega
end
def FoPost (N:Nat) (a:Nat->Addr) (w0:World) (iv:Value) (c b:Nat) (l:List Mip.It) (E:Ending) (w':World):Prop:=
 Below w0.heap.size w0 w'/\((E=.returned (.pointer none)/\Ph N w0 iv c b l 7 w')\/∃d p k,E=.returned (.pointer (some ⟨d,0,none⟩))/\Dg a w' d p k/\Bad N l k p)
def StepP (N:Nat) (a:Nat->Addr) (w0:World) (iv:Value) (c b:Nat) (l:List Mip.It) (k:Nat) (w:World) (E:Ending) (w':World):Prop:=
 Below w0.heap.size w0 w'/\((E=.returned (.pointer none)/\Ph N w0 iv c b l k w'/\Kt w w')\/∃d p k,E=.returned (.pointer (some ⟨d,0,none⟩))/\Dg a w' d p k/\Bad N l k p)
theorem okk_up (h:okk N l k) (h7:k < 7) (e1:k=0->(dcl N l).1=none) (e2:k=1->(rsv N l).1=none) (e3:k=2->TysOk N l) (e4:k=3->freeAt (prd N l) (dcl N l).2.Q=none) (e5:k=4->PerOk (dcl N l).2.m (prd N l) (dcl N l).2.Q) (e6:k=5->tooGreat 1 (prd N l)=false) (e7:k=6->cyc (dcl N l).2.m (dcl N l).2.Q none):okk N l (k+1):=by
 refine⟨fun e=>?_,fun e=>?_,fun e=>?_,fun e=>?_,fun e=>?_,fun e=>?_,fun e=>?_⟩
 ·by_cases hk:k=0
  ·exact e1 hk
  ·exact h.1 (by omega)
 ·by_cases hk:k=1
  ·exact e2 hk
  ·exact h.2.1 (by omega)
 ·by_cases hk:k=2
  ·exact e3 hk
  ·exact h.2.2.1 (by omega)
 ·by_cases hk:k=3
  ·exact e4 hk
  ·exact h.2.2.2.1 (by omega)
 ·by_cases hk:k=4
  ·exact e5 hk
  ·exact h.2.2.2.2.1 (by omega)
 ·by_cases hk:k=5
  ·exact e6 hk
  ·exact h.2.2.2.2.2.1 (by omega)
 ·exact e7 (by omega)
theorem step0 (hN:N<=4000) {a:Nat->Addr} {w0:World} (hE:Ce a w0) {b0:Nat} {l:List Mip.It} (hi:Items l) {o:Option Addr} {ci:Nat} (hR:Row N w0 b0 l (.slice o l.length ci)) {c b:Nat} {w:World} (h:Ph N w0 (.slice o l.length ci) c b l 0 w):Calls Tryz.prog 49 #[.pointer (some ⟨c,0,none⟩)] w (StepP N a w0 (.slice o l.length ci) c b l 1 w):=by
 obtain⟨h0,⟨_,hC⟩|⟨e,_⟩⟩:=h
 ·refine (declare_any N hN a w0 hE b0 l hi o ci hR c b w hC).mono ?_
  rintro E w' ⟨hb,(⟨h1,rfl,n,fv,qv,h2,h3,h4,hC',hT⟩|⟨p,d,h1,rfl,hd⟩)⟩
  ·exact⟨hb,Or.inl ⟨rfl,⟨okk_up h0 (by decide) (fun _=>h1) (by omega) (by omega) (by omega) (by omega) (by omega) (by omega),Or.inr ⟨by decide,h3,h4,n,fv,qv,Or.inl ⟨rfl,hC'⟩⟩⟩,hT⟩⟩
  ·refine⟨hb,Or.inr ⟨d,_,5,rfl,hd,Or.inl ⟨rfl,fun e=>?_⟩⟩⟩
   have e':(decl N Ds.zero l).1=none:=e
   rw[h1] at e';cases e'
 ·exact absurd rfl e
theorem step1 (hE:Ce a w0) {b0:Nat} {l:List Mip.It} (hi:Items l) {o:Option Addr} {ci:Nat} (hR:Row N w0 b0 l (.slice o l.length ci)) {c b:Nat} {w:World} (h:Ph N w0 (.slice o l.length ci) c b l 1 w):Calls Tryz.prog 50 #[.pointer (some ⟨c,0,none⟩)] w (StepP N a w0 (.slice o l.length ci) c b l 2 w):=by
 obtain⟨h0,⟨e,_⟩|⟨_,hf,hq,n,fv,qv,⟨_,hC⟩|⟨e,_⟩|⟨e,_⟩|⟨e,_⟩⟩⟩:=h
 ·omega
 ·refine (resolve_any N b0 l hi o ci hR hC hE (fq_dcl hi h0).fit).mono ?_
  rintro E w' ⟨hb,(⟨h1,rfl,hC',hT⟩|⟨p,d,h1,rfl,hd⟩)⟩
  ·exact⟨hb,Or.inl ⟨rfl,⟨okk_up h0 (by decide) (by omega) (fun _=>h1) (by omega) (by omega) (by omega) (by omega) (by omega),Or.inr ⟨by decide,hf,hq,n,fv,qv,Or.inr (Or.inl ⟨Or.inl rfl,hC'⟩)⟩⟩,hT⟩⟩
  ·refine⟨hb,Or.inr ⟨d,_,6,rfl,hd,Or.inr (Or.inl ⟨rfl,h0,fun e=>?_⟩)⟩⟩
   have e':(reso (dcl N l).2.m (dcl N l).2.F l).1=none:=e
   rw[h1] at e';cases e'
 ·omega
 ·omega
 ·omega
theorem step2 (hE:Ce a w0) (hL:Laid a w0) {l:List Mip.It} (hi:Items l) {c b:Nat} {w:World} {iv:Value} (h:Ph N w0 iv c b l 2 w):Calls Tryz.prog 51 #[.pointer (some ⟨c,0,none⟩)] w (StepP N a w0 iv c b l 3 w):=by
 obtain⟨h0,⟨e,_⟩|⟨_,hf,hq,n,fv,qv,⟨e,_⟩|⟨_,hC⟩|⟨e,_⟩|⟨e,_⟩⟩⟩:=h
 ·omega
 ·omega
 ·refine (checkTypes_any hC hE hL (rz_rsv hi h0 hq)).mono ?_
  rintro E w' ⟨hb,(⟨h1,rfl,hC',hT⟩|⟨h1,d,p,rfl,hd⟩)⟩
  ·exact⟨hb,Or.inl ⟨rfl,⟨okk_up h0 (by decide) (by omega) (by omega) (fun _=>h1) (by omega) (by omega) (by omega) (by omega),Or.inr ⟨by decide,hf,hq,n,fv,qv,Or.inr (Or.inl ⟨Or.inr rfl,hC'⟩)⟩⟩,hT⟩⟩
  ·exact⟨hb,Or.inr ⟨d,_,7,rfl,hd,Or.inr (Or.inr (Or.inl ⟨rfl,h0,h1⟩))⟩⟩
 ·omega
 ·omega
theorem step3 (hE:Ce a w0) {l:List Mip.It} (hi:Items l) {c b:Nat} {w:World} {iv:Value} (h:Ph N w0 iv c b l 3 w):Calls Tryz.prog 52 #[.pointer (some ⟨c,0,none⟩)] w (StepP N a w0 iv c b l 4 w):=by
 obtain⟨h0,⟨e,_⟩|⟨_,hf,hq,n,fv,qv,⟨e,_⟩|⟨_,hC⟩|⟨e,_⟩|⟨e,_⟩⟩⟩:=h
 ·omega
 ·omega
 ·refine (findPeriods_any hC hE (rz_rsv hi (zbf h0 (by decide)) hq)).mono ?_
  rintro E w' ⟨hb,(⟨h1,rfl,hC',hT⟩|⟨p,d,h1,rfl,hd⟩)⟩
  ·exact⟨hb,Or.inl ⟨rfl,⟨okk_up h0 (by decide) (by omega) (by omega) (by omega) (fun _=>h1) (by omega) (by omega) (by omega),Or.inr ⟨by decide,hf,hq,n,fv,qv,Or.inr (Or.inr (Or.inl ⟨Or.inl rfl,hC'⟩))⟩⟩,hT⟩⟩
  ·exact⟨hb,Or.inr ⟨d,_,9,rfl,hd,Or.inr (Or.inr (Or.inr (Or.inl ⟨rfl,h0,p,h1,rfl⟩)))⟩⟩
 ·omega
 ·omega
theorem step4 (hE:Ce a w0) {l:List Mip.It} (hi:Items l) {c b:Nat} {w:World} {iv:Value} (h:Ph N w0 iv c b l 4 w):Calls Tryz.prog 53 #[.pointer (some ⟨c,0,none⟩)] w (StepP N a w0 iv c b l 5 w):=by
 obtain⟨h0,⟨e,_⟩|⟨_,hf,hq,n,fv,qv,⟨e,_⟩|⟨e,_⟩|⟨_,hC⟩|⟨e,_⟩⟩⟩:=h
 ·omega
 ·omega
 ·omega
 ·refine (checkPeriods_any hC hE (rz_prd hi (zbf h0 (by decide)) hq)).mono ?_
  rintro E w' ⟨hb,(⟨h1,rfl,hC',hT⟩|⟨h1,d,p,rfl,hd⟩)⟩
  ·exact⟨hb,Or.inl ⟨rfl,⟨okk_up h0 (by decide) (by omega) (by omega) (by omega) (by omega) (fun _=>h1) (by omega) (by omega),Or.inr ⟨by decide,hf,hq,n,fv,qv,Or.inr (Or.inr (Or.inl ⟨Or.inr (Or.inl rfl),hC'⟩))⟩⟩,hT⟩⟩
  ·exact⟨hb,Or.inr ⟨d,_,8,rfl,hd,Or.inr (Or.inr (Or.inr (Or.inr (Or.inl ⟨rfl,h0,fun e=>h1 e.1⟩))))⟩⟩
 ·omega
theorem step5 (hE:Ce a w0) {l:List Mip.It} (hi:Items l) {c b:Nat} {w:World} {iv:Value} (h:Ph N w0 iv c b l 5 w):Calls Tryz.prog 54 #[.pointer (some ⟨c,0,none⟩)] w (StepP N a w0 iv c b l 6 w):=by
 obtain⟨h0,⟨e,_⟩|⟨_,hf,hq,n,fv,qv,⟨e,_⟩|⟨e,_⟩|⟨_,hC⟩|⟨e,_⟩⟩⟩:=h
 ·omega
 ·omega
 ·omega
 ·refine (checkCommon_cs hC hE (by rw[zb9];omega) (prd_pos hi (zbf h0 (by decide)) hq)).mono ?_
  rintro E w' ⟨hb,(⟨h1,rfl,hC',hT⟩|⟨h1,d,p,rfl,hd⟩)⟩
  ·exact⟨hb,Or.inl ⟨rfl,⟨okk_up h0 (by decide) (by omega) (by omega) (by omega) (by omega) (by omega) (fun _=>h1) (by omega),Or.inr ⟨by decide,hf,hq,n,fv,qv,Or.inr (Or.inr (Or.inl ⟨Or.inr (Or.inr rfl),hC'⟩))⟩⟩,hT⟩⟩
  ·exact⟨hb,Or.inr ⟨d,_,8,rfl,hd,Or.inr (Or.inr (Or.inr (Or.inr (Or.inl ⟨rfl,zbf h0 (by decide),fun e=>h1 e.2⟩))))⟩⟩
 ·omega
theorem step6 (hE:Ce a w0) {l:List Mip.It} (hi:Items l) (hnod:∀i∈l,i.kind=3->nodes i.body<=600) {c b:Nat} {w:World} {iv:Value} (h:Ph N w0 iv c b l 6 w):Calls Tryz.prog 55 #[.pointer (some ⟨c,0,none⟩)] w (StepP N a w0 iv c b l 7 w):=by
 obtain⟨h0,⟨e,_⟩|⟨_,hf,hq,n,fv,qv,⟨e,_⟩|⟨e,_⟩|⟨_,hC⟩|⟨e,_⟩⟩⟩:=h
 ·omega
 ·omega
 ·omega
 ·obtain⟨cy,hcy⟩:∃cy,cyc (dcl N l).2.m (dcl N l).2.Q cy:=⟨_,rfl⟩
  refine (findNeeds_any hC hE (rz_prd hi (zbf h0 (by decide)) hq) (by rw[zb9];exact hf) (fun q hq=>?_) hcy).mono ?_
  ·rcases decl_src N l Ds.zero q hq with h3|⟨i,h3,h4,h5⟩
   ·cases h3
   ·rw[h5];exact hnod i h3 h4
  rintro E w' ⟨hb,(⟨h1,rfl,hC',hT⟩|⟨p,d,h1,rfl,hd⟩)⟩
  ·exact⟨hb,Or.inl ⟨rfl,⟨okk_up h0 (by decide) (by omega) (by omega) (by omega) (by omega) (by omega) (by omega) (fun _=>by rw[h1] at hcy;exact hcy),Or.inr ⟨by decide,hf,hq,n,fv,qv,Or.inr (Or.inr (Or.inr ⟨rfl,hC'⟩))⟩⟩,hT⟩⟩
  ·exact⟨hb,Or.inr ⟨d,_,10,rfl,hd,Or.inr (Or.inr (Or.inr (Or.inr (Or.inr ⟨rfl,h0,p,by rw[h1] at hcy;exact hcy,rfl⟩))))⟩⟩
 ·omega
theorem findOut_any (hN:N<=4000) {a:Nat->Addr} {w0:World} (hE:Ce a w0) (hL:Laid a w0) {b0:Nat} {l:List Mip.It} (hi:Items l) (hnod:∀i∈l,i.kind=3->nodes i.body<=600) {o:Option Addr} {ci:Nat} (hR:Row N w0 b0 l (.slice o l.length ci)) {c b:Nat} {w:World} (h:Ph N w0 (.slice o l.length ci) c b l 0 w) (hw:Below w0.heap.size w0 w) :
  Calls Tryz.prog 31 #[.pointer (some ⟨c,0,none⟩)] w (FoPost N a w0 (.slice o l.length ci) c b l):=by
 have S0:Hid (∀w,Ph N w0 (.slice o l.length ci) c b l 0 w->Calls Tryz.prog 49 #[.pointer (some ⟨c,0,none⟩)] w (StepP N a w0 (.slice o l.length ci) c b l 1 w)):=fun w h=>step0 hN hE hi hR h
 have S1:Hid (∀w,Ph N w0 (.slice o l.length ci) c b l 1 w->Calls Tryz.prog 50 #[.pointer (some ⟨c,0,none⟩)] w (StepP N a w0 (.slice o l.length ci) c b l 2 w)):=fun w h=>step1 hE hi hR h
 have S2:Hid (∀w,Ph N w0 (.slice o l.length ci) c b l 2 w->Calls Tryz.prog 51 #[.pointer (some ⟨c,0,none⟩)] w (StepP N a w0 (.slice o l.length ci) c b l 3 w)):=fun w h=>step2 hE hL hi h
 have S3:Hid (∀w,Ph N w0 (.slice o l.length ci) c b l 3 w->Calls Tryz.prog 52 #[.pointer (some ⟨c,0,none⟩)] w (StepP N a w0 (.slice o l.length ci) c b l 4 w)):=fun w h=>step3 hE hi h
 have S4:Hid (∀w,Ph N w0 (.slice o l.length ci) c b l 4 w->Calls Tryz.prog 53 #[.pointer (some ⟨c,0,none⟩)] w (StepP N a w0 (.slice o l.length ci) c b l 5 w)):=fun w h=>step4 hE hi h
 have S5:Hid (∀w,Ph N w0 (.slice o l.length ci) c b l 5 w->Calls Tryz.prog 54 #[.pointer (some ⟨c,0,none⟩)] w (StepP N a w0 (.slice o l.length ci) c b l 6 w)):=fun w h=>step5 hE hi h
 have S6:Hid (∀w,Ph N w0 (.slice o l.length ci) c b l 6 w->Calls Tryz.prog 55 #[.pointer (some ⟨c,0,none⟩)] w (StepP N a w0 (.slice o l.length ci) c b l 7 w)):=fun w h=>step6 hE hi hnod h
 have HP0:=hid h
 have HW0:=hid hw
 clear h hw hN hE hL hi hnod hR
 generalize Value.slice o l.length ci=iv at S0 S1 S2 S3 S4 S5 S6 HP0
 go_enter Tryz.func31,Tryz.ntmps31
 go_wp2_with fail
 go_loopg [22] 7 (fun gk s22 wr=>∃k:Nat,k<=7/\s22=.int .i64 (k:Nat)/\gk=7 - k/\Hid (Below w0.heap.size w0 wr)/\Hid (Ph N w0 iv c b l k wr)/\Hid (wr.heap[w.heap.size]?=some (.cells #[.func (.func 49) #[.pointer (some ⟨c,0,none⟩)] #[],.func (.func 50) #[.pointer (some ⟨c,0,none⟩)] #[],.func (.func 51) #[.pointer (some ⟨c,0,none⟩)] #[],.func (.func 52) #[.pointer (some ⟨c,0,none⟩)] #[],.func (.func 53) #[.pointer (some ⟨c,0,none⟩)] #[],.func (.func 54) #[.pointer (some ⟨c,0,none⟩)] #[],.func (.func 55) #[.pointer (some ⟨c,0,none⟩)] #[]] 79 (0,0))))
 case atStart=>exact⟨0,by decide,rfl,rfl,zaa HW0.out (brf.alloc nlr _),HP0.out.below (brf.alloc nlr _),han w _⟩
 case round=>
  obtain⟨k,hk,rfl,hg,KB,KP,KS⟩:=hrel
  have HG:=hid hg
  clear hg
  have hk8:k=0\/k=1\/k=2\/k=3\/k=4\/k=5\/k=6\/k=7:=by omega
  clear hk
  rcases hk8 with rfl|rfl|rfl|rfl|rfl|rfl|rfl|rfl
  ·have ck:=(cor wr w.heap.size 0 _ _ _ KS.out).trans rfl
   go_wp2_with fail
   refine (S0.out _ KP.out).mono ?_
   rintro E w1 ⟨hb1,(⟨rfl,hP1,hT1⟩|⟨d,p,kk,rfl,hd,hbad⟩)⟩
   ·have HB1:=hid hb1
    have HP1:=hid hP1
    have HS1:=hT1 w.heap.size _ KS.out
    have HS2:=hidden HS1
    clear hb1 hP1 hT1 HS1 ck
    go_wp2
    go_roundg (7 - 1)
    case measure=>have:=HG.out;omega
    case rel=>exact⟨1,by decide,by go_num,rfl,HB1,HP1,HS2⟩
   ·have HB1:=hid hb1
    have HD:Hid (Dg a w1 d p kk/\Bad N l kk p):=⟨hd,hbad⟩
    clear hb1 hd hbad ck
    go_wp2
    go_ret
    exact⟨HB1.out,Or.inr ⟨d,p,kk,rfl,HD.out.1,HD.out.2⟩⟩
  ·have ck:=(cor wr w.heap.size 1 _ _ _ KS.out).trans rfl
   go_wp2_with fail
   refine (S1.out _ KP.out).mono ?_
   rintro E w1 ⟨hb1,(⟨rfl,hP1,hT1⟩|⟨d,p,kk,rfl,hd,hbad⟩)⟩
   ·have HB1:=hid hb1
    have HP1:=hid hP1
    have HS1:=hT1 w.heap.size _ KS.out
    have HS2:=hidden HS1
    clear hb1 hP1 hT1 HS1 ck
    go_wp2
    go_roundg (7 - 2)
    case measure=>have:=HG.out;omega
    case rel=>exact⟨2,by decide,by go_num,rfl,HB1,HP1,HS2⟩
   ·have HB1:=hid hb1
    have HD:Hid (Dg a w1 d p kk/\Bad N l kk p):=⟨hd,hbad⟩
    clear hb1 hd hbad ck
    go_wp2
    go_ret
    exact⟨HB1.out,Or.inr ⟨d,p,kk,rfl,HD.out.1,HD.out.2⟩⟩
  ·have ck:=(cor wr w.heap.size 2 _ _ _ KS.out).trans rfl
   go_wp2_with fail
   refine (S2.out _ KP.out).mono ?_
   rintro E w1 ⟨hb1,(⟨rfl,hP1,hT1⟩|⟨d,p,kk,rfl,hd,hbad⟩)⟩
   ·have HB1:=hid hb1
    have HP1:=hid hP1
    have HS1:=hT1 w.heap.size _ KS.out
    have HS2:=hidden HS1
    clear hb1 hP1 hT1 HS1 ck
    go_wp2
    go_roundg (7 - 3)
    case measure=>have:=HG.out;omega
    case rel=>exact⟨3,by decide,by go_num,rfl,HB1,HP1,HS2⟩
   ·have HB1:=hid hb1
    have HD:Hid (Dg a w1 d p kk/\Bad N l kk p):=⟨hd,hbad⟩
    clear hb1 hd hbad ck
    go_wp2
    go_ret
    exact⟨HB1.out,Or.inr ⟨d,p,kk,rfl,HD.out.1,HD.out.2⟩⟩
  ·have ck:=(cor wr w.heap.size 3 _ _ _ KS.out).trans rfl
   go_wp2_with fail
   refine (S3.out _ KP.out).mono ?_
   rintro E w1 ⟨hb1,(⟨rfl,hP1,hT1⟩|⟨d,p,kk,rfl,hd,hbad⟩)⟩
   ·have HB1:=hid hb1
    have HP1:=hid hP1
    have HS1:=hT1 w.heap.size _ KS.out
    have HS2:=hidden HS1
    clear hb1 hP1 hT1 HS1 ck
    go_wp2
    go_roundg (7 - 4)
    case measure=>have:=HG.out;omega
    case rel=>exact⟨4,by decide,by go_num,rfl,HB1,HP1,HS2⟩
   ·have HB1:=hid hb1
    have HD:Hid (Dg a w1 d p kk/\Bad N l kk p):=⟨hd,hbad⟩
    clear hb1 hd hbad ck
    go_wp2
    go_ret
    exact⟨HB1.out,Or.inr ⟨d,p,kk,rfl,HD.out.1,HD.out.2⟩⟩
  ·have ck:=(cor wr w.heap.size 4 _ _ _ KS.out).trans rfl
   go_wp2_with fail
   refine (S4.out _ KP.out).mono ?_
   rintro E w1 ⟨hb1,(⟨rfl,hP1,hT1⟩|⟨d,p,kk,rfl,hd,hbad⟩)⟩
   ·have HB1:=hid hb1
    have HP1:=hid hP1
    have HS1:=hT1 w.heap.size _ KS.out
    have HS2:=hidden HS1
    clear hb1 hP1 hT1 HS1 ck
    go_wp2
    go_roundg (7 - 5)
    case measure=>have:=HG.out;omega
    case rel=>exact⟨5,by decide,by go_num,rfl,HB1,HP1,HS2⟩
   ·have HB1:=hid hb1
    have HD:Hid (Dg a w1 d p kk/\Bad N l kk p):=⟨hd,hbad⟩
    clear hb1 hd hbad ck
    go_wp2
    go_ret
    exact⟨HB1.out,Or.inr ⟨d,p,kk,rfl,HD.out.1,HD.out.2⟩⟩
  ·have ck:=(cor wr w.heap.size 5 _ _ _ KS.out).trans rfl
   go_wp2_with fail
   refine (S5.out _ KP.out).mono ?_
   rintro E w1 ⟨hb1,(⟨rfl,hP1,hT1⟩|⟨d,p,kk,rfl,hd,hbad⟩)⟩
   ·have HB1:=hid hb1
    have HP1:=hid hP1
    have HS1:=hT1 w.heap.size _ KS.out
    have HS2:=hidden HS1
    clear hb1 hP1 hT1 HS1 ck
    go_wp2
    go_roundg (7 - 6)
    case measure=>have:=HG.out;omega
    case rel=>exact⟨6,by decide,by go_num,rfl,HB1,HP1,HS2⟩
   ·have HB1:=hid hb1
    have HD:Hid (Dg a w1 d p kk/\Bad N l kk p):=⟨hd,hbad⟩
    clear hb1 hd hbad ck
    go_wp2
    go_ret
    exact⟨HB1.out,Or.inr ⟨d,p,kk,rfl,HD.out.1,HD.out.2⟩⟩
  ·have ck:=(cor wr w.heap.size 6 _ _ _ KS.out).trans rfl
   go_wp2_with fail
   refine (S6.out _ KP.out).mono ?_
   rintro E w1 ⟨hb1,(⟨rfl,hP1,hT1⟩|⟨d,p,kk,rfl,hd,hbad⟩)⟩
   ·have HB1:=hid hb1
    have HP1:=hid hP1
    have HS1:=hT1 w.heap.size _ KS.out
    have HS2:=hidden HS1
    clear hb1 hP1 hT1 HS1 ck
    go_wp2
    go_roundg (7 - 7)
    case measure=>have:=HG.out;omega
    case rel=>exact⟨7,by decide,by go_num,rfl,HB1,HP1,HS2⟩
   ·have HB1:=hid hb1
    have HD:Hid (Dg a w1 d p kk/\Bad N l kk p):=⟨hd,hbad⟩
    clear hb1 hd hbad ck
    go_wp2
    go_ret
    exact⟨HB1.out,Or.inr ⟨d,p,kk,rfl,HD.out.1,HD.out.2⟩⟩
  ·go_wp2
   go_ret
   exact⟨KB.out,Or.inl ⟨rfl,KP.out⟩⟩
end
end Go.Proofs.YtjehljjlcifndaaGreatDoor
