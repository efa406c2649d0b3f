import Derived.Test.YticbokabjhnagaaGreatDoorW38
import Derived.Test.YticbokabjhnagaaGreatDoorW39
namespace Go.Proofs.YticbokabjhnagaaGreatDoor
set_option maxHeartbeats 32000000
section
open Go.RowKit
theorem Tryz.infoW:(Tryz.prog.info? 116).map (fun i=>(i.zero,i.size,i.bytes))=some (some .nilFunc,1,8):=by kernel_rfl
end
section
open Go.RowKit
abbrev Xe (lo:Nat) (m:Mil.Bytes→Option Int) (ρ:Mil.Bytes→Int→Int→Int) (e:Mip.E):World→Nat→Array Value→Prop:=Xb lo (fun d n=>Mip.ask m d e n) (fun S n=>Mip.sm m ρ S e n)
def WE (lo N:Nat) (a:Nat→Addr) (c b n:Nat) (m:Mil.Bytes→Option Int) (ρ:Mil.Bytes→Int→Int→Int) (e:Mip.E):Prop:=
 (∃T y,ev N e=.iface T y)∧∀w,Nm a c b n m w∧lo≤w.heap.size→Calls Tryz.prog 42 #[.pointer (some ⟨c,0,none⟩),ev N e] w (FnP w (Xe lo m ρ e))
theorem bs_not (x:Mil.Bytes):((bs x).toList==[110,111,116])=decide (x=Mil.wNot):=by
 rw [Lib.toList_data,bs_list]
 by_cases h:x=Mil.wNot
 ·rw [h];rfl
 ·rw [decide_eq_false h];exact beq_false_of_ne h
theorem worthOf_is (lo N:Nat) (a':Nat→Addr) (c b' n:Nat) (m:Mil.Bytes→Option Int) {ρ:Mil.Bytes→Int→Int→Int} (hr:Rall2 ρ):∀e,Mil.wf (Mip.er e) false→WE lo N a' c b' n m ρ e:=by
 refine Mip.tree_induct ?_ ?_ ?_ ?_ ?_ ?_ ?_ ?_ ?_ ?_
 ·intro p k _
  have e0:ev N (Mip.eInt p k)=.iface 165 (.agg #[.int .i64 ((N:Int) - (p:Nat)),.int .i64 (k:Nat)]):=by
   show Value.iface 165 (.agg #[.int .i64 ((N:Int) - (p:Nat)),.int .i64 (k:Nat)])=_
   rfl
  refine ⟨⟨_,_,e0⟩,fun w hN=>?_⟩
  rw [e0]
  exact (we_int N a' c b' n m p k w hN).mono (fun E w' h=>h.conv (fun f c h=>Bv.conv h (fun d n _=>trivial) (fun S n=>(Mip.sm_int m ρ S p k n).symm)))
 ·intro p k _
  have e0:ev N (Mip.eBool p k)=.iface 168 (.agg #[.int .i64 ((N:Int) - (p:Nat)),.bool (k==1)]):=by
   show Value.iface 168 (.agg #[.int .i64 ((N:Int) - (p:Nat)),.bool (k==1)])=_
   rfl
  refine ⟨⟨_,_,e0⟩,fun w hN=>?_⟩
  rw [e0]
  exact (we_bool N a' c b' n m p k w hN).mono (fun E w' h=>h.conv (fun f c h=>Bv.conv h (fun d n _=>trivial) (fun S n=>by rw [Mip.sm_bool];simp)))
 ·intro p x hx
  have e0:ev N (Mip.eName p x)=.iface 103 (.agg #[.int .i64 ((N:Int) - (p:Nat)),.string (bs x)]):=by
   show Value.iface 103 (.agg #[.int .i64 ((N:Int) - (p:Nat)),.string (bs x)])=_
   rfl
  refine ⟨⟨_,_,e0⟩,fun w hN=>?_⟩
  rw [e0]
  exact (we_name N a' c b' n m p x (by have:=hx.2.2.1;omega) w hN).mono (fun E w' h=>h.conv (fun f c h=>Bv.conv h (fun d n h=>by rw [Mip.ask_name] at h;exact h) (fun S n=>(Mip.sm_name m ρ S p x n).symm)))
 ·intro p x a hx iha
  obtain ⟨⟨ta,ya,ea⟩,ra⟩:=iha
  rw [ea] at ra
  have e0:ev N (Mip.ePre p x a)=.iface 172 (.agg #[.int .i64 ((N:Int) - (p:Nat)),.string (bs x),.iface ta ya]):=by
   show Value.iface 172 (.agg #[.int .i64 ((N:Int) - (p:Nat)),.string (bs x),ev N a])=_
   rw [ea]
  refine ⟨⟨_,_,e0⟩,fun w hN=>?_⟩
  rw [e0]
  exact (we_pre N a' c b' n m hr p x ta ya ra w hN).mono (fun E w' h=>h.conv (fun f c h=>Bv.conv h (fun d n h=>(Mip.ask_pre m d p x a n).1 h) (fun S n=>by rw [Mip.sm_pre,bs_not];simp)))
 ·intro p x a b hx iha ihb
  obtain ⟨⟨ta,ya,ea⟩,ra⟩:=iha
  obtain ⟨⟨tb,yb,eb⟩,rb⟩:=ihb
  rw [ea] at ra
  rw [eb] at rb
  have e0:ev N (Mip.eTwo p x a b)=.iface 175 (.agg #[.int .i64 ((N:Int) - (p:Nat)),.string (bs x),.iface ta ya,.iface tb yb]):=by
   show Value.iface 175 (.agg #[.int .i64 ((N:Int) - (p:Nat)),.string (bs x),ev N a,ev N b])=_
   rw [ea,eb]
  refine ⟨⟨_,_,e0⟩,fun w hN=>?_⟩
  rw [e0]
  exact (we_two N a' c b' n m hr p x ta ya tb yb ra rb w hN).mono (fun E w' h=>h.conv (fun f c h=>Bv.conv h (fun d n h=>(Mip.ask_two m d p x a b n).1 h) (fun S n=>(Mip.sm_two m ρ S p x a b n).symm)))
 ·intro p y a b d iha ihb ihd
  obtain ⟨⟨ta,ya,ea⟩,ra⟩:=iha
  obtain ⟨⟨tb,yb,eb⟩,rb⟩:=ihb
  obtain ⟨⟨td,yd,ed⟩,rd⟩:=ihd
  rw [ea] at ra
  rw [eb] at rb
  rw [ed] at rd
  have e0:ev N ((.node 6 0 ([],p) a (.node 0 0 ([],y) b d)))=.iface 182 (.agg #[.int .i64 ((N:Int) - (p:Nat)),.iface ta ya,.iface tb yb,.iface td yd]):=by
   show Value.iface 182 (.agg #[.int .i64 ((N:Int) - (p:Nat)),ev N a,ev N b,ev N d])=_
   rw [ea,eb,ed]
  refine ⟨⟨_,_,e0⟩,fun w hN=>?_⟩
  rw [e0]
  exact (we_if N a' c b' n m p ta ya tb yb td yd ra rb rd w hN).mono (fun E w' h=>h.conv (fun f c h=>Bv.conv h (fun e n h=>(Mip.ask_if m e p y a b d n).1 h) (fun S n=>(Mip.sm_if m ρ S p y a b d n).symm)))
 ·intro p a b iha ihb
  obtain ⟨⟨ta,ya,ea⟩,ra⟩:=iha
  obtain ⟨⟨tb,yb,eb⟩,rb⟩:=ihb
  rw [ea] at ra
  rw [eb] at rb
  have e0:ev N (Mip.eFby p a b)=.iface 185 (.agg #[.int .i64 ((N:Int) - (p:Nat)),.iface ta ya,.iface tb yb]):=by
   show Value.iface 185 (.agg #[.int .i64 ((N:Int) - (p:Nat)),ev N a,ev N b])=_
   rw [ea,eb]
  refine ⟨⟨_,_,e0⟩,fun w hN=>?_⟩
  rw [e0]
  exact (we_fby N a' c b' n m p ta ya tb yb ra rb w hN).mono (fun E w' h=>h.conv (fun f c h=>Bv.conv h (fun d n h=>(Mip.ask_fby m d p a b n).1 h) (fun S n=>(Mip.sm_fby m ρ S p a b n).symm)))
 ·intro p a k h2 hk iha
  obtain ⟨⟨ta,ya,ea⟩,ra⟩:=iha
  rw [ea] at ra
  have e0:ev N (Mip.eUnder p a k)=.iface 188 (.agg #[.int .i64 ((N:Int) - (p:Nat)),.iface ta ya,.int .i64 (k:Nat)]):=by
   show Value.iface 188 (.agg #[.int .i64 ((N:Int) - (p:Nat)),ev N a,.int .i64 (k:Nat)])=_
   rw [ea]
  refine ⟨⟨_,_,e0⟩,fun w hN=>?_⟩
  rw [e0]
  exact (we_under N a' c b' n m p k ta ya ra w hN).mono (fun E w' h=>h.conv (fun f c h=>Bv.conv h (fun d n h=>(Mip.ask_under m d p a k n).1 h) (fun S n=>(Mip.sm_under m ρ S p a k n).symm)))
 ·intro p a b k h2 hk iha ihb
  obtain ⟨⟨ta,ya,ea⟩,ra⟩:=iha
  obtain ⟨⟨tb,yb,eb⟩,rb⟩:=ihb
  rw [ea] at ra
  rw [eb] at rb
  have e0:ev N (Mip.eHold p a b k)=.iface 191 (.agg #[.int .i64 ((N:Int) - (p:Nat)),.iface ta ya,.iface tb yb,.int .i64 (k:Nat)]):=by
   show Value.iface 191 (.agg #[.int .i64 ((N:Int) - (p:Nat)),ev N a,ev N b,.int .i64 (k:Nat)])=_
   rw [ea,eb]
  refine ⟨⟨_,_,e0⟩,fun w hN=>?_⟩
  rw [e0]
  exact (we_hold N a' c b' n m p k ta ya tb yb ra rb (by omega) w hN).mono (fun E w' h=>h.conv (fun f c h=>Bv.conv h (fun d n h=>(Mip.ask_hold m d p a b k n).1 h) (fun S n=>(Mip.sm_hold m ρ S p a b k n).symm)))
 ·intro p x a b hx iha ihb
  obtain ⟨⟨ta,ya,ea⟩,ra⟩:=iha
  obtain ⟨⟨tb,yb,eb⟩,rb⟩:=ihb
  rw [ea] at ra
  rw [eb] at rb
  have e0:ev N (Mip.eLeast p x a b)=.iface 180 (.agg #[.int .i64 ((N:Int) - (p:Nat)),.string (bs x),.iface ta ya,.iface tb yb]):=by
   show Value.iface 180 (.agg #[.int .i64 ((N:Int) - (p:Nat)),.string (bs x),ev N a,ev N b])=_
   rw [ea,eb]
  refine ⟨⟨_,_,e0⟩,fun w hN=>?_⟩
  rw [e0]
  exact (we_least N a' c b' n m hr p x ta ya tb yb ra rb w hN).mono (fun E w' h=>h.conv (fun f c h=>Bv.conv h (fun d n h=>(Mip.ask_least m d p x a b n).1 h) (fun S n=>(Mip.sm_least m ρ S p x a b n).symm)))
structure Wro (m:Mil.Bytes→Option Int) (ρ:Mil.Bytes→Int→Int→Int) (g lo n:Nat) (X:List (Nq×Value)) (j:Nat) (wr:World) (fn:Nat→Value):Prop where
 row:wr.rowIs g 116 n fn
 lo1:g < lo
 lo2:lo≤wr.heap.size
 yes:∀i q,i < j→X[i]?=some q→∃f c,fn q.1.flow=.func (.func f) #[] c∧Xe lo m ρ q.1.body wr f c
 no:∀k,(∀i q,i < j→X[i]?=some q→q.1.flow≠k)→fn k=.nilFunc
theorem Wro.below {m:Mil.Bytes→Option Int} {ρ:Mil.Bytes→Int→Int→Int} {g lo n:Nat} {X:List (Nq×Value)} {j:Nat} {w w':World} {fn:Nat→Value} (h:Wro m ρ g lo n X j w fn) (k:Below w.heap.size w w'):Wro m ρ g lo n X j w' fn:=by
 refine ⟨h.row.of_block (k.block _ h.row.lt),h.lo1,Nat.le_trans h.lo2 k.size,fun i q hi hq=>?_,h.no⟩
 obtain ⟨f,c,h1,h2⟩:=h.yes i q hi hq
 exact ⟨f,c,h1,h2.mono k⟩
theorem Wro.set {m:Mil.Bytes→Option Int} {ρ:Mil.Bytes→Int→Int→Int} {g lo n:Nat} {X:List (Nq×Value)} {j:Nat} {w:World} {fn:Nat→Value} (h:Wro m ρ g lo n X j w fn) {q:Nq×Value} (hq:X[j]?=some q) (hd:∀i x,i < j→X[i]?=some x→x.1.flow≠q.1.flow) {f:Nat} {c:Array Value} (hb:Xe lo m ρ q.1.body w f c):∃fn',Wro m ρ g lo n X (j+1) (w.setCell ⟨g,q.1.flow,none⟩ (.func (.func f) #[] c)) fn':=by
 have hmv:∀{f c e},Xe lo m ρ e w f c→Xe lo m ρ e (w.setCell ⟨g,q.1.flow,none⟩ (.func (.func f) #[] c)) f c→True:=fun _ _=>trivial
 have lo1:=h.lo1
 have mv:∀{f':Nat} {c':Array Value} {e:Mip.E},Xe lo m ρ e w f' c'→Xe lo m ρ e (w.setCell ⟨g,q.1.flow,none⟩ (.func (.func f) #[] c)) f' c':=fun hx=>Bv.move hx (fun b hl _=>Below.heap_setCell w ⟨g,q.1.flow,none⟩ _ b (by show b≠g;omega)) (by simp)
 clear hmv
 refine ⟨_,h.row.set q.1.flow _,h.lo1,by simpa using h.lo2,fun i x hi hx=>?_,fun k hk=>?_⟩
 ·by_cases e:i=j
  ·subst e
   rw [hq] at hx
   cases hx
   exact ⟨f,c,if_pos rfl,mv hb⟩
  ·obtain ⟨f',c',h1,h2⟩:=h.yes i x (by omega) hx
   exact ⟨f',c',by rw [if_neg (hd i x (by omega) hx)];exact h1,mv h2⟩
 ·rw [if_neg (fun e=>hk j q (by omega) hq e.symm)]
  exact h.no k (fun i x hi hx=>hk i x (by omega) hx)
def Wrw (m:Mil.Bytes→Option Int) (ρ:Mil.Bytes→Int→Int→Int) (B0 n:Nat) (Q:List Nq) (wv:Value) (w:World):Prop:=
 ∃g lo fn,wv=.slice (some ⟨g,0,none⟩) n n∧B0≤g∧w.rowIs g 116 n fn∧g < lo∧lo≤w.heap.size∧(∀q∈Q,∃f c,fn q.flow=.func (.func f) #[] c∧Xe lo m ρ q.body w f c)∧∀k,(∀q∈Q,q.flow≠k)→fn k=.nilFunc
theorem Wrw.fr {m:Mil.Bytes→Option Int} {ρ:Mil.Bytes→Int→Int→Int} {B0 n:Nat} {Q:List Nq} {wv:Value} {w w':World} (h:Wrw m ρ B0 n Q wv w) {own:Nat→Prop} (k:Fr own w w') (ho:∀i,own i→i < B0):Wrw m ρ B0 n Q wv w':=by
 obtain ⟨g,lo,fn,h1,h0,h2,h3,h4,h5,h6⟩:=h
 refine ⟨g,lo,fn,h1,h0,h2.of_block (k.block _ h2.lt (fun e=>by have:=ho _ e;omega)),h3,Nat.le_trans h4 k.size,fun q hq=>?_,h6⟩
 obtain ⟨f,c,k1,k2⟩:=h5 q hq
 exact ⟨f,c,k1,Bv.move k2 (fun b hl hb=>k.block b hb (fun e=>by have:=ho _ e;omega)) k.size⟩
theorem Wrw.below {m:Mil.Bytes→Option Int} {ρ:Mil.Bytes→Int→Int→Int} {B0 n:Nat} {Q:List Nq} {wv:Value} {w w':World} (h:Wrw m ρ B0 n Q wv w) (k:Below w.heap.size w w'):Wrw m ρ B0 n Q wv w':=h.fr (Fr.of_below (own:=fun _=>False) k) (fun _ e=>e.elim)
theorem Wrw.less {m:Mil.Bytes→Option Int} {ρ:Mil.Bytes→Int→Int→Int} {B0 B1 n:Nat} {Q:List Nq} {wv:Value} {w:World} (h:Wrw m ρ B0 n Q wv w) (hb:B1≤B0):Wrw m ρ B1 n Q wv w:=by
 obtain ⟨g,lo,fn,h1,h0,h2⟩:=h
 exact ⟨g,lo,fn,h1,Nat.le_trans hb h0,h2⟩
def WsP (m:Mil.Bytes→Option Int) (ρ:Mil.Bytes→Int→Int→Int) (n:Nat) (Q:List Nq) (w:World) (E:Ending) (w':World):Prop:=Below w.heap.size w w'∧∃g,E=.returned (.slice (some ⟨g,0,none⟩) n n)∧Wrw m ρ w.heap.size n Q (.slice (some ⟨g,0,none⟩) n n) w'
set_option maxRecDepth 100000 in
theorem worths_is {ρ:Mil.Bytes→Int→Int→Int} (hr:Rall2 ρ) {N:Nat} {a:Nat→Addr} {w0:World} {iv:Value} {c b n:Nat} {m:Mil.Bytes→Option Int} {F:List Flo} {Q:List Nq} {fv qv:Value} {w:World} (h:Fin N w0 iv c b n m F Q fv qv w) (hE:Ce a w0) (hz:Rz2 m F Q) (hF:F.length≤60) :
  Calls Tryz.prog 23 #[.pointer (some ⟨c,0,none⟩)] w (WsP m ρ F.length Q w):=by
 obtain ⟨X,hXQ,hC,hXL⟩:=h
 have HXQ:Hid (X.map Prod.fst=Q):=hXQ
 have hXl:X.length=Q.length:=by rw [←hXQ];simp
 have HC:Hid (Cs N w0 iv c b n m F X fv qv w):=hC
 have HXL:Hid (∀x∈X,Lst w x.2 (Mip.nds m x.1.body)):=hXL
 have HE:Hid (Ce a w0):=hE
 have HRR:Hid (Rall2 ρ):=hr
 have HZ:Hid (Rz2 m F Q):=hz
 have HXM:Hid (∀x∈X,x.1∈Q):=fun x hx=>by rw [←HXQ.out];exact List.mem_map.2 ⟨x,hx,rfl⟩
 obtain ⟨oq,cq,hqv⟩:=own_shape hC.eq
 have HQV:Hid (qv=.slice oq X.length cq):=hqv
 obtain ⟨of,cf,hfv⟩:=own_shape hC.fl
 have hlen:X.length≤60:=by rw [hXl];exact hz.len
 have d1:=hC.cells.2.1
 rw [hfv] at d1
 have hmk:=fun w=>run_make_row' (P:=Tryz.prog) 56 116 .nilFunc 8 Tryz.underlying56 Tryz.infoW rfl .i64 .i64 F.length (by omega) (by omega) w
 have HB0:Hid (Below w.heap.size w (w.alloc (.cells (madeCells #[.nilFunc] F.length) 116))):=(Below.refl _ _).alloc (Nat.le_refl _) _
 have HR0:Hid (∃fn,Wro m ρ w.heap.size (w.heap.size+1) F.length X 0 (w.alloc (.cells (madeCells #[.nilFunc] F.length) 116)) fn):=⟨_,World.rowIs_made w .nilFunc F.length 116,by omega,by simp,fun i q hi=>by omega,fun _ _=>rfl⟩
 have c3:=(hC.below HB0.out).cells.2.2.2
 rw [hqv] at c3
 clear hXQ hXl hC hXL hE hz hF hqv hfv hr
 go_enter Tryz.func23,Tryz.ntmps23
 go_wp2_with fail
 clear hmk
 generalize w.alloc (.cells (madeCells #[.nilFunc] F.length) 116)=W at HB0 HR0 c3 ⊢
 go_loopg [17] X.length (fun gk s17 wr=>∃(j:Nat),j≤X.length∧s17=.int .i64 (j:Nat)∧gk=X.length - j∧Hid (Below w.heap.size w wr)∧Hid (∃fn,Wro m ρ w.heap.size (w.heap.size+1) F.length X j wr fn))
 case atStart=>exact ⟨0,Nat.zero_le _,rfl,rfl,HB0,HR0⟩
 case round=>
  obtain ⟨j,hj,rfl,hg,KB,KR⟩:=hrel
  have HG:Hid (gk=X.length - j):=hg
  clear hg c3 HB0 HR0
  by_cases hlt:j < X.length
  ·have HLT:Hid (j < X.length):=hlt
   obtain ⟨⟨q,u⟩,hq⟩:∃x,X[j]?=some x:=⟨_,List.getElem?_eq_getElem hlt⟩
   have hmem:=List.mem_of_getElem? hq
   have HXJ:Hid (X[j]?=some (q,u)∧∀i x,i < j→X[i]?=some x→x.1.flow≠q.flow):=⟨hq,fun i x hi hx=>by
    have hp:=HZ.out.fq.up
    rw [←HXQ.out,List.map_map,List.pairwise_iff_getElem] at hp
    obtain ⟨l1,e1⟩:=List.getElem?_eq_some_iff.1 hx
    obtain ⟨l2,e2⟩:=List.getElem?_eq_some_iff.1 hq
    have:=hp i j (by simpa using l1) (by simpa using l2) hi
    simp [e1,e2] at this
    omega⟩
   have hqm:q∈Q:=HXM.out _ hmem
   have hwf:=(HZ.out.fq.wf q hqm).1
   obtain ⟨gq,cap',hqv,e0,e1,e2,e3,e4,e5⟩:=(HC.out.below KB.out).eqAt hq
   rw [HQV.out] at hqv
   obtain ⟨rfl,rfl⟩:oq=some ⟨gq,0,none⟩∧cq=cap':=by injection hqv with h1 h2 h3;exact ⟨h1,h3⟩
   obtain ⟨T,y,hev⟩:=ev_iface N q.body hwf
   simp only [hev] at e3
   have HWO:=(worthOf_is (w.heap.size+1) N a c b n m HRR.out q.body hwf).2
   rw [hev] at HWO
   have HWO':Hid (∀w1,Nm a c b n m w1∧w.heap.size+1≤w1.heap.size→Calls Tryz.prog 42 #[.pointer (some ⟨c,0,none⟩),.iface T y] w1 (FnP w1 (Xe (w.heap.size+1) m ρ q.body))):=HWO
   obtain ⟨so,sn,sc,hus⟩:=(HXL.out _ hmem).shape
   have hus':u=.slice so sn sc:=hus
   subst hus'
   obtain ⟨f,hf,_⟩:=HZ.out.fq.eqf q hqm
   have hfl:=(List.getElem?_eq_some_iff.1 hf).1
   have HFL:Hid (q.flow < F.length):=hfl
   have f0:(0:Int)≤(q.flow:Int):=by omega
   have f1:(q.flow:Int) < (F.length:Int):=by omega
   have h0:(0:Int)≤(j:Int):=by omega
   have h1:(j:Int) < (X.length:Int):=by omega
   have HB:Hid (Below wr.heap.size wr (wr.alloc (.cells #[.int .i64 ((N:Int) - (q.at_:Nat)),.string (bs q.nm),.int .i64 (q.ty:Nat),.iface T y,.int .i64 (q.flow:Nat),.slice so sn sc] 109))):=(Below.refl _ _).alloc (Nat.le_refl _) _
   have HXB:Hid ((wr.alloc (.cells #[.int .i64 ((N:Int) - (q.at_:Nat)),.string (bs q.nm),.int .i64 (q.ty:Nat),.iface T y,.int .i64 (q.flow:Nat),.slice so sn sc] 109)).heap[wr.heap.size]?=some (.cells #[.int .i64 ((N:Int) - (q.at_:Nat)),.string (bs q.nm),.int .i64 (q.ty:Nat),.iface T y,.int .i64 (q.flow:Nat),.slice so sn sc] 109 (0,0))):=heap_alloc_new wr _
   clear hq hmem hqm hwf hqv hev hus hf hfl HWO
   go_wp2_with fail
   have VB:Hid (Below w.heap.size w (wr.alloc (.cells #[.int .i64 ((N:Int) - (q.at_:Nat)),.string (bs q.nm),.int .i64 (q.ty:Nat),.iface T y,.int .i64 (q.flow:Nat),.slice so sn sc] 109))):=below_step KB.out HB.out
   have VR:Hid (∃fn,Wro m ρ w.heap.size (w.heap.size+1) F.length X j (wr.alloc (.cells #[.int .i64 ((N:Int) - (q.at_:Nat)),.string (bs q.nm),.int .i64 (q.ty:Nat),.iface T y,.int .i64 (q.flow:Nat),.slice so sn sc] 109)) fn):=KR.out.imp (fun fn h=>h.below HB.out)
   clear e0 e1 e2 e3 e4 e5 HB
   generalize wr.alloc (.cells #[.int .i64 ((N:Int) - (q.at_:Nat)),.string (bs q.nm),.int .i64 (q.ty:Nat),.iface T y,.int .i64 (q.flow:Nat),.slice so sn sc] 109)=V at VB VR HXB ⊢
   generalize wr.heap.size=ib at HXB ⊢
   have x3:V.cell? ⟨ib,3,none⟩=some (.iface T y):=(cell_of_row V _ 3 _ _ _ HXB.out).trans rfl
   have x4:V.cell? ⟨ib,4,none⟩=some (.int .i64 (q.flow:Nat)):=(cell_of_row V _ 4 _ _ _ HXB.out).trans rfl
   refine region_L (fun w'=>w'.cell? ⟨ib,4,none⟩=some (.int .i64 (q.flow:Nat))∧w'.cell? ⟨ib,3,none⟩=some (.iface T y)) 9 (by kernel_rfl) ⟨x4,x3⟩ (fun hS=>?_)
   refine L_take 0 (v:=?_) rfl (by kernel_rfl) (by kernel_rfl) (by kernel_rfl) (by kernel_rfl) (fun _ _ _ h=>h) (Or.inl ⟨by rfl,?_⟩) (by assumption) ?_
   rotate_left 1
   ·(intro w' hSw;(try dsimp only at hSw);go_simp <;> with_reducible rfl)
   try simp only [Act.put,List.setIfInBounds_toArray,List.set_cons_zero,List.set_cons_succ]
   refine L_take 1 (v:=?_) rfl (by kernel_rfl) (by kernel_rfl) (by kernel_rfl) (by kernel_rfl) (fun _ _ _ h=>h) (Or.inl ⟨by rfl,?_⟩) (by assumption) ?_
   rotate_left 1
   ·(intro w' hSw;(try dsimp only at hSw);go_simp <;> with_reducible rfl)
   try simp only [Act.put,List.setIfInBounds_toArray,List.set_cons_zero,List.set_cons_succ]
   refine L_take 2 (v:=?_) rfl (by kernel_rfl) (by kernel_rfl) (by kernel_rfl) (by kernel_rfl) (fun _ _ _ h=>h) (Or.inl ⟨by rfl,?_⟩) (by assumption) ?_
   rotate_left 1
   ·(intro w' hSw;(try dsimp only at hSw);go_simp <;> with_reducible rfl)
   try simp only [Act.put,List.setIfInBounds_toArray,List.set_cons_zero,List.set_cons_succ]
   refine L_take 3 (v:=?_) rfl (by kernel_rfl) (by kernel_rfl) (by kernel_rfl) (by kernel_rfl) (fun _ _ _ h=>h) (Or.inl ⟨by rfl,?_⟩) (by assumption) ?_
   rotate_left 1
   ·(intro w' hSw;(try dsimp only at hSw);go_simp <;> with_reducible rfl)
   try simp only [Act.put,List.setIfInBounds_toArray,List.set_cons_zero,List.set_cons_succ]
   refine L_take 4 (v:=?_) rfl (by kernel_rfl) (by kernel_rfl) (by kernel_rfl) (by kernel_rfl) (fun _ _ _ h=>h) (Or.inl ⟨by rfl,?_⟩) (by assumption) ?_
   rotate_left 1
   ·(intro w' hSw;(try dsimp only at hSw);go_simp <;> with_reducible rfl)
   try simp only [Act.put,List.setIfInBounds_toArray,List.set_cons_zero,List.set_cons_succ]
   refine L_take 5 (v:=?_) rfl (by kernel_rfl) (by kernel_rfl) (by kernel_rfl) (by kernel_rfl) (fun _ _ _ h=>h) (Or.inl ⟨by rfl,?_⟩) (by assumption) ?_
   rotate_left 1
   ·(intro w' hSw;(try dsimp only at hSw);go_simp <;> with_reducible rfl)
   try simp only [Act.put,List.setIfInBounds_toArray,List.set_cons_zero,List.set_cons_succ]
   refine L_take 6 (v:=?_) rfl (by kernel_rfl) (by kernel_rfl) (by kernel_rfl) (by kernel_rfl) (fun _ _ _ h=>h) (Or.inl ⟨by rfl,?_⟩) (by assumption) ?_
   rotate_left 1
   ·(intro w' hSw;(try dsimp only at hSw);go_simp <;> with_reducible rfl)
   try simp only [Act.put,List.setIfInBounds_toArray,List.set_cons_zero,List.set_cons_succ]
   refine L_one 7 (by kernel_rfl) rfl (fun K hK=>?_)
   go_simp
   refine (HWO'.out _ ⟨((HC.out.below VB.out).below (Below.refl _ _).drew).nm HE.out,VR.out.choose_spec.lo2⟩).mono ?_
   rintro E w1 ⟨hb1,f1,c1,rfl,hy1⟩
   have HY1:Hid (Xe (w.heap.size+1) m ρ q.body w1 f1 c1):=hy1
   clear hy1
   have HB1:Hid (Below w.heap.size w w1):=below_step VB.out.drew hb1
   have HR1:Hid (∃fn,Wro m ρ w.heap.size (w.heap.size+1) F.length X j w1 fn):=VR.out.imp (fun fn h=>(h.below (Below.refl _ _).drew).below hb1)
   have kp:∀{q:Addr} {v:Value},V.cell? q=some v→w1.cell? q=some v:=fun hq=>(hb1.cell (lt_of_cell (w:=V.drew) hq)).trans hq
   refine hK.out _ _ (Or.inr ⟨kp x4,kp x3⟩) (fun h7=>?_)
   replace h7:=h7.resolve_left (by decide)
   clear hK K hS kp hb1 x3 x4
   try simp only [Act.put,List.setIfInBounds_toArray,List.set_cons_zero,List.set_cons_succ]
   refine L_one 8 (by kernel_rfl) rfl (fun K hK=>?_)
   go_simp
   refine hK.out _ _ (Or.inr (by assumption)) (fun h8=>?_)
   clear h8 hK K
   try simp only [Act.put,List.setIfInBounds_toArray,List.set_cons_zero,List.set_cons_succ]
   obtain ⟨fn,hfn⟩:=HR1.out
   have ca:=hfn.row.cell HFL.out
   have za:=hfn.row.frozen q.flow
   have HR2:Hid (∃fn,Wro m ρ w.heap.size (w.heap.size+1) F.length X (j+1) (w1.setCell ⟨w.heap.size,q.flow,none⟩ (.func (.func f1) #[] c1)) fn):=hfn.set HXJ.out.1 HXJ.out.2 HY1.out
   have HB2:Hid (Below w.heap.size w (w1.setCell ⟨w.heap.size,q.flow,none⟩ (.func (.func f1) #[] c1))):=HB1.out.setCell (Nat.le_refl _) _
   refine L_one 9 (by kernel_rfl) rfl (fun K hK=>?_)
   go_simp
   refine hK.out _ _ (Or.inl rfl) (fun _=>?_)
   clear hK K h7 ca za hfn
   try simp only [Act.put,List.setIfInBounds_toArray,List.set_cons_zero,List.set_cons_succ]
   refine L_done (by kernel_rfl) ?_ _
   go_wp2
   go_roundg (X.length - (j+1))
   case measure=>have:=HG.out;have:=HLT.out;omega
   case rel=>exact ⟨j+1,HLT.out,by go_num,rfl,HB2,HR2⟩
  ·have hle:(X.length:Int)≤(j:Int):=by omega
   go_wp2
   go_ret
   obtain ⟨fn,hfn⟩:=KR.out
   refine ⟨KB.out,_,rfl,_,_,fn,rfl,Nat.le_refl _,hfn.row,hfn.lo1,hfn.lo2,fun q hq=>?_,fun k hk=>hfn.no k (fun i x hi hx=>hk x.1 (by rw [←HXQ.out];exact List.mem_map.2 ⟨x,List.mem_of_getElem? hx,rfl⟩))⟩
   rw [←HXQ.out] at hq
   obtain ⟨x,hx,rfl⟩:=List.mem_map.1 hq
   obtain ⟨i,hi⟩:=List.getElem?_of_mem hx
   exact hfn.yes i x (by have:=(List.getElem?_eq_some_iff.1 hi).1;omega) hi
end
end Go.Proofs.YticbokabjhnagaaGreatDoor
