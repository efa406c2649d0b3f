import Derived.Test.YtoiajojadihpbaaGreatDoorPt43
import Derived.Laws.AppendOwnNone
import Derived.Maps.AppendAt
namespace Go.Proofs.YtoiajojadihpbaaGreatDoor
set_option maxHeartbeats 8000000
section
open Go.RowKit
theorem grown_refl (w:World) (row:Option Nat):w.grownBy w row:=⟨rfl,rfl,rfl,Nat.le_refl _,fun _ _ _=>rfl⟩
theorem wpList_append_row {w:World} {ops:Array Oper} {rest:List Oper} {o:Oper} {a:Act} {Q:Exit→Act→World→Prop} (hgd:o.guard=none) (s x:Operand)
  (ho:o.op=.call { callee:=.builtin .append,args:=#[s,x],argTypes:=#[120,120] })
  (base:Nat) (v:Value) (L:List Nat) (hs:a.eval s=v) (hown:w.ownsRow base 3 1 v L.length (plv L)) (base':Nat) (y:Value) (M:List Nat) (hx:a.eval x=y) (hy:w.ownsRow base' 3 1 y M.length (plv M))
  (hL:L.length≤4000) (hM:M.length≤4000) (hbase:base≤w.heap.size)
  (h:∀v' w',w'.ownsRow base 3 1 v' (L++M).length (plv (L++M))→w.grownBy w' v.ownBlock→(v'.ownBlock=v.ownBlock∨v'.ownBlock=some w.heap.size)→wpList Tryz.prog ops Q rest (a.put o.dst v') w'):wpList Tryz.prog ops Q (o::rest) a w:=by
 obtain ⟨k0,hk,kz0,kz1,kz2⟩:=info_parts Tryz.infoInt
 have ev:plv (L++M)=plv L++plv M:=by simp [plv]
 rcases hy.2 with ⟨hn,h0⟩ | ⟨g,cap,cur,hg,rest'⟩
 ·have hM0:M=[]:=List.length_eq_zero_iff.1 h0
  subst hM0
  rw [hn] at hx
  refine wpList_append_own_none hgd s x 120 ho base 3 k0 1 Tryz.underlying120 hk v L.length (plv L) hs hown hx ?_
  exact h v w (by rw [List.append_nil];exact hown) (grown_refl _ _) (Or.inl rfl)
 ·have hgb:y.ownBlock=some g:=by rw [hg];rfl
  rw [hg] at hx
  refine wpList_append_own_at w hgd s x 120 ho base 3 k0 (.int .i64 0) 1 8 Tryz.underlying120 hk kz0 kz1 kz2 rfl (by decide) v L.length (plv L) hs hown ⟨g,0,none⟩ M.length cap (plv M) hx (by simp [plv]) (hy.cells hgb) ?_ (by unfold maxLen;omega) (by omega) hbase ?_
  ·intro u hu
   obtain ⟨z,_,rfl⟩:=List.mem_map.1 hu
   rfl
  ·intro v' w' h2 h3 _ h5
   exact h v' w' (by rw [ev,List.length_append];exact h2) h3 h5
def SR (B ub g:Nat) (iv nv fv tv:Value) (ns:List Ref.Nd) (I:List Iw) (F:List Ref.Fl) (e:Mil.E) (i:Nat):Prop:=Ref.Closed F e→(Ref.namesIn e).length≤2000→∀w,UM B ub g iv nv fv tv ns I F w→Calls Tryz.prog 135 #[.pointer (some ⟨ub,0,none⟩),.int .i64 (i:Nat)] w fun r w'=>(∃v L,r=.returned v∧w'.ownsRow w.heap.size 3 1 v L.length (plv L)∧(∀k,k∈L→k < F.length)∧L.length≤(Ref.namesIn e).length)∧Below w.heap.size w w'
set_option maxRecDepth 100000 in
theorem sr_num (B ub g:Nat) (iv nv fv tv:Value) (ns:List Ref.Nd) (I:List Iw) (F:List Ref.Fl) (i p:Nat) (v:Nat) (ng:Bool) (e:Mil.E) (hn:ns[i]?=some ⟨1,[],p,v,ng,0,0,0⟩):SR B ub g iv nv fv tv ns I F e i:=by
 intro hcl hnl
 intro w h
 have HP:=hid h
 have hl:=(List.getElem?_eq_some_iff.1 hn).1
 have i1:(0:Int)≤(i:Int):=by omega
 have i2:(i:Int) < (ns.length:Int):=by omega
 obtain ⟨k,cp,hv,c0,c1,c2,c3,c4,c5,c6,c7⟩:=h.pi.pm.node8 hn
 have d0:=h.cells.1
 have d1:=h.pi.pm.cells.2
 rw [hv] at d1
 have HB0:Hid (Below w.heap.size w (w.alloc (.cells #[.int .i64 ((1:Nat):Int),.string (bs []),.int .i64 (p:Nat),.int .i64 ((v:Nat):Int),.bool ng,.int .i64 ((0:Nat):Int),.int .i64 ((0:Nat):Int),.int .i64 ((0:Nat):Int)] 195))):=(Below.refl _ _).alloc (Nat.le_refl _) _
 have NC:=ncRow w #[.int .i64 ((1:Nat):Int),.string (bs []),.int .i64 (p:Nat),.int .i64 ((v:Nat):Int),.bool ng,.int .i64 ((0:Nat):Int),.int .i64 ((0:Nat):Int),.int .i64 ((0:Nat):Int)] 195
 clear hv h hn hl
 go_enter Tryz.func135,Tryz.ntmps135
 go_wp2_with fail
 all_goals go_ret
 exact ⟨⟨_,[],rfl,World.ownsRow_nil _ _ _ _,(fun k hk=>by cases hk),Nat.zero_le _⟩,HB0.out⟩
set_option maxRecDepth 100000 in
theorem sr_bool (B ub g:Nat) (iv nv fv tv:Value) (ns:List Ref.Nd) (I:List Iw) (F:List Ref.Fl) (i p:Nat) (v:Nat) (hn:ns[i]?=some ⟨2,[],p,v,false,0,0,0⟩):SR B ub g iv nv fv tv ns I F (Mil.eBool v) i:=by
 intro hcl hnl
 intro w h
 have HP:=hid h
 have hl:=(List.getElem?_eq_some_iff.1 hn).1
 have i1:(0:Int)≤(i:Int):=by omega
 have i2:(i:Int) < (ns.length:Int):=by omega
 obtain ⟨k,cp,hv,c0,c1,c2,c3,c4,c5,c6,c7⟩:=h.pi.pm.node8 hn
 have d0:=h.cells.1
 have d1:=h.pi.pm.cells.2
 rw [hv] at d1
 have HB0:Hid (Below w.heap.size w (w.alloc (.cells #[.int .i64 ((2:Nat):Int),.string (bs []),.int .i64 (p:Nat),.int .i64 ((v:Nat):Int),.bool false,.int .i64 ((0:Nat):Int),.int .i64 ((0:Nat):Int),.int .i64 ((0:Nat):Int)] 195))):=(Below.refl _ _).alloc (Nat.le_refl _) _
 have NC:=ncRow w #[.int .i64 ((2:Nat):Int),.string (bs []),.int .i64 (p:Nat),.int .i64 ((v:Nat):Int),.bool false,.int .i64 ((0:Nat):Int),.int .i64 ((0:Nat):Int),.int .i64 ((0:Nat):Int)] 195
 clear hv h hn hl
 go_enter Tryz.func135,Tryz.ntmps135
 go_wp2_with fail
 all_goals go_ret
 exact ⟨⟨_,[],rfl,World.ownsRow_nil _ _ _ _,(fun k hk=>by cases hk),Nat.zero_le _⟩,HB0.out⟩
set_option maxRecDepth 100000 in
theorem sr_fby (B ub g:Nat) (iv nv fv tv:Value) (ns:List Ref.Nd) (I:List Iw) (F:List Ref.Fl) (i p:Nat) (a b:Nat) (e:Mil.E) (hn:ns[i]?=some ⟨7,Mil.wFby,p,0,false,a,b,0⟩):SR B ub g iv nv fv tv ns I F e i:=by
 intro hcl hnl
 intro w h
 have HP:=hid h
 have hl:=(List.getElem?_eq_some_iff.1 hn).1
 have i1:(0:Int)≤(i:Int):=by omega
 have i2:(i:Int) < (ns.length:Int):=by omega
 obtain ⟨k,cp,hv,c0,c1,c2,c3,c4,c5,c6,c7⟩:=h.pi.pm.node8 hn
 have d0:=h.cells.1
 have d1:=h.pi.pm.cells.2
 rw [hv] at d1
 have HB0:Hid (Below w.heap.size w (w.alloc (.cells #[.int .i64 ((7:Nat):Int),.string (bs Mil.wFby),.int .i64 (p:Nat),.int .i64 ((0:Nat):Int),.bool false,.int .i64 ((a:Nat):Int),.int .i64 ((b:Nat):Int),.int .i64 ((0:Nat):Int)] 195))):=(Below.refl _ _).alloc (Nat.le_refl _) _
 have NC:=ncRow w #[.int .i64 ((7:Nat):Int),.string (bs Mil.wFby),.int .i64 (p:Nat),.int .i64 ((0:Nat):Int),.bool false,.int .i64 ((a:Nat):Int),.int .i64 ((b:Nat):Int),.int .i64 ((0:Nat):Int)] 195
 clear hv h hn hl
 go_enter Tryz.func135,Tryz.ntmps135
 go_wp2_with fail
 all_goals go_ret
 exact ⟨⟨_,[],rfl,World.ownsRow_nil _ _ _ _,(fun k hk=>by cases hk),Nat.zero_le _⟩,HB0.out⟩
set_option maxRecDepth 100000 in
theorem sr_hold (B ub g:Nat) (iv nv fv tv:Value) (ns:List Ref.Nd) (I:List Iw) (F:List Ref.Fl) (i p:Nat) (v a b:Nat) (e:Mil.E) (hn:ns[i]?=some ⟨9,Mil.wHold,p,v,false,a,b,0⟩):SR B ub g iv nv fv tv ns I F e i:=by
 intro hcl hnl
 intro w h
 have HP:=hid h
 have hl:=(List.getElem?_eq_some_iff.1 hn).1
 have i1:(0:Int)≤(i:Int):=by omega
 have i2:(i:Int) < (ns.length:Int):=by omega
 obtain ⟨k,cp,hv,c0,c1,c2,c3,c4,c5,c6,c7⟩:=h.pi.pm.node8 hn
 have d0:=h.cells.1
 have d1:=h.pi.pm.cells.2
 rw [hv] at d1
 have HB0:Hid (Below w.heap.size w (w.alloc (.cells #[.int .i64 ((9:Nat):Int),.string (bs Mil.wHold),.int .i64 (p:Nat),.int .i64 ((v:Nat):Int),.bool false,.int .i64 ((a:Nat):Int),.int .i64 ((b:Nat):Int),.int .i64 ((0:Nat):Int)] 195))):=(Below.refl _ _).alloc (Nat.le_refl _) _
 have NC:=ncRow w #[.int .i64 ((9:Nat):Int),.string (bs Mil.wHold),.int .i64 (p:Nat),.int .i64 ((v:Nat):Int),.bool false,.int .i64 ((a:Nat):Int),.int .i64 ((b:Nat):Int),.int .i64 ((0:Nat):Int)] 195
 clear hv h hn hl
 go_enter Tryz.func135,Tryz.ntmps135
 go_wp2_with fail
 all_goals go_ret
 exact ⟨⟨_,[],rfl,World.ownsRow_nil _ _ _ _,(fun k hk=>by cases hk),Nat.zero_le _⟩,HB0.out⟩
set_option maxRecDepth 100000 in
theorem sr_name (B ub g:Nat) (iv nv fv tv:Value) (ns:List Ref.Nd) (I:List Iw) (F:List Ref.Fl) (i p:Nat) (x:Mil.Bytes) (hn:ns[i]?=some ⟨3,x,p,0,false,0,0,0⟩) (hF:F.length≤4000):SR B ub g iv nv fv tv ns I F (Mil.eName x) i:=by
 intro hcl hnl
 intro w h
 have HP:=hid h
 have hl:=(List.getElem?_eq_some_iff.1 hn).1
 have i1:(0:Int)≤(i:Int):=by omega
 have i2:(i:Int) < (ns.length:Int):=by omega
 obtain ⟨k,cp,hv,c0,c1,c2,c3,c4,c5,c6,c7⟩:=h.pi.pm.node8 hn
 have d0:=h.cells.1
 have d1:=h.pi.pm.cells.2
 rw [hv] at d1
 have HB0:Hid (Below w.heap.size w (w.alloc (.cells #[.int .i64 ((3:Nat):Int),.string (bs x),.int .i64 (p:Nat),.int .i64 ((0:Nat):Int),.bool false,.int .i64 ((0:Nat):Int),.int .i64 ((0:Nat):Int),.int .i64 ((0:Nat):Int)] 195))):=(Below.refl _ _).alloc (Nat.le_refl _) _
 have NC:=ncRow w #[.int .i64 ((3:Nat):Int),.string (bs x),.int .i64 (p:Nat),.int .i64 ((0:Nat):Int),.bool false,.int .i64 ((0:Nat):Int),.int .i64 ((0:Nat):Int),.int .i64 ((0:Nat):Int)] 195
 clear hv h hn hl
 have HCL:=hid hcl
 clear hcl hnl
 go_enter Tryz.func135,Tryz.ntmps135
 go_wp2_with fail
 clear c0 c1 c2 c3 c4 c5 c6 c7 d0 d1 i1 i2
 have HP0:=hid (HP.out.below HB0.out)
 generalize hW:w.alloc (.cells #[.int .i64 ((3:Nat):Int),.string (bs x),.int .i64 (p:Nat),.int .i64 ((0:Nat):Int),.bool false,.int .i64 ((0:Nat):Int),.int .i64 ((0:Nat):Int),.int .i64 ((0:Nat):Int)] 195)=W at HB0 NC HP0 ⊢
 have BW:Hid (Below W.heap.size W W):=Below.refl _ _
 clear hW
 refine (find_any B ub g iv nv fv tv ns I F hF x _ HP0.out).mono ?_
 rintro r w1 ⟨rfl,hb⟩
 have Bw1:=hid hb
 clear hb
 obtain ⟨j,hj⟩:=Ref.closed_name HCL.out
 have e:Ref.fndI F x=(j:Int):=by unfold Ref.fndI;rw [hj]
 have HJ:Hid (j < F.length):=Ref.fnd_lt hj
 rw [e]
 clear e hj
 go_wp2_with fail
 all_goals go_ret
 have hw1:w.heap.size≤w1.heap.size:=Nat.le_trans HB0.out.size Bw1.out.size
 refine ⟨⟨_,[j],rfl,⟨rfl,Or.inr ⟨w1.heap.size,1,#[.int .i64 (j:Nat)],rfl,hw1,heap_alloc_new w1 _,Nat.le_refl _,by unfold maxLen;omega,rfl,rfl⟩⟩,?_,?_⟩,(below_step HB0.out Bw1.out).alloc hw1 _⟩
 ·intro k hk
  rw [List.mem_singleton.1 hk];exact HJ.out
 ·show 1≤(Ref.namesIn (Mil.eName x)).length
  simp [Ref.namesIn,Mil.eName]
set_option maxRecDepth 100000 in
theorem sr_pre (B ub g:Nat) (iv nv fv tv:Value) (ns:List Ref.Nd) (I:List Iw) (F:List Ref.Fl) (i p:Nat) (a:Nat) (y:Mil.Bytes) (q:Mil.E) (hn:ns[i]?=some ⟨4,y,p,0,false,a,0,0⟩) (ha:SR B ub g iv nv fv tv ns I F q a):SR B ub g iv nv fv tv ns I F (Mil.ePre y q) i:=by
 intro hcl hnl
 intro w h
 have HP:=hid h
 have hl:=(List.getElem?_eq_some_iff.1 hn).1
 have i1:(0:Int)≤(i:Int):=by omega
 have i2:(i:Int) < (ns.length:Int):=by omega
 obtain ⟨k,cp,hv,c0,c1,c2,c3,c4,c5,c6,c7⟩:=h.pi.pm.node8 hn
 have d0:=h.cells.1
 have d1:=h.pi.pm.cells.2
 rw [hv] at d1
 have HB0:Hid (Below w.heap.size w (w.alloc (.cells #[.int .i64 ((4:Nat):Int),.string (bs y),.int .i64 (p:Nat),.int .i64 ((0:Nat):Int),.bool false,.int .i64 ((a:Nat):Int),.int .i64 ((0:Nat):Int),.int .i64 ((0:Nat):Int)] 195))):=(Below.refl _ _).alloc (Nat.le_refl _) _
 have NC:=ncRow w #[.int .i64 ((4:Nat):Int),.string (bs y),.int .i64 (p:Nat),.int .i64 ((0:Nat):Int),.bool false,.int .i64 ((a:Nat):Int),.int .i64 ((0:Nat):Int),.int .i64 ((0:Nat):Int)] 195
 clear hv h hn hl
 have hcn:(Ref.namesIn (Mil.ePre y q)).length=(Ref.namesIn q).length:=by
  show ([]++Ref.namesIn q++[]).length=_
  simp
 have HCN:=hid hcn
 have HHA:Hid (∀w,UM B ub g iv nv fv tv ns I F w→_):=ha ((Ref.closed_two (by decide)).1 hcl).1 (by omega)
 clear ha hcl hnl hcn
 go_enter Tryz.func135,Tryz.ntmps135
 go_wp2_with fail
 clear c0 c1 c2 c3 c4 c5 c6 c7 d0 d1 i1 i2
 have HP0:=hid (HP.out.below HB0.out)
 generalize hW:w.alloc (.cells #[.int .i64 ((4:Nat):Int),.string (bs y),.int .i64 (p:Nat),.int .i64 ((0:Nat):Int),.bool false,.int .i64 ((a:Nat):Int),.int .i64 ((0:Nat):Int),.int .i64 ((0:Nat):Int)] 195)=W at HB0 NC HP0 ⊢
 have BW:Hid (Below W.heap.size W W):=Below.refl _ _
 clear hW
 refine (HHA.out _ HP0.out).mono ?_
 rintro r w1 ⟨⟨v1,L1,rfl,o1,k1,n1⟩,hb⟩
 have Bw1:=hid hb
 have O1:=hid o1
 have K1:Hid ((∀k,k∈L1→k < F.length)∧L1.length≤(Ref.namesIn q).length):=⟨k1,n1⟩
 clear hb o1 k1 n1
 go_wp2_with fail
 all_goals go_ret
 exact ⟨⟨v1,L1,rfl,own_less O1.out HB0.out.size,K1.out.1,by rw [HCN.out];exact K1.out.2⟩,below_step HB0.out Bw1.out⟩
set_option maxRecDepth 100000 in
theorem sr_under (B ub g:Nat) (iv nv fv tv:Value) (ns:List Ref.Nd) (I:List Iw) (F:List Ref.Fl) (i p:Nat) (v a:Nat) (q:Mil.E) (hn:ns[i]?=some ⟨8,Mil.wUnder,p,v,false,a,0,0⟩) (ha:SR B ub g iv nv fv tv ns I F q a):SR B ub g iv nv fv tv ns I F (Mil.eUnder q v) i:=by
 intro hcl hnl
 intro w h
 have HP:=hid h
 have hl:=(List.getElem?_eq_some_iff.1 hn).1
 have i1:(0:Int)≤(i:Int):=by omega
 have i2:(i:Int) < (ns.length:Int):=by omega
 obtain ⟨k,cp,hv,c0,c1,c2,c3,c4,c5,c6,c7⟩:=h.pi.pm.node8 hn
 have d0:=h.cells.1
 have d1:=h.pi.pm.cells.2
 rw [hv] at d1
 have HB0:Hid (Below w.heap.size w (w.alloc (.cells #[.int .i64 ((8:Nat):Int),.string (bs Mil.wUnder),.int .i64 (p:Nat),.int .i64 ((v:Nat):Int),.bool false,.int .i64 ((a:Nat):Int),.int .i64 ((0:Nat):Int),.int .i64 ((0:Nat):Int)] 195))):=(Below.refl _ _).alloc (Nat.le_refl _) _
 have NC:=ncRow w #[.int .i64 ((8:Nat):Int),.string (bs Mil.wUnder),.int .i64 (p:Nat),.int .i64 ((v:Nat):Int),.bool false,.int .i64 ((a:Nat):Int),.int .i64 ((0:Nat):Int),.int .i64 ((0:Nat):Int)] 195
 clear hv h hn hl
 have hcn:(Ref.namesIn (Mil.eUnder q v)).length=(Ref.namesIn q).length:=by
  show ([]++Ref.namesIn q++[]).length=_
  simp
 have HCN:=hid hcn
 have HHA:Hid (∀w,UM B ub g iv nv fv tv ns I F w→_):=ha ((Ref.closed_two (by decide)).1 hcl).1 (by omega)
 clear ha hcl hnl hcn
 go_enter Tryz.func135,Tryz.ntmps135
 go_wp2_with fail
 clear c0 c1 c2 c3 c4 c5 c6 c7 d0 d1 i1 i2
 have HP0:=hid (HP.out.below HB0.out)
 generalize hW:w.alloc (.cells #[.int .i64 ((8:Nat):Int),.string (bs Mil.wUnder),.int .i64 (p:Nat),.int .i64 ((v:Nat):Int),.bool false,.int .i64 ((a:Nat):Int),.int .i64 ((0:Nat):Int),.int .i64 ((0:Nat):Int)] 195)=W at HB0 NC HP0 ⊢
 have BW:Hid (Below W.heap.size W W):=Below.refl _ _
 clear hW
 refine (HHA.out _ HP0.out).mono ?_
 rintro r w1 ⟨⟨v1,L1,rfl,o1,k1,n1⟩,hb⟩
 have Bw1:=hid hb
 have O1:=hid o1
 have K1:Hid ((∀k,k∈L1→k < F.length)∧L1.length≤(Ref.namesIn q).length):=⟨k1,n1⟩
 clear hb o1 k1 n1
 go_wp2_with fail
 all_goals go_ret
 exact ⟨⟨v1,L1,rfl,own_less O1.out HB0.out.size,K1.out.1,by rw [HCN.out];exact K1.out.2⟩,below_step HB0.out Bw1.out⟩
set_option maxRecDepth 100000 in
theorem sr_two (B ub g:Nat) (iv nv fv tv:Value) (ns:List Ref.Nd) (I:List Iw) (F:List Ref.Fl) (i p:Nat) (a b:Nat) (y:Mil.Bytes) (q r:Mil.E) (hn:ns[i]?=some ⟨5,y,p,0,false,a,b,0⟩) (ha:SR B ub g iv nv fv tv ns I F q a) (hb:SR B ub g iv nv fv tv ns I F r b):SR B ub g iv nv fv tv ns I F (Mil.eTwo y q r) i:=by
 intro hcl hnl
 intro w h
 have HP:=hid h
 have hl:=(List.getElem?_eq_some_iff.1 hn).1
 have i1:(0:Int)≤(i:Int):=by omega
 have i2:(i:Int) < (ns.length:Int):=by omega
 obtain ⟨k,cp,hv,c0,c1,c2,c3,c4,c5,c6,c7⟩:=h.pi.pm.node8 hn
 have d0:=h.cells.1
 have d1:=h.pi.pm.cells.2
 rw [hv] at d1
 have HB0:Hid (Below w.heap.size w (w.alloc (.cells #[.int .i64 ((5:Nat):Int),.string (bs y),.int .i64 (p:Nat),.int .i64 ((0:Nat):Int),.bool false,.int .i64 ((a:Nat):Int),.int .i64 ((b:Nat):Int),.int .i64 ((0:Nat):Int)] 195))):=(Below.refl _ _).alloc (Nat.le_refl _) _
 have NC:=ncRow w #[.int .i64 ((5:Nat):Int),.string (bs y),.int .i64 (p:Nat),.int .i64 ((0:Nat):Int),.bool false,.int .i64 ((a:Nat):Int),.int .i64 ((b:Nat):Int),.int .i64 ((0:Nat):Int)] 195
 clear hv h hn hl
 have hcn:(Ref.namesIn (Mil.eTwo y q r)).length=(Ref.namesIn q).length+(Ref.namesIn r).length:=by
  show ([]++Ref.namesIn q++Ref.namesIn r).length=_
  simp
 have HCN:=hid hcn
 have HNL:Hid ((Ref.namesIn q).length+(Ref.namesIn r).length≤2000):=by show _≤_;omega
 have HHA:Hid (∀w,UM B ub g iv nv fv tv ns I F w→_):=ha ((Ref.closed_two (by decide)).1 hcl).1 (by omega)
 have HHB:Hid (∀w,UM B ub g iv nv fv tv ns I F w→_):=hb ((Ref.closed_two (by decide)).1 hcl).2 (by omega)
 clear ha hb hcl hnl hcn
 go_enter Tryz.func135,Tryz.ntmps135
 go_wp2_with fail
 clear c0 c1 c2 c3 c4 c5 c6 c7 d0 d1 i1 i2
 have HP0:=hid (HP.out.below HB0.out)
 generalize hW:w.alloc (.cells #[.int .i64 ((5:Nat):Int),.string (bs y),.int .i64 (p:Nat),.int .i64 ((0:Nat):Int),.bool false,.int .i64 ((a:Nat):Int),.int .i64 ((b:Nat):Int),.int .i64 ((0:Nat):Int)] 195)=W at HB0 NC HP0 ⊢
 have BW:Hid (Below W.heap.size W W):=Below.refl _ _
 clear hW
 refine (HHA.out _ (HP0.out.below BW.out)).mono ?_
 rintro r w1 ⟨⟨v1,L1,rfl,o1,k1,n1⟩,hb⟩
 have Bw1:=hid (below_step BW.out hb)
 have D1:=hid hb
 have O1:=hid o1
 have K1:Hid ((∀k,k∈L1→k < F.length)∧L1.length≤(Ref.namesIn q).length):=⟨k1,n1⟩
 clear hb o1 k1 n1
 have f6:w1.cell? ⟨w.heap.size,6,none⟩=some (.int .i64 (b:Nat)):=NC.out w1 Bw1.out 6
 go_wp2_with fail
 clear f6
 refine (HHB.out _ (HP0.out.below Bw1.out)).mono ?_
 rintro r w2 ⟨⟨v2,L2,rfl,o2,k2,n2⟩,hb⟩
 have Bw2:=hid (below_step Bw1.out hb)
 have D2:=hid hb
 have O2:=hid o2
 have K2:Hid ((∀k,k∈L2→k < F.length)∧L2.length≤(Ref.namesIn r).length):=⟨k2,n2⟩
 clear hb o2 k2 n2
 have f0:w2.cell? ⟨w.heap.size,0,none⟩=some (.int .i64 5):=NC.out w2 Bw2.out 0
 have O12:Hid (w2.ownsRow W.heap.size 3 1 v1 L1.length (plv L1)):=own_kept O1.out (fun k hk=>D2.out.block k (O1.out.lt k hk).2)
 have LB:Hid (L1.length≤2000∧L2.length≤2000∧W.heap.size≤w2.heap.size):=by
  have h1:=K1.out.2
  have h2:=K2.out.2
  have h3:=HNL.out
  have h4:=Bw2.out.size
  exact ⟨by omega,by omega,h4⟩
 go_upto_region 18 with (at_builtin;refine wpList_append_row rfl (.tmp 51) (.tmp 52) rfl W.heap.size (.slice none 0 0) [] rfl (World.ownsRow_nil _ _ _ _) W.heap.size v1 L1 rfl O12.out (Nat.zero_le _) (by have:=LB.out;omega) LB.out.2.2 ?_;intro v3 w3 o3 g3 e3)
 rw [List.nil_append] at o3
 have O3:=hid o3
 have O23:Hid (w3.ownsRow w1.heap.size 3 1 v2 L2.length (plv L2)):=own_kept O2.out (fun k hk=>g3.block k (O2.out.lt k hk).2 (fun e=>by cases e))
 have Bw3:Hid (Below W.heap.size W w3):=Bw2.out.grown g3 LB.out.2.2 (fun k hk=>by cases hk)
 have LB3:Hid (W.heap.size≤w3.heap.size):=Bw3.out.size
 have f0':w3.cell? ⟨w.heap.size,0,none⟩=some (.int .i64 5):=NC.out w3 Bw3.out 0
 clear o3 g3 e3 f0
 go_upto_region 19 with (at_builtin;refine wpList_append_row rfl (.tmp 54) (.tmp 55) rfl W.heap.size v3 L1 rfl O3.out w1.heap.size v2 L2 rfl O23.out (by have:=LB.out;omega) (by have:=LB.out;omega) LB3.out ?_;intro v4 w4 o4 g4 e4)
 have O4:=hid o4
 have Bw4:Hid (Below W.heap.size W w4):=Bw3.out.grown g4 LB3.out (fun k hk=>(O3.out.lt k hk).1)
 have f0:w4.cell? ⟨w.heap.size,0,none⟩=some (.int .i64 5):=NC.out w4 Bw4.out 0
 clear o4 g4 e4 f0'
 go_wp2_with fail
 all_goals go_ret
 refine ⟨⟨v4,L1++L2,rfl,own_less O4.out HB0.out.size,?_,?_⟩,below_step HB0.out Bw4.out⟩
 ·intro k hk
  rcases List.mem_append.1 hk with hk | hk
  ·exact K1.out.1 k hk
  ·exact K2.out.1 k hk
 ·rw [HCN.out,List.length_append]
  have h1:=K1.out.2
  have h2:=K2.out.2
  omega
set_option maxRecDepth 100000 in
theorem sr_least (B ub g:Nat) (iv nv fv tv:Value) (ns:List Ref.Nd) (I:List Iw) (F:List Ref.Fl) (i p:Nat) (a b:Nat) (y:Mil.Bytes) (q r:Mil.E) (hn:ns[i]?=some ⟨10,y,p,0,false,a,b,0⟩) (ha:SR B ub g iv nv fv tv ns I F q a) (hb:SR B ub g iv nv fv tv ns I F r b):SR B ub g iv nv fv tv ns I F (Mil.eLeast y q r) i:=by
 intro hcl hnl
 intro w h
 have HP:=hid h
 have hl:=(List.getElem?_eq_some_iff.1 hn).1
 have i1:(0:Int)≤(i:Int):=by omega
 have i2:(i:Int) < (ns.length:Int):=by omega
 obtain ⟨k,cp,hv,c0,c1,c2,c3,c4,c5,c6,c7⟩:=h.pi.pm.node8 hn
 have d0:=h.cells.1
 have d1:=h.pi.pm.cells.2
 rw [hv] at d1
 have HB0:Hid (Below w.heap.size w (w.alloc (.cells #[.int .i64 ((10:Nat):Int),.string (bs y),.int .i64 (p:Nat),.int .i64 ((0:Nat):Int),.bool false,.int .i64 ((a:Nat):Int),.int .i64 ((b:Nat):Int),.int .i64 ((0:Nat):Int)] 195))):=(Below.refl _ _).alloc (Nat.le_refl _) _
 have NC:=ncRow w #[.int .i64 ((10:Nat):Int),.string (bs y),.int .i64 (p:Nat),.int .i64 ((0:Nat):Int),.bool false,.int .i64 ((a:Nat):Int),.int .i64 ((b:Nat):Int),.int .i64 ((0:Nat):Int)] 195
 clear hv h hn hl
 have hcn:(Ref.namesIn (Mil.eLeast y q r)).length=(Ref.namesIn q).length+(Ref.namesIn r).length:=by
  show ([]++Ref.namesIn q++Ref.namesIn r).length=_
  simp
 have HCN:=hid hcn
 have HNL:Hid ((Ref.namesIn q).length+(Ref.namesIn r).length≤2000):=by show _≤_;omega
 have HHA:Hid (∀w,UM B ub g iv nv fv tv ns I F w→_):=ha ((Ref.closed_two (by decide)).1 hcl).1 (by omega)
 have HHB:Hid (∀w,UM B ub g iv nv fv tv ns I F w→_):=hb ((Ref.closed_two (by decide)).1 hcl).2 (by omega)
 clear ha hb hcl hnl hcn
 go_enter Tryz.func135,Tryz.ntmps135
 go_wp2_with fail
 clear c0 c1 c2 c3 c4 c5 c6 c7 d0 d1 i1 i2
 have HP0:=hid (HP.out.below HB0.out)
 generalize hW:w.alloc (.cells #[.int .i64 ((10:Nat):Int),.string (bs y),.int .i64 (p:Nat),.int .i64 ((0:Nat):Int),.bool false,.int .i64 ((a:Nat):Int),.int .i64 ((b:Nat):Int),.int .i64 ((0:Nat):Int)] 195)=W at HB0 NC HP0 ⊢
 have BW:Hid (Below W.heap.size W W):=Below.refl _ _
 clear hW
 refine (HHA.out _ (HP0.out.below BW.out)).mono ?_
 rintro r w1 ⟨⟨v1,L1,rfl,o1,k1,n1⟩,hb⟩
 have Bw1:=hid (below_step BW.out hb)
 have D1:=hid hb
 have O1:=hid o1
 have K1:Hid ((∀k,k∈L1→k < F.length)∧L1.length≤(Ref.namesIn q).length):=⟨k1,n1⟩
 clear hb o1 k1 n1
 have f6:w1.cell? ⟨w.heap.size,6,none⟩=some (.int .i64 (b:Nat)):=NC.out w1 Bw1.out 6
 go_wp2_with fail
 clear f6
 refine (HHB.out _ (HP0.out.below Bw1.out)).mono ?_
 rintro r w2 ⟨⟨v2,L2,rfl,o2,k2,n2⟩,hb⟩
 have Bw2:=hid (below_step Bw1.out hb)
 have D2:=hid hb
 have O2:=hid o2
 have K2:Hid ((∀k,k∈L2→k < F.length)∧L2.length≤(Ref.namesIn r).length):=⟨k2,n2⟩
 clear hb o2 k2 n2
 have f0:w2.cell? ⟨w.heap.size,0,none⟩=some (.int .i64 10):=NC.out w2 Bw2.out 0
 have O12:Hid (w2.ownsRow W.heap.size 3 1 v1 L1.length (plv L1)):=own_kept O1.out (fun k hk=>D2.out.block k (O1.out.lt k hk).2)
 have LB:Hid (L1.length≤2000∧L2.length≤2000∧W.heap.size≤w2.heap.size):=by
  have h1:=K1.out.2
  have h2:=K2.out.2
  have h3:=HNL.out
  have h4:=Bw2.out.size
  exact ⟨by omega,by omega,h4⟩
 go_upto_region 18 with (at_builtin;refine wpList_append_row rfl (.tmp 51) (.tmp 52) rfl W.heap.size (.slice none 0 0) [] rfl (World.ownsRow_nil _ _ _ _) W.heap.size v1 L1 rfl O12.out (Nat.zero_le _) (by have:=LB.out;omega) LB.out.2.2 ?_;intro v3 w3 o3 g3 e3)
 rw [List.nil_append] at o3
 have O3:=hid o3
 have O23:Hid (w3.ownsRow w1.heap.size 3 1 v2 L2.length (plv L2)):=own_kept O2.out (fun k hk=>g3.block k (O2.out.lt k hk).2 (fun e=>by cases e))
 have Bw3:Hid (Below W.heap.size W w3):=Bw2.out.grown g3 LB.out.2.2 (fun k hk=>by cases hk)
 have LB3:Hid (W.heap.size≤w3.heap.size):=Bw3.out.size
 have f0':w3.cell? ⟨w.heap.size,0,none⟩=some (.int .i64 10):=NC.out w3 Bw3.out 0
 clear o3 g3 e3 f0
 go_upto_region 19 with (at_builtin;refine wpList_append_row rfl (.tmp 54) (.tmp 55) rfl W.heap.size v3 L1 rfl O3.out w1.heap.size v2 L2 rfl O23.out (by have:=LB.out;omega) (by have:=LB.out;omega) LB3.out ?_;intro v4 w4 o4 g4 e4)
 have O4:=hid o4
 have Bw4:Hid (Below W.heap.size W w4):=Bw3.out.grown g4 LB3.out (fun k hk=>(O3.out.lt k hk).1)
 have f0:w4.cell? ⟨w.heap.size,0,none⟩=some (.int .i64 10):=NC.out w4 Bw4.out 0
 clear o4 g4 e4 f0'
 go_wp2_with fail
 all_goals go_ret
 refine ⟨⟨v4,L1++L2,rfl,own_less O4.out HB0.out.size,?_,?_⟩,below_step HB0.out Bw4.out⟩
 ·intro k hk
  rcases List.mem_append.1 hk with hk | hk
  ·exact K1.out.1 k hk
  ·exact K2.out.1 k hk
 ·rw [HCN.out,List.length_append]
  have h1:=K1.out.2
  have h2:=K2.out.2
  omega
set_option maxRecDepth 100000 in
theorem sr_if (B ub g:Nat) (iv nv fv tv:Value) (ns:List Ref.Nd) (I:List Iw) (F:List Ref.Fl) (i p:Nat) (a b c:Nat) (q r u:Mil.E) (hn:ns[i]?=some ⟨6,Mil.wIf,p,0,false,a,b,c⟩) (ha:SR B ub g iv nv fv tv ns I F q a) (hb:SR B ub g iv nv fv tv ns I F r b) (hc:SR B ub g iv nv fv tv ns I F u c):SR B ub g iv nv fv tv ns I F (Mil.eIf q r u) i:=by
 intro hcl hnl
 intro w h
 have HP:=hid h
 have hl:=(List.getElem?_eq_some_iff.1 hn).1
 have i1:(0:Int)≤(i:Int):=by omega
 have i2:(i:Int) < (ns.length:Int):=by omega
 obtain ⟨k,cp,hv,c0,c1,c2,c3,c4,c5,c6,c7⟩:=h.pi.pm.node8 hn
 have d0:=h.cells.1
 have d1:=h.pi.pm.cells.2
 rw [hv] at d1
 have HB0:Hid (Below w.heap.size w (w.alloc (.cells #[.int .i64 ((6:Nat):Int),.string (bs Mil.wIf),.int .i64 (p:Nat),.int .i64 ((0:Nat):Int),.bool false,.int .i64 ((a:Nat):Int),.int .i64 ((b:Nat):Int),.int .i64 ((c:Nat):Int)] 195))):=(Below.refl _ _).alloc (Nat.le_refl _) _
 have NC:=ncRow w #[.int .i64 ((6:Nat):Int),.string (bs Mil.wIf),.int .i64 (p:Nat),.int .i64 ((0:Nat):Int),.bool false,.int .i64 ((a:Nat):Int),.int .i64 ((b:Nat):Int),.int .i64 ((c:Nat):Int)] 195
 clear hv h hn hl
 have hcn:(Ref.namesIn (Mil.eIf q r u)).length=(Ref.namesIn q).length+((Ref.namesIn r).length+(Ref.namesIn u).length):=by
  show ([]++Ref.namesIn q++([]++Ref.namesIn r++Ref.namesIn u)).length=_
  simp
 have HCN:=hid hcn
 have HNL:Hid ((Ref.namesIn q).length+((Ref.namesIn r).length+(Ref.namesIn u).length)≤2000):=by show _≤_;omega
 have H2:=(Ref.closed_two (by decide)).1 hcl
 have H3:=(Ref.closed_two (by decide)).1 H2.2
 have HHA:Hid (∀w,UM B ub g iv nv fv tv ns I F w→_):=ha H2.1 (by omega)
 have HHB:Hid (∀w,UM B ub g iv nv fv tv ns I F w→_):=hb H3.1 (by omega)
 have HHC:Hid (∀w,UM B ub g iv nv fv tv ns I F w→_):=hc H3.2 (by omega)
 clear ha hb hc hcl hnl hcn H2 H3
 go_enter Tryz.func135,Tryz.ntmps135
 go_wp2_with fail
 clear c0 c1 c2 c3 c4 c5 c6 c7 d0 d1 i1 i2
 have HP0:=hid (HP.out.below HB0.out)
 generalize hW:w.alloc (.cells #[.int .i64 ((6:Nat):Int),.string (bs Mil.wIf),.int .i64 (p:Nat),.int .i64 ((0:Nat):Int),.bool false,.int .i64 ((a:Nat):Int),.int .i64 ((b:Nat):Int),.int .i64 ((c:Nat):Int)] 195)=W at HB0 NC HP0 ⊢
 have BW:Hid (Below W.heap.size W W):=Below.refl _ _
 clear hW
 refine (HHA.out _ (HP0.out.below BW.out)).mono ?_
 rintro r w1 ⟨⟨v1,L1,rfl,o1,k1,n1⟩,hb⟩
 have Bw1:=hid (below_step BW.out hb)
 have D1:=hid hb
 have O1:=hid o1
 have K1:Hid ((∀k,k∈L1→k < F.length)∧L1.length≤(Ref.namesIn q).length):=⟨k1,n1⟩
 clear hb o1 k1 n1
 have f6:w1.cell? ⟨w.heap.size,6,none⟩=some (.int .i64 (b:Nat)):=NC.out w1 Bw1.out 6
 go_wp2_with fail
 clear f6
 refine (HHB.out _ (HP0.out.below Bw1.out)).mono ?_
 rintro r w2 ⟨⟨v2,L2,rfl,o2,k2,n2⟩,hb⟩
 have Bw2:=hid (below_step Bw1.out hb)
 have D2:=hid hb
 have O2:=hid o2
 have K2:Hid ((∀k,k∈L2→k < F.length)∧L2.length≤(Ref.namesIn r).length):=⟨k2,n2⟩
 clear hb o2 k2 n2
 have f0:w2.cell? ⟨w.heap.size,0,none⟩=some (.int .i64 6):=NC.out w2 Bw2.out 0
 have O12:Hid (w2.ownsRow W.heap.size 3 1 v1 L1.length (plv L1)):=own_kept O1.out (fun k hk=>D2.out.block k (O1.out.lt k hk).2)
 have LB:Hid (L1.length≤2000∧L2.length≤2000∧W.heap.size≤w2.heap.size):=by
  have h1:=K1.out.2
  have h2:=K2.out.2
  have h3:=HNL.out
  have h4:=Bw2.out.size
  exact ⟨by omega,by omega,h4⟩
 go_upto_region 18 with (at_builtin;refine wpList_append_row rfl (.tmp 51) (.tmp 52) rfl W.heap.size (.slice none 0 0) [] rfl (World.ownsRow_nil _ _ _ _) W.heap.size v1 L1 rfl O12.out (Nat.zero_le _) (by have:=LB.out;omega) LB.out.2.2 ?_;intro v3 w3 o3 g3 e3)
 rw [List.nil_append] at o3
 have O3:=hid o3
 have O23:Hid (w3.ownsRow w1.heap.size 3 1 v2 L2.length (plv L2)):=own_kept O2.out (fun k hk=>g3.block k (O2.out.lt k hk).2 (fun e=>by cases e))
 have Bw3:Hid (Below W.heap.size W w3):=Bw2.out.grown g3 LB.out.2.2 (fun k hk=>by cases hk)
 have LB3:Hid (W.heap.size≤w3.heap.size):=Bw3.out.size
 clear o3 g3 e3 f0
 go_upto_region 19 with (at_builtin;refine wpList_append_row rfl (.tmp 54) (.tmp 55) rfl W.heap.size v3 L1 rfl O3.out w1.heap.size v2 L2 rfl O23.out (by have:=LB.out;omega) (by have:=LB.out;omega) LB3.out ?_;intro v4 w4 o4 g4 e4)
 have O4:=hid o4
 have Bw4:Hid (Below W.heap.size W w4):=Bw3.out.grown g4 LB3.out (fun k hk=>(O3.out.lt k hk).1)
 clear o4 g4 e4
 have f0:w4.cell? ⟨w.heap.size,0,none⟩=some (.int .i64 6):=NC.out w4 Bw4.out 0
 have f7:w4.cell? ⟨w.heap.size,7,none⟩=some (.int .i64 (c:Nat)):=NC.out w4 Bw4.out 7
 go_wp2_with fail
 clear f0 f7
 refine (HHC.out _ (HP0.out.below Bw4.out)).mono ?_
 rintro r w5 ⟨⟨v5,L5,rfl,o5,k5,n5⟩,hb⟩
 have Bw5:=hid (below_step Bw4.out hb)
 have D5:=hid hb
 have O5:=hid o5
 have K5:Hid ((∀k,k∈L5→k < F.length)∧L5.length≤(Ref.namesIn u).length):=⟨k5,n5⟩
 clear hb o5 k5 n5
 have O45:Hid (w5.ownsRow W.heap.size 3 1 v4 (L1++L2).length (plv (L1++L2))):=own_kept O4.out (fun k hk=>D5.out.block k (O4.out.lt k hk).2)
 have LB5:Hid ((L1++L2).length≤4000∧L5.length≤2000∧W.heap.size≤w5.heap.size):=by
  have h1:=LB.out
  have h2:=K5.out.2
  have h3:=HNL.out
  have h4:=Bw5.out.size
  refine ⟨by rw [List.length_append];omega,by omega,h4⟩
 go_upto_region 22 with (at_builtin;refine wpList_append_row rfl _ _ rfl W.heap.size v4 (L1++L2) rfl O45.out w4.heap.size v5 L5 rfl O5.out LB5.out.1 (by have:=LB5.out;omega) LB5.out.2.2 ?_;intro v6 w6 o6 g6 e6)
 have O6:=hid o6
 have Bw6:Hid (Below W.heap.size W w6):=Bw5.out.grown g6 LB5.out.2.2 (fun k hk=>(O45.out.lt k hk).1)
 clear o6 g6 e6
 go_wp2_with fail
 all_goals go_ret
 refine ⟨⟨v6,L1++L2++L5,rfl,own_less O6.out HB0.out.size,?_,?_⟩,below_step HB0.out Bw6.out⟩
 ·intro k hk
  rcases List.mem_append.1 hk with hk | hk
  ·rcases List.mem_append.1 hk with hk | hk
   ·exact K1.out.1 k hk
   ·exact K2.out.1 k hk
  ·exact K5.out.1 k hk
 ·rw [HCN.out,List.length_append,List.length_append]
  have h1:=K1.out.2
  have h2:=K2.out.2
  have h3:=K5.out.2
  omega
theorem needs_all (B ub g:Nat) (iv nv fv tv:Value) (ns:List Ref.Nd) (I:List Iw) (F:List Ref.Fl) (hF:F.length≤4000):∀e,Mil.wf e false→∀i,Ref.Has ns e i→SR B ub g iv nv fv tv ns I F e i:=
 Ref.tree_induct (fun e i p v ng hn _=>sr_num B ub g iv nv fv tv ns I F i p v ng e hn) (fun i p v hn=>sr_bool B ub g iv nv fv tv ns I F i p v hn) (fun i p x hn=>sr_name B ub g iv nv fv tv ns I F i p x hn hF)
  (fun i p y a a' hn _ ha=>sr_pre B ub g iv nv fv tv ns I F i p a' y a hn ha) (fun i p v a a' hn _ _ ha=>sr_under B ub g iv nv fv tv ns I F i p v a' a hn ha)
  (fun i p _ _ a' b' hn _ _ _=>sr_fby B ub g iv nv fv tv ns I F i p a' b' _ hn) (fun i p v _ _ a' b' hn _ _ _ _ _=>sr_hold B ub g iv nv fv tv ns I F i p v a' b' _ hn)
  (fun i p y a b a' b' hn _ ha hb=>sr_two B ub g iv nv fv tv ns I F i p a' b' y a b hn ha hb) (fun i p y a b a' b' hn _ ha hb=>sr_least B ub g iv nv fv tv ns I F i p a' b' y a b hn ha hb)
  (fun i p a b c a' b' c' hn ha hb hc=>sr_if B ub g iv nv fv tv ns I F i p a' b' c' a b c hn ha hb hc)
end
section
open Go.RowKit
def EqAt (ns:List Ref.Nd) (I:List Iw) (F:List Ref.Fl) (f:Ref.Fl):Prop:=∃y,I[f.item]?=some y∧(f.inp=false→∃e,Mil.wf e false∧Ref.Has ns e y.im.expr∧Ref.Closed F e∧(Ref.namesIn e).length≤2000)
structure Uok (ns:List Ref.Nd) (I:List Iw) (F:List Ref.Fl):Prop where
 all:∀f,f∈F→EqAt ns I F f
 len:F.length≤60
 items:I.length≤60
 pe:∀f,f∈F→f.pe≤1000000
def FR (F:List Ref.Fl) (w:World) (base:Nat) (v:Value) (L:List Nat):Prop:=w.ownsRow base 3 1 v L.length (plv L)∧(∀k,k∈L→k < F.length)∧L.length≤2000
theorem UM.itemAt {B ub g:Nat} {iv nv fv tv:Value} {ns:List Ref.Nd} {I:List Iw} {F:List Ref.Fl} {w:World} (h:UM B ub g iv nv fv tv ns I F w) {i:Nat} {y:Iw} (hy:I[i]?=some y) :
  ∃k c,iv=.slice (some ⟨k,0,none⟩) I.length c∧w.cell? ⟨k,i*8,none⟩=some (.int .i64 (y.im.kind:Nat))∧w.cell? ⟨k,i*8+1,none⟩=some (.int .i64 (y.im.at_:Nat))∧w.cell? ⟨k,i*8+2,none⟩=some (.string (bs y.im.name))∧w.cell? ⟨k,i*8+3,none⟩=some (.int .i64 (y.im.type:Nat))∧w.cell? ⟨k,i*8+4,none⟩=some (.int .i64 (y.im.period:Nat))∧w.cell? ⟨k,i*8+5,none⟩=some y.nv∧w.cell? ⟨k,i*8+6,none⟩=some y.pv∧w.cell? ⟨k,i*8+7,none⟩=some (.int .i64 (y.im.expr:Nat))∧w.cell? ⟨g,0,none⟩=some (.slice (some ⟨k,0,none⟩) I.length c):=by
 obtain ⟨k,c,hv,c0,c1,c2,c3,c4,c5,c6,c7⟩:=h.pi.item8 hy
 exact ⟨k,c,hv,c0,c1,c2,c3,c4,c5,c6,c7,hv ▸ h.pi.pm.cells.1⟩
set_option maxRecDepth 100000 in
theorem of_any (B ub g:Nat) (iv nv fv tv:Value) (ns:List Ref.Nd) (I:List Iw) (F:List Ref.Fl) (hU:Uok ns I F) (f:Nat) (hf:f < F.length) (w:World) (h:UM B ub g iv nv fv tv ns I F w) :
  Calls Tryz.prog 106 #[.pointer (some ⟨ub,0,none⟩),.int .i64 (f:Nat)] w fun r w'=>(∃v L,r=.returned v∧FR F w' w.heap.size v L)∧Below w.heap.size w w':=by
 have HP:=hid h
 have i1:(0:Int)≤(f:Int):=by omega
 have i2:(f:Int) < (F.length:Int):=by omega
 obtain ⟨y,hy,he⟩:=hU.all F[f] (List.getElem_mem hf)
 have hyl:=(List.getElem?_eq_some_iff.1 hy).1
 obtain ⟨k,c,hv,c0,c1,c2,c3,c4,c5⟩:=h.flow6 (List.getElem?_eq_getElem hf)
 obtain ⟨k2,cc,hv2,e0,e1,e2,e3,e4,e5,e6,e7,d3⟩:=h.itemAt hy
 have d0:=h.cells.1
 have d1:=h.cells.2.1
 rw [hv] at d1
 have HL:Hid (F.length≤60):=hU.len
 generalize F[f]=fy at he hyl hy c0 c1 c2 c3 c4 c5 e0 e1 e2 e3 e4 e5 e6 e7
 obtain ⟨fn,ft,fp,fi,fo,fm⟩:=fy
 simp only [] at he hyl hy c0 c1 c2 c3 c4 c5 e0 e1 e2 e3 e4 e5 e6 e7
 have i3:(0:Int)≤(fm:Int):=by omega
 have i4:(fm:Int) < (I.length:Int):=by omega
 clear hv hv2 h hU hf hyl hy
 cases fi
 ·obtain ⟨e,hw,hh,hc,hn⟩:=he rfl
  have HN:Hid (∀w,UM B ub g iv nv fv tv ns I F w→_):=needs_all B ub g iv nv fv tv ns I F (by have:=HL.out;omega) e hw y.im.expr hh hc hn
  have HN2:=hid hn
  clear he hw hh hc hn
  go_enter Tryz.func106,Tryz.ntmps106
  have up:∀{q:Addr} {v:Value},w.cell? q=some v→∀w',Below w.heap.size w w'→w'.cell? q=some v:=fun hq w' hb=>(hb.cell (lt_of_cell hq)).trans hq
  have j0:=up d0
  have j1:=up d1
  have j2:=up d3
  have j3:=up c5
  have j4:=up e7
  clear up
  go_wp2_with fail
  clear c0 c1 c2 c3 c4 c5 e0 e1 e2 e3 e4 e5 e6 e7 d0 d1 d3
  go_region_held3 (fun w'=>Below w.heap.size w w') (first | assumption | exact (Below.refl _ _).drew | exact Below.alloc (by assumption) (Below.size (by assumption)) _) (first
   | (go_at_call 135;(with_reducible refine (HN.out _ ?_).mono ?_);exact HP.out.below (by assumption);rintro r w1 ⟨⟨v,L,rfl,o,kk,nn⟩,hb⟩;have hB:Below w.heap.size w w1:=below_step (by assumption) hb;have hO:w1.ownsRow w.heap.size 3 1 v L.length (plv L):=own_less o (Below.size (by assumption));have HF:Hid (FR F w1 w.heap.size v L):=⟨hO,kk,Nat.le_trans nn HN2.out⟩))
  all_goals go_wp2_with fail
  all_goals go_ret
  all_goals exact ⟨⟨_,_,rfl,HF.out⟩,by assumption⟩
 ·clear he
  go_enter Tryz.func106,Tryz.ntmps106
  go_wp2_with fail
  all_goals go_ret
  exact ⟨⟨_,[],rfl,⟨World.ownsRow_nil _ _ _ _,(fun k hk=>by cases hk),Nat.zero_le _⟩⟩,Below.refl _ _⟩
end
end Go.Proofs.YtoiajojadihpbaaGreatDoor
