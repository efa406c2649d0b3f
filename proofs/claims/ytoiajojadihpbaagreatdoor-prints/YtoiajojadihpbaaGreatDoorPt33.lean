import Derived.Test.YtoiajojadihpbaaGreatDoorPt32
import Derived.Test.YtoiajojadihpbaaGreatDoorPt21
import Derived.Test.YtoiajojadihpbaaGreatDoorPt31
import Derived.Test.YtoiajojadihpbaaGreatDoorPt25
import Derived.Deep.RegionHeld3
namespace Go.Proofs.YtoiajojadihpbaaGreatDoor
set_option maxHeartbeats 8000000
section
open Go.RowKit
structure PM (B g:Nat) (iv nv:Value) (ns:List Ref.Nd) (w:World):Prop where
 pr:w.heap[g]?=some (.cells #[iv,nv] 100 (0,0))
 nod:w.ownsRow B 195 8 nv ns.length (nds ns)
theorem PM.below {B g:Nat} {iv nv:Value} {ns:List Ref.Nd} {w w':World} (h:PM B g iv nv ns w) (hb:Below w.heap.size w w'):PM B g iv nv ns w':=
 ⟨(hb.block _ (Array.getElem?_eq_some_iff.1 h.pr).1).trans h.pr,own_kept h.nod (fun k hk=>hb.block k (h.nod.lt k hk).2)⟩
theorem PM.cells {B g:Nat} {iv nv:Value} {ns:List Ref.Nd} {w:World} (h:PM B g iv nv ns w):w.cell? ⟨g,0,none⟩=some iv∧w.cell? ⟨g,1,none⟩=some nv:=by
 refine ⟨?_,?_⟩
 ·rw [cell_of_row w _ 0 _ _ _ h.pr];rfl
 ·rw [cell_of_row w _ 1 _ _ _ h.pr];rfl
theorem PM.nodeAt {B g:Nat} {iv nv:Value} {ns:List Ref.Nd} {w:World} (h:PM B g iv nv ns w) {i:Nat} {n:Ref.Nd} (hn:ns[i]?=some n) :
  ∃k c,nv=.slice (some ⟨k,0,none⟩) ns.length c∧∀j,j < 8→w.cell? ⟨k,i*8+j,none⟩=(Ref.ndCells n)[j]?:=by
 have hl:=(List.getElem?_eq_some_iff.1 hn).1
 obtain ⟨h1,⟨h2,h3⟩ | ⟨k,cap,cur,rfl,hbk,hk,hcap,hmx,hsz,htk⟩⟩:=h.nod
 ·omega
 ·refine ⟨k,cap,rfl,fun j hj=>?_⟩
  have e1:=flat_at (f:=Ref.ndCells) (c:=8) (fun _=>rfl) ns i j _ hn hj
  have e2:(nds ns)[i*8+j]?=(Ref.ndCells n)[j]?:=e1
  rw [cell_of_row w k _ _ _ _ hk,←e2,←htk,List.getElem?_take]
  rw [if_pos (by omega)]
  simp
theorem PM.node8 {B g:Nat} {iv nv:Value} {ns:List Ref.Nd} {w:World} (h:PM B g iv nv ns w) {i:Nat} {kd at_ v a b c:Nat} {t:Mil.Bytes} {ng:Bool} (hn:ns[i]?=some ⟨kd,t,at_,v,ng,a,b,c⟩) :
  ∃k cp,nv=.slice (some ⟨k,0,none⟩) ns.length cp∧w.cell? ⟨k,i*8,none⟩=some (.int .i64 (kd:Nat))∧w.cell? ⟨k,i*8+1,none⟩=some (.string (bs t))∧w.cell? ⟨k,i*8+2,none⟩=some (.int .i64 (at_:Nat)) ∧
   w.cell? ⟨k,i*8+3,none⟩=some (.int .i64 (v:Nat))∧w.cell? ⟨k,i*8+4,none⟩=some (.bool ng)∧w.cell? ⟨k,i*8+5,none⟩=some (.int .i64 (a:Nat))∧w.cell? ⟨k,i*8+6,none⟩=some (.int .i64 (b:Nat))∧w.cell? ⟨k,i*8+7,none⟩=some (.int .i64 (c:Nat)):=by
 obtain ⟨k,cp,hv,hc⟩:=h.nodeAt hn
 exact ⟨k,cp,hv,hc 0 (by decide),hc 1 (by decide),hc 2 (by decide),hc 3 (by decide),hc 4 (by decide),hc 5 (by decide),hc 6 (by decide),hc 7 (by decide)⟩
def TR (B g:Nat) (iv nv:Value) (ns:List Ref.Nd) (e:Mil.E) (i:Nat):Prop:=∀w,PM B g iv nv ns w→Calls Tryz.prog 55 #[.pointer (some ⟨g,0,none⟩),.int .i64 (i:Nat)] w (TxPost (Mil.txt e) w)
def OR (B g:Nat) (iv nv:Value) (ns:List Ref.Nd) (e:Mil.E) (i:Nat):Prop:=∀(k:Nat),k≤7→∀w,PM B g iv nv ns w→Calls Tryz.prog 98 #[.pointer (some ⟨g,0,none⟩),.int .i64 (i:Nat),.int .i64 (k:Nat)] w (TxPost (Mil.brack (Mil.tight e) k (Mil.txt e)) w)
theorem Ref.brack_le (t l:Nat) (x:Mil.Bytes):(Mil.brack t l x).length≤x.length+2:=by
 unfold Mil.brack
 split
 ·simp [Mil.sOpen,Mil.sShut]
 ·omega
def Ref.bindsOf (n:Ref.Nd):Nat:=if n.kind=6 then 0 else if n.kind=5 then Ref.level n.t else if n.kind=4 then (if n.t=Mil.wNot then 3 else 7) else 8
set_option maxRecDepth 100000 in
theorem binds_any (n:Ref.Nd) (w:World):Calls Tryz.prog 99 #[Ref.ndV n] w fun e w'=>e=.returned (.int .i64 (Ref.bindsOf n:Nat))∧Below w.heap.size w w':=by
 obtain ⟨kd,t,at_,v,ng,a,b,c⟩:=n
 have hb0:Below w.heap.size w (w.alloc (.cells #[.int .i64 (kd:Nat),.string (bs t),.int .i64 (at_:Nat),.int .i64 (v:Nat),.bool ng,.int .i64 (a:Nat),.int .i64 (b:Nat),.int .i64 (c:Nat)] 195)):=(Below.refl _ _).alloc (Nat.le_refl _) _
 have HB:=hid hb0
 clear hb0
 show Calls Tryz.prog 99 #[.agg #[.int .i64 (kd:Nat),.string (bs t),.int .i64 (at_:Nat),.int .i64 (v:Nat),.bool ng,.int .i64 (a:Nat),.int .i64 (b:Nat),.int .i64 (c:Nat)]] w _
 unfold Ref.bindsOf
 simp only []
 by_cases k6:kd=6
 ·subst k6
  rw [if_pos rfl]
  go_enter Tryz.func99,Tryz.ntmps99
  go_wp2_with fail
  all_goals go_ret
  exact ⟨rfl,HB.out⟩
 rw [if_neg k6]
 by_cases k5:kd=5
 ·subst k5
  rw [if_pos rfl]
  clear k6
  go_enter Tryz.func99,Tryz.ntmps99
  go_wp2_with fail
  refine (level_any t _).mono ?_
  rintro e w1 ⟨rfl,rfl⟩
  go_wp2_with fail
  all_goals go_ret
  exact ⟨rfl,HB.out⟩
 rw [if_neg k5]
 by_cases k4:kd=4
 ·subst k4
  rw [if_pos rfl]
  clear k6 k5
  by_cases hn:t=Mil.wNot
  ·subst hn
   rw [if_pos rfl]
   have hq:((bs Mil.wNot).toList==[110,111,116])=true:=by rw [Lib.toList_data,bs_list];rfl
   go_enter Tryz.func99,Tryz.ntmps99
   go_wp2_with fail
   all_goals go_ret
   exact ⟨rfl,HB.out⟩
  ·rw [if_neg hn]
   have hq:((bs t).toList==[110,111,116])=false:=by rw [Lib.toList_data,bs_list];exact beq_false_of_ne hn
   clear hn
   go_enter Tryz.func99,Tryz.ntmps99
   go_wp2_with fail
   all_goals go_ret
   exact ⟨rfl,HB.out⟩
 rw [if_neg k4]
 have q6:((kd:Int)==6)=false:=by rw [beq_eq_false_iff_ne];omega
 have q5:((kd:Int)==5)=false:=by rw [beq_eq_false_iff_ne];omega
 have q4:((kd:Int)==4)=false:=by rw [beq_eq_false_iff_ne];omega
 clear k6 k5 k4
 go_enter Tryz.func99,Tryz.ntmps99
 go_wp2_with fail
 all_goals go_ret
 exact ⟨rfl,HB.out⟩
end
section
open Go.RowKit
set_option maxRecDepth 100000 in
theorem rt_name (B g:Nat) (iv nv:Value) (ns:List Ref.Nd) (i p:Nat) (x:Mil.Bytes) (hn:ns[i]?=some ⟨3,x,p,0,false,0,0,0⟩):TR B g iv nv ns (Mil.eName x) i:=by
 intro w h
 have HP:=hid h
 have hl:=(List.getElem?_eq_some_iff.1 hn).1
 have i1:(0:Int)≤(i:Int):=by omega
 have i2:(i:Int) < (ns.length:Int):=by omega
 obtain ⟨k,cp,hv,c0,c1,c2,c3,c4,c5,c6,c7⟩:=h.node8 hn
 have d1:=h.cells.2
 rw [hv] at d1
 have HB0:=bRow w #[.int .i64 ((3:Nat):Int),.string (bs x),.int .i64 (p:Nat),.int .i64 ((0:Nat):Int),.bool false,.int .i64 ((0:Nat):Int),.int .i64 ((0:Nat):Int),.int .i64 ((0:Nat):Int)] 195
 have hb0:=HB0.out
 have NC:=ncRow w #[.int .i64 ((3:Nat):Int),.string (bs x),.int .i64 (p:Nat),.int .i64 ((0:Nat):Int),.bool false,.int .i64 ((0:Nat):Int),.int .i64 ((0:Nat):Int),.int .i64 ((0:Nat):Int)] 195
 clear hv h hn hl hb0
 go_enter Tryz.func55,Tryz.ntmps55
 go_wp2_with fail
 all_goals go_ret
 exact ⟨rfl,HB0.out⟩
set_option maxRecDepth 100000 in
theorem rt_true (B g:Nat) (iv nv:Value) (ns:List Ref.Nd) (i p:Nat) (hn:ns[i]?=some ⟨2,[],p,1,false,0,0,0⟩):TR B g iv nv ns (Mil.eBool 1) i:=by
 intro w h
 have HP:=hid h
 have hl:=(List.getElem?_eq_some_iff.1 hn).1
 have i1:(0:Int)≤(i:Int):=by omega
 have i2:(i:Int) < (ns.length:Int):=by omega
 obtain ⟨k,cp,hv,c0,c1,c2,c3,c4,c5,c6,c7⟩:=h.node8 hn
 have d1:=h.cells.2
 rw [hv] at d1
 have HB0:=bRow w #[.int .i64 ((2:Nat):Int),.string (bs []),.int .i64 (p:Nat),.int .i64 ((1:Nat):Int),.bool false,.int .i64 ((0:Nat):Int),.int .i64 ((0:Nat):Int),.int .i64 ((0:Nat):Int)] 195
 have hb0:=HB0.out
 have NC:=ncRow w #[.int .i64 ((2:Nat):Int),.string (bs []),.int .i64 (p:Nat),.int .i64 ((1:Nat):Int),.bool false,.int .i64 ((0:Nat):Int),.int .i64 ((0:Nat):Int),.int .i64 ((0:Nat):Int)] 195
 clear hv h hn hl hb0
 go_enter Tryz.func55,Tryz.ntmps55
 go_wp2_with fail
 all_goals go_ret
 exact ⟨rfl,HB0.out⟩
set_option maxRecDepth 100000 in
theorem rt_false (B g:Nat) (iv nv:Value) (ns:List Ref.Nd) (i p:Nat) (hn:ns[i]?=some ⟨2,[],p,0,false,0,0,0⟩):TR B g iv nv ns (Mil.eBool 0) i:=by
 intro w h
 have HP:=hid h
 have hl:=(List.getElem?_eq_some_iff.1 hn).1
 have i1:(0:Int)≤(i:Int):=by omega
 have i2:(i:Int) < (ns.length:Int):=by omega
 obtain ⟨k,cp,hv,c0,c1,c2,c3,c4,c5,c6,c7⟩:=h.node8 hn
 have d1:=h.cells.2
 rw [hv] at d1
 have HB0:=bRow w #[.int .i64 ((2:Nat):Int),.string (bs []),.int .i64 (p:Nat),.int .i64 ((0:Nat):Int),.bool false,.int .i64 ((0:Nat):Int),.int .i64 ((0:Nat):Int),.int .i64 ((0:Nat):Int)] 195
 have hb0:=HB0.out
 have NC:=ncRow w #[.int .i64 ((2:Nat):Int),.string (bs []),.int .i64 (p:Nat),.int .i64 ((0:Nat):Int),.bool false,.int .i64 ((0:Nat):Int),.int .i64 ((0:Nat):Int),.int .i64 ((0:Nat):Int)] 195
 clear hv h hn hl hb0
 go_enter Tryz.func55,Tryz.ntmps55
 go_wp2_with fail
 all_goals go_ret
 exact ⟨rfl,HB0.out⟩
set_option maxRecDepth 100000 in
theorem rt_int (B g:Nat) (iv nv:Value) (ns:List Ref.Nd) (i p:Nat) (v:Nat) (hn:ns[i]?=some ⟨1,[],p,v,false,0,0,0⟩) (hv:v≤9223372036854775807):TR B g iv nv ns (Mil.eInt v) i:=by
 intro w h
 have HP:=hid h
 have hl:=(List.getElem?_eq_some_iff.1 hn).1
 have i1:(0:Int)≤(i:Int):=by omega
 have i2:(i:Int) < (ns.length:Int):=by omega
 obtain ⟨k,cp,hv,c0,c1,c2,c3,c4,c5,c6,c7⟩:=h.node8 hn
 have d1:=h.cells.2
 rw [hv] at d1
 have HB0:=bRow w #[.int .i64 ((1:Nat):Int),.string (bs []),.int .i64 (p:Nat),.int .i64 ((v:Nat):Int),.bool false,.int .i64 ((0:Nat):Int),.int .i64 ((0:Nat):Int),.int .i64 ((0:Nat):Int)] 195
 have hb0:=HB0.out
 have NC:=ncRow w #[.int .i64 ((1:Nat):Int),.string (bs []),.int .i64 (p:Nat),.int .i64 ((v:Nat):Int),.bool false,.int .i64 ((0:Nat):Int),.int .i64 ((0:Nat):Int),.int .i64 ((0:Nat):Int)] 195
 clear hv h hn hl hb0
 have DV:Hid (∀w,Calls Tryz.prog 53 #[.int .i64 (v:Nat)] w (TxPost (Lib.decDigits v) w)):=fun w=>rdigits_any v hv w
 go_enter Tryz.func55,Tryz.ntmps55
 go_wp2_with fail
 clear c0 c1 c2 c3 c4 c5 c6 c7 d1 i1 i2
 have HP0:=hid (HP.out.below HB0.out)
 generalize hW:w.alloc (.cells #[.int .i64 ((1:Nat):Int),.string (bs []),.int .i64 (p:Nat),.int .i64 ((v:Nat):Int),.bool false,.int .i64 ((0:Nat):Int),.int .i64 ((0:Nat):Int),.int .i64 ((0:Nat):Int)] 195)=W at HB0 NC HP0 ⊢
 have BW:Hid (Below W.heap.size W W):=Below.refl _ _
 clear hW
 refine (DV.out _).mono ?_
 rintro r w1 ⟨rfl,hb⟩
 have Bw1:=hid (below_step BW.out hb)
 clear hb
 have f4:w1.cell? ⟨w.heap.size,4,none⟩=some (.bool false):=NC.out w1 Bw1.out 4
 go_wp2_with fail
 all_goals go_ret
 exact ⟨rfl,below_step HB0.out Bw1.out⟩
set_option maxRecDepth 100000 in
theorem rt_neg (B g:Nat) (iv nv:Value) (ns:List Ref.Nd) (i p:Nat) (v:Nat) (hn:ns[i]?=some ⟨1,[],p,v,true,0,0,0⟩) (hv:v≤9223372036854775807):TR B g iv nv ns (Mil.ePre Mil.sMinus (Mil.eInt v)) i:=by
 intro w h
 have HP:=hid h
 have hl:=(List.getElem?_eq_some_iff.1 hn).1
 have i1:(0:Int)≤(i:Int):=by omega
 have i2:(i:Int) < (ns.length:Int):=by omega
 obtain ⟨k,cp,hv,c0,c1,c2,c3,c4,c5,c6,c7⟩:=h.node8 hn
 have d1:=h.cells.2
 rw [hv] at d1
 have HB0:=bRow w #[.int .i64 ((1:Nat):Int),.string (bs []),.int .i64 (p:Nat),.int .i64 ((v:Nat):Int),.bool true,.int .i64 ((0:Nat):Int),.int .i64 ((0:Nat):Int),.int .i64 ((0:Nat):Int)] 195
 have hb0:=HB0.out
 have NC:=ncRow w #[.int .i64 ((1:Nat):Int),.string (bs []),.int .i64 (p:Nat),.int .i64 ((v:Nat):Int),.bool true,.int .i64 ((0:Nat):Int),.int .i64 ((0:Nat):Int),.int .i64 ((0:Nat):Int)] 195
 clear hv h hn hl hb0
 have DV:Hid (∀w,Calls Tryz.prog 53 #[.int .i64 (v:Nat)] w (TxPost (Lib.decDigits v) w)):=fun w=>rdigits_any v hv w
 have HG:Hid (Ending.returned (.string (bs Mil.sMinus++bs (Lib.decDigits v)))=.returned (.string (bs (Mil.txt (Mil.ePre Mil.sMinus (Mil.eInt v)))))):=by
  show _=_
  rw [bs_add];rfl
 have hs:(bs (Lib.decDigits v)).size≤20:=by rw [bs_size];exact Mil.digits_len (by unfold Mil.maxInt;omega)
 have n1:¬9223372036854775807 < 1+(bs (Lib.decDigits v)).size:=by omega
 go_enter Tryz.func55,Tryz.ntmps55
 go_wp2_with fail
 clear c0 c1 c2 c3 c4 c5 c6 c7 d1 i1 i2
 have HP0:=hid (HP.out.below HB0.out)
 generalize hW:w.alloc (.cells #[.int .i64 ((1:Nat):Int),.string (bs []),.int .i64 (p:Nat),.int .i64 ((v:Nat):Int),.bool true,.int .i64 ((0:Nat):Int),.int .i64 ((0:Nat):Int),.int .i64 ((0:Nat):Int)] 195)=W at HB0 NC HP0 ⊢
 have BW:Hid (Below W.heap.size W W):=Below.refl _ _
 clear hW
 refine (DV.out _).mono ?_
 rintro r w1 ⟨rfl,hb⟩
 have Bw1:=hid (below_step BW.out hb)
 clear hb
 have f4:w1.cell? ⟨w.heap.size,4,none⟩=some (.bool true):=NC.out w1 Bw1.out 4
 go_wp2_with fail
 all_goals go_ret
 exact ⟨HG.out,below_step HB0.out Bw1.out⟩
set_option maxRecDepth 100000 in
theorem rt_not (B g:Nat) (iv nv:Value) (ns:List Ref.Nd) (i p:Nat) (a:Nat) (q:Mil.E) (hn:ns[i]?=some ⟨4,Mil.wNot,p,0,false,a,0,0⟩) (hl:(Mil.txt q).length≤24000) (hq:OR B g iv nv ns q a):TR B g iv nv ns (Mil.ePre Mil.wNot q) i:=by
 intro w h
 have HP:=hid h
 have hl:=(List.getElem?_eq_some_iff.1 hn).1
 have i1:(0:Int)≤(i:Int):=by omega
 have i2:(i:Int) < (ns.length:Int):=by omega
 obtain ⟨k,cp,hv,c0,c1,c2,c3,c4,c5,c6,c7⟩:=h.node8 hn
 have d1:=h.cells.2
 rw [hv] at d1
 have HB0:=bRow w #[.int .i64 ((4:Nat):Int),.string (bs Mil.wNot),.int .i64 (p:Nat),.int .i64 ((0:Nat):Int),.bool false,.int .i64 ((a:Nat):Int),.int .i64 ((0:Nat):Int),.int .i64 ((0:Nat):Int)] 195
 have hb0:=HB0.out
 have NC:=ncRow w #[.int .i64 ((4:Nat):Int),.string (bs Mil.wNot),.int .i64 (p:Nat),.int .i64 ((0:Nat):Int),.bool false,.int .i64 ((a:Nat):Int),.int .i64 ((0:Nat):Int),.int .i64 ((0:Nat):Int)] 195
 clear hv h hn hl hb0
 have hnot:((bs Mil.wNot).toList==[110,111,116])=true:=by rw [Lib.toList_data,bs_list];rfl
 have HQ:=hid hq
 have BV:Hid (∀w,Calls Tryz.prog 99 #[.agg #[.int .i64 4,.string (bs Mil.wNot),.int .i64 (p:Nat),.int .i64 0,.bool false,.int .i64 (a:Nat),.int .i64 0,.int .i64 0]] w fun e w'=>e=.returned (.int .i64 ((3:Nat):Int))∧Below w.heap.size w w'):=fun w=>binds_any ⟨4,Mil.wNot,p,0,false,a,0,0⟩ w
 have HG:Hid (Ending.returned (.string (bs (Mil.wNot++Mil.blank)++bs (Mil.brack (Mil.tight q) 3 (Mil.txt q))))=.returned (.string (bs (Mil.txt (Mil.ePre Mil.wNot q))))):=by
  show _=_
  rw [bs_add];rfl
 have hs:(bs (Mil.brack (Mil.tight q) 3 (Mil.txt q))).size≤24002:=by rw [bs_size];have:=Ref.brack_le (Mil.tight q) 3 (Mil.txt q);omega
 have n1:¬9223372036854775807 < 4+(bs (Mil.brack (Mil.tight q) 3 (Mil.txt q))).size:=by omega
 clear hq hl hs
 go_enter Tryz.func55,Tryz.ntmps55
 go_wp2_with fail
 clear c0 c1 c2 c3 c4 c5 c6 c7 d1 i1 i2
 have HP0:=hid (HP.out.below HB0.out)
 generalize hW:w.alloc (.cells #[.int .i64 ((4:Nat):Int),.string (bs Mil.wNot),.int .i64 (p:Nat),.int .i64 ((0:Nat):Int),.bool false,.int .i64 ((a:Nat):Int),.int .i64 ((0:Nat):Int),.int .i64 ((0:Nat):Int)] 195)=W at HB0 NC HP0 ⊢
 have BW:Hid (Below W.heap.size W W):=Below.refl _ _
 clear hW
 have j0:∀w',Below W.heap.size W w'→w'.cell? ⟨w.heap.size,0,none⟩=some (.int .i64 4):=fun w' h=>NC.out w' h 0
 have j1:∀w',Below W.heap.size W w'→w'.cell? ⟨w.heap.size,1,none⟩=some (.string (bs Mil.wNot)):=fun w' h=>NC.out w' h 1
 have j2:∀w',Below W.heap.size W w'→w'.cell? ⟨w.heap.size,2,none⟩=some (.int .i64 (p:Nat)):=fun w' h=>NC.out w' h 2
 have j3:∀w',Below W.heap.size W w'→w'.cell? ⟨w.heap.size,3,none⟩=some (.int .i64 0):=fun w' h=>NC.out w' h 3
 have j4:∀w',Below W.heap.size W w'→w'.cell? ⟨w.heap.size,4,none⟩=some (.bool false):=fun w' h=>NC.out w' h 4
 have j5:∀w',Below W.heap.size W w'→w'.cell? ⟨w.heap.size,5,none⟩=some (.int .i64 (a:Nat)):=fun w' h=>NC.out w' h 5
 have j6:∀w',Below W.heap.size W w'→w'.cell? ⟨w.heap.size,6,none⟩=some (.int .i64 0):=fun w' h=>NC.out w' h 6
 have j7:∀w',Below W.heap.size W w'→w'.cell? ⟨w.heap.size,7,none⟩=some (.int .i64 0):=fun w' h=>NC.out w' h 7
 have CQ:Hid (∀w',PM B g iv nv ns w'→Calls Tryz.prog 98 #[.pointer (some ⟨g,0,none⟩),.int .i64 (a:Nat),.int .i64 3] w' (TxPost (Mil.brack (Mil.tight q) 3 (Mil.txt q)) w')):=fun w' h'=>HQ.out 3 (by decide) w' h'
 go_region_held3 (fun w'=>Below W.heap.size W w') (first | assumption | exact (Below.refl _ _).drew | exact Below.alloc (by assumption) (Below.size (by assumption)) _) (first
  | (go_at_call 99;(with_reducible refine (BV.out _).mono ?_);rintro r w1 ⟨rfl,hb1⟩;have hB1:Below W.heap.size W w1:=below_step (by assumption) hb1)
  | (go_at_call 98;(with_reducible refine (CQ.out _ ?_).mono ?_);exact HP0.out.below (by assumption);rintro r w2 ⟨rfl,hb2⟩;have hB2:Below W.heap.size W w2:=below_step (by assumption) hb2))
 all_goals
  generalize bs (Mil.brack (Mil.tight q) 3 (Mil.txt q))=X at HG n1 ⊢
  go_wp2_with fail
 all_goals go_ret
 all_goals exact ⟨HG.out,below_step HB0.out (by assumption)⟩
set_option maxRecDepth 100000 in
theorem rt_minus (B g:Nat) (iv nv:Value) (ns:List Ref.Nd) (i p:Nat) (a:Nat) (q:Mil.E) (hn:ns[i]?=some ⟨4,Mil.sMinus,p,0,false,a,0,0⟩) (hl:(Mil.txt q).length≤24000) (hq:OR B g iv nv ns q a):TR B g iv nv ns (Mil.ePre Mil.sMinus q) i:=by
 intro w h
 have HP:=hid h
 have hl:=(List.getElem?_eq_some_iff.1 hn).1
 have i1:(0:Int)≤(i:Int):=by omega
 have i2:(i:Int) < (ns.length:Int):=by omega
 obtain ⟨k,cp,hv,c0,c1,c2,c3,c4,c5,c6,c7⟩:=h.node8 hn
 have d1:=h.cells.2
 rw [hv] at d1
 have HB0:=bRow w #[.int .i64 ((4:Nat):Int),.string (bs Mil.sMinus),.int .i64 (p:Nat),.int .i64 ((0:Nat):Int),.bool false,.int .i64 ((a:Nat):Int),.int .i64 ((0:Nat):Int),.int .i64 ((0:Nat):Int)] 195
 have hb0:=HB0.out
 have NC:=ncRow w #[.int .i64 ((4:Nat):Int),.string (bs Mil.sMinus),.int .i64 (p:Nat),.int .i64 ((0:Nat):Int),.bool false,.int .i64 ((a:Nat):Int),.int .i64 ((0:Nat):Int),.int .i64 ((0:Nat):Int)] 195
 clear hv h hn hl hb0
 have hnot:((bs Mil.sMinus).toList==[110,111,116])=false:=by rw [Lib.toList_data,bs_list];rfl
 have HQ:=hid hq
 have BV:Hid (∀w,Calls Tryz.prog 99 #[.agg #[.int .i64 4,.string (bs Mil.sMinus),.int .i64 (p:Nat),.int .i64 0,.bool false,.int .i64 (a:Nat),.int .i64 0,.int .i64 0]] w fun e w'=>e=.returned (.int .i64 ((7:Nat):Int))∧Below w.heap.size w w'):=fun w=>binds_any ⟨4,Mil.sMinus,p,0,false,a,0,0⟩ w
 have HG:Hid (Ending.returned (.string (bs (Mil.sMinus)++bs (Mil.brack (Mil.tight q) 7 (Mil.txt q))))=.returned (.string (bs (Mil.txt (Mil.ePre Mil.sMinus q))))):=by
  show _=_
  rw [bs_add];rfl
 have hs:(bs (Mil.brack (Mil.tight q) 7 (Mil.txt q))).size≤24002:=by rw [bs_size];have:=Ref.brack_le (Mil.tight q) 7 (Mil.txt q);omega
 have n1:¬9223372036854775807 < 1+(bs (Mil.brack (Mil.tight q) 7 (Mil.txt q))).size:=by omega
 clear hq hl hs
 go_enter Tryz.func55,Tryz.ntmps55
 go_wp2_with fail
 clear c0 c1 c2 c3 c4 c5 c6 c7 d1 i1 i2
 have HP0:=hid (HP.out.below HB0.out)
 generalize hW:w.alloc (.cells #[.int .i64 ((4:Nat):Int),.string (bs Mil.sMinus),.int .i64 (p:Nat),.int .i64 ((0:Nat):Int),.bool false,.int .i64 ((a:Nat):Int),.int .i64 ((0:Nat):Int),.int .i64 ((0:Nat):Int)] 195)=W at HB0 NC HP0 ⊢
 have BW:Hid (Below W.heap.size W W):=Below.refl _ _
 clear hW
 have j0:∀w',Below W.heap.size W w'→w'.cell? ⟨w.heap.size,0,none⟩=some (.int .i64 4):=fun w' h=>NC.out w' h 0
 have j1:∀w',Below W.heap.size W w'→w'.cell? ⟨w.heap.size,1,none⟩=some (.string (bs Mil.sMinus)):=fun w' h=>NC.out w' h 1
 have j2:∀w',Below W.heap.size W w'→w'.cell? ⟨w.heap.size,2,none⟩=some (.int .i64 (p:Nat)):=fun w' h=>NC.out w' h 2
 have j3:∀w',Below W.heap.size W w'→w'.cell? ⟨w.heap.size,3,none⟩=some (.int .i64 0):=fun w' h=>NC.out w' h 3
 have j4:∀w',Below W.heap.size W w'→w'.cell? ⟨w.heap.size,4,none⟩=some (.bool false):=fun w' h=>NC.out w' h 4
 have j5:∀w',Below W.heap.size W w'→w'.cell? ⟨w.heap.size,5,none⟩=some (.int .i64 (a:Nat)):=fun w' h=>NC.out w' h 5
 have j6:∀w',Below W.heap.size W w'→w'.cell? ⟨w.heap.size,6,none⟩=some (.int .i64 0):=fun w' h=>NC.out w' h 6
 have j7:∀w',Below W.heap.size W w'→w'.cell? ⟨w.heap.size,7,none⟩=some (.int .i64 0):=fun w' h=>NC.out w' h 7
 have CQ:Hid (∀w',PM B g iv nv ns w'→Calls Tryz.prog 98 #[.pointer (some ⟨g,0,none⟩),.int .i64 (a:Nat),.int .i64 7] w' (TxPost (Mil.brack (Mil.tight q) 7 (Mil.txt q)) w')):=fun w' h'=>HQ.out 7 (by decide) w' h'
 go_region_held3 (fun w'=>Below W.heap.size W w') (first | assumption | exact (Below.refl _ _).drew | exact Below.alloc (by assumption) (Below.size (by assumption)) _) (first
  | (go_at_call 99;(with_reducible refine (BV.out _).mono ?_);rintro r w1 ⟨rfl,hb1⟩;have hB1:Below W.heap.size W w1:=below_step (by assumption) hb1)
  | (go_at_call 98;(with_reducible refine (CQ.out _ ?_).mono ?_);exact HP0.out.below (by assumption);rintro r w2 ⟨rfl,hb2⟩;have hB2:Below W.heap.size W w2:=below_step (by assumption) hb2))
 all_goals
  generalize bs (Mil.brack (Mil.tight q) 7 (Mil.txt q))=X at HG n1 ⊢
  go_wp2_with fail
 all_goals go_ret
 all_goals exact ⟨HG.out,below_step HB0.out (by assumption)⟩
set_option maxRecDepth 100000 in
theorem rt_if (B g:Nat) (iv nv:Value) (ns:List Ref.Nd) (i p:Nat) (a b c:Nat) (q r u:Mil.E) (hn:ns[i]?=some ⟨6,Mil.wIf,p,0,false,a,b,c⟩) (ha:(Mil.txt q).length≤24000) (ta:TR B g iv nv ns q a) (hb:(Mil.txt r).length≤24000) (tb:TR B g iv nv ns r b) (hc:(Mil.txt u).length≤24000) (tc:TR B g iv nv ns u c):TR B g iv nv ns (Mil.eIf q r u) i:=by
 intro w h
 have HP:=hid h
 have hl:=(List.getElem?_eq_some_iff.1 hn).1
 have i1:(0:Int)≤(i:Int):=by omega
 have i2:(i:Int) < (ns.length:Int):=by omega
 obtain ⟨k,cp,hv,c0,c1,c2,c3,c4,c5,c6,c7⟩:=h.node8 hn
 have d1:=h.cells.2
 rw [hv] at d1
 have HB0:=bRow w #[.int .i64 ((6:Nat):Int),.string (bs Mil.wIf),.int .i64 (p:Nat),.int .i64 ((0:Nat):Int),.bool false,.int .i64 ((a:Nat):Int),.int .i64 ((b:Nat):Int),.int .i64 ((c:Nat):Int)] 195
 have hb0:=HB0.out
 have NC:=ncRow w #[.int .i64 ((6:Nat):Int),.string (bs Mil.wIf),.int .i64 (p:Nat),.int .i64 ((0:Nat):Int),.bool false,.int .i64 ((a:Nat):Int),.int .i64 ((b:Nat):Int),.int .i64 ((c:Nat):Int)] 195
 clear hv h hn hl hb0
 have Ta:=hid ta
 clear ta
 have Tb:=hid tb
 clear tb
 have Tc:=hid tc
 clear tc
 have sa:(bs (Mil.txt q)).size≤24000:=by rw [bs_size];exact ha
 have sb:(bs (Mil.txt r)).size≤24000:=by rw [bs_size];exact hb
 have sc:(bs (Mil.txt u)).size≤24000:=by rw [bs_size];exact hc
 have HG:Hid (Ending.returned (.string (bs (Mil.wIf++Mil.blank)++bs (Mil.txt q)++bs (Mil.blank++Mil.wThen++Mil.blank)++bs (Mil.txt r)++bs (Mil.blank++Mil.wElse++Mil.blank)++bs (Mil.txt u)))=.returned (.string (bs (Mil.txt (Mil.eIf q r u))))):=by
  show _=_
  rw [bs_add,bs_add,bs_add,bs_add,bs_add];show Ending.returned (.string (bs _))=.returned (.string (bs (Mil.wIf++Mil.blank++Mil.txt q++Mil.blank++(Mil.wThen++Mil.blank++Mil.txt r++Mil.blank++Mil.wElse++Mil.blank++Mil.txt u))));simp only [List.append_assoc]
 have n1:¬9223372036854775807 < 3+(bs (Mil.txt q)).size:=by omega
 have n2:¬9223372036854775807 < 3+(bs (Mil.txt q)).size+6:=by omega
 have n3:¬9223372036854775807 < 3+(bs (Mil.txt q)).size+6+(bs (Mil.txt r)).size:=by omega
 have n4:¬9223372036854775807 < 3+(bs (Mil.txt q)).size+6+(bs (Mil.txt r)).size+6:=by omega
 have n5:¬9223372036854775807 < 3+(bs (Mil.txt q)).size+6+(bs (Mil.txt r)).size+6+(bs (Mil.txt u)).size:=by omega
 clear sa sb sc
 go_enter Tryz.func55,Tryz.ntmps55
 go_wp2_with fail
 clear c0 c1 c2 c3 c4 c5 c6 c7 d1 i1 i2
 have HP0:=hid (HP.out.below HB0.out)
 generalize hW:w.alloc (.cells #[.int .i64 ((6:Nat):Int),.string (bs Mil.wIf),.int .i64 (p:Nat),.int .i64 ((0:Nat):Int),.bool false,.int .i64 ((a:Nat):Int),.int .i64 ((b:Nat):Int),.int .i64 ((c:Nat):Int)] 195)=W at HB0 NC HP0 ⊢
 have BW:Hid (Below W.heap.size W W):=Below.refl _ _
 clear hW
 refine (Ta.out _ (HP0.out.below BW.out)).mono ?_
 rintro r w1 ⟨rfl,hb⟩
 have Bw1:=hid (below_step BW.out hb)
 clear hb
 have f6:w1.cell? ⟨w.heap.size,6,none⟩=some (.int .i64 (b:Nat)):=NC.out w1 Bw1.out 6
 go_wp2_with fail
 clear f6
 refine (Tb.out _ (HP0.out.below Bw1.out)).mono ?_
 rintro r w2 ⟨rfl,hb⟩
 have Bw2:=hid (below_step Bw1.out hb)
 clear hb
 have f7:w2.cell? ⟨w.heap.size,7,none⟩=some (.int .i64 (c:Nat)):=NC.out w2 Bw2.out 7
 go_wp2_with fail
 clear f7
 refine (Tc.out _ (HP0.out.below Bw2.out)).mono ?_
 rintro r w3 ⟨rfl,hb⟩
 have Bw3:=hid (below_step Bw2.out hb)
 clear hb
 generalize hXa:bs (Mil.txt q)=Xa at HG n1 n2 n3 n4 n5 ⊢
 clear hXa
 generalize hXb:bs (Mil.txt r)=Xb at HG n1 n2 n3 n4 n5 ⊢
 clear hXb
 generalize hXc:bs (Mil.txt u)=Xc at HG n1 n2 n3 n4 n5 ⊢
 clear hXc
 go_wp2_with fail
 all_goals go_ret
 exact ⟨HG.out,below_step HB0.out Bw3.out⟩
set_option maxRecDepth 100000 in
theorem rt_fby (B g:Nat) (iv nv:Value) (ns:List Ref.Nd) (i p:Nat) (a b:Nat) (q r:Mil.E) (hn:ns[i]?=some ⟨7,Mil.wFby,p,0,false,a,b,0⟩) (ha:(Mil.txt q).length≤24000) (ta:TR B g iv nv ns q a) (hb:(Mil.txt r).length≤24000) (tb:TR B g iv nv ns r b):TR B g iv nv ns (Mil.eFby q r) i:=by
 intro w h
 have HP:=hid h
 have hl:=(List.getElem?_eq_some_iff.1 hn).1
 have i1:(0:Int)≤(i:Int):=by omega
 have i2:(i:Int) < (ns.length:Int):=by omega
 obtain ⟨k,cp,hv,c0,c1,c2,c3,c4,c5,c6,c7⟩:=h.node8 hn
 have d1:=h.cells.2
 rw [hv] at d1
 have HB0:=bRow w #[.int .i64 ((7:Nat):Int),.string (bs Mil.wFby),.int .i64 (p:Nat),.int .i64 ((0:Nat):Int),.bool false,.int .i64 ((a:Nat):Int),.int .i64 ((b:Nat):Int),.int .i64 ((0:Nat):Int)] 195
 have hb0:=HB0.out
 have NC:=ncRow w #[.int .i64 ((7:Nat):Int),.string (bs Mil.wFby),.int .i64 (p:Nat),.int .i64 ((0:Nat):Int),.bool false,.int .i64 ((a:Nat):Int),.int .i64 ((b:Nat):Int),.int .i64 ((0:Nat):Int)] 195
 clear hv h hn hl hb0
 have Ta:=hid ta
 clear ta
 have Tb:=hid tb
 clear tb
 have sa:(bs (Mil.txt q)).size≤24000:=by rw [bs_size];exact ha
 have sb:(bs (Mil.txt r)).size≤24000:=by rw [bs_size];exact hb
 have HG:Hid (Ending.returned (.string (bs (Mil.wFby++Mil.sOpen)++bs (Mil.txt q)++bs (Mil.commaB)++bs (Mil.txt r)++bs (Mil.sShut)))=.returned (.string (bs (Mil.txt (Mil.eFby q r))))):=by
  show _=_
  rw [bs_add,bs_add,bs_add,bs_add];rfl
 have n1:¬9223372036854775807 < 4+(bs (Mil.txt q)).size:=by omega
 have n2:¬9223372036854775807 < 4+(bs (Mil.txt q)).size+2:=by omega
 have n3:¬9223372036854775807 < 4+(bs (Mil.txt q)).size+2+(bs (Mil.txt r)).size:=by omega
 have n4:¬9223372036854775807 < 4+(bs (Mil.txt q)).size+2+(bs (Mil.txt r)).size+1:=by omega
 clear sa sb
 go_enter Tryz.func55,Tryz.ntmps55
 go_wp2_with fail
 clear c0 c1 c2 c3 c4 c5 c6 c7 d1 i1 i2
 have HP0:=hid (HP.out.below HB0.out)
 generalize hW:w.alloc (.cells #[.int .i64 ((7:Nat):Int),.string (bs Mil.wFby),.int .i64 (p:Nat),.int .i64 ((0:Nat):Int),.bool false,.int .i64 ((a:Nat):Int),.int .i64 ((b:Nat):Int),.int .i64 ((0:Nat):Int)] 195)=W at HB0 NC HP0 ⊢
 have BW:Hid (Below W.heap.size W W):=Below.refl _ _
 clear hW
 refine (Ta.out _ (HP0.out.below BW.out)).mono ?_
 rintro r w1 ⟨rfl,hb⟩
 have Bw1:=hid (below_step BW.out hb)
 clear hb
 have f6:w1.cell? ⟨w.heap.size,6,none⟩=some (.int .i64 (b:Nat)):=NC.out w1 Bw1.out 6
 go_wp2_with fail
 clear f6
 refine (Tb.out _ (HP0.out.below Bw1.out)).mono ?_
 rintro r w2 ⟨rfl,hb⟩
 have Bw2:=hid (below_step Bw1.out hb)
 clear hb
 generalize hXa:bs (Mil.txt q)=Xa at HG n1 n2 n3 n4 ⊢
 clear hXa
 generalize hXb:bs (Mil.txt r)=Xb at HG n1 n2 n3 n4 ⊢
 clear hXb
 go_wp2_with fail
 all_goals go_ret
 exact ⟨HG.out,below_step HB0.out Bw2.out⟩
set_option maxRecDepth 100000 in
theorem rt_under (B g:Nat) (iv nv:Value) (ns:List Ref.Nd) (i p:Nat) (v a:Nat) (q:Mil.E) (hn:ns[i]?=some ⟨8,Mil.wUnder,p,v,false,a,0,0⟩) (hv:v≤9223372036854775807) (ha:(Mil.txt q).length≤24000) (ta:TR B g iv nv ns q a):TR B g iv nv ns (Mil.eUnder q v) i:=by
 intro w h
 have HP:=hid h
 have hl:=(List.getElem?_eq_some_iff.1 hn).1
 have i1:(0:Int)≤(i:Int):=by omega
 have i2:(i:Int) < (ns.length:Int):=by omega
 obtain ⟨k,cp,hv,c0,c1,c2,c3,c4,c5,c6,c7⟩:=h.node8 hn
 have d1:=h.cells.2
 rw [hv] at d1
 have HB0:=bRow w #[.int .i64 ((8:Nat):Int),.string (bs Mil.wUnder),.int .i64 (p:Nat),.int .i64 ((v:Nat):Int),.bool false,.int .i64 ((a:Nat):Int),.int .i64 ((0:Nat):Int),.int .i64 ((0:Nat):Int)] 195
 have hb0:=HB0.out
 have NC:=ncRow w #[.int .i64 ((8:Nat):Int),.string (bs Mil.wUnder),.int .i64 (p:Nat),.int .i64 ((v:Nat):Int),.bool false,.int .i64 ((a:Nat):Int),.int .i64 ((0:Nat):Int),.int .i64 ((0:Nat):Int)] 195
 clear hv h hn hl hb0
 have DV:Hid (∀w,Calls Tryz.prog 53 #[.int .i64 (v:Nat)] w (TxPost (Lib.decDigits v) w)):=fun w=>rdigits_any v hv w
 have Ta:=hid ta
 clear ta
 have sa:(bs (Mil.txt q)).size≤24000:=by rw [bs_size];exact ha
 have sv:(bs (Lib.decDigits v)).size≤20:=by rw [bs_size];exact Mil.digits_len (by unfold Mil.maxInt;omega)
 have HG:Hid (Ending.returned (.string (bs (Mil.wUnder++Mil.sOpen)++bs (Mil.txt q)++bs (Mil.commaB)++bs (Lib.decDigits v)++bs (Mil.sShut)))=.returned (.string (bs (Mil.txt (Mil.eUnder q v))))):=by
  show _=_
  rw [bs_add,bs_add,bs_add,bs_add];rfl
 have n1:¬9223372036854775807 < 6+(bs (Mil.txt q)).size:=by omega
 have n2:¬9223372036854775807 < 6+(bs (Mil.txt q)).size+2:=by omega
 have n3:¬9223372036854775807 < 6+(bs (Mil.txt q)).size+2+(bs (Lib.decDigits v)).size:=by omega
 have n4:¬9223372036854775807 < 6+(bs (Mil.txt q)).size+2+(bs (Lib.decDigits v)).size+1:=by omega
 clear sa sv
 go_enter Tryz.func55,Tryz.ntmps55
 go_wp2_with fail
 clear c0 c1 c2 c3 c4 c5 c6 c7 d1 i1 i2
 have HP0:=hid (HP.out.below HB0.out)
 generalize hW:w.alloc (.cells #[.int .i64 ((8:Nat):Int),.string (bs Mil.wUnder),.int .i64 (p:Nat),.int .i64 ((v:Nat):Int),.bool false,.int .i64 ((a:Nat):Int),.int .i64 ((0:Nat):Int),.int .i64 ((0:Nat):Int)] 195)=W at HB0 NC HP0 ⊢
 have BW:Hid (Below W.heap.size W W):=Below.refl _ _
 clear hW
 refine (Ta.out _ (HP0.out.below BW.out)).mono ?_
 rintro r w1 ⟨rfl,hb⟩
 have Bw1:=hid (below_step BW.out hb)
 clear hb
 have f3:w1.cell? ⟨w.heap.size,3,none⟩=some (.int .i64 (v:Nat)):=NC.out w1 Bw1.out 3
 go_wp2_with fail
 clear f3
 refine (DV.out _).mono ?_
 rintro r w2 ⟨rfl,hb⟩
 have Bw2:=hid (below_step Bw1.out hb)
 clear hb
 generalize hXa:bs (Mil.txt q)=Xa at HG n1 n2 n3 n4 ⊢
 clear hXa
 generalize hXv:bs (Lib.decDigits v)=Xv at HG n1 n2 n3 n4 ⊢
 clear hXv
 go_wp2_with fail
 all_goals go_ret
 exact ⟨HG.out,below_step HB0.out Bw2.out⟩
set_option maxRecDepth 100000 in
theorem rt_hold (B g:Nat) (iv nv:Value) (ns:List Ref.Nd) (i p:Nat) (v a b:Nat) (q r:Mil.E) (hn:ns[i]?=some ⟨9,Mil.wHold,p,v,false,a,b,0⟩) (hv:v≤9223372036854775807) (ha:(Mil.txt q).length≤24000) (ta:TR B g iv nv ns q a) (hb:(Mil.txt r).length≤24000) (tb:TR B g iv nv ns r b):TR B g iv nv ns (Mil.eHold q r v) i:=by
 intro w h
 have HP:=hid h
 have hl:=(List.getElem?_eq_some_iff.1 hn).1
 have i1:(0:Int)≤(i:Int):=by omega
 have i2:(i:Int) < (ns.length:Int):=by omega
 obtain ⟨k,cp,hv,c0,c1,c2,c3,c4,c5,c6,c7⟩:=h.node8 hn
 have d1:=h.cells.2
 rw [hv] at d1
 have HB0:=bRow w #[.int .i64 ((9:Nat):Int),.string (bs Mil.wHold),.int .i64 (p:Nat),.int .i64 ((v:Nat):Int),.bool false,.int .i64 ((a:Nat):Int),.int .i64 ((b:Nat):Int),.int .i64 ((0:Nat):Int)] 195
 have hb0:=HB0.out
 have NC:=ncRow w #[.int .i64 ((9:Nat):Int),.string (bs Mil.wHold),.int .i64 (p:Nat),.int .i64 ((v:Nat):Int),.bool false,.int .i64 ((a:Nat):Int),.int .i64 ((b:Nat):Int),.int .i64 ((0:Nat):Int)] 195
 clear hv h hn hl hb0
 have DV:Hid (∀w,Calls Tryz.prog 53 #[.int .i64 (v:Nat)] w (TxPost (Lib.decDigits v) w)):=fun w=>rdigits_any v hv w
 have Ta:=hid ta
 clear ta
 have Tb:=hid tb
 clear tb
 have sa:(bs (Mil.txt q)).size≤24000:=by rw [bs_size];exact ha
 have sb:(bs (Mil.txt r)).size≤24000:=by rw [bs_size];exact hb
 have sv:(bs (Lib.decDigits v)).size≤20:=by rw [bs_size];exact Mil.digits_len (by unfold Mil.maxInt;omega)
 have HG:Hid (Ending.returned (.string (bs (Mil.wHold++Mil.sOpen)++bs (Mil.txt q)++bs (Mil.commaB)++bs (Mil.txt r)++bs (Mil.commaB)++bs (Lib.decDigits v)++bs (Mil.sShut)))=.returned (.string (bs (Mil.txt (Mil.eHold q r v))))):=by
  show _=_
  rw [bs_add,bs_add,bs_add,bs_add,bs_add,bs_add];rfl
 have n1:¬9223372036854775807 < 5+(bs (Mil.txt q)).size:=by omega
 have n2:¬9223372036854775807 < 5+(bs (Mil.txt q)).size+2:=by omega
 have n3:¬9223372036854775807 < 5+(bs (Mil.txt q)).size+2+(bs (Mil.txt r)).size:=by omega
 have n4:¬9223372036854775807 < 5+(bs (Mil.txt q)).size+2+(bs (Mil.txt r)).size+2:=by omega
 have n5:¬9223372036854775807 < 5+(bs (Mil.txt q)).size+2+(bs (Mil.txt r)).size+2+(bs (Lib.decDigits v)).size:=by omega
 have n6:¬9223372036854775807 < 5+(bs (Mil.txt q)).size+2+(bs (Mil.txt r)).size+2+(bs (Lib.decDigits v)).size+1:=by omega
 clear sa sb sv
 go_enter Tryz.func55,Tryz.ntmps55
 go_wp2_with fail
 clear c0 c1 c2 c3 c4 c5 c6 c7 d1 i1 i2
 have HP0:=hid (HP.out.below HB0.out)
 generalize hW:w.alloc (.cells #[.int .i64 ((9:Nat):Int),.string (bs Mil.wHold),.int .i64 (p:Nat),.int .i64 ((v:Nat):Int),.bool false,.int .i64 ((a:Nat):Int),.int .i64 ((b:Nat):Int),.int .i64 ((0:Nat):Int)] 195)=W at HB0 NC HP0 ⊢
 have BW:Hid (Below W.heap.size W W):=Below.refl _ _
 clear hW
 refine (Ta.out _ (HP0.out.below BW.out)).mono ?_
 rintro r w1 ⟨rfl,hb⟩
 have Bw1:=hid (below_step BW.out hb)
 clear hb
 have f6:w1.cell? ⟨w.heap.size,6,none⟩=some (.int .i64 (b:Nat)):=NC.out w1 Bw1.out 6
 go_wp2_with fail
 clear f6
 refine (Tb.out _ (HP0.out.below Bw1.out)).mono ?_
 rintro r w2 ⟨rfl,hb⟩
 have Bw2:=hid (below_step Bw1.out hb)
 clear hb
 have f3:w2.cell? ⟨w.heap.size,3,none⟩=some (.int .i64 (v:Nat)):=NC.out w2 Bw2.out 3
 go_wp2_with fail
 clear f3
 refine (DV.out _).mono ?_
 rintro r w3 ⟨rfl,hb⟩
 have Bw3:=hid (below_step Bw2.out hb)
 clear hb
 generalize hXa:bs (Mil.txt q)=Xa at HG n1 n2 n3 n4 n5 n6 ⊢
 clear hXa
 generalize hXb:bs (Mil.txt r)=Xb at HG n1 n2 n3 n4 n5 n6 ⊢
 clear hXb
 generalize hXv:bs (Lib.decDigits v)=Xv at HG n1 n2 n3 n4 n5 n6 ⊢
 clear hXv
 go_wp2_with fail
 all_goals go_ret
 exact ⟨HG.out,below_step HB0.out Bw3.out⟩
set_option maxRecDepth 100000 in
theorem rt_least (B g:Nat) (iv nv:Value) (ns:List Ref.Nd) (i p:Nat) (a b:Nat) (x:Mil.Bytes) (q r:Mil.E) (hn:ns[i]?=some ⟨10,x,p,0,false,a,b,0⟩) (hx:x.length≤3) (ha:(Mil.txt q).length≤24000) (ta:TR B g iv nv ns q a) (hb:(Mil.txt r).length≤24000) (tb:TR B g iv nv ns r b):TR B g iv nv ns (Mil.eLeast x q r) i:=by
 intro w h
 have HP:=hid h
 have hl:=(List.getElem?_eq_some_iff.1 hn).1
 have i1:(0:Int)≤(i:Int):=by omega
 have i2:(i:Int) < (ns.length:Int):=by omega
 obtain ⟨k,cp,hv,c0,c1,c2,c3,c4,c5,c6,c7⟩:=h.node8 hn
 have d1:=h.cells.2
 rw [hv] at d1
 have HB0:=bRow w #[.int .i64 ((10:Nat):Int),.string (bs x),.int .i64 (p:Nat),.int .i64 ((0:Nat):Int),.bool false,.int .i64 ((a:Nat):Int),.int .i64 ((b:Nat):Int),.int .i64 ((0:Nat):Int)] 195
 have hb0:=HB0.out
 have NC:=ncRow w #[.int .i64 ((10:Nat):Int),.string (bs x),.int .i64 (p:Nat),.int .i64 ((0:Nat):Int),.bool false,.int .i64 ((a:Nat):Int),.int .i64 ((b:Nat):Int),.int .i64 ((0:Nat):Int)] 195
 clear hv h hn hl hb0
 have Ta:=hid ta
 clear ta
 have Tb:=hid tb
 clear tb
 have sx:(bs x).size≤3:=by rw [bs_size];exact hx
 have sa:(bs (Mil.txt q)).size≤24000:=by rw [bs_size];exact ha
 have sb:(bs (Mil.txt r)).size≤24000:=by rw [bs_size];exact hb
 have HG:Hid (Ending.returned (.string (bs x++bs (Mil.sOpen)++bs (Mil.txt q)++bs (Mil.commaB)++bs (Mil.txt r)++bs (Mil.sShut)))=.returned (.string (bs (Mil.txt (Mil.eLeast x q r))))):=by
  show _=_
  rw [bs_add,bs_add,bs_add,bs_add,bs_add];rfl
 have n1:¬9223372036854775807 < (bs x).size+1:=by omega
 have n2:¬9223372036854775807 < (bs x).size+1+(bs (Mil.txt q)).size:=by omega
 have n3:¬9223372036854775807 < (bs x).size+1+(bs (Mil.txt q)).size+2:=by omega
 have n4:¬9223372036854775807 < (bs x).size+1+(bs (Mil.txt q)).size+2+(bs (Mil.txt r)).size:=by omega
 have n5:¬9223372036854775807 < (bs x).size+1+(bs (Mil.txt q)).size+2+(bs (Mil.txt r)).size+1:=by omega
 clear sx sa sb
 go_enter Tryz.func55,Tryz.ntmps55
 go_wp2_with fail
 clear c0 c1 c2 c3 c4 c5 c6 c7 d1 i1 i2
 have HP0:=hid (HP.out.below HB0.out)
 generalize hW:w.alloc (.cells #[.int .i64 ((10:Nat):Int),.string (bs x),.int .i64 (p:Nat),.int .i64 ((0:Nat):Int),.bool false,.int .i64 ((a:Nat):Int),.int .i64 ((b:Nat):Int),.int .i64 ((0:Nat):Int)] 195)=W at HB0 NC HP0 ⊢
 have BW:Hid (Below W.heap.size W W):=Below.refl _ _
 clear hW
 refine (Ta.out _ (HP0.out.below BW.out)).mono ?_
 rintro r w1 ⟨rfl,hb⟩
 have Bw1:=hid (below_step BW.out hb)
 clear hb
 have f6:w1.cell? ⟨w.heap.size,6,none⟩=some (.int .i64 (b:Nat)):=NC.out w1 Bw1.out 6
 go_wp2_with fail
 clear f6
 refine (Tb.out _ (HP0.out.below Bw1.out)).mono ?_
 rintro r w2 ⟨rfl,hb⟩
 have Bw2:=hid (below_step Bw1.out hb)
 clear hb
 have f1:w2.cell? ⟨w.heap.size,1,none⟩=some (.string (bs x)):=NC.out w2 Bw2.out 1
 generalize hXa:bs (Mil.txt q)=Xa at HG n1 n2 n3 n4 n5 ⊢
 clear hXa
 generalize hXb:bs (Mil.txt r)=Xb at HG n1 n2 n3 n4 n5 ⊢
 clear hXb
 go_wp2_with fail
 all_goals go_ret
 exact ⟨HG.out,below_step HB0.out Bw2.out⟩
end
end Go.Proofs.YtoiajojadihpbaaGreatDoor
