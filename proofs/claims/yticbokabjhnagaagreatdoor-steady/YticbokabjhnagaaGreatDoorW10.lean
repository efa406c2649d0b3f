import Derived.Test.YticbokabjhnagaaGreatDoorW09
import Derived.Test.YticbokabjhnagaaGreatDoorW04
namespace Go.Proofs.YticbokabjhnagaaGreatDoor
set_option maxHeartbeats 32000000
section
open Go.RowKit
def opName (j:Nat):Mil.Bytes:=(opsTab.getD j ([],0,0,0)).1
def opBind (j:Nat):Int:=(opsTab.getD j ([],0,0,0)).2.1
def opWant (j:Nat):Int:=(opsTab.getD j ([],0,0,0)).2.2.1
def opGive (j:Nat):Int:=(opsTab.getD j ([],0,0,0)).2.2.2
theorem lt14 {i:Nat} (h:i < 14):i=0∨i=1∨i=2∨i=3∨i=4∨i=5∨i=6∨i=7∨i=8∨i=9∨i=10∨i=11∨i=12∨i=13:=by omega
theorem index_ops (j:Nat) (h:j < 14) (w:World):(Instr.index 259 (.agg opCells) (.int .i64 j)).run Tryz.prog w=.ok (.agg #[.string (bs (opName j)),.int .i64 (opBind j),.int .i64 (opWant j),.int .i64 (opGive j)]) w:=by
 rcases lt14 h with rfl | rfl | rfl | rfl | rfl | rfl | rfl | rfl | rfl | rfl | rfl | rfl | rfl | rfl <;> kernel_rfl
theorem op_tight (j:Nat) (h:j < 14):Mil.tightOf (opName j)≠9∧((Mil.tightOf (opName j):Nat):Int)=opBind j:=by
 rcases lt14 h with rfl | rfl | rfl | rfl | rfl | rfl | rfl | rfl | rfl | rfl | rfl | rfl | rfl | rfl <;> decide
theorem op_none {x:Mil.Bytes} (h:∀m,m < 14→opName m≠x):Mil.tightOf x=9:=by
 have g:∀(m:Nat) (y:Mil.Bytes),m < 14→opName m=y→x≠y:=fun m y hm e he=>h m hm (e.trans he.symm)
 unfold Mil.tightOf
 rw [if_neg,if_neg,if_neg,if_neg,if_neg]
 ·rintro (e | e | e)
  ·exact g 11 _ (by decide) rfl e
  ·exact g 12 _ (by decide) rfl e
  ·exact g 13 _ (by decide) rfl e
 ·rintro (e | e)
  ·exact g 9 _ (by decide) rfl e
  ·exact g 10 _ (by decide) rfl e
 ·rintro (e | e | e | e | e | e)
  ·exact g 3 _ (by decide) rfl e
  ·exact g 4 _ (by decide) rfl e
  ·exact g 5 _ (by decide) rfl e
  ·exact g 6 _ (by decide) rfl e
  ·exact g 7 _ (by decide) rfl e
  ·exact g 8 _ (by decide) rfl e
 ·exact fun e=>g 2 _ (by decide) rfl e
 ·rintro (e | e)
  ·exact g 0 _ (by decide) rfl e
  ·exact g 1 _ (by decide) rfl e
def tightGo (x:Mil.Bytes):Int:=if Mil.tightOf x=9 then -1 else (Mil.tightOf x:Nat)
def NewFour (w:World) (k:Nat):Prop:=w.heap[k]?=some (.cells #[.string ⟨#[]⟩,.int .i64 0,.int .i64 0,.int .i64 0] 235 (0,0))
theorem NewFour.facts {w:World} {k:Nat} (h:NewFour w k):w.cell? ⟨k,0,none⟩=some (.string ⟨#[]⟩)∧w.cell? ⟨k,1,none⟩=some (.int .i64 0)∧w.cell? ⟨k,2,none⟩=some (.int .i64 0)∧w.cell? ⟨k,3,none⟩=some (.int .i64 0) ∧
  w.frozen? ⟨k,0,none⟩=false∧w.frozen? ⟨k,1,none⟩=false∧w.frozen? ⟨k,2,none⟩=false∧w.frozen? ⟨k,3,none⟩=false:=by
 unfold NewFour at h
 refine ⟨(cell_of_row _ _ 0 _ _ _ h).trans rfl,(cell_of_row _ _ 1 _ _ _ h).trans rfl,(cell_of_row _ _ 2 _ _ _ h).trans rfl,(cell_of_row _ _ 3 _ _ _ h).trans rfl,?_,?_,?_,?_⟩
 all_goals (unfold World.frozen?;rw [h];simp)
theorem NewFour.later {w w':World} {k:Nat} (h:NewFour w k) (b:Below w.heap.size w w'):NewFour w' k:=(b.block _ (Array.getElem?_eq_some_iff.1 h).1).trans h
theorem below_four {u w:World} (h:Below u.heap.size u w) (v0 v1 v2 v3:Value):Below u.heap.size u ((((w.setCell ⟨u.heap.size,0,none⟩ v0).setCell ⟨u.heap.size,1,none⟩ v1).setCell ⟨u.heap.size,2,none⟩ v2).setCell ⟨u.heap.size,3,none⟩ v3):=
 (((h.setCell (p:=⟨u.heap.size,0,none⟩) (Nat.le_refl _) _).setCell (p:=⟨u.heap.size,1,none⟩) (Nat.le_refl _) _).setCell (p:=⟨u.heap.size,2,none⟩) (Nat.le_refl _) _).setCell (p:=⟨u.heap.size,3,none⟩) (Nat.le_refl _) _
theorem operatorOf_any (a:Nat→Addr) (x:ByteArray) (w:World) (L:Laid a w) :
  Calls Tryz.prog 129 #[.string x] w fun e w'=>(∃(u:ByteArray) (v n:Int),e=.returned (.agg #[.string u,.int .i64 (tightGo x.data.toList),.int .i64 v,.int .i64 n]))∧Below w.heap.size w w':=by
 obtain ⟨tq,ho⟩:=L.ops
 have hix:=fun (j:Nat) (h:j < 14) (w:World)=>index_ops j h w
 have HB0:Hid (Below w.heap.size w (w.alloc (.cells #[.string ⟨#[]⟩,.int .i64 0,.int .i64 0,.int .i64 0] 235))):=(Below.refl _ _).alloc (Nat.le_refl _) _
 have HN0:Hid (NewFour (w.alloc (.cells #[.string ⟨#[]⟩,.int .i64 0,.int .i64 0,.int .i64 0] 235)) w.heap.size):=heap_alloc_new w _
 have ho':(w.alloc (.cells #[.string ⟨#[]⟩,.int .i64 0,.int .i64 0,.int .i64 0] 235)).heap[17]?=some (.cells opCells tq (0,0)):=(HB0.out.block _ (Array.getElem?_eq_some_iff.1 ho).1).trans ho
 clear L ho
 go_enter Tryz.func129,Tryz.ntmps129
 go_wp2_with (refine wpList_load_row rfl 259 _ rfl 17 rfl tq _ (0,0) _ ho' Tryz.underlying259 rfl (by kernel_rfl) ?_)
 clear ho'
 go_loopg [6] 14 (fun g s6 wr=>∃j:Nat,j≤14∧s6=.int .i64 j∧g=14 - j∧Hid (Below w.heap.size w wr)∧Hid (NewFour wr w.heap.size)∧Hid (∀m,m < j→opName m≠x.data.toList))
 case atStart=>exact ⟨0,by decide,rfl,rfl,HB0,HN0,fun m hm=>by omega⟩
 case round=>
  obtain ⟨j,hj,rfl,hg,HB,HN,HW⟩:=hrel
  have HG:Hid (gk=14 - j):=hg
  clear hg
  by_cases hlt:j < 14
  ·have hi:=hix j hlt
   by_cases heq:opName j=x.data.toList
   ·have hbq:((bs (opName j)).toList==x.toList)=true:=by rw [Lib.toList_data,Lib.toList_data,bs_list,heq];simp
    have HE:Hid (opName j=x.data.toList):=heq
    clear heq
    have HN':Hid (NewFour (wr.alloc (.cells #[.string (bs (opName j)),.int .i64 (opBind j),.int .i64 (opWant j),.int .i64 (opGive j)] 235)) w.heap.size):=HN.out.later ((Below.refl _ _).alloc (Nat.le_refl _) _)
    obtain ⟨r0,r1,r2,r3,z0,z1,z2,z3⟩:=HN'.out.facts
    go_wp2
    have q0:=other_cell (v:=.int .i64 (opGive j)) (other_cell (v:=.int .i64 (opWant j)) (other_cell (v:=.int .i64 (opBind j)) (same_cell (v:=.string (bs (opName j))) r0) (by decide:1≠0)) (by decide:2≠0)) (by decide:3≠0)
    have q1:=other_cell (v:=.int .i64 (opGive j)) (other_cell (v:=.int .i64 (opWant j)) (same_cell (v:=.int .i64 (opBind j)) (other_cell (v:=.string (bs (opName j))) r1 (by decide:0≠1))) (by decide:2≠1)) (by decide:3≠1)
    have q2:=other_cell (v:=.int .i64 (opGive j)) (same_cell (v:=.int .i64 (opWant j)) (other_cell (v:=.int .i64 (opBind j)) (other_cell (v:=.string (bs (opName j))) r2 (by decide:0≠2)) (by decide:1≠2))) (by decide:3≠2)
    have q3:=same_cell (v:=.int .i64 (opGive j)) (other_cell (v:=.int .i64 (opWant j)) (other_cell (v:=.int .i64 (opBind j)) (other_cell (v:=.string (bs (opName j))) r3 (by decide:0≠3)) (by decide:1≠3)) (by decide:2≠3))
    refine bodyPost_ret (v:=.agg #[.string (bs (opName j)),.int .i64 (opBind j),.int .i64 (opWant j),.int .i64 (opGive j)]) (by simp [results,Tryz.results129,go_sem,q0,q1,q2,q3]) rfl ⟨⟨bs (opName j),opWant j,opGive j,?_⟩,below_four (HB.out.alloc HB.out.size _) _ _ _ _⟩
    have:=op_tight j hlt
    rw [←HE.out,tightGo,if_neg this.1,this.2]
   ·have hbq:((bs (opName j)).toList==x.toList)=false:=by rw [Lib.toList_data,Lib.toList_data,bs_list];simpa using heq
    have HE:Hid (opName j≠x.data.toList):=heq
    clear heq
    go_wp2
    go_roundg (14 - (j+1))
    case measure=>have:=HG.out;omega
    case rel=>
     refine ⟨j+1,by omega,by go_num,rfl,HB.out.alloc HB.out.size _,?_,?_⟩
     ·exact HN.out.later ((Below.refl _ _).alloc (Nat.le_refl _) _)
     intro m hm
     rcases Nat.lt_or_ge m j with h | h
     ·exact HW.out m h
     ·have:m=j:=by omega
      rw [this];exact HE.out
  ·obtain ⟨r0,r1,r2,r3,z0,z1,z2,z3⟩:=HN.out.facts
   go_wp2
   have q0:=other_cell (v:=.int .i64 0) (other_cell (v:=.int .i64 0) (other_cell (v:=.int .i64 (-1)) (same_cell (v:=.string ⟨#[]⟩) r0) (by decide:1≠0)) (by decide:2≠0)) (by decide:3≠0)
   have q1:=other_cell (v:=.int .i64 0) (other_cell (v:=.int .i64 0) (same_cell (v:=.int .i64 (-1)) (other_cell (v:=.string ⟨#[]⟩) r1 (by decide:0≠1))) (by decide:2≠1)) (by decide:3≠1)
   have q2:=other_cell (v:=.int .i64 0) (same_cell (v:=.int .i64 0) (other_cell (v:=.int .i64 (-1)) (other_cell (v:=.string ⟨#[]⟩) r2 (by decide:0≠2)) (by decide:1≠2))) (by decide:3≠2)
   have q3:=same_cell (v:=.int .i64 0) (other_cell (v:=.int .i64 0) (other_cell (v:=.int .i64 (-1)) (other_cell (v:=.string ⟨#[]⟩) r3 (by decide:0≠3)) (by decide:1≠3)) (by decide:2≠3))
   refine bodyPost_ret (v:=.agg #[.string ⟨#[]⟩,.int .i64 (-1),.int .i64 0,.int .i64 0]) (by simp [results,Tryz.results129,go_sem,q0,q1,q2,q3]) rfl ⟨⟨⟨#[]⟩,0,0,?_⟩,below_four HB.out _ _ _ _⟩
   have:=op_none (x:=x.data.toList) (fun m hm=>HW.out m (by omega))
   rw [tightGo,if_pos this]
theorem seesOperator_any (a:Nat→Addr) (b:Nat) (s:ByteArray) (st:Mil.St) (l:Nat) (h1:1≤l) (h8:l≤8) (w:World) (L:Laid a w) (h:RdS w b s st) :
  Calls Tryz.prog 168 #[.pointer (some ⟨b,0,none⟩),.int .i64 l] w fun e w'=>e=.returned (.bool (decide (Mil.opAt st=l)))∧Below w.heap.size w w':=by
 have HL:Hid (Laid a w):=L
 obtain ⟨p,tp,x,hp,hR,hr,hx,hn⟩:=h
 have c3:=hR.c3
 have c5:=hR.c5
 have HX:Hid (x.data.toList=st.tok.txt):=hx
 clear hR hr hx L
 by_cases h3:st.tok.kind=3
 ·have hb:(((st.tok.kind:Nat):Int)==3)=true:=by simp;omega
  have HO:Hid (Mil.opAt st=Mil.tightOf st.tok.txt):=by unfold Mil.opAt;rw [if_pos h3];rfl
  clear h3
  go_enter Tryz.func168,Tryz.ntmps168
  go_wp2_with fail
  refine (operatorOf_any a x w HL.out).mono ?_
  rintro e w1 ⟨⟨u,v,n,rfl⟩,hb1⟩
  have HB1:Hid (Below w.heap.size w w1):=hb1
  clear hb1 c3 c5
  generalize hq:tightGo x.data.toList=q
  have HQ:Hid (tightGo x.data.toList=q):=hq
  clear hq
  have hfd:∀w:World,(Instr.field 235 (.agg #[.string u,.int .i64 q,.int .i64 v,.int .i64 n]) 1).run Tryz.prog w=.ok (.int .i64 q) w:=fun w=>by kernel_rfl
  go_wp2
  go_ret
  refine ⟨ret_bool ?_,HB1.out⟩
  rw [←HQ.out,HO.out,HX.out,tightGo,Bool.eq_iff_iff]
  by_cases h9:Mil.tightOf st.tok.txt=9
  ·rw [if_pos h9];simp;omega
  ·rw [if_neg h9];simp;omega
 ·have hb:(((st.tok.kind:Nat):Int)==3)=false:=by simp;omega
  have HO:Hid (Mil.opAt st=9):=by unfold Mil.opAt;rw [if_neg h3];rfl
  clear h3
  go_enter Tryz.func168,Tryz.ntmps168
  go_wp2
  go_ret
  refine ⟨ret_bool ?_,Below.refl _ _⟩
  rw [HO.out];symm;rw [decide_eq_false_iff_not];omega
def tyAt (j:Nat):Mil.Bytes:=[Mil.wInt,Mil.wBool].getD j []
theorem lt2 {j:Nat} (h:j < 2):j=0∨j=1:=by omega
theorem index_types (j:Nat) (h:j < 2) (w:World):(Instr.index 256 (.agg (strCells [Mil.wInt,Mil.wBool])) (.int .i64 j)).run Tryz.prog w=.ok (.string (bs (tyAt j))) w:=by
 rcases lt2 h with rfl | rfl <;> kernel_rfl
theorem ftype_at {st:Mil.St} (j:Nat) (hj:j < 2) (hy:Mil.sees st (tyAt j)=true) (hn:∀m,m < j→Mil.sees st (tyAt m)=false):Mil.ftype st=(Mil.adv st).map fun s1=>(j,s1):=by
 rcases lt2 hj with rfl | rfl
 ·unfold Mil.ftype
  rw [if_pos (show Mil.sees st Mil.wInt=true from hy)]
 ·unfold Mil.ftype
  have h0:Mil.sees st Mil.wInt=false:=hn 0 (by decide)
  rw [h0,if_neg (by decide),if_pos (show Mil.sees st Mil.wBool=true from hy)]
theorem ftypeZ_at (N:Nat) {st:Mil.St} (j:Nat) (hj:j < 2) (hy:Mil.sees st (tyAt j)=true) (hn:∀m,m < j→Mil.sees st (tyAt m)=false):Mil.ftypeZ N st=(Mil.advZ N st).map fun s1=>(j,s1):=by
 rcases lt2 hj with rfl | rfl
 ·unfold Mil.ftypeZ
  rw [if_pos (show Mil.sees st Mil.wInt=true from hy)]
 ·unfold Mil.ftypeZ
  have h0:Mil.sees st Mil.wInt=false:=hn 0 (by decide)
  rw [h0,if_neg (by decide),if_pos (show Mil.sees st Mil.wBool=true from hy)]
theorem ftype_none {N:Nat} {st:Mil.St} (hn:∀m,m < 2→Mil.sees st (tyAt m)=false):Mil.ftypeZ N st=.bad 3 (place N st):=by
 unfold Mil.ftypeZ
 have h0:Mil.sees st Mil.wInt=false:=hn 0 (by decide)
 have h1:Mil.sees st Mil.wBool=false:=hn 1 (by decide)
 rw [h0,h1,if_neg (by decide),if_neg (by decide)]
 rfl
theorem flowType_any (a:Nat→Addr) (b:Nat) (s:ByteArray) (st:Mil.St) (w:World) (L:Laid a w) (hb:23≤b) (h:RdS w b s st) (hs:s.size≤4000) :
  Calls Tryz.prog 125 #[.pointer (some ⟨b,0,none⟩)] w (NuPost (Mil.ftype st) (Mil.ftypeZ s.size st) a b s w):=by
 have H:Hid (RdS w b s st):=h
 have HL:Hid (Laid a w):=L
 obtain ⟨tq,ho⟩:=L.types
 have hix:=fun (j:Nat) (h:j < 2) (w:World)=>index_types j h w
 clear h L
 go_enter Tryz.func125,Tryz.ntmps125
 go_wp2_with (refine wpList_load_row rfl 256 _ rfl 16 rfl tq _ (0,0) _ ho Tryz.underlying256 rfl (by kernel_rfl) ?_)
 clear ho
 go_loopg [6] 2 (fun g s6 wr=>∃j:Nat,j≤2∧s6=.int .i64 j∧g=2 - j∧wr=w∧Hid (∀m,m < j→Mil.sees st (tyAt m)=false))
 case atStart=>exact ⟨0,by decide,rfl,rfl,rfl,fun m hm=>by omega⟩
 case round=>
  obtain ⟨j,hj,rfl,hg,rfl,HW⟩:=hrel
  have HG:Hid (gk=2 - j):=hg
  clear hg
  by_cases hlt:j < 2
  ·have hi:=hix j hlt
   by_cases heq:Mil.sees st (tyAt j)=true
   ·have HM:Hid (Mil.ftype st=(Mil.adv st).map fun s1=>(j,s1)):=ftype_at j hlt heq HW.out
    have HZ:Hid (Mil.ftypeZ s.size st=(Mil.advZ s.size st).map fun s1=>(j,s1)):=ftypeZ_at s.size j hlt heq HW.out
    have HE:Hid (Mil.sees st (bs (tyAt j)).data.toList=true):=heq
    clear heq
    go_wp2_with fail
    refine (takes_yes a b s st (bs (tyAt j)) _ HL.out hb H.out hs HE.out).mono ?_
    rintro e w1 ⟨hk,(⟨st',rfl,h1,h2⟩ | ⟨k,at_,hkk,d,rfl,hd,hno⟩)⟩
    ·go_wp2
     go_ret
     exact ⟨hk,Or.inl ⟨j,st',rfl,by rw [HM.out,h1];rfl,h2⟩⟩
    ·go_wp2
     exact ⟨rfl,hk,Or.inr ⟨k,at_,hkk,d,rfl,hd,by rw [HZ.out,hno];rfl⟩⟩
   ·have HE:Hid (Mil.sees st (bs (tyAt j)).data.toList=false):=Bool.eq_false_iff.2 heq
    clear heq
    go_wp2_with fail
    refine (takes_no b s st (bs (tyAt j)) _ H.out HE.out).mono ?_
    rintro e w1 ⟨rfl,rfl⟩
    go_wp2
    go_roundg (2 - (j+1))
    case measure=>have:=HG.out;omega
    case rel=>
     refine ⟨j+1,by omega,by go_num,rfl,rfl,?_⟩
     intro m hm
     rcases Nat.lt_or_ge m j with h | h
     ·exact HW.out m h
     ·have:m=j:=by omega
      rw [this];exact HE.out
  ·go_wp2_with fail
   refine (refused_at a b s st _ HL.out H.out).mono ?_
   rintro e w2 ⟨d,rfl,hd,hb2⟩
   go_wp2
   exact ⟨rfl,Kp.of_below hb2,Or.inr ⟨3,_,Or.inr (Or.inr (Or.inl rfl)),d,rfl,hd,ftype_none (fun m hm=>HW.out m (by omega))⟩⟩
end
section
open Go.RowKit
def ev (N:Nat):Mip.E→Value
 | .nil=>.nilIface
 | .node 1 k x _ _=>.iface 165 (.agg #[.int .i64 ((N:Int) - (x.2:Nat)),.int .i64 (k:Nat)])
 | .node 2 k x _ _=>.iface 168 (.agg #[.int .i64 ((N:Int) - (x.2:Nat)),.bool (k==1)])
 | .node 3 _ x _ _=>.iface 103 (.agg #[.int .i64 ((N:Int) - (x.2:Nat)),.string (bs x.1)])
 | .node 4 _ x a _=>.iface 172 (.agg #[.int .i64 ((N:Int) - (x.2:Nat)),.string (bs x.1),ev N a])
 | .node 5 _ x a b=>.iface 175 (.agg #[.int .i64 ((N:Int) - (x.2:Nat)),.string (bs x.1),ev N a,ev N b])
 | .node 6 _ x a (.node _ _ _ b c)=>.iface 182 (.agg #[.int .i64 ((N:Int) - (x.2:Nat)),ev N a,ev N b,ev N c])
 | .node 7 _ x a b=>.iface 185 (.agg #[.int .i64 ((N:Int) - (x.2:Nat)),ev N a,ev N b])
 | .node 8 k x a _=>.iface 188 (.agg #[.int .i64 ((N:Int) - (x.2:Nat)),ev N a,.int .i64 (k:Nat)])
 | .node 9 k x a b=>.iface 191 (.agg #[.int .i64 ((N:Int) - (x.2:Nat)),ev N a,ev N b,.int .i64 (k:Nat)])
 | .node _ _ x a b=>.iface 180 (.agg #[.int .i64 ((N:Int) - (x.2:Nat)),.string (bs x.1),ev N a,ev N b])
def ExPost (R:Mip.E→Mil.St→Prop) (F:Nat→Int→Prop) (a:Nat→Addr) (b:Nat) (s:ByteArray) (w:World) (e:Ending) (w':World):Prop:=
 Kp b w w'∧((∃x st ty y,e=.returned (.iface ty y)∧ev s.size x=.iface ty y∧R x st∧RdS w' b s st)∨Threw F a e w')
theorem digits_any (a:Nat→Addr) (b:Nat) (s:ByteArray) (st:Mil.St) (w:World) (L:Laid a w) (hb:23≤b) (h:RdS w b s st) (hs:s.size≤4000) :
  Calls Tryz.prog 185 #[.pointer (some ⟨b,0,none⟩)] w (ExPost (fun x st'=>(Mil.number 0 9223372036854775807 st).map (fun x=>(Mip.eInt (Mip.off st) x.1,x.2))=some (x,st')) (fun k p=>Mil.numberZ s.size 0 9223372036854775807 st=.bad k p) a b s w):=by
 have H:Hid (RdS w b s st):=h
 have HL:Hid (Laid a w):=L
 clear h L
 go_enter Tryz.func185,Tryz.ntmps185
 go_wp2_with fail
 refine (atomHere_any b s st _ H.out).mono ?_
 rintro e w0 ⟨rfl,hw0⟩
 have HV:Hid (Hd a b s st w (w0.alloc (.cells #[.int .i64 (place s.size st)] 101)) (place s.size st) w0.heap.size):=head_facts HL.out hb H.out hw0
 clear hw0
 go_wp2_with fail
 generalize w0.heap.size=kv at HV ⊢
 generalize w0.alloc (.cells #[.int .i64 (place s.size st)] 101)=v at HV ⊢
 clear H HL w0
 have H:Hid (RdS v b s st):=HV.out.rd
 have HL:Hid (Laid a v):=HV.out.laid
 refine region_held (fun w'=>w'.cell? ⟨kv,0,none⟩=some (.int .i64 (place s.size st))) (by kernel_rfl) HV.out.cell (fun hS=>?_)
 refine held_take 0 (v:=?_) rfl (by kernel_rfl) (by kernel_rfl) (by kernel_rfl) (fun _ _ _ h=>h) (Or.inl ⟨by rfl,?_⟩) (by assumption) ?_
 rotate_left 1
 ·(intro w' hSw;(try dsimp only at hSw);go_simp <;> with_reducible rfl)
 try simp only [Act.put,List.setIfInBounds_toArray,List.set_cons_zero,List.set_cons_succ]
 refine held_take 1 (v:=?_) rfl (by kernel_rfl) (by kernel_rfl) (by kernel_rfl) (fun _ _ _ h=>h) (Or.inl ⟨by rfl,?_⟩) (by assumption) ?_
 rotate_left 1
 ·(intro w' hSw;(try dsimp only at hSw);go_simp <;> with_reducible rfl)
 try simp only [Act.put,List.setIfInBounds_toArray,List.set_cons_zero,List.set_cons_succ]
 refine held_one 2 (by kernel_rfl) rfl (fun K hK=>?_)
 go_simp
 refine (number_any a b s st 0 9223372036854775807 (by omega) _ (HL.out.kept (Kp.refl b v).drew hb) hb (H.out.kept (Kp.refl (b+1) v).drew (by omega)) hs).mono ?_
 rintro e w1 ⟨hk,(⟨k,st',rfl,h1,h2⟩ | ⟨k,at_,hkk,d,rfl,hd,hno⟩)⟩
 ·have H1:Hid _:=h1
  have HK:Hid (Kp b v w1):=(Kp.refl b v).drew.trans hk
  have H2:Hid (RdS w1 b s st'):=h2
  clear h1 hk h2 hS
  refine hK.out _ _ (HK.out.held HV.out.cell HV.out.ne) (fun hS=>?_)
  clear hK K
  try simp only [Act.put,List.setIfInBounds_toArray,List.set_cons_zero,List.set_cons_succ]
  refine held_take 3 (v:=?_) rfl (by kernel_rfl) (by kernel_rfl) (by kernel_rfl) (fun _ _ _ h=>h) (Or.inl ⟨by rfl,?_⟩) (by assumption) ?_
  rotate_left 1
  ·(intro w' hSw;(try dsimp only at hSw);go_simp <;> with_reducible rfl)
  try simp only [Act.put,List.setIfInBounds_toArray,List.set_cons_zero,List.set_cons_succ]
  refine held_take 4 (v:=?_) rfl (by kernel_rfl) (by kernel_rfl) (by kernel_rfl) (fun _ _ _ h=>h) (Or.inl ⟨by rfl,?_⟩) (by assumption) ?_
  rotate_left 1
  ·(intro w' hSw;(try dsimp only at hSw);go_simp <;> with_reducible rfl)
  try simp only [Act.put,List.setIfInBounds_toArray,List.set_cons_zero,List.set_cons_succ]
  refine held_take 5 (v:=?_) rfl (by kernel_rfl) (by kernel_rfl) (by kernel_rfl) (fun _ _ _ h=>h) (Or.inl ⟨by rfl,?_⟩) (by assumption) ?_
  rotate_left 1
  ·(intro w' hSw;(try dsimp only at hSw);go_simp <;> with_reducible rfl)
  try simp only [Act.put,List.setIfInBounds_toArray,List.set_cons_zero,List.set_cons_succ]
  refine wpAnyH_done (by kernel_rfl) ?_ _
  clear hS
  go_wp2
  go_ret
  exact ⟨HV.out.kp.trans HK.out,Or.inl ⟨Mip.eInt (Mip.off st) k,st',_,_,rfl,by rw [place_off];rfl,by rw [H1.out];rfl,H2.out⟩⟩
 ·exact ⟨rfl,HV.out.kp.trans ((Kp.refl b v).drew.trans hk),Or.inr ⟨k,at_,hkk,d,rfl,hd,hno⟩⟩
theorem literal_any (a:Nat→Addr) (b:Nat) (s:ByteArray) (st:Mil.St) (w:World) (L:Laid a w) (hb:23≤b) (h:RdS w b s st) (hs:s.size≤4000) :
  Calls Tryz.prog 179 #[.pointer (some ⟨b,0,none⟩)] w (ExPost (fun x st'=>Mip.literal st=some (x,st')) (fun k p=>Mil.literalZ s.size st=.bad k p) a b s w):=by
 have H:Hid (RdS w b s st):=h
 have HL:Hid (Laid a w):=L
 clear h L
 by_cases hT:Mil.sees st Mil.wTrue=true
 ·have HZ:Hid (Mil.literalZ s.size st=(Mil.advZ s.size st).map fun s1=>(Mil.eBool 1,s1)):=by unfold Mil.literalZ;rw [if_pos hT];rfl
  have HM:Hid (Mip.literal st=(Mil.adv st).map fun s1=>(Mip.eBool (Mip.off st) 1,s1)):=by unfold Mip.literal;rw [if_pos hT];rfl
  have HT:Hid (Mil.sees st (bs Mil.wTrue).data.toList=true):=hT
  clear hT
  go_enter Tryz.func179,Tryz.ntmps179
  go_wp2_with fail
  refine (atomHere_any b s st _ H.out).mono ?_
  rintro e w0 ⟨rfl,hw0⟩
  have HV:Hid (Hd a b s st w (w0.alloc (.cells #[.int .i64 (place s.size st)] 101)) (place s.size st) w0.heap.size):=head_facts HL.out hb H.out hw0
  clear hw0
  go_wp2_with fail
  generalize w0.heap.size=kv at HV ⊢
  generalize w0.alloc (.cells #[.int .i64 (place s.size st)] 101)=v at HV ⊢
  clear H HL w0
  have H:Hid (RdS v b s st):=HV.out.rd
  have HL:Hid (Laid a v):=HV.out.laid
  refine (takes_yes a b s st (bs Mil.wTrue) _ HL.out hb H.out hs HT.out).mono ?_
  rintro e w1 ⟨hk,(⟨st',rfl,h1,h2⟩ | ⟨k,at_,hkk,d,rfl,hd,hno⟩)⟩
  ·have cv:w1.cell? ⟨kv,0,none⟩=some (.int .i64 (place s.size st)):=hk.held HV.out.cell HV.out.ne
   go_wp2
   go_ret
   exact ⟨HV.out.kp.trans hk,Or.inl ⟨Mip.eBool (Mip.off st) 1,st',_,_,rfl,by rw [place_off];rfl,by rw [HM.out,h1];rfl,h2⟩⟩
  ·go_wp2
   exact ⟨rfl,HV.out.kp.trans hk,Or.inr ⟨k,at_,hkk,d,rfl,hd,by rw [HZ.out,hno];rfl⟩⟩
 ·have HT:Hid (Mil.sees st (bs Mil.wTrue).data.toList=false):=Bool.eq_false_iff.2 hT
  by_cases hF:Mil.sees st Mil.wFalse=true
  ·have HZ:Hid (Mil.literalZ s.size st=(Mil.advZ s.size st).map fun s1=>(Mil.eBool 0,s1)):=by unfold Mil.literalZ;rw [if_neg hT,if_pos hF];rfl
   have HM:Hid (Mip.literal st=(Mil.adv st).map fun s1=>(Mip.eBool (Mip.off st) 0,s1)):=by unfold Mip.literal;rw [if_neg hT,if_pos hF];rfl
   have HF:Hid (Mil.sees st (bs Mil.wFalse).data.toList=true):=hF
   clear hT hF
   go_enter Tryz.func179,Tryz.ntmps179
   go_wp2_with fail
   refine (atomHere_any b s st _ H.out).mono ?_
   rintro e w0 ⟨rfl,hw0⟩
   have HV:Hid (Hd a b s st w (w0.alloc (.cells #[.int .i64 (place s.size st)] 101)) (place s.size st) w0.heap.size):=head_facts HL.out hb H.out hw0
   clear hw0
   go_wp2_with fail
   generalize w0.heap.size=kv at HV ⊢
   generalize w0.alloc (.cells #[.int .i64 (place s.size st)] 101)=v at HV ⊢
   clear H HL w0
   have H:Hid (RdS v b s st):=HV.out.rd
   have HL:Hid (Laid a v):=HV.out.laid
   refine (takes_no b s st (bs Mil.wTrue) _ H.out HT.out).mono ?_
   rintro e w1 ⟨rfl,rfl⟩
   go_wp2_with fail
   refine (takes_yes a b s st (bs Mil.wFalse) _ HL.out hb H.out hs HF.out).mono ?_
   rintro e w1 ⟨hk,(⟨st',rfl,h1,h2⟩ | ⟨k,at_,hkk,d,rfl,hd,hno⟩)⟩
   ·have cv:w1.cell? ⟨kv,0,none⟩=some (.int .i64 (place s.size st)):=hk.held HV.out.cell HV.out.ne
    go_wp2
    go_ret
    exact ⟨HV.out.kp.trans hk,Or.inl ⟨Mip.eBool (Mip.off st) 0,st',_,_,rfl,by rw [place_off];rfl,by rw [HM.out,h1];rfl,h2⟩⟩
   ·go_wp2
    exact ⟨rfl,HV.out.kp.trans hk,Or.inr ⟨k,at_,hkk,d,rfl,hd,by rw [HZ.out,hno];rfl⟩⟩
  ·have HF:Hid (Mil.sees st (bs Mil.wFalse).data.toList=false):=Bool.eq_false_iff.2 hF
   have HZ:Hid (Mil.literalZ s.size st=(Mil.numberZ s.size 0 9223372036854775807 st).map fun x=>(Mil.eInt x.1,x.2)):=by unfold Mil.literalZ;rw [if_neg hT,if_neg hF];rfl
   have HM:Hid (Mip.literal st=(Mil.number 0 9223372036854775807 st).map fun x=>(Mip.eInt (Mip.off st) x.1,x.2)):=by unfold Mip.literal;rw [if_neg hT,if_neg hF];rfl
   clear hT hF
   go_enter Tryz.func179,Tryz.ntmps179
   go_wp2_with fail
   refine (atomHere_any b s st _ H.out).mono ?_
   rintro e w0 ⟨rfl,hw0⟩
   have HV:Hid (Hd a b s st w (w0.alloc (.cells #[.int .i64 (place s.size st)] 101)) (place s.size st) w0.heap.size):=head_facts HL.out hb H.out hw0
   clear hw0
   go_wp2_with fail
   generalize w0.heap.size=kv at HV ⊢
   generalize w0.alloc (.cells #[.int .i64 (place s.size st)] 101)=v at HV ⊢
   clear H HL w0
   have H:Hid (RdS v b s st):=HV.out.rd
   have HL:Hid (Laid a v):=HV.out.laid
   refine (takes_no b s st (bs Mil.wTrue) _ H.out HT.out).mono ?_
   rintro e w1 ⟨rfl,rfl⟩
   go_wp2_with fail
   refine (takes_no b s st (bs Mil.wFalse) _ H.out HF.out).mono ?_
   rintro e w1 ⟨rfl,rfl⟩
   go_wp2_with fail
   refine (digits_any a b s st _ HL.out hb H.out hs).mono ?_
   rintro e w1 ⟨hk,(⟨x,st',ty,y,rfl,h0,h1,h2⟩ | ⟨k,at_,hkk,d,rfl,hd,hno⟩)⟩
   ·have H0:Hid _:=h0
    have H1:Hid _:=h1
    clear h0 h1
    go_wp2
    go_ret
    exact ⟨HV.out.kp.trans hk,Or.inl ⟨x,st',ty,y,rfl,H0.out,HM.out.trans H1.out,h2⟩⟩
   ·have HNO:Hid _:=hno
    clear hno
    go_wp2
    exact ⟨rfl,HV.out.kp.trans hk,Or.inr ⟨k,at_,hkk,d,rfl,hd,by rw [HZ.out,HNO.out];rfl⟩⟩
theorem constant_any (a:Nat→Addr) (b:Nat) (s:ByteArray) (st:Mil.St) (w:World) (L:Laid a w) (hb:23≤b) (h:RdS w b s st) (hs:s.size≤4000) :
  Calls Tryz.prog 184 #[.pointer (some ⟨b,0,none⟩)] w (ExPost (fun x st'=>Mip.constant st=some (x,st')) (fun k p=>Mil.constantZ s.size st=.bad k p) a b s w):=by
 have H:Hid (RdS w b s st):=h
 have HL:Hid (Laid a w):=L
 clear h L
 by_cases hT:Mil.sees st Mil.sMinus=true
 ·have HZ:Hid (Mil.constantZ s.size st=(Mil.advZ s.size st).bind fun s1=>(Mil.numberZ s.size 0 9223372036854775807 s1).map fun x=>(Mil.ePre Mil.sMinus (Mil.eInt x.1),x.2)):=by unfold Mil.constantZ;rw [if_pos hT];rfl
  have HM:Hid (Mip.constant st=(Mil.adv st).bind fun s1=>(Mil.number 0 9223372036854775807 s1).map fun x=>(Mip.ePre (Mip.off st) Mil.sMinus (Mip.eInt (Mip.off s1) x.1),x.2)):=by unfold Mip.constant;rw [if_pos hT];rfl
  have HT:Hid (Mil.sees st (bs Mil.sMinus).data.toList=true):=hT
  clear hT
  go_enter Tryz.func184,Tryz.ntmps184
  go_wp2_with fail
  refine (here_any b s st _ H.out).mono ?_
  rintro e w0 ⟨rfl,hw0⟩
  have HV:Hid (Hd a b s st w (w0.alloc (.cells #[.int .i64 (place s.size st)] 99)) (place s.size st) w0.heap.size):=head_facts HL.out hb H.out hw0
  clear hw0
  go_wp2_with fail
  generalize w0.heap.size=kv at HV ⊢
  generalize w0.alloc (.cells #[.int .i64 (place s.size st)] 99)=v at HV ⊢
  clear H HL w0
  have H:Hid (RdS v b s st):=HV.out.rd
  have HL:Hid (Laid a v):=HV.out.laid
  refine (takes_yes a b s st (bs Mil.sMinus) _ HL.out hb H.out hs HT.out).mono ?_
  rintro e w1 ⟨hk,(⟨st',rfl,h1,h2⟩ | ⟨k,at_,hkk,d,rfl,hd,hno⟩)⟩
  ·go_wp2_with fail
   have HK0:Hid (Kp b v w1):=hk
   have H1:Hid (Mil.adv st=some st'):=h1
   have H2:Hid (RdS w1 b s st'):=h2
   clear hk h1 h2
   refine region_held (fun w'=>w'.cell? ⟨kv,0,none⟩=some (.int .i64 (place s.size st))) (by kernel_rfl) (HK0.out.held HV.out.cell HV.out.ne) (fun hS=>?_)
   refine held_take 0 (v:=?_) rfl (by kernel_rfl) (by kernel_rfl) (by kernel_rfl) (fun _ _ _ h=>h) (Or.inl ⟨by rfl,?_⟩) (by assumption) ?_
   rotate_left 1
   ·(intro w' hSw;(try dsimp only at hSw);go_simp <;> with_reducible rfl)
   try simp only [Act.put,List.setIfInBounds_toArray,List.set_cons_zero,List.set_cons_succ]
   refine held_take 1 (v:=?_) rfl (by kernel_rfl) (by kernel_rfl) (by kernel_rfl) (fun _ _ _ h=>h) (Or.inl ⟨by rfl,?_⟩) (by assumption) ?_
   rotate_left 1
   ·(intro w' hSw;(try dsimp only at hSw);go_simp <;> with_reducible rfl)
   try simp only [Act.put,List.setIfInBounds_toArray,List.set_cons_zero,List.set_cons_succ]
   refine held_one 2 (by kernel_rfl) rfl (fun K hK=>?_)
   go_simp
   refine (digits_any a b s st' _ ((HL.out.kept HK0.out hb).kept (Kp.refl b w1).drew hb) hb (H2.out.kept (Kp.refl (b+1) w1).drew (by omega)) hs).mono ?_
   rintro e w2 ⟨hk2,(⟨x,st2,ty,y,rfl,g0,g1,g2⟩ | ⟨k,at_,hkk,d,rfl,hd,hno⟩)⟩
   ·have G0:Hid (ev s.size x=.iface ty y):=g0
    have G1:Hid _:=g1
    have HK:Hid (Kp b v w2):=HK0.out.drew.trans hk2
    have G2:Hid (RdS w2 b s st2):=g2
    clear g0 g1 g2 hk2 hS
    refine hK.out _ _ (HK.out.held HV.out.cell HV.out.ne) (fun hS=>?_)
    clear hK K
    try simp only [Act.put,List.setIfInBounds_toArray,List.set_cons_zero,List.set_cons_succ]
    refine held_take 3 (v:=?_) rfl (by kernel_rfl) (by kernel_rfl) (by kernel_rfl) (fun _ _ _ h=>h) (Or.inl ⟨by rfl,?_⟩) (by assumption) ?_
    rotate_left 1
    ·(intro w' hSw;(try dsimp only at hSw);go_simp <;> with_reducible rfl)
    try simp only [Act.put,List.setIfInBounds_toArray,List.set_cons_zero,List.set_cons_succ]
    refine held_take 4 (v:=?_) rfl (by kernel_rfl) (by kernel_rfl) (by kernel_rfl) (fun _ _ _ h=>h) (Or.inl ⟨by rfl,?_⟩) (by assumption) ?_
    rotate_left 1
    ·(intro w' hSw;(try dsimp only at hSw);go_simp <;> with_reducible rfl)
    try simp only [Act.put,List.setIfInBounds_toArray,List.set_cons_zero,List.set_cons_succ]
    refine held_take 5 (v:=?_) rfl (by kernel_rfl) (by kernel_rfl) (by kernel_rfl) (fun _ _ _ h=>h) (Or.inl ⟨by rfl,?_⟩) (by assumption) ?_
    rotate_left 1
    ·(intro w' hSw;(try dsimp only at hSw);go_simp <;> with_reducible rfl)
    try simp only [Act.put,List.setIfInBounds_toArray,List.set_cons_zero,List.set_cons_succ]
    refine wpAnyH_done (by kernel_rfl) ?_ _
    clear hS
    go_wp2
    go_ret
    obtain ⟨n,hn,hx⟩:=Option.map_eq_some_iff.1 G1.out
    obtain ⟨rfl,rfl⟩:=Prod.mk.inj hx
    refine ⟨HV.out.kp.trans HK.out,Or.inl ⟨Mip.ePre (Mip.off st) Mil.sMinus (Mip.eInt (Mip.off st') n.1),n.2,_,_,rfl,?_,by rw [HM.out,H1.out,Option.bind_some,hn];rfl,G2.out⟩⟩
    rw [place_off,←G0.out];rfl
   ·exact ⟨rfl,HV.out.kp.trans (HK0.out.drew.trans hk2),Or.inr ⟨k,at_,hkk,d,rfl,hd,by rw [HZ.out,Mil.imz_adv s.size _ _ H1.out];show Mil.Rz.map _ _=_;rw [hno];rfl⟩⟩
  ·go_wp2
   exact ⟨rfl,HV.out.kp.trans hk,Or.inr ⟨k,at_,hkk,d,rfl,hd,by rw [HZ.out,hno];rfl⟩⟩
 ·have HT:Hid (Mil.sees st (bs Mil.sMinus).data.toList=false):=Bool.eq_false_iff.2 hT
  have HM:Hid (Mip.constant st=Mip.literal st):=by unfold Mip.constant;rw [if_neg hT];rfl
  have HZ:Hid (Mil.constantZ s.size st=Mil.literalZ s.size st):=by unfold Mil.constantZ;rw [if_neg hT];rfl
  clear hT
  go_enter Tryz.func184,Tryz.ntmps184
  go_wp2_with fail
  refine (here_any b s st _ H.out).mono ?_
  rintro e w0 ⟨rfl,hw0⟩
  have HV:Hid (Hd a b s st w (w0.alloc (.cells #[.int .i64 (place s.size st)] 99)) (place s.size st) w0.heap.size):=head_facts HL.out hb H.out hw0
  clear hw0
  go_wp2_with fail
  generalize w0.heap.size=kv at HV ⊢
  generalize w0.alloc (.cells #[.int .i64 (place s.size st)] 99)=v at HV ⊢
  clear H HL w0
  have H:Hid (RdS v b s st):=HV.out.rd
  have HL:Hid (Laid a v):=HV.out.laid
  refine (takes_no b s st (bs Mil.sMinus) _ H.out HT.out).mono ?_
  rintro e w1 ⟨rfl,rfl⟩
  go_wp2_with fail
  refine (literal_any a b s st _ HL.out hb H.out hs).mono ?_
  rintro e w1 ⟨hk,(⟨x,st',ty,y,rfl,h0,h1,h2⟩ | ⟨k,at_,hkk,d,rfl,hd,hno⟩)⟩
  ·go_wp2
   go_ret
   exact ⟨HV.out.kp.trans hk,Or.inl ⟨x,st',ty,y,rfl,h0,HM.out.trans h1,h2⟩⟩
  ·go_wp2
   exact ⟨rfl,HV.out.kp.trans hk,Or.inr ⟨k,at_,hkk,d,rfl,hd,HZ.out.trans hno⟩⟩
end
end Go.Proofs.YticbokabjhnagaaGreatDoor
