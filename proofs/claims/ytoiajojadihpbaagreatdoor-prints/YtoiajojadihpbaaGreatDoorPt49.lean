import Derived.Below
import Derived.Laws.AppendOwn
import Derived.Laws.CopyRow
import Derived.Maps.AppendAt
import Derived.Tactics
import Derived.Test.YtoiajojadihpbaaGreatDoorPt47
import Derived.Test.YtoiajojadihpbaaGreatDoorPt48
namespace Go.Proofs.YtoiajojadihpbaaGreatDoor
set_option maxHeartbeats 8000000
section
open Go.RowKit
def OffRow (e:TypeId) (n:Nat) (w:World) (base:Nat) (v:Value) (len:Nat):Prop:=
 (v=.slice none 0 0∧len=0)∨∃b off cap cur,v=.slice (some ⟨b,off,none⟩) len cap∧base≤b∧w.heap[b]?=some (.cells cur e (0,0))∧len≤cap∧off+cap≤cur.size∧∀j,j < len→∃k:Nat,k < n∧cur[off+j]?=some (.int .i64 (k:Nat))
section
variable {P:Program} (w:World)
theorem run_append_off (t ty e:TypeId) (i:TypeInfo) (z:Value) (ht:P.underlying t=some (.slice e)) (hi:P.info? e=some i) (hz:i.zero=some z)
  (hsize:i.size=1) (hby:i.bytes=8) (hzs:z.cells.size=1) (n base:Nat) (v:Value) (len:Nat) (hv:OffRow e n w base v len) (base2:Nat) (vx:Value) (M:List Nat)
  (hx:w.ownsRow base2 e 1 vx M.length (M.map fun k=>Value.int .i64 (k:Nat))) (hM:∀k,k∈M→k < n) (hl:len+M.length≤1000000) (hbase:base≤w.heap.size) :
  ∃v' w',(Builtin.append_ #[t,t] ty #[v,vx]).run P w=.ok v' w'∧OffRow e n w' base v' (len+M.length)∧Below base w w':=by
 have news:∀j,j < M.length→∃k:Nat,k < n∧(M.map fun k=>Value.int .i64 (k:Nat))[j]?=some (.int .i64 (k:Nat)):=fun j hj=>
  ⟨M[j],hM _ (List.getElem_mem hj),by rw [List.getElem?_map,List.getElem?_eq_getElem hj];rfl⟩
 have one:∀u∈M.map (fun k=>Value.int .i64 (k:Nat)),u.oneCell'=true:=fun u hu=>by
  obtain ⟨_,_,rfl⟩:=List.mem_map.1 hu
  rfl
 have nl:(M.map fun k=>Value.int .i64 (k:Nat)).length=M.length*i.size:=by rw [List.length_map,hsize,Nat.mul_one]
 rcases hx.2 with ⟨rfl,h0⟩ | ⟨g,cap,cur,hvx,hbg,hg,hnc,hcm,hcs,htake⟩
 ·rw [h0]
  rcases hv with ⟨rfl,rfl⟩ | ⟨b,off,c,cu,rfl,hb,hh,h1,h2,h3⟩
  ·refine ⟨_,w,?_,Or.inl ⟨rfl,rfl⟩,Below.refl _ _⟩
   simp [Builtin.append_,run_underlying ht,sizeOf,typeInfo,hi,Builtin.lenOf,Builtin.firstCells]
  ·refine ⟨_,w,?_,Or.inr ⟨b,off,c,cu,rfl,hb,hh,h1,h2,h3⟩,Below.refl _ _⟩
   simp [Builtin.append_,run_underlying ht,sizeOf,typeInfo,hi,Builtin.lenOf,Builtin.firstCells,h1,storeCells]
 ·subst hvx
  have hnews:∀j u,(M.map fun k=>Value.int .i64 (k:Nat))[j]?=some u→w.cell? ((⟨g,0,none⟩:Addr).add j)=some u:=hx.cells (g:=g) rfl
  rcases hv with ⟨rfl,rfl⟩ | ⟨b,off,c,cu,rfl,hb,hh,h1,h2,h3⟩
  ·by_cases hm:M.length=0
   ·refine ⟨.slice none 0 0,w,?_,Or.inl ⟨rfl,by omega⟩,Below.refl _ _⟩
    simp [Builtin.append_,run_underlying ht,sizeOf,typeInfo,hi,Builtin.lenOf,Builtin.firstCells,loadCells,loadCellsFrom,hm]
   ·have hr:=run_append_nil (P:=P) w t ty e i z ht hi hz ⟨g,0,none⟩ M.length cap _ nl hnews (by omega) (by omega) (by rw [hby];omega)
    have hge:=grownCap_ge w M.length 0 e
    refine ⟨_,_,hr,Or.inr ⟨w.heap.size,0,_,_,by rw [Nat.zero_add],hbase,heap_alloc_new w.drew _,by omega,?_,fun j hj=>?_⟩,((Below.refl _ _).drew).alloc hbase _⟩
    ·simp only [Array.size_append,List.size_toArray,List.length_map,size_zeroCells,hzs]
     omega
    ·obtain ⟨k,hk,e1⟩:=news j (by omega)
     refine ⟨k,hk,?_⟩
     rw [Nat.zero_add,Array.getElem?_append_left (by simpa using (by omega:j < M.length))]
     simpa using e1
  ·by_cases hroom:len+M.length≤c
   ·have hst:=run_storeCells_at (P:=P) b (off+len) e (M.map fun k=>Value.int .i64 (k:Nat)) 0 cu w hh (by rw [List.length_map];omega) one
    have hf:=run_firstCells_some (P:=P) w i.size M.length ⟨g,0,none⟩ M.length cap _ nl hnews
    have hr:(Builtin.append_ #[t,t] ty #[.slice (some ⟨b,off,none⟩) len c,.slice (some ⟨g,0,none⟩) M.length cap]).run P w=.ok (.slice (some ⟨b,off,none⟩) (len+M.length) c) (w.setRow b (cu.toList.take (off+len+0)++(M.map fun k=>Value.int .i64 (k:Nat))++cu.toList.drop (off+len+0+(M.map fun k=>Value.int .i64 (k:Nat)).length)).toArray):=by
     rw [hsize] at hf
     simp [Builtin.append_,run_underlying ht,sizeOf,typeInfo,hi,Builtin.lenOf,hroom,hf,Addr.add_lit,hsize]
     simp at hst
     rw [hst]
     rfl
    refine ⟨_,_,hr,Or.inr ⟨b,off,c,_,rfl,hb,setRow_heap w b cu _ e _ hh,hroom,?_,fun j hj=>?_⟩,⟨rfl,rfl,rfl,by simp,fun k hk=>setRow_other w b k _ (by omega)⟩⟩
    ·simp only [List.size_toArray,List.length_append,List.length_take,List.length_drop,Array.length_toList,List.length_map]
     omega
    ·rw [List.getElem?_toArray,Nat.add_zero,List.append_assoc]
     by_cases hjl:j < len
     ·obtain ⟨k,hk,e1⟩:=h3 j hjl
      refine ⟨k,hk,?_⟩
      rw [List.getElem?_append_left (by simp only [List.length_take,Array.length_toList];omega),List.getElem?_take,if_pos (by omega)]
      simpa using e1
     ·obtain ⟨k,hk,e1⟩:=news (j - len) (by omega)
      refine ⟨k,hk,?_⟩
      have e2:(List.take (off+len) cu.toList).length=off+len:=by simp only [List.length_take,Array.length_toList];omega
      rw [List.getElem?_append_right (by rw [e2];omega),e2,List.getElem?_append_left (by rw [List.length_map];omega),show off+j - (off+len)=j - len from by omega]
      exact e1
   ·have holds:∀j u,((List.range len).map fun j=>cu[off+j]!)[j]?=some u→w.cell? ((⟨b,off,none⟩:Addr).add j)=some u:=by
     intro j u hu
     rw [List.getElem?_map] at hu
     obtain ⟨q,hq,rfl⟩:=Option.map_eq_some_iff.1 hu
     have hq2:=List.getElem?_eq_some_iff.1 hq
     have hj:j < len:=by simpa using hq2.1
     have hqj:q=j:=by rw [←hq2.2];simp
     subst hqj
     rw [Addr.add_lit,cell_of_row w b _ cu e _ hh]
     obtain ⟨k,_,e1⟩:=h3 q hj
     rw [e1,getElem!_def,e1]
    have hr:=run_append_grow (P:=P) w t ty e i z ht hi hz ⟨b,off,none⟩ len c ((List.range len).map fun j=>cu[off+j]!) (by simp [hsize]) holds ⟨g,0,none⟩ M.length cap _ nl hnews (by omega) (by omega) (growslice_fits (by omega) (by rw [hby];omega))
    have hge:=grownCap_ge w (len+M.length) c e
    refine ⟨_,_,hr,Or.inr ⟨w.heap.size,0,_,_,rfl,hbase,heap_alloc_new w.drew _,hge,?_,fun j hj=>?_⟩,((Below.refl _ _).drew).alloc hbase _⟩
    ·simp only [Array.size_append,List.size_toArray,List.length_map,List.length_range,size_zeroCells,hzs]
     omega
    ·rw [Nat.zero_add]
     by_cases hjl:j < len
     ·obtain ⟨k,hk,e1⟩:=h3 j hjl
      refine ⟨k,hk,?_⟩
      rw [Array.getElem?_append_left (by simp;omega),Array.getElem?_append_left (by simpa using hjl)]
      rw [List.getElem?_toArray,List.getElem?_map,List.getElem?_range hjl]
      simp only [Option.map_some]
      rw [getElem!_def,e1]
     ·obtain ⟨k,hk,e1⟩:=news (j - len) (by omega)
      refine ⟨k,hk,?_⟩
      rw [Array.getElem?_append_left (by simp;omega),Array.getElem?_append_right (by simp;omega)]
      rw [List.getElem?_toArray]
      simpa using e1
theorem wpList_append_off {ops:Array Oper} {rest:List Oper} {o:Oper} {a:Act} {Q:Exit→Act→World→Prop} (hgd:o.guard=none) (s x:Operand) (t:TypeId)
  (ho:o.op=.call { callee:=.builtin .append,args:=#[s,x],argTypes:=#[t,t] })
  (e:TypeId) (i:TypeInfo) (z:Value) (ht:P.underlying t=some (.slice e)) (hi:P.info? e=some i) (hz:i.zero=some z)
  (hsize:i.size=1) (hby:i.bytes=8) (hzs:z.cells.size=1) (n base:Nat) (v:Value) (len:Nat) (hs:a.eval s=v) (hv:OffRow e n w base v len) (base2:Nat) (vx:Value) (M:List Nat) (hx:a.eval x=vx)
  (hxo:w.ownsRow base2 e 1 vx M.length (M.map fun k=>Value.int .i64 (k:Nat))) (hM:∀k,k∈M→k < n) (hl:len+M.length≤1000000) (hbase:base≤w.heap.size)
  (h:∀v' w',OffRow e n w' base v' (len+M.length)→Below base w w'→wpList P ops Q rest (a.put o.dst v') w') :
  wpList P ops Q (o::rest) a w:=by
 refine wpList_plain hgd fun K hK'=>?_
 obtain ⟨v',w',hrun,r1,r2⟩:=run_append_off (P:=P) w t o.type e i z ht hi hz hsize hby hzs n base v len hv base2 vx M hxo hM hl hbase
 unfold Oper.wp
 simp [execOp,ho,resolve,invoke,builtin,hs,hx,hrun,Result.andThen]
 exact hK' _ _ (h v' w' r1 r2)
end
end
section
open Go.RowKit
theorem off_of_row {F:List Ref.Fl} {w:World} {base:Nat} {v:Value} {L:List Nat} (h:FR F w base v L):OffRow 3 F.length w base v L.length:=by
 rcases h.1.2 with ⟨h1,h2⟩ | ⟨k,cap,cur,hv,hbk,hk,hcap,hmx,hsz,htk⟩
 ·exact Or.inl ⟨h1,h2⟩
 ·refine Or.inr ⟨k,0,cap,cur,hv,hbk,hk,hcap,by omega,fun j hj=>⟨L[j],h.2.1 _ (List.getElem_mem hj),?_⟩⟩
  have e:(plv L)[j]?=some (.int .i64 ((L[j]:Nat):Int)):=by
   show (List.map _ L)[j]?=_
   rw [List.getElem?_map,List.getElem?_eq_getElem hj];rfl
  rw [Nat.zero_add,←e,←htk,List.getElem?_take,if_pos (by omega)]
  simp
theorem OffRow.below {e:TypeId} {n:Nat} {w w':World} {base:Nat} {v:Value} {len:Nat} (h:OffRow e n w base v len) (hb:Below w.heap.size w w'):OffRow e n w' base v len:=by
 rcases h with h | ⟨b,off,cap,cur,h1,h2,h3,h4⟩
 ·exact Or.inl h
 ·exact Or.inr ⟨b,off,cap,cur,h1,h2,(hb.block b (Array.getElem?_eq_some_iff.1 h3).1).trans h3,h4⟩
set_option maxRecDepth 100000 in
theorem cycles_any (B ub g:Nat) (iv nv fv tv:Value) (ns:List Ref.Nd) (I:List Iw) (F:List Ref.Fl) (hU:Uok ns I F) (w:World) (h:UM B ub g iv nv fv tv ns I F w) :
  Calls Tryz.prog 61 #[.pointer (some ⟨ub,0,none⟩)] w (FP w):=by
 have HP:=hid h
 have HU:=hid hU
 have HL:Hid (F.length≤60):=hU.len
 have FB:Hid (Below w.heap.size w (w.alloc (.cells #[.int .i64 0,.int .i64 0] 44))):=(Below.refl _ _).alloc (Nat.le_refl _) _
 have FF:Hid ((w.alloc (.cells #[.int .i64 0,.int .i64 0] 44)).heap[w.heap.size]?=some (.cells #[.int .i64 0,.int .i64 0] 44 (0,0))):=heap_alloc_new w _
 have SF:Hid ((w.alloc (.cells #[.int .i64 0,.int .i64 0] 44)).heap.size=w.heap.size+1):=by
  show _=_
  simp
 obtain ⟨o2,c2,hfv⟩:=own_shape h.fl
 have HFV:=hid hfv
 obtain ⟨b0,hb0,bz0,bz1,bz2⟩:=info_parts Tryz.infoBool
 have HB0:Hid (Tryz.prog.info? 4=some b0∧b0.zero=some (.bool false)∧b0.size=1∧b0.bytes=1):=⟨hb0,bz0,bz1,bz2⟩
 obtain ⟨k0,hk0,kz0,kz1,kz2⟩:=info_parts Tryz.infoInt
 have HK0:Hid (Tryz.prog.info? 3=some k0∧k0.zero=some (.int .i64 0)∧k0.size=1∧k0.bytes=8):=⟨hk0,kz0,kz1,kz2⟩
 clear h hU hfv hb0 bz0 bz1 bz2 hk0 kz0 kz1 kz2
 go_enter Tryz.func61,Tryz.ntmps61
 go_wp2_with fail
 have HP0:=hid (HP.out.below FB.out)
 generalize w.alloc (.cells #[.int .i64 0,.int .i64 0] 44)=W0 at FB FF SF HP0 ⊢
 go_loopg [3] F.length (fun gk s3 wr=>∃(f:Nat),s3=.int .i64 (f:Nat)∧f≤F.length∧gk=F.length - f∧Hid (Below W0.heap.size W0 wr))
 case atStart=>exact ⟨0,rfl,Nat.zero_le _,rfl,Below.refl _ _⟩
 case round=>
  obtain ⟨f,rfl,hf,hg,KB⟩:=hrel
  have HG:=hid hg
  clear hg
  have d1:=(HP0.out.below KB.out).cells.2.1
  rw [HFV.out] at d1
  by_cases hlt:f < F.length
  ·have b1:((f:Int) < (F.length:Int))=True:=by simp;omega
   have i0:(0:Int)≤(F.length:Int):=by omega
   have HLT:=hid hlt
   have hw:IntKind.i64.wrap ((f:Int)+1)=(f:Int)+1:=by
    have:=HL.out
    simp only [IntKind.wrap_i64];omega
   clear hlt hf
   go_wp2_with (at_make;refine wpList_make_full _ rfl _ _ 200 rfl wr.heap.size 4 b0 (.bool false) 1 Tryz.underlying200 HB0.out.1 HB0.out.2.1 HB0.out.2.2.1 _ _ _ _ F.length rfl rfl rfl rfl (by rw [HB0.out.2.2.2];have:=HL.out;omega) (by unfold maxLen;have:=HL.out;omega) (Nat.le_refl _) ?_;intro w1 ho1 hg1)
   rw [made_bools] at ho1
   have HB1:Hid (Below wr.heap.size wr w1):=⟨hg1.os,hg1.tape,hg1.output,hg1.size,fun k hk=>hg1.block k hk (by simp)⟩
   have HO1:=hid ho1
   have HS1:Hid (wr.heap.size < w1.heap.size):=(ho1.lt wr.heap.size rfl).2
   clear ho1 hg1 d1 i0
   have KB1:=hid (below_step KB.out HB1.out)
   have HS0:Hid (W0.heap.size≤wr.heap.size):=KB.out.size
   clear HB1
   generalize wr.heap.size=S at HO1 HS1 HS0 ⊢
   go_wp2_with fail
   refine (of_any B ub g iv nv fv tv ns I F HU.out f HLT.out _ (HP0.out.below KB1.out)).mono ?_
   rintro r w2 ⟨⟨v,L,rfl,hr⟩,hb⟩
   have HR:Hid (OffRow 3 F.length w2 w1.heap.size v L.length):=off_of_row hr
   have HRL:Hid (L.length≤2000):=hr.2.2
   have KB2:=hid (below_step KB1.out hb)
   have HO2:Hid (w2.ownsRow S 4 1 (.slice (some ⟨S,0,none⟩) F.length F.length) F.length (blv (List.replicate F.length false))):=own_kept HO1.out (fun q hq=>hb.block q (HO1.out.lt q hq).2)
   have HZ2:Hid (w1.heap.size≤w2.heap.size):=hb.size
   clear hb hr
   go_wp2_with fail
   go_loopg [5] (F.length*2001+L.length) (fun gj s5 wj=>∃(T:List Bool) (u:Value) (len:Nat),s5=u∧gj=fc T*2001+len∧Hid (T.length=F.length∧len+fc T*2000≤2000+F.length*2000)∧Hid (wj.ownsRow S 4 1 (.slice (some ⟨S,0,none⟩) F.length F.length) F.length (blv T))∧Hid (OffRow 3 F.length wj w1.heap.size u len)∧Hid (Below W0.heap.size W0 wj)∧Hid (w1.heap.size≤wj.heap.size))
   case atStart=>
    refine ⟨List.replicate F.length false,v,L.length,rfl,by rw [fc_made],⟨by simp,?_⟩,HO2,HR,KB2,HZ2⟩
    rw [fc_made]
    have:=HRL.out
    omega
   case round=>
    obtain ⟨T,u,len,rfl,hgj,KT,KO,KU,KW,KZ⟩:=hrel
    have HGJ:=hid hgj
    clear hgj
    rcases KU.out with ⟨rfl,rfl⟩ | ⟨b,off,cap,cur,rfl,hbb,hcur,hlc,hoc,hall⟩
    ·go_wp2_with fail
     go_roundg (F.length - (f+1))
     case measure=>
      have h1:=HG.out
      have h2:=HLT.out
      omega
     case rel=>exact ⟨f+1,rfl,HLT.out,rfl,KW⟩
    ·by_cases hl0:len=0
     ·subst hl0
      clear hall hoc hlc hcur hbb
      go_wp2_with fail
      go_roundg (F.length - (f+1))
      case measure=>
       have h1:=HG.out
       have h2:=HLT.out
       omega
      case rel=>exact ⟨f+1,rfl,HLT.out,rfl,KW⟩
     ·have e0:((0:Int) < (len:Int))=True:=by simp;omega
      have i1:(0:Int) < (len:Int):=by omega
      have i2:(1:Int)≤(len:Int):=by omega
      have i3:(len:Int)≤(cap:Int):=by omega
      obtain ⟨k,hk,hck⟩:=hall 0 (by omega)
      rw [Nat.add_zero] at hck
      have c0:wr.cell? ⟨b,off,none⟩=some (.int .i64 (k:Nat)):=by rw [cell_of_row wr b off _ _ _ hcur,hck]
      have HKN:=hid hk
      have HA:Hid (w1.heap.size≤b∧wr.heap[b]?=some (.cells cur 3 (0,0))∧len≤cap∧off+cap≤cur.size∧∀j,j < len→∃k:Nat,k < F.length∧cur[off+j]?=some (.int .i64 (k:Nat))):=⟨hbb,hcur,hlc,hoc,hall⟩
      have HLP:Hid (0 < len):=by show 0 < len;omega
      clear hl0 hall hoc hlc hcur hbb hck hk
      go_upto_region 9 with (fail)
      have ON:Hid (OffRow 3 F.length wr w1.heap.size (Value.slice (if cap=1 then some ⟨b,off,none⟩ else some ⟨b,off+1,none⟩) (len - 1) (cap - 1)) (len - 1)):=by
       obtain ⟨h1,h2,h3,h4,h5⟩:=HA.out
       have h6:=HLP.out
       by_cases hc:cap=1
       ·rw [if_pos hc]
        exact Or.inr ⟨b,off,cap - 1,cur,rfl,h1,h2,by omega,by omega,fun j hj=>by omega⟩
       ·rw [if_neg hc]
        refine Or.inr ⟨b,off+1,cap - 1,cur,rfl,h1,h2,by omega,by omega,fun j hj=>?_⟩
        obtain ⟨k,hk,e⟩:=h5 (j+1) (by omega)
        exact ⟨k,hk,by rw [show off+1+j=off+(j+1) from by omega];exact e⟩
      clear c0 HA i1 i2 i3 e0
      generalize (Value.slice (if cap=1 then some ⟨b,off,none⟩ else some ⟨b,off+1,none⟩) (len - 1) (cap - 1))=tq at ON ⊢
      have d0:=(HP0.out.below KW.out).cells.1
      have d1:=(HP0.out.below KW.out).cells.2.1
      rw [HFV.out] at d1
      have KFF:Hid (wr.heap[w.heap.size]?=some (.cells #[.int .i64 0,.int .i64 0] 44 (0,0))):=(KW.out.block _ (by have:=SF.out;omega)).trans FF.out
      have KWW:Hid (Below w.heap.size w wr):=FB.out.trans (KW.out.mono (by have:=SF.out;omega))
      by_cases hkf:k=f
      ·subst hkf
       have hlt:=HLT.out
       have i1:(0:Int)≤(k:Int):=by omega
       have i2:(k:Int) < (F.length:Int):=by omega
       have hyf:F[k]?=some F[k]:=List.getElem?_eq_getElem hlt
       obtain ⟨y,hy,hyx⟩:=HU.out.all F[k] (List.getElem_mem hlt)
       clear hyx
       generalize F[k]=fy at hyf hy
       obtain ⟨kf,cf,hvf,t0,t1,t2,t3,t4,t5⟩:=HP.out.flow6 hyf
       obtain ⟨k2,cc,hv2,e0,e1,e2,e3,e4,e5,e6,e7,d3⟩:=HP.out.itemAt hy
       have hyl:=(List.getElem?_eq_some_iff.1 hy).1
       have i3:(0:Int)≤(fy.item:Int):=by omega
       have i4:(fy.item:Int) < (I.length:Int):=by omega
       rw [HFV.out] at hvf
       obtain ⟨ho,hcc⟩:o2=some ⟨kf,0,none⟩∧c2=cf:=by
        injection hvf with h1 h2 h3
        exact ⟨h1,h3⟩
       subst ho
       subst hcc
       have up:∀{q:Addr} {v:Value},w.cell? q=some v→q.spot=none→∀w',Offs w.heap.size wr w'→w'.cell? q=some v:=fun {q v} hq hs w' h=>by
        obtain ⟨qb,qo,qs⟩:=q
        subst hs
        exact h.cell (Nat.ne_of_lt (lt_of_cell hq)) ((KWW.out.cell (lt_of_cell hq)).trans hq)
       have u0:=HP.out.cells.1
       have u1:=HP.out.cells.2.1
       rw [HFV.out] at u1
       have j0:=up u0 rfl
       have j1:=up u1 rfl
       have j2:=up d3 rfl
       have j3:=up t5 rfl
       have j4:=up e1 rfl
       obtain ⟨g0,g1,z0⟩:=fault_at KFF.out
       clear hlt hyf hy hvf hv2 hyl t0 t1 t2 t3 t4 t5 e0 e1 e2 e3 e4 e5 e6 e7 d3 u0 u1 up
       go_wp2_with fail
       clear d0 d1
       go_region_held3 (fun w'=>Offs w.heap.size wr w') (first | assumption | exact Offs.refl _ _ | exact (Offs.refl _ _).drew | exact Offs.setCell (by assumption) _ _ | exact Offs.setCell (Offs.setCell (by assumption) _ _) _ _ | exact Offs.setCell (Offs.setCell (Offs.refl _ _).drew _ _) _ _ | exact Offs.setCell (Offs.setCell (Offs.refl _ _) _ _) _ _) (fail)
       clear j0 j1 j2 j3 j4 g0 g1 z0
       go_wp2_with fail
       obtain ⟨a2,a3⟩:=two_set (u:=.int .i64 10) (v:=.int .i64 (y.im.at_:Nat)) KFF.out
       refine bodyPost_ret (v:=.agg #[.int .i64 10,.int .i64 (y.im.at_:Nat)]) (by simp [results,Tryz.results61,a2,a3,go_sem]) rfl ?_
       exact ⟨⟨10,(y.im.at_:Nat),rfl⟩,((KWW.out.setCell (Nat.le_refl _) _).setCell (Nat.le_refl _) _).drew⟩
      ·have q0:((k:Int)==(f:Int))=false:=by rw [beq_eq_false_iff_ne];omega
       clear hkf
       have hkn:=HKN.out
       have i1:(0:Int)≤(k:Int):=by omega
       have i2:(k:Int) < (F.length:Int):=by omega
       have hlT:k < T.length:=by rw [KT.out.1];exact hkn
       have hb:T[k]?=some T[k]:=List.getElem?_eq_getElem hlT
       generalize T[k]=t at hb
       have HTF:=hid hb
       have hOT:=KO.out
       rw [←KT.out.1] at hOT
       obtain ⟨kt,hot,czt⟩:=row_blv hOT hb
       injection hot with hot
       injection hot with hot
       subst hot
       clear hlT hb hOT hkn d0 d1
       cases t
       ·obtain ⟨o1,o2',o3⟩:=own_set KO.out (j:=k) (by have:=HKN.out;omega) (.bool true)
        rw [blv_set] at o1
        have O1:=hid o1
        have ON2:Hid (OffRow 3 F.length (wr.setCell ⟨S,k,none⟩ (.bool true)) w1.heap.size tq (len - 1)):=by
         rcases ON.out with h | ⟨b',off',cap',cur',h1,h2,h3,h4⟩
         ·exact Or.inl h
         ·exact Or.inr ⟨b',off',cap',cur',h1,h2,(Below.heap_setCell wr ⟨S,k,none⟩ _ b' (by have:=HS1.out;show b'≠S;omega)).trans h3,h4⟩
        have KW2:Hid (Below W0.heap.size W0 (wr.setCell ⟨S,k,none⟩ (.bool true))):=KW.out.setCell HS0.out _
        have KZ2:Hid (w1.heap.size≤(wr.setCell ⟨S,k,none⟩ (.bool true)).heap.size):=by
         show _≤_
         have:=KZ.out
         simpa using this
        clear o1 o3
        go_upto_region 13 with (fail)
        clear czt o2' KFF KWW ON
        generalize wr.setCell ⟨S,k,none⟩ (.bool true)=V at O1 ON2 KW2 KZ2 ⊢
        go_wp2_with fail
        refine (of_any B ub g iv nv fv tv ns I F HU.out k HKN.out _ (HP0.out.below KW2.out)).mono ?_
        rintro r w3 ⟨⟨v3,L3,rfl,hr⟩,hb⟩
        have HR3:=hid hr
        have KW3:=hid (below_step KW2.out hb)
        have ON3:=hid (ON2.out.below hb)
        have O3:Hid (w3.ownsRow S 4 1 (.slice (some ⟨S,0,none⟩) F.length F.length) F.length (blv (T.set k true))):=own_kept O1.out (fun q hq=>hb.block q (O1.out.lt q hq).2)
        have KZ3:Hid (w1.heap.size≤w3.heap.size):=Nat.le_trans KZ2.out hb.size
        have LB:Hid (len - 1+L3.length≤1000000):=by
         have h1:=KT.out.2
         have h2:=HL.out
         have h3:=hr.2.2
         show len - 1+L3.length≤1000000
         omega
        clear hr hb
        go_wp2_with (at_builtin;refine wpList_append_off _ rfl (.tmp 67) (.tmp 68) 120 rfl 3 k0 (.int .i64 0) Tryz.underlying120 HK0.out.1 HK0.out.2.1 HK0.out.2.2.1 HK0.out.2.2.2 rfl F.length w1.heap.size tq (len - 1) rfl ON3.out V.heap.size v3 L3 rfl HR3.out.1 HR3.out.2.1 LB.out KZ3.out ?_;intro v5 w5 ho5 hb5)
        have ON5:=hid ho5
        have KW5:Hid (Below W0.heap.size W0 w5):=KW3.out.trans (hb5.mono (by have h1:=HS0.out;have h2:=HS1.out;omega))
        have O5:Hid (w5.ownsRow S 4 1 (.slice (some ⟨S,0,none⟩) F.length F.length) F.length (blv (T.set k true))):=own_kept O3.out (fun q hq=>hb5.block q (by
         have e:S=q:=by simpa [Value.ownBlock] using hq
         have:=HS1.out
         omega))
        have KZ5:Hid (w1.heap.size≤w5.heap.size):=Nat.le_trans KZ3.out hb5.size
        clear ho5 hb5
        go_wp2_with fail
        go_roundg (fc (T.set k true)*2001+(len - 1+L3.length))
        case measure=>
         have h1:=HGJ.out
         have h2:=fc_set HTF.out
         have h3:=HR3.out.2.2
         have h4:=HLP.out
         omega
        case rel=>
         refine ⟨T.set k true,v5,len - 1+L3.length,rfl,rfl,⟨by rw [List.length_set];exact KT.out.1,?_⟩,O5,ON5,KW5,KZ5⟩
         have h1:=KT.out.2
         have h2:=fc_set HTF.out
         have h3:=HR3.out.2.2
         omega
       ·go_wp2_with fail
        go_roundg (fc T*2001+(len - 1))
        case measure=>
         have h1:=HGJ.out
         have h4:=HLP.out
         omega
        case rel=>
         refine ⟨T,tq,len - 1,rfl,rfl,⟨KT.out.1,?_⟩,KO,ON,KW,KZ⟩
         have h1:=KT.out.2
         omega
  ·have b1:((f:Int) < (F.length:Int))=False:=by simp;omega
   have F1:Hid (wr.heap[w.heap.size]?=some (.cells #[.int .i64 0,.int .i64 0] 44 (0,0))):=(KB.out.block _ (by have:=SF.out;omega)).trans FF.out
   obtain ⟨g0,g1,z0⟩:=fault_at F1.out
   have BWW:Hid (Below w.heap.size w wr):=FB.out.trans (KB.out.mono (by have:=SF.out;omega))
   clear hlt hf
   go_wp2_with fail
   obtain ⟨a2,a3⟩:=two_set (u:=.int .i64 0) (v:=.int .i64 0) F1.out
   refine bodyPost_ret (v:=.agg #[.int .i64 0,.int .i64 0]) (by simp [results,Tryz.results61,a2,a3,go_sem]) rfl ?_
   exact ⟨⟨0,0,rfl⟩,(BWW.out.setCell (Nat.le_refl _) _).setCell (Nat.le_refl _) _⟩
end
section
open Go.RowKit
theorem UM.task {B ub g:Nat} {iv nv fv tv:Value} {ns:List Ref.Nd} {I:List Iw} {F:List Ref.Fl} {w:World} (h:UM B ub g iv nv fv tv ns I F w) (hd:ub≠g∧nv.ownBlock≠some ub∧iv.ownBlock≠some ub∧fv.ownBlock≠some ub∧∀x,x∈I→x.nv.ownBlock≠some ub∧x.pv.ownBlock≠some ub) (tv':Value) :
  UM B ub g iv nv fv tv' ns I F (w.setCell ⟨ub,2,none⟩ tv')∧w.cell? ⟨ub,2,none⟩=some tv∧∀q,w.frozen? ⟨ub,q,none⟩=false:=by
 obtain ⟨d2,d3,d4,d6,d5⟩:=hd
 have oth:∀q,q≠ub→(w.setCell ⟨ub,2,none⟩ tv').heap[q]?=w.heap[q]?:=fun q hq=>Below.heap_setCell w ⟨ub,2,none⟩ _ q hq
 refine ⟨⟨?_,⟨⟨(oth g (Ne.symm d2)).trans h.pi.pm.pr,own_kept h.pi.pm.nod (fun q hq=>oth q (fun e=>d3 (e ▸ hq)))⟩,own_kept h.pi.own (fun q hq=>oth q (fun e=>d4 (e ▸ hq))),fun x hx=>⟨own_kept (h.pi.rows x hx).1 (fun q hq=>oth q (fun e=>(d5 x hx).1 (e ▸ hq))),own_kept (h.pi.rows x hx).2 (fun q hq=>oth q (fun e=>(d5 x hx).2 (e ▸ hq)))⟩⟩,own_kept h.fl (fun q hq=>oth q (fun e=>d6 (e ▸ hq)))⟩,h.cells.2.2,fun q=>?_⟩
 ·show (w.heap.modify ub _)[ub]?=_
  rw [Array.getElem?_modify,if_pos rfl,h.un];rfl
 ·unfold World.frozen?;rw [h.un];simp
theorem Tryz.infoTask:(Tryz.prog.info? 140).map (fun i=>(i.zero,i.size,i.bytes))=some (some (.agg #[.int .i64 0,.slice none 0 0]),2,32):=by kernel_rfl
set_option maxRecDepth 100000 in
theorem plan_any (B ub g:Nat) (iv nv fv:Value) (ns:List Ref.Nd) (I:List Iw) (F:List Ref.Fl) (hU:Uok ns I F) (hB:B≤ub) (hd:ub≠g∧nv.ownBlock≠some ub∧iv.ownBlock≠some ub∧fv.ownBlock≠some ub∧∀x,x∈I→x.nv.ownBlock≠some ub∧x.pv.ownBlock≠some ub) (w:World) (h:UM B ub g iv nv fv (.slice none 0 0) ns I F w) :
  Calls Tryz.prog 62 #[.pointer (some ⟨ub,0,none⟩)] w fun r w'=>(∃v,r=.returned v)∧Below B w w':=by
 have HD:=hid hd
 have HBU:Hid (B≤ub∧ub < w.heap.size):=⟨hB,(Array.getElem?_eq_some_iff.1 h.un).1⟩
 have HP:=hid h
 have HU:=hid hU
 have HL:Hid (F.length≤60):=hU.len
 obtain ⟨o2,c2,hfv⟩:=own_shape h.fl
 have HFV:=hid hfv
 obtain ⟨k0,hk0,kz0,kz1,kz2⟩:=info_parts Tryz.infoTask
 have HK0:Hid (Tryz.prog.info? 140=some k0∧k0.zero=some (.agg #[.int .i64 0,.slice none 0 0])∧k0.size=2∧k0.bytes=32):=⟨hk0,kz0,kz1,kz2⟩
 clear h hU hfv hk0 kz0 kz1 kz2 hd hB
 go_enter Tryz.func62,Tryz.ntmps62
 go_wp2_with fail
 go_loopg [2] 1000001 (fun gk s2 wr=>∃(last n:Nat) (tv:Value) (xs:List Value),s2=.int .i64 (last:Nat)∧gk=1000001 - last∧Hid (last≤1000000∧n≤last)∧Hid (UM B ub g iv nv fv tv ns I F wr)∧Hid (wr.ownsRow w.heap.size 140 2 tv n xs)∧Hid (Below B w wr∧w.heap.size≤wr.heap.size))
 case atStart=>exact ⟨0,0,.slice none 0 0,[],rfl,rfl,⟨Nat.zero_le _,Nat.le_refl _⟩,HP,World.ownsRow_nil _ _ _ _,⟨Below.refl _ _,Nat.le_refl _⟩⟩
 case round=>
  obtain ⟨last,n,tv,xs,rfl,hg,KL,KU,KO,KB⟩:=hrel
  have HG:=hid hg
  clear hg
  go_wp2_with fail
  go_loopg [3,4] F.length (fun gj s3 s4 wj=>∃(f p:Nat),s3=.int .i64 (p:Nat)∧s4=.int .i64 (f:Nat)∧f≤F.length∧gj=F.length - f∧Hid (p=0∨(last < p∧p≤1000000))∧Hid (Below wr.heap.size wr wj))
  case atStart=>exact ⟨0,0,rfl,rfl,Nat.zero_le _,rfl,Or.inl rfl,Below.refl _ _⟩
  case round=>
   obtain ⟨f,p,rfl,rfl,hf,hgj,KX,KJ⟩:=hrel
   have HGJ:=hid hgj
   have KUj:=hid (KU.out.below KJ.out)
   have d1:=KUj.out.cells.2.1
   rw [HFV.out] at d1
   clear hgj
   by_cases hlt:f < F.length
   ·have b0:((f:Int) < (F.length:Int))=True:=by simp;omega
    have i1:(0:Int)≤(f:Int):=by omega
    have i2:(f:Int) < (F.length:Int):=by omega
    have hy:F[f]?=some F[f]:=List.getElem?_eq_getElem hlt
    have HPE:Hid (F[f].pe≤1000000):=HU.out.pe _ (List.getElem_mem hlt)
    generalize F[f]=y at hy HPE
    obtain ⟨kf,cf,hvf,t0,t1,t2,t3,t4,t5⟩:=KUj.out.flow6 hy
    obtain ⟨he1,he2⟩:o2=some ⟨kf,0,none⟩∧c2=cf:=by
     rw [HFV.out] at hvf
     injection hvf with h1 h2 h3
     exact ⟨h1,h3⟩
    subst he1
    subst he2
    have HLT:=hid hlt
    have hw:IntKind.i64.wrap ((f:Int)+1)=(f:Int)+1:=by
     have:=HL.out
     simp only [IntKind.wrap_i64];omega
    have HBI:Hid (Below wr.heap.size wr (wr.alloc (.cells #[.string (bs y.name),.int .i64 (y.ty:Nat),.int .i64 (y.pe:Nat),.bool y.inp,.bool y.outp,.int .i64 (y.item:Nat)] 136))):=(Below.refl _ _).alloc (Nat.le_refl _) _
    have IB:Hid ((wr.alloc (.cells #[.string (bs y.name),.int .i64 (y.ty:Nat),.int .i64 (y.pe:Nat),.bool y.inp,.bool y.outp,.int .i64 (y.item:Nat)] 136)).heap[wr.heap.size]?=some (.cells #[.string (bs y.name),.int .i64 (y.ty:Nat),.int .i64 (y.pe:Nat),.bool y.inp,.bool y.outp,.int .i64 (y.item:Nat)] 136 (0,0))):=heap_alloc_new wr _
    clear hvf hlt hf hy
    go_upto_region 6 with (fail)
    clear t0 t1 t2 t3 t4 t5 d1
    have p2:(wr.alloc (.cells #[.string (bs y.name),.int .i64 (y.ty:Nat),.int .i64 (y.pe:Nat),.bool y.inp,.bool y.outp,.int .i64 (y.item:Nat)] 136)).cell? ⟨wr.heap.size,2,none⟩=some (.int .i64 (y.pe:Nat)):=(cell_of_row _ _ 2 _ _ _ IB.out).trans rfl
    have p3:(wr.alloc (.cells #[.string (bs y.name),.int .i64 (y.ty:Nat),.int .i64 (y.pe:Nat),.bool y.inp,.bool y.outp,.int .i64 (y.item:Nat)] 136)).cell? ⟨wr.heap.size,3,none⟩=some (.bool y.inp):=(cell_of_row _ _ 3 _ _ _ IB.out).trans rfl
    have WB:=hid (below_step KJ.out HBI.out)
    clear IB HBI KUj KJ
    generalize (wr.alloc (.cells #[.string (bs y.name),.int .i64 (y.ty:Nat),.int .i64 (y.pe:Nat),.bool y.inp,.bool y.outp,.int .i64 (y.item:Nat)] 136))=W at WB p2 p3 ⊢
    generalize wr.heap.size=ib at p2 p3 ⊢
    obtain ⟨yn,yt,yp,yi,yo,ym⟩:=y
    simp only [] at p2 p3 HPE
    have fin:∀pp:Nat,(pp=p∨(pp=yp∧last < yp))→(pp=0∨(last < pp∧pp≤1000000)):=fun pp h=>by
     rcases h with rfl | ⟨rfl,h⟩
     ·exact KX.out
     ·exact Or.inr ⟨h,HPE.out⟩
    have FIN:=hid fin
    clear fin
    cases yi
    ·by_cases hpp:last < yp
     ·have q1:((last:Int) < (yp:Int))=True:=by simp;omega
      have q1':(last < yp)=True:=by simp;omega
      have HQ:=hid hpp
      clear hpp
      by_cases hp0:p=0
      ·subst hp0
       go_wp2_with fail
       go_roundg (F.length - (f+1))
       case measure=>
        have h1:=HGJ.out
        have h2:=HLT.out
        omega
       case rel=>exact ⟨f+1,yp,rfl,rfl,HLT.out,rfl,FIN.out yp (Or.inr ⟨rfl,HQ.out⟩),WB⟩
      ·have q2:((p:Int)==0)=false:=by rw [beq_eq_false_iff_ne];omega
       clear hp0
       by_cases hyp:yp < p
       ·have q3:((yp:Int) < (p:Int))=True:=by simp;omega
        have q3':(yp < p)=True:=by simp;omega
        clear hyp
        go_wp2_with fail
        go_roundg (F.length - (f+1))
        case measure=>
         have h1:=HGJ.out
         have h2:=HLT.out
         omega
        case rel=>exact ⟨f+1,yp,rfl,rfl,HLT.out,rfl,FIN.out yp (Or.inr ⟨rfl,HQ.out⟩),WB⟩
       ·have q3:((yp:Int) < (p:Int))=False:=by simp;omega
        have q3':(yp < p)=False:=by simp;omega
        clear hyp
        go_wp2_with fail
        go_roundg (F.length - (f+1))
        case measure=>
         have h1:=HGJ.out
         have h2:=HLT.out
         omega
        case rel=>exact ⟨f+1,p,rfl,rfl,HLT.out,rfl,FIN.out p (Or.inl rfl),WB⟩
     ·have q1:((last:Int) < (yp:Int))=False:=by simp;omega
      have q1':(last < yp)=False:=by simp;omega
      clear hpp
      go_wp2_with fail
      go_roundg (F.length - (f+1))
      case measure=>
       have h1:=HGJ.out
       have h2:=HLT.out
       omega
      case rel=>exact ⟨f+1,p,rfl,rfl,HLT.out,rfl,FIN.out p (Or.inl rfl),WB⟩
    ·go_wp2_with fail
     go_roundg (F.length - (f+1))
     case measure=>
      have h1:=HGJ.out
      have h2:=HLT.out
      omega
     case rel=>exact ⟨f+1,p,rfl,rfl,HLT.out,rfl,FIN.out p (Or.inl rfl),WB⟩
   ·have b0:((f:Int) < (F.length:Int))=False:=by simp;omega
    clear hlt hf
    have KBj:Hid (Below B w wr∧w.heap.size≤wr.heap.size):=⟨KB.out.1.trans (KJ.out.mono (by have h1:=HBU.out;have h2:=KB.out.2;omega)),Nat.le_trans KB.out.2 KJ.out.size⟩
    have KOj:Hid (wr.ownsRow w.heap.size 140 2 tv n xs):=own_kept KO.out (fun q hq=>KJ.out.block q (KO.out.lt q hq).2)
    rcases KX.out with rfl | ⟨h1,h2⟩
    ·go_wp2_with fail
     all_goals exact bodyPost_ret (v:=.tuple #[]) (by simp [results,Tryz.results62,go_sem]) rfl ⟨⟨_,rfl⟩,KBj.out.1⟩
    ·have q0:((p:Int)==0)=false:=by rw [beq_eq_false_iff_ne];omega
     have HP2:Hid (last < p∧p≤1000000):=⟨h1,h2⟩
     clear h1 h2
     go_wp2_with fail
     refine (order_any B ub g iv nv fv tv ns I F HU.out p _ KUj.out).mono ?_
     rintro r w3 ⟨⟨v,L,rfl,hr⟩,hb⟩
     obtain ⟨ol,cl,hv⟩:=own_shape hr.1
     subst hv
     have KU3:=hid (KUj.out.below hb)
     have KO3:Hid (w3.ownsRow w.heap.size 140 2 tv n xs):=own_kept KOj.out (fun q hq=>hb.block q (KOj.out.lt q hq).2)
     have KB3:Hid (Below B w w3∧w.heap.size≤w3.heap.size):=⟨KBj.out.1.trans (hb.mono (by have h1:=HBU.out;have h2:=KBj.out.2;omega)),Nat.le_trans KBj.out.2 hb.size⟩
     have u2:=KU3.out.cells.2.2
     have VB:Hid (Below w3.heap.size w3 (w3.alloc (.cells #[.int .i64 (p:Nat),.slice ol L.length cl] 140))):=(Below.refl _ _).alloc (Nat.le_refl _) _
     have OW:Hid ((w3.alloc (.cells #[.int .i64 (p:Nat),.slice ol L.length cl] 140)).ownsRow w.heap.size 140 2 tv n xs):=own_kept KO3.out (fun q hq=>VB.out.block q (KO3.out.lt q hq).2)
     have NW:Hid (∀(j:Nat) (u:Value),[Value.int .i64 (p:Nat),.slice ol L.length cl][j]?=some u→(w3.alloc (.cells #[.int .i64 (p:Nat),.slice ol L.length cl] 140)).cell? ((⟨w3.heap.size,0,none⟩:Addr).add j)=some u):=fun j u h=>news_cells w3 [.int .i64 (p:Nat),.slice ol L.length cl] 140 j u h
     clear hr hb KUj KOj KBj d1
     go_wp2_with (at_builtin;refine wpList_append_lies _ rfl (.tmp 53) (.tmp 57) 127 rfl w.heap.size 140 k0 (.agg #[.int .i64 0,.slice none 0 0]) 2 32 Tryz.underlying127 HK0.out.1 HK0.out.2.1 HK0.out.2.2.1 HK0.out.2.2.2 rfl (by decide) tv n xs rfl OW.out ⟨w3.heap.size,0,none⟩ 1 1 [.int .i64 (p:Nat),.slice ol L.length cl] rfl rfl NW.out (by intro u hu;simp at hu;rcases hu with rfl | rfl <;> rfl) (by decide) (by unfold maxLen;have:=KL.out;omega) (by have:=KL.out;omega) (by have:=KB3.out.2;simp;omega) _ rfl ?_;intro k5 c5 w5 ho5 hg5 _ _;have HO5:Hid (w5.ownsRow w.heap.size 140 2 (.slice (some ⟨k5,0,none⟩) (n+1) c5) (n+1) (xs++[.int .i64 (p:Nat),.slice ol L.length cl])):=ho5;have HG5:Hid (World.grownBy (w3.alloc (.cells #[.int .i64 (p:Nat),.slice ol L.length cl] 140)) w5 tv.ownBlock):=hg5;clear ho5 hg5;obtain ⟨U5,x1,xz⟩:=UM.task (UM.grown (KU3.out.below VB.out) HG5.out (fun q hq=>HP.out.new (KO3.out.lt q hq).1)) HD.out (.slice (some ⟨k5,0,none⟩) (n+1) c5);have HU5:Hid (UM B ub g iv nv fv (.slice (some ⟨k5,0,none⟩) (n+1) c5) ns I F (w5.setCell ⟨ub,2,none⟩ (.slice (some ⟨k5,0,none⟩) (n+1) c5))):=U5;clear U5)
     go_roundg (1000001 - p)
     case measure=>
      have h1:=HG.out
      have h2:=HP2.out
      omega
     case rel=>
      have hs:w3.heap.size≤w5.heap.size:=Nat.le_trans VB.out.size HG5.out.size
      refine ⟨p,n+1,(.slice (some ⟨k5,0,none⟩) (n+1) c5),xs++[.int .i64 (p:Nat),.slice ol L.length cl],rfl,rfl,⟨HP2.out.2,?_⟩,HU5,own_kept HO5.out (fun q hq=>Below.heap_setCell w5 ⟨ub,2,none⟩ _ q ?_),⟨Below.setCell ?_ HBU.out.1 _,?_⟩⟩
      ·have h1:=HP2.out
       have h2:=KL.out
       omega
      ·have h1:=(HO5.out.lt q hq).1
       have h2:=HBU.out
       show q≠ub
       omega
      ·refine (KB3.out.1.alloc (by have h1:=HBU.out;have h2:=KB3.out.2;omega) _).trans ⟨HG5.out.os,HG5.out.tape,HG5.out.output,HG5.out.size,fun q hq=>HG5.out.block q (by have h1:=HBU.out;have h2:=KB3.out.2;simp;omega) (fun e=>?_)⟩
       have h1:=(KO3.out.lt q e.symm).1
       have h2:=HBU.out
       omega
      ·have h2:=KB3.out.2
       simp
       omega
end
section
open Go.RowKit
namespace Ref
open Mil
theorem brack_ge (t k:Nat) (l:List Tok):l.length≤(brackT t k l).length:=by
 unfold brackT
 split
 ·simp only [List.length_cons,List.length_append];omega
 ·exact Nat.le_refl _
theorem names_const {c:E} (h:isConst c):namesIn c=[]:=by
 rcases h with ⟨k,_,rfl⟩ | ⟨k,_,rfl⟩ | ⟨k,_,rfl⟩ <;> simp [namesIn,eInt,eBool,ePre]
theorem names_le:∀e:E,wf e false→(namesIn e).length≤(toks e).length:=by
 refine wf_induct (fun k _=>?_) (fun k _=>?_) (fun x _=>?_) (fun x a _ _ h=>?_) (fun x a b _ _ _ h1 h2=>?_) (fun a b c _ _ _ h1 h2 h3=>?_) (fun a b hc _ h=>?_) (fun a k _ _ _ h=>?_) (fun a b k _ _ hc _ h=>?_) (fun x a b _ _ _ h1 h2=>?_)
 ·simp [namesIn,eInt]
 ·simp [namesIn,eBool]
 ·simp [namesIn,eName,toks]
 ·have:=brack_ge (Mil.tight a) (preLvl x) (toks a)
  simp only [namesIn,ePre,toks,List.length_cons,List.length_append]
  simp
  omega
 ·have q1:=brack_ge (Mil.tight a) (Mil.leftOf (Mil.tightOf x)) (toks a)
  have q2:=brack_ge (Mil.tight b) (Mil.tightOf x+1) (toks b)
  simp only [namesIn,eTwo,toks,List.length_cons,List.length_append]
  simp
  omega
 ·simp only [namesIn,eIf,toks,List.length_cons,List.length_append]
  simp
  omega
 ·simp only [namesIn,eFby,toks,List.length_cons,List.length_append,names_const hc]
  simp
  omega
 ·simp only [namesIn,eUnder,toks,List.length_cons,List.length_append]
  simp
  omega
 ·simp only [namesIn,eHold,toks,List.length_cons,List.length_append,names_const hc]
  simp
  omega
 ·simp only [namesIn,eLeast,toks,List.length_cons,List.length_append]
  simp
  omega
theorem Reps.mem {ns:List Nd} {x:Im}:∀{I:List Im} {l:List It},Reps ns I l→x∈I→∃i,i∈l∧ItRep ns x i
 | [],_,_,h=>by cases h
 | _::_,[],h,_=>h.elim
 | y::I,i::l,h,hx=>by
  rcases List.mem_cons.1 hx with rfl | hx
  ·exact ⟨i,List.mem_cons_self,h.1⟩
  ·obtain ⟨j,hj,hr⟩:=Reps.mem h.2 hx
   exact ⟨j,List.mem_cons_of_mem _ hj,hr⟩
end Ref
structure Ik (ns:List Ref.Nd) (I:List Iw):Prop where
 len:I.length≤60
 names:∀y,y∈I→y.im.names.length≤4000
 kind:∀y,y∈I→y.im.kind=1∨y.im.kind=2∨y.im.kind=3
 trees:∀y,y∈I→y.im.kind=3→∃e,Mil.wf e false∧Ref.Has ns e y.im.expr∧(Ref.namesIn e).length≤2000
 per:∀y,y∈I→y.im.period≤1000000∧(y.im.kind=1→1≤y.im.period)
theorem ik_of {ns:List Ref.Nd} {I:List Iw} {l:List Mil.It} (hR:Ref.Reps ns (I.map Iw.im) l) (hok:∀i,i∈l→Mil.ItOk i) (hln:l.length≤60) (ht:(Mil.allToks l).length≤600):Ik ns I:=by
 have look:∀y,y∈I→∃i,i∈l∧Ref.ItRep ns y.im i:=fun y hy=>hR.mem (List.mem_map_of_mem hy)
 refine ⟨?_,fun y hy=>?_,fun y hy=>?_,fun y hy h3=>?_,fun y hy=>?_⟩
 ·have:=hR.len
  rw [List.length_map] at this
  omega
 ·obtain ⟨i,hi,hr⟩:=look y hy
  have hl:=congrArg List.length hr.2.2.2.2.1
  rw [List.length_map] at hl
  rw [hl]
  rcases hok i hi with ⟨x,t,k,rfl,_⟩ | ⟨x,r,rfl,_⟩ | ⟨x,t,e,rfl,_⟩
  ·simp
  ·have:=Ref.outToks (Ref.toks_mem hi ht)
   simp only [List.length_cons]
   omega
  ·simp
 ·obtain ⟨i,hi,hr⟩:=look y hy
  rw [hr.1]
  exact hr.2.2.2.2.2.2
 ·obtain ⟨i,hi,hr⟩:=look y hy
  rw [hr.1] at h3
  have hh:=hr.2.2.2.2.2.1 h3
  have htk:=Ref.toks_mem hi ht
  rcases hok i hi with ⟨x,t,k,rfl,_⟩ | ⟨x,r,rfl,_⟩ | ⟨x,t,e,rfl,_,_,hw⟩
  ·cases h3
  ·cases h3
  ·refine ⟨e,hw,hh,?_⟩
   have h1:=Ref.names_le e hw
   have h2:=Ref.eqToks htk
   omega
 ·obtain ⟨i,hi,hr⟩:=look y hy
  rw [hr.1,hr.2.2.2.1]
  rcases hok i hi with ⟨x,t,k,rfl,_,_,h1,h2⟩ | ⟨x,r,rfl,_⟩ | ⟨x,t,e,rfl,_⟩
  ·exact ⟨h2,fun _=>h1⟩
  ·exact ⟨by simp,fun h=>by cases h⟩
  ·exact ⟨by simp,fun h=>by cases h⟩
end
end Go.Proofs.YtoiajojadihpbaaGreatDoor
