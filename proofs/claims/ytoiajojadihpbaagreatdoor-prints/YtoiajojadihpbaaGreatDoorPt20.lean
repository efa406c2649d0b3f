import Derived.Test.YtoiajojadihpbaaGreatDoorPt19
import Derived.Laws.AppendOwn
import Derived.OwnWalk
namespace Go.Proofs.YtoiajojadihpbaaGreatDoor
set_option maxHeartbeats 8000000
section
open Go.RowKit
namespace Ref
open Mil
def mark (n len:Nat) (t:Tk):Tk:=if n=600∧t.at_≠len∧t.e=0 then { t with e:=1 } else t
def rscan (b:Bytes):Nat→Nat→List Tk→Option (List Tk)
 | 0,_,_=>none
 | n+1,p,acc=>
  if (rnext b p).at_=b.length∨(mark acc.length b.length (rnext b p)).e≠0 then some (acc++[mark acc.length b.length (rnext b p)])
  else rscan b n ((rnext b p).at_+(rnext b p).t.length) (acc++[mark acc.length b.length (rnext b p)])
def Scans (b:Bytes) (p:Nat) (acc T:List Tk):Prop:=∃n,rscan b n p acc=some T
theorem scans_stop {b:Bytes} {p:Nat} {acc:List Tk} (h:(rnext b p).at_=b.length∨(mark acc.length b.length (rnext b p)).e≠0):Scans b p acc (acc++[mark acc.length b.length (rnext b p)]):=
 ⟨1,by rw [rscan,if_pos h]⟩
theorem scans_go {b:Bytes} {p:Nat} {acc T:List Tk} (h:¬((rnext b p).at_=b.length∨(mark acc.length b.length (rnext b p)).e≠0)) (k:Scans b ((rnext b p).at_+(rnext b p).t.length) (acc++[mark acc.length b.length (rnext b p)]) T):Scans b p acc T:=by
 obtain ⟨n,hn⟩:=k
 exact ⟨n+1,by rw [rscan,if_neg h];exact hn⟩
theorem skip_le:∀(f:Bool) (b:Bytes),(skip f b).length≤b.length
 | _,[]=>by simp [skip]
 | true,c::r=>by
  rw [skip]
  split
  ·have:=skip_le false r;simp;omega
  ·have:=skip_le true r;simp;omega
 | false,c::r=>by
  rw [skip]
  split
  ·have:=skip_le false r;simp;omega
  ·split
   ·have:=skip_le true r;simp;omega
   ·exact Nat.le_refl _
theorem tokAt_len (r:Bytes) (p:Nat):(tokAt r p).at_=p∧(tokAt r p).t.length≤r.length∧((tokAt r p).e=0→r≠[]→1≤(tokAt r p).t.length):=by
 unfold tokAt
 match r with
 | []=>exact ⟨rfl,Nat.le_refl _,fun _ h=>absurd rfl h⟩
 | c::r=>
  simp only []
  have tw:∀f:UInt8→Bool,((c::r).takeWhile f).length≤(c::r).length:=fun f=>(List.takeWhile_sublist f).length_le
  have t1:∀f:UInt8→Bool,f c=true→1≤((c::r).takeWhile f).length:=fun f hf=>by rw [List.takeWhile_cons,if_pos hf];simp
  split
  ·rename_i hL
   refine ⟨rfl,tw _,fun _ _=>t1 _ ?_⟩
   unfold isN;rw [hL];rfl
  ·split
   ·rename_i hD
    exact ⟨rfl,tw _,fun _ _=>t1 _ hD⟩
   ·split
    ·exact ⟨rfl,Nat.zero_le _,fun h=>by cases h⟩
    ·rename_i h0
     refine ⟨rfl,by simp;omega,fun _ _=>?_⟩
     simp;omega
theorem rnext_adv (b:Bytes) (p:Nat) (hp:p≤b.length):p≤(rnext b p).at_∧(rnext b p).at_≤b.length∧(rnext b p).at_+(rnext b p).t.length≤b.length∧((rnext b p).e=0→(rnext b p).at_≠b.length→1≤(rnext b p).t.length):=by
 have h1:=skip_le false (b.drop p)
 have h2:(b.drop p).length=b.length - p:=by simp
 obtain ⟨a1,a2,a3⟩:=tokAt_len (skip false (b.drop p)) (b.length - (skip false (b.drop p)).length)
 unfold rnext
 rw [a1]
 refine ⟨by omega,by omega,by omega,fun he hn=>a3 he ?_⟩
 intro h
 rw [h] at hn
 simp at hn
end Ref
theorem Tryz.infoToken:(Tryz.prog.info? 104).map (fun i=>(i.zero,i.size,i.bytes))=some (some (.agg #[.string ⟨#[]⟩,.int .i64 0,.bool false,.bool false,.int .i64 0,.int .i64 0]),6,48):=by kernel_rfl
abbrev tks (T:List Ref.Tk):List Value:=T.flatMap Ref.tokCells
theorem own_shape {w:World} {base:Nat} {e:TypeId} {size:Nat} {v:Value} {n:Nat} {xs:List Value} (ho:w.ownsRow base e size v n xs):∃o c,v=.slice o n c:=by
 rcases ho.2 with ⟨h,h0⟩ | ⟨g,cap,cur,h,_⟩
 ·exact ⟨none,0,by rw [h,h0]⟩
 ·exact ⟨_,_,h⟩
theorem own_grown {w w':World} {base:Nat} (hb:base≤w.heap.size) {u:World} {row:Option Nat} (h:Below base u w) (hg:w.grownBy w' row) (hr:∀k,row=some k→base≤k):Below base u w':=
 h.trans ⟨hg.os,hg.tape,hg.output,hg.size,fun k hk=>hg.block k (by omega) (fun e=>by have:=hr k e.symm;omega)⟩
theorem news_cells (w:World) (cs:List Value) (e:TypeId) (j:Nat) (u:Value) (h:cs[j]?=some u):(w.alloc (.cells cs.toArray e)).cell? ((⟨w.heap.size,0,none⟩:Addr).add j)=some u:=by
 have e1:((⟨w.heap.size,0,none⟩:Addr).add j)=⟨w.heap.size,j,none⟩:=by
  unfold Addr.add
  split
  ·rename_i h;rw [h]
  ·simp
 rw [e1,cell_of_row _ _ j _ _ _ (heap_alloc_new w _)]
 simpa using h
theorem var_kept {w1 w4:World} {A:Array Value} {e:TypeId} {o2:Obj} {v:Value} {base:Nat} {e':TypeId} {size n:Nat} {xs:List Value} (hg:((w1.alloc (.cells A e)).alloc o2).grownBy w4 v.ownBlock) (ho:w1.ownsRow base e' size v n xs) (i:Nat) :
  w4.cell? ⟨w1.heap.size,i,none⟩=A[i]?:=by
 have h1:w4.heap[w1.heap.size]?=((w1.alloc (.cells A e)).alloc o2).heap[w1.heap.size]?:=hg.block _ (by simp;omega) (fun h=>by have:=(ho.lt _ h.symm).2;omega)
 have h2:((w1.alloc (.cells A e)).alloc o2).heap[w1.heap.size]?=some (.cells A e (0,0)):=(Below.heap_alloc (w1.alloc (.cells A e)) o2 _ (by simp)).trans (heap_alloc_new w1 _)
 exact cell_of_row w4 _ i _ _ _ (h1.trans h2)
theorem bs_len (x:Mil.Bytes):(bs x).size=x.length:=by simp [bs,ByteArray.size]
theorem tok_one (k:Ref.Tk):∀u∈Ref.tokCells k,u.oneCell'=true:=by
 intro u hu
 simp [Ref.tokCells] at hu
 rcases hu with rfl | rfl | rfl | rfl | rfl | rfl <;> rfl
set_option maxRecDepth 100000 in
theorem scan_any (s:ByteArray) (hs:s.size≤4000) (w:World) :
  Calls Tryz.prog 47 #[.string s] w fun e w'=>∃v T,e=.returned v∧Ref.Scans s.data.toList 0 [] T∧w'.ownsRow w.heap.size 104 6 v T.length (tks T)∧Below w.heap.size w w':=by
 obtain ⟨i0,hi,hz0,hz1,hz2⟩:=info_parts Tryz.infoToken
 have hlen:s.data.toList.length=s.size:=by simp
 go_enter Tryz.func47,Tryz.ntmps47
 go_wp2_with fail
 go_loopg [3,4] s.size (fun gk s3 s4 wr=>∃(p:Nat) (acc:List Ref.Tk),p≤s.size∧s4=.int .i64 p∧gk=s.size - p∧Hid (wr.ownsRow w.heap.size 104 6 s3 acc.length (tks acc))∧Hid (Below w.heap.size w wr)∧Hid (∀T,Ref.Scans s.data.toList p acc T→Ref.Scans s.data.toList 0 [] T)∧acc.length≤p)
 case atStart=>exact ⟨0,[],Nat.zero_le _,rfl,rfl,World.ownsRow_nil _ _ _ _,Below.refl _ _,fun T h=>h,Nat.le_refl _⟩
 case round=>
  obtain ⟨p,acc,hp,rfl,hg,HO,HB,HS,hacc⟩:=hrel
  have HG:=hid hg
  clear hg
  obtain ⟨o,c,hv⟩:=own_shape HO.out
  rw [hv] at HO ⊢
  clear hv
  go_wp2_with fail
  refine (next_any s p hp hs _).mono ?_
  rintro e w1 ⟨rfl,hb1⟩
  have HB1:Hid (Below w.heap.size w w1):=HB.out.trans (hb1.mono HB.out.size)
  have HO1:Hid (w1.ownsRow w.heap.size 104 6 (.slice o acc.length c) acc.length (tks acc)):=by
   refine ⟨HO.out.1,?_⟩
   rcases HO.out.2 with hn | ⟨g,cap,cur,h0,hbg,hgg,rest⟩
   ·exact .inl hn
   ·exact .inr ⟨g,cap,cur,h0,hbg,(hb1.block g (Array.getElem?_eq_some_iff.1 hgg).1).trans hgg,rest⟩
  have hadv:=Ref.rnext_adv s.data.toList p (by omega)
  have HT:Hid (∃t,Ref.rnext s.data.toList p=t):=⟨_,rfl⟩
  generalize htk:Ref.rnext s.data.toList p=t at hadv ⊢
  have HK:=hid htk
  clear htk HT hb1 HB HO
  obtain ⟨tt,ta,tn,tm,tv,te⟩:=t
  have hvv:Ref.tokV ⟨tt,ta,tn,tm,tv,te⟩=.agg #[.string (bs tt),.int .i64 (ta:Nat),.bool tn,.bool tm,.int .i64 (tv:Nat),.int .i64 (te:Nat)]:=rfl
  rw [hvv]
  clear hvv
  obtain ⟨a1,a2,a3,a4⟩:=hadv
  simp only [hlen] at a1 a2 a3 a4
  have c4:(acc.length+1)*48≤140737488355328:=by omega
  have c5:∀A B:Array Value,w.heap.size≤((w1.alloc (.cells A 104)).alloc (.cells B 104)).heap.size:=fun A B=>Nat.le_trans HB1.out.size (by simp;omega)
  have C5:=hid c5
  clear c5
  by_cases hend:ta=s.size
  ·by_cases h6:acc.length=600
   ·by_cases h0:te=0
    ·have b1:((ta:Int)==(s.size:Int))=true:=by have:=hend;simp;omega
     have b2:((acc.length:Int)==600)=true:=by have:=h6;simp;omega
     have b3:((te:Int)==0)=true:=by have:=h0;simp;omega
     have b4:((te:Int) != 0)=false:=by have:=h0;simp;omega
     have HEND:=hid hend
     have H6:=hid h6
     have H0:=hid h0
     have HM:Hid (Ref.mark acc.length s.data.toList.length (Ref.rnext s.data.toList p)=⟨tt,ta,tn,tm,tv,te⟩):=by
      show _=_
      rw [HK.out]
      unfold Ref.mark
      rw [if_neg (fun h=>by have q1:=h.1;have q2:ta≠_:=h.2.1;have q3:te=0:=h.2.2;omega)]
     clear hend h6 h0
     have hnews:∀(j:Nat) (u:Value),(Ref.tokCells ⟨tt,ta,tn,tm,tv,te⟩)[j]?=some u→((w1.alloc (.cells #[.string (bs tt),.int .i64 (ta:Nat),.bool tn,.bool tm,.int .i64 (tv:Nat),.int .i64 (te:Nat)] 104)).alloc (.cells #[.string (bs tt),.int .i64 (ta:Nat),.bool tn,.bool tm,.int .i64 (tv:Nat),.int .i64 (te:Nat)] 104)).cell? ((⟨w1.heap.size+1,0,none⟩:Addr).add j)=some u:=fun j u h=>by
      have:=news_cells (w1.alloc (.cells #[.string (bs tt),.int .i64 (ta:Nat),.bool tn,.bool tm,.int .i64 (tv:Nat),.int .i64 (te:Nat)] 104)) (Ref.tokCells ⟨tt,ta,tn,tm,tv,te⟩) 104 j u h
      rw [show (w1.alloc (.cells #[.string (bs tt),.int .i64 (ta:Nat),.bool tn,.bool tm,.int .i64 (tv:Nat),.int .i64 (te:Nat)] 104)).heap.size=w1.heap.size+1 by simp] at this
      exact this
     have HNW:=hid hnews
     clear hnews
     go_wp2_with (at_builtin;refine wpList_append_own _ rfl _ _ 95 rfl w.heap.size 104 i0 (.agg #[.string ⟨#[]⟩,.int .i64 0,.bool false,.bool false,.int .i64 0,.int .i64 0]) 6 48 Tryz.underlying95 hi hz0 hz1 hz2 rfl (by decide) (.slice o acc.length c) acc.length (tks acc) rfl ((HO1.out.alloc _).alloc _) ⟨w1.heap.size+1,0,none⟩ 1 1 (Ref.tokCells ⟨tt,ta,tn,tm,tv,te⟩) rfl rfl HNW.out (tok_one _) (by unfold maxLen;omega) c4 (C5.out _ _) ?_;intro v4 w4 O4 hg4 hn4;have q0:w4.cell? ⟨w1.heap.size,0,none⟩=some (.string (bs tt)):=var_kept hg4 HO1.out 0;have q1:w4.cell? ⟨w1.heap.size,1,none⟩=some (.int .i64 (ta:Nat)):=var_kept hg4 HO1.out 1;have q5:w4.cell? ⟨w1.heap.size,5,none⟩=some (.int .i64 (te:Nat)):=var_kept hg4 HO1.out 5)
     have hrow:∀k,(Value.slice o acc.length c).ownBlock=some k→w.heap.size≤k:=fun k hk=>(HO1.out.lt k hk).1
     have HB4:Hid (Below w.heap.size w w4):=own_grown (C5.out _ _) ((HB1.out.alloc HB1.out.size _).alloc (Nat.le_trans HB1.out.size (by simp)) _) hg4 hrow
     have HO4:Hid (w4.ownsRow w.heap.size 104 6 v4 (acc++[Ref.mark acc.length s.data.toList.length (Ref.rnext s.data.toList p)]).length (tks (acc++[Ref.mark acc.length s.data.toList.length (Ref.rnext s.data.toList p)]))):=by
      show w4.ownsRow _ _ _ _ _ _
      rw [HM.out,List.length_append,show tks (acc++[⟨tt,ta,tn,tm,tv,te⟩])=tks acc++Ref.tokCells ⟨tt,ta,tn,tm,tv,te⟩ from by simp [tks]]
      exact O4
     go_ret
     exact ⟨v4,_,rfl,HS.out _ (Ref.scans_stop (Or.inl (by rw [HK.out];show ta=_;have:=HEND.out;omega))),HO4.out,HB4.out⟩
    ·have b1:((ta:Int)==(s.size:Int))=true:=by have:=hend;simp;omega
     have b2:((acc.length:Int)==600)=true:=by have:=h6;simp;omega
     have b3:((te:Int)==0)=false:=by have:=h0;simp;omega
     have b4:((te:Int) != 0)=true:=by have:=h0;simp;omega
     have HEND:=hid hend
     have H6:=hid h6
     have H0:=hid h0
     have HM:Hid (Ref.mark acc.length s.data.toList.length (Ref.rnext s.data.toList p)=⟨tt,ta,tn,tm,tv,te⟩):=by
      show _=_
      rw [HK.out]
      unfold Ref.mark
      rw [if_neg (fun h=>by have q1:=h.1;have q2:ta≠_:=h.2.1;have q3:te=0:=h.2.2;omega)]
     clear hend h6 h0
     have hnews:∀(j:Nat) (u:Value),(Ref.tokCells ⟨tt,ta,tn,tm,tv,te⟩)[j]?=some u→((w1.alloc (.cells #[.string (bs tt),.int .i64 (ta:Nat),.bool tn,.bool tm,.int .i64 (tv:Nat),.int .i64 (te:Nat)] 104)).alloc (.cells #[.string (bs tt),.int .i64 (ta:Nat),.bool tn,.bool tm,.int .i64 (tv:Nat),.int .i64 (te:Nat)] 104)).cell? ((⟨w1.heap.size+1,0,none⟩:Addr).add j)=some u:=fun j u h=>by
      have:=news_cells (w1.alloc (.cells #[.string (bs tt),.int .i64 (ta:Nat),.bool tn,.bool tm,.int .i64 (tv:Nat),.int .i64 (te:Nat)] 104)) (Ref.tokCells ⟨tt,ta,tn,tm,tv,te⟩) 104 j u h
      rw [show (w1.alloc (.cells #[.string (bs tt),.int .i64 (ta:Nat),.bool tn,.bool tm,.int .i64 (tv:Nat),.int .i64 (te:Nat)] 104)).heap.size=w1.heap.size+1 by simp] at this
      exact this
     have HNW:=hid hnews
     clear hnews
     go_wp2_with (at_builtin;refine wpList_append_own _ rfl _ _ 95 rfl w.heap.size 104 i0 (.agg #[.string ⟨#[]⟩,.int .i64 0,.bool false,.bool false,.int .i64 0,.int .i64 0]) 6 48 Tryz.underlying95 hi hz0 hz1 hz2 rfl (by decide) (.slice o acc.length c) acc.length (tks acc) rfl ((HO1.out.alloc _).alloc _) ⟨w1.heap.size+1,0,none⟩ 1 1 (Ref.tokCells ⟨tt,ta,tn,tm,tv,te⟩) rfl rfl HNW.out (tok_one _) (by unfold maxLen;omega) c4 (C5.out _ _) ?_;intro v4 w4 O4 hg4 hn4;have q0:w4.cell? ⟨w1.heap.size,0,none⟩=some (.string (bs tt)):=var_kept hg4 HO1.out 0;have q1:w4.cell? ⟨w1.heap.size,1,none⟩=some (.int .i64 (ta:Nat)):=var_kept hg4 HO1.out 1;have q5:w4.cell? ⟨w1.heap.size,5,none⟩=some (.int .i64 (te:Nat)):=var_kept hg4 HO1.out 5)
     have hrow:∀k,(Value.slice o acc.length c).ownBlock=some k→w.heap.size≤k:=fun k hk=>(HO1.out.lt k hk).1
     have HB4:Hid (Below w.heap.size w w4):=own_grown (C5.out _ _) ((HB1.out.alloc HB1.out.size _).alloc (Nat.le_trans HB1.out.size (by simp)) _) hg4 hrow
     have HO4:Hid (w4.ownsRow w.heap.size 104 6 v4 (acc++[Ref.mark acc.length s.data.toList.length (Ref.rnext s.data.toList p)]).length (tks (acc++[Ref.mark acc.length s.data.toList.length (Ref.rnext s.data.toList p)]))):=by
      show w4.ownsRow _ _ _ _ _ _
      rw [HM.out,List.length_append,show tks (acc++[⟨tt,ta,tn,tm,tv,te⟩])=tks acc++Ref.tokCells ⟨tt,ta,tn,tm,tv,te⟩ from by simp [tks]]
      exact O4
     go_ret
     exact ⟨v4,_,rfl,HS.out _ (Ref.scans_stop (Or.inl (by rw [HK.out];show ta=_;have:=HEND.out;omega))),HO4.out,HB4.out⟩
   ·by_cases h0:te=0
    ·have b1:((ta:Int)==(s.size:Int))=true:=by have:=hend;simp;omega
     have b2:((acc.length:Int)==600)=false:=by have:=h6;simp;omega
     have b3:((te:Int)==0)=true:=by have:=h0;simp;omega
     have b4:((te:Int) != 0)=false:=by have:=h0;simp;omega
     have HEND:=hid hend
     have H6:=hid h6
     have H0:=hid h0
     have HM:Hid (Ref.mark acc.length s.data.toList.length (Ref.rnext s.data.toList p)=⟨tt,ta,tn,tm,tv,te⟩):=by
      show _=_
      rw [HK.out]
      unfold Ref.mark
      rw [if_neg (fun h=>by have q1:=h.1;have q2:ta≠_:=h.2.1;have q3:te=0:=h.2.2;omega)]
     clear hend h6 h0
     have hnews:∀(j:Nat) (u:Value),(Ref.tokCells ⟨tt,ta,tn,tm,tv,te⟩)[j]?=some u→((w1.alloc (.cells #[.string (bs tt),.int .i64 (ta:Nat),.bool tn,.bool tm,.int .i64 (tv:Nat),.int .i64 (te:Nat)] 104)).alloc (.cells #[.string (bs tt),.int .i64 (ta:Nat),.bool tn,.bool tm,.int .i64 (tv:Nat),.int .i64 (te:Nat)] 104)).cell? ((⟨w1.heap.size+1,0,none⟩:Addr).add j)=some u:=fun j u h=>by
      have:=news_cells (w1.alloc (.cells #[.string (bs tt),.int .i64 (ta:Nat),.bool tn,.bool tm,.int .i64 (tv:Nat),.int .i64 (te:Nat)] 104)) (Ref.tokCells ⟨tt,ta,tn,tm,tv,te⟩) 104 j u h
      rw [show (w1.alloc (.cells #[.string (bs tt),.int .i64 (ta:Nat),.bool tn,.bool tm,.int .i64 (tv:Nat),.int .i64 (te:Nat)] 104)).heap.size=w1.heap.size+1 by simp] at this
      exact this
     have HNW:=hid hnews
     clear hnews
     go_wp2_with (at_builtin;refine wpList_append_own _ rfl _ _ 95 rfl w.heap.size 104 i0 (.agg #[.string ⟨#[]⟩,.int .i64 0,.bool false,.bool false,.int .i64 0,.int .i64 0]) 6 48 Tryz.underlying95 hi hz0 hz1 hz2 rfl (by decide) (.slice o acc.length c) acc.length (tks acc) rfl ((HO1.out.alloc _).alloc _) ⟨w1.heap.size+1,0,none⟩ 1 1 (Ref.tokCells ⟨tt,ta,tn,tm,tv,te⟩) rfl rfl HNW.out (tok_one _) (by unfold maxLen;omega) c4 (C5.out _ _) ?_;intro v4 w4 O4 hg4 hn4;have q0:w4.cell? ⟨w1.heap.size,0,none⟩=some (.string (bs tt)):=var_kept hg4 HO1.out 0;have q1:w4.cell? ⟨w1.heap.size,1,none⟩=some (.int .i64 (ta:Nat)):=var_kept hg4 HO1.out 1;have q5:w4.cell? ⟨w1.heap.size,5,none⟩=some (.int .i64 (te:Nat)):=var_kept hg4 HO1.out 5)
     have hrow:∀k,(Value.slice o acc.length c).ownBlock=some k→w.heap.size≤k:=fun k hk=>(HO1.out.lt k hk).1
     have HB4:Hid (Below w.heap.size w w4):=own_grown (C5.out _ _) ((HB1.out.alloc HB1.out.size _).alloc (Nat.le_trans HB1.out.size (by simp)) _) hg4 hrow
     have HO4:Hid (w4.ownsRow w.heap.size 104 6 v4 (acc++[Ref.mark acc.length s.data.toList.length (Ref.rnext s.data.toList p)]).length (tks (acc++[Ref.mark acc.length s.data.toList.length (Ref.rnext s.data.toList p)]))):=by
      show w4.ownsRow _ _ _ _ _ _
      rw [HM.out,List.length_append,show tks (acc++[⟨tt,ta,tn,tm,tv,te⟩])=tks acc++Ref.tokCells ⟨tt,ta,tn,tm,tv,te⟩ from by simp [tks]]
      exact O4
     go_ret
     exact ⟨v4,_,rfl,HS.out _ (Ref.scans_stop (Or.inl (by rw [HK.out];show ta=_;have:=HEND.out;omega))),HO4.out,HB4.out⟩
    ·have b1:((ta:Int)==(s.size:Int))=true:=by have:=hend;simp;omega
     have b2:((acc.length:Int)==600)=false:=by have:=h6;simp;omega
     have b3:((te:Int)==0)=false:=by have:=h0;simp;omega
     have b4:((te:Int) != 0)=true:=by have:=h0;simp;omega
     have HEND:=hid hend
     have H6:=hid h6
     have H0:=hid h0
     have HM:Hid (Ref.mark acc.length s.data.toList.length (Ref.rnext s.data.toList p)=⟨tt,ta,tn,tm,tv,te⟩):=by
      show _=_
      rw [HK.out]
      unfold Ref.mark
      rw [if_neg (fun h=>by have q1:=h.1;have q2:ta≠_:=h.2.1;have q3:te=0:=h.2.2;omega)]
     clear hend h6 h0
     have hnews:∀(j:Nat) (u:Value),(Ref.tokCells ⟨tt,ta,tn,tm,tv,te⟩)[j]?=some u→((w1.alloc (.cells #[.string (bs tt),.int .i64 (ta:Nat),.bool tn,.bool tm,.int .i64 (tv:Nat),.int .i64 (te:Nat)] 104)).alloc (.cells #[.string (bs tt),.int .i64 (ta:Nat),.bool tn,.bool tm,.int .i64 (tv:Nat),.int .i64 (te:Nat)] 104)).cell? ((⟨w1.heap.size+1,0,none⟩:Addr).add j)=some u:=fun j u h=>by
      have:=news_cells (w1.alloc (.cells #[.string (bs tt),.int .i64 (ta:Nat),.bool tn,.bool tm,.int .i64 (tv:Nat),.int .i64 (te:Nat)] 104)) (Ref.tokCells ⟨tt,ta,tn,tm,tv,te⟩) 104 j u h
      rw [show (w1.alloc (.cells #[.string (bs tt),.int .i64 (ta:Nat),.bool tn,.bool tm,.int .i64 (tv:Nat),.int .i64 (te:Nat)] 104)).heap.size=w1.heap.size+1 by simp] at this
      exact this
     have HNW:=hid hnews
     clear hnews
     go_wp2_with (at_builtin;refine wpList_append_own _ rfl _ _ 95 rfl w.heap.size 104 i0 (.agg #[.string ⟨#[]⟩,.int .i64 0,.bool false,.bool false,.int .i64 0,.int .i64 0]) 6 48 Tryz.underlying95 hi hz0 hz1 hz2 rfl (by decide) (.slice o acc.length c) acc.length (tks acc) rfl ((HO1.out.alloc _).alloc _) ⟨w1.heap.size+1,0,none⟩ 1 1 (Ref.tokCells ⟨tt,ta,tn,tm,tv,te⟩) rfl rfl HNW.out (tok_one _) (by unfold maxLen;omega) c4 (C5.out _ _) ?_;intro v4 w4 O4 hg4 hn4;have q0:w4.cell? ⟨w1.heap.size,0,none⟩=some (.string (bs tt)):=var_kept hg4 HO1.out 0;have q1:w4.cell? ⟨w1.heap.size,1,none⟩=some (.int .i64 (ta:Nat)):=var_kept hg4 HO1.out 1;have q5:w4.cell? ⟨w1.heap.size,5,none⟩=some (.int .i64 (te:Nat)):=var_kept hg4 HO1.out 5)
     have hrow:∀k,(Value.slice o acc.length c).ownBlock=some k→w.heap.size≤k:=fun k hk=>(HO1.out.lt k hk).1
     have HB4:Hid (Below w.heap.size w w4):=own_grown (C5.out _ _) ((HB1.out.alloc HB1.out.size _).alloc (Nat.le_trans HB1.out.size (by simp)) _) hg4 hrow
     have HO4:Hid (w4.ownsRow w.heap.size 104 6 v4 (acc++[Ref.mark acc.length s.data.toList.length (Ref.rnext s.data.toList p)]).length (tks (acc++[Ref.mark acc.length s.data.toList.length (Ref.rnext s.data.toList p)]))):=by
      show w4.ownsRow _ _ _ _ _ _
      rw [HM.out,List.length_append,show tks (acc++[⟨tt,ta,tn,tm,tv,te⟩])=tks acc++Ref.tokCells ⟨tt,ta,tn,tm,tv,te⟩ from by simp [tks]]
      exact O4
     go_ret
     exact ⟨v4,_,rfl,HS.out _ (Ref.scans_stop (Or.inl (by rw [HK.out];show ta=_;have:=HEND.out;omega))),HO4.out,HB4.out⟩
  ·by_cases h6:acc.length=600
   ·by_cases h0:te=0
    ·have b1:((ta:Int)==(s.size:Int))=false:=by have:=hend;simp;omega
     have b2:((acc.length:Int)==600)=true:=by have:=h6;simp;omega
     have b3:((te:Int)==0)=true:=by have:=h0;simp;omega
     have b4:((te:Int) != 0)=false:=by have:=h0;simp;omega
     have HEND:=hid hend
     have H6:=hid h6
     have H0:=hid h0
     have HM:Hid (Ref.mark acc.length s.data.toList.length (Ref.rnext s.data.toList p)=⟨tt,ta,tn,tm,tv,1⟩):=by
      show _=_
      rw [HK.out]
      unfold Ref.mark
      rw [if_pos ⟨h6,by show ta≠_;omega,h0⟩]
     clear hend h6 h0
     have hnews:∀(j:Nat) (u:Value),(Ref.tokCells ⟨tt,ta,tn,tm,tv,1⟩)[j]?=some u→((w1.alloc (.cells #[.string (bs tt),.int .i64 (ta:Nat),.bool tn,.bool tm,.int .i64 (tv:Nat),.int .i64 (1)] 104)).alloc (.cells #[.string (bs tt),.int .i64 (ta:Nat),.bool tn,.bool tm,.int .i64 (tv:Nat),.int .i64 (1)] 104)).cell? ((⟨w1.heap.size+1,0,none⟩:Addr).add j)=some u:=fun j u h=>by
      have:=news_cells (w1.alloc (.cells #[.string (bs tt),.int .i64 (ta:Nat),.bool tn,.bool tm,.int .i64 (tv:Nat),.int .i64 (1)] 104)) (Ref.tokCells ⟨tt,ta,tn,tm,tv,1⟩) 104 j u h
      rw [show (w1.alloc (.cells #[.string (bs tt),.int .i64 (ta:Nat),.bool tn,.bool tm,.int .i64 (tv:Nat),.int .i64 (1)] 104)).heap.size=w1.heap.size+1 by simp] at this
      exact this
     have HNW:=hid hnews
     clear hnews
     go_wp2_with (at_builtin;refine wpList_append_own _ rfl _ _ 95 rfl w.heap.size 104 i0 (.agg #[.string ⟨#[]⟩,.int .i64 0,.bool false,.bool false,.int .i64 0,.int .i64 0]) 6 48 Tryz.underlying95 hi hz0 hz1 hz2 rfl (by decide) (.slice o acc.length c) acc.length (tks acc) rfl ((HO1.out.alloc _).alloc _) ⟨w1.heap.size+1,0,none⟩ 1 1 (Ref.tokCells ⟨tt,ta,tn,tm,tv,1⟩) rfl rfl HNW.out (tok_one _) (by unfold maxLen;omega) c4 (C5.out _ _) ?_;intro v4 w4 O4 hg4 hn4;have q0:w4.cell? ⟨w1.heap.size,0,none⟩=some (.string (bs tt)):=var_kept hg4 HO1.out 0;have q1:w4.cell? ⟨w1.heap.size,1,none⟩=some (.int .i64 (ta:Nat)):=var_kept hg4 HO1.out 1;have q5:w4.cell? ⟨w1.heap.size,5,none⟩=some (.int .i64 (1)):=var_kept hg4 HO1.out 5)
     have hrow:∀k,(Value.slice o acc.length c).ownBlock=some k→w.heap.size≤k:=fun k hk=>(HO1.out.lt k hk).1
     have HB4:Hid (Below w.heap.size w w4):=own_grown (C5.out _ _) ((HB1.out.alloc HB1.out.size _).alloc (Nat.le_trans HB1.out.size (by simp)) _) hg4 hrow
     have HO4:Hid (w4.ownsRow w.heap.size 104 6 v4 (acc++[Ref.mark acc.length s.data.toList.length (Ref.rnext s.data.toList p)]).length (tks (acc++[Ref.mark acc.length s.data.toList.length (Ref.rnext s.data.toList p)]))):=by
      show w4.ownsRow _ _ _ _ _ _
      rw [HM.out,List.length_append,show tks (acc++[⟨tt,ta,tn,tm,tv,1⟩])=tks acc++Ref.tokCells ⟨tt,ta,tn,tm,tv,1⟩ from by simp [tks]]
      exact O4
     go_ret
     exact ⟨v4,_,rfl,HS.out _ (Ref.scans_stop (Or.inr (by rw [HM.out];show (1:Nat)≠0;decide))),HO4.out,HB4.out⟩
    ·have b1:((ta:Int)==(s.size:Int))=false:=by have:=hend;simp;omega
     have b2:((acc.length:Int)==600)=true:=by have:=h6;simp;omega
     have b3:((te:Int)==0)=false:=by have:=h0;simp;omega
     have b4:((te:Int) != 0)=true:=by have:=h0;simp;omega
     have HEND:=hid hend
     have H6:=hid h6
     have H0:=hid h0
     have HM:Hid (Ref.mark acc.length s.data.toList.length (Ref.rnext s.data.toList p)=⟨tt,ta,tn,tm,tv,te⟩):=by
      show _=_
      rw [HK.out]
      unfold Ref.mark
      rw [if_neg (fun h=>by have q1:=h.1;have q2:ta≠_:=h.2.1;have q3:te=0:=h.2.2;omega)]
     clear hend h6 h0
     have hnews:∀(j:Nat) (u:Value),(Ref.tokCells ⟨tt,ta,tn,tm,tv,te⟩)[j]?=some u→((w1.alloc (.cells #[.string (bs tt),.int .i64 (ta:Nat),.bool tn,.bool tm,.int .i64 (tv:Nat),.int .i64 (te:Nat)] 104)).alloc (.cells #[.string (bs tt),.int .i64 (ta:Nat),.bool tn,.bool tm,.int .i64 (tv:Nat),.int .i64 (te:Nat)] 104)).cell? ((⟨w1.heap.size+1,0,none⟩:Addr).add j)=some u:=fun j u h=>by
      have:=news_cells (w1.alloc (.cells #[.string (bs tt),.int .i64 (ta:Nat),.bool tn,.bool tm,.int .i64 (tv:Nat),.int .i64 (te:Nat)] 104)) (Ref.tokCells ⟨tt,ta,tn,tm,tv,te⟩) 104 j u h
      rw [show (w1.alloc (.cells #[.string (bs tt),.int .i64 (ta:Nat),.bool tn,.bool tm,.int .i64 (tv:Nat),.int .i64 (te:Nat)] 104)).heap.size=w1.heap.size+1 by simp] at this
      exact this
     have HNW:=hid hnews
     clear hnews
     go_wp2_with (at_builtin;refine wpList_append_own _ rfl _ _ 95 rfl w.heap.size 104 i0 (.agg #[.string ⟨#[]⟩,.int .i64 0,.bool false,.bool false,.int .i64 0,.int .i64 0]) 6 48 Tryz.underlying95 hi hz0 hz1 hz2 rfl (by decide) (.slice o acc.length c) acc.length (tks acc) rfl ((HO1.out.alloc _).alloc _) ⟨w1.heap.size+1,0,none⟩ 1 1 (Ref.tokCells ⟨tt,ta,tn,tm,tv,te⟩) rfl rfl HNW.out (tok_one _) (by unfold maxLen;omega) c4 (C5.out _ _) ?_;intro v4 w4 O4 hg4 hn4;have q0:w4.cell? ⟨w1.heap.size,0,none⟩=some (.string (bs tt)):=var_kept hg4 HO1.out 0;have q1:w4.cell? ⟨w1.heap.size,1,none⟩=some (.int .i64 (ta:Nat)):=var_kept hg4 HO1.out 1;have q5:w4.cell? ⟨w1.heap.size,5,none⟩=some (.int .i64 (te:Nat)):=var_kept hg4 HO1.out 5)
     have hrow:∀k,(Value.slice o acc.length c).ownBlock=some k→w.heap.size≤k:=fun k hk=>(HO1.out.lt k hk).1
     have HB4:Hid (Below w.heap.size w w4):=own_grown (C5.out _ _) ((HB1.out.alloc HB1.out.size _).alloc (Nat.le_trans HB1.out.size (by simp)) _) hg4 hrow
     have HO4:Hid (w4.ownsRow w.heap.size 104 6 v4 (acc++[Ref.mark acc.length s.data.toList.length (Ref.rnext s.data.toList p)]).length (tks (acc++[Ref.mark acc.length s.data.toList.length (Ref.rnext s.data.toList p)]))):=by
      show w4.ownsRow _ _ _ _ _ _
      rw [HM.out,List.length_append,show tks (acc++[⟨tt,ta,tn,tm,tv,te⟩])=tks acc++Ref.tokCells ⟨tt,ta,tn,tm,tv,te⟩ from by simp [tks]]
      exact O4
     go_ret
     exact ⟨v4,_,rfl,HS.out _ (Ref.scans_stop (Or.inr (by rw [HM.out];exact H0.out))),HO4.out,HB4.out⟩
   ·by_cases h0:te=0
    ·have b1:((ta:Int)==(s.size:Int))=false:=by have:=hend;simp;omega
     have b2:((acc.length:Int)==600)=false:=by have:=h6;simp;omega
     have b3:((te:Int)==0)=true:=by have:=h0;simp;omega
     have b4:((te:Int) != 0)=false:=by have:=h0;simp;omega
     have HEND:=hid hend
     have H6:=hid h6
     have H0:=hid h0
     have HM:Hid (Ref.mark acc.length s.data.toList.length (Ref.rnext s.data.toList p)=⟨tt,ta,tn,tm,tv,te⟩):=by
      show _=_
      rw [HK.out]
      unfold Ref.mark
      rw [if_neg (fun h=>by have q1:=h.1;have q2:ta≠_:=h.2.1;have q3:te=0:=h.2.2;omega)]
     clear hend h6 h0
     have hnews:∀(j:Nat) (u:Value),(Ref.tokCells ⟨tt,ta,tn,tm,tv,te⟩)[j]?=some u→((w1.alloc (.cells #[.string (bs tt),.int .i64 (ta:Nat),.bool tn,.bool tm,.int .i64 (tv:Nat),.int .i64 (te:Nat)] 104)).alloc (.cells #[.string (bs tt),.int .i64 (ta:Nat),.bool tn,.bool tm,.int .i64 (tv:Nat),.int .i64 (te:Nat)] 104)).cell? ((⟨w1.heap.size+1,0,none⟩:Addr).add j)=some u:=fun j u h=>by
      have:=news_cells (w1.alloc (.cells #[.string (bs tt),.int .i64 (ta:Nat),.bool tn,.bool tm,.int .i64 (tv:Nat),.int .i64 (te:Nat)] 104)) (Ref.tokCells ⟨tt,ta,tn,tm,tv,te⟩) 104 j u h
      rw [show (w1.alloc (.cells #[.string (bs tt),.int .i64 (ta:Nat),.bool tn,.bool tm,.int .i64 (tv:Nat),.int .i64 (te:Nat)] 104)).heap.size=w1.heap.size+1 by simp] at this
      exact this
     have HNW:=hid hnews
     clear hnews
     go_wp2_with (at_builtin;refine wpList_append_own _ rfl _ _ 95 rfl w.heap.size 104 i0 (.agg #[.string ⟨#[]⟩,.int .i64 0,.bool false,.bool false,.int .i64 0,.int .i64 0]) 6 48 Tryz.underlying95 hi hz0 hz1 hz2 rfl (by decide) (.slice o acc.length c) acc.length (tks acc) rfl ((HO1.out.alloc _).alloc _) ⟨w1.heap.size+1,0,none⟩ 1 1 (Ref.tokCells ⟨tt,ta,tn,tm,tv,te⟩) rfl rfl HNW.out (tok_one _) (by unfold maxLen;omega) c4 (C5.out _ _) ?_;intro v4 w4 O4 hg4 hn4;have q0:w4.cell? ⟨w1.heap.size,0,none⟩=some (.string (bs tt)):=var_kept hg4 HO1.out 0;have q1:w4.cell? ⟨w1.heap.size,1,none⟩=some (.int .i64 (ta:Nat)):=var_kept hg4 HO1.out 1;have q5:w4.cell? ⟨w1.heap.size,5,none⟩=some (.int .i64 (te:Nat)):=var_kept hg4 HO1.out 5)
     have hrow:∀k,(Value.slice o acc.length c).ownBlock=some k→w.heap.size≤k:=fun k hk=>(HO1.out.lt k hk).1
     have HB4:Hid (Below w.heap.size w w4):=own_grown (C5.out _ _) ((HB1.out.alloc HB1.out.size _).alloc (Nat.le_trans HB1.out.size (by simp)) _) hg4 hrow
     have HO4:Hid (w4.ownsRow w.heap.size 104 6 v4 (acc++[Ref.mark acc.length s.data.toList.length (Ref.rnext s.data.toList p)]).length (tks (acc++[Ref.mark acc.length s.data.toList.length (Ref.rnext s.data.toList p)]))):=by
      show w4.ownsRow _ _ _ _ _ _
      rw [HM.out,List.length_append,show tks (acc++[⟨tt,ta,tn,tm,tv,te⟩])=tks acc++Ref.tokCells ⟨tt,ta,tn,tm,tv,te⟩ from by simp [tks]]
      exact O4
     go_roundg (s.size - (ta+tt.length))
     case measure=>have:=HG.out;have:=a4 H0.out HEND.out;omega
     case rel=>
      refine ⟨ta+tt.length,acc++[Ref.mark acc.length s.data.toList.length (Ref.rnext s.data.toList p)],a3,?_,rfl,HO4,HB4,fun T h=>HS.out T (Ref.scans_go ?_ ?_),?_⟩
      ·rw [bs_len]
       exact congrArg (Value.int IntKind.i64) (show wrap64 ((ta:Int)+(tt.length:Int))=((ta+tt.length:Nat):Int) by unfold wrap64;omega)
      ·rw [HM.out,HK.out]
       intro h
       rcases h with h | h
       ·exact HEND.out (by have h':ta=_:=h;omega)
       ·exact h H0.out
      ·rw [HK.out] at h ⊢
       exact h
      ·rw [List.length_append]
       have:=a4 H0.out HEND.out
       simp only [List.length_singleton]
       omega
    ·have b1:((ta:Int)==(s.size:Int))=false:=by have:=hend;simp;omega
     have b2:((acc.length:Int)==600)=false:=by have:=h6;simp;omega
     have b3:((te:Int)==0)=false:=by have:=h0;simp;omega
     have b4:((te:Int) != 0)=true:=by have:=h0;simp;omega
     have HEND:=hid hend
     have H6:=hid h6
     have H0:=hid h0
     have HM:Hid (Ref.mark acc.length s.data.toList.length (Ref.rnext s.data.toList p)=⟨tt,ta,tn,tm,tv,te⟩):=by
      show _=_
      rw [HK.out]
      unfold Ref.mark
      rw [if_neg (fun h=>by have q1:=h.1;have q2:ta≠_:=h.2.1;have q3:te=0:=h.2.2;omega)]
     clear hend h6 h0
     have hnews:∀(j:Nat) (u:Value),(Ref.tokCells ⟨tt,ta,tn,tm,tv,te⟩)[j]?=some u→((w1.alloc (.cells #[.string (bs tt),.int .i64 (ta:Nat),.bool tn,.bool tm,.int .i64 (tv:Nat),.int .i64 (te:Nat)] 104)).alloc (.cells #[.string (bs tt),.int .i64 (ta:Nat),.bool tn,.bool tm,.int .i64 (tv:Nat),.int .i64 (te:Nat)] 104)).cell? ((⟨w1.heap.size+1,0,none⟩:Addr).add j)=some u:=fun j u h=>by
      have:=news_cells (w1.alloc (.cells #[.string (bs tt),.int .i64 (ta:Nat),.bool tn,.bool tm,.int .i64 (tv:Nat),.int .i64 (te:Nat)] 104)) (Ref.tokCells ⟨tt,ta,tn,tm,tv,te⟩) 104 j u h
      rw [show (w1.alloc (.cells #[.string (bs tt),.int .i64 (ta:Nat),.bool tn,.bool tm,.int .i64 (tv:Nat),.int .i64 (te:Nat)] 104)).heap.size=w1.heap.size+1 by simp] at this
      exact this
     have HNW:=hid hnews
     clear hnews
     go_wp2_with (at_builtin;refine wpList_append_own _ rfl _ _ 95 rfl w.heap.size 104 i0 (.agg #[.string ⟨#[]⟩,.int .i64 0,.bool false,.bool false,.int .i64 0,.int .i64 0]) 6 48 Tryz.underlying95 hi hz0 hz1 hz2 rfl (by decide) (.slice o acc.length c) acc.length (tks acc) rfl ((HO1.out.alloc _).alloc _) ⟨w1.heap.size+1,0,none⟩ 1 1 (Ref.tokCells ⟨tt,ta,tn,tm,tv,te⟩) rfl rfl HNW.out (tok_one _) (by unfold maxLen;omega) c4 (C5.out _ _) ?_;intro v4 w4 O4 hg4 hn4;have q0:w4.cell? ⟨w1.heap.size,0,none⟩=some (.string (bs tt)):=var_kept hg4 HO1.out 0;have q1:w4.cell? ⟨w1.heap.size,1,none⟩=some (.int .i64 (ta:Nat)):=var_kept hg4 HO1.out 1;have q5:w4.cell? ⟨w1.heap.size,5,none⟩=some (.int .i64 (te:Nat)):=var_kept hg4 HO1.out 5)
     have hrow:∀k,(Value.slice o acc.length c).ownBlock=some k→w.heap.size≤k:=fun k hk=>(HO1.out.lt k hk).1
     have HB4:Hid (Below w.heap.size w w4):=own_grown (C5.out _ _) ((HB1.out.alloc HB1.out.size _).alloc (Nat.le_trans HB1.out.size (by simp)) _) hg4 hrow
     have HO4:Hid (w4.ownsRow w.heap.size 104 6 v4 (acc++[Ref.mark acc.length s.data.toList.length (Ref.rnext s.data.toList p)]).length (tks (acc++[Ref.mark acc.length s.data.toList.length (Ref.rnext s.data.toList p)]))):=by
      show w4.ownsRow _ _ _ _ _ _
      rw [HM.out,List.length_append,show tks (acc++[⟨tt,ta,tn,tm,tv,te⟩])=tks acc++Ref.tokCells ⟨tt,ta,tn,tm,tv,te⟩ from by simp [tks]]
      exact O4
     go_ret
     exact ⟨v4,_,rfl,HS.out _ (Ref.scans_stop (Or.inr (by rw [HM.out];exact H0.out))),HO4.out,HB4.out⟩
end
end Go.Proofs.YtoiajojadihpbaaGreatDoor
