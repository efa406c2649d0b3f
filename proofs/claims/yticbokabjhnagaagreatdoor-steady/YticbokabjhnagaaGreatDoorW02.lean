import Derived.Test.YticbokabjhnagaaGreatDoorW00
import Derived.Test.YticbokabjhnagaaGreatDoorW01
import Derived.Deep.CutBlock
import Derived.Lib.Strings
import Derived.RegionTactic
import Derived.BigRegion
import Derived.Deep.RegionHeld2
import Derived.Lib.ParseIntBTie
namespace Go.Proofs.YticbokabjhnagaaGreatDoor
set_option maxHeartbeats 32000000
section
open Go.RowKit
def Slot (w:World) (r:Nat):Prop:=w.heap[r]?=some (.cells #[.int .i64 0,.int .i64 0,.string ByteArray.empty,.int .i64 0] 137 (0,0))
theorem Slot.kept {w w':World} {r b:Nat} (h:Slot w r) (k:Kp b w w') (hr:r≠b):Slot w' r:=by
 have:r < w.heap.size:=by
  rcases Nat.lt_or_ge r w.heap.size with h' | h'
  ·exact h'
  ·unfold Slot at h;simp [Array.getElem?_eq_none h'] at h
 exact (k.block r this hr).trans h
theorem Slot.cell {w:World} {r:Nat} (h:Slot w r):w.cell? ⟨r,0,none⟩=some (.int .i64 0)∧w.cell? ⟨r,1,none⟩=some (.int .i64 0)∧w.cell? ⟨r,2,none⟩=some (.string ByteArray.empty)∧w.cell? ⟨r,3,none⟩=some (.int .i64 0) ∧
  w.frozen? ⟨r,0,none⟩=false∧w.frozen? ⟨r,1,none⟩=false∧w.frozen? ⟨r,2,none⟩=false∧w.frozen? ⟨r,3,none⟩=false:=by
 unfold Slot at h
 refine ⟨?_,?_,?_,?_,?_,?_,?_,?_⟩ <;> simp [World.cell?,World.frozen?,h]
theorem while_drop {s:ByteArray} {q:Nat} (h:q < s.size) (f:UInt8→Bool) (hf:f s[q]=true) :
  (s.data.toList.drop q).takeWhile f=s[q]::(s.data.toList.drop (q+1)).takeWhile f∧(s.data.toList.drop q).dropWhile f=(s.data.toList.drop (q+1)).dropWhile f:=by
 rw [drop_at h];simp [hf]
theorem while_stop {s:ByteArray} {q:Nat} (f:UInt8→Bool) (hf:∀h:q < s.size,f s[q]=false) :
  (s.data.toList.drop q).takeWhile f=[]∧(s.data.toList.drop q).dropWhile f=s.data.toList.drop q:=by
 by_cases h:q < s.size
 ·rw [drop_at h];simp [hf h]
 ·rw [drop_end (by omega)];simp
def Run (f:UInt8→Bool) (s:ByteArray) (p q:Nat):Prop:=
 (s.data.toList.drop p).takeWhile f=(s.data.toList.drop p).take (q - p)++(s.data.toList.drop q).takeWhile f∧(s.data.toList.drop p).dropWhile f=(s.data.toList.drop q).dropWhile f
theorem Run.start (f:UInt8→Bool) (s:ByteArray) (p:Nat):Run f s p p:=⟨by simp,rfl⟩
theorem Run.next {f:UInt8→Bool} {s:ByteArray} {p q:Nat} (h:Run f s p q) (hpq:p≤q) (hq:q < s.size) (hf:f s[q]=true):Run f s p (q+1):=by
 obtain ⟨h1,h2⟩:=h
 obtain ⟨w1,w2⟩:=while_drop hq f hf
 refine ⟨?_,by rw [h2,w2]⟩
 rw [h1,w1]
 have e:q+1 - p=(q - p)+1:=by omega
 have hl:q - p < (s.data.toList.drop p).length:=by simp;omega
 rw [e,List.take_succ_eq_append_getElem hl]
 have hg:(s.data.toList.drop p)[q - p]=s[q]:=by
  rw [List.getElem_drop]
  have:p+(q - p)=q:=by omega
  simp only [this];rfl
 rw [hg];simp
theorem Run.done {f:UInt8→Bool} {s:ByteArray} {p q:Nat} (h:Run f s p q) (hf:∀h:q < s.size,f s[q]=false) :
  (s.data.toList.drop p).takeWhile f=(s.data.toList.drop p).take (q - p)∧(s.data.toList.drop p).dropWhile f=s.data.toList.drop q:=by
 obtain ⟨h1,h2⟩:=h
 obtain ⟨w1,w2⟩:=while_stop f hf
 rw [w1] at h1;rw [w2] at h2
 exact ⟨by rw [h1];simp,h2⟩
def TokPost (c:Option (Mil.Tok×Mil.Bytes)) (a:Nat→Addr) (b:Nat) (s:ByteArray) (p n:Nat) (k tp:Int) (x:ByteArray) (v:Int) (w:World) (e:Ending) (w':World):Prop:=
 Kp b w w'∧((∃t q xt,e=.returned (.agg #[.int .i64 (t.kind:Nat),.int .i64 p,.string xt,.int .i64 t.val])∧p≤q∧q≤s.size∧Rd w' b s q n k tp x v∧c=some (t,s.data.toList.drop q)∧xt.data.toList=t.txt)∨(Thrown a 2 p e w'∧c=none))
def wordAt (j:Nat):Mil.Bytes:=Mil.words.getD j []
theorem lt19 {i:Nat} (h:i < 19):i=0∨i=1∨i=2∨i=3∨i=4∨i=5∨i=6∨i=7∨i=8∨i=9∨i=10∨i=11∨i=12∨i=13∨i=14∨i=15∨i=16∨i=17∨i=18:=by omega
theorem word_in (j:Nat) (h:j < 19):Mil.words.contains (wordAt j)=true:=by
 rcases lt19 h with rfl | rfl | rfl | rfl | rfl | rfl | rfl | rfl | rfl | rfl | rfl | rfl | rfl | rfl | rfl | rfl | rfl | rfl | rfl <;> decide
theorem word_of {x:Mil.Bytes} (h:x∈Mil.words):∃m,m < 19∧wordAt m=x:=by
 obtain ⟨m,hm,e⟩:=List.mem_iff_getElem.1 h
 refine ⟨m,by simpa [Mil.words] using hm,?_⟩
 unfold wordAt
 rw [List.getD_eq_getElem?_getD,List.getElem?_eq_getElem hm];exact e
theorem index_words (j:Nat) (h:j < 19) (w:World):(Instr.index 250 (.agg (strCells Mil.words)) (.int .i64 j)).run Tryz.prog w=.ok (.string (bs (wordAt j))) w:=by
 rcases lt19 h with rfl | rfl | rfl | rfl | rfl | rfl | rfl | rfl | rfl | rfl | rfl | rfl | rfl | rfl | rfl | rfl | rfl | rfl | rfl <;> kernel_rfl
theorem cutName_any (a:Nat→Addr) (b:Nat) (s:ByteArray) (p n:Nat) (k tp:Int) (x:ByteArray) (v:Int) (w:World) (L:Laid a w) (hb:23≤b) (h:Rd w b s p n k tp x v) (hp:p < s.size) (hs:s.size≤4000) :
  Calls Tryz.prog 118 #[.pointer (some ⟨b,0,none⟩)] w (TokPost (Mil.cutName (s.data.toList.drop p)) a b s p n k tp x v w):=by
 have H:Hid (Rd w b s p n k tp x v):=h
 have HL:Hid (Laid a w):=L
 have c1:=h.c1
 have hbw:b < w.heap.size:=lt_of_cell h.c0
 clear h L
 go_enter Tryz.func118,Tryz.ntmps118
 go_upto_block 0 with fail
 go_cut [] from 11 to 39 (fun wl=>∃q,p≤q∧q≤s.size∧Hid (Run Mil.isN s p q)∧Hid (∀h:q < s.size,Mil.isN s[q]=false)∧Hid (Rd wl b s q n k tp x v)∧Hid (Kp b w wl)∧Hid (Slot wl w.heap.size))
 case first=>
  go_wp2
  go_loopg [] (s.size - p) (fun g wr=>∃q,p≤q∧q≤s.size∧g=s.size - q∧Hid (Run Mil.isN s p q)∧Hid (Rd wr b s q n k tp x v)∧Hid (Kp b w wr)∧Hid (Slot wr w.heap.size))
  case atStart=>exact ⟨p,Nat.le_refl _,by omega,rfl,Run.start _ _ _,H.out.kept ((Kp.refl (b+1) _).alloc _) (by omega),(Kp.refl b _).alloc _,heap_alloc_new _ _⟩
  case round=>
   obtain ⟨q,hpq,hq,hg,HU,HR,HK,HT⟩:=hrel
   have HG:Hid (gk=s.size - q):=hg
   clear hg c1
   have c0:=HR.out.c0
   have c1:=HR.out.c1
   have f1:=HR.out.fz 1
   by_cases hlt:q < s.size
   ·by_cases hn:Mil.isN s[q]=true
    ·go_wp2_with fail
     go_quiet ((go_at_call 149;exact Calls.quiet_of_same (isNameByte_any _ _)))
     go_wp2
     go_roundg (s.size - (q+1))
     case measure=>have:=HG.out;omega
     case rel=>exact ⟨q+1,by omega,by omega,rfl,HU.out.next hpq hlt hn,(HR.out.drewN _).step1,(HK.out.drewN _).setCell _ _,HT.out.kept (((Kp.refl b _).drewN _).setCell _ _) (by omega)⟩
    ·have hn':Mil.isN s[q]=false:=by simpa using hn
     clear hn
     go_wp2_with fail
     go_quiet ((go_at_call 149;exact Calls.quiet_of_same (isNameByte_any _ _)))
     go_wp2
     go_meet
     case rel=>exact ⟨q,hpq,hq,HU,fun _=>hn',HR.out.drewN _,HK.out.drewN _,HT.out.kept ((Kp.refl b _).drewN _) (by omega)⟩
   ·have hd:decide ((q:Int) < (s.size:Int))=false:=by simp;omega
    go_wp2_with fail
    go_quiet (fail)
    go_wp2
    go_meet
    case rel=>exact ⟨q,hpq,hq,HU,fun h=>absurd h hlt,HR.out.drewN _,HK.out.drewN _,HT.out.kept ((Kp.refl b _).drewN _) (by omega)⟩
 case rest=>
  obtain ⟨q,hpq,hq,HU,HF,HR,HK,HT⟩:=hcut
  clear c1
  have c0:=HR.out.c0
  have c1:=HR.out.c1
  have ct:=(HL.out.kept HK.out hb).token
  obtain ⟨tw,hw⟩:=(HL.out.kept HK.out hb).words
  by_cases h12:12 < q - p
  ·go_wp2
   go_quiet (fail)
   go_wp2
   refine ⟨rfl,(HK.out.drewN nq).alloc _,Or.inr ⟨⟨_,rfl,?_⟩,?_⟩⟩
   ·have:=heap_alloc_new (wc.drewN nq) (.cells #[.int .i64 (p:Int),errV (a 2)] 81)
    simpa using this
   ·obtain ⟨e1,_⟩:=HU.out.done HF.out
    unfold Mil.cutName
    rw [e1,if_pos (by simp;omega)]
  ·have hix:=fun (j:Nat) (h:j < 19) (w:World)=>index_words j h w
   obtain ⟨r0,r1,r2,r3,z0,z1,z2,z3⟩:=HT.out.cell
   go_wp2
   go_quiet (fail)
   go_wp2_with (refine wpList_load_row rfl 250 _ rfl 14 rfl tw _ (0,0) _ hw Tryz.underlying250 rfl (by kernel_rfl) ?_)
   go_loop [59] (fun s59=>∃j:Nat,j≤19∧s59=.int .i64 j∧Hid (∀m,m < j→wordAt m≠(s.data.toList.drop p).take (q - p))) (fun s59=>19 - (intOf s59).toNat)
   case atStart=>exact ⟨0,by decide,rfl,fun m hm=>by omega⟩
   case round=>
    obtain ⟨j,hj,rfl,HW⟩:=hrel
    by_cases hlt:j < 19
    ·have hi:=hix j hlt
     by_cases heq:wordAt j=(s.data.toList.drop p).take (q - p)
     ·have hbq:((bs (wordAt j)).toList==(s.extract p q).toList)=true:=by
       rw [Lib.toList_data,Lib.toList_data,bs_list,Lib.extract_data,heq];simp
      have HE:Hid (wordAt j=(s.data.toList.drop p).take (q - p)):=heq
      clear heq
      go_wp2
      refine bodyPost_ret (v:=.agg #[.int .i64 3,.int .i64 p,.string (bs (wordAt j)),.int .i64 0]) (by simp [results,Tryz.results118,go_sem,r0,r1,r2,r3]) rfl ?_
      refine ⟨(HK.out.drewN nq).four (Nat.le_refl _) _ _ _ _,Or.inl ⟨Mil.fix (wordAt j),q,bs (wordAt j),rfl,hpq,hq,(HR.out.drewN nq).four (by omega) _ _ _ _,?_,rfl⟩⟩
      obtain ⟨e1,e2⟩:=HU.out.done HF.out
      unfold Mil.cutName
      rw [e1,e2,if_neg (by simp;omega),←HE.out,if_pos (word_in j hlt)]
     ·have hbq:((bs (wordAt j)).toList==(s.extract p q).toList)=false:=by
       rw [Lib.toList_data,Lib.toList_data,bs_list,Lib.extract_data];simpa using heq
      have HE:Hid (wordAt j≠(s.data.toList.drop p).take (q - p)):=heq
      clear heq
      go_wp2
      go_round
      case rel=>
       refine ⟨j+1,by omega,by go_num,?_⟩
       intro m hm
       rcases Nat.lt_or_ge m j with h | h
       ·exact HW.out m h
       ·have:m=j:=by omega
        rw [this];exact HE.out
      case measure=>simp [intOf];omega
    ·go_wp2
     refine bodyPost_ret (v:=.agg #[.int .i64 1,.int .i64 p,.string (s.extract p q),.int .i64 0]) (by simp [results,Tryz.results118,go_sem,r0,r1,r2,r3]) rfl ?_
     have hno:Mil.words.contains ((s.data.toList.drop p).take (q - p))=false:=by
      rw [Bool.eq_false_iff]
      intro hc
      obtain ⟨m,hm,e⟩:=word_of (List.contains_iff_mem.1 hc)
      exact HW.out m (by omega) e
     refine ⟨(HK.out.drewN nq).four (Nat.le_refl _) _ _ _ _,Or.inl ⟨Mil.nam ((s.data.toList.drop p).take (q - p)),q,s.extract p q,rfl,hpq,hq,(HR.out.drewN nq).four (by omega) _ _ _ _,?_,Lib.extract_data _ _ _⟩⟩
     obtain ⟨e1,e2⟩:=HU.out.done HF.out
     unfold Mil.cutName
     rw [e1,e2,if_neg (by simp;omega),if_neg (by rw [hno];decide)]
end
section
open Go.RowKit
theorem extract0 (x:ByteArray) (n:Nat):(x.extract 0 n).data.toList=x.data.toList.take n:=by rw [Lib.extract_data];simp
theorem prefix_take {x y:Mil.Bytes}:(x.take y.length==y)=y.isPrefixOf x:=by
 rw [Bool.eq_iff_iff,beq_iff_eq,List.isPrefixOf_iff_prefix]
 constructor
 ·intro e;rw [←e];exact List.take_prefix _ _
 ·intro e;exact (List.prefix_iff_eq_take.1 e).symm
theorem prefix_long {x y:Mil.Bytes} (h:x.length < y.length):y.isPrefixOf x=false:=by
 rw [Bool.eq_false_iff]
 intro e
 have:=(List.isPrefixOf_iff_prefix.1 e).length_le
 omega
def pre (y x:ByteArray):Bool:=y.data.toList.isPrefixOf x.data.toList
theorem hasPrefix_in (x y:ByteArray) (w:World):Calls Tryz.prog 165 #[.string x,.string y] w fun e w'=>e=.returned (.bool (pre y x))∧w'=w:=by
 by_cases h:y.size≤x.size
 ·go_enter Tryz.func165,Tryz.ntmps165
  go_wp2
  go_ret
  refine ⟨ret_bool ?_,rfl⟩
  unfold pre
  rw [Lib.toList_data,Lib.toList_data,extract0]
  have:=prefix_take (x:=x.data.toList) (y:=y.data.toList)
  rw [←this];simp
 ·go_enter Tryz.func165,Tryz.ntmps165
  go_wp2
  go_ret
  refine ⟨ret_bool ?_,rfl⟩
  unfold pre
  rw [prefix_long (by simp;omega)]
theorem hasPrefix_any (x y:ByteArray) (w:World):Calls Tryz.prog 151 #[.string x,.string y] w fun e w'=>e=.returned (.bool (pre y x))∧w'=w:=by
 go_enter Tryz.func151,Tryz.ntmps151
 go_wp2_with (go_at_call 165;refine (hasPrefix_in _ _ _).mono ?_;rintro e w' ⟨rfl,rfl⟩)
 go_ret
 exact ⟨rfl,rfl⟩
def signAt (j:Nat):Mil.Bytes:=Mil.signs.getD j []
theorem lt17 {i:Nat} (h:i < 17):i=0∨i=1∨i=2∨i=3∨i=4∨i=5∨i=6∨i=7∨i=8∨i=9∨i=10∨i=11∨i=12∨i=13∨i=14∨i=15∨i=16:=by omega
theorem index_signs (j:Nat) (h:j < 17) (w:World):(Instr.index 252 (.agg (strCells Mil.signs)) (.int .i64 j)).run Tryz.prog w=.ok (.string (bs (signAt j))) w:=by
 rcases lt17 h with rfl | rfl | rfl | rfl | rfl | rfl | rfl | rfl | rfl | rfl | rfl | rfl | rfl | rfl | rfl | rfl | rfl <;> kernel_rfl
theorem sign_size (j:Nat) (h:j < 17):(bs (signAt j)).size≤2∧(signAt j).length=(bs (signAt j)).size:=by
 rcases lt17 h with rfl | rfl | rfl | rfl | rfl | rfl | rfl | rfl | rfl | rfl | rfl | rfl | rfl | rfl | rfl | rfl | rfl <;> decide
theorem find_at {f:Mil.Bytes→Bool}:∀(l:List Mil.Bytes) (j:Nat),j < l.length→f (l.getD j [])=true→(∀m,m < j→f (l.getD m [])=false)→l.find? f=some (l.getD j [])
 | [],_,h,_,_=>by simp at h
 | x::r,0,_,h1,_=>by
  have h1':f x=true:=h1
  rw [List.find?_cons]
  simp [h1']
 | x::r,j+1,h,h1,h2=>by
  have h0:f x=false:=h2 0 (by omega)
  have:=find_at r j (by simpa using h) h1 (fun m hm=>h2 (m+1) (by omega))
  rw [List.find?_cons,h0]
  exact this
theorem find_none {f:Mil.Bytes→Bool}:∀(l:List Mil.Bytes),(∀m,m < l.length→f (l.getD m [])=false)→l.find? f=none
 | [],_=>rfl
 | x::r,h=>by
  have h0:f x=false:=h 0 (by simp)
  rw [List.find?_cons,h0]
  exact find_none r (fun m hm=>h (m+1) (by simpa using hm))
theorem cutSign_any (a:Nat→Addr) (b:Nat) (s:ByteArray) (p n:Nat) (k tp:Int) (x:ByteArray) (v:Int) (w:World) (L:Laid a w) (hb:23≤b) (h:Rd w b s p n k tp x v) (hp:p < s.size) (hs:s.size≤4000) :
  Calls Tryz.prog 121 #[.pointer (some ⟨b,0,none⟩)] w (TokPost (Mil.cutSign (s.data.toList.drop p)) a b s p n k tp x v w):=by
 have HL:Hid (Laid a w):=L
 have hbw:b < w.heap.size:=lt_of_cell h.c0
 have hgw:=L.size
 let o:Obj:=.cells #[.int .i64 0,.int .i64 0,.string ⟨#[]⟩,.int .i64 0] 137
 have ho:o=.cells #[.int .i64 0,.int .i64 0,.string ⟨#[]⟩,.int .i64 0] 137:=rfl
 have hR:Rd (w.alloc o) b s p n k tp x v:=h.kept ((Kp.refl (b+1) _).alloc _) (by omega)
 have HR:Hid (Rd (w.alloc o) b s p n k tp x v):=hR
 have HK:Hid (Kp b w (w.alloc o)):=(Kp.refl b _).alloc _
 obtain ⟨tg,hg⟩:=(L.kept HK.out hb).signs
 have hT:Slot (w.alloc o) w.heap.size:=heap_alloc_new _ _
 have hix:=fun (j:Nat) (h:j < 17) (w:World)=>index_signs j h w
 clear h L
 go_enter Tryz.func121,Tryz.ntmps121
 go_wp2_with (refine wpList_load_row rfl 252 _ rfl 15 rfl tg _ (0,0) _ hg Tryz.underlying252 rfl (by kernel_rfl) ?_)
 rw [←ho]
 generalize w.alloc o=w1 at *
 have c0:=hR.c0
 have c1:=hR.c1
 have f1:=hR.fz 1
 have ct:=(HL.out.kept HK.out hb).token
 obtain ⟨r0,r1,r2,r3,z0,z1,z2,z3⟩:=hT.cell
 have HT:Hid (Slot w1 w.heap.size):=hT
 clear hR hT
 have hes:(s.extract p s.size).data.toList=s.data.toList.drop p:=by rw [Lib.extract_data,List.take_of_length_le (by simp)]
 have HES:Hid ((s.extract p s.size).data.toList=s.data.toList.drop p):=hes
 clear hes
 have hple:p≤s.size:=by omega
 go_loopg [7] 17 (fun g s7 wr=>∃j:Nat,j≤17∧s7=.int .i64 j∧g=17 - j∧Hid (Rd wr b s p n k tp x v)∧Hid (Kp b w wr)∧Hid (Slot wr w.heap.size)∧Hid (∀i,i < j→(signAt i).isPrefixOf (s.data.toList.drop p)=false))
 case atStart=>exact ⟨0,by decide,rfl,rfl,HR,HK,HT,fun m hm=>by omega⟩
 case round=>
  clear c0 c1 f1 ct r0 r1 r2 r3 z0 z1 z2 z3
  obtain ⟨j,hj,rfl,hgk,HR2,HK2,HT2,HW⟩:=hrel
  have HG:Hid (gk=17 - j):=hgk
  clear hgk
  have c0:=HR2.out.c0
  have c1:=HR2.out.c1
  have f1:=HR2.out.fz 1
  have ct:=(HL.out.kept HK2.out hb).token
  obtain ⟨r0,r1,r2,r3,z0,z1,z2,z3⟩:=HT2.out.cell
  by_cases hlt:j < 17
  ·have hi:=hix j hlt
   obtain ⟨hz2,hzl⟩:=sign_size j hlt
   have HZ:Hid ((signAt j).length=(bs (signAt j)).size):=hzl
   clear hzl
   by_cases heq:(signAt j).isPrefixOf (s.data.toList.drop p)=true
   ·have hbq:pre (bs (signAt j)) (s.extract p s.size)=true:=by unfold pre;rw [HES.out];exact heq
    have HE:Hid ((signAt j).isPrefixOf (s.data.toList.drop p)=true):=heq
    clear heq
    go_wp2
    go_quiet ((go_at_call 151;exact Calls.quiet_of_same (hasPrefix_any _ _ _)))
    rw [hbq]
    go_wp2
    refine bodyPost_ret (v:=.agg #[.int .i64 3,.int .i64 p,.string (bs (signAt j)),.int .i64 0]) (by simp [results,Tryz.results121,go_sem,r0,r1,r2,r3]) rfl ?_
    have hle:(signAt j).length≤(s.data.toList.drop p).length:=(List.isPrefixOf_iff_prefix.1 HE.out).length_le
    have hzl:=HZ.out
    have hps:p+(bs (signAt j)).size≤s.size:=by simp at hle;omega
    have e1:(p:Int)+((bs (signAt j)).size:Int)=((p+(bs (signAt j)).size:Nat):Int):=by omega
    rw [e1]
    refine ⟨((HK2.out.drewN nq).setCell _ _).four (Nat.le_refl _) _ _ _ _,Or.inl ⟨Mil.fix (signAt j),p+(bs (signAt j)).size,bs (signAt j),rfl,by omega,hps,((HR2.out.drewN nq).set1 _).four (by omega) _ _ _ _,?_,rfl⟩⟩
    unfold Mil.cutSign
    have hf:Mil.signs.find? (fun x=>x.isPrefixOf (s.data.toList.drop p))=some (signAt j):=find_at Mil.signs j hlt HE.out HW.out
    rw [hf,←hzl]
    show some (Mil.fix (signAt j),List.drop (signAt j).length (List.drop p s.data.toList))=_
    rw [List.drop_drop]
   ·have hbq:pre (bs (signAt j)) (s.extract p s.size)=false:=by unfold pre;rw [HES.out];exact Bool.eq_false_iff.2 heq
    have HE:Hid ((signAt j).isPrefixOf (s.data.toList.drop p)=false):=Bool.eq_false_iff.2 heq
    clear heq
    go_wp2
    go_quiet ((go_at_call 151;exact Calls.quiet_of_same (hasPrefix_any _ _ _)))
    rw [hbq]
    go_wp2
    go_roundg (17 - (j+1))
    case measure=>have:=HG.out;omega
    case rel=>
     refine ⟨j+1,by omega,by go_num,rfl,HR2.out.drewN _,HK2.out.drewN _,HT2.out.kept ((Kp.refl b _).drewN _) (by omega),?_⟩
     intro i hi
     rcases Nat.lt_or_ge i j with h | h
     ·exact HW.out i h
     ·have:i=j:=by omega
      rw [this];exact HE.out
  ·have hpp:∀tm:Array Value,bodyPost Tryz.prog Tryz.f121 (TokPost (Mil.cutSign (s.data.toList.drop p)) a b s p n k tp x v w) (Exit.panic [{ v:=.iface 69 (.pointer (some ⟨wr.heap.size,0,none⟩)),recovered:=false }]) { tmps:=tm,defers:=[] } (wr.alloc (.cells #[.int .i64 p,errV (a 2)] 81)).drew:=by
    intro tm
    refine ⟨rfl,(HK2.out.alloc _).drew,Or.inr ⟨⟨wr.heap.size,rfl,heap_alloc_new wr _⟩,?_⟩⟩
    unfold Mil.cutSign
    rw [find_none Mil.signs (fun m hm=>HW.out m (by have:Mil.signs.length=17:=rfl;omega))]
   go_wp2
   refine wp_region_any (by kernel_rfl) ?_
   change wpAny _ _ _ _ _ _ _ (World.drew _)
   refine wpAny_take (i:=0) (v:=.pointer (some ⟨b,0,none⟩)) rfl (by kernel_rfl) (by kernel_rfl) (by kernel_rfl) (fun _ _ _ h=>h) (Or.inl ⟨by rfl,fun w=>by go_simp⟩) ?_
   refine wpAny_take (i:=1) (v:=.pointer (some ⟨b,0,none⟩)) rfl (by kernel_rfl) (by kernel_rfl) (by kernel_rfl) (fun _ _ _ h=>h) (Or.inl ⟨by rfl,fun w=>by go_simp⟩) ?_
   refine wpAny_take (i:=2) (v:=.pointer (some ⟨b,1,none⟩)) rfl (by kernel_rfl) (by kernel_rfl) (by kernel_rfl) (fun _ _ _ h=>h) (Or.inl ⟨by rfl,fun w=>by go_simp⟩) ?_
   refine wpAny_ready (rs:=[3,4]) (by kernel_rfl) (by simp) ?_
   refine AllReady.cons rfl (fun K hK=>?_) (AllReady.cons rfl (fun K hK=>?_) AllReady.nil)
   ·go_simp
    refine hK _ _ ?_
    clear hK K
    refine wpAny_ready (rs:=[4]) (by kernel_rfl) (by simp) ?_
    refine AllReady.cons rfl (fun K hK=>?_) AllReady.nil
    go_simp
    refine hK _ _ ?_
    clear hK K
    refine wpAny_take (i:=5) (v:=.agg #[.int .i64 p,errV (a 2)]) rfl (by kernel_rfl) (by kernel_rfl) (by kernel_rfl) (fun _ _ _ h=>h) (Or.inl ⟨by rfl,fun w=>by go_simp⟩) ?_
    refine wpAny_ready (rs:=[6]) (by kernel_rfl) (by simp) ?_
    refine AllReady.cons rfl (fun K hK=>?_) AllReady.nil
    go_simp
    refine hK _ _ ?_
    clear hK K
    refine wpAny_take (i:=7) (v:=.iface 69 (.pointer (some ⟨wr.heap.size,0,none⟩))) rfl (by kernel_rfl) (by kernel_rfl) (by kernel_rfl) (fun _ _ _ h=>h) (Or.inl ⟨by rfl,fun w=>by go_simp⟩) ?_
    refine wpAny_ready (rs:=[8]) (by kernel_rfl) (by simp) ?_
    refine AllReady.cons rfl (fun K hK=>?_) AllReady.nil
    go_simp
   ·go_simp
    refine hK _ _ ?_
    clear hK K
    refine wpAny_ready (rs:=[3]) (by kernel_rfl) (by simp) ?_
    refine AllReady.cons rfl (fun K hK=>?_) AllReady.nil
    go_simp
    refine hK _ _ ?_
    clear hK K
    refine wpAny_take (i:=5) (v:=.agg #[.int .i64 p,errV (a 2)]) rfl (by kernel_rfl) (by kernel_rfl) (by kernel_rfl) (fun _ _ _ h=>h) (Or.inl ⟨by rfl,fun w=>by go_simp⟩) ?_
    refine wpAny_ready (rs:=[6]) (by kernel_rfl) (by simp) ?_
    refine AllReady.cons rfl (fun K hK=>?_) AllReady.nil
    go_simp
    refine hK _ _ ?_
    clear hK K
    refine wpAny_take (i:=7) (v:=.iface 69 (.pointer (some ⟨wr.heap.size,0,none⟩))) rfl (by kernel_rfl) (by kernel_rfl) (by kernel_rfl) (fun _ _ _ h=>h) (Or.inl ⟨by rfl,fun w=>by go_simp⟩) ?_
    refine wpAny_ready (rs:=[8]) (by kernel_rfl) (by simp) ?_
    refine AllReady.cons rfl (fun K hK=>?_) AllReady.nil
    go_simp
end
section
namespace Mil
open Go.Deep
theorem skip_blank (r:Bytes):skip false (32::r)=skip false r:=by rw [skip,if_pos (by decide)]
def Lx:Bytes→List Tok→Bytes→Prop
 | b,[],b'=>b=b'
 | b,t::r,b'=>∃b1,cut (skip false b)=some (t,b1)∧Lx b1 r b'
theorem Lx.append {b b1 b2:Bytes}:∀{x y:List Tok},Lx b x b1→Lx b1 y b2→Lx b (x++y) b2
 | [],_,h,k=>by
  have:b=b1:=h
  rw [this];exact k
 | t::r,y,h,k=>by
  obtain ⟨b3,h1,h2⟩:=h
  exact ⟨b3,h1,Lx.append (x:=r) h2 k⟩
theorem Lx.blank {b b':Bytes} {t:Tok} {r:List Tok} (h:Lx b (t::r) b'):Lx (32::b) (t::r) b':=by
 obtain ⟨b1,h1,h2⟩:=h
 exact ⟨b1,by rw [skip_blank];exact h1,h2⟩
end Mil
end
end Go.Proofs.YticbokabjhnagaaGreatDoor
