import Derived.Test.YtoiajojadihpbaaGreatDoorPt05
import Derived.Test.YtoiajojadihpbaaGreatDoorPt02
namespace Go.Proofs.YtoiajojadihpbaaGreatDoor
set_option maxHeartbeats 8000000
section
open Go.RowKit
theorem clone_any (x:ByteArray) (hx:x.size≤4000) (w:World):Calls Tryz.prog 164 #[.string x] w fun e w'=>e=.returned (.string x)∧Below w.heap.size w w':=by
 go_enter Tryz.func164,Tryz.ntmps164
 go_wp2_with fail
 refine (Tryz.stringslite_Clone x w (by omega)).mono ?_
 rintro e w1 ⟨rfl,hb⟩
 go_wp2
 go_ret
 exact ⟨rfl,hb⟩
def NmPost (r:Option (Mil.Bytes×Mil.St)) (a:Nat→Addr) (b:Nat) (s:ByteArray) (w:World) (e:Ending) (w':World):Prop:=
 Kp b w w'∧((∃x st,e=.returned (.string (bs x))∧r=some (x,st)∧RdS w' b s st)∨(Threw a e w'∧r=none))
theorem name_any (a:Nat→Addr) (b:Nat) (s:ByteArray) (st:Mil.St) (w:World) (L:Laid a w) (hb:27≤b) (h:RdS w b s st) (hs:s.size≤4000) :
  Calls Tryz.prog 154 #[.pointer (some ⟨b,0,none⟩)] w (NmPost (Mil.name st) a b s w):=by
 have H:=hid h
 have HL:=hid L
 obtain ⟨p,tp,x,hp,hR,hr,hx,hn⟩:=h
 have c3:=hR.c3
 have c5:=hR.c5
 have hbw:b < w.heap.size:=lt_of_cell hR.c0
 have hxs:x.size≤4000:=by
  have e:x.size=x.data.toList.length:=by simp
  rw [e,hx];exact hn.2.1
 have HX:Hid (x=bs st.tok.txt):=by rw [←hx];exact (bs_of x).symm
 clear hR hr hx L
 by_cases h1:st.tok.kind=1
 ·have hk1:(((st.tok.kind:Nat):Int) != 1)=false:=by simp;omega
  have HM:Hid (Mil.name st=(Mil.adv st).map fun s1=>(st.tok.txt,s1)):=by unfold Mil.name;rw [if_pos h1];rfl
  clear h1
  go_enter Tryz.func154,Tryz.ntmps154
  go_wp2_with fail
  refine (clone_any x hxs _).mono ?_
  rintro e w1 ⟨rfl,hb1⟩
  go_wp2_with fail
  refine (advance_any a b s st w1 (HL.out.kept (Kp.of_below (b:=b) hb1) hb) hb (H.out.kept (Kp.of_below (b:=b+1) hb1) (by omega)) hs).mono ?_
  rintro e w2 ⟨hk,(⟨st',rfl,g1,g2⟩ | ⟨⟨k,at_,hkk,d,rfl,hd⟩,hno⟩)⟩
  ·go_wp2
   go_ret
   refine ⟨(Kp.of_below hb1).trans hk,Or.inl ⟨st.tok.txt,st',?_,?_,g2⟩⟩
   ·rw [←HX.out];rfl
   ·rw [HM.out,g1];rfl
  ·go_wp2
   exact ⟨rfl,(Kp.of_below hb1).trans hk,Or.inr ⟨⟨k,at_,hkk,d,rfl,hd⟩,by rw [HM.out,hno];rfl⟩⟩
 ·have hk1:(((st.tok.kind:Nat):Int) != 1)=true:=by simp;omega
  have HM:Hid (Mil.name st=none):=by unfold Mil.name;rw [if_neg h1];rfl
  clear h1
  go_enter Tryz.func154,Tryz.ntmps154
  go_wp2_with fail
  refine (refused_any a b s st _ HL.out H.out).mono ?_
  rintro e w2 ⟨d,at_,rfl,hd,hb2⟩
  go_wp2
  exact ⟨rfl,Kp.of_below hb2,Or.inr ⟨⟨3,at_,Or.inr (Or.inr (Or.inl rfl)),d,rfl,hd⟩,HM.out⟩⟩
def NuPost (r:Option (Nat×Mil.St)) (a:Nat→Addr) (b:Nat) (s:ByteArray) (w:World) (e:Ending) (w':World):Prop:=
 Kp b w w'∧((∃k st,e=.returned (.int .i64 (k:Nat))∧r=some (k,st)∧RdS w' b s st)∨(Threw a e w'∧r=none))
theorem number_any (a:Nat→Addr) (b:Nat) (s:ByteArray) (st:Mil.St) (lo hi:Int) (h0:0≤lo) (w:World) (L:Laid a w) (hb:27≤b) (h:RdS w b s st) (hs:s.size≤4000) :
  Calls Tryz.prog 157 #[.pointer (some ⟨b,0,none⟩),.int .i64 lo,.int .i64 hi] w (NuPost (Mil.number lo hi st) a b s w):=by
 have H:=hid h
 have HL:=hid L
 obtain ⟨p,tp,x,hp,hR,hr,hx,hn⟩:=h
 have c3:=hR.c3
 have c6:=hR.c6
 clear hR hr hx L
 by_cases hc:st.tok.kind=2∧lo≤st.tok.val∧st.tok.val≤hi
 ·have HM:Hid (Mil.number lo hi st=(Mil.adv st).map fun s1=>(st.tok.val.toNat,s1)):=by unfold Mil.number;rw [if_pos hc];rfl
  obtain ⟨h2,hl,hh⟩:=hc
  have hk2:(((st.tok.kind:Nat):Int) != 2)=false:=by simp;omega
  have hl':¬st.tok.val < lo:=by omega
  have hh':¬hi < st.tok.val:=by omega
  have HV:Hid (((st.tok.val.toNat:Nat):Int)=st.tok.val):=by show _=_;omega
  clear h2 hl hh
  go_enter Tryz.func157,Tryz.ntmps157
  go_wp2_with fail
  refine (advance_any a b s st _ HL.out hb H.out hs).mono ?_
  rintro e w2 ⟨hk,(⟨st',rfl,g1,g2⟩ | ⟨⟨k,at_,hkk,d,rfl,hd⟩,hno⟩)⟩
  ·go_wp2
   go_ret
   refine ⟨hk,Or.inl ⟨st.tok.val.toNat,st',?_,?_,g2⟩⟩
   ·rw [HV.out];rfl
   ·rw [HM.out,g1];rfl
  ·go_wp2
   exact ⟨rfl,hk,Or.inr ⟨⟨k,at_,hkk,d,rfl,hd⟩,by rw [HM.out,hno];rfl⟩⟩
 ·have HM:Hid (Mil.number lo hi st=none):=by unfold Mil.number;rw [if_neg hc];rfl
  have HC:=hid hc
  clear hc
  have bad:∀(w2:World) (d:Nat) (at_:Int),w2.heap[d]?=some (.cells #[.int .i64 at_,errV (a 3)] 187 (0,0))→Below w.heap.size w w2 →
    NuPost (Mil.number lo hi st) a b s w (.panicked [{ v:=.iface 181 (.pointer (some ⟨d,0,none⟩)),recovered:=false }]) w2:=fun w2 d at_ hd hb2=>
   ⟨Kp.of_below hb2,Or.inr ⟨⟨3,at_,Or.inr (Or.inr (Or.inl rfl)),d,rfl,hd⟩,HM.out⟩⟩
  have BAD:=hid bad
  clear bad
  by_cases h2:st.tok.kind=2
  ·have hk2:(((st.tok.kind:Nat):Int) != 2)=false:=by simp;omega
   by_cases hl:st.tok.val < lo
   ·clear h2
    go_enter Tryz.func157,Tryz.ntmps157
    go_wp2_with fail
    refine (refused_any a b s st _ HL.out H.out).mono ?_
    rintro e w2 ⟨d,at_,rfl,hd,hb2⟩
    go_wp2
    exact ⟨rfl,BAD.out w2 d at_ hd hb2⟩
   ·have hh:hi < st.tok.val:=by
     rcases Int.lt_or_le hi st.tok.val with h' | h'
     ·exact h'
     ·exact absurd ⟨h2,by omega,h'⟩ HC.out
    clear h2
    go_enter Tryz.func157,Tryz.ntmps157
    go_wp2_with fail
    refine (refused_any a b s st _ HL.out H.out).mono ?_
    rintro e w2 ⟨d,at_,rfl,hd,hb2⟩
    go_wp2
    exact ⟨rfl,BAD.out w2 d at_ hd hb2⟩
  ·have hk2:(((st.tok.kind:Nat):Int) != 2)=true:=by simp;omega
   clear h2
   go_enter Tryz.func157,Tryz.ntmps157
   go_wp2_with fail
   refine (refused_any a b s st _ HL.out H.out).mono ?_
   rintro e w2 ⟨d,at_,rfl,hd,hb2⟩
   go_wp2
   exact ⟨rfl,BAD.out w2 d at_ hd hb2⟩
end
section
namespace Mil
theorem inv_if {s:St} {x:E×St} (h:sees s wIf=true) (k:Ok 0 eNil s x) :
  ∃s1 a s3 b s5 c,adv s=some s1∧Ok 0 eNil s1 a∧want a.2 wThen=some s3∧Ok 0 eNil s3 b∧want b.2 wElse=some s5∧Ok 0 eNil s5 c∧x=(eIf a.1 b.1 c.1,c.2):=by
 obtain ⟨n,hn⟩:=k
 cases n with
 | zero=>cases hn
 | succ n=>
  rw [px_succ] at hn;unfold step at hn
  rw [if_pos rfl,if_pos h] at hn
  obtain ⟨s1,h1,hn⟩:=Option.bind_eq_some_iff.1 hn
  obtain ⟨a,h2,hn⟩:=Option.bind_eq_some_iff.1 hn
  obtain ⟨s3,h3,hn⟩:=Option.bind_eq_some_iff.1 hn
  obtain ⟨b,h4,hn⟩:=Option.bind_eq_some_iff.1 hn
  obtain ⟨s5,h5,hn⟩:=Option.bind_eq_some_iff.1 hn
  obtain ⟨c,h6,hn⟩:=Option.map_eq_some_iff.1 hn
  exact ⟨s1,a,s3,b,s5,c,h1,⟨n,h2⟩,h3,⟨n,h4⟩,h5,⟨n,h6⟩,hn.symm⟩
theorem inv_noif {s:St} {x:E×St} (h:sees s wIf=false) (k:Ok 0 eNil s x):Ok 1 eNil s x:=by
 obtain ⟨n,hn⟩:=k
 cases n with
 | zero=>cases hn
 | succ n=>
  rw [px_succ] at hn;unfold step at hn
  rw [if_pos rfl,h,if_neg (by decide)] at hn
  exact ⟨n,hn⟩
theorem inv_pre {l:Nat} {s:St} {x:E×St} (h:(l=3∧sees s wNot=true)∨(l=7∧sees s sMinus=true)) (k:Ok l eNil s x) :
  ∃s1 a,adv s=some s1∧Ok l eNil s1 a∧x=(ePre s.tok.txt a.1,a.2):=by
 obtain ⟨n,hn⟩:=k
 cases n with
 | zero=>cases hn
 | succ n=>
  rw [px_succ] at hn;unfold step at hn
  rw [if_neg (by omega),if_neg (by omega),if_pos (by omega),if_pos h] at hn
  obtain ⟨s1,h1,hn⟩:=Option.bind_eq_some_iff.1 hn
  obtain ⟨a,h2,hn⟩:=Option.map_eq_some_iff.1 hn
  exact ⟨s1,a,h1,⟨n,h2⟩,hn.symm⟩
theorem inv_level {l:Nat} (h0:0 < l) (h8:l < 8) {s:St} {x:E×St} (h:¬((l=3∧sees s wNot=true)∨(l=7∧sees s sMinus=true))) (k:Ok l eNil s x) :
  ∃a,Ok (l+1) eNil s a∧Ok (10+l) a.1 a.2 x:=by
 obtain ⟨n,hn⟩:=k
 cases n with
 | zero=>cases hn
 | succ n=>
  rw [px_succ] at hn;unfold step at hn
  rw [if_neg (by omega),if_neg (by omega),if_pos h8,if_neg h] at hn
  obtain ⟨a,h1,hn⟩:=Option.bind_eq_some_iff.1 hn
  exact ⟨a,⟨n,h1⟩,⟨n,hn⟩⟩
theorem inv_go {l:Nat} {s:St} {a:E} {x:E×St} (h:opAt s=l) (k:Ok (10+l) a s x) :
  ∃s1 b,adv s=some s1∧Ok (l+1) eNil s1 b∧((l=4∧x=(eTwo s.tok.txt a b.1,b.2))∨(l≠4∧Ok (10+l) (eTwo s.tok.txt a b.1) b.2 x)):=by
 obtain ⟨n,hn⟩:=k
 cases n with
 | zero=>cases hn
 | succ n=>
  rw [px_succ] at hn;unfold step at hn
  have e:10+l - 10=l:=by omega
  rw [if_neg (by omega),if_neg (by omega),if_neg (by omega),e,if_pos h] at hn
  obtain ⟨s1,h1,hn⟩:=Option.bind_eq_some_iff.1 hn
  obtain ⟨b,h2,hn⟩:=Option.bind_eq_some_iff.1 hn
  refine ⟨s1,b,h1,⟨n,h2⟩,?_⟩
  by_cases h4:10+l=14
  ·rw [if_pos h4] at hn
   exact Or.inl ⟨by omega,(Option.some.inj hn).symm⟩
  ·rw [if_neg h4] at hn
   exact Or.inr ⟨by omega,⟨n,hn⟩⟩
theorem inv_atom {s:St} {x:E×St} (k:Ok 8 eNil s x):∃n,atom (px n) s=some x:=by
 obtain ⟨n,hn⟩:=k
 cases n with
 | zero=>cases hn
 | succ n=>
  rw [px_succ] at hn;unfold step at hn
  rw [if_neg (by decide),if_pos rfl] at hn
  exact ⟨n,hn⟩
def mu (s:St):Nat:=s.rest.length+if s.tok.kind=0 then 0 else 1
theorem dropWhile_len (f:UInt8→Bool):∀l:Bytes,(l.dropWhile f).length≤l.length
 | []=>Nat.le_refl _
 | c::r=>by
  rw [List.dropWhile_cons]
  have:=dropWhile_len f r
  split
  ·simp;omega
  ·exact Nat.le_refl _
theorem cut_short {c:UInt8} {q:Bytes} {t:Tok} {r:Bytes} (h:cut (c::q)=some (t,r)):r.length≤q.length:=by
 have h':(if isL c=true then cutName (c::q) else if isD c=true then cutNum (c::q) else cutSign (c::q))=some (t,r):=h
 by_cases hl:isL c=true
 ·rw [if_pos hl] at h'
  unfold cutName at h'
  split at h'
  ·cases h'
  ·obtain ⟨_,rfl⟩:=Prod.mk.inj (Option.some.inj h')
   rw [List.dropWhile_cons,if_pos (by simp [isN,hl])]
   exact dropWhile_len _ _
 ·rw [if_neg hl] at h'
  by_cases hd:isD c=true
  ·rw [if_pos hd] at h'
   unfold cutNum at h'
   split at h'
   ·split at h'
    ·cases h'
    ·obtain ⟨_,rfl⟩:=Prod.mk.inj (Option.some.inj h')
     rw [List.dropWhile_cons,if_pos hd]
     exact dropWhile_len _ _
   ·cases h'
  ·rw [if_neg hd] at h'
   unfold cutSign at h'
   split at h'
   ·rename_i x hf
    obtain ⟨_,rfl⟩:=Prod.mk.inj (Option.some.inj h')
    have hm:=List.mem_of_find?_eq_some hf
    have hpos:1≤x.length:=by
     simp only [signs,List.mem_cons,List.not_mem_nil,or_false] at hm
     rcases hm with rfl | rfl | rfl | rfl | rfl | rfl | rfl | rfl | rfl | rfl | rfl | rfl | rfl | rfl | rfl | rfl | rfl <;> decide
    simp;omega
   ·cases h'
theorem skip_short:∀(f:Bool) (l:Bytes),(skip f l).length≤l.length
 | true,[]=>Nat.le_refl _
 | false,[]=>Nat.le_refl _
 | true,c::r=>by
  rw [skip]
  have:=skip_short true r
  have:=skip_short false r
  split <;> simp <;> omega
 | false,c::r=>by
  rw [skip]
  have:=skip_short true r
  have:=skip_short false r
  split
  ·simp;omega
  ·split
   ·simp;omega
   ·exact Nat.le_refl _
theorem adv_mu {s s1:St} (h:adv s=some s1) (hk:s.tok.kind≠0):mu s1 < mu s:=by
 unfold adv adv' at h
 have hsk:=skip_short false s.rest
 unfold mu
 rw [if_neg hk]
 split at h
 ·cases h
 ·rename_i t r hc
  cases hq:skip false s.rest with
  | nil=>
   rw [hq] at hc
   obtain ⟨rfl,rfl⟩:=Prod.mk.inj (Option.some.inj hc)
   rw [if_pos rfl] at h
   obtain rfl:=(Option.some.inj h).symm
   simp
  | cons c q=>
   rw [hq] at hc hsk
   have hr:=cut_short hc
   simp at hsk
   by_cases h0:t.kind=0
   ·rw [if_pos h0] at h
    obtain rfl:=(Option.some.inj h).symm
    simp only [h0,if_true]
    omega
   ·rw [if_neg h0] at h
    split at h
    ·cases h
    ·obtain rfl:=(Option.some.inj h).symm
     simp only [h0,if_false]
     omega
theorem sees_kind3 {s:St} {x:Bytes} (h:sees s x=true):s.tok.kind=3∧s.tok.txt=x:=by
 unfold sees at h
 simpa using h
theorem want_mu {s s1:St} {x:Bytes} (h:want s x=some s1):mu s1 < mu s:=by
 unfold want at h
 by_cases hx:sees s x=true
 ·rw [if_pos hx] at h;exact adv_mu h (by rw [(sees_kind3 hx).1];decide)
 ·rw [if_neg hx] at h;cases h
theorem number_mu {s:St} {lo hi:Int} {x:Nat×St} (h:number lo hi s=some x):mu x.2 < mu s:=by
 unfold number at h
 by_cases hk:s.tok.kind=2∧lo≤s.tok.val∧s.tok.val≤hi
 ·rw [if_pos hk] at h
  obtain ⟨s1,h1,rfl⟩:=Option.map_eq_some_iff.1 h
  exact adv_mu h1 (by omega)
 ·rw [if_neg hk] at h;cases h
theorem name_mu {s:St} {x:Bytes×St} (h:name s=some x):mu x.2 < mu s:=by
 unfold name at h
 by_cases hk:s.tok.kind=1
 ·rw [if_pos hk] at h
  obtain ⟨s1,h1,rfl⟩:=Option.map_eq_some_iff.1 h
  exact adv_mu h1 (by omega)
 ·rw [if_neg hk] at h;cases h
theorem literal_mu {s:St} {x:E×St} (h:literal s=some x):mu x.2 < mu s:=by
 unfold literal at h
 by_cases h1:sees s wTrue=true
 ·rw [if_pos h1] at h
  obtain ⟨s1,e1,rfl⟩:=Option.map_eq_some_iff.1 h
  exact adv_mu e1 (by rw [(sees_kind3 h1).1];decide)
 ·rw [if_neg h1] at h
  by_cases h2:sees s wFalse=true
  ·rw [if_pos h2] at h
   obtain ⟨s1,e1,rfl⟩:=Option.map_eq_some_iff.1 h
   exact adv_mu e1 (by rw [(sees_kind3 h2).1];decide)
  ·rw [if_neg h2] at h
   obtain ⟨y,e1,rfl⟩:=Option.map_eq_some_iff.1 h
   exact number_mu e1
theorem constant_mu {s:St} {x:E×St} (h:constant s=some x):mu x.2 < mu s:=by
 unfold constant at h
 by_cases h1:sees s sMinus=true
 ·rw [if_pos h1] at h
  obtain ⟨s1,e1,h2⟩:=Option.bind_eq_some_iff.1 h
  obtain ⟨y,e2,rfl⟩:=Option.map_eq_some_iff.1 h2
  exact Nat.lt_trans (number_mu e2) (adv_mu e1 (by rw [(sees_kind3 h1).1];decide))
 ·rw [if_neg h1] at h
  exact literal_mu h
end Mil
end
section
open Go.RowKit
def opName (j:Nat):Mil.Bytes:=(opsTab.getD j ([],0)).1
def opBind (j:Nat):Int:=(opsTab.getD j ([],0)).2
theorem lt14 {i:Nat} (h:i < 14):i=0∨i=1∨i=2∨i=3∨i=4∨i=5∨i=6∨i=7∨i=8∨i=9∨i=10∨i=11∨i=12∨i=13:=by omega
theorem index_ops (j:Nat) (h:j < 14) (w:World):(Instr.index 311 (.agg opCells) (.int .i64 j)).run Tryz.prog w=.ok (.agg #[.string (bs (opName j)),.int .i64 (opBind j)]) w:=by
 rcases lt14 h with rfl | rfl | rfl | rfl | rfl | rfl | rfl | rfl | rfl | rfl | rfl | rfl | rfl | rfl <;> kernel_rfl
theorem op_tight (j:Nat) (h:j < 14):Mil.tightOf (opName j)≠9∧((Mil.tightOf (opName j):Nat):Int)=opBind j:=by
 rcases lt14 h with rfl | rfl | rfl | rfl | rfl | rfl | rfl | rfl | rfl | rfl | rfl | rfl | rfl | rfl <;> decide
theorem op_none {x:Mil.Bytes} (h:∀m,m < 14→opName m≠x):Mil.tightOf x=9:=by
 have g:∀(m:Nat) (y:Mil.Bytes),m < 14→opName m=y→x≠y:=fun m y hm e he=>h m hm (e.trans he.symm)
 unfold Mil.tightOf
 rw [if_neg,if_neg,if_neg,if_neg,if_neg]
 ·rintro (e | e | e)
  ·exact g 11 _ (by decide) rfl e
  ·exact g 12 _ (by decide) rfl e
  ·exact g 13 _ (by decide) rfl e
 ·rintro (e | e)
  ·exact g 9 _ (by decide) rfl e
  ·exact g 10 _ (by decide) rfl e
 ·rintro (e | e | e | e | e | e)
  ·exact g 3 _ (by decide) rfl e
  ·exact g 4 _ (by decide) rfl e
  ·exact g 5 _ (by decide) rfl e
  ·exact g 6 _ (by decide) rfl e
  ·exact g 7 _ (by decide) rfl e
  ·exact g 8 _ (by decide) rfl e
 ·exact fun e=>g 2 _ (by decide) rfl e
 ·rintro (e | e)
  ·exact g 0 _ (by decide) rfl e
  ·exact g 1 _ (by decide) rfl e
def tightGo (x:Mil.Bytes):Int:=if Mil.tightOf x=9 then -1 else (Mil.tightOf x:Nat)
theorem tightnessOf_any (a:Nat→Addr) (x:ByteArray) (w:World) (L:Laid a w) :
  Calls Tryz.prog 183 #[.string x] w fun e w'=>e=.returned (.int .i64 (tightGo x.data.toList))∧Below w.heap.size w w':=by
 obtain ⟨tq,ho⟩:=L.ops
 have hix:=fun (j:Nat) (h:j < 14) (w:World)=>index_ops j h w
 clear L
 go_enter Tryz.func183,Tryz.ntmps183
 go_wp2_with (refine wpList_load_row rfl 311 _ rfl 23 rfl tq _ (0,0) _ ho Tryz.underlying311 rfl (by kernel_rfl) ?_)
 clear ho
 go_loopg [6] 14 (fun g s6 wr=>∃j:Nat,j≤14∧s6=.int .i64 j∧g=14 - j∧Hid (Below w.heap.size w wr)∧Hid (∀m,m < j→opName m≠x.data.toList))
 case atStart=>exact ⟨0,by decide,rfl,rfl,Below.refl _ _,fun m hm=>by omega⟩
 case round=>
  obtain ⟨j,hj,rfl,hg,HB,HW⟩:=hrel
  have HG:=hid hg
  clear hg
  by_cases hlt:j < 14
  ·have hi:=hix j hlt
   by_cases heq:opName j=x.data.toList
   ·have hbq:((bs (opName j)).toList==x.toList)=true:=by rw [Lib.toList_data,Lib.toList_data,bs_list,heq];simp
    have HE:=hid heq
    clear heq
    go_wp2
    go_ret
    refine ⟨?_,HB.out.alloc HB.out.size _⟩
    have:=op_tight j hlt
    show Ending.returned (.int .i64 (opBind j))=_
    rw [←HE.out,tightGo,if_neg this.1,this.2]
   ·have hbq:((bs (opName j)).toList==x.toList)=false:=by rw [Lib.toList_data,Lib.toList_data,bs_list];simpa using heq
    have HE:=hid heq
    clear heq
    go_wp2
    go_roundg (14 - (j+1))
    case measure=>have:=HG.out;omega
    case rel=>
     refine ⟨j+1,by omega,by go_num,rfl,HB.out.alloc HB.out.size _,?_⟩
     intro m hm
     rcases Nat.lt_or_ge m j with h | h
     ·exact HW.out m h
     ·have:m=j:=by omega
      rw [this];exact HE.out
  ·go_wp2
   go_ret
   refine ⟨?_,HB.out⟩
   have:=op_none (x:=x.data.toList) (fun m hm=>HW.out m (by omega))
   rw [tightGo,if_pos this];rfl
theorem seesOperator_any (a:Nat→Addr) (b:Nat) (s:ByteArray) (st:Mil.St) (l:Nat) (h1:1≤l) (h8:l≤8) (w:World) (L:Laid a w) (h:RdS w b s st) :
  Calls Tryz.prog 172 #[.pointer (some ⟨b,0,none⟩),.int .i64 l] w fun e w'=>e=.returned (.bool (decide (Mil.opAt st=l)))∧Below w.heap.size w w':=by
 have HL:=hid L
 obtain ⟨p,tp,x,hp,hR,hr,hx,hn⟩:=h
 have c3:=hR.c3
 have c5:=hR.c5
 have HX:=hid hx
 clear hR hr hx L
 by_cases h3:st.tok.kind=3
 ·have hb:(((st.tok.kind:Nat):Int)==3)=true:=by simp;omega
  have HO:Hid (Mil.opAt st=Mil.tightOf st.tok.txt):=by unfold Mil.opAt;rw [if_pos h3];rfl
  clear h3
  go_enter Tryz.func172,Tryz.ntmps172
  go_wp2_with fail
  refine (tightnessOf_any a x w HL.out).mono ?_
  rintro e w1 ⟨rfl,hb1⟩
  go_wp2
  go_ret
  refine ⟨ret_bool ?_,hb1⟩
  rw [HO.out,HX.out,tightGo,Bool.eq_iff_iff]
  by_cases h9:Mil.tightOf st.tok.txt=9
  ·rw [if_pos h9];simp;omega
  ·rw [if_neg h9];simp;omega
 ·have hb:(((st.tok.kind:Nat):Int)==3)=false:=by simp;omega
  have HO:Hid (Mil.opAt st=9):=by unfold Mil.opAt;rw [if_neg h3];rfl
  clear h3
  go_enter Tryz.func172,Tryz.ntmps172
  go_wp2
  go_ret
  refine ⟨ret_bool ?_,Below.refl _ _⟩
  rw [HO.out];symm;rw [decide_eq_false_iff_not];omega
def tyAt (j:Nat):Mil.Bytes:=[Mil.wInt,Mil.wBool].getD j []
theorem lt2 {j:Nat} (h:j < 2):j=0∨j=1:=by omega
theorem index_types (j:Nat) (h:j < 2) (w:World):(Instr.index 273 (.agg (strCells [Mil.wInt,Mil.wBool])) (.int .i64 j)).run Tryz.prog w=.ok (.string (bs (tyAt j))) w:=by
 rcases lt2 h with rfl | rfl <;> kernel_rfl
theorem ftype_at {st:Mil.St} (j:Nat) (hj:j < 2) (hy:Mil.sees st (tyAt j)=true) (hn:∀m,m < j→Mil.sees st (tyAt m)=false):Mil.ftype st=(Mil.adv st).map fun s1=>(j,s1):=by
 rcases lt2 hj with rfl | rfl
 ·unfold Mil.ftype
  rw [if_pos (show Mil.sees st Mil.wInt=true from hy)]
 ·unfold Mil.ftype
  have h0:Mil.sees st Mil.wInt=false:=hn 0 (by decide)
  rw [h0,if_neg (by decide),if_pos (show Mil.sees st Mil.wBool=true from hy)]
theorem ftype_none {st:Mil.St} (hn:∀m,m < 2→Mil.sees st (tyAt m)=false):Mil.ftype st=none:=by
 unfold Mil.ftype
 have h0:Mil.sees st Mil.wInt=false:=hn 0 (by decide)
 have h1:Mil.sees st Mil.wBool=false:=hn 1 (by decide)
 rw [h0,h1,if_neg (by decide),if_neg (by decide)]
theorem flowType_any (a:Nat→Addr) (b:Nat) (s:ByteArray) (st:Mil.St) (w:World) (L:Laid a w) (hb:27≤b) (h:RdS w b s st) (hs:s.size≤4000) :
  Calls Tryz.prog 156 #[.pointer (some ⟨b,0,none⟩)] w (NuPost (Mil.ftype st) a b s w):=by
 have H:=hid h
 have HL:=hid L
 obtain ⟨tq,ho⟩:=L.types
 have hix:=fun (j:Nat) (h:j < 2) (w:World)=>index_types j h w
 clear h L
 go_enter Tryz.func156,Tryz.ntmps156
 go_wp2_with (refine wpList_load_row rfl 273 _ rfl 20 rfl tq _ (0,0) _ ho Tryz.underlying273 rfl (by kernel_rfl) ?_)
 clear ho
 go_loopg [6] 2 (fun g s6 wr=>∃j:Nat,j≤2∧s6=.int .i64 j∧g=2 - j∧wr=w∧Hid (∀m,m < j→Mil.sees st (tyAt m)=false))
 case atStart=>exact ⟨0,by decide,rfl,rfl,rfl,fun m hm=>by omega⟩
 case round=>
  obtain ⟨j,hj,rfl,hg,rfl,HW⟩:=hrel
  have HG:=hid hg
  clear hg
  by_cases hlt:j < 2
  ·have hi:=hix j hlt
   by_cases heq:Mil.sees st (tyAt j)=true
   ·have HM:Hid (Mil.ftype st=(Mil.adv st).map fun s1=>(j,s1)):=ftype_at j hlt heq HW.out
    have HE:=hid heq
    clear heq
    go_wp2_with fail
    refine (takes_yes a b s st (bs (tyAt j)) _ HL.out hb H.out hs HE.out).mono ?_
    rintro e w1 ⟨hk,(⟨st',rfl,h1,h2⟩ | ⟨⟨k,at_,hkk,d,rfl,hd⟩,hno⟩)⟩
    ·go_wp2
     go_ret
     exact ⟨hk,Or.inl ⟨j,st',rfl,by rw [HM.out,h1];rfl,h2⟩⟩
    ·go_wp2
     exact ⟨rfl,hk,Or.inr ⟨⟨k,at_,hkk,d,rfl,hd⟩,by rw [HM.out,hno];rfl⟩⟩
   ·have HE:Hid (Mil.sees st (bs (tyAt j)).data.toList=false):=Bool.eq_false_iff.2 heq
    clear heq
    go_wp2_with fail
    refine (takes_no b s st (bs (tyAt j)) _ H.out HE.out).mono ?_
    rintro e w1 ⟨rfl,rfl⟩
    go_wp2
    go_roundg (2 - (j+1))
    case measure=>have:=HG.out;omega
    case rel=>
     refine ⟨j+1,by omega,by go_num,rfl,rfl,?_⟩
     intro m hm
     rcases Nat.lt_or_ge m j with h | h
     ·exact HW.out m h
     ·have:m=j:=by omega
      rw [this];exact HE.out
  ·go_wp2_with fail
   refine (refused_any a b s st _ HL.out H.out).mono ?_
   rintro e w2 ⟨d,at_,rfl,hd,hb2⟩
   go_wp2
   exact ⟨rfl,Kp.of_below hb2,Or.inr ⟨⟨3,at_,Or.inr (Or.inr (Or.inl rfl)),d,rfl,hd⟩,ftype_none (fun m hm=>HW.out m (by omega))⟩⟩
def ev:Mil.E→Value
 | .nil=>.nilIface
 | .node 1 k _ _ _=>.iface 309 (.agg #[.int .i64 (k:Nat)])
 | .node 2 k _ _ _=>.iface 307 (.agg #[.bool (k==1)])
 | .node 3 _ x _ _=>.iface 292 (.agg #[.string (bs x)])
 | .node 4 _ x a _=>.iface 279 (.agg #[.string (bs x),ev a])
 | .node 5 _ x a b=>.iface 281 (.agg #[.string (bs x),ev a,ev b])
 | .node 6 _ _ a (.node _ _ _ b c)=>.iface 276 (.agg #[ev a,ev b,ev c])
 | .node 7 _ _ a b=>.iface 299 (.agg #[ev a,ev b])
 | .node 8 k _ a _=>.iface 301 (.agg #[ev a,.int .i64 (k:Nat)])
 | .node 9 k _ a b=>.iface 303 (.agg #[ev a,ev b,.int .i64 (k:Nat)])
 | .node _ _ x a b=>.iface 305 (.agg #[.string (bs x),ev a,ev b])
def ExPost (R:Mil.E→Mil.St→Prop) (a:Nat→Addr) (b:Nat) (s:ByteArray) (w:World) (e:Ending) (w':World):Prop:=
 Kp b w w'∧((∃x st ty y,e=.returned (.iface ty y)∧ev x=.iface ty y∧R x st∧RdS w' b s st)∨(Threw a e w'∧∀x st,¬R x st))
theorem literal_any (a:Nat→Addr) (b:Nat) (s:ByteArray) (st:Mil.St) (w:World) (L:Laid a w) (hb:27≤b) (h:RdS w b s st) (hs:s.size≤4000) :
  Calls Tryz.prog 182 #[.pointer (some ⟨b,0,none⟩)] w (ExPost (fun x st'=>Mil.literal st=some (x,st')) a b s w):=by
 have H:=hid h
 have HL:=hid L
 clear h L
 by_cases hT:Mil.sees st Mil.wTrue=true
 ·have HM:Hid (Mil.literal st=(Mil.adv st).map fun s1=>(Mil.eBool 1,s1)):=by unfold Mil.literal;rw [if_pos hT];rfl
  have HT:=hid hT
  clear hT
  go_enter Tryz.func182,Tryz.ntmps182
  go_wp2_with fail
  refine (takes_yes a b s st (bs Mil.wTrue) _ HL.out hb H.out hs HT.out).mono ?_
  rintro e w1 ⟨hk,(⟨st',rfl,h1,h2⟩ | ⟨⟨k,at_,hkk,d,rfl,hd⟩,hno⟩)⟩
  ·go_wp2
   go_ret
   exact ⟨hk,Or.inl ⟨Mil.eBool 1,st',_,_,rfl,rfl,by rw [HM.out,h1];rfl,h2⟩⟩
  ·go_wp2
   exact ⟨rfl,hk,Or.inr ⟨⟨k,at_,hkk,d,rfl,hd⟩,fun x st' hx=>by rw [HM.out,hno] at hx;cases hx⟩⟩
 ·have HT:Hid (Mil.sees st (bs Mil.wTrue).data.toList=false):=Bool.eq_false_iff.2 hT
  by_cases hF:Mil.sees st Mil.wFalse=true
  ·have HM:Hid (Mil.literal st=(Mil.adv st).map fun s1=>(Mil.eBool 0,s1)):=by unfold Mil.literal;rw [if_neg hT,if_pos hF];rfl
   have HF:=hid hF
   clear hT hF
   go_enter Tryz.func182,Tryz.ntmps182
   go_wp2_with fail
   refine (takes_no b s st (bs Mil.wTrue) _ H.out HT.out).mono ?_
   rintro e w1 ⟨rfl,rfl⟩
   go_wp2_with fail
   refine (takes_yes a b s st (bs Mil.wFalse) _ HL.out hb H.out hs HF.out).mono ?_
   rintro e w1 ⟨hk,(⟨st',rfl,h1,h2⟩ | ⟨⟨k,at_,hkk,d,rfl,hd⟩,hno⟩)⟩
   ·go_wp2
    go_ret
    exact ⟨hk,Or.inl ⟨Mil.eBool 0,st',_,_,rfl,rfl,by rw [HM.out,h1];rfl,h2⟩⟩
   ·go_wp2
    exact ⟨rfl,hk,Or.inr ⟨⟨k,at_,hkk,d,rfl,hd⟩,fun x st' hx=>by rw [HM.out,hno] at hx;cases hx⟩⟩
  ·have HF:Hid (Mil.sees st (bs Mil.wFalse).data.toList=false):=Bool.eq_false_iff.2 hF
   have HM:Hid (Mil.literal st=(Mil.number 0 9223372036854775807 st).map fun x=>(Mil.eInt x.1,x.2)):=by unfold Mil.literal;rw [if_neg hT,if_neg hF];rfl
   clear hT hF
   go_enter Tryz.func182,Tryz.ntmps182
   go_wp2_with fail
   refine (takes_no b s st (bs Mil.wTrue) _ H.out HT.out).mono ?_
   rintro e w1 ⟨rfl,rfl⟩
   go_wp2_with fail
   refine (takes_no b s st (bs Mil.wFalse) _ H.out HF.out).mono ?_
   rintro e w1 ⟨rfl,rfl⟩
   go_wp2_with fail
   refine (number_any a b s st 0 9223372036854775807 (by omega) _ HL.out hb H.out hs).mono ?_
   rintro e w1 ⟨hk,(⟨k,st',rfl,h1,h2⟩ | ⟨⟨k,at_,hkk,d,rfl,hd⟩,hno⟩)⟩
   ·go_wp2
    go_ret
    exact ⟨hk,Or.inl ⟨Mil.eInt k,st',_,_,rfl,rfl,by rw [HM.out,h1];rfl,h2⟩⟩
   ·go_wp2
    exact ⟨rfl,hk,Or.inr ⟨⟨k,at_,hkk,d,rfl,hd⟩,fun x st' hx=>by rw [HM.out,hno] at hx;cases hx⟩⟩
theorem constant_any (a:Nat→Addr) (b:Nat) (s:ByteArray) (st:Mil.St) (w:World) (L:Laid a w) (hb:27≤b) (h:RdS w b s st) (hs:s.size≤4000) :
  Calls Tryz.prog 188 #[.pointer (some ⟨b,0,none⟩)] w (ExPost (fun x st'=>Mil.constant st=some (x,st')) a b s w):=by
 have H:=hid h
 have HL:=hid L
 clear h L
 by_cases hT:Mil.sees st Mil.sMinus=true
 ·have HM:Hid (Mil.constant st=(Mil.adv st).bind fun s1=>(Mil.number 0 9223372036854775807 s1).map fun x=>(Mil.ePre Mil.sMinus (Mil.eInt x.1),x.2)):=by unfold Mil.constant;rw [if_pos hT];rfl
  have HT:=hid hT
  clear hT
  go_enter Tryz.func188,Tryz.ntmps188
  go_wp2_with fail
  refine (takes_yes a b s st (bs Mil.sMinus) _ HL.out hb H.out hs HT.out).mono ?_
  rintro e w1 ⟨hk,(⟨st',rfl,h1,h2⟩ | ⟨⟨k,at_,hkk,d,rfl,hd⟩,hno⟩)⟩
  ·go_wp2_with fail
   refine (number_any a b s st' 0 9223372036854775807 (by omega) w1 (HL.out.kept hk hb) hb h2 hs).mono ?_
   rintro e w2 ⟨hk2,(⟨k,st2,rfl,g1,g2⟩ | ⟨⟨k,at_,hkk,d,rfl,hd⟩,hno⟩)⟩
   ·go_wp2
    go_ret
    exact ⟨hk.trans hk2,Or.inl ⟨Mil.ePre Mil.sMinus (Mil.eInt k),st2,_,_,rfl,rfl,by rw [HM.out,h1,Option.bind_some,g1];rfl,g2⟩⟩
   ·go_wp2
    exact ⟨rfl,hk.trans hk2,Or.inr ⟨⟨k,at_,hkk,d,rfl,hd⟩,fun x st' hx=>by rw [HM.out,h1,Option.bind_some,hno] at hx;cases hx⟩⟩
  ·go_wp2
   exact ⟨rfl,hk,Or.inr ⟨⟨k,at_,hkk,d,rfl,hd⟩,fun x st' hx=>by rw [HM.out,hno] at hx;cases hx⟩⟩
 ·have HT:Hid (Mil.sees st (bs Mil.sMinus).data.toList=false):=Bool.eq_false_iff.2 hT
  have HM:Hid (Mil.constant st=Mil.literal st):=by unfold Mil.constant;rw [if_neg hT];rfl
  clear hT
  go_enter Tryz.func188,Tryz.ntmps188
  go_wp2_with fail
  refine (takes_no b s st (bs Mil.sMinus) _ H.out HT.out).mono ?_
  rintro e w1 ⟨rfl,rfl⟩
  go_wp2_with fail
  refine (literal_any a b s st _ HL.out hb H.out hs).mono ?_
  rintro e w1 ⟨hk,(⟨x,st',ty,y,rfl,h0,h1,h2⟩ | ⟨⟨k,at_,hkk,d,rfl,hd⟩,hno⟩)⟩
  ·go_wp2
   go_ret
   exact ⟨hk,Or.inl ⟨x,st',ty,y,rfl,h0,HM.out.trans h1,h2⟩⟩
  ·go_wp2
   exact ⟨rfl,hk,Or.inr ⟨⟨k,at_,hkk,d,rfl,hd⟩,fun x st' hx=>hno x st' (HM.out.symm.trans hx)⟩⟩
end
end Go.Proofs.YtoiajojadihpbaaGreatDoor
