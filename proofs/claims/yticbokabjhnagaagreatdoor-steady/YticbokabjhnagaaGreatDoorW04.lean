import Derived.Test.YticbokabjhnagaaGreatDoorW02
import Derived.Test.YticbokabjhnagaaGreatDoorW03
import Derived.Lib.SmallJoins
import Derived.Test.YticbokabjhnagaaGreatDoorW00
namespace Go.Proofs.YticbokabjhnagaaGreatDoor
set_option maxHeartbeats 32000000
section
open Go.RowKit
theorem pum_cases (M:Nat):∀(l:Mil.Bytes) (acc:Nat),(∀c,c∈l→Mil.isD c=true)→(∃u,Lib.parseUintM M acc l=.ok u)∨Lib.parseUintM M acc l=.range
 | [],acc,_=>Or.inl ⟨acc,rfl⟩
 | c::l,acc,h=>by
  have hc:=h c List.mem_cons_self
  have hd:48≤c.toNat∧c.toNat≤57:=by unfold Mil.isD at hc;simpa using hc
  rw [Lib.parseUintM,if_pos hd]
  by_cases h2:1844674407370955162≤acc
  ·rw [if_pos h2];exact Or.inr rfl
  ·rw [if_neg h2]
   by_cases h3:M < acc*10+(c.toNat - 48)
   ·rw [if_pos h3];exact Or.inr rfl
   ·rw [if_neg h3]
    exact pum_cases M l _ fun d hd=>h d (List.mem_cons_of_mem _ hd)
theorem parse_cases (l:Mil.Bytes) (hne:l≠[]) (h:∀c,c∈l→Mil.isD c=true):(∃v,Lib.parseIntB 64 l=.ok v)∨Lib.parseIntB 64 l=.range:=by
 cases l with
 | nil=>exact absurd rfl hne
 | cons c r=>
  have hc:=h c List.mem_cons_self
  have hd:48≤c.toNat∧c.toNat≤57:=by unfold Mil.isD at hc;simpa using hc
  have hu:=pum_cases (2 ^ 64 - 1) (c::r) 0 h
  have hpb:Lib.parseUintB 64 (c::r)=Lib.parseUintM (2 ^ 64 - 1) 0 (c::r):=by unfold Lib.parseUintB;rw [if_neg (by simp)]
  unfold Lib.parseIntB
  simp only []
  rw [if_neg (by omega),hpb]
  rcases hu with ⟨u,hu⟩ | hu
  ·rw [hu]
   simp only []
   by_cases h1:¬c.toNat=45∧2 ^ (64 - 1)≤u
   ·rw [if_pos h1];exact Or.inr rfl
   ·rw [if_neg h1,if_neg (by omega)];exact Or.inl ⟨_,rfl⟩
  ·rw [hu];exact Or.inr rfl
theorem pInt_ok (x:ByteArray) (hx:x.size≤4000) (u:Int) (h:Lib.parseIntB 64 x.data.toList=.ok u) (w:World) :
  Calls Tryz.prog 150 #[.string x,.int .i64 10,.int .i64 64] w fun e w'=>e=.returned (.tuple #[.int .i64 u,.nilIface])∧Below w.heap.size w w':=by
 refine (Tryz.strconv_ParseInt_10_at64_ok x (by omega) u h w).mono ?_
 rintro e w' ⟨he,hw⟩
 rcases hw with rfl | ⟨t,rfl⟩
 ·exact ⟨he,Below.refl _ _⟩
 ·exact ⟨he,Joins.below_bytesWorld _ _ _ _ (Nat.le_refl _)⟩
theorem pInt_range (a:Nat→Addr) (x:ByteArray) (hx:x.size≤4000) (h:Lib.parseIntB 64 x.data.toList=.range) (w:World) (L:w.cell? ⟨19,0,none⟩=some (errV (a 20))) :
  Calls Tryz.prog 150 #[.string x,.int .i64 10,.int .i64 64] w fun e w'=>∃N,e=.returned (.tuple #[.int .i64 (Lib.intSat 64 x.data.toList),.iface 273 (.pointer (some ⟨N,0,none⟩))])∧Below w.heap.size w w':=by
 refine (Tryz.strconv_ParseInt_10_at64_range x (by omega) h (errV (a 20)) w L (Or.inr ⟨_,_,rfl⟩)).mono ?_
 rintro e w' ⟨N,he,_,_,hb⟩
 exact ⟨N,he,hb⟩
theorem run_len {f:UInt8→Bool} {s:ByteArray} {p q:Nat} (h:Run f s p q) (hf:∀h:q < s.size,f s[q]=false) (hp:p < s.size) (h0:f s[p]=true):p < q:=by
 rcases Nat.lt_or_ge p q with hl | hl
 ·exact hl
 ·have e:=h.done hf
  rw [(while_drop hp f h0).1] at e
  have:q - p=0:=by omega
  rw [this] at e
  simp at e
theorem cutNumber_any (a:Nat→Addr) (b:Nat) (s:ByteArray) (p n:Nat) (k tp:Int) (x:ByteArray) (v:Int) (w:World) (L:Laid a w) (hb:23≤b) (h:Rd w b s p n k tp x v) (hp:p < s.size) (h0:Mil.isD s[p]=true) (hs:s.size≤4000) :
  Calls Tryz.prog 120 #[.pointer (some ⟨b,0,none⟩)] w (TokPost (Mil.cutNum (s.data.toList.drop p)) a b s p n k tp x v w):=by
 have H:Hid (Rd w b s p n k tp x v):=h
 have HL:Hid (Laid a w):=L
 have H0:Hid (Mil.isD s[p]=true):=h0
 have c1:=h.c1
 have hbw:b < w.heap.size:=lt_of_cell h.c0
 clear h L h0
 go_enter Tryz.func120,Tryz.ntmps120
 go_upto_block 0 with fail
 go_cut [] from 11 to 39 (fun wl=>∃q,p≤q∧q≤s.size∧Hid (Run Mil.isD s p q)∧Hid (∀h:q < s.size,Mil.isD s[q]=false)∧Hid (Rd wl b s q n k tp x v)∧Hid (Kp b w wl)∧Hid (Slot wl w.heap.size))
 case first=>
  go_wp2
  go_loopg [] (s.size - p) (fun g wr=>∃q,p≤q∧q≤s.size∧g=s.size - q∧Hid (Run Mil.isD s p q)∧Hid (Rd wr b s q n k tp x v)∧Hid (Kp b w wr)∧Hid (Slot wr w.heap.size))
  case atStart=>exact ⟨p,Nat.le_refl _,by omega,rfl,Run.start _ _ _,H.out.kept ((Kp.refl (b+1) _).alloc _) (by omega),(Kp.refl b _).alloc _,heap_alloc_new _ _⟩
  case round=>
   obtain ⟨q,hpq,hq,hg,HU,HR,HK,HT⟩:=hrel
   have HG:Hid (gk=s.size - q):=hg
   clear hg c1
   have c0:=HR.out.c0
   have c1:=HR.out.c1
   have f1:=HR.out.fz 1
   by_cases hlt:q < s.size
   ·by_cases hn:Mil.isD s[q]=true
    ·go_wp2_with fail
     go_quiet ((go_at_call 119;exact Calls.quiet_of_same (isDigit_any _ _)))
     go_wp2
     go_roundg (s.size - (q+1))
     case measure=>have:=HG.out;omega
     case rel=>exact ⟨q+1,by omega,by omega,rfl,HU.out.next hpq hlt hn,(HR.out.drewN _).step1,(HK.out.drewN _).setCell _ _,HT.out.kept (((Kp.refl b _).drewN _).setCell _ _) (by omega)⟩
    ·have hn':Mil.isD s[q]=false:=by simpa using hn
     clear hn
     go_wp2_with fail
     go_quiet ((go_at_call 119;exact Calls.quiet_of_same (isDigit_any _ _)))
     go_wp2
     go_meet
     case rel=>exact ⟨q,hpq,hq,HU,fun _=>hn',HR.out.drewN _,HK.out.drewN _,HT.out.kept ((Kp.refl b _).drewN _) (by omega)⟩
   ·have hd:decide ((q:Int) < (s.size:Int))=false:=by simp;omega
    go_wp2_with fail
    go_quiet (fail)
    go_wp2
    go_meet
    case rel=>exact ⟨q,hpq,hq,HU,fun h=>absurd h hlt,HR.out.drewN _,HK.out.drewN _,HT.out.kept ((Kp.refl b _).drewN _) (by omega)⟩
 case rest=>
  obtain ⟨q,hpq,hq,HU,HF,HR,HK,HT⟩:=hcut
  clear c1
  have hlt:p < q:=run_len HU.out HF.out hp H0.out
  have HC:Hid ((∃v,Lib.parseIntB 64 ((s.data.toList.drop p).take (q - p))=.ok v)∨Lib.parseIntB 64 ((s.data.toList.drop p).take (q - p))=.range):=by
   refine parse_cases _ ?_ ?_
   ·intro e
    have:=congrArg List.length e
    simp at this
    omega
   ·rw [←(HU.out.done HF.out).1]
    exact fun c hc=>Mil.mem_while _ c hc
  have c0:=HR.out.c0
  have c1:=HR.out.c1
  have ct:=(HL.out.kept HK.out hb).token
  have cr:=(HL.out.kept HK.out hb).rng
  have hxl:(s.extract p q).data.toList=(s.data.toList.drop p).take (q - p):=Lib.extract_data _ _ _
  have HX:Hid ((s.extract p q).data.toList=(s.data.toList.drop p).take (q - p)):=hxl
  clear hxl
  rcases HC.out with ⟨u,hu⟩ | hu
  ·have HU2:Hid (Lib.parseIntB 64 ((s.data.toList.drop p).take (q - p))=.ok u):=hu
   clear hu HC
   go_wp2
   go_quiet (fail)
   go_wp2_with fail
   refine (pInt_ok _ (by simp;omega) u (by rw [HX.out];exact HU2.out) _).mono ?_
   rintro e w1 ⟨rfl,hb1⟩
   have HK1:Hid (Kp b w w1):=(HK.out.drewN nq).trans (Kp.of_below hb1)
   have HR1:Hid (Rd w1 b s q n k tp x v):=(HR.out.drewN nq).kept (Kp.of_below (b:=b+1) hb1) (by omega)
   have HT1:Hid (Slot w1 w.heap.size):=(HT.out.kept ((Kp.refl b _).drewN nq) (by omega)).kept (Kp.of_below (b:=b) hb1) (by omega)
   have ct1:=(HL.out.kept HK1.out hb).token
   obtain ⟨r0,r1,r2,r3,z0,z1,z2,z3⟩:=HT1.out.cell
   clear hb1 c0 c1 ct cr
   have hx0:0 < (s.extract p q).size:=by simp;omega
   have e0:(s.extract p q)[0]'hx0=s[p]:=by rw [ByteArray.getElem_extract];rfl
   have hh:(s.data.toList.drop p).head?.map (·.toNat)=some s[p].toNat:=by rw [drop_at hp];rfl
   have HH:Hid ((s.data.toList.drop p).head?.map (·.toNat)=some s[p].toNat):=hh
   have E0:Hid ((s.extract p q)[0]'hx0=s[p]):=e0
   clear hh e0
   by_cases hz:(s.extract p q)[0].toNat=48∧1 < q - p
   ·obtain ⟨hz1,hz2⟩:=hz
    have hzi:((s.extract p q)[0].toNat:Int)=48:=by omega
    have HZ:Hid (s[p].toNat=48):=by rw [←E0.out];exact hz1
    clear hz1
    go_wp2
    refine ⟨rfl,HK1.out.alloc _,Or.inr ⟨⟨w1.heap.size,rfl,heap_alloc_new w1 _⟩,?_⟩⟩
    obtain ⟨e1,e2⟩:=HU.out.done HF.out
    unfold Mil.cutNum
    rw [e1,HU2.out,HH.out]
    simp only []
    rw [if_pos ⟨by rw [HZ.out],by simp;omega⟩]
   ·have hnz:¬(s[p].toNat=48∧1 < q - p):=by rw [←E0.out];exact hz
    have HN:Hid (¬(s[p].toNat=48∧1 < q - p)):=hnz
    clear hnz
    have fin:TokPost (Mil.cutNum (s.data.toList.drop p)) a b s p n k tp x v w (.returned (.agg #[.int .i64 2,.int .i64 p,.string (s.extract p q),.int .i64 u]))
      ((((w1.setCell ⟨w.heap.size,0,none⟩ (.int .i64 2)).setCell ⟨w.heap.size,1,none⟩ (.int .i64 p)).setCell ⟨w.heap.size,2,none⟩ (.string (s.extract p q))).setCell ⟨w.heap.size,3,none⟩ (.int .i64 u)):=by
     refine ⟨HK1.out.four (Nat.le_refl _) _ _ _ _,Or.inl ⟨⟨2,(s.data.toList.drop p).take (q - p),u⟩,q,s.extract p q,rfl,hpq,hq,HR1.out.four (by omega) _ _ _ _,?_,HX.out⟩⟩
     obtain ⟨e1,e2⟩:=HU.out.done HF.out
     unfold Mil.cutNum
     rw [e1,e2,HU2.out,HH.out]
     have hlen:((s.data.toList.drop p).take (q - p)).length=q - p:=by simp;omega
     simp only []
     rw [if_neg (by rw [hlen];intro hc;exact HN.out ⟨Option.some.inj hc.1,hc.2⟩)]
    have FIN:Hid _:=fin
    clear fin
    by_cases hz1:(s.extract p q)[0].toNat=48
    ·have hz2:¬1 < q - p:=fun h=>hz ⟨hz1,h⟩
     have hzi:((s.extract p q)[0].toNat:Int)=48:=by omega
     clear hz1 hz
     go_wp2
     exact bodyPost_ret (v:=.agg #[.int .i64 2,.int .i64 p,.string (s.extract p q),.int .i64 u]) (by simp [results,Tryz.results120,go_sem,r0,r1,r2,r3]) rfl FIN.out
    ·have hzi:¬((s.extract p q)[0].toNat:Int)=48:=by omega
     clear hz1 hz
     go_wp2
     exact bodyPost_ret (v:=.agg #[.int .i64 2,.int .i64 p,.string (s.extract p q),.int .i64 u]) (by simp [results,Tryz.results120,go_sem,r0,r1,r2,r3]) rfl FIN.out
  ·have HU2:Hid (Lib.parseIntB 64 ((s.data.toList.drop p).take (q - p))=.range):=hu
   clear hu HC
   go_wp2
   go_quiet (fail)
   go_wp2_with fail
   refine (pInt_range a _ (by simp;omega) (by rw [HX.out];exact HU2.out) _ (by exact ((Kp.refl b _).drewN _).held cr (by show 19≠b;omega))).mono ?_
   rintro e w1 ⟨N,rfl,hb1⟩
   have HK1:Hid (Kp b w w1):=(HK.out.drewN nq).trans (Kp.of_below hb1)
   have HR1:Hid (Rd w1 b s q n k tp x v):=(HR.out.drewN nq).kept (Kp.of_below (b:=b+1) hb1) (by omega)
   have HT1:Hid (Slot w1 w.heap.size):=(HT.out.kept ((Kp.refl b _).drewN nq) (by omega)).kept (Kp.of_below (b:=b) hb1) (by omega)
   have ct1:=(HL.out.kept HK1.out hb).token
   obtain ⟨r0,r1,r2,r3,z0,z1,z2,z3⟩:=HT1.out.cell
   clear hb1 c0 c1 ct cr
   go_wp2
   refine ⟨rfl,HK1.out.alloc _,Or.inr ⟨⟨w1.heap.size,rfl,heap_alloc_new w1 _⟩,?_⟩⟩
   obtain ⟨e1,e2⟩:=HU.out.done HF.out
   unfold Mil.cutNum
   rw [e1,HU2.out]
end
section
open Go.RowKit
theorem cut_cons {c:UInt8} {r:Mil.Bytes}:Mil.cut (c::r)=if Mil.isL c then Mil.cutName (c::r) else if Mil.isD c then Mil.cutNum (c::r) else Mil.cutSign (c::r):=rfl
theorem tok_through {c:Option (Mil.Tok×Mil.Bytes)} {a:Nat→Addr} {b:Nat} {s:ByteArray} {p n q:Nat} {k tp:Int} {x xt:ByteArray} {v:Int} {w w1 w2:World} {t:Mil.Tok}
  (h1:Kp b w w1) (h2:Kp b w1 w2) (hr:b≠w.heap.size) (hpq:p≤q) (hq:q≤s.size) (hR:Rd w2 b s q n k tp x v) (hc:c=some (t,s.data.toList.drop q)) (hx:xt.data.toList=t.txt) :
  TokPost c a b s p n k tp x v w (.returned (.agg #[.int .i64 (t.kind:Nat),.int .i64 p,.string xt,.int .i64 t.val]))
   ((((w2.setCell ⟨w.heap.size,0,none⟩ (.int .i64 (t.kind:Nat))).setCell ⟨w.heap.size,1,none⟩ (.int .i64 p)).setCell ⟨w.heap.size,2,none⟩ (.string xt)).setCell ⟨w.heap.size,3,none⟩ (.int .i64 t.val)):=
 ⟨(h1.trans h2).four (Nat.le_refl _) _ _ _ _,Or.inl ⟨t,q,xt,rfl,hpq,hq,hR.four hr _ _ _ _,hc,hx⟩⟩
theorem cut_any (a:Nat→Addr) (b:Nat) (s:ByteArray) (p n:Nat) (k tp:Int) (x:ByteArray) (v:Int) (w:World) (L:Laid a w) (hb:23≤b) (h:Rd w b s p n k tp x v) (hp:p≤s.size) (hs:s.size≤4000) :
  Calls Tryz.prog 82 #[.pointer (some ⟨b,0,none⟩)] w (TokPost (Mil.cut (s.data.toList.drop p)) a b s p n k tp x v w):=by
 have HL:Hid (Laid a w):=L
 have hbw:b < w.heap.size:=lt_of_cell h.c0
 have hgw:=L.size
 let o:Obj:=.cells #[.int .i64 0,.int .i64 0,.string ⟨#[]⟩,.int .i64 0] 137
 have ho:o=.cells #[.int .i64 0,.int .i64 0,.string ⟨#[]⟩,.int .i64 0] 137:=rfl
 have hR:Rd (w.alloc o) b s p n k tp x v:=h.kept ((Kp.refl (b+1) _).alloc _) (by omega)
 have HR:Hid (Rd (w.alloc o) b s p n k tp x v):=hR
 have HK:Hid (Kp b w (w.alloc o)):=(Kp.refl b _).alloc _
 have HL1:Hid (Laid a (w.alloc o)):=L.kept HK.out hb
 have hT:Slot (w.alloc o) w.heap.size:=heap_alloc_new _ _
 have HT:Hid (Slot (w.alloc o) w.heap.size):=hT
 have hsz:w.heap.size < (w.alloc o).heap.size:=by simp
 clear h L
 go_enter Tryz.func82,Tryz.ntmps82
 go_wp2
 rw [←ho]
 generalize w.alloc o=w1 at *
 have c0:=hR.c0
 have c1:=hR.c1
 obtain ⟨r0,r1,r2,r3,z0,z1,z2,z3⟩:=hT.cell
 clear hR hT
 by_cases hlt:p < s.size
 ·have hq:((p:Int)==(s.size:Int))=false:=by simp;omega
  have hc:Mil.cut (s.data.toList.drop p)=if Mil.isL s[p] then Mil.cutName (s.data.toList.drop p) else if Mil.isD s[p] then Mil.cutNum (s.data.toList.drop p) else Mil.cutSign (s.data.toList.drop p):=by
   rw [drop_at hlt];rfl
  have HC:Hid _:=hc
  clear hc
  go_quiet (fail)
  go_wp2
  go_quiet (fail)
  go_wp2_with fail
  refine (isLetter_any _ _).mono ?_
  rintro e w' ⟨rfl,rfl⟩
  by_cases hl:Mil.isL s[p]=true
  ·have HC1:Hid (Mil.cut (s.data.toList.drop p)=Mil.cutName (s.data.toList.drop p)):=HC.out.trans (by rw [if_pos hl])
   go_wp2_with fail
   refine (cutName_any a b s p n k tp x v _ (HL1.out.kept ((Kp.refl b _).drewN _) hb) hb (HR.out.drewN _) hlt hs).mono ?_
   rintro e w2 ⟨hk2,(⟨t,q,xt,rfl,h1,h2,hR2,hc2,hx2⟩ | ⟨⟨d,rfl,hd⟩,hn⟩)⟩
   ·have HF:Hid (TokPost (Mil.cut (s.data.toList.drop p)) a b s p n k tp x v w (.returned (.agg #[.int .i64 (t.kind:Nat),.int .i64 p,.string xt,.int .i64 t.val])) ((((w2.setCell ⟨w.heap.size,0,none⟩ (.int .i64 (t.kind:Nat))).setCell ⟨w.heap.size,1,none⟩ (.int .i64 p)).setCell ⟨w.heap.size,2,none⟩ (.string xt)).setCell ⟨w.heap.size,3,none⟩ (.int .i64 t.val))):=
     tok_through (HK.out.drewN _) hk2 (by omega) h1 h2 hR2 (HC1.out.trans hc2) hx2
    have hT2:Slot w2 w.heap.size:=(HT.out.kept ((Kp.refl b _).drewN _) (by omega)).kept hk2 (by omega)
    clear r0 r1 r2 r3 z0 z1 z2 z3
    obtain ⟨r0,r1,r2,r3,z0,z1,z2,z3⟩:=hT2.cell
    clear hk2 h1 h2 hR2 hc2 hx2 hT2
    go_wp2
    exact bodyPost_ret (v:=.agg #[.int .i64 (t.kind:Nat),.int .i64 p,.string xt,.int .i64 t.val]) (by simp [results,Tryz.results82,go_sem,r0,r1,r2,r3]) rfl HF.out
   ·go_wp2
    exact ⟨rfl,(HK.out.drewN _).trans hk2,Or.inr ⟨⟨d,rfl,hd⟩,HC1.out.trans hn⟩⟩
  ·have hl':Mil.isL s[p]=false:=by simpa using hl
   have HC1:Hid (Mil.cut (s.data.toList.drop p)=if Mil.isD s[p] then Mil.cutNum (s.data.toList.drop p) else Mil.cutSign (s.data.toList.drop p)):=HC.out.trans (by rw [if_neg hl])
   clear hl
   go_wp2_with fail
   refine (isDigit_any _ _).mono ?_
   rintro e w' ⟨rfl,rfl⟩
   by_cases hd:Mil.isD s[p]=true
   ·have HC2:Hid (Mil.cut (s.data.toList.drop p)=Mil.cutNum (s.data.toList.drop p)):=HC1.out.trans (by rw [if_pos hd])
    have HD:Hid (Mil.isD s[p]=true):=hd
    go_wp2_with fail
    refine (cutNumber_any a b s p n k tp x v _ (HL1.out.kept ((Kp.refl b _).drewN _) hb) hb (HR.out.drewN _) hlt HD.out hs).mono ?_
    rintro e w2 ⟨hk2,(⟨t,q,xt,rfl,h1,h2,hR2,hc2,hx2⟩ | ⟨⟨d,rfl,hd⟩,hn⟩)⟩
    ·have HF:Hid (TokPost (Mil.cut (s.data.toList.drop p)) a b s p n k tp x v w (.returned (.agg #[.int .i64 (t.kind:Nat),.int .i64 p,.string xt,.int .i64 t.val])) ((((w2.setCell ⟨w.heap.size,0,none⟩ (.int .i64 (t.kind:Nat))).setCell ⟨w.heap.size,1,none⟩ (.int .i64 p)).setCell ⟨w.heap.size,2,none⟩ (.string xt)).setCell ⟨w.heap.size,3,none⟩ (.int .i64 t.val))):=
      tok_through (HK.out.drewN _) hk2 (by omega) h1 h2 hR2 (HC2.out.trans hc2) hx2
     have hT2:Slot w2 w.heap.size:=(HT.out.kept ((Kp.refl b _).drewN _) (by omega)).kept hk2 (by omega)
     clear r0 r1 r2 r3 z0 z1 z2 z3
     obtain ⟨r0,r1,r2,r3,z0,z1,z2,z3⟩:=hT2.cell
     clear hk2 h1 h2 hR2 hc2 hx2 hT2
     go_wp2
     exact bodyPost_ret (v:=.agg #[.int .i64 (t.kind:Nat),.int .i64 p,.string xt,.int .i64 t.val]) (by simp [results,Tryz.results82,go_sem,r0,r1,r2,r3]) rfl HF.out
    ·go_wp2
     exact ⟨rfl,(HK.out.drewN _).trans hk2,Or.inr ⟨⟨d,rfl,hd⟩,HC2.out.trans hn⟩⟩
   ·have hd':Mil.isD s[p]=false:=by simpa using hd
    have HC2:Hid (Mil.cut (s.data.toList.drop p)=Mil.cutSign (s.data.toList.drop p)):=HC1.out.trans (by rw [if_neg hd])
    clear hd
    go_wp2_with fail
    refine (cutSign_any a b s p n k tp x v _ (HL1.out.kept ((Kp.refl b _).drewN _) hb) hb (HR.out.drewN _) hlt hs).mono ?_
    rintro e w2 ⟨hk2,(⟨t,q,xt,rfl,h1,h2,hR2,hc2,hx2⟩ | ⟨⟨d,rfl,hd⟩,hn⟩)⟩
    ·have HF:Hid (TokPost (Mil.cut (s.data.toList.drop p)) a b s p n k tp x v w (.returned (.agg #[.int .i64 (t.kind:Nat),.int .i64 p,.string xt,.int .i64 t.val])) ((((w2.setCell ⟨w.heap.size,0,none⟩ (.int .i64 (t.kind:Nat))).setCell ⟨w.heap.size,1,none⟩ (.int .i64 p)).setCell ⟨w.heap.size,2,none⟩ (.string xt)).setCell ⟨w.heap.size,3,none⟩ (.int .i64 t.val))):=
      tok_through (HK.out.drewN _) hk2 (by omega) h1 h2 hR2 (HC2.out.trans hc2) hx2
     have hT2:Slot w2 w.heap.size:=(HT.out.kept ((Kp.refl b _).drewN _) (by omega)).kept hk2 (by omega)
     clear r0 r1 r2 r3 z0 z1 z2 z3
     obtain ⟨r0,r1,r2,r3,z0,z1,z2,z3⟩:=hT2.cell
     clear hk2 h1 h2 hR2 hc2 hx2 hT2
     go_wp2
     exact bodyPost_ret (v:=.agg #[.int .i64 (t.kind:Nat),.int .i64 p,.string xt,.int .i64 t.val]) (by simp [results,Tryz.results82,go_sem,r0,r1,r2,r3]) rfl HF.out
    ·go_wp2
     exact ⟨rfl,(HK.out.drewN _).trans hk2,Or.inr ⟨⟨d,rfl,hd⟩,HC2.out.trans hn⟩⟩
 ·have hq:((p:Int)==(s.size:Int))=true:=by simp;omega
  go_quiet (fail)
  go_wp2
  refine bodyPost_ret (v:=.agg #[.int .i64 0,.int .i64 p,.string ⟨#[]⟩,.int .i64 0]) (by simp [results,Tryz.results82,go_sem,r0,r1,r2,r3]) rfl ?_
  refine ⟨(HK.out.drewN nq).four (Nat.le_refl _) _ _ _ _,Or.inl ⟨⟨0,[],0⟩,p,⟨#[]⟩,rfl,Nat.le_refl _,hp,(HR.out.drewN nq).four (by omega) _ _ _ _,?_,rfl⟩⟩
  rw [drop_end (by omega)];rfl
end
section
namespace Mil
theorem inv_level {l:Nat} (h0:0 < l) (h8:l < 8) {s:St} {x:E×St} (h:¬((l=3∧sees s wNot=true)∨(l=7∧sees s sMinus=true))) (k:Ok l eNil s x) :
  ∃a,Ok (l+1) eNil s a∧Ok (10+l) a.1 a.2 x:=by
 obtain ⟨n,hn⟩:=k
 cases n with
 | zero=>cases hn
 | succ n=>
  rw [px_succ] at hn;unfold step at hn
  rw [if_neg (by omega),if_neg (by omega),if_pos h8,if_neg h] at hn
  obtain ⟨a,h1,hn⟩:=Option.bind_eq_some_iff.1 hn
  exact ⟨a,⟨n,h1⟩,⟨n,hn⟩⟩
theorem inv_go {l:Nat} {s:St} {a:E} {x:E×St} (h:opAt s=l) (k:Ok (10+l) a s x) :
  ∃s1 b,adv s=some s1∧Ok (l+1) eNil s1 b∧((l=4∧x=(eTwo s.tok.txt a b.1,b.2))∨(l≠4∧Ok (10+l) (eTwo s.tok.txt a b.1) b.2 x)):=by
 obtain ⟨n,hn⟩:=k
 cases n with
 | zero=>cases hn
 | succ n=>
  rw [px_succ] at hn;unfold step at hn
  have e:10+l - 10=l:=by omega
  rw [if_neg (by omega),if_neg (by omega),if_neg (by omega),e,if_pos h] at hn
  obtain ⟨s1,h1,hn⟩:=Option.bind_eq_some_iff.1 hn
  obtain ⟨b,h2,hn⟩:=Option.bind_eq_some_iff.1 hn
  refine ⟨s1,b,h1,⟨n,h2⟩,?_⟩
  by_cases h4:10+l=14
  ·rw [if_pos h4] at hn
   exact Or.inl ⟨by omega,(Option.some.inj hn).symm⟩
  ·rw [if_neg h4] at hn
   exact Or.inr ⟨by omega,⟨n,hn⟩⟩
theorem inv_atom {s:St} {x:E×St} (k:Ok 8 eNil s x):∃n,atom (px n) s=some x:=by
 obtain ⟨n,hn⟩:=k
 cases n with
 | zero=>cases hn
 | succ n=>
  rw [px_succ] at hn;unfold step at hn
  rw [if_neg (by decide),if_pos rfl] at hn
  exact ⟨n,hn⟩
def mu (s:St):Nat:=s.rest.length+if s.tok.kind=0 then 0 else 1
theorem dropWhile_len (f:UInt8→Bool):∀l:Bytes,(l.dropWhile f).length≤l.length
 | []=>Nat.le_refl _
 | c::r=>by
  rw [List.dropWhile_cons]
  have:=dropWhile_len f r
  split
  ·simp;omega
  ·exact Nat.le_refl _
theorem cut_short {c:UInt8} {q:Bytes} {t:Tok} {r:Bytes} (h:cut (c::q)=some (t,r)):r.length≤q.length:=by
 have h':(if isL c=true then cutName (c::q) else if isD c=true then cutNum (c::q) else cutSign (c::q))=some (t,r):=h
 by_cases hl:isL c=true
 ·rw [if_pos hl] at h'
  unfold cutName at h'
  split at h'
  ·cases h'
  ·obtain ⟨_,rfl⟩:=Prod.mk.inj (Option.some.inj h')
   rw [List.dropWhile_cons,if_pos (by simp [isN,hl])]
   exact dropWhile_len _ _
 ·rw [if_neg hl] at h'
  by_cases hd:isD c=true
  ·rw [if_pos hd] at h'
   unfold cutNum at h'
   split at h'
   ·split at h'
    ·cases h'
    ·obtain ⟨_,rfl⟩:=Prod.mk.inj (Option.some.inj h')
     rw [List.dropWhile_cons,if_pos hd]
     exact dropWhile_len _ _
   ·cases h'
  ·rw [if_neg hd] at h'
   unfold cutSign at h'
   split at h'
   ·rename_i x hf
    obtain ⟨_,rfl⟩:=Prod.mk.inj (Option.some.inj h')
    have hm:=List.mem_of_find?_eq_some hf
    have hpos:1≤x.length:=by
     simp only [signs,List.mem_cons,List.not_mem_nil,or_false] at hm
     rcases hm with rfl | rfl | rfl | rfl | rfl | rfl | rfl | rfl | rfl | rfl | rfl | rfl | rfl | rfl | rfl | rfl | rfl <;> decide
    simp;omega
   ·cases h'
theorem skip_short:∀(f:Bool) (l:Bytes),(skip f l).length≤l.length
 | true,[]=>Nat.le_refl _
 | false,[]=>Nat.le_refl _
 | true,c::r=>by
  rw [skip]
  have:=skip_short true r
  have:=skip_short false r
  split <;> simp <;> omega
 | false,c::r=>by
  rw [skip]
  have:=skip_short true r
  have:=skip_short false r
  split
  ·simp;omega
  ·split
   ·simp;omega
   ·exact Nat.le_refl _
theorem adv_mu {s s1:St} (h:adv s=some s1) (hk:s.tok.kind≠0):mu s1 < mu s:=by
 unfold adv adv' at h
 have hsk:=skip_short false s.rest
 unfold mu
 rw [if_neg hk]
 split at h
 ·cases h
 ·rename_i t r hc
  cases hq:skip false s.rest with
  | nil=>
   rw [hq] at hc
   obtain ⟨rfl,rfl⟩:=Prod.mk.inj (Option.some.inj hc)
   rw [if_pos rfl] at h
   obtain rfl:=(Option.some.inj h).symm
   simp
  | cons c q=>
   rw [hq] at hc hsk
   have hr:=cut_short hc
   simp at hsk
   by_cases h0:t.kind=0
   ·rw [if_pos h0] at h
    obtain rfl:=(Option.some.inj h).symm
    simp only [h0,if_true]
    omega
   ·rw [if_neg h0] at h
    split at h
    ·cases h
    ·obtain rfl:=(Option.some.inj h).symm
     simp only [h0,if_false]
     omega
theorem sees_kind3 {s:St} {x:Bytes} (h:sees s x=true):s.tok.kind=3∧s.tok.txt=x:=by
 unfold sees at h
 simpa using h
theorem want_mu {s s1:St} {x:Bytes} (h:want s x=some s1):mu s1 < mu s:=by
 unfold want at h
 by_cases hx:sees s x=true
 ·rw [if_pos hx] at h;exact adv_mu h (by rw [(sees_kind3 hx).1];decide)
 ·rw [if_neg hx] at h;cases h
theorem number_mu {s:St} {lo hi:Int} {x:Nat×St} (h:number lo hi s=some x):mu x.2 < mu s:=by
 unfold number at h
 by_cases hk:s.tok.kind=2∧lo≤s.tok.val∧s.tok.val≤hi
 ·rw [if_pos hk] at h
  obtain ⟨s1,h1,rfl⟩:=Option.map_eq_some_iff.1 h
  exact adv_mu h1 (by omega)
 ·rw [if_neg hk] at h;cases h
theorem name_mu {s:St} {x:Bytes×St} (h:name s=some x):mu x.2 < mu s:=by
 unfold name at h
 by_cases hk:s.tok.kind=1
 ·rw [if_pos hk] at h
  obtain ⟨s1,h1,rfl⟩:=Option.map_eq_some_iff.1 h
  exact adv_mu h1 (by omega)
 ·rw [if_neg hk] at h;cases h
theorem literal_mu {s:St} {x:E×St} (h:literal s=some x):mu x.2 < mu s:=by
 unfold literal at h
 by_cases h1:sees s wTrue=true
 ·rw [if_pos h1] at h
  obtain ⟨s1,e1,rfl⟩:=Option.map_eq_some_iff.1 h
  exact adv_mu e1 (by rw [(sees_kind3 h1).1];decide)
 ·rw [if_neg h1] at h
  by_cases h2:sees s wFalse=true
  ·rw [if_pos h2] at h
   obtain ⟨s1,e1,rfl⟩:=Option.map_eq_some_iff.1 h
   exact adv_mu e1 (by rw [(sees_kind3 h2).1];decide)
  ·rw [if_neg h2] at h
   obtain ⟨y,e1,rfl⟩:=Option.map_eq_some_iff.1 h
   exact number_mu e1
theorem constant_mu {s:St} {x:E×St} (h:constant s=some x):mu x.2 < mu s:=by
 unfold constant at h
 by_cases h1:sees s sMinus=true
 ·rw [if_pos h1] at h
  obtain ⟨s1,e1,h2⟩:=Option.bind_eq_some_iff.1 h
  obtain ⟨y,e2,rfl⟩:=Option.map_eq_some_iff.1 h2
  exact Nat.lt_trans (number_mu e2) (adv_mu e1 (by rw [(sees_kind3 h1).1];decide))
 ·rw [if_neg h1] at h
  exact literal_mu h
end Mil
end
section
namespace Mil
theorem sees_other {s:St} {x y:Bytes} (h:sees s x=true) (hxy:(x==y)=false):sees s y=false:=by
 obtain ⟨h1,h2⟩:=sees_kind3 h
 unfold sees
 rw [h2,hxy];simp
theorem sees_no1 {s:St} {x:Bytes} (h:sees s x=true):¬s.tok.kind=1:=by
 rw [(sees_kind3 h).1];decide
def Rfby (s:St) (x:E) (t:St):Prop:=∃s2 c s4 y,want s sOpen=some s2∧constant s2=some c∧want c.2 sComma=some s4∧Ok 0 eNil s4 y∧want y.2 sShut=some t∧x=eFby c.1 y.1
def Runder (s:St) (x:E) (t:St):Prop:=∃s2 y s4 k,want s sOpen=some s2∧Ok 0 eNil s2 y∧want y.2 sComma=some s4∧number 2 1000 s4=some k∧want k.2 sShut=some t∧x=eUnder y.1 k.1
def Rhold (s:St) (x:E) (t:St):Prop:=∃s2 c s4 y s6 k,want s sOpen=some s2∧constant s2=some c∧want c.2 sComma=some s4∧Ok 0 eNil s4 y∧want y.2 sComma=some s6∧number 2 1000 s6=some k∧want k.2 sShut=some t∧x=eHold c.1 y.1 k.1
def Rleast (m:Bytes) (s:St) (x:E) (t:St):Prop:=∃s2 y s4 z,want s sOpen=some s2∧Ok 0 eNil s2 y∧want y.2 sComma=some s4∧Ok 0 eNil s4 z∧want z.2 sShut=some t∧x=eLeast m y.1 z.1
theorem atom_name {s:St} (h:s.tok.kind=1) (x:E×St):Ok 8 eNil s x↔(name s).map (fun y=>(eName y.1,y.2))=some x:=by
 constructor
 ·intro kk
  obtain ⟨n,hn⟩:=inv_atom kk
  unfold atom at hn
  rw [if_pos h] at hn
  exact hn
 ·intro kk
  refine ok_atom0 fun f=>?_
  unfold atom
  rw [if_pos h]
  exact kk
theorem atom_open {s:St} (h:sees s sOpen=true) (x:E×St):Ok 8 eNil s x↔∃s1 y s3,adv s=some s1∧Ok 0 eNil s1 y∧want y.2 sShut=some s3∧x=(y.1,s3):=by
 constructor
 ·intro kk
  obtain ⟨n,hn⟩:=inv_atom kk
  unfold atom at hn
  rw [if_neg (sees_no1 h),if_pos h] at hn
  obtain ⟨s1,h1,hn⟩:=Option.bind_eq_some_iff.1 hn
  obtain ⟨y,h2,hn⟩:=Option.bind_eq_some_iff.1 hn
  obtain ⟨s3,h3,hn⟩:=Option.map_eq_some_iff.1 hn
  exact ⟨s1,y,s3,h1,⟨n,h2⟩,h3,hn.symm⟩
 ·rintro ⟨s1,y,s3,h1,⟨n,h2⟩,h3,rfl⟩
  refine ok_atom (n:=n) ?_
  unfold atom
  rw [if_neg (sees_no1 h),if_pos h,h1,Option.bind_some,h2,Option.bind_some,h3];rfl
theorem atom_fby {s:St} (h:sees s wFby=true) (x:E×St):Ok 8 eNil s x↔∃s1,adv s=some s1∧Rfby s1 x.1 x.2:=by
 have o1:=sees_other h (y:=sOpen) (by decide)
 constructor
 ·intro kk
  obtain ⟨n,hn⟩:=inv_atom kk
  unfold atom at hn
  rw [if_neg (sees_no1 h),o1,if_neg (by decide),if_pos h] at hn
  obtain ⟨s1,h1,hn⟩:=Option.bind_eq_some_iff.1 hn
  obtain ⟨s2,h2,hn⟩:=Option.bind_eq_some_iff.1 hn
  obtain ⟨c,h3,hn⟩:=Option.bind_eq_some_iff.1 hn
  obtain ⟨s4,h4,hn⟩:=Option.bind_eq_some_iff.1 hn
  obtain ⟨y,h5,hn⟩:=Option.bind_eq_some_iff.1 hn
  obtain ⟨s6,h6,rfl⟩:=Option.map_eq_some_iff.1 hn
  exact ⟨s1,h1,s2,c,s4,y,h2,h3,h4,⟨n,h5⟩,h6,rfl⟩
 ·rintro ⟨s1,h1,s2,c,s4,y,h2,h3,h4,⟨n,h5⟩,h6,h7⟩
  refine ok_atom (n:=n) ?_
  unfold atom
  rw [if_neg (sees_no1 h),o1,if_neg (by decide),if_pos h,h1,Option.bind_some,h2,Option.bind_some,h3,Option.bind_some,h4,Option.bind_some,h5,Option.bind_some,h6,←h7];rfl
theorem atom_under {s:St} (h:sees s wUnder=true) (x:E×St):Ok 8 eNil s x↔∃s1,adv s=some s1∧Runder s1 x.1 x.2:=by
 have o1:=sees_other h (y:=sOpen) (by decide)
 have o2:=sees_other h (y:=wFby) (by decide)
 constructor
 ·intro kk
  obtain ⟨n,hn⟩:=inv_atom kk
  unfold atom at hn
  rw [if_neg (sees_no1 h),o1,if_neg (by decide),o2,if_neg (by decide),if_pos h] at hn
  obtain ⟨s1,h1,hn⟩:=Option.bind_eq_some_iff.1 hn
  obtain ⟨s2,h2,hn⟩:=Option.bind_eq_some_iff.1 hn
  obtain ⟨y,h3,hn⟩:=Option.bind_eq_some_iff.1 hn
  obtain ⟨s4,h4,hn⟩:=Option.bind_eq_some_iff.1 hn
  obtain ⟨k,h5,hn⟩:=Option.bind_eq_some_iff.1 hn
  obtain ⟨s6,h6,rfl⟩:=Option.map_eq_some_iff.1 hn
  exact ⟨s1,h1,s2,y,s4,k,h2,⟨n,h3⟩,h4,h5,h6,rfl⟩
 ·rintro ⟨s1,h1,s2,y,s4,k,h2,⟨n,h3⟩,h4,h5,h6,h7⟩
  refine ok_atom (n:=n) ?_
  unfold atom
  rw [if_neg (sees_no1 h),o1,if_neg (by decide),o2,if_neg (by decide),if_pos h,h1,Option.bind_some,h2,Option.bind_some,h3,Option.bind_some,h4,Option.bind_some,h5,Option.bind_some,h6,←h7];rfl
theorem atom_hold {s:St} (h:sees s wHold=true) (x:E×St):Ok 8 eNil s x↔∃s1,adv s=some s1∧Rhold s1 x.1 x.2:=by
 have o1:=sees_other h (y:=sOpen) (by decide)
 have o2:=sees_other h (y:=wFby) (by decide)
 have o3:=sees_other h (y:=wUnder) (by decide)
 constructor
 ·intro kk
  obtain ⟨n,hn⟩:=inv_atom kk
  unfold atom at hn
  rw [if_neg (sees_no1 h),o1,if_neg (by decide),o2,if_neg (by decide),o3,if_neg (by decide),if_pos h] at hn
  obtain ⟨s1,h1,hn⟩:=Option.bind_eq_some_iff.1 hn
  obtain ⟨s2,h2,hn⟩:=Option.bind_eq_some_iff.1 hn
  obtain ⟨c,h3,hn⟩:=Option.bind_eq_some_iff.1 hn
  obtain ⟨s4,h4,hn⟩:=Option.bind_eq_some_iff.1 hn
  obtain ⟨y,h5,hn⟩:=Option.bind_eq_some_iff.1 hn
  obtain ⟨s6,h6,hn⟩:=Option.bind_eq_some_iff.1 hn
  obtain ⟨k,h7,hn⟩:=Option.bind_eq_some_iff.1 hn
  obtain ⟨s8,h8,rfl⟩:=Option.map_eq_some_iff.1 hn
  exact ⟨s1,h1,s2,c,s4,y,s6,k,h2,h3,h4,⟨n,h5⟩,h6,h7,h8,rfl⟩
 ·rintro ⟨s1,h1,s2,c,s4,y,s6,k,h2,h3,h4,⟨n,h5⟩,h6,h7,h8,h9⟩
  refine ok_atom (n:=n) ?_
  unfold atom
  rw [if_neg (sees_no1 h),o1,if_neg (by decide),o2,if_neg (by decide),o3,if_neg (by decide),if_pos h,h1,Option.bind_some,h2,Option.bind_some,h3,Option.bind_some,h4,Option.bind_some,h5,Option.bind_some,h6,Option.bind_some,h7,Option.bind_some,h8,←h9];rfl
theorem atom_least {s:St} {m:Bytes} (hm:m=wMin∨m=wMax) (h:sees s m=true) (x:E×St):Ok 8 eNil s x↔∃s1,adv s=some s1∧Rleast m s1 x.1 x.2:=by
 have o1:sees s sOpen=false:=sees_other h (by rcases hm with rfl | rfl <;> decide)
 have o2:sees s wFby=false:=sees_other h (by rcases hm with rfl | rfl <;> decide)
 have o3:sees s wUnder=false:=sees_other h (by rcases hm with rfl | rfl <;> decide)
 have o4:sees s wHold=false:=sees_other h (by rcases hm with rfl | rfl <;> decide)
 have o5:(sees s wMin || sees s wMax)=true:=by
  rcases hm with rfl | rfl
  ·rw [h];rfl
  ·rw [h];simp
 have ht:=(sees_kind3 h).2
 constructor
 ·intro kk
  obtain ⟨n,hn⟩:=inv_atom kk
  unfold atom at hn
  rw [if_neg (sees_no1 h),o1,if_neg (by decide),o2,if_neg (by decide),o3,if_neg (by decide),o4,if_neg (by decide),if_pos o5] at hn
  obtain ⟨s1,h1,hn⟩:=Option.bind_eq_some_iff.1 hn
  obtain ⟨s2,h2,hn⟩:=Option.bind_eq_some_iff.1 hn
  obtain ⟨y,h3,hn⟩:=Option.bind_eq_some_iff.1 hn
  obtain ⟨s4,h4,hn⟩:=Option.bind_eq_some_iff.1 hn
  obtain ⟨z,h5,hn⟩:=Option.bind_eq_some_iff.1 hn
  obtain ⟨s6,h6,rfl⟩:=Option.map_eq_some_iff.1 hn
  exact ⟨s1,h1,s2,y,s4,z,h2,⟨n,h3⟩,h4,⟨n,h5⟩,h6,by rw [ht]⟩
 ·rintro ⟨s1,h1,s2,y,s4,z,h2,⟨n,h3⟩,h4,⟨n2,h5⟩,h6,h7⟩
  have f3:=px_le (show n≤n+n2 by omega) h3
  have f5:=px_le (show n2≤n+n2 by omega) h5
  refine ok_atom (n:=n+n2) ?_
  unfold atom
  rw [if_neg (sees_no1 h),o1,if_neg (by decide),o2,if_neg (by decide),o3,if_neg (by decide),o4,if_neg (by decide),if_pos o5,h1,Option.bind_some,h2,Option.bind_some,f3,Option.bind_some,h4,Option.bind_some,f5,Option.bind_some,h6,ht,←h7];rfl
theorem atom_lit {s:St} (h0:s.tok.kind≠1) (o1:sees s sOpen=false) (o2:sees s wFby=false) (o3:sees s wUnder=false) (o4:sees s wHold=false) (o5:sees s wMin=false) (o6:sees s wMax=false) (x:E×St) :
  Ok 8 eNil s x↔literal s=some x:=by
 constructor
 ·intro kk
  obtain ⟨n,hn⟩:=inv_atom kk
  unfold atom at hn
  rw [if_neg h0,o1,if_neg (by decide),o2,if_neg (by decide),o3,if_neg (by decide),o4,if_neg (by decide),o5,o6,if_neg (by decide)] at hn
  exact hn
 ·intro kk
  refine ok_atom0 fun f=>?_
  unfold atom
  rw [if_neg h0,o1,if_neg (by decide),o2,if_neg (by decide),o3,if_neg (by decide),o4,if_neg (by decide),o5,o6,if_neg (by decide)]
  exact kk
end Mil
end
end Go.Proofs.YticbokabjhnagaaGreatDoor
