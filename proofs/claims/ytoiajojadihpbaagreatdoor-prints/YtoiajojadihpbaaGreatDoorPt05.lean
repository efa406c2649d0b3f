import Derived.Test.YtoiajojadihpbaaGreatDoorPt03
import Derived.Test.YtoiajojadihpbaaGreatDoorPt04
import Derived.Lib.SmallJoins
import Derived.Deep.RegionHeld3
namespace Go.Proofs.YtoiajojadihpbaaGreatDoor
set_option maxHeartbeats 8000000
section
open Go.RowKit
theorem pum_cases (M:Nat):∀(l:Mil.Bytes) (acc:Nat),(∀c,c∈l→Mil.isD c=true)→(∃u,Lib.parseUintM M acc l=.ok u)∨Lib.parseUintM M acc l=.range
 | [],acc,_=>Or.inl ⟨acc,rfl⟩
 | c::l,acc,h=>by
  have hc:=h c List.mem_cons_self
  have hd:48≤c.toNat∧c.toNat≤57:=by unfold Mil.isD at hc;simpa using hc
  rw [Lib.parseUintM,if_pos hd]
  by_cases h2:1844674407370955162≤acc
  ·rw [if_pos h2];exact Or.inr rfl
  ·rw [if_neg h2]
   by_cases h3:M < acc*10+(c.toNat - 48)
   ·rw [if_pos h3];exact Or.inr rfl
   ·rw [if_neg h3]
    exact pum_cases M l _ fun d hd=>h d (List.mem_cons_of_mem _ hd)
theorem parse_cases (l:Mil.Bytes) (hne:l≠[]) (h:∀c,c∈l→Mil.isD c=true):(∃v,Lib.parseIntB 64 l=.ok v)∨Lib.parseIntB 64 l=.range:=by
 cases l with
 | nil=>exact absurd rfl hne
 | cons c r=>
  have hc:=h c List.mem_cons_self
  have hd:48≤c.toNat∧c.toNat≤57:=by unfold Mil.isD at hc;simpa using hc
  have hu:=pum_cases (2 ^ 64 - 1) (c::r) 0 h
  have hpb:Lib.parseUintB 64 (c::r)=Lib.parseUintM (2 ^ 64 - 1) 0 (c::r):=by unfold Lib.parseUintB;rw [if_neg (by simp)]
  unfold Lib.parseIntB
  simp only []
  rw [if_neg (by omega),hpb]
  rcases hu with ⟨u,hu⟩ | hu
  ·rw [hu]
   simp only []
   by_cases h1:¬c.toNat=45∧2 ^ (64 - 1)≤u
   ·rw [if_pos h1];exact Or.inr rfl
   ·rw [if_neg h1,if_neg (by omega)];exact Or.inl ⟨_,rfl⟩
  ·rw [hu];exact Or.inr rfl
theorem pInt_ok (x:ByteArray) (hx:x.size≤4000) (u:Int) (h:Lib.parseIntB 64 x.data.toList=.ok u) (w:World) :
  Calls Tryz.prog 161 #[.string x,.int .i64 10,.int .i64 64] w fun e w'=>e=.returned (.tuple #[.int .i64 u,.nilIface])∧Below w.heap.size w w':=by
 refine (Tryz.strconv_ParseInt_10_at64_ok x (by omega) u h w).mono ?_
 rintro e w' ⟨he,hw⟩
 rcases hw with rfl | ⟨t,rfl⟩
 ·exact ⟨he,Below.refl _ _⟩
 ·exact ⟨he,Joins.below_bytesWorld _ _ _ _ (Nat.le_refl _)⟩
theorem pInt_range (a:Nat→Addr) (x:ByteArray) (hx:x.size≤4000) (h:Lib.parseIntB 64 x.data.toList=.range) (w:World) (L:w.cell? ⟨22,0,none⟩=some (errV (a 5))) :
  Calls Tryz.prog 161 #[.string x,.int .i64 10,.int .i64 64] w fun e w'=>∃N,e=.returned (.tuple #[.int .i64 (Lib.intSat 64 x.data.toList),.iface 286 (.pointer (some ⟨N,0,none⟩))])∧Below w.heap.size w w':=by
 refine (Tryz.strconv_ParseInt_10_at64_range x (by omega) h (errV (a 5)) w L (Or.inr ⟨_,_,rfl⟩)).mono ?_
 rintro e w' ⟨N,he,_,_,hb⟩
 exact ⟨N,he,hb⟩
theorem run_len {f:UInt8→Bool} {s:ByteArray} {p q:Nat} (h:Run f s p q) (hf:∀h:q < s.size,f s[q]=false) (hp:p < s.size) (h0:f s[p]=true):p < q:=by
 rcases Nat.lt_or_ge p q with hl | hl
 ·exact hl
 ·have e:=h.done hf
  rw [(while_drop hp f h0).1] at e
  have:q - p=0:=by omega
  rw [this] at e
  simp at e
theorem cutNumber_any (a:Nat→Addr) (b:Nat) (s:ByteArray) (p n:Nat) (k tp:Int) (x:ByteArray) (v:Int) (w:World) (L:Laid a w) (hb:27≤b) (h:Rd w b s p n k tp x v) (hp:p < s.size) (h0:Mil.isD s[p]=true) (hs:s.size≤4000) :
  Calls Tryz.prog 151 #[.pointer (some ⟨b,0,none⟩)] w (TokPost (Mil.cutNum (s.data.toList.drop p)) a b s p n k tp x v w):=by
 have H:=hid h
 have HL:=hid L
 have H0:=hid h0
 have c1:=h.c1
 have hbw:b < w.heap.size:=lt_of_cell h.c0
 clear h L h0
 go_enter Tryz.func151,Tryz.ntmps151
 go_upto_block 0 with fail
 go_cut [] from 11 to 39 (fun wl=>∃q,p≤q∧q≤s.size∧Hid (Run Mil.isD s p q)∧Hid (∀h:q < s.size,Mil.isD s[q]=false)∧Hid (Rd wl b s q n k tp x v)∧Hid (Kp b w wl)∧Hid (Slot wl w.heap.size))
 case first=>
  go_wp2
  go_loopg [] (s.size - p) (fun g wr=>∃q,p≤q∧q≤s.size∧g=s.size - q∧Hid (Run Mil.isD s p q)∧Hid (Rd wr b s q n k tp x v)∧Hid (Kp b w wr)∧Hid (Slot wr w.heap.size))
  case atStart=>exact ⟨p,Nat.le_refl _,by omega,rfl,Run.start _ _ _,H.out.kept ((Kp.refl (b+1) _).alloc _) (by omega),(Kp.refl b _).alloc _,heap_alloc_new _ _⟩
  case round=>
   obtain ⟨q,hpq,hq,hg,HU,HR,HK,HT⟩:=hrel
   have HG:=hid hg
   clear hg c1
   have c0:=HR.out.c0
   have c1:=HR.out.c1
   have f1:=HR.out.fz 1
   by_cases hlt:q < s.size
   ·by_cases hn:Mil.isD s[q]=true
    ·go_wp2_with fail
     go_quiet ((go_at_call 150;exact Calls.quiet_of_same (isDigit_any _ _)))
     go_wp2
     go_roundg (s.size - (q+1))
     case measure=>have:=HG.out;omega
     case rel=>exact ⟨q+1,by omega,by omega,rfl,HU.out.next hpq hlt hn,(HR.out.drewN _).step1,(HK.out.drewN _).setCell _ _,HT.out.kept (((Kp.refl b _).drewN _).setCell _ _) (by omega)⟩
    ·have hn':Mil.isD s[q]=false:=by simpa using hn
     clear hn
     go_wp2_with fail
     go_quiet ((go_at_call 150;exact Calls.quiet_of_same (isDigit_any _ _)))
     go_wp2
     go_meet
     case rel=>exact ⟨q,hpq,hq,HU,fun _=>hn',HR.out.drewN _,HK.out.drewN _,HT.out.kept ((Kp.refl b _).drewN _) (by omega)⟩
   ·have hd:decide ((q:Int) < (s.size:Int))=false:=by simp;omega
    go_wp2_with fail
    go_quiet (fail)
    go_wp2
    go_meet
    case rel=>exact ⟨q,hpq,hq,HU,fun h=>absurd h hlt,HR.out.drewN _,HK.out.drewN _,HT.out.kept ((Kp.refl b _).drewN _) (by omega)⟩
 case rest=>
  obtain ⟨q,hpq,hq,HU,HF,HR,HK,HT⟩:=hcut
  clear c1
  have hlt:p < q:=run_len HU.out HF.out hp H0.out
  have HC:Hid ((∃v,Lib.parseIntB 64 ((s.data.toList.drop p).take (q - p))=.ok v)∨Lib.parseIntB 64 ((s.data.toList.drop p).take (q - p))=.range):=by
   refine parse_cases _ ?_ ?_
   ·intro e
    have:=congrArg List.length e
    simp at this
    omega
   ·rw [←(HU.out.done HF.out).1]
    exact fun c hc=>Mil.mem_while _ c hc
  have c0:=HR.out.c0
  have c1:=HR.out.c1
  have ct:=(HL.out.kept HK.out hb).token
  have cr:=(HL.out.kept HK.out hb).rng
  have hxl:(s.extract p q).data.toList=(s.data.toList.drop p).take (q - p):=Lib.extract_data _ _ _
  have HX:=hid hxl
  clear hxl
  rcases HC.out with ⟨u,hu⟩ | hu
  ·have HU2:=hid hu
   clear hu HC
   go_wp2
   go_quiet (fail)
   go_wp2_with fail
   refine (pInt_ok _ (by simp;omega) u (by rw [HX.out];exact HU2.out) _).mono ?_
   rintro e w1 ⟨rfl,hb1⟩
   have HK1:Hid (Kp b w w1):=(HK.out.drewN nq).trans (Kp.of_below hb1)
   have HR1:Hid (Rd w1 b s q n k tp x v):=(HR.out.drewN nq).kept (Kp.of_below (b:=b+1) hb1) (by omega)
   have HT1:Hid (Slot w1 w.heap.size):=(HT.out.kept ((Kp.refl b _).drewN nq) (by omega)).kept (Kp.of_below (b:=b) hb1) (by omega)
   have ct1:=(HL.out.kept HK1.out hb).token
   obtain ⟨r0,r1,r2,r3,z0,z1,z2,z3⟩:=HT1.out.cell
   clear hb1 c0 c1 ct cr
   have hx0:0 < (s.extract p q).size:=by simp;omega
   have e0:(s.extract p q)[0]'hx0=s[p]:=by rw [ByteArray.getElem_extract];rfl
   have hh:(s.data.toList.drop p).head?.map (·.toNat)=some s[p].toNat:=by rw [drop_at hp];rfl
   have HH:=hid hh
   have E0:=hid e0
   clear hh e0
   by_cases hz:(s.extract p q)[0].toNat=48∧1 < q - p
   ·obtain ⟨hz1,hz2⟩:=hz
    have hzi:((s.extract p q)[0].toNat:Int)=48:=by omega
    have HZ:Hid (s[p].toNat=48):=by rw [←E0.out];exact hz1
    clear hz1
    go_wp2
    refine ⟨rfl,HK1.out.alloc _,Or.inr ⟨⟨w1.heap.size,rfl,heap_alloc_new w1 _⟩,?_⟩⟩
    obtain ⟨e1,e2⟩:=HU.out.done HF.out
    unfold Mil.cutNum
    rw [e1,HU2.out,HH.out]
    simp only []
    rw [if_pos ⟨by rw [HZ.out],by simp;omega⟩]
   ·have hnz:¬(s[p].toNat=48∧1 < q - p):=by rw [←E0.out];exact hz
    have HN:=hid hnz
    clear hnz
    have fin:TokPost (Mil.cutNum (s.data.toList.drop p)) a b s p n k tp x v w (.returned (.agg #[.int .i64 2,.int .i64 p,.string (s.extract p q),.int .i64 u]))
      ((((w1.setCell ⟨w.heap.size,0,none⟩ (.int .i64 2)).setCell ⟨w.heap.size,1,none⟩ (.int .i64 p)).setCell ⟨w.heap.size,2,none⟩ (.string (s.extract p q))).setCell ⟨w.heap.size,3,none⟩ (.int .i64 u)):=by
     refine ⟨HK1.out.four (Nat.le_refl _) _ _ _ _,Or.inl ⟨⟨2,(s.data.toList.drop p).take (q - p),u⟩,q,s.extract p q,rfl,hpq,hq,HR1.out.four (by omega) _ _ _ _,?_,HX.out⟩⟩
     obtain ⟨e1,e2⟩:=HU.out.done HF.out
     unfold Mil.cutNum
     rw [e1,e2,HU2.out,HH.out]
     have hlen:((s.data.toList.drop p).take (q - p)).length=q - p:=by simp;omega
     simp only []
     rw [if_neg (by rw [hlen];intro hc;exact HN.out ⟨Option.some.inj hc.1,hc.2⟩)]
    have FIN:=hid fin
    clear fin
    by_cases hz1:(s.extract p q)[0].toNat=48
    ·have hz2:¬1 < q - p:=fun h=>hz ⟨hz1,h⟩
     have hzi:((s.extract p q)[0].toNat:Int)=48:=by omega
     clear hz1 hz
     go_wp2
     exact bodyPost_ret (v:=.agg #[.int .i64 2,.int .i64 p,.string (s.extract p q),.int .i64 u]) (by simp [results,Tryz.results151,go_sem,r0,r1,r2,r3]) rfl FIN.out
    ·have hzi:¬((s.extract p q)[0].toNat:Int)=48:=by omega
     clear hz1 hz
     go_wp2
     exact bodyPost_ret (v:=.agg #[.int .i64 2,.int .i64 p,.string (s.extract p q),.int .i64 u]) (by simp [results,Tryz.results151,go_sem,r0,r1,r2,r3]) rfl FIN.out
  ·have HU2:=hid hu
   clear hu HC
   go_wp2
   go_quiet (fail)
   go_wp2_with fail
   refine (pInt_range a _ (by simp;omega) (by rw [HX.out];exact HU2.out) _ (by exact ((Kp.refl b _).drewN _).held cr (by show 22≠b;omega))).mono ?_
   rintro e w1 ⟨N,rfl,hb1⟩
   have HK1:Hid (Kp b w w1):=(HK.out.drewN nq).trans (Kp.of_below hb1)
   have HR1:Hid (Rd w1 b s q n k tp x v):=(HR.out.drewN nq).kept (Kp.of_below (b:=b+1) hb1) (by omega)
   have HT1:Hid (Slot w1 w.heap.size):=(HT.out.kept ((Kp.refl b _).drewN nq) (by omega)).kept (Kp.of_below (b:=b) hb1) (by omega)
   have ct1:=(HL.out.kept HK1.out hb).token
   obtain ⟨r0,r1,r2,r3,z0,z1,z2,z3⟩:=HT1.out.cell
   clear hb1 c0 c1 ct cr
   go_wp2
   refine ⟨rfl,HK1.out.alloc _,Or.inr ⟨⟨w1.heap.size,rfl,heap_alloc_new w1 _⟩,?_⟩⟩
   obtain ⟨e1,e2⟩:=HU.out.done HF.out
   unfold Mil.cutNum
   rw [e1,HU2.out]
end
section
open Go.RowKit
theorem cut_cons {c:UInt8} {r:Mil.Bytes}:Mil.cut (c::r)=if Mil.isL c then Mil.cutName (c::r) else if Mil.isD c then Mil.cutNum (c::r) else Mil.cutSign (c::r):=rfl
theorem tok_through {c:Option (Mil.Tok×Mil.Bytes)} {a:Nat→Addr} {b:Nat} {s:ByteArray} {p n q:Nat} {k tp:Int} {x xt:ByteArray} {v:Int} {w w1 w2:World} {t:Mil.Tok}
  (h1:Kp b w w1) (h2:Kp b w1 w2) (hr:b≠w.heap.size) (hpq:p≤q) (hq:q≤s.size) (hR:Rd w2 b s q n k tp x v) (hc:c=some (t,s.data.toList.drop q)) (hx:xt.data.toList=t.txt) :
  TokPost c a b s p n k tp x v w (.returned (.agg #[.int .i64 (t.kind:Nat),.int .i64 p,.string xt,.int .i64 t.val]))
   ((((w2.setCell ⟨w.heap.size,0,none⟩ (.int .i64 (t.kind:Nat))).setCell ⟨w.heap.size,1,none⟩ (.int .i64 p)).setCell ⟨w.heap.size,2,none⟩ (.string xt)).setCell ⟨w.heap.size,3,none⟩ (.int .i64 t.val)):=
 ⟨(h1.trans h2).four (Nat.le_refl _) _ _ _ _,Or.inl ⟨t,q,xt,rfl,hpq,hq,hR.four hr _ _ _ _,hc,hx⟩⟩
theorem cut_any (a:Nat→Addr) (b:Nat) (s:ByteArray) (p n:Nat) (k tp:Int) (x:ByteArray) (v:Int) (w:World) (L:Laid a w) (hb:27≤b) (h:Rd w b s p n k tp x v) (hp:p≤s.size) (hs:s.size≤4000) :
  Calls Tryz.prog 140 #[.pointer (some ⟨b,0,none⟩)] w (TokPost (Mil.cut (s.data.toList.drop p)) a b s p n k tp x v w):=by
 have HL:=hid L
 have hbw:b < w.heap.size:=lt_of_cell h.c0
 have hgw:=L.size
 let o:Obj:=.cells #[.int .i64 0,.int .i64 0,.string ⟨#[]⟩,.int .i64 0] 218
 have ho:o=.cells #[.int .i64 0,.int .i64 0,.string ⟨#[]⟩,.int .i64 0] 218:=rfl
 have hR:Rd (w.alloc o) b s p n k tp x v:=h.kept ((Kp.refl (b+1) _).alloc _) (by omega)
 have HR:=hid hR
 have HK:Hid (Kp b w (w.alloc o)):=(Kp.refl b _).alloc _
 have HL1:Hid (Laid a (w.alloc o)):=L.kept HK.out hb
 have hT:Slot (w.alloc o) w.heap.size:=heap_alloc_new _ _
 have HT:=hid hT
 have hsz:w.heap.size < (w.alloc o).heap.size:=by simp
 clear h L
 go_enter Tryz.func140,Tryz.ntmps140
 go_wp2
 rw [←ho]
 generalize w.alloc o=w1 at *
 have c0:=hR.c0
 have c1:=hR.c1
 obtain ⟨r0,r1,r2,r3,z0,z1,z2,z3⟩:=hT.cell
 clear hR hT
 by_cases hlt:p < s.size
 ·have hq:((p:Int)==(s.size:Int))=false:=by simp;omega
  have hc:Mil.cut (s.data.toList.drop p)=if Mil.isL s[p] then Mil.cutName (s.data.toList.drop p) else if Mil.isD s[p] then Mil.cutNum (s.data.toList.drop p) else Mil.cutSign (s.data.toList.drop p):=by
   rw [drop_at hlt];rfl
  have HC:=hid hc
  clear hc
  go_quiet (fail)
  go_wp2
  go_quiet (fail)
  go_wp2_with fail
  refine (isLetter_any _ _).mono ?_
  rintro e w' ⟨rfl,rfl⟩
  by_cases hl:Mil.isL s[p]=true
  ·have HC1:Hid (Mil.cut (s.data.toList.drop p)=Mil.cutName (s.data.toList.drop p)):=HC.out.trans (by rw [if_pos hl])
   go_wp2_with fail
   refine (cutName_any a b s p n k tp x v _ (HL1.out.kept ((Kp.refl b _).drewN _) hb) hb (HR.out.drewN _) hlt hs).mono ?_
   rintro e w2 ⟨hk2,(⟨t,q,xt,rfl,h1,h2,hR2,hc2,hx2⟩ | ⟨⟨d,rfl,hd⟩,hn⟩)⟩
   ·have HF:Hid (TokPost (Mil.cut (s.data.toList.drop p)) a b s p n k tp x v w (.returned (.agg #[.int .i64 (t.kind:Nat),.int .i64 p,.string xt,.int .i64 t.val])) ((((w2.setCell ⟨w.heap.size,0,none⟩ (.int .i64 (t.kind:Nat))).setCell ⟨w.heap.size,1,none⟩ (.int .i64 p)).setCell ⟨w.heap.size,2,none⟩ (.string xt)).setCell ⟨w.heap.size,3,none⟩ (.int .i64 t.val))):=
     tok_through (HK.out.drewN _) hk2 (by omega) h1 h2 hR2 (HC1.out.trans hc2) hx2
    have hT2:Slot w2 w.heap.size:=(HT.out.kept ((Kp.refl b _).drewN _) (by omega)).kept hk2 (by omega)
    clear r0 r1 r2 r3 z0 z1 z2 z3
    obtain ⟨r0,r1,r2,r3,z0,z1,z2,z3⟩:=hT2.cell
    clear hk2 h1 h2 hR2 hc2 hx2 hT2
    go_wp2
    exact bodyPost_ret (v:=.agg #[.int .i64 (t.kind:Nat),.int .i64 p,.string xt,.int .i64 t.val]) (by simp [results,Tryz.results140,go_sem,r0,r1,r2,r3]) rfl HF.out
   ·go_wp2
    exact ⟨rfl,(HK.out.drewN _).trans hk2,Or.inr ⟨⟨d,rfl,hd⟩,HC1.out.trans hn⟩⟩
  ·have hl':Mil.isL s[p]=false:=by simpa using hl
   have HC1:Hid (Mil.cut (s.data.toList.drop p)=if Mil.isD s[p] then Mil.cutNum (s.data.toList.drop p) else Mil.cutSign (s.data.toList.drop p)):=HC.out.trans (by rw [if_neg hl])
   clear hl
   go_wp2_with fail
   refine (isDigit_any _ _).mono ?_
   rintro e w' ⟨rfl,rfl⟩
   by_cases hd:Mil.isD s[p]=true
   ·have HC2:Hid (Mil.cut (s.data.toList.drop p)=Mil.cutNum (s.data.toList.drop p)):=HC1.out.trans (by rw [if_pos hd])
    have HD:=hid hd
    go_wp2_with fail
    refine (cutNumber_any a b s p n k tp x v _ (HL1.out.kept ((Kp.refl b _).drewN _) hb) hb (HR.out.drewN _) hlt HD.out hs).mono ?_
    rintro e w2 ⟨hk2,(⟨t,q,xt,rfl,h1,h2,hR2,hc2,hx2⟩ | ⟨⟨d,rfl,hd⟩,hn⟩)⟩
    ·have HF:Hid (TokPost (Mil.cut (s.data.toList.drop p)) a b s p n k tp x v w (.returned (.agg #[.int .i64 (t.kind:Nat),.int .i64 p,.string xt,.int .i64 t.val])) ((((w2.setCell ⟨w.heap.size,0,none⟩ (.int .i64 (t.kind:Nat))).setCell ⟨w.heap.size,1,none⟩ (.int .i64 p)).setCell ⟨w.heap.size,2,none⟩ (.string xt)).setCell ⟨w.heap.size,3,none⟩ (.int .i64 t.val))):=
      tok_through (HK.out.drewN _) hk2 (by omega) h1 h2 hR2 (HC2.out.trans hc2) hx2
     have hT2:Slot w2 w.heap.size:=(HT.out.kept ((Kp.refl b _).drewN _) (by omega)).kept hk2 (by omega)
     clear r0 r1 r2 r3 z0 z1 z2 z3
     obtain ⟨r0,r1,r2,r3,z0,z1,z2,z3⟩:=hT2.cell
     clear hk2 h1 h2 hR2 hc2 hx2 hT2
     go_wp2
     exact bodyPost_ret (v:=.agg #[.int .i64 (t.kind:Nat),.int .i64 p,.string xt,.int .i64 t.val]) (by simp [results,Tryz.results140,go_sem,r0,r1,r2,r3]) rfl HF.out
    ·go_wp2
     exact ⟨rfl,(HK.out.drewN _).trans hk2,Or.inr ⟨⟨d,rfl,hd⟩,HC2.out.trans hn⟩⟩
   ·have hd':Mil.isD s[p]=false:=by simpa using hd
    have HC2:Hid (Mil.cut (s.data.toList.drop p)=Mil.cutSign (s.data.toList.drop p)):=HC1.out.trans (by rw [if_neg hd])
    clear hd
    go_wp2_with fail
    refine (cutSign_any a b s p n k tp x v _ (HL1.out.kept ((Kp.refl b _).drewN _) hb) hb (HR.out.drewN _) hlt hs).mono ?_
    rintro e w2 ⟨hk2,(⟨t,q,xt,rfl,h1,h2,hR2,hc2,hx2⟩ | ⟨⟨d,rfl,hd⟩,hn⟩)⟩
    ·have HF:Hid (TokPost (Mil.cut (s.data.toList.drop p)) a b s p n k tp x v w (.returned (.agg #[.int .i64 (t.kind:Nat),.int .i64 p,.string xt,.int .i64 t.val])) ((((w2.setCell ⟨w.heap.size,0,none⟩ (.int .i64 (t.kind:Nat))).setCell ⟨w.heap.size,1,none⟩ (.int .i64 p)).setCell ⟨w.heap.size,2,none⟩ (.string xt)).setCell ⟨w.heap.size,3,none⟩ (.int .i64 t.val))):=
      tok_through (HK.out.drewN _) hk2 (by omega) h1 h2 hR2 (HC2.out.trans hc2) hx2
     have hT2:Slot w2 w.heap.size:=(HT.out.kept ((Kp.refl b _).drewN _) (by omega)).kept hk2 (by omega)
     clear r0 r1 r2 r3 z0 z1 z2 z3
     obtain ⟨r0,r1,r2,r3,z0,z1,z2,z3⟩:=hT2.cell
     clear hk2 h1 h2 hR2 hc2 hx2 hT2
     go_wp2
     exact bodyPost_ret (v:=.agg #[.int .i64 (t.kind:Nat),.int .i64 p,.string xt,.int .i64 t.val]) (by simp [results,Tryz.results140,go_sem,r0,r1,r2,r3]) rfl HF.out
    ·go_wp2
     exact ⟨rfl,(HK.out.drewN _).trans hk2,Or.inr ⟨⟨d,rfl,hd⟩,HC2.out.trans hn⟩⟩
 ·have hq:((p:Int)==(s.size:Int))=true:=by simp;omega
  go_quiet (fail)
  go_wp2
  refine bodyPost_ret (v:=.agg #[.int .i64 0,.int .i64 p,.string ⟨#[]⟩,.int .i64 0]) (by simp [results,Tryz.results140,go_sem,r0,r1,r2,r3]) rfl ?_
  refine ⟨(HK.out.drewN nq).four (Nat.le_refl _) _ _ _ _,Or.inl ⟨⟨0,[],0⟩,p,⟨#[]⟩,rfl,Nat.le_refl _,hp,(HR.out.drewN nq).four (by omega) _ _ _ _,?_,rfl⟩⟩
  rw [drop_end (by omega)];rfl
end
section
open Go.RowKit
theorem Rd.set2 {w:World} {b:Nat} {s:ByteArray} {p n:Nat} {k tp:Int} {x:ByteArray} {v:Int} (h:Rd w b s p n k tp x v):Rd (w.setCell ⟨b,2,none⟩ (.int .i64 ((n:Int)+1))) b s p (n+1) k tp x v:=by
 have fr:∀o,(w.setCell ⟨b,2,none⟩ (.int .i64 ((n:Int)+1))).frozen? ⟨b,o,none⟩=false:=fun o=>by simp [h.fz]
 have oth:∀o,o≠2→(w.setCell ⟨b,2,none⟩ (.int .i64 ((n:Int)+1))).cell? ⟨b,o,none⟩=w.cell? ⟨b,o,none⟩:=fun o ho=>World.cell?_setCell_other _ ⟨b,2,none⟩ ⟨b,o,none⟩ _ (fun e=>ho (by cases e;rfl))
 have c2:(w.setCell ⟨b,2,none⟩ (.int .i64 ((n:Int)+1))).cell? ⟨b,2,none⟩=some (.int .i64 ((n+1:Nat):Int)):=by
  rw [show ((n+1:Nat):Int)=(n:Int)+1 from by omega];exact World.cell?_setCell_same _ _ _ h.c2
 exact ⟨(oth 0 (by decide)).trans h.c0,(oth 1 (by decide)).trans h.c1,c2,(oth 3 (by decide)).trans h.c3,(oth 4 (by decide)).trans h.c4,(oth 5 (by decide)).trans h.c5,(oth 6 (by decide)).trans h.c6,fr⟩
theorem Rd.tok4 {w:World} {b:Nat} {s:ByteArray} {p n:Nat} {k tp:Int} {x:ByteArray} {v:Int} (h:Rd w b s p n k tp x v) (k' tp':Int) (x':ByteArray) (v':Int) :
  Rd ((((w.setCell ⟨b,3,none⟩ (.int .i64 k')).setCell ⟨b,4,none⟩ (.int .i64 tp')).setCell ⟨b,5,none⟩ (.string x')).setCell ⟨b,6,none⟩ (.int .i64 v')) b s p n k' tp' x' v':=by
 have ne:∀{i j:Nat},i≠j→(⟨b,i,none⟩:Addr)≠⟨b,j,none⟩:=fun h e=>h (by cases e;rfl)
 have oth:∀{W:World} {u:Value} (i o:Nat),i≠o→(W.setCell ⟨b,i,none⟩ u).cell? ⟨b,o,none⟩=W.cell? ⟨b,o,none⟩:=fun i o hio=>World.cell?_setCell_other _ ⟨b,i,none⟩ ⟨b,o,none⟩ _ (ne hio)
 have all:∀o,o≠3→o≠4→o≠5→o≠6→((((w.setCell ⟨b,3,none⟩ (.int .i64 k')).setCell ⟨b,4,none⟩ (.int .i64 tp')).setCell ⟨b,5,none⟩ (.string x')).setCell ⟨b,6,none⟩ (.int .i64 v')).cell? ⟨b,o,none⟩=w.cell? ⟨b,o,none⟩:=fun o h3 h4 h5 h6=>by
  rw [oth 6 o (Ne.symm h6),oth 5 o (Ne.symm h5),oth 4 o (Ne.symm h4),oth 3 o (Ne.symm h3)]
 refine ⟨(all 0 (by decide) (by decide) (by decide) (by decide)).trans h.c0,(all 1 (by decide) (by decide) (by decide) (by decide)).trans h.c1,(all 2 (by decide) (by decide) (by decide) (by decide)).trans h.c2,?_,?_,?_,?_,fun o=>by simp [h.fz]⟩
 ·rw [oth 6 3 (by decide),oth 5 3 (by decide),oth 4 3 (by decide)];exact World.cell?_setCell_same _ _ _ h.c3
 ·rw [oth 6 4 (by decide),oth 5 4 (by decide)];exact World.cell?_setCell_same (w.setCell ⟨b,3,none⟩ (.int .i64 k')) _ _ ((oth 3 4 (by decide)).trans h.c4)
 ·rw [oth 6 5 (by decide)];exact World.cell?_setCell_same ((w.setCell ⟨b,3,none⟩ (.int .i64 k')).setCell ⟨b,4,none⟩ (.int .i64 tp')) _ _ (((oth 4 5 (by decide)).trans (oth 3 5 (by decide))).trans h.c5)
 ·exact World.cell?_setCell_same (((w.setCell ⟨b,3,none⟩ (.int .i64 k')).setCell ⟨b,4,none⟩ (.int .i64 tp')).setCell ⟨b,5,none⟩ (.string x')) _ _ ((((oth 5 6 (by decide)).trans (oth 4 6 (by decide))).trans (oth 3 6 (by decide))).trans h.c6)
theorem while_len (f:UInt8→Bool):∀l:Mil.Bytes,(l.takeWhile f).length≤l.length
 | []=>Nat.le_refl _
 | c::r=>by
  rw [List.takeWhile_cons]
  have:=while_len f r
  split <;> simp <;> omega
theorem skip_len:∀(f:Bool) (l:Mil.Bytes),(Mil.skip f l).length≤l.length
 | true,[]=>Nat.le_refl _
 | false,[]=>Nat.le_refl _
 | true,c::r=>by
  rw [Mil.skip]
  have:=skip_len true r
  have:=skip_len false r
  split <;> simp <;> omega
 | false,c::r=>by
  rw [Mil.skip]
  have:=skip_len true r
  have:=skip_len false r
  split
  ·simp;omega
  ·split
   ·simp;omega
   ·exact Nat.le_refl _
theorem cut_len {l:Mil.Bytes} {t:Mil.Tok} {r:Mil.Bytes} (h:Mil.cut l=some (t,r)):t.txt.length≤l.length:=by
 cases l with
 | nil=>
  obtain ⟨rfl,rfl⟩:=Prod.mk.inj (Option.some.inj h)
  exact Nat.zero_le _
 | cons c q=>
  rw [cut_cons] at h
  by_cases hl:Mil.isL c=true
  ·rw [if_pos hl] at h
   unfold Mil.cutName at h
   split at h
   ·cases h
   ·obtain ⟨rfl,rfl⟩:=Prod.mk.inj (Option.some.inj h)
    have:=while_len Mil.isN (c::q)
    split
    ·exact this
    ·exact this
  ·rw [if_neg hl] at h
   by_cases hd:Mil.isD c=true
   ·rw [if_pos hd] at h
    unfold Mil.cutNum at h
    split at h
    ·split at h
     ·cases h
     ·obtain ⟨rfl,rfl⟩:=Prod.mk.inj (Option.some.inj h)
      exact while_len Mil.isD (c::q)
    ·cases h
   ·rw [if_neg hd] at h
    unfold Mil.cutSign at h
    split at h
    ·rename_i x hf
     obtain ⟨rfl,rfl⟩:=Prod.mk.inj (Option.some.inj h)
     have hfx:List.isPrefixOf x (c::q)=true:=List.find?_some (p:=fun x=>List.isPrefixOf x (c::q)) hf
     exact (List.isPrefixOf_iff_prefix.1 hfx).length_le
    ·cases h
theorem while_whole (f:UInt8→Bool):∀l:Mil.Bytes,(l.takeWhile f).length+(l.dropWhile f).length=l.length
 | []=>rfl
 | c::r=>by
  rw [List.takeWhile_cons,List.dropWhile_cons]
  have:=while_whole f r
  split
  ·simp;omega
  ·simp
theorem cut_whole {l:Mil.Bytes} {t:Mil.Tok} {r:Mil.Bytes} (h:Mil.cut l=some (t,r)):t.txt.length+r.length=l.length:=by
 cases l with
 | nil=>
  obtain ⟨rfl,rfl⟩:=Prod.mk.inj (Option.some.inj h)
  rfl
 | cons c q=>
  rw [cut_cons] at h
  by_cases hl:Mil.isL c=true
  ·rw [if_pos hl] at h
   unfold Mil.cutName at h
   split at h
   ·cases h
   ·obtain ⟨rfl,rfl⟩:=Prod.mk.inj (Option.some.inj h)
    have:=while_whole Mil.isN (c::q)
    split
    ·exact this
    ·exact this
  ·rw [if_neg hl] at h
   by_cases hd:Mil.isD c=true
   ·rw [if_pos hd] at h
    unfold Mil.cutNum at h
    split at h
    ·split at h
     ·cases h
     ·obtain ⟨rfl,rfl⟩:=Prod.mk.inj (Option.some.inj h)
      exact while_whole Mil.isD (c::q)
    ·cases h
   ·rw [if_neg hd] at h
    unfold Mil.cutSign at h
    split at h
    ·rename_i x hf
     obtain ⟨rfl,rfl⟩:=Prod.mk.inj (Option.some.inj h)
     have hfx:List.isPrefixOf x (c::q)=true:=List.find?_some (p:=fun x=>List.isPrefixOf x (c::q)) hf
     have:=(List.isPrefixOf_iff_prefix.1 hfx).length_le
     show x.length+(List.drop x.length (c::q)).length=_
     rw [List.length_drop]
     omega
    ·cases h
def place (n:Nat) (st:Mil.St):Int:=(n:Int) - st.rest.length - st.tok.txt.length
def RdS (w:World) (b:Nat) (s:ByteArray) (st:Mil.St):Prop:=
 ∃p tp x,p≤s.size∧Rd w b s p st.cnt (st.tok.kind:Nat) tp x st.tok.val∧st.rest=s.data.toList.drop p∧x.data.toList=st.tok.txt∧st.cnt≤600∧st.tok.txt.length≤4000∧tp=place s.size st
def Threw (a:Nat→Addr) (e:Ending) (w':World):Prop:=∃k at_,(k=1∨k=2∨k=3∨k=4)∧Thrown a k at_ e w'
def StPost (r:Option Mil.St) (a:Nat→Addr) (b:Nat) (s:ByteArray) (w:World) (e:Ending) (w':World):Prop:=
 Kp b w w'∧((∃st,e=.returned (.tuple #[])∧r=some st∧RdS w' b s st)∨(Threw a e w'∧r=none))
set_option maxRecDepth 100000 in
theorem advance_raw (a:Nat→Addr) (b:Nat) (s:ByteArray) (p n:Nat) (k tp:Int) (x:ByteArray) (v:Int) (w:World) (L:Laid a w) (hb:27≤b) (h:Rd w b s p n k tp x v) (hp:p≤s.size) (hn:n≤600) (hs:s.size≤4000) :
  Calls Tryz.prog 118 #[.pointer (some ⟨b,0,none⟩)] w (StPost (Mil.adv' (s.data.toList.drop p) n) a b s w):=by
 have H:=hid h
 have HL:=hid L
 clear h L
 go_enter Tryz.func118,Tryz.ntmps118
 go_wp2_with fail
 refine (skipBlanks_any b s p n k tp x v w H.out hp hs).mono ?_
 rintro e w1 ⟨rfl,q,hpq,hq,hsk,hR1,hK1⟩
 have HSK:=hid hsk
 have HR1:=hid hR1
 have HK1:=hid hK1
 clear hsk hR1 hK1
 go_wp2_with fail
 refine (cut_any a b s q n k tp x v w1 (HL.out.kept HK1.out hb) hb HR1.out hq hs).mono ?_
 rintro e w2 ⟨hk2,(⟨t,r,xt,rfl,h1,h2,hR2,hc2,hx2⟩ | ⟨⟨d,rfl,hd⟩,hno⟩)⟩
 ·have HR2:=hid hR2
  have HK2:=hid (HK1.out.trans hk2)
  have HC2:Hid (Mil.cut (Mil.skip false (s.data.toList.drop p))=some (t,s.data.toList.drop r)):=by rw [←HSK.out];exact hc2
  have HTL:Hid (t.txt.length≤4000):=by
   have l1:=cut_len HC2.out
   have l2:=skip_len false (s.data.toList.drop p)
   have l3:(s.data.toList.drop p).length≤4000:=by simp;omega
   show _≤_;omega
  have HPL:Hid (∀n',(q:Int)=place s.size ⟨t,s.data.toList.drop r,n'⟩):=by
   intro n'
   have l1:=cut_whole hc2
   have l2:(s.data.toList.drop q).length=s.size - q:=by simp
   rw [l2] at l1
   show (q:Int)=(s.size:Int) - (s.data.toList.drop r).length - t.txt.length
   omega
  have c3:=hR2.c3
  have c4:=hR2.c4
  have c5:=hR2.c5
  have c6:=hR2.c6
  have f3:=hR2.fz 3
  have f4:=hR2.fz 4
  have f5:=hR2.fz 5
  have f6:=hR2.fz 6
  clear hk2 hR2 hc2
  have HR4:Hid (Rd ((((w2.setCell ⟨b,3,none⟩ (.int .i64 (t.kind:Nat))).setCell ⟨b,4,none⟩ (.int .i64 q)).setCell ⟨b,5,none⟩ (.string xt)).setCell ⟨b,6,none⟩ (.int .i64 t.val)) b s r n (t.kind:Nat) q xt t.val):=HR2.out.tok4 _ _ _ _
  have HK4:Hid (Kp b w ((((w2.setCell ⟨b,3,none⟩ (.int .i64 (t.kind:Nat))).setCell ⟨b,4,none⟩ (.int .i64 q)).setCell ⟨b,5,none⟩ (.string xt)).setCell ⟨b,6,none⟩ (.int .i64 t.val))):=(((HK2.out.setCell _ _).setCell _ _).setCell _ _).setCell _ _
  by_cases h0:t.kind=0
  ·obtain ⟨kd,tx,vl⟩:=t
   have h0':kd=0:=h0
   subst h0'
   go_wp2
   go_end0
   refine ⟨HK4.out,Or.inl ⟨⟨⟨0,tx,vl⟩,s.data.toList.drop r,n⟩,rfl,?_,r,q,xt,h2,HR4.out,rfl,hx2,hn,HTL.out,HPL.out n⟩⟩
   unfold Mil.adv'
   rw [HC2.out];rfl
  ·have hb0:(((t.kind:Nat):Int)==0)=false:=by simp;omega
   have HR5:Hid (Rd (((((w2.setCell ⟨b,3,none⟩ (.int .i64 (t.kind:Nat))).setCell ⟨b,4,none⟩ (.int .i64 q)).setCell ⟨b,5,none⟩ (.string xt)).setCell ⟨b,6,none⟩ (.int .i64 t.val)).setCell ⟨b,2,none⟩ (.int .i64 ((n:Int)+1))) b s r (n+1) (t.kind:Nat) q xt t.val):=HR4.out.set2
   have HK5:Hid (Kp b w (((((w2.setCell ⟨b,3,none⟩ (.int .i64 (t.kind:Nat))).setCell ⟨b,4,none⟩ (.int .i64 q)).setCell ⟨b,5,none⟩ (.string xt)).setCell ⟨b,6,none⟩ (.int .i64 t.val)).setCell ⟨b,2,none⟩ (.int .i64 ((n:Int)+1)))):=HK4.out.setCell _ _
   have c2:=HR2.out.c2
   have f2:=HR2.out.fz 2
   have HN0:=hid h0
   clear h0
   by_cases h6:n=600
   ·have hgt:(600:Int) < (n:Int)+1:=by omega
    have HE:=hid h6
    have hcl:=(HL.out.kept HK5.out hb).long
    have hc4:=HR5.out.c4
    clear h6
    go_wp2
    generalize ((((w2.setCell ⟨b,3,none⟩ (.int .i64 (t.kind:Nat))).setCell ⟨b,4,none⟩ (.int .i64 q)).setCell ⟨b,5,none⟩ (.string xt)).setCell ⟨b,6,none⟩ (.int .i64 t.val)).setCell ⟨b,2,none⟩ (.int .i64 ((n:Int)+1))=w3 at *
    clear c2 c3 c4 c5 c6 f2 f3 f4 f5 f6
    have hpp:∀tm:Array Value,bodyPost Tryz.prog Tryz.f118 (StPost (Mil.adv' (s.data.toList.drop p) n) a b s w) (Exit.panic [{ v:=.iface 181 (.pointer (some ⟨w3.heap.size,0,none⟩)),recovered:=false }]) { tmps:=tm,defers:=[] } (w3.alloc (.cells #[.int .i64 q,errV (a 1)] 187)).drew:=by
     intro tm
     refine ⟨rfl,(HK5.out.alloc _).drew,Or.inr ⟨⟨1,q,Or.inl rfl,w3.heap.size,rfl,heap_alloc_new w3 _⟩,?_⟩⟩
     unfold Mil.adv'
     rw [HC2.out]
     simp only []
     rw [if_neg HN0.out,if_pos (by have:=HE.out;omega)]
    refine wp_region_any (by kernel_rfl) ?_
    change wpAny _ _ _ _ _ _ _ (World.drew _)
    refine wpAny_take (i:=0) (v:=.pointer (some ⟨b,0,none⟩)) rfl (by kernel_rfl) (by kernel_rfl) (by kernel_rfl) (fun _ _ _ h=>h) (Or.inl ⟨by rfl,fun w=>by go_simp⟩) ?_
    refine wpAny_take (i:=1) (v:=.pointer (some ⟨b,0,none⟩)) rfl (by kernel_rfl) (by kernel_rfl) (by kernel_rfl) (fun _ _ _ h=>h) (Or.inl ⟨by rfl,fun w=>by go_simp⟩) ?_
    refine wpAny_take (i:=2) (v:=.pointer (some ⟨b,3,none⟩)) rfl (by kernel_rfl) (by kernel_rfl) (by kernel_rfl) (fun _ _ _ h=>h) (Or.inl ⟨by rfl,fun w=>by go_simp⟩) ?_
    refine wpAny_take (i:=3) (v:=.pointer (some ⟨b,4,none⟩)) rfl (by kernel_rfl) (by kernel_rfl) (by kernel_rfl) (fun _ _ _ h=>h) (Or.inl ⟨by rfl,fun w=>by go_simp⟩) ?_
    refine wpAny_ready (rs:=[4,5]) (by kernel_rfl) (by simp) ?_
    refine AllReady.cons rfl (fun K hK=>?_) (AllReady.cons rfl (fun K hK=>?_) AllReady.nil)
    ·go_simp
     refine hK _ _ ?_
     clear hK K
     refine wpAny_ready (rs:=[5]) (by kernel_rfl) (by simp) ?_
     refine AllReady.cons rfl (fun K hK=>?_) AllReady.nil
     go_simp
     refine hK _ _ ?_
     clear hK K
     refine wpAny_take (i:=6) (v:=.agg #[.int .i64 q,errV (a 1)]) rfl (by kernel_rfl) (by kernel_rfl) (by kernel_rfl) (fun _ _ _ h=>h) (Or.inl ⟨by rfl,fun w=>by go_simp⟩) ?_
     refine wpAny_ready (rs:=[7]) (by kernel_rfl) (by simp) ?_
     refine AllReady.cons rfl (fun K hK=>?_) AllReady.nil
     go_simp
     refine hK _ _ ?_
     clear hK K
     refine wpAny_take (i:=8) (v:=.iface 181 (.pointer (some ⟨w3.heap.size,0,none⟩))) rfl (by kernel_rfl) (by kernel_rfl) (by kernel_rfl) (fun _ _ _ h=>h) (Or.inl ⟨by rfl,fun w=>by go_simp⟩) ?_
     refine wpAny_ready (rs:=[9]) (by kernel_rfl) (by simp) ?_
     refine AllReady.cons rfl (fun K hK=>?_) AllReady.nil
     go_simp
    ·go_simp
     refine hK _ _ ?_
     clear hK K
     refine wpAny_ready (rs:=[4]) (by kernel_rfl) (by simp) ?_
     refine AllReady.cons rfl (fun K hK=>?_) AllReady.nil
     go_simp
     refine hK _ _ ?_
     clear hK K
     refine wpAny_take (i:=6) (v:=.agg #[.int .i64 q,errV (a 1)]) rfl (by kernel_rfl) (by kernel_rfl) (by kernel_rfl) (fun _ _ _ h=>h) (Or.inl ⟨by rfl,fun w=>by go_simp⟩) ?_
     refine wpAny_ready (rs:=[7]) (by kernel_rfl) (by simp) ?_
     refine AllReady.cons rfl (fun K hK=>?_) AllReady.nil
     go_simp
     refine hK _ _ ?_
     clear hK K
     refine wpAny_take (i:=8) (v:=.iface 181 (.pointer (some ⟨w3.heap.size,0,none⟩))) rfl (by kernel_rfl) (by kernel_rfl) (by kernel_rfl) (fun _ _ _ h=>h) (Or.inl ⟨by rfl,fun w=>by go_simp⟩) ?_
     refine wpAny_ready (rs:=[9]) (by kernel_rfl) (by simp) ?_
     refine AllReady.cons rfl (fun K hK=>?_) AllReady.nil
     go_simp
   ·have hle:¬(600:Int) < (n:Int)+1:=by omega
    have HE:=hid h6
    clear h6
    go_wp2
    go_end0
    refine ⟨HK5.out,Or.inl ⟨⟨t,s.data.toList.drop r,n+1⟩,rfl,?_,r,q,xt,h2,HR5.out,rfl,hx2,by have:=HE.out;show n+1≤600;omega,HTL.out,HPL.out (n+1)⟩⟩
    unfold Mil.adv'
    rw [HC2.out]
    simp only []
    rw [if_neg HN0.out,if_neg (by have:=HE.out;omega)]
 ·go_wp2
  refine ⟨rfl,HK1.out.trans hk2,Or.inr ⟨⟨2,_,Or.inr (Or.inl rfl),d,rfl,hd⟩,?_⟩⟩
  unfold Mil.adv'
  rw [←HSK.out,hno]
theorem advance_any (a:Nat→Addr) (b:Nat) (s:ByteArray) (st:Mil.St) (w:World) (L:Laid a w) (hb:27≤b) (h:RdS w b s st) (hs:s.size≤4000) :
  Calls Tryz.prog 118 #[.pointer (some ⟨b,0,none⟩)] w (StPost (Mil.adv st) a b s w):=by
 obtain ⟨p,tp,x,hp,hR,hr,_,hn,_⟩:=h
 unfold Mil.adv
 rw [hr]
 exact advance_raw a b s p st.cnt _ tp x _ w L hb hR hp hn hs
end
section
open Go.RowKit
theorem RdS.kept {w w':World} {b c:Nat} {s:ByteArray} {st:Mil.St} (h:RdS w b s st) (k:Kp c w w') (hc:b≠c):RdS w' b s st:=by
 obtain ⟨p,tp,x,hp,hR,hr,hx,hn⟩:=h
 exact ⟨p,tp,x,hp,hR.kept k hc,hr,hx,hn⟩
theorem refused_at (a:Nat→Addr) (b:Nat) (s:ByteArray) (st:Mil.St) (w:World) (L:Laid a w) (h:RdS w b s st) :
  Calls Tryz.prog 163 #[.pointer (some ⟨b,0,none⟩)] w fun e w'=>∃d,e=.returned (.pointer (some ⟨d,0,none⟩))∧w'.heap[d]?=some (.cells #[.int .i64 (place s.size st),errV (a 3)] 187 (0,0))∧Below w.heap.size w w':=by
 obtain ⟨p,tp,x,hp,hR,hr,hx,hn⟩:=h
 have c4:=hR.c4
 have cs:=L.synt
 have HT:Hid (tp=place s.size st):=hn.2.2
 clear hR L hn hx hr
 go_enter Tryz.func163,Tryz.ntmps163
 go_wp2
 go_region_held3 (fun w'=>w'.cell? ⟨b,4,none⟩=some (.int .i64 tp)∧w'.cell? ⟨8,0,none⟩=some (errV (a 3))) (exact ⟨cell_later (by repeat (first | exact Below.refl _ _ | refine Below.drew ?_ | refine Below.alloc ?_ (by first | (simp;done) | (simp;omega)) _)) c4,cell_later (by repeat (first | exact Below.refl _ _ | refine Below.drew ?_ | refine Below.alloc ?_ (by first | (simp;done) | (simp;omega)) _)) cs⟩) (fail)
 go_wp2
 go_ret
 rw [←HT.out]
 exact ⟨w.heap.size,rfl,heap_alloc_new w _,((Below.refl _ _).alloc (Nat.le_refl _) _).drew⟩
theorem refused_any (a:Nat→Addr) (b:Nat) (s:ByteArray) (st:Mil.St) (w:World) (L:Laid a w) (h:RdS w b s st) :
  Calls Tryz.prog 163 #[.pointer (some ⟨b,0,none⟩)] w fun e w'=>∃d at_,e=.returned (.pointer (some ⟨d,0,none⟩))∧w'.heap[d]?=some (.cells #[.int .i64 at_,errV (a 3)] 187 (0,0))∧Below w.heap.size w w':=
 (refused_at a b s st w L h).mono fun _ _ ⟨d,h1,h2,h3⟩=>⟨d,_,h1,h2,h3⟩
theorem sees_any (b:Nat) (s:ByteArray) (st:Mil.St) (y:ByteArray) (w:World) (h:RdS w b s st) :
  Calls Tryz.prog 153 #[.pointer (some ⟨b,0,none⟩),.string y] w fun e w'=>e=.returned (.bool (Mil.sees st y.data.toList))∧w'=w:=by
 obtain ⟨p,tp,x,hp,hR,hr,hx,hn⟩:=h
 have c3:=hR.c3
 have c5:=hR.c5
 have HX:=hid hx
 have hsee:Mil.sees st y.data.toList=(decide (st.tok.kind=3) && (x.toList==y.toList)):=by
  unfold Mil.sees
  rw [Lib.toList_data,Lib.toList_data,HX.out];rfl
 have HS:=hid hsee
 clear hR hx hr hsee
 by_cases h3:st.tok.kind=3
 ·have hb:(((st.tok.kind:Nat):Int)==3)=true:=by simp;omega
  have H3:=hid h3
  clear h3
  go_enter Tryz.func153,Tryz.ntmps153
  go_wp2
  go_ret
  refine ⟨ret_bool ?_,rfl⟩
  rw [HS.out,decide_eq_true H3.out];simp
 ·have hb:(((st.tok.kind:Nat):Int)==3)=false:=by simp;omega
  have H3:=hid h3
  clear h3
  go_enter Tryz.func153,Tryz.ntmps153
  go_wp2
  go_ret
  refine ⟨ret_bool ?_,rfl⟩
  rw [HS.out,decide_eq_false H3.out];simp
theorem takes_no (b:Nat) (s:ByteArray) (st:Mil.St) (y:ByteArray) (w:World) (h:RdS w b s st) (hn:Mil.sees st y.data.toList=false) :
  Calls Tryz.prog 141 #[.pointer (some ⟨b,0,none⟩),.string y] w fun e w'=>e=.returned (.bool false)∧w'=w:=by
 have H:=hid h
 have HN:=hid hn
 clear h hn
 go_enter Tryz.func141,Tryz.ntmps141
 go_wp2_with fail
 refine (sees_any b s st y w H.out).mono ?_
 rintro e w' ⟨rfl,rfl⟩
 rw [HN.out]
 go_wp2
 go_ret
 exact ⟨rfl,rfl⟩
def TkPost (st:Mil.St) (a:Nat→Addr) (b:Nat) (s:ByteArray) (w:World) (e:Ending) (w':World):Prop:=
 Kp b w w'∧((∃st',e=.returned (.bool true)∧Mil.adv st=some st'∧RdS w' b s st')∨(Threw a e w'∧Mil.adv st=none))
theorem takes_yes (a:Nat→Addr) (b:Nat) (s:ByteArray) (st:Mil.St) (y:ByteArray) (w:World) (L:Laid a w) (hb:27≤b) (h:RdS w b s st) (hs:s.size≤4000) (hy:Mil.sees st y.data.toList=true) :
  Calls Tryz.prog 141 #[.pointer (some ⟨b,0,none⟩),.string y] w (TkPost st a b s w):=by
 have H:=hid h
 have HL:=hid L
 have HN:=hid hy
 clear h hy L
 go_enter Tryz.func141,Tryz.ntmps141
 go_wp2_with fail
 refine (sees_any b s st y w H.out).mono ?_
 rintro e w' ⟨rfl,rfl⟩
 rw [HN.out]
 go_wp2_with fail
 refine (advance_any a b s st _ HL.out hb H.out hs).mono ?_
 rintro e w1 ⟨hk,(⟨st',rfl,h1,h2⟩ | ⟨⟨k,at_,hkk,d,rfl,hd⟩,hno⟩)⟩
 ·go_wp2
  go_ret
  exact ⟨hk,Or.inl ⟨st',rfl,h1,h2⟩⟩
 ·go_wp2
  exact ⟨rfl,hk,Or.inr ⟨⟨k,at_,hkk,d,rfl,hd⟩,hno⟩⟩
theorem want_any (a:Nat→Addr) (b:Nat) (s:ByteArray) (st:Mil.St) (y:ByteArray) (w:World) (L:Laid a w) (hb:27≤b) (h:RdS w b s st) (hs:s.size≤4000) :
  Calls Tryz.prog 155 #[.pointer (some ⟨b,0,none⟩),.string y] w (StPost (Mil.want st y.data.toList) a b s w):=by
 have H:=hid h
 have HL:=hid L
 clear h L
 by_cases hy:Mil.sees st y.data.toList=true
 ·have HW:Hid (Mil.want st y.data.toList=Mil.adv st):=by unfold Mil.want;rw [if_pos hy];rfl
  have HY:=hid hy
  clear hy
  go_enter Tryz.func155,Tryz.ntmps155
  go_wp2_with fail
  refine (takes_yes a b s st y w HL.out hb H.out hs HY.out).mono ?_
  rintro e w1 ⟨hk,(⟨st',rfl,h1,h2⟩ | ⟨⟨k,at_,hkk,d,rfl,hd⟩,hno⟩)⟩
  ·go_wp2
   go_end0
   exact ⟨hk,Or.inl ⟨st',rfl,HW.out.trans h1,h2⟩⟩
  ·go_wp2
   exact ⟨rfl,hk,Or.inr ⟨⟨k,at_,hkk,d,rfl,hd⟩,HW.out.trans hno⟩⟩
 ·have HW:Hid (Mil.want st y.data.toList=none):=by unfold Mil.want;rw [if_neg hy];rfl
  have HY:Hid (Mil.sees st y.data.toList=false):=Bool.eq_false_iff.2 hy
  clear hy
  go_enter Tryz.func155,Tryz.ntmps155
  go_wp2_with fail
  refine (takes_no b s st y w H.out HY.out).mono ?_
  rintro e w1 ⟨rfl,rfl⟩
  go_wp2_with fail
  refine (refused_any a b s st _ HL.out H.out).mono ?_
  rintro e w2 ⟨d,at_,rfl,hd,hb2⟩
  go_wp2
  exact ⟨rfl,Kp.of_below hb2,Or.inr ⟨⟨3,at_,Or.inr (Or.inr (Or.inl rfl)),d,rfl,hd⟩,HW.out⟩⟩
end
end Go.Proofs.YtoiajojadihpbaaGreatDoor
