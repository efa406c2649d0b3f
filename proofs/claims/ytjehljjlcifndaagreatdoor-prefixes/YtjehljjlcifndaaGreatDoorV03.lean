import Derived.Test.YtjehljjlcifndaaGreatDoorV01
import Derived.Test.YtjehljjlcifndaaGreatDoorV02
import Derived.Lib.SmallJoins
import Derived.Test.YtjehljjlcifndaaGreatDoorV00
namespace Go.Proofs.YtjehljjlcifndaaGreatDoor
set_option maxHeartbeats 32000000
set_option maxRecDepth 100000
section
open Go.RowKit
theorem pum_cases (M:Nat):∀(l:Mil.Bytes) (acc:Nat),(∀c,c∈l->Mil.isD c=true)->(∃u,Lib.parseUintM M acc l=.ok u)\/Lib.parseUintM M acc l=.range
 | [],acc,_=>Or.inl ⟨acc,rfl⟩
 | c::l,acc,h=>by
  have hc:=h c List.mem_cons_self
  have hd:48<=c.toNat/\c.toNat<=57:=by unfold Mil.isD at hc;simpa using hc
  rw[Lib.parseUintM,if_pos hd]
  by_cases h2:1844674407370955162<=acc
  ·rw[if_pos h2];exact Or.inr rfl
  ·rw[if_neg h2]
   by_cases h3:M < acc*10+(c.toNat - 48)
   ·rw[if_pos h3];exact Or.inr rfl
   ·rw[if_neg h3]
    exact pum_cases M l _ fun d hd=>h d (List.mem_cons_of_mem _ hd)
theorem parse_cases (l:Mil.Bytes) (hne:l≠[]) (h:∀c,c∈l->Mil.isD c=true):(∃v,Lib.parseIntB 64 l=.ok v)\/Lib.parseIntB 64 l=.range:=by
 cases l with
 | nil=>exact absurd rfl hne
 | cons c r=>
  have hc:=h c List.mem_cons_self
  have hd:48<=c.toNat/\c.toNat<=57:=by unfold Mil.isD at hc;simpa using hc
  have hu:=pum_cases (2 ^ 64 - 1) (c::r) 0 h
  have hpb:Lib.parseUintB 64 (c::r)=Lib.parseUintM (2 ^ 64 - 1) 0 (c::r):=by unfold Lib.parseUintB;rw[if_neg (by simp)]
  unfold Lib.parseIntB
  simp only[]
  rw[if_neg (by omega),hpb]
  rcases hu with ⟨u,hu⟩|hu
  ·rw[hu]
   simp only[]
   by_cases h1:¬c.toNat=45/\2 ^ (64 - 1)<=u
   ·rw[if_pos h1];exact Or.inr rfl
   ·rw[if_neg h1,if_neg (by omega)];exact Or.inl ⟨_,rfl⟩
  ·rw[hu];exact Or.inr rfl
theorem pInt_ok (x:ByteArray) (hx:x.size<=4000) (u:Int) (h:Lib.parseIntB 64 x.data.toList=.ok u) (w:World) :
  Calls Tryz.prog 173 #[.string x,.int .i64 10,.int .i64 64] w fun e w'=>e=.returned (.tuple #[.int .i64 u,.nilIface])/\Below w.heap.size w w':=by
 refine (Tryz.strconv_ParseInt_10_at64_ok x (by omega) u h w).mono ?_
 rintro e w' ⟨he,hw⟩
 rcases hw with rfl|⟨t,rfl⟩
 ·exact⟨he,Below.refl _ _⟩
 ·exact⟨he,Joins.below_bytesWorld _ _ _ _ nlr⟩
theorem pInt_range (a:Nat->Addr) (x:ByteArray) (hx:x.size<=4000) (h:Lib.parseIntB 64 x.data.toList=.range) (w:World) (L:w.cell? ⟨19,0,none⟩=some (errV (a 20))) :
  Calls Tryz.prog 173 #[.string x,.int .i64 10,.int .i64 64] w fun e w'=>∃N,e=.returned (.tuple #[.int .i64 (Lib.intSat 64 x.data.toList),.iface 291 (.pointer (some ⟨N,0,none⟩))])/\Below w.heap.size w w':=by
 refine (Tryz.strconv_ParseInt_10_at64_range x (by omega) h (errV (a 20)) w L (Or.inr ⟨_,_,rfl⟩)).mono ?_
 rintro e w' ⟨N,he,_,_,hb⟩
 exact⟨N,he,hb⟩
theorem run_len {f:UInt8->Bool} {s:ByteArray} {p q:Nat} (h:Run f s p q) (hf:∀h:q < s.size,f s[q]=false) (hp:p < s.size) (h0:f s[p]=true):p < q:=by
 rcases Nat.lt_or_ge p q with hl|hl
 ·exact hl
 ·have e:=h.done hf
  rw[(while_drop hp f h0).1] at e
  have:q - p=0:=by omega
  rw[this] at e
  simp at e
theorem cutNumber_any (a:Nat->Addr) (b:Nat) (s:ByteArray) (p n:Nat) (k tp:Int) (x:ByteArray) (v:Int) (w:World) (L:Laid a w) (hb:23<=b) (h:Rd w b s p n k tp x v) (hp:p < s.size) (h0:Mil.isD s[p]=true) (hs:s.size<=4000) :
  Calls Tryz.prog 143 #[.pointer (some ⟨b,0,none⟩)] w (TokPost (Mil.cutNum (s.data.toList.drop p)) a b s p n k tp x v w):=by
 have H:=hid h
 have HL:=hid L
 have H0:=hid h0
 have c1:=h.c1
 have hbw:b < w.heap.size:=zab h.c0
 clear h L h0
 go_enter Tryz.func143,Tryz.ntmps143
 go_upto_block 0 with fail
 go_cut [] from 11 to 39 (fun wl=>∃q,p<=q/\q<=s.size/\Hid (Run Mil.isD s p q)/\Hid (∀h:q < s.size,Mil.isD s[q]=false)/\Hid (Rd wl b s q n k tp x v)/\Hid (Kp b w wl)/\Hid (Slot wl w.heap.size))
 case first=>
  go_wp2
  go_loopg [] (s.size - p) (fun g wr=>∃q,p<=q/\q<=s.size/\g=s.size - q/\Hid (Run Mil.isD s p q)/\Hid (Rd wr b s q n k tp x v)/\Hid (Kp b w wr)/\Hid (Slot wr w.heap.size))
  case atStart=>exact⟨p,Nat.le_refl _,by omega,rfl,Run.start _ _ _,H.out.kept ((Kp.refl (b+1) _).alloc _) (by omega),(Kp.refl b _).alloc _,han _ _⟩
  case round=>
   obtain⟨q,hpq,hq,hg,HU,HR,HK,HT⟩:=hrel
   have HG:=hid hg
   clear hg c1
   have c0:=HR.out.c0
   have c1:=HR.out.c1
   have f1:=HR.out.fz 1
   by_cases hlt:q < s.size
   ·by_cases hn:Mil.isD s[q]=true
    ·go_wp2_with fail
     go_quiet ((go_at_call 142;exact Calls.quiet_of_same (zcj _ _)))
     go_wp2
     go_roundg (s.size - (q+1))
     case measure=>have:=HG.out;omega
     case rel=>exact⟨q+1,by omega,by omega,rfl,HU.out.next hpq hlt hn,(HR.out.drewN _).step1,(HK.out.drewN _).setCell _ _,HT.out.kept (((Kp.refl b _).drewN _).setCell _ _) (by omega)⟩
    ·have hn':Mil.isD s[q]=false:=by simpa using hn
     clear hn
     go_wp2_with fail
     go_quiet ((go_at_call 142;exact Calls.quiet_of_same (zcj _ _)))
     go_wp2
     go_meet
     case rel=>exact⟨q,hpq,hq,HU,fun _=>hn',HR.out.drewN _,HK.out.drewN _,HT.out.kept ((Kp.refl b _).drewN _) (by omega)⟩
   ·have hd:decide ((q:Int) < (s.size:Int))=false:=by simp;omega
    go_wp2_with fail
    go_quiet (fail)
    go_wp2
    go_meet
    case rel=>exact⟨q,hpq,hq,HU,fun h=>absurd h hlt,HR.out.drewN _,HK.out.drewN _,HT.out.kept ((Kp.refl b _).drewN _) (by omega)⟩
 case rest=>
  obtain⟨q,hpq,hq,HU,HF,HR,HK,HT⟩:=hcut
  clear c1
  have hlt:p < q:=run_len HU.out HF.out hp H0.out
  have HC:Hid ((∃v,Lib.parseIntB 64 ((s.data.toList.drop p).take (q - p))=.ok v)\/Lib.parseIntB 64 ((s.data.toList.drop p).take (q - p))=.range):=by
   refine parse_cases _ ?_ ?_
   ·intro e
    have:=congrArg List.length e
    simp at this
    omega
   ·rw[<-(HU.out.done HF.out).1]
    exact fun c hc=>Mil.mem_while _ c hc
  have c0:=HR.out.c0
  have c1:=HR.out.c1
  have ct:=(HL.out.kept HK.out hb).token
  have cr:=(HL.out.kept HK.out hb).rng
  have hxl:(s.extract p q).data.toList=(s.data.toList.drop p).take (q - p):=Lib.extract_data _ _ _
  have HX:=hid hxl
  clear hxl
  rcases HC.out with ⟨u,hu⟩|hu
  ·have HU2:=hid hu
   clear hu HC
   go_wp2
   go_quiet (fail)
   go_wp2_with fail
   refine (pInt_ok _ (by simp;omega) u (by rw[HX.out];exact HU2.out) _).mono ?_
   rintro e w1 ⟨rfl,hb1⟩
   have HK1:Hid (Kp b w w1):=(HK.out.drewN nq).trans (Kp.of_below hb1)
   have HR1:Hid (Rd w1 b s q n k tp x v):=(HR.out.drewN nq).kept (Kp.of_below (b:=b+1) hb1) (by omega)
   have HT1:Hid (Slot w1 w.heap.size):=(HT.out.kept ((Kp.refl b _).drewN nq) (by omega)).kept (Kp.of_below (b:=b) hb1) (by omega)
   have ct1:=(HL.out.kept HK1.out hb).token
   obtain⟨r0,r1,r2,r3,z0,z1,z2,z3⟩:=HT1.out.cell
   clear hb1 c0 c1 ct cr
   have hx0:0 < (s.extract p q).size:=by simp;omega
   have e0:(s.extract p q)[0]'hx0=s[p]:=by rw[ByteArray.getElem_extract];rfl
   have hh:(s.data.toList.drop p).head?.map (·.toNat)=some s[p].toNat:=by rw[zcl hp];rfl
   have HH:=hid hh
   have E0:=hid e0
   clear hh e0
   by_cases hz:(s.extract p q)[0].toNat=48/\1 < q - p
   ·obtain⟨hz1,hz2⟩:=hz
    have hzi:((s.extract p q)[0].toNat:Int)=48:=by omega
    have HZ:Hid (s[p].toNat=48):=by rw[<-E0.out];exact hz1
    clear hz1
    go_wp2
    refine⟨rfl,HK1.out.alloc _,Or.inr ⟨⟨w1.heap.size,rfl,han w1 _⟩,?_⟩⟩
    obtain⟨e1,e2⟩:=HU.out.done HF.out
    unfold Mil.cutNum
    rw[e1,HU2.out,HH.out]
    simp only[]
    rw[if_pos ⟨by rw[HZ.out],by simp;omega⟩]
   ·have hnz:¬(s[p].toNat=48/\1 < q - p):=by rw[<-E0.out];exact hz
    have HN:=hid hnz
    clear hnz
    have fin:TokPost (Mil.cutNum (s.data.toList.drop p)) a b s p n k tp x v w (.returned (.agg #[.int .i64 2,.int .i64 p,.string (s.extract p q),.int .i64 u]))
      ((((w1.setCell ⟨w.heap.size,0,none⟩ (.int .i64 2)).setCell ⟨w.heap.size,1,none⟩ (.int .i64 p)).setCell ⟨w.heap.size,2,none⟩ (.string (s.extract p q))).setCell ⟨w.heap.size,3,none⟩ (.int .i64 u)):=by
     refine⟨HK1.out.four nlr _ _ _ _,Or.inl ⟨⟨2,(s.data.toList.drop p).take (q - p),u⟩,q,s.extract p q,rfl,hpq,hq,HR1.out.four (by omega) _ _ _ _,?_,HX.out⟩⟩
     obtain⟨e1,e2⟩:=HU.out.done HF.out
     unfold Mil.cutNum
     rw[e1,e2,HU2.out,HH.out]
     have hlen:((s.data.toList.drop p).take (q - p)).length=q - p:=by simp;omega
     simp only[]
     rw[if_neg (by rw[hlen];intro hc;exact HN.out ⟨osi hc.1,hc.2⟩)]
    have FIN:=hid fin
    clear fin
    by_cases hz1:(s.extract p q)[0].toNat=48
    ·have hz2:¬1 < q - p:=fun h=>hz ⟨hz1,h⟩
     have hzi:((s.extract p q)[0].toNat:Int)=48:=by omega
     clear hz1 hz
     go_wp2
     exact bodyPost_ret (v:=.agg #[.int .i64 2,.int .i64 p,.string (s.extract p q),.int .i64 u]) (by simp[results,Tryz.results143,go_sem,r0,r1,r2,r3]) rfl FIN.out
    ·have hzi:¬((s.extract p q)[0].toNat:Int)=48:=by omega
     clear hz1 hz
     go_wp2
     exact bodyPost_ret (v:=.agg #[.int .i64 2,.int .i64 p,.string (s.extract p q),.int .i64 u]) (by simp[results,Tryz.results143,go_sem,r0,r1,r2,r3]) rfl FIN.out
  ·have HU2:=hid hu
   clear hu HC
   go_wp2
   go_quiet (fail)
   go_wp2_with fail
   refine (pInt_range a _ (by simp;omega) (by rw[HX.out];exact HU2.out) _ (by exact ((Kp.refl b _).drewN _).held cr (by show 19≠b;omega))).mono ?_
   rintro e w1 ⟨N,rfl,hb1⟩
   have HK1:Hid (Kp b w w1):=(HK.out.drewN nq).trans (Kp.of_below hb1)
   have HR1:Hid (Rd w1 b s q n k tp x v):=(HR.out.drewN nq).kept (Kp.of_below (b:=b+1) hb1) (by omega)
   have HT1:Hid (Slot w1 w.heap.size):=(HT.out.kept ((Kp.refl b _).drewN nq) (by omega)).kept (Kp.of_below (b:=b) hb1) (by omega)
   have ct1:=(HL.out.kept HK1.out hb).token
   obtain⟨r0,r1,r2,r3,z0,z1,z2,z3⟩:=HT1.out.cell
   clear hb1 c0 c1 ct cr
   go_wp2
   refine⟨rfl,HK1.out.alloc _,Or.inr ⟨⟨w1.heap.size,rfl,han w1 _⟩,?_⟩⟩
   obtain⟨e1,e2⟩:=HU.out.done HF.out
   unfold Mil.cutNum
   rw[e1,HU2.out]
end
section
open Go.RowKit
theorem cut_cons {c:UInt8} {r:Mil.Bytes}:Mil.cut (c::r)=if Mil.isL c then Mil.cutName (c::r) else if Mil.isD c then Mil.cutNum (c::r) else Mil.cutSign (c::r):=rfl
theorem zdh {c:Option (Mil.Tok×Mil.Bytes)} {a:Nat->Addr} {b:Nat} {s:ByteArray} {p n q:Nat} {k tp:Int} {x xt:ByteArray} {v:Int} {w w1 w2:World} {t:Mil.Tok}
  (h1:Kp b w w1) (h2:Kp b w1 w2) (hr:b≠w.heap.size) (hpq:p<=q) (hq:q<=s.size) (hR:Rd w2 b s q n k tp x v) (hc:c=some (t,s.data.toList.drop q)) (hx:xt.data.toList=t.txt) :
  TokPost c a b s p n k tp x v w (.returned (.agg #[.int .i64 (t.kind:Nat),.int .i64 p,.string xt,.int .i64 t.val]))
   ((((w2.setCell ⟨w.heap.size,0,none⟩ (.int .i64 (t.kind:Nat))).setCell ⟨w.heap.size,1,none⟩ (.int .i64 p)).setCell ⟨w.heap.size,2,none⟩ (.string xt)).setCell ⟨w.heap.size,3,none⟩ (.int .i64 t.val)):=
 ⟨(h1.trans h2).four nlr _ _ _ _,Or.inl ⟨t,q,xt,rfl,hpq,hq,hR.four hr _ _ _ _,hc,hx⟩⟩
theorem cut_any (a:Nat->Addr) (b:Nat) (s:ByteArray) (p n:Nat) (k tp:Int) (x:ByteArray) (v:Int) (w:World) (L:Laid a w) (hb:23<=b) (h:Rd w b s p n k tp x v) (hp:p<=s.size) (hs:s.size<=4000) :
  Calls Tryz.prog 105 #[.pointer (some ⟨b,0,none⟩)] w (TokPost (Mil.cut (s.data.toList.drop p)) a b s p n k tp x v w):=by
 have HL:=hid L
 have hbw:b < w.heap.size:=zab h.c0
 have hgw:=L.size
 let o:Obj:=.cells #[.int .i64 0,.int .i64 0,.string ⟨#[]⟩,.int .i64 0] 155
 have ho:o=.cells #[.int .i64 0,.int .i64 0,.string ⟨#[]⟩,.int .i64 0] 155:=rfl
 have hR:Rd (w.alloc o) b s p n k tp x v:=h.kept ((Kp.refl (b+1) _).alloc _) (by omega)
 have HR:=hid hR
 have HK:Hid (Kp b w (w.alloc o)):=(Kp.refl b _).alloc _
 have HL1:=hid (L.kept HK.out hb)
 have hT:Slot (w.alloc o) w.heap.size:=han _ _
 have HT:=hid hT
 have hsz:w.heap.size < (w.alloc o).heap.size:=by simp
 clear h L
 go_enter Tryz.func105,Tryz.ntmps105
 go_wp2
 rw[<-ho]
 generalize w.alloc o=w1 at *
 have c0:=hR.c0
 have c1:=hR.c1
 obtain⟨r0,r1,r2,r3,z0,z1,z2,z3⟩:=hT.cell
 clear hR hT
 by_cases hlt:p < s.size
 ·have hq:((p:Int)==(s.size:Int))=false:=by simp;omega
  have hc:Mil.cut (s.data.toList.drop p)=if Mil.isL s[p] then Mil.cutName (s.data.toList.drop p) else if Mil.isD s[p] then Mil.cutNum (s.data.toList.drop p) else Mil.cutSign (s.data.toList.drop p):=by
   rw[zcl hlt];rfl
  have HC:=hid hc
  clear hc
  go_quiet (fail)
  go_wp2
  go_quiet (fail)
  go_wp2_with fail
  refine (isLetter_any _ _).mono ?_
  rintro e w' ⟨rfl,rfl⟩
  by_cases hl:Mil.isL s[p]=true
  ·have HC1:Hid (Mil.cut (s.data.toList.drop p)=Mil.cutName (s.data.toList.drop p)):=HC.out.trans (by rw[if_pos hl])
   go_wp2_with fail
   refine (cutName_any a b s p n k tp x v _ (HL1.out.kept ((Kp.refl b _).drewN _) hb) hb (HR.out.drewN _) hlt hs).mono ?_
   rintro e w2 ⟨hk2,(⟨t,q,xt,rfl,h1,h2,hR2,hc2,hx2⟩|⟨⟨d,rfl,hd⟩,hn⟩)⟩
   ·have HF:Hid (TokPost (Mil.cut (s.data.toList.drop p)) a b s p n k tp x v w (.returned (.agg #[.int .i64 (t.kind:Nat),.int .i64 p,.string xt,.int .i64 t.val])) ((((w2.setCell ⟨w.heap.size,0,none⟩ (.int .i64 (t.kind:Nat))).setCell ⟨w.heap.size,1,none⟩ (.int .i64 p)).setCell ⟨w.heap.size,2,none⟩ (.string xt)).setCell ⟨w.heap.size,3,none⟩ (.int .i64 t.val))):=
     zdh (HK.out.drewN _) hk2 (by omega) h1 h2 hR2 (HC1.out.trans hc2) hx2
    have hT2:Slot w2 w.heap.size:=(HT.out.kept ((Kp.refl b _).drewN _) (by omega)).kept hk2 (by omega)
    clear r0 r1 r2 r3 z0 z1 z2 z3
    obtain⟨r0,r1,r2,r3,z0,z1,z2,z3⟩:=hT2.cell
    clear hk2 h1 h2 hR2 hc2 hx2 hT2
    go_wp2
    exact bodyPost_ret (v:=.agg #[.int .i64 (t.kind:Nat),.int .i64 p,.string xt,.int .i64 t.val]) (by simp[results,Tryz.results105,go_sem,r0,r1,r2,r3]) rfl HF.out
   ·go_wp2
    exact⟨rfl,(HK.out.drewN _).trans hk2,Or.inr ⟨⟨d,rfl,hd⟩,HC1.out.trans hn⟩⟩
  ·have hl':Mil.isL s[p]=false:=by simpa using hl
   have HC1:Hid (Mil.cut (s.data.toList.drop p)=if Mil.isD s[p] then Mil.cutNum (s.data.toList.drop p) else Mil.cutSign (s.data.toList.drop p)):=HC.out.trans (by rw[if_neg hl])
   clear hl
   go_wp2_with fail
   refine (zcj _ _).mono ?_
   rintro e w' ⟨rfl,rfl⟩
   by_cases hd:Mil.isD s[p]=true
   ·have HC2:Hid (Mil.cut (s.data.toList.drop p)=Mil.cutNum (s.data.toList.drop p)):=HC1.out.trans (by rw[if_pos hd])
    have HD:=hid hd
    go_wp2_with fail
    refine (cutNumber_any a b s p n k tp x v _ (HL1.out.kept ((Kp.refl b _).drewN _) hb) hb (HR.out.drewN _) hlt HD.out hs).mono ?_
    rintro e w2 ⟨hk2,(⟨t,q,xt,rfl,h1,h2,hR2,hc2,hx2⟩|⟨⟨d,rfl,hd⟩,hn⟩)⟩
    ·have HF:Hid (TokPost (Mil.cut (s.data.toList.drop p)) a b s p n k tp x v w (.returned (.agg #[.int .i64 (t.kind:Nat),.int .i64 p,.string xt,.int .i64 t.val])) ((((w2.setCell ⟨w.heap.size,0,none⟩ (.int .i64 (t.kind:Nat))).setCell ⟨w.heap.size,1,none⟩ (.int .i64 p)).setCell ⟨w.heap.size,2,none⟩ (.string xt)).setCell ⟨w.heap.size,3,none⟩ (.int .i64 t.val))):=
      zdh (HK.out.drewN _) hk2 (by omega) h1 h2 hR2 (HC2.out.trans hc2) hx2
     have hT2:Slot w2 w.heap.size:=(HT.out.kept ((Kp.refl b _).drewN _) (by omega)).kept hk2 (by omega)
     clear r0 r1 r2 r3 z0 z1 z2 z3
     obtain⟨r0,r1,r2,r3,z0,z1,z2,z3⟩:=hT2.cell
     clear hk2 h1 h2 hR2 hc2 hx2 hT2
     go_wp2
     exact bodyPost_ret (v:=.agg #[.int .i64 (t.kind:Nat),.int .i64 p,.string xt,.int .i64 t.val]) (by simp[results,Tryz.results105,go_sem,r0,r1,r2,r3]) rfl HF.out
    ·go_wp2
     exact⟨rfl,(HK.out.drewN _).trans hk2,Or.inr ⟨⟨d,rfl,hd⟩,HC2.out.trans hn⟩⟩
   ·have hd':Mil.isD s[p]=false:=by simpa using hd
    have HC2:Hid (Mil.cut (s.data.toList.drop p)=Mil.cutSign (s.data.toList.drop p)):=HC1.out.trans (by rw[if_neg hd])
    clear hd
    go_wp2_with fail
    refine (cutSign_any a b s p n k tp x v _ (HL1.out.kept ((Kp.refl b _).drewN _) hb) hb (HR.out.drewN _) hlt hs).mono ?_
    rintro e w2 ⟨hk2,(⟨t,q,xt,rfl,h1,h2,hR2,hc2,hx2⟩|⟨⟨d,rfl,hd⟩,hn⟩)⟩
    ·have HF:Hid (TokPost (Mil.cut (s.data.toList.drop p)) a b s p n k tp x v w (.returned (.agg #[.int .i64 (t.kind:Nat),.int .i64 p,.string xt,.int .i64 t.val])) ((((w2.setCell ⟨w.heap.size,0,none⟩ (.int .i64 (t.kind:Nat))).setCell ⟨w.heap.size,1,none⟩ (.int .i64 p)).setCell ⟨w.heap.size,2,none⟩ (.string xt)).setCell ⟨w.heap.size,3,none⟩ (.int .i64 t.val))):=
      zdh (HK.out.drewN _) hk2 (by omega) h1 h2 hR2 (HC2.out.trans hc2) hx2
     have hT2:Slot w2 w.heap.size:=(HT.out.kept ((Kp.refl b _).drewN _) (by omega)).kept hk2 (by omega)
     clear r0 r1 r2 r3 z0 z1 z2 z3
     obtain⟨r0,r1,r2,r3,z0,z1,z2,z3⟩:=hT2.cell
     clear hk2 h1 h2 hR2 hc2 hx2 hT2
     go_wp2
     exact bodyPost_ret (v:=.agg #[.int .i64 (t.kind:Nat),.int .i64 p,.string xt,.int .i64 t.val]) (by simp[results,Tryz.results105,go_sem,r0,r1,r2,r3]) rfl HF.out
    ·go_wp2
     exact⟨rfl,(HK.out.drewN _).trans hk2,Or.inr ⟨⟨d,rfl,hd⟩,HC2.out.trans hn⟩⟩
 ·have hq:((p:Int)==(s.size:Int))=true:=by simp;omega
  go_quiet (fail)
  go_wp2
  refine bodyPost_ret (v:=.agg #[.int .i64 0,.int .i64 p,.string ⟨#[]⟩,.int .i64 0]) (by simp[results,Tryz.results105,go_sem,r0,r1,r2,r3]) rfl ?_
  refine⟨(HK.out.drewN nq).four nlr _ _ _ _,Or.inl ⟨⟨0,[],0⟩,p,⟨#[]⟩,rfl,Nat.le_refl _,hp,(HR.out.drewN nq).four (by omega) _ _ _ _,?_,rfl⟩⟩
  rw[drop_end (by omega)];rfl
end
section
namespace Mil
def mu (s:St):Nat:=s.rest.length+if s.tok.kind=0 then 0 else 1
theorem zcm (f:UInt8->Bool):∀l:Bytes,(l.dropWhile f).length<=l.length
 | []=>Nat.le_refl _
 | c::r=>by
  rw[List.dropWhile_cons]
  have:=zcm f r
  split
  ·simp;omega
  ·exact Nat.le_refl _
theorem cut_short {c:UInt8} {q:Bytes} {t:Tok} {r:Bytes} (h:cut (c::q)=some (t,r)):r.length<=q.length:=by
 have h':(if isL c=true then cutName (c::q) else if isD c=true then cutNum (c::q) else cutSign (c::q))=some (t,r):=h
 by_cases hl:isL c=true
 ·rw[if_pos hl] at h'
  unfold cutName at h'
  split at h'
  ·cases h'
  ·obtain⟨_,rfl⟩:=Prod.mk.inj (osi h')
   rw[List.dropWhile_cons,if_pos (by simp[isN,hl])]
   exact zcm _ _
 ·rw[if_neg hl] at h'
  by_cases hd:isD c=true
  ·rw[if_pos hd] at h'
   unfold cutNum at h'
   split at h'
   ·split at h'
    ·cases h'
    ·obtain⟨_,rfl⟩:=Prod.mk.inj (osi h')
     rw[List.dropWhile_cons,if_pos hd]
     exact zcm _ _
   ·cases h'
  ·rw[if_neg hd] at h'
   unfold cutSign at h'
   split at h'
   ·rename_i x hf
    obtain⟨_,rfl⟩:=Prod.mk.inj (osi h')
    have hm:=List.mem_of_find?_eq_some hf
    have hpos:1<=x.length:=by
     simp only[signs,List.mem_cons,List.not_mem_nil,or_false] at hm
     rcases hm with rfl|rfl|rfl|rfl|rfl|rfl|rfl|rfl|rfl|rfl|rfl|rfl|rfl|rfl|rfl|rfl|rfl <;> decide
    simp;omega
   ·cases h'
theorem zbp:∀(f:Bool) (l:Bytes),(skip f l).length<=l.length
 | true,[]=>Nat.le_refl _
 | false,[]=>Nat.le_refl _
 | true,c::r=>by
  rw[skip]
  have:=zbp true r
  have:=zbp false r
  split <;> simp <;> omega
 | false,c::r=>by
  rw[skip]
  have:=zbp true r
  have:=zbp false r
  split
  ·simp;omega
  ·split
   ·simp;omega
   ·exact Nat.le_refl _
theorem adv_mu {s s1:St} (h:adv s=some s1) (hk:s.tok.kind≠0):mu s1 < mu s:=by
 unfold adv adv' at h
 have hsk:=zbp false s.rest
 unfold mu
 rw[if_neg hk]
 split at h
 ·cases h
 ·rename_i t r hc
  cases hq:skip false s.rest with
  | nil=>
   rw[hq] at hc
   obtain⟨rfl,rfl⟩:=Prod.mk.inj (osi hc)
   rw[if_pos rfl] at h
   obtain rfl:=(osi h).symm
   simp
  | cons c q=>
   rw[hq] at hc hsk
   have hr:=cut_short hc
   simp at hsk
   by_cases h0:t.kind=0
   ·rw[if_pos h0] at h
    obtain rfl:=(osi h).symm
    simp only[h0,if_true]
    omega
   ·rw[if_neg h0] at h
    split at h
    ·cases h
    ·obtain rfl:=(osi h).symm
     simp only[h0,if_false]
     omega
theorem sees_kind3 {s:St} {x:Bytes} (h:sees s x=true):s.tok.kind=3/\s.tok.txt=x:=by
 unfold sees at h
 simpa using h
theorem want_mu {s s1:St} {x:Bytes} (h:want s x=some s1):mu s1 < mu s:=by
 unfold want at h
 by_cases hx:sees s x=true
 ·rw[if_pos hx] at h;exact adv_mu h (by rw[(sees_kind3 hx).1];decide)
 ·rw[if_neg hx] at h;cases h
theorem number_mu {s:St} {lo hi:Int} {x:Nat×St} (h:number lo hi s=some x):mu x.2 < mu s:=by
 unfold number at h
 by_cases hk:s.tok.kind=2/\lo<=s.tok.val/\s.tok.val<=hi
 ·rw[if_pos hk] at h
  obtain⟨s1,h1,rfl⟩:=oms h
  exact adv_mu h1 (by omega)
 ·rw[if_neg hk] at h;cases h
theorem name_mu {s:St} {x:Bytes×St} (h:name s=some x):mu x.2 < mu s:=by
 unfold name at h
 by_cases hk:s.tok.kind=1
 ·rw[if_pos hk] at h
  obtain⟨s1,h1,rfl⟩:=oms h
  exact adv_mu h1 (by omega)
 ·rw[if_neg hk] at h;cases h
theorem literal_mu {s:St} {x:E×St} (h:literal s=some x):mu x.2 < mu s:=by
 unfold literal at h
 by_cases h1:sees s wTrue=true
 ·rw[if_pos h1] at h
  obtain⟨s1,e1,rfl⟩:=oms h
  exact adv_mu e1 (by rw[(sees_kind3 h1).1];decide)
 ·rw[if_neg h1] at h
  by_cases h2:sees s wFalse=true
  ·rw[if_pos h2] at h
   obtain⟨s1,e1,rfl⟩:=oms h
   exact adv_mu e1 (by rw[(sees_kind3 h2).1];decide)
  ·rw[if_neg h2] at h
   obtain⟨y,e1,rfl⟩:=oms h
   exact number_mu e1
theorem constant_mu {s:St} {x:E×St} (h:constant s=some x):mu x.2 < mu s:=by
 unfold constant at h
 by_cases h1:sees s sMinus=true
 ·rw[if_pos h1] at h
  obtain⟨s1,e1,h2⟩:=obs h
  obtain⟨y,e2,rfl⟩:=oms h2
  exact Nat.lt_trans (number_mu e2) (adv_mu e1 (by rw[(sees_kind3 h1).1];decide))
 ·rw[if_neg h1] at h
  exact literal_mu h
end Mil
end
section
namespace Mil
theorem sees_other {s:St} {x y:Bytes} (h:sees s x=true) (hxy:(x==y)=false):sees s y=false:=by
 obtain⟨h1,h2⟩:=sees_kind3 h
 unfold sees
 rw[h2,hxy];simp
theorem za7 {s:St} {x:Bytes} (h:sees s x=true):¬s.tok.kind=1:=by
 rw[(sees_kind3 h).1];decide
end Mil
end
section
namespace Mil
open Go.Deep
def Res (s:St) (l:Nat) (x:E×St):Prop:=wf x.1 false/\StOk x.2/\used s+len x.1 l<=used x.2
def Fine (f:Nat->E->St->Option (E×St)):Prop:=∀t e s x,f t e s=some x->StOk s->(t<=8->Res s t x) /\
 (∀l,t=10+l->0 < l->l < 8->wf e false->wf x.1 false/\StOk x.2/\used s+len x.1 l<=used x.2+len e (leftOf l))
theorem atom_ok {f:Nat->E->St->Option (E×St)} (hf:Fine f) {s:St} {x:E×St} (h:atom f s=some x) (hs:StOk s):Res s 8 x:=by
 have ex:∀{s1:St} {y:E×St},f 0 eNil s1=some y->StOk s1->wf y.1 false/\StOk y.2/\used s1+(toks y.1).length<=used y.2:=fun {s1 y} h1 h2=>by
  obtain⟨a,b,c⟩:=(hf 0 eNil s1 y h1 h2).1 (by omega)
  rw[za2 (Nat.zero_le _)] at c
  exact⟨a,b,c⟩
 unfold atom at h
 by_cases c1:s.tok.kind=1
 ·rw[if_pos c1] at h
  obtain⟨y,h1,rfl⟩:=oms h
  obtain⟨k1,k2⟩:=name_ok h1 hs
  exact⟨Or.inr (Or.inr (Or.inl ⟨rfl,rfl,k1,rfl,rfl⟩)),k2.1,by rw[k2.2];exact Nat.le_refl _⟩
 rw[if_neg c1] at h
 by_cases c2:sees s sOpen=true
 ·rw[if_pos c2] at h
  obtain⟨s1,h1,h⟩:=obs h
  obtain⟨y,h2,h⟩:=obs h
  obtain⟨s3,h3,rfl⟩:=oms h
  have f1:=zbo h1 hs (zap c2).1
  obtain⟨k1,k2,k3⟩:=ex h2 f1.1
  have f3:=za1 h3 k2
  refine⟨k1,f3.1,?_⟩
  show used s+len y.1 8<=used s3
  have:=f1.2
  have:=f3.2
  by_cases ht:tight y.1 < 8
  ·rw[zd8 ht];omega
  ·rw[za2 (by omega)];omega
 rw[if_neg c2] at h
 by_cases c3:sees s wFby=true
 ·rw[if_pos c3] at h
  obtain⟨s1,h1,h⟩:=obs h
  obtain⟨s2,h2,h⟩:=obs h
  obtain⟨c,h3,h⟩:=obs h
  obtain⟨s4,h4,h⟩:=obs h
  obtain⟨y,h5,h⟩:=obs h
  obtain⟨s6,h6,rfl⟩:=oms h
  have f1:=zbo h1 hs (zap c3).1
  have f2:=za1 h2 f1.1
  obtain⟨k1,k2,k3⟩:=constant_ok h3 f2.1
  have f4:=za1 h4 k2
  obtain⟨g1,g2,g3⟩:=ex h5 f4.1
  have f6:=za1 h6 g2
  refine⟨Or.inr (Or.inr (Or.inr (Or.inr (Or.inr (Or.inr (Or.inl ⟨rfl,rfl,rfl,k1,g1⟩)))))),f6.1,?_⟩
  have hl:len (eFby c.1 y.1) 8=(toks c.1).length+(toks y.1).length+4:=by
   rw[za2 (e:=eFby c.1 y.1) (l:=8) (Nat.le_refl 8)]
   show (fix wFby::fix sOpen::(toks c.1++fix sComma::(toks y.1++[fix sShut]))).length=_
   simp;omega
  show used s+len (eFby c.1 y.1) 8<=used s6
  have:=f1.2;have:=f2.2;have:=f4.2;have:=f6.2
  omega
 rw[if_neg c3] at h
 by_cases c4:sees s wUnder=true
 ·rw[if_pos c4] at h
  obtain⟨s1,h1,h⟩:=obs h
  obtain⟨s2,h2,h⟩:=obs h
  obtain⟨y,h3,h⟩:=obs h
  obtain⟨s4,h4,h⟩:=obs h
  obtain⟨k,h5,h⟩:=obs h
  obtain⟨s6,h6,rfl⟩:=oms h
  have f1:=zbo h1 hs (zap c4).1
  have f2:=za1 h2 f1.1
  obtain⟨g1,g2,g3⟩:=ex h3 f2.1
  have f4:=za1 h4 g2
  obtain⟨b1,b2,f5⟩:=zcx (by omega) h5 f4.1
  have f6:=za1 h6 f5.1
  refine⟨Or.inr (Or.inr (Or.inr (Or.inr (Or.inr (Or.inr (Or.inr (Or.inl ⟨rfl,rfl,by omega,by omega,g1,rfl⟩))))))),f6.1,?_⟩
  have hl:len (eUnder y.1 k.1) 8=(toks y.1).length+5:=by
   rw[za2 (e:=eUnder y.1 k.1) (l:=8) (Nat.le_refl 8)]
   show (fix wUnder::fix sOpen::(toks y.1++[fix sComma,num k.1,fix sShut])).length=_
   simp
  show used s+len (eUnder y.1 k.1) 8<=used s6
  have:=f1.2;have:=f2.2;have:=f4.2;have:=f5.2;have:=f6.2
  omega
 rw[if_neg c4] at h
 by_cases c5:sees s wHold=true
 ·rw[if_pos c5] at h
  obtain⟨s1,h1,h⟩:=obs h
  obtain⟨s2,h2,h⟩:=obs h
  obtain⟨c,h3,h⟩:=obs h
  obtain⟨s4,h4,h⟩:=obs h
  obtain⟨y,h5,h⟩:=obs h
  obtain⟨s6,h6,h⟩:=obs h
  obtain⟨k,h7,h⟩:=obs h
  obtain⟨s8,h8,rfl⟩:=oms h
  have f1:=zbo h1 hs (zap c5).1
  have f2:=za1 h2 f1.1
  obtain⟨k1,k2,k3⟩:=constant_ok h3 f2.1
  have f4:=za1 h4 k2
  obtain⟨g1,g2,g3⟩:=ex h5 f4.1
  have f6:=za1 h6 g2
  obtain⟨b1,b2,f7⟩:=zcx (by omega) h7 f6.1
  have f8:=za1 h8 f7.1
  refine⟨Or.inr (Or.inr (Or.inr (Or.inr (Or.inr (Or.inr (Or.inr (Or.inr (Or.inl ⟨rfl,rfl,by omega,by omega,k1,g1⟩)))))))),f8.1,?_⟩
  have hl:len (eHold c.1 y.1 k.1) 8=(toks c.1).length+(toks y.1).length+6:=by
   rw[za2 (e:=eHold c.1 y.1 k.1) (l:=8) (Nat.le_refl 8)]
   show (fix wHold::fix sOpen::(toks c.1++fix sComma::(toks y.1++[fix sComma,num k.1,fix sShut]))).length=_
   simp;omega
  show used s+len (eHold c.1 y.1 k.1) 8<=used s8
  have:=f1.2;have:=f2.2;have:=f4.2;have:=f6.2;have:=f7.2;have:=f8.2
  omega
 rw[if_neg c5] at h
 by_cases c6:(sees s wMin || sees s wMax)=true
 ·rw[if_pos c6] at h
  obtain⟨s1,h1,h⟩:=obs h
  obtain⟨s2,h2,h⟩:=obs h
  obtain⟨y,h3,h⟩:=obs h
  obtain⟨s4,h4,h⟩:=obs h
  obtain⟨z,h5,h⟩:=obs h
  obtain⟨s6,h6,rfl⟩:=oms h
  have hx:s.tok.kind≠0/\(s.tok.txt=wMin\/s.tok.txt=wMax):=by
   rcases Bool.or_eq_true_iff.1 c6 with c|c
   ·exact⟨(zap c).1,Or.inl (zap c).2⟩
   ·exact⟨(zap c).1,Or.inr (zap c).2⟩
  have f1:=zbo h1 hs hx.1
  have f2:=za1 h2 f1.1
  obtain⟨g1,g2,g3⟩:=ex h3 f2.1
  have f4:=za1 h4 g2
  obtain⟨k1,k2,k3⟩:=ex h5 f4.1
  have f6:=za1 h6 k2
  refine⟨Or.inr (Or.inr (Or.inr (Or.inr (Or.inr (Or.inr (Or.inr (Or.inr (Or.inr ⟨rfl,rfl,hx.2,g1,k1⟩)))))))),f6.1,?_⟩
  have hl:len (eLeast s.tok.txt y.1 z.1) 8=(toks y.1).length+(toks z.1).length+4:=by
   rw[za2 (e:=eLeast s.tok.txt y.1 z.1) (l:=8) (Nat.le_refl 8)]
   show (fix s.tok.txt::fix sOpen::(toks y.1++fix sComma::(toks z.1++[fix sShut]))).length=_
   simp;omega
  show used s+len (eLeast s.tok.txt y.1 z.1) 8<=used s6
  have:=f1.2;have:=f2.2;have:=f4.2;have:=f6.2
  omega
 rw[if_neg c6] at h
 obtain⟨k1,k2,k3⟩:=literal_ok h hs
 exact⟨wf_const k1,k3.1,by rw[k2,k3.2];exact Nat.le_refl _⟩
theorem step_ok {f:Nat->E->St->Option (E×St)} (hf:Fine f):Fine (step f):=by
 intro t e s x h hs
 have ex:∀{s1:St} {y:E×St},f 0 eNil s1=some y->StOk s1->wf y.1 false/\StOk y.2/\used s1+(toks y.1).length<=used y.2:=fun {s1 y} h1 h2=>by
  obtain⟨a,b,c⟩:=(hf 0 eNil s1 y h1 h2).1 (by omega)
  rw[za2 (Nat.zero_le _)] at c
  exact⟨a,b,c⟩
 unfold step at h
 by_cases t0:t=0
 ·rw[if_pos t0] at h
  subst t0
  refine⟨fun _=>?_,fun l hl=>by omega⟩
  by_cases c1:sees s wIf=true
  ·rw[if_pos c1] at h
   obtain⟨s1,h1,h⟩:=obs h
   obtain⟨a,h2,h⟩:=obs h
   obtain⟨s3,h3,h⟩:=obs h
   obtain⟨b,h4,h⟩:=obs h
   obtain⟨s5,h5,h⟩:=obs h
   obtain⟨c,h6,rfl⟩:=oms h
   have f1:=zbo h1 hs (zap c1).1
   obtain⟨a1,a2,a3⟩:=ex h2 f1.1
   have f3:=za1 h3 a2
   obtain⟨b1,b2,b3⟩:=ex h4 f3.1
   have f5:=za1 h5 b2
   obtain⟨d1,d2,d3⟩:=ex h6 f5.1
   refine⟨Or.inr (Or.inr (Or.inr (Or.inr (Or.inr (Or.inl ⟨rfl,rfl,rfl,a1,rfl,rfl,rfl,b1,d1⟩))))),d2,?_⟩
   have hl:len (eIf a.1 b.1 c.1) 0=(toks a.1).length+(toks b.1).length+(toks c.1).length+3:=by
    rw[za2 (Nat.zero_le _)]
    show (fix wIf::(toks a.1++fix wThen::(toks b.1++fix wElse::toks c.1))).length=_
    simp;omega
   show used s+len (eIf a.1 b.1 c.1) 0<=used c.2
   have:=f1.2;have:=f3.2;have:=f5.2
   omega
  ·rw[if_neg c1] at h
   obtain⟨k1,k2,k3⟩:=(hf 1 eNil s x h hs).1 (by omega)
   exact⟨k1,k2,by have:=len_mono x.1 (Nat.zero_le 1);omega⟩
 rw[if_neg t0] at h
 by_cases t8:t=8
 ·rw[if_pos t8] at h
  subst t8
  exact⟨fun _=>atom_ok hf h hs,fun l hl=>by omega⟩
 rw[if_neg t8] at h
 by_cases tl:t < 8
 ·rw[if_pos tl] at h
  refine⟨fun _=>?_,fun l hl=>by omega⟩
  by_cases c1:(t=3/\sees s wNot=true)\/(t=7/\sees s sMinus=true)
  ·rw[if_pos c1] at h
   obtain⟨s1,h1,h⟩:=obs h
   obtain⟨a,h2,rfl⟩:=oms h
   have hk:s.tok.kind≠0/\(s.tok.txt=wNot\/s.tok.txt=sMinus)/\preLvl s.tok.txt=t:=by
    rcases c1 with ⟨rfl,c⟩|⟨rfl,c⟩
    ·exact⟨(zap c).1,Or.inl (zap c).2,by rw[(zap c).2];decide⟩
    ·exact⟨(zap c).1,Or.inr (zap c).2,by rw[(zap c).2];decide⟩
   have f1:=zbo h1 hs hk.1
   obtain⟨a1,a2,a3⟩:=(hf t eNil s1 a h2 f1.1).1 (by omega)
   refine⟨Or.inr (Or.inr (Or.inr (Or.inl ⟨rfl,rfl,hk.2.1,a1,rfl⟩))),a2,?_⟩
   have hl:len (ePre s.tok.txt a.1) t=len a.1 t+1:=by
    rw[za2 (by rw[tight_pre,hk.2.2];exact Nat.le_refl _)]
    show (fix s.tok.txt::brackT (tight a.1) (preLvl s.tok.txt) (toks a.1)).length=_
    rw[hk.2.2];rfl
   show used s+len (ePre s.tok.txt a.1) t<=used a.2
   have:=f1.2
   omega
  ·rw[if_neg c1] at h
   obtain⟨a,h1,h2⟩:=obs h
   obtain⟨a1,a2,a3⟩:=(hf (t+1) eNil s a h1 hs).1 (by omega)
   obtain⟨b1,b2,b3⟩:=(hf (10+t) a.1 a.2 x h2 a2).2 t rfl (by omega) tl a1
   refine⟨b1,b2,?_⟩
   have hle:leftOf t<=t+1:=by unfold leftOf;split <;> omega
   have:=len_mono a.1 hle
   omega
 rw[if_neg tl] at h
 refine⟨fun h8=>by omega,fun l hl l0 l8 he=>?_⟩
 have e10:t - 10=l:=by omega
 rw[e10] at h
 by_cases c1:opAt s=l
 ·rw[if_pos c1] at h
  obtain⟨s1,h1,h⟩:=obs h
  obtain⟨b,h2,h⟩:=obs h
  have hk:s.tok.kind=3/\tightOf s.tok.txt=l:=by
   unfold opAt at c1
   by_cases k3:s.tok.kind=3
   ·rw[if_pos k3] at c1;exact⟨k3,c1⟩
   ·rw[if_neg k3] at c1;omega
  have f1:=zbo h1 hs (by omega)
  obtain⟨b1,b2,b3⟩:=(hf (l+1) eNil s1 b h2 f1.1).1 (by omega)
  have hw:wf (eTwo s.tok.txt e b.1) false:=Or.inr (Or.inr (Or.inr (Or.inr (Or.inl ⟨rfl,rfl,by omega,he,b1⟩))))
  have hlen:(toks (eTwo s.tok.txt e b.1)).length=len e (leftOf l)+len b.1 (l+1)+1:=by
   show (brackT (tight e) (leftOf (tightOf s.tok.txt)) (toks e)++fix s.tok.txt::brackT (tight b.1) (tightOf s.tok.txt+1) (toks b.1)).length=_
   rw[hk.2];simp[len];omega
  have:=f1.2
  by_cases c4:t=14
  ·rw[if_pos c4] at h
   obtain rfl:=osi h
   refine⟨hw,b2,?_⟩
   show used s+len (eTwo s.tok.txt e b.1) l<=used b.2+len e (leftOf l)
   rw[za2 (by rw[tight_two];omega)]
   omega
  ·rw[if_neg c4] at h
   obtain⟨d1,d2,d3⟩:=(hf t _ b.2 x h b2).2 l hl l0 l8 hw
   refine⟨d1,d2,?_⟩
   have e1:leftOf l=l:=by unfold leftOf;rw[if_neg (by omega)]
   rw[e1] at d3 hlen ⊢
   rw[za2 (e:=eTwo s.tok.txt e b.1) (by rw[tight_two];omega)] at d3
   omega
 ·rw[if_neg c1] at h
  obtain rfl:=osi h
  refine⟨he,hs,?_⟩
  show used s+len e l<=used s+len e (leftOf l)
  have hle:l<=leftOf l:=by unfold leftOf;split <;> omega
  have:=len_mono e hle
  omega
theorem px_ok:∀n,Fine (px n)
 | 0=>fun _ _ _ _ h=>by cases h
 | n+1=>step_ok (px_ok n)
end Mil
end
section
namespace Mil
open Go.Deep
def moreToks:List Bytes->List Tok
 | []=>[]
 | y::r=>fix sComma::nam y::moreToks r
def itemToks (i:It):List Tok:=
 if i.kind=1 then [fix wInput,nam i.nm,fix sColon,fix (tyText i.ty),fix wEvery,num i.every,fix sSemi]
 else if i.kind=2 then fix wOutput::nam (i.names.headD [])::(moreToks i.names.tail++[fix sSemi])
 else nam i.nm::fix sColon::fix (tyText i.ty)::fix sIs::(toks i.body++[fix sSemi])
def ItOk (i:It):Prop:=
 (∃x t k,i=⟨1,x,t,k,[],eNil⟩/\NameOk x/\(t=0\/t=1)/\1<=k/\k<=1000000)\/(∃x r,i=⟨2,[],0,0,x::r,eNil⟩/\NameOk x/\∀y,y∈r->NameOk y) \/
 (∃x t e,i=⟨3,x,t,0,[],e⟩/\NameOk x/\(t=0\/t=1)/\wf e false)
theorem moreToks_len:∀l:List Bytes,(moreToks l).length=2*l.length
 | []=>rfl
 | _::r=>by rw[moreToks,List.length_cons,List.length_cons,moreToks_len r,List.length_cons];omega
theorem pnames_ok:∀(n:Nat) (acc:List Bytes) (s:St) (x:List Bytes×St),pnames n acc s=some x->StOk s->∃more,x.1=acc++more/\(∀y,y∈more->NameOk y)/\StOk x.2/\used s+2*more.length<=used x.2
 | 0,_,_,_,h,_=>by cases h
 | n+1,acc,s,x,h,hs=>by
  rw[pnames] at h
  by_cases c:sees s sComma=true
  ·rw[if_pos c] at h
   obtain⟨s1,h1,h⟩:=obs h
   obtain⟨y,h2,h⟩:=obs h
   have f1:=zbo h1 hs (zap c).1
   obtain⟨k1,f2⟩:=name_ok h2 f1.1
   obtain⟨more,e1,e2,e3,e4⟩:=pnames_ok n _ _ x h f2.1
   refine⟨y.1::more,by rw[e1];simp,?_,e3,?_⟩
   ·intro z hz
    rcases List.mem_cons.1 hz with rfl|hz
    ·exact k1
    ·exact e2 z hz
   ·have:=f1.2;have:=f2.2
    simp;omega
  ·rw[if_neg c] at h
   obtain rfl:=osi h
   exact⟨[],by simp,(fun y hy=>by cases hy),hs,by simp⟩
theorem pitem_ok {n:Nat} {s:St} {x:It×St} (h:pitem n s=some x) (hs:StOk s):ItOk x.1/\StOk x.2/\used s+(itemToks x.1).length<=used x.2:=by
 unfold pitem at h
 by_cases c1:sees s wInput=true
 ·rw[if_pos c1] at h
  obtain⟨s1,h1,h⟩:=obs h
  obtain⟨y,h2,h⟩:=obs h
  obtain⟨s3,h3,h⟩:=obs h
  obtain⟨t,h4,h⟩:=obs h
  obtain⟨s5,h5,h⟩:=obs h
  obtain⟨k,h6,h⟩:=obs h
  obtain⟨s7,h7,rfl⟩:=oms h
  have f1:=zbo h1 hs (zap c1).1
  obtain⟨n1,f2⟩:=name_ok h2 f1.1
  have f3:=za1 h3 f2.1
  obtain⟨t1,f4⟩:=ftype_ok h4 f3.1
  have f5:=za1 h5 f4.1
  obtain⟨b1,b2,f6⟩:=zcx (by omega) h6 f5.1
  have f7:=za1 h7 f6.1
  refine⟨Or.inl ⟨y.1,t.1,k.1,rfl,n1,t1,by omega,by omega⟩,f7.1,?_⟩
  have:=f1.2;have:=f2.2;have:=f3.2;have:=f4.2;have:=f5.2;have:=f6.2;have:=f7.2
  show used s+7<=used s7
  omega
 rw[if_neg c1] at h
 by_cases c2:sees s wOutput=true
 ·rw[if_pos c2] at h
  obtain⟨s1,h1,h⟩:=obs h
  obtain⟨y,h2,h⟩:=obs h
  obtain⟨l,h3,h⟩:=obs h
  obtain⟨s4,h4,rfl⟩:=oms h
  have f1:=zbo h1 hs (zap c2).1
  obtain⟨n1,f2⟩:=name_ok h2 f1.1
  obtain⟨more,e1,e2,e3,e4⟩:=pnames_ok n _ _ l h3 f2.1
  have f4:=za1 h4 e3
  refine⟨Or.inr (Or.inl ⟨y.1,more,by rw[e1];rfl,n1,e2⟩),f4.1,?_⟩
  have:=f1.2;have:=f2.2;have:=f4.2
  have hl:(itemToks ⟨2,[],0,0,l.1,eNil⟩).length=2*more.length+3:=by
   rw[e1]
   show (fix wOutput::nam y.1::(moreToks more++[fix sSemi])).length=_
   simp[moreToks_len]
  show used s+(itemToks ⟨2,[],0,0,l.1,eNil⟩).length<=used s4
  omega
 rw[if_neg c2] at h
 obtain⟨y,h1,h⟩:=obs h
 obtain⟨s2,h2,h⟩:=obs h
 obtain⟨t,h3,h⟩:=obs h
 obtain⟨s4,h4,h⟩:=obs h
 obtain⟨e,h5,h⟩:=obs h
 obtain⟨s6,h6,rfl⟩:=oms h
 obtain⟨n1,f1⟩:=name_ok h1 hs
 have f2:=za1 h2 f1.1
 obtain⟨t1,f3⟩:=ftype_ok h3 f2.1
 have f4:=za1 h4 f3.1
 obtain⟨e1,e2,e3⟩:=(px_ok n 0 eNil s4 e h5 f4.1).1 (by omega)
 rw[za2 (Nat.zero_le _)] at e3
 have f6:=za1 h6 e2
 refine⟨Or.inr (Or.inr ⟨y.1,t.1,e.1,rfl,n1,t1,e1⟩),f6.1,?_⟩
 have:=f1.2;have:=f2.2;have:=f3.2;have:=f4.2;have:=f6.2
 have hl:(itemToks ⟨3,y.1,t.1,0,[],e.1⟩).length=(toks e.1).length+5:=by
  show (nam y.1::fix sColon::fix (tyText t.1)::fix sIs::(toks e.1++[fix sSemi])).length=_
  simp
 show used s+(itemToks ⟨3,y.1,t.1,0,[],e.1⟩).length<=used s6
 omega
def allToks (l:List It):List Tok:=(l.map itemToks).flatten
theorem pprog_ok:∀(n:Nat) (acc:List It) (s:St) (l:List It),pprog n acc s=some l->StOk s->acc.length<=60->∃more,l=acc++more/\(∀i,i∈more->ItOk i)/\l.length<=60/\used s+(allToks more).length<=600
 | 0,_,_,_,h,_,_=>by cases h
 | n+1,acc,s,l,h,hs,ha=>by
  rw[pprog] at h
  by_cases c0:s.tok.kind=0
  ·rw[if_pos c0] at h
   obtain rfl:=osi h
   refine⟨[],by simp,(fun i hi=>by cases hi),ha,?_⟩
   unfold used;rw[if_pos c0]
   exact hs.2.2
  ·rw[if_neg c0] at h
   by_cases c1:acc.length=60
   ·rw[if_pos c1] at h;cases h
   ·rw[if_neg c1] at h
    obtain⟨x,h1,h2⟩:=obs h
    obtain⟨k1,k2,k3⟩:=pitem_ok h1 hs
    obtain⟨more,e1,e2,e3,e4⟩:=pprog_ok n _ _ l h2 k2 (by simp;omega)
    refine⟨x.1::more,by rw[e1];simp,?_,e3,?_⟩
    ·intro i hi
     rcases List.mem_cons.1 hi with rfl|hi
     ·exact k1
     ·exact e2 i hi
    ·have:(allToks (x.1::more)).length=(itemToks x.1).length+(allToks more).length:=by simp[allToks]
     omega
theorem parsed_ok {b:Bytes} {l:List It} (h:Parsed b l):(∀i,i∈l->ItOk i)/\l.length<=60/\(allToks l).length<=600:=by
 obtain⟨n,h⟩:=h
 unfold parse at h
 by_cases c:4000 < b.length
 ·rw[if_pos c] at h;cases h
 ·rw[if_neg c] at h
  obtain⟨s,h1,h2⟩:=obs h
  obtain⟨k1,k2⟩:=adv'_ok (Nat.zero_le _) h1
  obtain⟨more,e1,e2,e3,e4⟩:=pprog_ok n [] s l h2 k1 (by simp)
  have e5:l=more:=by simpa using e1
  rw[<-e5] at e2 e4
  exact⟨e2,e3,by omega⟩
theorem pnames_le:∀(n m:Nat) (acc:List Bytes) (s:St) (x:List Bytes×St),n<=m->pnames n acc s=some x->pnames m acc s=some x
 | 0,_,_,_,_,_,h=>by cases h
 | n+1,0,_,_,_,hm,_=>by omega
 | n+1,m+1,acc,s,x,hm,h=>by
  rw[pnames] at h ⊢
  by_cases c:sees s sComma=true
  ·rw[if_pos c] at h ⊢
   obtain⟨s1,h1,h⟩:=obs h
   obtain⟨y,h2,h⟩:=obs h
   rw[h1,Option.bind_some,h2,Option.bind_some]
   exact pnames_le n m _ _ x (by omega) h
  ·rw[if_neg c] at h ⊢;exact h
theorem pitem_le {n m:Nat} (hm:n<=m) {s:St} {x:It×St} (h:pitem n s=some x):pitem m s=some x:=by
 unfold pitem at h ⊢
 by_cases c1:sees s wInput=true
 ·rw[if_pos c1] at h ⊢;exact h
 rw[if_neg c1] at h ⊢
 by_cases c2:sees s wOutput=true
 ·rw[if_pos c2] at h ⊢
  refine (Imp.refl _).bind (fun _=>(Imp.refl _).bind (fun _=>Imp.bind (fun y hy=>pnames_le n m _ _ y hm hy) (fun _=>Imp.refl _))) x h
 rw[if_neg c2] at h ⊢
 refine (Imp.refl _).bind (fun _=>(Imp.refl _).bind (fun _=>(Imp.refl _).bind (fun _=>(Imp.refl _).bind (fun _=>Imp.bind (fun y hy=>px_le hm hy) (fun _=>Imp.refl _))))) x h
theorem pprog_le:∀(n m:Nat) (acc:List It) (s:St) (l:List It),n<=m->pprog n acc s=some l->pprog m acc s=some l
 | 0,_,_,_,_,_,h=>by cases h
 | n+1,0,_,_,_,hm,_=>by omega
 | n+1,m+1,acc,s,l,hm,h=>by
  rw[pprog] at h ⊢
  by_cases c0:s.tok.kind=0
  ·rw[if_pos c0] at h ⊢;exact h
  ·rw[if_neg c0] at h ⊢
   by_cases c1:acc.length=60
   ·rw[if_pos c1] at h;cases h
   ·rw[if_neg c1] at h ⊢
    obtain⟨x,h1,h2⟩:=obs h
    rw[pitem_le (show n<=m by omega) h1,Option.bind_some]
    exact pprog_le n m _ _ l (by omega) h2
end Mil
end
end Go.Proofs.YtjehljjlcifndaaGreatDoor
