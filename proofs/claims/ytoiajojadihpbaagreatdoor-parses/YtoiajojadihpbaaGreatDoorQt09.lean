import Derived.Test.YtoiajojadihpbaaGreatDoorQt08
import Derived.Test.YtoiajojadihpbaaGreatDoorQt05
namespace Go.Proofs.YtoiajojadihpbaaGreatDoor
set_option maxHeartbeats 8000000
set_option maxRecDepth 100000
section
open Go.RowKit
def opName (j:Nat):Mil.Bytes:=(opsTab.getD j ([],0)).1
def opBind (j:Nat):Int:=(opsTab.getD j ([],0)).2
theorem lt14 {i:Nat} (h:i < 14):i=0\/i=1\/i=2\/i=3\/i=4\/i=5\/i=6\/i=7\/i=8\/i=9\/i=10\/i=11\/i=12\/i=13:=by omega
theorem index_ops (j:Nat) (h:j < 14) (w:World):(Instr.index 311 (.agg opCells) (.int .i64 j)).run Tryz.prog w=.ok (.agg #[.string (bs (opName j)),.int .i64 (opBind j)]) w:=by
 rcases lt14 h with rfl|rfl|rfl|rfl|rfl|rfl|rfl|rfl|rfl|rfl|rfl|rfl|rfl|rfl <;> kernel_rfl
theorem op_tight (j:Nat) (h:j < 14):Mil.tightOf (opName j)≠9/\((Mil.tightOf (opName j):Nat):Int)=opBind j:=by
 rcases lt14 h with rfl|rfl|rfl|rfl|rfl|rfl|rfl|rfl|rfl|rfl|rfl|rfl|rfl|rfl <;> decide
theorem op_none {x:Mil.Bytes} (h:∀m,m < 14->opName m≠x):Mil.tightOf x=9:=by
 have g:∀(m:Nat) (y:Mil.Bytes),m < 14->opName m=y->x≠y:=fun m y hm e he=>h m hm (e.trans he.symm)
 unfold Mil.tightOf
 rw[if_neg,if_neg,if_neg,if_neg,if_neg]
 ·rintro (e|e|e)
  ·exact g 11 _ (by decide) rfl e
  ·exact g 12 _ (by decide) rfl e
  ·exact g 13 _ (by decide) rfl e
 ·rintro (e|e)
  ·exact g 9 _ (by decide) rfl e
  ·exact g 10 _ (by decide) rfl e
 ·rintro (e|e|e|e|e|e)
  ·exact g 3 _ (by decide) rfl e
  ·exact g 4 _ (by decide) rfl e
  ·exact g 5 _ (by decide) rfl e
  ·exact g 6 _ (by decide) rfl e
  ·exact g 7 _ (by decide) rfl e
  ·exact g 8 _ (by decide) rfl e
 ·exact fun e=>g 2 _ (by decide) rfl e
 ·rintro (e|e)
  ·exact g 0 _ (by decide) rfl e
  ·exact g 1 _ (by decide) rfl e
def tightGo (x:Mil.Bytes):Int:=if Mil.tightOf x=9 then -1 else (Mil.tightOf x:Nat)
theorem tightnessOf_any (a:Nat->Addr) (x:ByteArray) (w:World) (L:Laid a w) :
  Calls Tryz.prog 183 #[.string x] w fun e w'=>e=.returned (.int .i64 (tightGo x.data.toList))/\Below w.heap.size w w':=by
 obtain⟨tq,ho⟩:=L.ops
 have hix:=fun (j:Nat) (h:j < 14) (w:World)=>index_ops j h w
 clear L
 go_enter Tryz.func183,Tryz.ntmps183
 go_wp2_with (refine wpList_load_row rfl 311 _ rfl 23 rfl tq _ (0,0) _ ho Tryz.underlying311 rfl (by kernel_rfl) ?_)
 clear ho
 go_loopg [6] 14 (fun g s6 wr=>∃j:Nat,j<=14/\s6=.int .i64 j/\g=14 - j/\Hid (Below w.heap.size w wr)/\Hid (∀m,m < j->opName m≠x.data.toList))
 case atStart=>exact⟨0,by decide,rfl,rfl,Below.refl _ _,fun m hm=>by omega⟩
 case round=>
  obtain⟨j,hj,rfl,hg,HB,HW⟩:=hrel
  have HG:=hid hg
  clear hg
  by_cases hlt:j < 14
  ·have hi:=hix j hlt
   by_cases heq:opName j=x.data.toList
   ·have hbq:((bs (opName j)).toList==x.toList)=true:=by rw[Lib.toList_data,Lib.toList_data,bs_list,heq];simp
    have HE:=hid heq
    clear heq
    go_wp2
    go_ret
    refine⟨?_,HB.out.alloc HB.out.size _⟩
    have:=op_tight j hlt
    show Ending.returned (.int .i64 (opBind j))=_
    rw[<-HE.out,tightGo,if_neg this.1,this.2]
   ·have hbq:((bs (opName j)).toList==x.toList)=false:=by rw[Lib.toList_data,Lib.toList_data,bs_list];simpa using heq
    have HE:=hid heq
    clear heq
    go_wp2
    go_roundg (14 - (j+1))
    case measure=>have:=HG.out;omega
    case rel=>
     refine⟨j+1,by omega,by go_num,rfl,HB.out.alloc HB.out.size _,?_⟩
     intro m hm
     rcases Nat.lt_or_ge m j with h|h
     ·exact HW.out m h
     ·have:m=j:=by omega
      rw[this];exact HE.out
  ·go_wp2
   go_ret
   refine⟨?_,HB.out⟩
   have:=op_none (x:=x.data.toList) (fun m hm=>HW.out m (by omega))
   rw[tightGo,if_pos this];rfl
theorem seesOperator_any (a:Nat->Addr) (b:Nat) (s:ByteArray) (st:Mil.St) (l:Nat) (h1:1<=l) (h8:l<=8) (w:World) (L:Laid a w) (h:RdS w b s st) :
  Calls Tryz.prog 172 #[.pointer (some ⟨b,0,none⟩),.int .i64 l] w fun e w'=>e=.returned (.bool (decide (Mil.opAt st=l)))/\Below w.heap.size w w':=by
 have HL:=hid L
 obtain⟨p,tp,x,hp,hR,hr,hx,hn⟩:=h
 have c3:=hR.c3
 have c5:=hR.c5
 have HX:=hid hx
 clear hR hr hx L
 by_cases h3:st.tok.kind=3
 ·have hb:(((st.tok.kind:Nat):Int)==3)=true:=by simp;omega
  have HO:Hid (Mil.opAt st=Mil.tightOf st.tok.txt):=by unfold Mil.opAt;rw[if_pos h3];rfl
  clear h3
  go_enter Tryz.func172,Tryz.ntmps172
  go_wp2_with fail
  refine (tightnessOf_any a x w HL.out).mono ?_
  rintro e w1 ⟨rfl,hb1⟩
  go_wp2
  go_ret
  refine⟨ret_bool ?_,hb1⟩
  rw[HO.out,HX.out,tightGo,Bool.eq_iff_iff]
  by_cases h9:Mil.tightOf st.tok.txt=9
  ·rw[if_pos h9];simp;omega
  ·rw[if_neg h9];simp;omega
 ·have hb:(((st.tok.kind:Nat):Int)==3)=false:=by simp;omega
  have HO:Hid (Mil.opAt st=9):=by unfold Mil.opAt;rw[if_neg h3];rfl
  clear h3
  go_enter Tryz.func172,Tryz.ntmps172
  go_wp2
  go_ret
  refine⟨ret_bool ?_,Below.refl _ _⟩
  rw[HO.out];symm;rw[decide_eq_false_iff_not];omega
def tyAt (j:Nat):Mil.Bytes:=[Mil.wInt,Mil.wBool].getD j []
theorem lt2 {j:Nat} (h:j < 2):j=0\/j=1:=by omega
theorem index_types (j:Nat) (h:j < 2) (w:World):(Instr.index 273 (.agg (strCells [Mil.wInt,Mil.wBool])) (.int .i64 j)).run Tryz.prog w=.ok (.string (bs (tyAt j))) w:=by
 rcases lt2 h with rfl|rfl <;> kernel_rfl
theorem ftype_at {st:Mil.St} (j:Nat) (hj:j < 2) (hy:Mil.sees st (tyAt j)=true) (hn:∀m,m < j->Mil.sees st (tyAt m)=false):Mil.ftype st=(Mil.adv st).map fun s1=>(j,s1):=by
 rcases lt2 hj with rfl|rfl
 ·unfold Mil.ftype
  rw[if_pos (show Mil.sees st Mil.wInt=true from hy)]
 ·unfold Mil.ftype
  have h0:Mil.sees st Mil.wInt=false:=hn 0 (by decide)
  rw[h0,if_neg (by decide),if_pos (show Mil.sees st Mil.wBool=true from hy)]
theorem ftypeZ_at (N:Nat) {st:Mil.St} (j:Nat) (hj:j < 2) (hy:Mil.sees st (tyAt j)=true) (hn:∀m,m < j->Mil.sees st (tyAt m)=false):Mil.ftypeZ N st=(Mil.advZ N st).map fun s1=>(j,s1):=by
 rcases lt2 hj with rfl|rfl
 ·unfold Mil.ftypeZ
  rw[if_pos (show Mil.sees st Mil.wInt=true from hy)]
 ·unfold Mil.ftypeZ
  have h0:Mil.sees st Mil.wInt=false:=hn 0 (by decide)
  rw[h0,if_neg (by decide),if_pos (show Mil.sees st Mil.wBool=true from hy)]
theorem ftype_none {N:Nat} {st:Mil.St} (hn:∀m,m < 2->Mil.sees st (tyAt m)=false):Mil.ftypeZ N st=.bad 3 (place N st):=by
 unfold Mil.ftypeZ
 have h0:Mil.sees st Mil.wInt=false:=hn 0 (by decide)
 have h1:Mil.sees st Mil.wBool=false:=hn 1 (by decide)
 rw[h0,h1,if_neg (by decide),if_neg (by decide)]
 rfl
theorem flowType_any (a:Nat->Addr) (b:Nat) (s:ByteArray) (st:Mil.St) (w:World) (L:Laid a w) (hb:27<=b) (h:RdS w b s st) (hs:s.size<=4000) :
  Calls Tryz.prog 156 #[.pointer (some ⟨b,0,none⟩)] w (NuPost (Mil.ftype st) (Mil.ftypeZ s.size st) a b s w):=by
 have H:=hid h
 have HL:=hid L
 obtain⟨tq,ho⟩:=L.types
 have hix:=fun (j:Nat) (h:j < 2) (w:World)=>index_types j h w
 clear h L
 go_enter Tryz.func156,Tryz.ntmps156
 go_wp2_with (refine wpList_load_row rfl 273 _ rfl 20 rfl tq _ (0,0) _ ho Tryz.underlying273 rfl (by kernel_rfl) ?_)
 clear ho
 go_loopg [6] 2 (fun g s6 wr=>∃j:Nat,j<=2/\s6=.int .i64 j/\g=2 - j/\wr=w/\Hid (∀m,m < j->Mil.sees st (tyAt m)=false))
 case atStart=>exact⟨0,by decide,rfl,rfl,rfl,fun m hm=>by omega⟩
 case round=>
  obtain⟨j,hj,rfl,hg,rfl,HW⟩:=hrel
  have HG:=hid hg
  clear hg
  by_cases hlt:j < 2
  ·have hi:=hix j hlt
   by_cases heq:Mil.sees st (tyAt j)=true
   ·have HM:Hid (Mil.ftype st=(Mil.adv st).map fun s1=>(j,s1)):=ftype_at j hlt heq HW.out
    have HZ:Hid (Mil.ftypeZ s.size st=(Mil.advZ s.size st).map fun s1=>(j,s1)):=ftypeZ_at s.size j hlt heq HW.out
    have HE:=hid heq
    clear heq
    go_wp2_with fail
    refine (takes_yes a b s st (bs (tyAt j)) _ HL.out hb H.out hs HE.out).mono ?_
    rintro e w1 ⟨hk,(⟨st',rfl,h1,h2⟩|⟨k,at_,hkk,d,rfl,hd,hno⟩)⟩
    ·go_wp2
     go_ret
     exact⟨hk,Or.inl ⟨j,st',rfl,by rw[HM.out,h1];rfl,h2⟩⟩
    ·go_wp2
     exact⟨rfl,hk,Or.inr ⟨k,at_,hkk,d,rfl,hd,by rw[HZ.out,hno];rfl⟩⟩
   ·have HE:Hid (Mil.sees st (bs (tyAt j)).data.toList=false):=Bool.eq_false_iff.2 heq
    clear heq
    go_wp2_with fail
    refine (takes_no b s st (bs (tyAt j)) _ H.out HE.out).mono ?_
    rintro e w1 ⟨rfl,rfl⟩
    go_wp2
    go_roundg (2 - (j+1))
    case measure=>have:=HG.out;omega
    case rel=>
     refine⟨j+1,by omega,by go_num,rfl,rfl,?_⟩
     intro m hm
     rcases Nat.lt_or_ge m j with h|h
     ·exact HW.out m h
     ·have:m=j:=by omega
      rw[this];exact HE.out
  ·go_wp2_with fail
   refine (refused_at a b s st _ HL.out H.out).mono ?_
   rintro e w2 ⟨d,rfl,hd,hb2⟩
   go_wp2
   exact⟨rfl,Kp.of_below hb2,Or.inr ⟨3,_,Or.inr (Or.inr (Or.inl rfl)),d,rfl,hd,ftype_none (fun m hm=>HW.out m (by omega))⟩⟩
def ev:Mil.E->Value
 | .nil=>.nilIface
 | .node 1 k _ _ _=>.iface 309 (.agg #[.int .i64 (k:Nat)])
 | .node 2 k _ _ _=>.iface 307 (.agg #[.bool (k==1)])
 | .node 3 _ x _ _=>.iface 292 (.agg #[.string (bs x)])
 | .node 4 _ x a _=>.iface 279 (.agg #[.string (bs x),ev a])
 | .node 5 _ x a b=>.iface 281 (.agg #[.string (bs x),ev a,ev b])
 | .node 6 _ _ a (.node _ _ _ b c)=>.iface 276 (.agg #[ev a,ev b,ev c])
 | .node 7 _ _ a b=>.iface 299 (.agg #[ev a,ev b])
 | .node 8 k _ a _=>.iface 301 (.agg #[ev a,.int .i64 (k:Nat)])
 | .node 9 k _ a b=>.iface 303 (.agg #[ev a,ev b,.int .i64 (k:Nat)])
 | .node _ _ x a b=>.iface 305 (.agg #[.string (bs x),ev a,ev b])
def ExPost (R:Mil.E->Mil.St->Prop) (F:Nat->Int->Prop) (a:Nat->Addr) (b:Nat) (s:ByteArray) (w:World) (e:Ending) (w':World):Prop:=
 Kp b w w'/\((∃x st ty y,e=.returned (.iface ty y)/\ev x=.iface ty y/\R x st/\RdS w' b s st)\/Threw F a e w')
theorem literal_any (a:Nat->Addr) (b:Nat) (s:ByteArray) (st:Mil.St) (w:World) (L:Laid a w) (hb:27<=b) (h:RdS w b s st) (hs:s.size<=4000) :
  Calls Tryz.prog 182 #[.pointer (some ⟨b,0,none⟩)] w (ExPost (fun x st'=>Mil.literal st=some (x,st')) (fun k p=>Mil.literalZ s.size st=.bad k p) a b s w):=by
 have H:=hid h
 have HL:=hid L
 clear h L
 by_cases hT:Mil.sees st Mil.wTrue=true
 ·have HZ:Hid (Mil.literalZ s.size st=(Mil.advZ s.size st).map fun s1=>(Mil.eBool 1,s1)):=by unfold Mil.literalZ;rw[if_pos hT];rfl
  have HM:Hid (Mil.literal st=(Mil.adv st).map fun s1=>(Mil.eBool 1,s1)):=by unfold Mil.literal;rw[if_pos hT];rfl
  have HT:=hid hT
  clear hT
  go_enter Tryz.func182,Tryz.ntmps182
  go_wp2_with fail
  refine (takes_yes a b s st (bs Mil.wTrue) _ HL.out hb H.out hs HT.out).mono ?_
  rintro e w1 ⟨hk,(⟨st',rfl,h1,h2⟩|⟨k,at_,hkk,d,rfl,hd,hno⟩)⟩
  ·go_wp2
   go_ret
   exact⟨hk,Or.inl ⟨Mil.eBool 1,st',_,_,rfl,rfl,by rw[HM.out,h1];rfl,h2⟩⟩
  ·go_wp2
   exact⟨rfl,hk,Or.inr ⟨k,at_,hkk,d,rfl,hd,by rw[HZ.out,hno];rfl⟩⟩
 ·have HT:Hid (Mil.sees st (bs Mil.wTrue).data.toList=false):=Bool.eq_false_iff.2 hT
  by_cases hF:Mil.sees st Mil.wFalse=true
  ·have HZ:Hid (Mil.literalZ s.size st=(Mil.advZ s.size st).map fun s1=>(Mil.eBool 0,s1)):=by unfold Mil.literalZ;rw[if_neg hT,if_pos hF];rfl
   have HM:Hid (Mil.literal st=(Mil.adv st).map fun s1=>(Mil.eBool 0,s1)):=by unfold Mil.literal;rw[if_neg hT,if_pos hF];rfl
   have HF:=hid hF
   clear hT hF
   go_enter Tryz.func182,Tryz.ntmps182
   go_wp2_with fail
   refine (takes_no b s st (bs Mil.wTrue) _ H.out HT.out).mono ?_
   rintro e w1 ⟨rfl,rfl⟩
   go_wp2_with fail
   refine (takes_yes a b s st (bs Mil.wFalse) _ HL.out hb H.out hs HF.out).mono ?_
   rintro e w1 ⟨hk,(⟨st',rfl,h1,h2⟩|⟨k,at_,hkk,d,rfl,hd,hno⟩)⟩
   ·go_wp2
    go_ret
    exact⟨hk,Or.inl ⟨Mil.eBool 0,st',_,_,rfl,rfl,by rw[HM.out,h1];rfl,h2⟩⟩
   ·go_wp2
    exact⟨rfl,hk,Or.inr ⟨k,at_,hkk,d,rfl,hd,by rw[HZ.out,hno];rfl⟩⟩
  ·have HF:Hid (Mil.sees st (bs Mil.wFalse).data.toList=false):=Bool.eq_false_iff.2 hF
   have HZ:Hid (Mil.literalZ s.size st=(Mil.numberZ s.size 0 9223372036854775807 st).map fun x=>(Mil.eInt x.1,x.2)):=by unfold Mil.literalZ;rw[if_neg hT,if_neg hF];rfl
   have HM:Hid (Mil.literal st=(Mil.number 0 9223372036854775807 st).map fun x=>(Mil.eInt x.1,x.2)):=by unfold Mil.literal;rw[if_neg hT,if_neg hF];rfl
   clear hT hF
   go_enter Tryz.func182,Tryz.ntmps182
   go_wp2_with fail
   refine (takes_no b s st (bs Mil.wTrue) _ H.out HT.out).mono ?_
   rintro e w1 ⟨rfl,rfl⟩
   go_wp2_with fail
   refine (takes_no b s st (bs Mil.wFalse) _ H.out HF.out).mono ?_
   rintro e w1 ⟨rfl,rfl⟩
   go_wp2_with fail
   refine (number_any a b s st 0 9223372036854775807 (by omega) _ HL.out hb H.out hs).mono ?_
   rintro e w1 ⟨hk,(⟨k,st',rfl,h1,h2⟩|⟨k,at_,hkk,d,rfl,hd,hno⟩)⟩
   ·go_wp2
    go_ret
    exact⟨hk,Or.inl ⟨Mil.eInt k,st',_,_,rfl,rfl,by rw[HM.out,h1];rfl,h2⟩⟩
   ·go_wp2
    exact⟨rfl,hk,Or.inr ⟨k,at_,hkk,d,rfl,hd,by rw[HZ.out,hno];rfl⟩⟩
theorem constant_any (a:Nat->Addr) (b:Nat) (s:ByteArray) (st:Mil.St) (w:World) (L:Laid a w) (hb:27<=b) (h:RdS w b s st) (hs:s.size<=4000) :
  Calls Tryz.prog 188 #[.pointer (some ⟨b,0,none⟩)] w (ExPost (fun x st'=>Mil.constant st=some (x,st')) (fun k p=>Mil.constantZ s.size st=.bad k p) a b s w):=by
 have H:=hid h
 have HL:=hid L
 clear h L
 by_cases hT:Mil.sees st Mil.sMinus=true
 ·have HZ:Hid (Mil.constantZ s.size st=(Mil.advZ s.size st).bind fun s1=>(Mil.numberZ s.size 0 9223372036854775807 s1).map fun x=>(Mil.ePre Mil.sMinus (Mil.eInt x.1),x.2)):=by unfold Mil.constantZ;rw[if_pos hT];rfl
  have HM:Hid (Mil.constant st=(Mil.adv st).bind fun s1=>(Mil.number 0 9223372036854775807 s1).map fun x=>(Mil.ePre Mil.sMinus (Mil.eInt x.1),x.2)):=by unfold Mil.constant;rw[if_pos hT];rfl
  have HT:=hid hT
  clear hT
  go_enter Tryz.func188,Tryz.ntmps188
  go_wp2_with fail
  refine (takes_yes a b s st (bs Mil.sMinus) _ HL.out hb H.out hs HT.out).mono ?_
  rintro e w1 ⟨hk,(⟨st',rfl,h1,h2⟩|⟨k,at_,hkk,d,rfl,hd,hno⟩)⟩
  ·go_wp2_with fail
   refine (number_any a b s st' 0 9223372036854775807 (by omega) w1 (HL.out.kept hk hb) hb h2 hs).mono ?_
   rintro e w2 ⟨hk2,(⟨k,st2,rfl,g1,g2⟩|⟨k,at_,hkk,d,rfl,hd,hno⟩)⟩
   ·go_wp2
    go_ret
    exact⟨hk.trans hk2,Or.inl ⟨Mil.ePre Mil.sMinus (Mil.eInt k),st2,_,_,rfl,rfl,by rw[HM.out,h1,Option.bind_some,g1];rfl,g2⟩⟩
   ·go_wp2
    exact⟨rfl,hk.trans hk2,Or.inr ⟨k,at_,hkk,d,rfl,hd,by rw[HZ.out,Mil.imz_adv s.size _ _ h1];show Mil.Rz.map _ _=_;rw[hno];rfl⟩⟩
  ·go_wp2
   exact⟨rfl,hk,Or.inr ⟨k,at_,hkk,d,rfl,hd,by rw[HZ.out,hno];rfl⟩⟩
 ·have HT:Hid (Mil.sees st (bs Mil.sMinus).data.toList=false):=Bool.eq_false_iff.2 hT
  have HM:Hid (Mil.constant st=Mil.literal st):=by unfold Mil.constant;rw[if_neg hT];rfl
  have HZ:Hid (Mil.constantZ s.size st=Mil.literalZ s.size st):=by unfold Mil.constantZ;rw[if_neg hT];rfl
  clear hT
  go_enter Tryz.func188,Tryz.ntmps188
  go_wp2_with fail
  refine (takes_no b s st (bs Mil.sMinus) _ H.out HT.out).mono ?_
  rintro e w1 ⟨rfl,rfl⟩
  go_wp2_with fail
  refine (literal_any a b s st _ HL.out hb H.out hs).mono ?_
  rintro e w1 ⟨hk,(⟨x,st',ty,y,rfl,h0,h1,h2⟩|⟨k,at_,hkk,d,rfl,hd,hno⟩)⟩
  ·go_wp2
   go_ret
   exact⟨hk,Or.inl ⟨x,st',ty,y,rfl,h0,HM.out.trans h1,h2⟩⟩
  ·go_wp2
   exact⟨rfl,hk,Or.inr ⟨k,at_,hkk,d,rfl,hd,HZ.out.trans hno⟩⟩
end
end Go.Proofs.YtoiajojadihpbaaGreatDoor
