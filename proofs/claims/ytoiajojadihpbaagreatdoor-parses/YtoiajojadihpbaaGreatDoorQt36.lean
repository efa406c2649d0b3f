import Derived.Test.YtoiajojadihpbaaGreatDoorQt35
import Derived.Test.YtoiajojadihpbaaGreatDoorQt31
import Derived.Test.YtoiajojadihpbaaGreatDoorQt33
import Derived.Deep.LoopGhost
import Derived.Deep.Cut
import Derived.Deep.RegionHeld3
import Derived.Test.YtoiajojadihpbaaGreatDoorQt01
import Derived.OwnWalk
import Derived.Laws.CopyOwn
import Derived.Maps.AppendAt
import Derived.Lib.SliceRun
namespace Go.Proofs.YtoiajojadihpbaaGreatDoor
set_option maxHeartbeats 8000000
set_option maxRecDepth 100000
section
open Go.RowKit
namespace Ref
open Mil
theorem toks_mem {l:List It} {i:It} (h:i∈l) (hl:(allToks l).length<=600):(itemToks i).length<=600:=by
 refine Nat.le_trans ?_ hl
 unfold allToks
 exact List.Sublist.length_le (List.sublist_flatten_of_mem (List.mem_map_of_mem h))
theorem outToks {x:Bytes} {r:List Bytes} (ht:(itemToks ⟨2,[],0,0,x::r,eNil⟩).length<=600):r.length<=600:=by
 have h1:(fix wOutput::nam x::(moreToks r++[fix sSemi])).length<=600:=ht
 rw[List.length_cons,List.length_cons,List.length_append,moreToks_len] at h1
 omega
theorem eqToks {x:Bytes} {t:Nat} {e:E} (ht:(itemToks ⟨3,x,t,0,[],e⟩).length<=600):(toks e).length<=600:=by
 have h1:(nam x::fix sColon::fix (tyText t)::fix sIs::(toks e++[fix sSemi])).length<=600:=ht
 simp only[List.length_cons,List.length_append] at h1
 omega
theorem moreLen:∀r:List Bytes,(∀y,y∈r->y.length<=12)->(moreText r).length<=14*r.length
 | [],_=>by simp[moreText]
 | y::r,h=>by
  have h1:=h y (by simp)
  have h2:=moreLen r (fun z hz=>h z (by simp[hz]))
  rw[moreText]
  simp only[List.length_append,commaB,List.length_cons,List.length_nil]
  omega
theorem tyLen (t:Nat):(tyText t).length<=4:=by
 unfold tyText
 split <;> decide
theorem itemLen {i:It} (h:ItOk i) (ht:(itemToks i).length<=600):(itemText i).length<=30010:=by
 rcases h with ⟨x,t,k,rfl,hx,_,_,hk⟩|⟨x,r,rfl,hx,hr⟩|⟨x,t,e,rfl,hx,_,he⟩
 ·have h1:=hx.2.2.1
  have h2:=digits_len (k:=k) (by simp only[maxInt];omega)
  have h3:=tyLen t
  show (wInput++Mil.blank++x++colonB++tyText t++Mil.blank++wEvery++Mil.blank++Lib.decDigits k++endB).length<=30010
  simp only[List.length_append,wInput,Mil.blank,colonB,wEvery,endB,List.length_cons,List.length_nil]
  omega
 ·have h1:=hx.2.2.1
  have h2:=moreLen r (fun y hy=>(hr y hy).2.2.1)
  have h3:=outToks ht
  show (wOutput++Mil.blank++namesText (x::r)++endB).length<=30010
  rw[namesText_cons]
  simp only[List.length_append,wOutput,Mil.blank,endB,List.length_cons,List.length_nil]
  omega
 ·have h1:=hx.2.2.1
  have h2:=txt_len e he
  have h4:=eqToks ht
  have h3:=tyLen t
  show (x++colonB++tyText t++isB++txt e++endB).length<=30010
  simp only[List.length_append,colonB,isB,endB,List.length_cons,List.length_nil]
  omega
theorem more_snoc:∀(r:List Bytes) (y:Bytes),moreText (r++[y])=moreText r++commaB++y
 | [],y=>by simp[moreText]
 | z::r,y=>by
  rw[List.cons_append,moreText,more_snoc r y,moreText]
  simp only[List.append_assoc]
theorem names_step {l:List Bytes} {j:Nat} {y:Bytes} (h:l[j]?=some y):namesText (l.take (j+1))=(if j=0 then [] else namesText (l.take j)++commaB)++y:=by
 cases l with
 | nil=>cases h
 | cons x r=>
  cases j with
  | zero=>
   have:x=y:=by simpa using h
   subst this
   rw[if_pos rfl]
   show namesText [x]=[]++x
   rw[namesText_cons];simp[moreText]
  | succ j=>
   rw[List.getElem?_cons_succ] at h
   rw[if_neg (by omega),List.take_succ_cons,namesText_cons,List.take_succ_cons,namesText_cons,List.take_add_one,h]
   show x++moreText (r.take j++[y])=_
   rw[more_snoc]
   simp only[List.append_assoc]
theorem namesLen:∀(l:List Bytes),(∀y,y∈l->y.length<=12)->(namesText l).length<=14*l.length
 | [],_=>by simp[namesText]
 | x::r,h=>by
  have h1:=h x (by simp)
  have h2:=moreLen r (fun y hy=>h y (by simp[hy]))
  rw[namesText_cons,List.length_append,List.length_cons]
  omega
theorem print_snoc (l:List It) (i:It):print (l++[i])=print l++itemText i:=by
 unfold print
 rw[List.map_append,List.flatten_append];simp
theorem printLen:∀(l:List It),(∀i,i∈l->ItOk i/\(itemToks i).length<=600)->(print l).length<=30010*l.length
 | [],_=>by simp[print]
 | i::l,h=>by
  have h1:=itemLen (h i (by simp)).1 (h i (by simp)).2
  have h2:=printLen l (fun j hj=>h j (by simp[hj]))
  have e:print (i::l)=itemText i++print l:=by unfold print;simp
  rw[e,List.length_append,List.length_cons]
  omega
theorem Reps.get {ns:List Nd}:∀{I:List Im} {l:List It},Reps ns I l->∀{k:Nat} {x:Im},I[k]?=some x->∃i,l[k]?=some i/\ItRep ns x i
 | [],[],_,_,_,h=>by cases h
 | [],_::_,h,_,_,_=>h.elim
 | _::_,[],h,_,_,_=>h.elim
 | y::_,j::_,h,0,x,hx=>by
  have:y=x:=by simpa using hx
  exact⟨j,rfl,this ▸ h.1⟩
 | _::_,_::_,h,k+1,x,hx=>by
  have hx':=hx
  rw[List.getElem?_cons_succ] at hx' ⊢
  exact Reps.get h.2 hx'
end Ref
theorem row_name {w:World} {B:Nat} {on:Option Addr} {cn:Nat} {yns:List (Mil.Bytes×Nat)} (h:w.ownsRow B 9 1 (.slice on yns.length cn) yns.length (nms yns)) {j:Nat} {z:Mil.Bytes×Nat} (hz:yns[j]?=some z):∃kn,on=some ⟨kn,0,none⟩/\w.cell? ⟨kn,j,none⟩=some (.string (bs z.1)):=by
 have hl:=(lgs hz).1
 obtain⟨h1,⟨h2,h3⟩|⟨k,cap,cur,hv,hbk,hk,hcap,hmx,hsz,htk⟩⟩:=h
 ·omega
 ·injection hv with e1 e2 e3
  refine⟨k,e1,?_⟩
  have e4:(nms yns)[j]?=some (.string (bs z.1)):=by
   show (List.map _ yns)[j]?=_
   rw[List.getElem?_map,hz];rfl
  rw[cor w k _ _ _ _ hk,<-e4,<-htk,List.getElem?_take]
  rw[if_pos (by omega)]
  simp
structure PI (B g:Nat) (iv nv:Value) (ns:List Ref.Nd) (I:List Iw) (w:World):Prop where
 pm:PM B g iv nv ns w
 own:w.ownsRow B 122 8 iv I.length (ims I)
 rows:∀x,x∈I->w.ownsRow B 9 1 x.nv x.im.names.length (nms x.im.names)/\w.ownsRow B 3 1 x.pv x.im.names.length (pls x.im.names)
theorem PI.below {B g:Nat} {iv nv:Value} {ns:List Ref.Nd} {I:List Iw} {w w':World} (h:PI B g iv nv ns I w) (hb:Below w.heap.size w w'):PI B g iv nv ns I w':=
 ⟨h.pm.below hb,own_kept h.own (fun k hk=>hb.block k (h.own.lt k hk).2),fun x hx=>⟨own_kept (h.rows x hx).1 (fun k hk=>hb.block k ((h.rows x hx).1.lt k hk).2),own_kept (h.rows x hx).2 (fun k hk=>hb.block k ((h.rows x hx).2.lt k hk).2)⟩⟩
theorem PI.item8 {B g:Nat} {iv nv:Value} {ns:List Ref.Nd} {I:List Iw} {w:World} (h:PI B g iv nv ns I w) {i:Nat} {y:Iw} (hy:I[i]?=some y) :
  ∃k c,iv=.slice (some ⟨k,0,none⟩) I.length c/\w.cell? ⟨k,i*8,none⟩=some (.int .i64 (y.im.kind:Nat))/\w.cell? ⟨k,i*8+1,none⟩=some (.int .i64 (y.im.at_:Nat))/\w.cell? ⟨k,i*8+2,none⟩=some (.string (bs y.im.name))/\w.cell? ⟨k,i*8+3,none⟩=some (.int .i64 (y.im.type:Nat))/\w.cell? ⟨k,i*8+4,none⟩=some (.int .i64 (y.im.period:Nat))/\w.cell? ⟨k,i*8+5,none⟩=some y.nv/\w.cell? ⟨k,i*8+6,none⟩=some y.pv/\w.cell? ⟨k,i*8+7,none⟩=some (.int .i64 (y.im.expr:Nat)):=by
 have hl:=(lgs hy).1
 have all:∃k c,iv=.slice (some ⟨k,0,none⟩) I.length c/\∀j,j < 8->w.cell? ⟨k,i*8+j,none⟩=(imCells y)[j]?:=by
  obtain⟨h1,⟨h2,h3⟩|⟨k,cap,cur,rfl,hbk,hk,hcap,hmx,hsz,htk⟩⟩:=h.own
  ·omega
  ·refine⟨k,cap,rfl,fun j hj=>?_⟩
   have e1:=flat_at (f:=imCells) (c:=8) (fun _=>rfl) I i j _ hy hj
   have e2:(ims I)[i*8+j]?=(imCells y)[j]?:=e1
   rw[cor w k _ _ _ _ hk,<-e2,<-htk,List.getElem?_take]
   rw[if_pos (by omega)]
   simp
 obtain⟨k,c,hv,hc⟩:=all
 exact⟨k,c,hv,hc 0 (by decide),hc 1 (by decide),hc 2 (by decide),hc 3 (by decide),hc 4 (by decide),hc 5 (by decide),hc 6 (by decide),hc 7 (by decide)⟩
end
section
open Go.RowKit
theorem PI.zero {B g:Nat} {iv nv:Value} {ns:List Ref.Nd} {I:List Iw} {w:World} (h:PI B g iv nv ns I w):PI 0 g iv nv ns I w:=
 ⟨⟨h.pm.pr,own_less h.pm.nod (Nat.zero_le _)⟩,own_less h.own (Nat.zero_le _),fun x hx=>⟨own_less (h.rows x hx).1 (Nat.zero_le _),own_less (h.rows x hx).2 (Nat.zero_le _)⟩⟩
def RfP (s:ByteArray) (w:World) (e:Ending) (w':World):Prop:=
 Below w.heap.size w w' /\
 ((∃fe fa:Int,fe≠0/\e=.returned (.tuple #[.pointer none,.agg #[.int .i64 fe,.int .i64 fa]])) \/
  (∃g iv nv ns I l,e=.returned (.tuple #[.pointer (some ⟨g,0,none⟩),.agg #[.int .i64 0,.int .i64 0]])/\Mil.Parsed s.data.toList l/\Ref.Reps ns (I.map Iw.im) l/\PI 0 g iv nv ns I w'))
theorem rparse_any (s:ByteArray) (w:World):Calls Tryz.prog 16 #[.string s] w (RfP s w):=by
 by_cases hs:s.size<=4000
 ·refine (rparse_short s hs w).mono ?_
  rintro r w' ⟨hb,T,ok,I,σ,hT,hR,⟨rfl,hfe,rfl⟩|⟨rfl,B,b,g,tv,iv,nv,hB,rfl,hRM,hIM⟩⟩
  ·exact⟨hb,Or.inl ⟨σ.fe,σ.fa,by omega,rfl⟩⟩
  ·obtain⟨l,hp,hr⟩:=Ref.parsed_of (show s.data.toList.length<=4000 from by simpa using hs) hT hR
   have hPI:PI B g iv nv σ.ns I w':=⟨⟨hRM.pr,hRM.nod⟩,hIM.own,hIM.nms⟩
   exact⟨hb,Or.inr ⟨g,iv,nv,σ.ns,I,l,rfl,hp,hr,hPI.zero⟩⟩
 ·refine (rparse_long s hs w).mono ?_
  rintro r w' ⟨rfl,hb⟩
  exact⟨hb,Or.inl ⟨1,-1,by decide,rfl⟩⟩
end
section
open Go.RowKit
theorem rprint_any (B g:Nat) (iv nv:Value) (ns:List Ref.Nd) (I:List Iw) (l:List Mil.It) (hR:Ref.Reps ns (I.map Iw.im) l) (hok:∀i,i∈l->Mil.ItOk i) (hln:l.length<=60) (ht:(Mil.allToks l).length<=600) (w:World) (h:PI B g iv nv ns I w) :
  Calls Tryz.prog 19 #[.pointer (some ⟨g,0,none⟩)] w (TxPost (Mil.print l) w):=by
 have HP:=hid h
 have HR:=hid hR
 have HK:Hid (∀i,i∈l->Mil.ItOk i/\(Mil.itemToks i).length<=600):=fun i hi=>⟨hok i hi,Ref.toks_mem hi ht⟩
 have HL:Hid (I.length=l.length/\l.length<=60):=by
  have:=hR.len
  rw[List.length_map] at this
  exact⟨this,hln⟩
 clear h hR hok ht hln
 go_enter Tryz.func19,Tryz.ntmps19
 go_wp2_with fail
 have iv1:Hid (∀w',Below w.heap.size w w'->∃o c,iv=.slice o I.length c/\w'.cell? ⟨g,0,none⟩=some (.slice o I.length c)):=fun w' hb=>by
  obtain⟨o,c,e⟩:=own_shape HP.out.own
  exact⟨o,c,e,e ▸ (HP.out.below hb).pm.cells.1⟩
 go_loopg [3,4] l.length (fun gk s3 s4 wr=>∃(i:Nat),s3=.string (bs (Mil.print (l.take i)))/\s4=.int .i64 (i:Nat)/\i<=l.length/\gk=l.length - i/\Hid (Below w.heap.size w wr))
 case atStart=>exact⟨0,rfl,rfl,Nat.zero_le _,rfl,Below.refl _ _⟩
 case round=>
  obtain⟨i,rfl,rfl,hi,hg,HB⟩:=hrel
  have HG:=hid hg
  clear hg
  obtain⟨o,c,hiv,d0⟩:=iv1.out wr HB.out
  have HIV:=hid hiv
  clear hiv
  have HI:=hid hi
  by_cases hlt:i < I.length
  ·have b0:((i:Int) < (I.length:Int))=True:=by simp;omega
   have i1:(0:Int)<=(i:Int):=by omega
   have i2:(i:Int) < (I.length:Int):=by omega
   have hll:i < l.length:=by have:=HL.out;omega
   have hy:I[i]?=some I[i]:=List.getElem?_eq_getElem hlt
   generalize I[i]=y at hy
   obtain⟨it,hit,hrep⟩:=HR.out.get (k:=i) (x:=y.im) (by rw[List.getElem?_map,hy];rfl)
   obtain⟨k,cc,hv2,c0,c1,c2,c3,c4,c5,c6,c7⟩:=(HP.out.below HB.out).item8 hy
   obtain⟨ho,hcc⟩:o=some ⟨k,0,none⟩/\c=cc:=by
    rw[HIV.out] at hv2
    injection hv2 with h1 h2 h3
    exact⟨h1,h3⟩
   subst ho
   subst hcc
   have HOK:=HK.out it (List.mem_of_getElem? hit)
   have HX:Hid (Mil.print (l.take (i+1))=Mil.print (l.take i)++Mil.itemText it):=by
    show _=_
    rw[List.take_add_one,hit]
    exact Ref.print_snoc _ _
   have HPL:Hid ((Mil.print (l.take i)).length<=2000000):=by
    have h1:=Ref.printLen (l.take i) (fun j hj=>HK.out j (List.mem_of_mem_take hj))
    have h2:=HL.out
    rw[List.length_take] at h1
    show _<=2000000
    have h3:min i l.length<=60:=by omega
    have h4:30010*min i l.length<=30010*60:=Nat.mul_le_mul_left _ h3
    omega
   have HRW:Hid (wr.ownsRow B 9 1 y.nv y.im.names.length (nms y.im.names)):=((HP.out.below HB.out).rows y (List.mem_of_getElem? hy)).1
   obtain⟨on,cn,hyn⟩:=own_shape HRW.out
   obtain⟨op,cp,hyp⟩:=own_shape ((HP.out.below HB.out).rows y (List.mem_of_getElem? hy)).2
   have HPW:=hid (HP.out.below HB.out)
   have HLT:=hid hll
   obtain⟨⟨ykd,a0,ynm,yty,ype,yns,ye⟩,yn,yp⟩:=y
   simp only[] at c0 c1 c2 c3 c4 c5 c6 c7 hrep HRW hyn hyp
   subst hyn hyp
   obtain⟨r1,r2,r3,r4,r5,r6,r7⟩:=hrep
   simp only[] at r1 r2 r3 r4 r5 r6
   subst r1 r2 r3 r4
   clear hv2 hy hit hlt hll r7 HP
   rcases HOK with ⟨⟨x,t,kk,rfl,hx,hty,_,hk⟩|⟨x,r,rfl,hx,hr⟩|⟨x,t,e,rfl,hx,hty,he⟩,htk⟩
   ·simp only[] at c0 c2 c3 c4
    have s0:(bs (Mil.print (l.take i))).size<=2000000:=by rw[bs_size];exact HPL.out
    have s1:(bs x).size<=12:=by rw[bs_size];exact hx.2.2.1
    have s2:(bs (Mil.tyText t)).size<=4:=by rw[bs_size];exact Ref.tyLen t
    have s3:(bs (Lib.decDigits kk)).size<=20:=by rw[bs_size];exact Mil.digits_len (by unfold Mil.maxInt;omega)
    have n0:¬9223372036854775807 < (bs (Mil.print (l.take i))).size+6:=by omega
    have n1:¬9223372036854775807 < (bs (Mil.print (l.take i))).size+6+(bs x).size:=by omega
    have n2:¬9223372036854775807 < (bs (Mil.print (l.take i))).size+6+(bs x).size+3:=by omega
    have n3:¬9223372036854775807 < (bs (Mil.print (l.take i))).size+6+(bs x).size+3+(bs (Mil.tyText t)).size:=by omega
    have n4:¬9223372036854775807 < (bs (Mil.print (l.take i))).size+6+(bs x).size+3+(bs (Mil.tyText t)).size+7:=by omega
    have n5:¬9223372036854775807 < (bs (Mil.print (l.take i))).size+6+(bs x).size+3+(bs (Mil.tyText t)).size+7+(bs (Lib.decDigits kk)).size:=by omega
    have n6:¬9223372036854775807 < (bs (Mil.print (l.take i))).size+6+(bs x).size+3+(bs (Mil.tyText t)).size+7+(bs (Lib.decDigits kk)).size+2:=by omega
    have HGG:Hid ((bs (Mil.print (l.take i)))++bs (Mil.wInput++Mil.blank)++bs x++bs Mil.colonB++bs (Mil.tyText t)++bs (Mil.blank++Mil.wEvery++Mil.blank)++bs (Lib.decDigits kk)++bs Mil.endB=bs (Mil.print (l.take (i+1)))):=by
     show _=_
     rw[HX.out,bs_add,bs_add,bs_add,bs_add,bs_add,bs_add,bs_add]
     show bs _=bs (_++(Mil.wInput++Mil.blank++x++Mil.colonB++Mil.tyText t++Mil.blank++Mil.wEvery++Mil.blank++Lib.decDigits kk++Mil.endB))
     simp only[List.append_assoc]
    have hw:IntKind.i64.wrap ((i:Int)+1)=(i:Int)+1:=by
     have:=HL.out
     have:=HI.out
     simp only[IntKind.wrap_i64];omega
    have TY:Hid (t<=1):=by
     show t<=1
     rcases hty with rfl|rfl <;> omega
    have DG:Hid (kk<=9223372036854775807):=by show kk<=_;omega
    have HB0:=bRow wr #[.int .i64 1,.int .i64 (a0:Nat),.string (bs x),.int .i64 (t:Nat),.int .i64 (kk:Nat),.slice on yns.length cn,.slice op yns.length cp,.int .i64 (ye:Nat)] 122
    have NC:Hid (∀w',Below (wr.alloc (.cells #[.int .i64 1,.int .i64 (a0:Nat),.string (bs x),.int .i64 (t:Nat),.int .i64 (kk:Nat),.slice on yns.length cn,.slice op yns.length cp,.int .i64 (ye:Nat)] 122)).heap.size (wr.alloc (.cells #[.int .i64 1,.int .i64 (a0:Nat),.string (bs x),.int .i64 (t:Nat),.int .i64 (kk:Nat),.slice on yns.length cn,.slice op yns.length cp,.int .i64 (ye:Nat)] 122)) w'->∀j,w'.cell? ⟨wr.heap.size,j,none⟩=(#[.int .i64 1,.int .i64 (a0:Nat),.string (bs x),.int .i64 (t:Nat),.int .i64 (kk:Nat),.slice on yns.length cn,.slice op yns.length cp,.int .i64 (ye:Nat)]:Array Value)[j]?):=fun w' hb j=>(hb.cell (by simp)).trans (cor _ _ j _ _ _ (han wr _))
    have HPW0:=hid (HPW.out.below HB0.out)
    have HBW:Hid (Below w.heap.size w (wr.alloc (.cells #[.int .i64 1,.int .i64 (a0:Nat),.string (bs x),.int .i64 (t:Nat),.int .i64 (kk:Nat),.slice on yns.length cn,.slice op yns.length cp,.int .i64 (ye:Nat)] 122))):=HB.out.trans (HB0.out.mono HB.out.size)
    clear hx hty hk htk r5 r6 s0 s1 s2 s3
    go_wp2_with fail
    generalize wr.alloc (.cells #[.int .i64 1,.int .i64 (a0:Nat),.string (bs x),.int .i64 (t:Nat),.int .i64 (kk:Nat),.slice on yns.length cn,.slice op yns.length cp,.int .i64 (ye:Nat)] 122)=W at HB0 NC HPW0 HBW ⊢
    refine (rdigits_any kk DG.out _).mono ?_
    rintro r w1 ⟨rfl,hb1⟩
    have B1:=hid hb1
    clear hb1 c0 c1 c2 c3 c4 c5 c6 c7 d0 HPW
    have j2:∀w',Below W.heap.size W w'->w'.cell? ⟨wr.heap.size,2,none⟩=some (.string (bs x)):=fun w' h=>NC.out w' h 2
    have j3:∀w',Below W.heap.size W w'->w'.cell? ⟨wr.heap.size,3,none⟩=some (.int .i64 (t:Nat)):=fun w' h=>NC.out w' h 3
    go_wp2_with fail
    go_region_held3 (fun w'=>Below W.heap.size W w') (first|assumption|exact B1.out.drew|exact Below.alloc (by assumption) (Below.size (by assumption)) _) (first
     | (go_at_call 54;(with_reducible refine (typeName_any t TY.out _).mono ?_);rintro r w2 ⟨rfl,hb2⟩;have hB2:Below W.heap.size W w2:=below_step (by assumption) hb2))
    generalize (bs (Mil.print (l.take i)))=XP at HGG n0 n1 n2 n3 n4 n5 n6 ⊢
    generalize bs (Mil.tyText t)=XT at HGG n3 n4 n5 n6 ⊢
    generalize bs (Lib.decDigits kk)=XD at HGG n5 n6 ⊢
    go_wp2_with fail
    go_roundg (l.length - (i+1))
    case measure=>
     have h1:=HG.out
     have h2:=HLT.out
     omega
    case rel=>
     refine⟨i+1,?_,rfl,HLT.out,rfl,?_⟩
     ·rw[<-HGG.out];rfl
     ·refine HBW.out.trans (Below.mono (B:=W.heap.size) ?_ HBW.out.size)
      assumption
   ·simp only[] at c0 c2 c3 c4 r5
    have s0:(bs (Mil.print (l.take i))).size<=2000000:=by rw[bs_size];exact HPL.out
    have n0:¬9223372036854775807 < (bs (Mil.print (l.take i))).size+7:=by omega
    have hw:IntKind.i64.wrap ((i:Int)+1)=(i:Int)+1:=by
     have:=HL.out
     have:=HI.out
     simp only[IntKind.wrap_i64];omega
    have R5:=hid r5
    have NL:Hid (yns.length<=601):=by
     have h1:=Ref.outToks htk
     have h2:=congrArg List.length r5
     rw[List.length_map,List.length_cons] at h2
     show yns.length<=601
     omega
    have NN:Hid (∀y,y∈yns.map Prod.fst->y.length<=12):=by
     rw[r5]
     intro y hy
     rcases List.mem_cons.1 hy with rfl|hy
     ·exact hx.2.2.1
     ·exact (hr y hy).2.2.1
    have HTX:Hid (Mil.print (l.take (i+1))=Mil.print (l.take i)++(Mil.wOutput++Mil.blank++Mil.namesText (yns.map Prod.fst)++Mil.endB)):=by
     show _=_
     rw[HX.out,r5];rfl
    have HB0:=bRow wr #[.int .i64 2,.int .i64 (a0:Nat),.string (bs []),.int .i64 0,.int .i64 0,.slice on yns.length cn,.slice op yns.length cp,.int .i64 (ye:Nat)] 122
    have NC:Hid (∀w',Below (wr.alloc (.cells #[.int .i64 2,.int .i64 (a0:Nat),.string (bs []),.int .i64 0,.int .i64 0,.slice on yns.length cn,.slice op yns.length cp,.int .i64 (ye:Nat)] 122)).heap.size (wr.alloc (.cells #[.int .i64 2,.int .i64 (a0:Nat),.string (bs []),.int .i64 0,.int .i64 0,.slice on yns.length cn,.slice op yns.length cp,.int .i64 (ye:Nat)] 122)) w'->∀j,w'.cell? ⟨wr.heap.size,j,none⟩=(#[.int .i64 2,.int .i64 (a0:Nat),.string (bs []),.int .i64 0,.int .i64 0,.slice on yns.length cn,.slice op yns.length cp,.int .i64 (ye:Nat)]:Array Value)[j]?):=fun w' hb j=>(hb.cell (by simp)).trans (cor _ _ j _ _ _ (han wr _))
    have HPW0:=hid (HPW.out.below HB0.out)
    have HBW:Hid (Below w.heap.size w (wr.alloc (.cells #[.int .i64 2,.int .i64 (a0:Nat),.string (bs []),.int .i64 0,.int .i64 0,.slice on yns.length cn,.slice op yns.length cp,.int .i64 (ye:Nat)] 122))):=HB.out.trans (HB0.out.mono HB.out.size)
    have HRW0:Hid ((wr.alloc (.cells #[.int .i64 2,.int .i64 (a0:Nat),.string (bs []),.int .i64 0,.int .i64 0,.slice on yns.length cn,.slice op yns.length cp,.int .i64 (ye:Nat)] 122)).ownsRow B 9 1 (.slice on yns.length cn) yns.length (nms yns)):=own_kept HRW.out (fun k hk=>HB0.out.block k (HRW.out.lt k hk).2)
    clear hx hr htk r5 r6 s0 HRW
    go_wp2_with fail
    generalize wr.alloc (.cells #[.int .i64 2,.int .i64 (a0:Nat),.string (bs []),.int .i64 0,.int .i64 0,.slice on yns.length cn,.slice op yns.length cp,.int .i64 (ye:Nat)] 122)=W at HB0 NC HPW0 HBW HRW0 ⊢
    clear c0 c1 c2 c3 c4 c5 c6 c7 d0 HPW n0
    have J5:Hid (∀w',Below W.heap.size W w'->w'.cell? ⟨wr.heap.size,5,none⟩=some (.slice on yns.length cn)):=fun w' h=>NC.out w' h 5
    clear NC HB0 HB
    generalize wr.heap.size=q5 at J5 ⊢
    go_loopg [3,7] yns.length (fun gj s3 s7 wj=>∃(j:Nat),s3=.string (bs (Mil.print (l.take i)++Mil.wOutput++Mil.blank++Mil.namesText ((yns.map Prod.fst).take j)))/\s7=.int .i64 (j:Nat)/\j<=yns.length/\gj=yns.length - j/\Hid (Below W.heap.size W wj))
    case atStart=>
     refine⟨0,?_,rfl,Nat.zero_le _,rfl,Below.refl _ _⟩
     show Value.string _=Value.string (bs (Mil.print (l.take i)++Mil.wOutput++Mil.blank++[]))
     rw[List.append_nil,List.append_assoc,<-bs_add];rfl
    case round=>
     obtain⟨j,rfl,rfl,hj,hgj,HBJ⟩:=hrel
     have HGJ:=hid hgj
     have HJ:=hid hj
     clear hgj
     have j5:=J5.out _ HBJ.out
     have hsj:(bs (Mil.print (l.take i)++Mil.wOutput++Mil.blank++Mil.namesText ((yns.map Prod.fst).take j))).size<=2020000:=by
      rw[bs_size]
      have h1:=Ref.namesLen ((yns.map Prod.fst).take j) (fun y hy=>NN.out y (List.mem_of_mem_take hy))
      have h2:=HPL.out
      have h3:=NL.out
      rw[List.length_take,List.length_map] at h1
      have h4:min j yns.length<=601:=by omega
      have h5:14*min j yns.length<=14*601:=Nat.mul_le_mul_left _ h4
      simp only[List.length_append,Mil.wOutput,Mil.blank,List.length_cons,List.length_nil]
      omega
     by_cases hlj:j < yns.length
     ·have b0:((j:Int) < (yns.length:Int))=True:=by simp;omega
      have i1:(0:Int)<=(j:Int):=by omega
      have i2:(j:Int) < (yns.length:Int):=by omega
      have hz:yns[j]?=some yns[j]:=List.getElem?_eq_getElem hlj
      generalize yns[j]=z at hz
      obtain⟨z1,z2⟩:=z
      obtain⟨kn,hon,cz⟩:=row_name (own_kept HRW0.out (fun k hk=>HBJ.out.block k (HRW0.out.lt k hk).2)) hz
      have hz1:(yns.map Prod.fst)[j]?=some z1:=by rw[List.getElem?_map,hz];rfl
      have hz2:(bs z1).size<=12:=by
       rw[bs_size];exact NN.out z1 (List.mem_of_getElem? hz1)
      have HST:Hid (Mil.namesText ((yns.map Prod.fst).take (j+1))=(if j=0 then [] else Mil.namesText ((yns.map Prod.fst).take j)++Mil.commaB)++z1):=Ref.names_step hz1
      have hwj:IntKind.i64.wrap ((j:Int)+1)=(j:Int)+1:=by
       have:=NL.out
       simp only[IntKind.wrap_i64];omega
      have HLJ:=hid hlj
      rw[hon] at j5
      have HON:=hid hon
      clear hz hz1 hlj hj hon
      by_cases hj0:j=0
      ·have b1:((0:Int) < (j:Int))=False:=by simp;omega
       have b2:(0 < j)=False:=by simp;omega
       have HGJ2:Hid ((bs (Mil.print (l.take i)++Mil.wOutput++Mil.blank++Mil.namesText ((yns.map Prod.fst).take j)))++bs z1=bs (Mil.print (l.take i)++Mil.wOutput++Mil.blank++Mil.namesText ((yns.map Prod.fst).take (j+1)))):=by
        show _=_
        rw[HST.out,if_pos hj0,bs_add,hj0]
        simp only[List.append_assoc]
        rfl
       generalize (bs (Mil.print (l.take i)++Mil.wOutput++Mil.blank++Mil.namesText ((yns.map Prod.fst).take j)))=SJ at hsj HGJ2 ⊢
       have n1:¬9223372036854775807 < SJ.size+(bs z1).size:=by omega
       clear hj0 hsj hz2
       go_wp2_with fail
       go_roundg (yns.length - (j+1))
       case measure=>
        have h1:=HGJ.out
        have h2:=HLJ.out
        omega
       case rel=>
        exact⟨j+1,by rw[<-HGJ2.out],rfl,HLJ.out,rfl,HBJ⟩
      ·have b1:((0:Int) < (j:Int))=True:=by simp;omega
       have b2:(0 < j)=True:=by simp;omega
       have HGJ2:Hid ((bs (Mil.print (l.take i)++Mil.wOutput++Mil.blank++Mil.namesText ((yns.map Prod.fst).take j)))++bs Mil.commaB++bs z1=bs (Mil.print (l.take i)++Mil.wOutput++Mil.blank++Mil.namesText ((yns.map Prod.fst).take (j+1)))):=by
        show _=_
        rw[HST.out,if_neg hj0,bs_add,bs_add]
        simp only[List.append_assoc]
       generalize (bs (Mil.print (l.take i)++Mil.wOutput++Mil.blank++Mil.namesText ((yns.map Prod.fst).take j)))=SJ at hsj HGJ2 ⊢
       have n0:¬9223372036854775807 < SJ.size+2:=by omega
       have n1:¬9223372036854775807 < SJ.size+2+(bs z1).size:=by omega
       clear hj0 hsj hz2
       go_wp2_with fail
       go_roundg (yns.length - (j+1))
       case measure=>
        have h1:=HGJ.out
        have h2:=HLJ.out
        omega
       case rel=>
        exact⟨j+1,by rw[<-HGJ2.out];rfl,rfl,HLJ.out,rfl,HBJ⟩
     ·have b0:((j:Int) < (yns.length:Int))=False:=by simp;omega
      have HEE:Hid ((bs (Mil.print (l.take i)++Mil.wOutput++Mil.blank++Mil.namesText ((yns.map Prod.fst).take j)))++bs Mil.endB=bs (Mil.print (l.take (i+1)))):=by
       show _=_
       have ej:(yns.map Prod.fst).take j=yns.map Prod.fst:=List.take_of_length_le (by rw[List.length_map];omega)
       rw[HTX.out,bs_add,ej]
       simp only[List.append_assoc]
      generalize (bs (Mil.print (l.take i)++Mil.wOutput++Mil.blank++Mil.namesText ((yns.map Prod.fst).take j)))=SJ at hsj HEE ⊢
      have n0:¬9223372036854775807 < SJ.size+2:=by omega
      clear hlj hsj hj
      go_wp2_with fail
      go_roundg (l.length - (i+1))
      case measure=>
       have h1:=HG.out
       have h2:=HLT.out
       omega
      case rel=>
       exact⟨i+1,by rw[<-HEE.out];rfl,rfl,HLT.out,rfl,HBW.out.trans (HBJ.out.mono HBW.out.size)⟩
   ·simp only[] at c0 c2 c3 c4 r6
    have htk':=Ref.eqToks htk
    have s0:(bs (Mil.print (l.take i))).size<=2000000:=by rw[bs_size];exact HPL.out
    have s1:(bs x).size<=12:=by rw[bs_size];exact hx.2.2.1
    have s2:(bs (Mil.tyText t)).size<=4:=by rw[bs_size];exact Ref.tyLen t
    have s3:(bs (Mil.txt e)).size<=24000:=by rw[bs_size];exact rx_short he htk'
    have n0:¬9223372036854775807 < (bs (Mil.print (l.take i))).size+(bs x).size:=by omega
    have n1:¬9223372036854775807 < (bs (Mil.print (l.take i))).size+(bs x).size+3:=by omega
    have n2:¬9223372036854775807 < (bs (Mil.print (l.take i))).size+(bs x).size+3+(bs (Mil.tyText t)).size:=by omega
    have n3:¬9223372036854775807 < (bs (Mil.print (l.take i))).size+(bs x).size+3+(bs (Mil.tyText t)).size+3:=by omega
    have n4:¬9223372036854775807 < (bs (Mil.print (l.take i))).size+(bs x).size+3+(bs (Mil.tyText t)).size+3+(bs (Mil.txt e)).size:=by omega
    have n5:¬9223372036854775807 < (bs (Mil.print (l.take i))).size+(bs x).size+3+(bs (Mil.tyText t)).size+3+(bs (Mil.txt e)).size+2:=by omega
    have HGG:Hid ((bs (Mil.print (l.take i)))++bs x++bs Mil.colonB++bs (Mil.tyText t)++bs Mil.isB++bs (Mil.txt e)++bs Mil.endB=bs (Mil.print (l.take (i+1)))):=by
     show _=_
     rw[HX.out,bs_add,bs_add,bs_add,bs_add,bs_add,bs_add]
     show bs _=bs (_++(x++Mil.colonB++Mil.tyText t++Mil.isB++Mil.txt e++Mil.endB))
     simp only[List.append_assoc]
    have hw:IntKind.i64.wrap ((i:Int)+1)=(i:Int)+1:=by
     have:=HL.out
     have:=HI.out
     simp only[IntKind.wrap_i64];omega
    have TY:Hid (t<=1):=by
     show t<=1
     rcases hty with rfl|rfl <;> omega
    have TX:Hid (TR B g iv nv ns e ye):=(px_all B g iv nv ns e he ye (by simpa using r6) htk').1
    have HB0:=bRow wr #[.int .i64 3,.int .i64 (a0:Nat),.string (bs x),.int .i64 (t:Nat),.int .i64 0,.slice on yns.length cn,.slice op yns.length cp,.int .i64 (ye:Nat)] 122
    have NC:Hid (∀w',Below (wr.alloc (.cells #[.int .i64 3,.int .i64 (a0:Nat),.string (bs x),.int .i64 (t:Nat),.int .i64 0,.slice on yns.length cn,.slice op yns.length cp,.int .i64 (ye:Nat)] 122)).heap.size (wr.alloc (.cells #[.int .i64 3,.int .i64 (a0:Nat),.string (bs x),.int .i64 (t:Nat),.int .i64 0,.slice on yns.length cn,.slice op yns.length cp,.int .i64 (ye:Nat)] 122)) w'->∀j,w'.cell? ⟨wr.heap.size,j,none⟩=(#[.int .i64 3,.int .i64 (a0:Nat),.string (bs x),.int .i64 (t:Nat),.int .i64 0,.slice on yns.length cn,.slice op yns.length cp,.int .i64 (ye:Nat)]:Array Value)[j]?):=fun w' hb j=>(hb.cell (by simp)).trans (cor _ _ j _ _ _ (han wr _))
    have HPW0:=hid (HPW.out.below HB0.out)
    have HBW:Hid (Below w.heap.size w (wr.alloc (.cells #[.int .i64 3,.int .i64 (a0:Nat),.string (bs x),.int .i64 (t:Nat),.int .i64 0,.slice on yns.length cn,.slice op yns.length cp,.int .i64 (ye:Nat)] 122))):=HB.out.trans (HB0.out.mono HB.out.size)
    clear hx hty he htk htk' r5 r6 s0 s1 s2 s3
    go_wp2_with fail
    generalize wr.alloc (.cells #[.int .i64 3,.int .i64 (a0:Nat),.string (bs x),.int .i64 (t:Nat),.int .i64 0,.slice on yns.length cn,.slice op yns.length cp,.int .i64 (ye:Nat)] 122)=W at HB0 NC HPW0 HBW ⊢
    refine (TX.out _ HPW0.out.pm).mono ?_
    rintro r w1 ⟨rfl,hb1⟩
    have B1:=hid hb1
    clear hb1 c0 c1 c2 c3 c4 c5 c6 c7 d0 HPW
    have j2:∀w',Below W.heap.size W w'->w'.cell? ⟨wr.heap.size,2,none⟩=some (.string (bs x)):=fun w' h=>NC.out w' h 2
    have j3:∀w',Below W.heap.size W w'->w'.cell? ⟨wr.heap.size,3,none⟩=some (.int .i64 (t:Nat)):=fun w' h=>NC.out w' h 3
    go_wp2_with fail
    go_region_held3 (fun w'=>Below W.heap.size W w') (first|assumption|exact B1.out.drew|exact Below.alloc (by assumption) (Below.size (by assumption)) _) (first
     | (go_at_call 54;(with_reducible refine (typeName_any t TY.out _).mono ?_);rintro r w2 ⟨rfl,hb2⟩;have hB2:Below W.heap.size W w2:=below_step (by assumption) hb2))
    generalize (bs (Mil.print (l.take i)))=XP at HGG n0 n1 n2 n3 n4 n5 ⊢
    generalize bs (Mil.tyText t)=XT at HGG n2 n3 n4 n5 ⊢
    generalize bs (Mil.txt e)=XD at HGG n4 n5 ⊢
    go_wp2_with fail
    go_roundg (l.length - (i+1))
    case measure=>
     have h1:=HG.out
     have h2:=HLT.out
     omega
    case rel=>
     refine⟨i+1,?_,rfl,HLT.out,rfl,?_⟩
     ·rw[<-HGG.out];rfl
     ·refine HBW.out.trans (Below.mono (B:=W.heap.size) ?_ HBW.out.size)
      assumption
  ·have b0:((i:Int) < (I.length:Int))=False:=by simp;omega
   have HE:Hid (l.take i=l):=by
    show l.take i=l
    have h1:=HL.out
    exact List.take_of_length_le (by omega)
   clear hlt
   go_wp2_with fail
   all_goals go_ret
   exact⟨by rw[HE.out];rfl,HB.out⟩
end
section
open Go.RowKit
def Us (w:World) (v:Value):Prop:=∃(a:Option Addr) (n c:Nat),v=.slice a n c/\n*8<=140737488355328/\(n=0\/∃b off,a=some ⟨b,off,none⟩/\∃U:List Int,U.length=n/\∀j x,U[j]?=some x->w.cell? ⟨b,off+j,none⟩=some (.int .u64 x))
abbrev uv (U:List Int):List Value:=U.map (Value.int .u64)
theorem Us.below {w w':World} {v:Value} (h:Us w v) (hb:Below w.heap.size w w'):Us w' v:=by
 obtain⟨a,n,c,rfl,h1,h2|⟨b,off,rfl,U,h3,h4⟩⟩:=h
 ·exact⟨a,n,c,rfl,h1,Or.inl h2⟩
 ·refine⟨_,n,c,rfl,h1,Or.inr ⟨b,off,rfl,U,h3,fun j x hx=>?_⟩⟩
  have:=h4 j x hx
  exact (hb.cell (lt_of_cell this)).trans this
theorem Tryz.infoWord:(Tryz.prog.info? 177).map (fun i=>(i.zero,i.size,i.bytes))=some (some (.int .u64 0),1,8):=by kernel_rfl
theorem wpList_append_first {w:World} {ops:Array Oper} {rest:List Oper} {o:Oper} {a:Act} {Q:Exit->Act->World->Prop} (hgd:o.guard=none) (s x:Operand)
  (ho:o.op=.call { callee:=.builtin .append,args:=#[s,x],argTypes:=#[27,27] }) (hs:a.eval s=.slice none 0 0) (v:Value) (hx:a.eval x=v) (hv:Us w v)
  (h:∀v' w' U,w'.ownsRow w.heap.size 177 1 v' (List.length U) (uv U)->w.grownBy w' none->wpList Tryz.prog ops Q rest (a.put o.dst v') w'):wpList Tryz.prog ops Q (o::rest) a w:=by
 obtain⟨k0,hk,kz0,kz1,kz2⟩:=info_parts Tryz.infoWord
 obtain⟨p,n,c,rfl,h1,h2⟩:=hv
 by_cases hn:n=0
 ·subst hn
  refine wpList_plain hgd fun K hK'=>?_
  unfold Oper.wp
  have e:(Builtin.append_ #[27,27] o.type #[.slice none 0 0,.slice p 0 c]).run Tryz.prog w=.ok (.slice none 0 0) w:=by
   cases p <;> simp[Builtin.append_,run_underlying Tryz.underlying27,sizeOf,typeInfo,hk,Builtin.lenOf,Builtin.firstCells,loadCells,loadCellsFrom]
  simp[execOp,ho,resolve,invoke,builtin,hs,hx,e,Result.andThen]
  exact hK' _ _ (h (.slice none 0 0) w [] (World.ownsRow_nil _ _ _ _) (World.grownBy.refl _ _))
 ·obtain⟨b,off,rfl,U,h3,h4⟩:=h2.resolve_left hn
  have hc:∀j u,(uv U)[j]?=some u->w.cell? ((⟨b,off,none⟩:Addr).add j)=some u:=fun j u hu=>by
   rw[show (uv U)[j]?=(U[j]?).map (Value.int .u64) from List.getElem?_map ..] at hu
   obtain⟨y,hy,rfl⟩:=oms hu
   rw[Addr.add_lit]
   exact h4 j y hy
  refine wpList_append_own_at w hgd s x 27 ho w.heap.size 177 k0 (.int .u64 0) 1 8 Tryz.underlying27 hk kz0 kz1 kz2 rfl (by decide) (.slice none 0 0) 0 [] hs (World.ownsRow_nil _ _ _ _) ⟨b,off,none⟩ n c (uv U) hx (by simp[uv,h3]) hc (by intro u hu;obtain⟨_,_,rfl⟩:=List.mem_map.1 hu;rfl) (by unfold maxLen;omega) (by omega) nlr ?_
  intro v' w' ho' hg' _ _
  rw[Nat.zero_add,List.nil_append,<-h3] at ho'
  exact h v' w' U ho' hg'
theorem below_setCells {B b:Nat} (hB:B<=b):∀(vs:List Value) (o:Nat) {w0 w:World},Below B w0 w->Below B w0 (w.setCells b o vs)
 | [],_,_,_,h=>h
 | v::r,o,_,_,h=>by
  rw[World.setCells]
  exact below_setCells hB r (o+1) (h.setCell hB v)
theorem wpList_clear_own {w:World} {ops:Array Oper} {rest:List Oper} {o:Oper} {a:Act} {Q:Exit->Act->World->Prop} (hgd:o.guard=none) (s:Operand)
  (ho:o.op=.call { callee:=.builtin .clear,args:=#[s],argTypes:=#[27] }) (base:Nat) (v:Value) (U:List Int) (hs:a.eval s=v) (hv:w.ownsRow base 177 1 v U.length (uv U))
  (h:∀w',Below base w w'->wpList Tryz.prog ops Q rest (a.put o.dst (.tuple #[])) w'):wpList Tryz.prog ops Q (o::rest) a w:=by
 obtain⟨k0,hk,kz0,kz1,kz2⟩:=info_parts Tryz.infoWord
 refine wpList_plain hgd fun K hK'=>?_
 have hz:∀w,(zeroValue 177).run Tryz.prog w=.ok (.int .u64 0) w:=fun w=>by simp[zeroValue,typeInfo,hk,kz0]
 have e:∃w',(Builtin.clear_ #[27] o.type #[v]).run Tryz.prog w=.ok (.tuple #[]) w'/\Below base w w':=by
  rcases hv.2 with ⟨rfl,_⟩|⟨k,cap,cur,rfl,hbk,hkk,hcap,hmx,hsz,htk⟩
  ·exact⟨w,by simp[Builtin.clear_,run_underlying Tryz.underlying27],Below.refl _ _⟩
  ·by_cases h0:U.length=0
   ·rw[h0]
    exact⟨w,by simp[Builtin.clear_,run_underlying Tryz.underlying27],Below.refl _ _⟩
   ·refine⟨_,Lib.run_clear_slice w 27 177 o.type (.int .u64 0) Tryz.underlying27 hz rfl rfl k 0 U.length cap (by omega) (fun j hj=>?_) (fun j hj=>?_),below_setCells hbk _ _ brf⟩
    ·rw[cor w k _ _ _ _ hkk]
     simp
     omega
    ·unfold World.frozen?;rw[hkk];simp
 obtain⟨w',hr,hb⟩:=e
 unfold Oper.wp
 simp[execOp,ho,resolve,invoke,builtin,hs,hr,Result.andThen]
 exact hK' _ _ (h w' hb)
theorem regNew_any (k:Int) (v:Value) (w:World):Calls Tryz.prog 79 #[.int .i64 k,v] w fun r w'=>r=.returned (.tuple #[.pointer none,.nilIface])/\w'=w:=by
 go_enter Tryz.func79,Tryz.ntmps79
 go_wp2_with fail
 all_goals go_ret2
 all_goals exact⟨rfl,rfl⟩
theorem number_nil (w:World):Calls Tryz.prog 80 #[.nilIface] w fun r w'=>r=.returned (.int .i64 0)/\w'=w:=by
 go_enter Tryz.func80,Tryz.ntmps80
 go_wp2_with fail
 all_goals go_ret
 all_goals exact⟨rfl,rfl⟩
theorem register_any (k:Int) (v:Value) (w:World) (hv:Us w v):Calls Tryz.prog 34 #[.int .i64 k,v] w fun r w'=>r=.returned (.tuple #[.pointer none,.int .i64 0])/\Below w.heap.size w w':=by
 have HV:=hid hv
 clear hv
 go_enter Tryz.func34,Tryz.ntmps34
 go_wp2_with (at_builtin;refine wpList_append_first rfl _ _ rfl rfl v rfl HV.out ?_;intro v1 w1 U ho1 hg1)
 have HO1:=hid ho1
 have HB1:Hid (Below w.heap.size w w1):=⟨hg1.os,hg1.tape,hg1.output,hg1.size,fun k hk=>hg1.block k hk (by simp)⟩
 clear ho1 hg1
 refine (regNew_any _ _ _).mono ?_
 rintro r w2 ⟨rfl,rfl⟩
 go_wp2_with (refine wpList_clear_own rfl (.tmp 17) rfl w.heap.size v1 U rfl HO1.out ?_;intro w3 hb3)
 have HB3:=hid (HB1.out.trans hb3)
 clear hb3
 refine (number_nil _).mono ?_
 rintro r w4 ⟨rfl,rfl⟩
 go_wp2_with fail
 all_goals go_ret2
 all_goals exact⟨rfl,HB3.out⟩
end
end Go.Proofs.YtoiajojadihpbaaGreatDoor
