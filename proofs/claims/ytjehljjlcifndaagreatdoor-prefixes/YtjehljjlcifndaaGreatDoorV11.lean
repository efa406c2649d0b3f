import Derived.Test.YtjehljjlcifndaaGreatDoorV10
namespace Go.Proofs.YtjehljjlcifndaaGreatDoor
set_option maxHeartbeats 32000000
set_option maxRecDepth 100000
section
open Go.RowKit
theorem hidden {p:Prop} (h:p):Hid p:=h
namespace Mip
def fd (m:Mbo) (F:List Flo):Nat->Bool->List E->Nat×Bool
 | f,d,[]=>(f,d)
 | f,d,q::r=>fd m F (if f=0 then perOf m F q else f) (d || (perOf m F q != 0 && perOf m F q != (if f=0 then perOf m F q else f))) r
def clash (m:Mbo) (F:List Flo) (l:List E) (pe:Nat):Bool:=(fd m F 0 false l).2 || ((fd m F 0 false l).1 != 0 && pe==0)
def pfault (m:Mbo) (F:List Flo):E->Option Nat
 | .nil=>none
 | .node t k x a b=>if t=0 then (pfault m F a).or (pfault m F b)
  else ((pfault m F a).or (pfault m F b)).or (if clash m F (kids (.node t k x a b)) (perOf m F (.node t k x a b)) then some x.2 else none)
def faultOf (m:Mbo) (F:List Flo):List E->Option Nat
 | []=>none
 | q::r=>(pfault m F q).or (faultOf m F r)
theorem pf_kids (m:Mbo) (F:List Flo):∀e:E,Mil.wf (er e) false->pfault m F e=(faultOf m F (kids e)).or (if clash m F (kids e) (perOf m F e) then some (pl e) else none):=by
 refine tree_induct ?_ ?_ ?_ ?_ ?_ ?_ ?_ ?_ ?_ ?_
 ·intro p k _;rfl
 ·intro p k _;rfl
 ·intro p x _;rfl
 ·intro p x a _ _;show ((pfault m F a).or none).or _=((pfault m F a).or none).or _;rfl
 ·intro p x a b _ _ _;show ((pfault m F a).or (pfault m F b)).or _=((pfault m F a).or ((pfault m F b).or none)).or _;rw[Option.or_none];rfl
 ·intro p y a b c _ _ _;show ((pfault m F a).or ((pfault m F b).or (pfault m F c))).or _=((pfault m F a).or ((pfault m F b).or ((pfault m F c).or none))).or _;rw[Option.or_none];rfl
 ·intro p a b _ _;show ((pfault m F a).or (pfault m F b)).or _=((pfault m F a).or ((pfault m F b).or none)).or _;rw[Option.or_none];rfl
 ·intro p a k _ _ _;show ((pfault m F a).or none).or _=((pfault m F a).or none).or _;rfl
 ·intro p a b k _ _ _ _;show ((pfault m F a).or (pfault m F b)).or _=((pfault m F a).or ((pfault m F b).or none)).or _;rw[Option.or_none];rfl
 ·intro p x a b _ _ _;show ((pfault m F a).or (pfault m F b)).or _=((pfault m F a).or ((pfault m F b).or none)).or _;rw[Option.or_none];rfl
theorem fault_none (m:Mbo) (F:List Flo):∀l:List E,(∀(i:Nat) (q:E),l[i]?=some q->pfault m F q=none)->faultOf m F l=none
 | [],_=>rfl
 | q::r,h=>by
  rw[faultOf,h 0 q rfl,fault_none m F r (fun i q' hq=>h (i+1) q' hq)];rfl
theorem fault_some (m:Mbo) (F:List Flo):∀(l:List E) (j:Nat) (q:E) (p:Nat),(∀(i:Nat) (q':E),i < j->l[i]?=some q'->pfault m F q'=none)->l[j]?=some q->pfault m F q=some p->faultOf m F l=some p
 | [],_,_,_,_,h,_=>by simp at h
 | q0::r,0,q,p,_,h,k=>by
  have e:q0=q:=by simpa using h
  rw[faultOf,e,k];rfl
 | q0::r,j+1,q,p,h0,h,k=>by
  rw[faultOf,h0 0 q0 (Nat.succ_pos _) rfl,fault_some m F r j q p (fun i q' hi hq=>h0 (i+1) q' (Nat.succ_lt_succ hi) hq) (by simpa using h) k];rfl
theorem fd_drop (m:Mbo) (F:List Flo) {f:Nat} {d:Bool} {l:List E} {j:Nat} {q:E} (h:l[j]?=some q):fd m F f d (l.drop j)=fd m F (if f=0 then perOf m F q else f) (d || (perOf m F q != 0 && perOf m F q != (if f=0 then perOf m F q else f))) (l.drop (j+1)):=by
 obtain⟨hj,rfl⟩:=lgs h
 rw[List.drop_eq_getElem_cons hj];rfl
end Mip
def Rk (N:Nat) (a:Nat->Addr) (k:Nat) (o:Option Nat) (w:World) (E:Ending) (w':World):Prop:=
 Below w.heap.size w w'/\((o=none/\E=.returned (.pointer none))\/∃p d,o=some p/\E=.returned (.pointer (some ⟨d,0,none⟩))/\Dg a w' d ((N:Int) - (p:Nat)) k)
def FC (N:Nat) (a:Nat->Addr) (c b n:Nat) (m:Mbo) (g:Nat) (F:List Flo) (e:Mip.E):Prop:=
 Mip.unres m e=none->∀w,Cw a c b n m g F w->Calls Tryz.prog 82 #[.pointer (some ⟨c,0,none⟩),ev N e] w (Rk N a 8 (Mip.pfault m F e) w)
theorem fault_node (N:Nat) (a:Nat->Addr) (c b n:Nat) (m:Mbo) (g:Nat) (F:List Flo) (hfit:Fit m F) (hF:∀f∈F,f.per<=1000000) (e:Mip.E) (hw:Mil.wf (Mip.er e) false) (hku:Mip.unres m e=none->∀q∈Mip.kids e,Mip.unres m q=none) (ih:∀q∈Mip.kids e,Mil.wf (Mip.er q) false/\FC N a c b n m g F q):FC N a c b n m g F e:=by
 intro hu w hC
 have HC:=hid hC
 have HP:Hid (Mip.pfault m F e=(Mip.faultOf m F (Mip.kids e)).or (if Mip.clash m F (Mip.kids e) (Mip.perOf m F e) then some (Mip.pl e) else none)):=Mip.pf_kids m F e hw
 have IH:Hid (∀q∈Mip.kids e,∀w,Cw a c b n m g F w->Calls Tryz.prog 82 #[.pointer (some ⟨c,0,none⟩),ev N q] w (Rk N a 8 (Mip.pfault m F q) w)):=fun q hq=>(ih q hq).2 (hku hu q hq)
 have IP:Hid (∀q∈Mip.kids e,∀w,Cw a c b n m g F w->Calls Tryz.prog 83 #[.pointer (some ⟨c,0,none⟩),ev N q] w (Pp (Mip.perOf m F q) w)):=fun q hq=>zb6 N a c b n m g F hfit hF q (ih q hq).1 (hku hu q hq)
 have IE:Hid (∀w,Cw a c b n m g F w->Calls Tryz.prog 83 #[.pointer (some ⟨c,0,none⟩),ev N e] w (Pp (Mip.perOf m F e) w)):=zb6 N a c b n m g F hfit hF e hw hu
 obtain⟨T,y,he,hpl⟩:=place_of N e hw
 have HO:=zby N e hw
 rw[he] at HO IE
 have HO':Hid (∀w,Calls Tryz.prog 112 #[.iface T y] w (OpPost N e w)):=HO
 clear hC ih HO hw hu hku hfit hF
 show Calls Tryz.prog 82 #[.pointer (some ⟨c,0,none⟩),ev N e] w _
 rw[he]
 clear he
 go_enter Tryz.func82,Tryz.ntmps82
 go_wp2_with fail
 refine (HO'.out _).mono ?_
 rintro E w1 ⟨hb1,v,rfl,hK⟩
 have HB1:=hid hb1
 have hl3:=Mip.kids_le e
 generalize hl:Mip.kids e=l at hK IH IP HP hl3
 clear hl
 obtain⟨gg,cc,rfl,HCL⟩:∃(gg:Option Addr) (cc:Nat),v=.slice gg l.length cc/\Hid (∀(j:Nat) (q:Mip.E),l[j]?=some q->∃k,gg=some ⟨k,0,none⟩/\w1.cell? ⟨k,j,none⟩=some (ev N q)):=by
  rcases hK with ⟨rfl,rfl⟩|⟨k,rfl,hcells⟩
  ·exact⟨none,0,rfl,fun j q hq=>by simp at hq⟩
  ·exact⟨some ⟨k,0,none⟩,l.length,rfl,fun j q hq=>⟨k,rfl,hcells j q hq⟩⟩
 have HL:=hid hl3
 clear hb1 hl3 hK
 go_wp2_with fail
 go_loopg [5,6,14] l.length (fun gk s5 s6 s14 wr=>∃(j f:Nat) (d:Bool),j<=l.length/\s5=.int .i64 (f:Nat)/\s6=.bool d/\s14=.int .i64 (j:Nat)/\gk=l.length - j/\Hid (Mip.fd m F 0 false l=Mip.fd m F f d (l.drop j))/\Hid (∀(i:Nat) (q:Mip.E),i < j->l[i]?=some q->Mip.pfault m F q=none)/\Hid (Below w.heap.size w wr)/\Hid (Below w1.heap.size w1 wr))
 case atStart=>exact⟨0,0,false,Nat.zero_le _,rfl,rfl,rfl,rfl,rfl,fun i q hi=>by omega,HB1,Below.refl _ _⟩
 case round=>
  obtain⟨j,f,d,hj,rfl,rfl,rfl,hg,HR,HPR,HW,HW1⟩:=hrel
  have HG:=hid hg
  clear hg
  by_cases hlt:j < l.length
  ·obtain⟨q,hq⟩:∃q,l[j]?=some q:=⟨_,List.getElem?_eq_getElem hlt⟩
   obtain⟨kk,rfl,hck⟩:=HCL.out j q hq
   have hcq:=(HW1.out.cell (zab hck)).trans hck
   have HQ:=hid hq
   have hmem:q∈l:=List.mem_of_getElem? hq
   have HR2:=hid (HR.out.trans (Mip.fd_drop m F hq))
   have hbig:=HL.out
   clear hq hck
   go_wp2_with fail
   refine (IH.out q hmem _ (HC.out.below HW.out)).mono ?_
   rintro E w2 ⟨hb2,hr⟩
   have HW2:=hid (zaa HW.out hb2)
   have HV2:=hid (zaa HW1.out hb2)
   rcases hr with ⟨hu,rfl⟩|⟨p,dd,hu,rfl,hd⟩
   ·have HU2:=hid hu
    have HPR2:Hid (∀(i:Nat) (q:Mip.E),i < j+1->l[i]?=some q->Mip.pfault m F q=none):=fun i q' hi hq'=>by
     rcases Nat.lt_or_ge i j with h|h
     ·exact HPR.out i q' h hq'
     ·have e:i=j:=by omega
      rw[e,HQ.out] at hq'
      rw[<-osi hq']
      exact HU2.out
    clear hb2 hu hcq
    go_wp2_with fail
    refine (IP.out q hmem _ (HC.out.below HW2.out)).mono ?_
    rintro E w3 ⟨hb3,rfl⟩
    have HW3:=hid (zaa HW2.out hb3)
    have HV3:=hid (zaa HV2.out hb3)
    generalize Mip.perOf m F q=pq at HR2
    clear hb3
    have step:∀(f':Nat) (d':Bool),Hid (f'=(if f=0 then pq else f)/\d'=(d || (pq != 0 && pq != (if f=0 then pq else f))))->∃(j' f0:Nat) (d0:Bool),j'<=l.length/\Value.int .i64 (f':Nat)=.int .i64 (f0:Nat)/\Value.bool d'=.bool d0/\Value.int .i64 ((j:Int)+1)=.int .i64 (j':Nat)/\l.length - (j+1)=l.length - j'/\Hid (Mip.fd m F 0 false l=Mip.fd m F f0 d0 (l.drop j'))/\Hid (∀(i:Nat) (q:Mip.E),i < j'->l[i]?=some q->Mip.pfault m F q=none)/\Hid (Below w.heap.size w w3)/\Hid (Below w1.heap.size w1 w3):=fun f' d' h=>by
     obtain⟨rfl,rfl⟩:=h.out
     exact⟨j+1,_,_,hlt,rfl,rfl,by simp,rfl,HR2,HPR2,HW3,HV3⟩
    have STEP:=hidden step
    clear step
    by_cases f0:f=0
    ·subst f0
     by_cases p0:pq=0
     ·subst p0
      cases d
      ·go_wp2
       go_roundg (l.length - (j+1))
       case measure=>have:=HG.out;omega
       case rel=>exact STEP.out _ _ ⟨by simp ,by simp ⟩
      ·go_wp2
       go_roundg (l.length - (j+1))
       case measure=>have:=HG.out;omega
       case rel=>exact STEP.out _ _ ⟨by simp ,by simp ⟩
     ·have p1:((pq:Int)==0)=false:=by simpa using p0
      have p2:(pq:Int)≠0:=by omega
      cases d
      ·go_wp2
       go_roundg (l.length - (j+1))
       case measure=>have:=HG.out;omega
       case rel=>exact STEP.out _ _ ⟨by simp ,by simp ⟩
      ·go_wp2
       go_roundg (l.length - (j+1))
       case measure=>have:=HG.out;omega
       case rel=>exact STEP.out _ _ ⟨by simp ,by simp ⟩
    ·have f1:((f:Int)==0)=false:=by simpa using f0
     have f2:(f:Int)≠0:=by omega
     by_cases p0:pq=0
     ·subst p0
      cases d
      ·go_wp2
       go_roundg (l.length - (j+1))
       case measure=>have:=HG.out;omega
       case rel=>exact STEP.out _ _ ⟨by first|rfl|(simp;done)|(simp[f0];done)|(simp[f0,pf];done)|(simp[f0,p0,pf];done),by first|rfl|(simp;done)|(simp[f0];done)|(simp[f0,pf];done)|(simp[f0,p0,pf];done)⟩
      ·go_wp2
       go_roundg (l.length - (j+1))
       case measure=>have:=HG.out;omega
       case rel=>exact STEP.out _ _ ⟨by first|rfl|(simp;done)|(simp[f0];done)|(simp[f0,pf];done)|(simp[f0,p0,pf];done),by first|rfl|(simp;done)|(simp[f0];done)|(simp[f0,pf];done)|(simp[f0,p0,pf];done)⟩
     ·have p1:((pq:Int)==0)=false:=by simpa using p0
      have p2:(pq:Int)≠0:=by omega
      by_cases pf:pq=f
      ·subst pf
       cases d
       ·go_wp2
        go_roundg (l.length - (j+1))
        case measure=>have:=HG.out;omega
        case rel=>exact STEP.out _ _ ⟨by first|rfl|(simp;done)|(simp[f0];done)|(simp[f0,pf];done)|(simp[f0,p0,pf];done),by first|rfl|(simp;done)|(simp[f0];done)|(simp[f0,pf];done)|(simp[f0,p0,pf];done)⟩
       ·go_wp2
        go_roundg (l.length - (j+1))
        case measure=>have:=HG.out;omega
        case rel=>exact STEP.out _ _ ⟨by first|rfl|(simp;done)|(simp[f0];done)|(simp[f0,pf];done)|(simp[f0,p0,pf];done),by first|rfl|(simp;done)|(simp[f0];done)|(simp[f0,pf];done)|(simp[f0,p0,pf];done)⟩
      ·have p3:((pq:Int)==(f:Int))=false:=by simp;omega
       have p4:(pq:Int)≠(f:Int):=by omega
       have p5:((pq:Int) != 0)=true:=by rw[bne_iff_ne];omega
       have p6:((pq:Int) != (f:Int))=true:=by rw[bne_iff_ne];omega
       cases d
       ·go_wp2
        go_roundg (l.length - (j+1))
        case measure=>have:=HG.out;omega
        case rel=>exact STEP.out _ _ ⟨by first|rfl|(simp;done)|(simp[f0];done)|(simp[f0,pf];done)|(simp[f0,p0,pf];done),by first|rfl|(simp;done)|(simp[f0];done)|(simp[f0,pf];done)|(simp[f0,p0,pf];done)⟩
       ·go_wp2
        go_roundg (l.length - (j+1))
        case measure=>have:=HG.out;omega
        case rel=>exact STEP.out _ _ ⟨by first|rfl|(simp;done)|(simp[f0];done)|(simp[f0,pf];done)|(simp[f0,p0,pf];done),by first|rfl|(simp;done)|(simp[f0];done)|(simp[f0,pf];done)|(simp[f0,p0,pf];done)⟩
   ·have HU2:=hid hu
    have HD:=hid hd
    clear hb2 hu hcq hd
    go_wp2
    go_ret
    refine⟨HW2.out,Or.inr ⟨p,dd,?_,rfl,HD.out⟩⟩
    rw[HP.out,Mip.fault_some m F l j q p HPR.out HQ.out HU2.out];rfl
  ·have hle:(l.length:Int)<=(j:Int):=by omega
   have HJ:Hid (j=l.length):=by show _=_;omega
   have HFD:Hid (Mip.fd m F 0 false l=(f,d)):=by have h:=HR.out;rw[HJ.out,List.drop_length] at h;exact h
   have HFN:Hid (Mip.pfault m F e=if (d || (f != 0 && Mip.perOf m F e==0)) then some (Mip.pl e) else none):=by
    show _=_
    rw[HP.out,Mip.fault_none m F l (fun i q hq=>HPR.out i q (by have:=(lgs hq).1;have:=HJ.out;omega) hq)]
    unfold Mip.clash
    rw[HFD.out];rfl
   have HE8:Hid (∀w',Below w.heap.size w w'->w'.cell? ⟨10,0,none⟩=some (errV (a 8))):=fun w' h=>(HC.out.below h).nm.ce.e8
   clear HR HPR HFD HP hlt
   cases d
   ·by_cases f0:f=0
    ·subst f0
     go_wp2
     go_ret
     exact⟨HW.out,Or.inl ⟨HFN.out,rfl⟩⟩
    ·have f1:((f:Int)==0)=false:=by simpa using f0
     have f2:(f:Int)≠0:=by omega
     have HF0:=hid f0
     clear f0
     go_wp2_with fail
     refine (IE.out _ (HC.out.below HW.out)).mono ?_
     rintro E w3 ⟨hb3,rfl⟩
     have HW3:=hid (zaa HW.out hb3)
     generalize Mip.perOf m F e=pe at HFN
     clear hb3 IE
     by_cases p0:pe=0
     ·subst p0
      have HFT:Hid (Mip.pfault m F e=some (Mip.pl e)):=by show _=_;have h:=HFN.out;simpa [HF0.out] using h
      have k8:∀w',Below w3.heap.size w3 w'->w'.cell? ⟨10,0,none⟩=some (errV (a 8)):=fun w' h=>HE8.out w' (zaa HW3.out h)
      clear HFN HE8
      go_wp2_with fail
      go_region_held3 (fun w'=>Below w3.heap.size w3 w') (first|assumption|exact brf.drew|exact Below.alloc (by assumption) (Below.size (by assumption)) _) (first
       | (go_at_call 239;(with_reducible refine (place_any _ _).mono ?_);rintro e w4 ⟨hbw4,rfl⟩;have hBw4:Below w3.heap.size w3 w4:=zaa (by assumption) hbw4))
      all_goals go_wp2
      all_goals go_ret
      all_goals exact⟨zaa (zaa HW3.out (by assumption)) (brf.alloc nlr _),Or.inr ⟨Mip.pl e,_,HFT.out,rfl,zda a _ _ rfl _ _⟩⟩
     ·have p1:((pe:Int)==0)=false:=by simpa using p0
      have p2:(pe:Int)≠0:=by omega
      have HFT:Hid (Mip.pfault m F e=none):=by show _=_;have h:=HFN.out;simpa [p0] using h
      clear HFN HE8 p0
      go_wp2
      go_ret
      exact⟨HW3.out,Or.inl ⟨HFT.out,rfl⟩⟩
   ·have HFT:Hid (Mip.pfault m F e=some (Mip.pl e)):=by show _=_;have h:=HFN.out;simpa using h
    have HW3:=HW
    have k8:∀w',Below wr.heap.size wr w'->w'.cell? ⟨10,0,none⟩=some (errV (a 8)):=fun w' h=>HE8.out w' (zaa HW3.out h)
    clear HFN HE8 IE
    go_wp2_with fail
    go_region_held3 (fun w'=>Below wr.heap.size wr w') (first|assumption|exact brf.drew|exact Below.alloc (by assumption) (Below.size (by assumption)) _) (first
     | (go_at_call 239;(with_reducible refine (place_any _ _).mono ?_);rintro e w4 ⟨hbw4,rfl⟩;have hBw4:Below wr.heap.size wr w4:=zaa (by assumption) hbw4))
    all_goals go_wp2
    all_goals go_ret
    all_goals exact⟨zaa (zaa HW3.out (by assumption)) (brf.alloc nlr _),Or.inr ⟨Mip.pl e,_,HFT.out,rfl,zda a _ _ rfl _ _⟩⟩
theorem periodFault_any (N:Nat) (a:Nat->Addr) (c b n:Nat) (m:Mbo) (g:Nat) (F:List Flo) (hfit:Fit m F) (hF:∀f∈F,f.per<=1000000):∀e,Mil.wf (Mip.er e) false->FC N a c b n m g F e:=
 Mip.tree_ind (fun p x _ hw=>fault_node N a c b n m g F hfit hF _ hw (fun _ q hq=>by cases hq) (fun q hq=>by cases hq))
  (fun e hw hn hk=>fault_node N a c b n m g F hfit hF e hw (fun hu=>Mip.first_each m _ (by rw[<-Mip.unres_kids m e hw hn];exact hu)) hk)
end
section
open Go.RowKit
theorem op_inj:∀i,i < 14->∀j,j < 14->opName i=opName j->i=j:=by decide
theorem operatorOf_at (a:Nat->Addr) (k:Nat) (hk:k < 14) (w:World) (L:Laid a w) :
  Calls Tryz.prog 152 #[.string (bs (opName k))] w fun e w'=>e=.returned (.agg #[.string (bs (opName k)),.int .i64 (opBind k),.int .i64 (opWant k),.int .i64 (opGive k)])/\Below w.heap.size w w':=by
 obtain⟨tq,ho⟩:=L.ops
 have hix:=fun (j:Nat) (h:j < 14) (w:World)=>index_ops j h w
 have HB0:Hid (Below w.heap.size w (w.alloc (.cells #[.string ⟨#[]⟩,.int .i64 0,.int .i64 0,.int .i64 0] 253))):=brf.alloc nlr _
 have HN0:Hid (NewFour (w.alloc (.cells #[.string ⟨#[]⟩,.int .i64 0,.int .i64 0,.int .i64 0] 253)) w.heap.size):=han w _
 have ho':(w.alloc (.cells #[.string ⟨#[]⟩,.int .i64 0,.int .i64 0,.int .i64 0] 253)).heap[17]?=some (.cells opCells tq (0,0)):=(HB0.out.block _ (ags ho).1).trans ho
 have HK:=hid hk
 clear L ho hk
 go_enter Tryz.func152,Tryz.ntmps152
 go_wp2_with (refine wpList_load_row rfl 277 _ rfl 17 rfl tq _ (0,0) _ ho' Tryz.underlying277 rfl (by kernel_rfl) ?_)
 clear ho'
 go_loopg [6] 14 (fun g s6 wr=>∃j:Nat,j<=k/\s6=.int .i64 j/\g=14 - j/\Hid (Below w.heap.size w wr)/\Hid (NewFour wr w.heap.size))
 case atStart=>exact⟨0,Nat.zero_le _,rfl,rfl,HB0,HN0⟩
 case round=>
  obtain⟨j,hj,rfl,hg,HB,HN⟩:=hrel
  have HG:=hid hg
  have HJ:=hid hj
  clear hg hj
  have hlt:j < 14:=by have:=HJ.out;have:=HK.out;omega
  have hi:=hix j hlt
  by_cases heq:j=k
  ·subst heq
   have hbq:((bs (opName j)).toList==(bs (opName j)).toList)=true:=by simp
   have HN':Hid (NewFour (wr.alloc (.cells #[.string (bs (opName j)),.int .i64 (opBind j),.int .i64 (opWant j),.int .i64 (opGive j)] 253)) w.heap.size):=HN.out.later (brf.alloc nlr _)
   obtain⟨r0,r1,r2,r3,z0,z1,z2,z3⟩:=HN'.out.facts
   go_wp2
   have q0:=zaf (v:=.int .i64 (opGive j)) (zaf (v:=.int .i64 (opWant j)) (zaf (v:=.int .i64 (opBind j)) (zaw (v:=.string (bs (opName j))) r0) (by decide:1≠0)) (by decide:2≠0)) (by decide:3≠0)
   have q1:=zaf (v:=.int .i64 (opGive j)) (zaf (v:=.int .i64 (opWant j)) (zaw (v:=.int .i64 (opBind j)) (zaf (v:=.string (bs (opName j))) r1 (by decide:0≠1))) (by decide:2≠1)) (by decide:3≠1)
   have q2:=zaf (v:=.int .i64 (opGive j)) (zaw (v:=.int .i64 (opWant j)) (zaf (v:=.int .i64 (opBind j)) (zaf (v:=.string (bs (opName j))) r2 (by decide:0≠2)) (by decide:1≠2))) (by decide:3≠2)
   have q3:=zaw (v:=.int .i64 (opGive j)) (zaf (v:=.int .i64 (opWant j)) (zaf (v:=.int .i64 (opBind j)) (zaf (v:=.string (bs (opName j))) r3 (by decide:0≠3)) (by decide:1≠3)) (by decide:2≠3))
   exact bodyPost_ret (v:=.agg #[.string (bs (opName j)),.int .i64 (opBind j),.int .i64 (opWant j),.int .i64 (opGive j)]) (by simp[results,Tryz.results152,go_sem,q0,q1,q2,q3]) rfl ⟨rfl,below_four (HB.out.alloc HB.out.size _) _ _ _ _⟩
  ·have hne:opName j≠opName k:=fun e=>heq (op_inj j hlt k HK.out e)
   have hbq:((bs (opName j)).toList==(bs (opName k)).toList)=false:=by rw[Lib.toList_data,Lib.toList_data,zcb,zcb];simpa using hne
   have HE:=hid heq
   clear heq hne
   go_wp2
   go_roundg (14 - (j+1))
   case measure=>have:=HG.out;omega
   case rel=>exact⟨j+1,by have:=HJ.out;have:=HE.out;omega,by go_num,rfl,HB.out.alloc HB.out.size _,HN.out.later (brf.alloc nlr _)⟩
theorem op_some {x:Mil.Bytes} (h:Mil.tightOf x≠9):∃k,k < 14/\x=opName k:=by
 apply Classical.byContradiction
 intro hno
 exact h (op_none (fun m hm e=>hno ⟨m,hm,e.symm⟩))
def opNo (x:Mil.Bytes):Nat:=(List.range 14).findIdx fun j=>opName j==x
namespace Mip
def preTy (x:Mil.Bytes):Nat:=if x=Mil.wNot then 1 else 0
def wantTy (x:Mil.Bytes):Nat:=(opWant (opNo x)).toNat
def giveTy (x:Mil.Bytes):Nat:=(opGive (opNo x)).toNat
def tyFlow (m:Mbo) (F:List Flo) (x:Mil.Bytes):Nat:=(F[((m x).getD 0).toNat]?.map Flo.ty).getD 0
def tyBy (m:Mbo) (F:List Flo) (t:Nat) (x:Mil.Bytes):List Nat->Nat×Bool
 | ts=>if t=1 then (0,true) else if t=2 then (1,true) else if t=3 then (tyFlow m F x,true)
  else if t=4 then (ts.getD 0 0,ts.getD 0 0==preTy x)
  else if t=5 then (giveTy x,ts.getD 0 0==ts.getD 1 0 && (wantTy x==2 || wantTy x==ts.getD 0 0))
  else if t=6 then (ts.getD 1 0,ts.getD 0 0==1 && ts.getD 1 0==ts.getD 2 0)
  else if t=7\/t=9 then (ts.getD 1 0,ts.getD 0 0==ts.getD 1 0)
  else if t=10 then (0,ts.getD 0 0==0 && ts.getD 1 0==0)
  else (ts.getD 0 0,true)
def tyPick (r:Nat×Bool):Option Nat:=if r.2 then some r.1 else none
def tyl (m:Mbo) (F:List Flo):E->Option (List Nat)
 | .nil=>some []
 | .node t _ x a b=>(tyl m F a).bind fun us=>(tyl m F b).bind fun vs=>if t=0 then some (us++vs) else (tyPick (tyBy m F t x.1 (us++vs))).map fun u=>[u]
def tyOf (m:Mbo) (F:List Flo) (e:E):Option Nat:=(tyl m F e).bind List.head?
def tyAll (m:Mbo) (F:List Flo):List E->Option (List Nat)
 | []=>some []
 | q::r=>(tyOf m F q).bind fun u=>(tyAll m F r).map fun us=>u::us
def tg:E->Nat
 | .nil=>0
 | .node t _ _ _ _=>t
def tx:E->Mil.Bytes
 | .nil=>[]
 | .node _ _ x _ _=>x.1
theorem zc5 (m:Mbo) (F:List Flo) {t k:Nat} {x:Mil.Bytes×Nat} {a b:E} (h:t≠0):tyl m F (.node t k x a b)=(tyOf m F (.node t k x a b)).map fun u=>[u]:=by
 unfold tyOf
 rw[tyl]
 cases tyl m F a with
 | none=>rfl
 | some us=>
  cases tyl m F b with
  | none=>rfl
  | some vs=>
   rw[Option.bind_some,Option.bind_some,if_neg h]
   cases tyPick (tyBy m F t x.1 (us++vs)) <;> rfl
theorem ty_all (m:Mbo) (F:List Flo):∀e:E,Mil.wf (er e) false->tyl m F e=(tyOf m F e).map fun u=>[u]:=by
 refine tree_induct ?_ ?_ ?_ ?_ ?_ ?_ ?_ ?_ ?_ ?_
 ·intro p k _;exact zc5 m F (by decide)
 ·intro p k _;exact zc5 m F (by decide)
 ·intro p x _;exact zc5 m F (by decide)
 ·intro p x a _ _;exact zc5 m F (by decide)
 ·intro p x a b _ _ _;exact zc5 m F (by decide)
 ·intro p y a b c _ _ _;exact zc5 m F (by decide)
 ·intro p a b _ _;exact zc5 m F (by decide)
 ·intro p a k _ _ _;exact zc5 m F (by decide)
 ·intro p a b k _ _ _ _;exact zc5 m F (by decide)
 ·intro p x a b _ _ _;exact zc5 m F (by decide)
def tyJoin (m:Mbo) (F:List Flo) (t:Nat) (x:Mil.Bytes) (us vs:Option (List Nat)):Option Nat:=us.bind fun us=>vs.bind fun vs=>tyPick (tyBy m F t x (us++vs))
theorem zdg (m:Mbo) (F:List Flo) {t k:Nat} {x:Mil.Bytes×Nat} {a b:E} (h:t≠0):tyOf m F (.node t k x a b)=tyJoin m F t x.1 (tyl m F a) (tyl m F b):=by
 unfold tyOf tyJoin
 rw[tyl]
 cases tyl m F a with
 | none=>rfl
 | some us=>
  cases tyl m F b with
  | none=>rfl
  | some vs=>
   show (if t=0 then some (us++vs) else (tyPick (tyBy m F t x.1 (us++vs))).map fun u=>[u]).bind List.head?=tyPick (tyBy m F t x.1 (us++vs))
   rw[if_neg h]
   cases tyPick (tyBy m F t x.1 (us++vs)) <;> rfl
theorem ty_kids (m:Mbo) (F:List Flo):∀e:E,Mil.wf (er e) false->tyOf m F e=(tyAll m F (kids e)).bind fun ts=>tyPick (tyBy m F (tg e) (tx e) ts):=by
 have one:∀(t:Nat) (x:Mil.Bytes) (o:Option Nat),tyJoin m F t x (o.map fun u=>[u]) (some [])=(o.bind fun u=>((some []).map fun us=>u::us)).bind fun ts=>tyPick (tyBy m F t x ts):=fun t x o=>by cases o <;> rfl
 have two:∀(t:Nat) (x:Mil.Bytes) (o o':Option Nat),tyJoin m F t x (o.map fun u=>[u]) (o'.map fun u=>[u])=(o.bind fun u=>((o'.bind fun u=>((some []).map fun us=>u::us)).map fun us=>u::us)).bind fun ts=>tyPick (tyBy m F t x ts):=fun t x o o'=>by cases o <;> cases o' <;> rfl
 refine tree_ind (fun p x hx _=>rfl) ?_
 intro e hw hn hk
 have h1:∀q∈kids e,tyl m F q=(tyOf m F q).map fun u=>[u]:=fun q hq=>ty_all m F q (hk q hq).1
 clear hk
 revert h1 hn
 revert e
 intro e hw
 refine tree_induct (Q:=fun e=>(∀p x,e≠eName p x)->(∀q∈kids e,tyl m F q=(tyOf m F q).map fun u=>[u])->tyOf m F e=(tyAll m F (kids e)).bind fun ts=>tyPick (tyBy m F (tg e) (tx e) ts)) ?_ ?_ ?_ ?_ ?_ ?_ ?_ ?_ ?_ ?_ e hw
 ·intro p k _ _ _;rfl
 ·intro p k _ _ _;rfl
 ·intro p x _ _ _;rfl
 ·intro p x a _ _ _ h;exact (zdg m F (by decide)).trans (by rw[h a (by simp[kids,ePre])];exact one 4 x _)
 ·intro p x a b _ _ _ _ h;exact (zdg m F (by decide)).trans (by rw[h a (by simp[kids,eTwo]),h b (by simp[kids,eTwo])];exact two 5 x _ _)
 ·intro p y a b c _ _ _ _ h
  refine (zdg m F (by decide)).trans ?_
  rw[tyl,h a (by simp[kids]),h b (by simp[kids]),h c (by simp[kids])]
  show _=((tyOf m F a).bind fun u=>((tyOf m F b).bind fun v=>((tyOf m F c).bind fun z=>((some []).map fun us=>z::us)).map fun us=>v::us).map fun us=>u::us).bind fun ts=>tyPick (tyBy m F 6 [] ts)
  cases tyOf m F a <;> cases tyOf m F b <;> cases tyOf m F c <;> rfl
 ·intro p a b _ _ _ h;exact (zdg m F (by decide)).trans (by rw[h a (by simp[kids,eFby]),h b (by simp[kids,eFby])];exact two 7 [] _ _)
 ·intro p a k _ _ _ _ h;exact (zdg m F (by decide)).trans (by rw[h a (by simp[kids,eUnder])];exact one 8 [] _)
 ·intro p a b k _ _ _ _ _ h;exact (zdg m F (by decide)).trans (by rw[h a (by simp[kids,eHold]),h b (by simp[kids,eHold])];exact two 9 [] _ _)
 ·intro p x a b _ _ _ _ h;exact (zdg m F (by decide)).trans (by rw[h a (by simp[kids,eLeast]),h b (by simp[kids,eLeast])];exact two 10 x _ _)
end Mip
end
section
variable {l next:List Nat} {f:Nat} {M:Nat → Bool} {nd:Nat → List Nat}
namespace Mip
abbrev Way (nd : Nat → List Nat) (a b : Nat) : Prop := Relation.TransGen (fun x y => y ∈ nd x) a b
structure Met (nd : Nat → List Nat) (f : Nat) (M : Nat → Bool) (next : List Nat) : Prop where
  no : M f = false
  from0 : ∀ x ∈ nd f, M x = true ∨ x ∈ next
  step : ∀ m, M m = true → ∀ x ∈ nd m, M x = true ∨ x ∈ next
  way : ∀ x ∈ next, Way nd f x
  wayM : ∀ m, M m = true → Way nd f m
theorem Met.start (nd : Nat → List Nat) (f : Nat) : Met nd f (fun _ => false) (nd f) :=
  ⟨rfl, fun x hx => Or.inr hx, (fun m h => by cases h), fun x hx => .single hx, (fun m h => by cases h)⟩
theorem Met.found (h : Met nd f M next) (hf : f ∈ next) : Way nd f f := h.way f hf
theorem Met.over (h : Met nd f M []) : ¬ Way nd f f := by
  have key : ∀ x, Way nd f x → M x = true := fun x hx => by
    induction hx with
    | single hb => rcases h.from0 _ hb with h1 | h1
                   · exact h1
                   · cases h1
    | tail _ hb ih => rcases h.step _ ih _ hb with h1 | h1
                      · exact h1
                      · cases h1
  intro hw
  have := key f hw
  rw [h.no] at this
  cases this
theorem Met.go {m:Nat} (h : Met nd f M (next ++ [m])) (hm : m ≠ f) : Met nd f (fun x => M x || x == m) (next ++ (if M m then [] else nd m)) := by
  have hw : Way nd f m := h.way m (by simp)
  have mv : ∀ x, (M x = true ∨ x ∈ next ++ [m]) → (M x || x == m) = true ∨ x ∈ next ++ (if M m then [] else nd m) := fun x hx => by
    rcases hx with hx | hx
    · left; simp [hx]
    · rcases List.mem_append.1 hx with hx | hx
      · right; exact List.mem_append_left _ hx
      · left; simp at hx; simp [hx]
  refine ⟨by simp [h.no, Ne.symm hm], fun x hx => mv x (h.from0 x hx), fun m' hm' x hx => ?_, fun x hx => ?_, fun m' hm' => ?_⟩
  · by_cases e : M m' = true
    · exact mv x (h.step m' e x hx)
    · have e1 : M m' = false := by simpa using e
      have e2 : m' = m := by simpa [e1] using hm'
      subst e2
      right
      rw [if_neg e]
      exact List.mem_append_right _ hx
  · rcases List.mem_append.1 hx with hx | hx
    · exact h.way x (List.mem_append_left _ hx)
    · split at hx
      · cases hx
      · exact .tail hw hx
  · by_cases e : M m' = true
    · exact h.wayM m' e
    · have e1 : M m' = false := by simpa using e
      have e2 : m' = m := by simpa [e1] using hm'
      rw [e2]; exact hw
def work (nd : Nat → List Nat) (M : Nat → Bool) : Nat → Nat
  | 0 => 0
  | k + 1 => work nd M k + if M k then 0 else (nd k).length
theorem work_same (nd : Nat → List Nat) (M : Nat → Bool) (m : Nat) : ∀ K, K ≤ m → work nd (fun x => M x || x == m) K = work nd M K
  | 0, _ => rfl
  | k + 1, h => by
    rw [work, work, work_same nd M m k (by omega)]
    have : (k == m) = false := by simp; omega
    simp [this]
theorem work_go (nd : Nat → List Nat) (M : Nat → Bool) (m : Nat) : ∀ K, m < K → work nd (fun x => M x || x == m) K + (if M m then [] else nd m).length = work nd M K
  | 0, h => by omega
  | k + 1, h => by
    rw [work, work]
    by_cases e : m = k
    · subst e
      rw [work_same nd M m m (Nat.le_refl _)]
      by_cases hM : M m = true
      · simp [hM]
      · simp [hM]
    · have ih := work_go nd M m k (by omega)
      have e2 : (k == m) = false := by simp; omega
      simp only [e2, Bool.or_false]
      omega
theorem no_way_of_rank (r : Nat → Nat) (h : ∀ a b, b ∈ nd a → r b < r a) (f : Nat) : ¬ Way nd f f := by
  have key : ∀ x, Way nd f x → r x < r f := fun x hx => by
    induction hx with
    | single hb => exact h _ _ hb
    | tail _ hb ih => exact Nat.lt_trans (h _ _ hb) ih
  intro hw
  exact Nat.lt_irrefl _ (key f hw)
def rdy (nd : Nat → List Nat) (l acc : List Nat) (f : Nat) : Bool := !acc.contains f && (nd f).all fun x => !(l.contains x && !acc.contains x)
def ord (nd : Nat → List Nat) (l : List Nat) : Nat → List Nat → List Nat
  | 0, acc => acc
  | n + 1, acc => match l.find? (rdy nd l acc) with
    | none => ord nd l n acc
    | some f => ord nd l n (acc ++ [f])
theorem some_rdy {acc:List Nat} (hc : ∀ f ∈ l, ¬ Way nd f f) (q : Nat) (hq : q ∈ l) (hqa : q ∉ acc) : ∃ f ∈ l, rdy nd l acc f = true := by
  classical
  have key : ∀ n q, q ∈ l → q ∉ acc → (l.filter fun x => decide (Way nd q x)).length ≤ n → ∃ f ∈ l, rdy nd l acc f = true := by
    intro n
    induction n with
    | zero =>
      intro q hq hqa hn
      refine ⟨q, hq, ?_⟩
      have h0 : l.filter (fun x => decide (Way nd q x)) = [] := List.length_eq_zero_iff.1 (by omega)
      unfold rdy
      simp only [Bool.and_eq_true, List.all_eq_true]
      refine ⟨by simpa using hqa, fun x hx => ?_⟩
      by_cases hl : x ∈ l
      · exfalso
        have : x ∈ l.filter (fun x => decide (Way nd q x)) := List.mem_filter.2 ⟨hl, by simpa using .single hx⟩
        rw [h0] at this; cases this
      · simp [hl]
    | succ n ih =>
      intro q hq hqa hn
      by_cases hr : rdy nd l acc q = true
      · exact ⟨q, hq, hr⟩
      · have : ∃ x ∈ nd q, x ∈ l ∧ x ∉ acc := by
          apply Classical.byContradiction
          intro hno
          apply hr
          unfold rdy
          simp only [Bool.and_eq_true, List.all_eq_true]
          refine ⟨by simpa using hqa, fun x hx => ?_⟩
          by_cases h1 : x ∈ l
          · by_cases h2 : x ∈ acc
            · simp [h2]
            · exact absurd ⟨x, hx, h1, h2⟩ hno
          · simp [h1]
        obtain ⟨x, hx, hxl, hxa⟩ := this
        refine ih x hxl hxa ?_
        have sub : ∀ y, Way nd x y → Way nd q y := fun y hy => by
          induction hy with
          | single hb => exact .tail (.single hx) hb
          | tail _ hb ih => exact .tail ih hb
        have hsub : (l.filter fun y => decide (Way nd x y)).length < (l.filter fun y => decide (Way nd q y)).length := by
          have h1 : l.filter (fun y => decide (Way nd x y)) = (l.filter fun y => decide (Way nd q y)).filter (fun y => decide (Way nd x y)) := by
            rw [List.filter_filter]
            apply List.filter_congr
            intro y _
            by_cases hy : Way nd x y
            · simp [hy, sub y hy]
            · simp [hy]
          rw [h1]
          refine Nat.lt_of_le_of_ne (List.length_filter_le _ _) (fun e => ?_)
          have h2 := (List.length_filter_eq_length_iff.1 e) x (List.mem_filter.2 ⟨hxl, by simpa using .single hx⟩)
          exact hc x hxl (by simpa using h2)
        omega
  exact key _ q hq hqa (Nat.le_refl _)
theorem len_le : ∀ (l l' : List Nat), l.Nodup → (∀ x ∈ l, x ∈ l') → l.length ≤ l'.length
  | [], _, _, _ => Nat.zero_le _
  | a :: r, l', hn, hs => by
    have h1 := List.nodup_cons.1 hn
    have ha := hs a (by simp)
    have ih := len_le r (l'.erase a) h1.2 (fun x hx => (List.mem_erase_of_ne (fun (e : x = a) => h1.1 (by rw [← e]; exact hx))).2 (hs x (by simp [hx])))
    rw [List.length_erase_of_mem ha] at ih
    have := List.length_pos_of_mem ha
    rw [List.length_cons]
    omega
theorem ord_all (hc : ∀ f ∈ l, ¬ Way nd f f) (hl : l.Nodup) : ∀ (n : Nat) (acc : List Nat), acc.Nodup → (∀ x ∈ acc, x ∈ l) → acc.length + n = l.length → (ord nd l n acc).Nodup ∧ ∀ x, x ∈ ord nd l n acc ↔ x ∈ l
  | 0, acc, hn, hs, he => by
    refine ⟨hn, fun x => ⟨hs x, fun hx => ?_⟩⟩
    rw [ord]
    refine Classical.byContradiction fun h => ?_
    have := len_le (x :: acc) l (List.nodup_cons.2 ⟨h, hn⟩) (fun y hy => by
      rcases List.mem_cons.1 hy with rfl | hy
      · exact hx
      · exact hs y hy)
    rw [List.length_cons] at this
    omega
  | n + 1, acc, hn, hs, he => by
    rw [ord]
    have : ∃ q ∈ l, q ∉ acc := by
      apply Classical.byContradiction
      intro hno
      have hs' : ∀ x ∈ l, x ∈ acc := fun x hx => Classical.byContradiction fun h => hno ⟨x, hx, h⟩
      have := len_le l acc hl hs'
      omega
    obtain ⟨q, hq, hqa⟩ := this
    obtain ⟨f, hf, hr⟩ := some_rdy (acc := acc) hc q hq hqa
    cases h : l.find? (rdy nd l acc) with
    | none =>
      have := List.find?_eq_none.1 h f hf
      exact absurd hr this
    | some g =>
      have hg := List.find?_some h
      have hgl := List.mem_of_find?_eq_some h
      have hga : g ∉ acc := by
        unfold rdy at hg
        simp only [Bool.and_eq_true] at hg
        simpa using hg.1
      refine ord_all hc hl n (acc ++ [g]) ?_ (fun x hx => ?_) (by simp; omega)
      · rw [List.nodup_append]
        exact ⟨hn, by simp, fun a ha b hb => by simp at hb; subst hb; intro e; exact hga (e ▸ ha)⟩
      · rcases List.mem_append.1 hx with h1 | h1
        · exact hs x h1
        · simp at h1; rw [h1]; exact hgl
end Mip
end
section
variable {F:List Flo}
structure Nq where
 nm:Mil.Bytes
 at_:Nat
 ty:Nat
 body:Mip.E
 flow:Nat
structure Ds where
 m:Mbo
 F:List Flo
 Q:List Nq
 om:Mbo
def Ds.zero:Ds:=⟨fun _=>none,[],[],fun _=>none⟩
def Ds.inp (s:Ds) (i:Mip.It):Ds:=⟨upd s.m i.nm (s.F.length:Nat),s.F++[⟨i.nm,i.ty,i.every,true,false⟩],s.Q,s.om⟩
def Ds.eqn (s:Ds) (i:Mip.It):Ds:=⟨upd s.m i.nm (s.F.length:Nat),s.F++[⟨i.nm,i.ty,0,false,false⟩],s.Q++[⟨i.nm,i.at_,i.ty,i.body,s.F.length⟩],s.om⟩
def decl (N:Nat):Ds->List Mip.It->Option Nat×Ds
 | s,[]=>(none,s)
 | s,i::r=>
  if i.kind=1 then (if (s.m i.nm).isSome then (some i.at_,s) else decl N (s.inp i) r)
  else if i.kind=3 then (if (s.m i.nm).isSome then (some i.at_,s) else decl N (s.eqn i) r)
  else if ((entAll N s.om i.names).1).isSome then ((entAll N s.om i.names).1,s) else decl N ⟨s.m,s.F,s.Q,(entAll N s.om i.names).2⟩ r
def reso (m:Mbo):List Flo->List Mip.It->Option Nat×List Flo
 | F,[]=>(none,F)
 | F,i::r=>
  if i.kind=3 then (if (Mip.unres m i.body).isSome then (Mip.unres m i.body,F) else reso m F r)
  else if i.kind=2 then (if ((markAll m F i.names).1).isSome then ((markAll m F i.names).1,F) else reso m (markAll m F i.names).2 r)
  else reso m F r
theorem decl_drop (N:Nat) {s:Ds} {l:List Mip.It} {j:Nat} {i:Mip.It} (h:l[j]?=some i):decl N s (l.drop j)=decl N s (i::l.drop (j+1)):=by
 obtain⟨hj,rfl⟩:=lgs h
 rw[List.drop_eq_getElem_cons hj]
theorem reso_drop (m:Mbo) {F:List Flo} {l:List Mip.It} {j:Nat} {i:Mip.It} (h:l[j]?=some i):reso m F (l.drop j)=reso m F (i::l.drop (j+1)):=by
 obtain⟨hj,rfl⟩:=lgs h
 rw[List.drop_eq_getElem_cons hj]
def IOk (i:Mip.It):Prop:=
 (i.kind=1/\Mil.NameOk i.nm/\(i.ty=0\/i.ty=1)/\1<=i.every/\i.every<=1000000)\/(i.kind=2/\∀y∈i.names,Mil.NameOk y.1) \/
 (i.kind=3/\Mil.NameOk i.nm/\(i.ty=0\/i.ty=1)/\Mil.wf (Mip.er i.body) false)
structure Fq (m:Mbo) (F:List Flo) (Q:List Nq):Prop where
 fit:Fit' m F
 eqf:∀q∈Q,∃f,F[q.flow]?=some f/\f.inp=false
 fe:∀i f,F[i]?=some f->f.inp=false->∃q∈Q,q.flow=i
 up:(Q.map Nq.flow).Pairwise (· < ·)
 inp:∀f∈F,f.inp=true->1<=f.per
 per:∀f∈F,f.per<=1000000
 ty:∀f∈F,f.ty=0\/f.ty=1
 wf:∀q∈Q,Mil.wf (Mip.er q.body) false/\Mil.NameOk q.nm/\(q.ty=0\/q.ty=1)
theorem Fq.zero:Fq Ds.zero.m Ds.zero.F Ds.zero.Q:=
 ⟨(fun x k h=>by cases h),(fun q h=>by cases h),(fun i f h=>by simp[Ds.zero] at h),List.Pairwise.nil,(fun f h=>by cases h),(fun f h=>by cases h),(fun f h=>by cases h),(fun q h=>by cases h)⟩
theorem fit_grow {m:Mbo} (h:Fit' m F) (x:Mil.Bytes) (f:Flo):Fit' (upd m x (F.length:Nat)) (F++[f]):=fun y k hk=>by
 by_cases e:y=x
 ·have e1:upd m x (F.length:Nat) y=some (F.length:Nat):=if_pos e
  rw[e1] at hk
  exact⟨F.length,(osi hk).symm,by simp⟩
 ·have e1:upd m x (F.length:Nat) y=m y:=if_neg e
  rw[e1] at hk
  obtain⟨i,h1,h2⟩:=h y k hk
  exact⟨i,h1,by simp;omega⟩
theorem at_grow {f g:Flo} {i:Nat} (h:(F++[f])[i]?=some g):F[i]?=some g\/(i=F.length/\g=f):=by
 rcases Nat.lt_or_ge i F.length with hi|hi
 ·rw[List.getElem?_append_left hi] at h;exact Or.inl h
 ·rw[List.getElem?_append_right hi] at h
  rcases Nat.eq_zero_or_pos (i - F.length) with h0|h0
  ·rw[h0] at h
   exact Or.inr ⟨by omega,by simpa using h.symm⟩
  ·rw[List.getElem?_eq_none (by simp;omega)] at h;cases h
theorem Fq.inp_ {s:Ds} (h:Fq s.m s.F s.Q) {i:Mip.It} (hi:IOk i) (hk:i.kind=1):Fq (s.inp i).m (s.inp i).F (s.inp i).Q:=by
 obtain⟨_,hn,ht,h1,h2⟩|⟨h0,_⟩|⟨h0,_⟩:=hi
 ·refine⟨fit_grow h.fit _ _,fun q hq=>?_,fun j f hj hf=>?_,h.up,fun f hf=>?_,fun f hf=>?_,fun f hf=>?_,h.wf⟩
  ·obtain⟨f,e1,e2⟩:=h.eqf q hq
   exact⟨f,(List.getElem?_append_left (lgs e1).1).trans e1,e2⟩
  ·rcases at_grow hj with e|⟨_,e⟩
   ·exact h.fe j f e hf
   ·rw[e] at hf;cases hf
  ·rcases List.mem_append.1 hf with e|e
   ·exact h.inp f e
   ·simp at e;rw[e];exact fun _=>h1
  ·rcases List.mem_append.1 hf with e|e
   ·exact h.per f e
   ·simp at e;rw[e];exact h2
  ·rcases List.mem_append.1 hf with e|e
   ·exact h.ty f e
   ·simp at e;rw[e];exact ht
 ·omega
 ·omega
theorem Fq.eqn_ {s:Ds} (h:Fq s.m s.F s.Q) {i:Mip.It} (hi:IOk i) (hk:i.kind=3):Fq (s.eqn i).m (s.eqn i).F (s.eqn i).Q:=by
 obtain⟨h0,_⟩|⟨h0,_⟩|⟨_,hn,ht,hw⟩:=hi
 ·omega
 ·omega
 ·refine⟨fit_grow h.fit _ _,fun q hq=>?_,fun j f hj hf=>?_,?_,fun f hf=>?_,fun f hf=>?_,fun f hf=>?_,fun q hq=>?_⟩
  ·rcases List.mem_append.1 hq with e|e
   ·obtain⟨f,e1,e2⟩:=h.eqf q e
    exact⟨f,(List.getElem?_append_left (lgs e1).1).trans e1,e2⟩
   ·simp at e;rw[e]
    exact⟨⟨i.nm,i.ty,0,false,false⟩,by show (s.F++_)[s.F.length]?=_;rw[List.getElem?_append_right nlr];simp,rfl⟩
  ·rcases at_grow hj with e|⟨e,_⟩
   ·obtain⟨q,e1,e2⟩:=h.fe j f e hf
    exact⟨q,List.mem_append_left _ e1,e2⟩
   ·exact⟨⟨i.nm,i.at_,i.ty,i.body,s.F.length⟩,List.mem_append_right _ (by simp),e.symm⟩
  ·show ((s.Q++_).map Nq.flow).Pairwise (· < ·)
   rw[List.map_append,List.pairwise_append]
   refine⟨h.up,by simp,fun a ha b hb=>?_⟩
   simp at hb
   obtain⟨q,e1,e2⟩:=List.mem_map.1 ha
   obtain⟨f,e3,_⟩:=h.eqf q e1
   have:=(lgs e3).1
   omega
  ·rcases List.mem_append.1 hf with e|e
   ·exact h.inp f e
   ·simp at e;rw[e];intro e';cases e'
  ·rcases List.mem_append.1 hf with e|e
   ·exact h.per f e
   ·simp at e;rw[e];exact Nat.zero_le _
  ·rcases List.mem_append.1 hf with e|e
   ·exact h.ty f e
   ·simp at e;rw[e];exact ht
  ·rcases List.mem_append.1 hq with e|e
   ·exact h.wf q e
   ·simp at e;rw[e];exact⟨hw,hn,ht⟩
theorem decl_ok (N:Nat):∀(l:List Mip.It) (s:Ds),(∀i∈l,IOk i)->Fq s.m s.F s.Q->(decl N s l).1=none->Fq (decl N s l).2.m (decl N s l).2.F (decl N s l).2.Q
 | [],s,_,h,_=>h
 | i::r,s,hl,h,hn=>by
  have hi:=hl i (by simp)
  have hr:∀i∈r,IOk i:=fun j hj=>hl j (by simp[hj])
  rw[decl] at hn ⊢
  by_cases k1:i.kind=1
  ·rw[if_pos k1] at hn ⊢
   by_cases k2:(s.m i.nm).isSome=true
   ·rw[if_pos k2] at hn;cases hn
   ·rw[if_neg k2] at hn ⊢
    exact decl_ok N r _ hr (h.inp_ hi k1) hn
  ·rw[if_neg k1] at hn ⊢
   by_cases k3:i.kind=3
   ·rw[if_pos k3] at hn ⊢
    by_cases k2:(s.m i.nm).isSome=true
    ·rw[if_pos k2] at hn;cases hn
    ·rw[if_neg k2] at hn ⊢
     exact decl_ok N r _ hr (h.eqn_ hi k3) hn
   ·rw[if_neg k3] at hn ⊢
    by_cases k2:((entAll N s.om i.names).1).isSome=true
    ·rw[if_pos k2] at hn
     rw[hn] at k2;cases k2
    ·rw[if_neg k2] at hn ⊢
     exact decl_ok N r _ hr h hn
end
end Go.Proofs.YtjehljjlcifndaaGreatDoor
