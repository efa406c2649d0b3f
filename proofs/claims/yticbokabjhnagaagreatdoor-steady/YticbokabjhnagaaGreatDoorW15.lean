import Derived.Test.YticbokabjhnagaaGreatDoorW14
import Derived.Test.YticbokabjhnagaaGreatDoorW13
namespace Go.Proofs.YticbokabjhnagaaGreatDoor
set_option maxHeartbeats 32000000
section
open Go.RowKit
theorem hidden {p:Prop} (h:p):Hid p:=h
namespace Mip
def fd (m:Mil.Bytes→Option Int) (F:List Flo):Nat→Bool→List E→Nat×Bool
 | f,d,[]=>(f,d)
 | f,d,q::r=>fd m F (if f=0 then perOf m F q else f) (d || (perOf m F q != 0 && perOf m F q != (if f=0 then perOf m F q else f))) r
def clash (m:Mil.Bytes→Option Int) (F:List Flo) (l:List E) (pe:Nat):Bool:=(fd m F 0 false l).2 || ((fd m F 0 false l).1 != 0 && pe==0)
def pfault (m:Mil.Bytes→Option Int) (F:List Flo):E→Option Nat
 | .nil=>none
 | .node t k x a b=>if t=0 then (pfault m F a).or (pfault m F b)
  else ((pfault m F a).or (pfault m F b)).or (if clash m F (kids (.node t k x a b)) (perOf m F (.node t k x a b)) then some x.2 else none)
def faultOf (m:Mil.Bytes→Option Int) (F:List Flo):List E→Option Nat
 | []=>none
 | q::r=>(pfault m F q).or (faultOf m F r)
theorem pf_kids (m:Mil.Bytes→Option Int) (F:List Flo):∀e:E,Mil.wf (er e) false→pfault m F e=(faultOf m F (kids e)).or (if clash m F (kids e) (perOf m F e) then some (pl e) else none):=by
 refine tree_induct ?_ ?_ ?_ ?_ ?_ ?_ ?_ ?_ ?_ ?_
 ·intro p k _;rfl
 ·intro p k _;rfl
 ·intro p x _;rfl
 ·intro p x a _ _;show ((pfault m F a).or none).or _=((pfault m F a).or none).or _;rfl
 ·intro p x a b _ _ _;show ((pfault m F a).or (pfault m F b)).or _=((pfault m F a).or ((pfault m F b).or none)).or _;rw [Option.or_none];rfl
 ·intro p y a b c _ _ _;show ((pfault m F a).or ((pfault m F b).or (pfault m F c))).or _=((pfault m F a).or ((pfault m F b).or ((pfault m F c).or none))).or _;rw [Option.or_none];rfl
 ·intro p a b _ _;show ((pfault m F a).or (pfault m F b)).or _=((pfault m F a).or ((pfault m F b).or none)).or _;rw [Option.or_none];rfl
 ·intro p a k _ _ _;show ((pfault m F a).or none).or _=((pfault m F a).or none).or _;rfl
 ·intro p a b k _ _ _ _;show ((pfault m F a).or (pfault m F b)).or _=((pfault m F a).or ((pfault m F b).or none)).or _;rw [Option.or_none];rfl
 ·intro p x a b _ _ _;show ((pfault m F a).or (pfault m F b)).or _=((pfault m F a).or ((pfault m F b).or none)).or _;rw [Option.or_none];rfl
theorem fault_none (m:Mil.Bytes→Option Int) (F:List Flo):∀l:List E,(∀(i:Nat) (q:E),l[i]?=some q→pfault m F q=none)→faultOf m F l=none
 | [],_=>rfl
 | q::r,h=>by
  rw [faultOf,h 0 q rfl,fault_none m F r (fun i q' hq=>h (i+1) q' hq)];rfl
theorem fault_some (m:Mil.Bytes→Option Int) (F:List Flo):∀(l:List E) (j:Nat) (q:E) (p:Nat),(∀(i:Nat) (q':E),i < j→l[i]?=some q'→pfault m F q'=none)→l[j]?=some q→pfault m F q=some p→faultOf m F l=some p
 | [],_,_,_,_,h,_=>by simp at h
 | q0::r,0,q,p,_,h,k=>by
  have e:q0=q:=by simpa using h
  rw [faultOf,e,k];rfl
 | q0::r,j+1,q,p,h0,h,k=>by
  rw [faultOf,h0 0 q0 (Nat.succ_pos _) rfl,fault_some m F r j q p (fun i q' hi hq=>h0 (i+1) q' (Nat.succ_lt_succ hi) hq) (by simpa using h) k];rfl
theorem fd_drop (m:Mil.Bytes→Option Int) (F:List Flo) {f:Nat} {d:Bool} {l:List E} {j:Nat} {q:E} (h:l[j]?=some q):fd m F f d (l.drop j)=fd m F (if f=0 then perOf m F q else f) (d || (perOf m F q != 0 && perOf m F q != (if f=0 then perOf m F q else f))) (l.drop (j+1)):=by
 obtain ⟨hj,rfl⟩:=List.getElem?_eq_some_iff.1 h
 rw [List.drop_eq_getElem_cons hj];rfl
end Mip
def Rk (N:Nat) (a:Nat→Addr) (k:Nat) (o:Option Nat) (w:World) (E:Ending) (w':World):Prop:=
 Below w.heap.size w w'∧((o=none∧E=.returned (.pointer none))∨∃p d,o=some p∧E=.returned (.pointer (some ⟨d,0,none⟩))∧Dg a w' d ((N:Int) - (p:Nat)) k)
def FC (N:Nat) (a:Nat→Addr) (c b n:Nat) (m:Mil.Bytes→Option Int) (g:Nat) (F:List Flo) (e:Mip.E):Prop:=
 Mip.unres m e=none→∀w,Cw a c b n m g F w→Calls Tryz.prog 60 #[.pointer (some ⟨c,0,none⟩),ev N e] w (Rk N a 8 (Mip.pfault m F e) w)
set_option maxRecDepth 100000 in
theorem fault_node (N:Nat) (a:Nat→Addr) (c b n:Nat) (m:Mil.Bytes→Option Int) (g:Nat) (F:List Flo) (hfit:Fit m F) (hF:∀f∈F,f.per≤1000000) (e:Mip.E) (hw:Mil.wf (Mip.er e) false) (hku:Mip.unres m e=none→∀q∈Mip.kids e,Mip.unres m q=none) (ih:∀q∈Mip.kids e,Mil.wf (Mip.er q) false∧FC N a c b n m g F q):FC N a c b n m g F e:=by
 intro hu w hC
 have HC:Hid (Cw a c b n m g F w):=hC
 have HP:Hid (Mip.pfault m F e=(Mip.faultOf m F (Mip.kids e)).or (if Mip.clash m F (Mip.kids e) (Mip.perOf m F e) then some (Mip.pl e) else none)):=Mip.pf_kids m F e hw
 have IH:Hid (∀q∈Mip.kids e,∀w,Cw a c b n m g F w→Calls Tryz.prog 60 #[.pointer (some ⟨c,0,none⟩),ev N q] w (Rk N a 8 (Mip.pfault m F q) w)):=fun q hq=>(ih q hq).2 (hku hu q hq)
 have IP:Hid (∀q∈Mip.kids e,∀w,Cw a c b n m g F w→Calls Tryz.prog 61 #[.pointer (some ⟨c,0,none⟩),ev N q] w (Pp (Mip.perOf m F q) w)):=fun q hq=>periodOf_any N a c b n m g F hfit hF q (ih q hq).1 (hku hu q hq)
 have IE:Hid (∀w,Cw a c b n m g F w→Calls Tryz.prog 61 #[.pointer (some ⟨c,0,none⟩),ev N e] w (Pp (Mip.perOf m F e) w)):=periodOf_any N a c b n m g F hfit hF e hw hu
 obtain ⟨T,y,he,hpl⟩:=place_of N e hw
 have HO:=operands_any N e hw
 rw [he] at HO IE
 have HO':Hid (∀w,Calls Tryz.prog 89 #[.iface T y] w (OpPost N e w)):=HO
 clear hC ih HO hw hu hku hfit hF
 show Calls Tryz.prog 60 #[.pointer (some ⟨c,0,none⟩),ev N e] w _
 rw [he]
 clear he
 go_enter Tryz.func60,Tryz.ntmps60
 go_wp2_with fail
 refine (HO'.out _).mono ?_
 rintro E w1 ⟨hb1,v,rfl,hK⟩
 have HB1:Hid (Below w.heap.size w w1):=hb1
 have hl3:=Mip.kids_le e
 generalize hl:Mip.kids e=l at hK IH IP HP hl3
 clear hl
 obtain ⟨gg,cc,rfl,HCL⟩:∃(gg:Option Addr) (cc:Nat),v=.slice gg l.length cc∧Hid (∀(j:Nat) (q:Mip.E),l[j]?=some q→∃k,gg=some ⟨k,0,none⟩∧w1.cell? ⟨k,j,none⟩=some (ev N q)):=by
  rcases hK with ⟨rfl,rfl⟩ | ⟨k,rfl,hcells⟩
  ·exact ⟨none,0,rfl,fun j q hq=>by simp at hq⟩
  ·exact ⟨some ⟨k,0,none⟩,l.length,rfl,fun j q hq=>⟨k,rfl,hcells j q hq⟩⟩
 have HL:Hid (l.length≤3):=hl3
 clear hb1 hl3 hK
 go_wp2_with fail
 go_loopg [5,6,14] l.length (fun gk s5 s6 s14 wr=>∃(j f:Nat) (d:Bool),j≤l.length∧s5=.int .i64 (f:Nat)∧s6=.bool d∧s14=.int .i64 (j:Nat)∧gk=l.length - j∧Hid (Mip.fd m F 0 false l=Mip.fd m F f d (l.drop j))∧Hid (∀(i:Nat) (q:Mip.E),i < j→l[i]?=some q→Mip.pfault m F q=none)∧Hid (Below w.heap.size w wr)∧Hid (Below w1.heap.size w1 wr))
 case atStart=>exact ⟨0,0,false,Nat.zero_le _,rfl,rfl,rfl,rfl,rfl,fun i q hi=>by omega,HB1,Below.refl _ _⟩
 case round=>
  obtain ⟨j,f,d,hj,rfl,rfl,rfl,hg,HR,HPR,HW,HW1⟩:=hrel
  have HG:Hid (gk=l.length - j):=hg
  clear hg
  by_cases hlt:j < l.length
  ·obtain ⟨q,hq⟩:∃q,l[j]?=some q:=⟨_,List.getElem?_eq_getElem hlt⟩
   obtain ⟨kk,rfl,hck⟩:=HCL.out j q hq
   have hcq:=(HW1.out.cell (lt_of_cell hck)).trans hck
   have HQ:Hid (l[j]?=some q):=hq
   have hmem:q∈l:=List.mem_of_getElem? hq
   have HR2:Hid (Mip.fd m F 0 false l=_):=HR.out.trans (Mip.fd_drop m F hq)
   have hbig:=HL.out
   clear hq hck
   go_wp2_with fail
   refine (IH.out q hmem _ (HC.out.below HW.out)).mono ?_
   rintro E w2 ⟨hb2,hr⟩
   have HW2:Hid (Below w.heap.size w w2):=below_step HW.out hb2
   have HV2:Hid (Below w1.heap.size w1 w2):=below_step HW1.out hb2
   rcases hr with ⟨hu,rfl⟩ | ⟨p,dd,hu,rfl,hd⟩
   ·have HU2:Hid (Mip.pfault m F q=none):=hu
    have HPR2:Hid (∀(i:Nat) (q:Mip.E),i < j+1→l[i]?=some q→Mip.pfault m F q=none):=fun i q' hi hq'=>by
     rcases Nat.lt_or_ge i j with h | h
     ·exact HPR.out i q' h hq'
     ·have e:i=j:=by omega
      rw [e,HQ.out] at hq'
      rw [←Option.some.inj hq']
      exact HU2.out
    clear hb2 hu hcq
    go_wp2_with fail
    refine (IP.out q hmem _ (HC.out.below HW2.out)).mono ?_
    rintro E w3 ⟨hb3,rfl⟩
    have HW3:Hid (Below w.heap.size w w3):=below_step HW2.out hb3
    have HV3:Hid (Below w1.heap.size w1 w3):=below_step HV2.out hb3
    generalize Mip.perOf m F q=pq at HR2
    clear hb3
    have step:∀(f':Nat) (d':Bool),Hid (f'=(if f=0 then pq else f)∧d'=(d || (pq != 0 && pq != (if f=0 then pq else f))))→∃(j' f0:Nat) (d0:Bool),j'≤l.length∧Value.int .i64 (f':Nat)=.int .i64 (f0:Nat)∧Value.bool d'=.bool d0∧Value.int .i64 ((j:Int)+1)=.int .i64 (j':Nat)∧l.length - (j+1)=l.length - j'∧Hid (Mip.fd m F 0 false l=Mip.fd m F f0 d0 (l.drop j'))∧Hid (∀(i:Nat) (q:Mip.E),i < j'→l[i]?=some q→Mip.pfault m F q=none)∧Hid (Below w.heap.size w w3)∧Hid (Below w1.heap.size w1 w3):=fun f' d' h=>by
     obtain ⟨rfl,rfl⟩:=h.out
     exact ⟨j+1,_,_,hlt,rfl,rfl,by simp,rfl,HR2,HPR2,HW3,HV3⟩
    have STEP:=hidden step
    clear step
    by_cases f0:f=0
    ·subst f0
     by_cases p0:pq=0
     ·subst p0
      cases d
      ·go_wp2
       go_roundg (l.length - (j+1))
       case measure=>have:=HG.out;omega
       case rel=>exact STEP.out _ _ ⟨by simp ,by simp ⟩
      ·go_wp2
       go_roundg (l.length - (j+1))
       case measure=>have:=HG.out;omega
       case rel=>exact STEP.out _ _ ⟨by simp ,by simp ⟩
     ·have p1:((pq:Int)==0)=false:=by simpa using p0
      have p2:(pq:Int)≠0:=by omega
      cases d
      ·go_wp2
       go_roundg (l.length - (j+1))
       case measure=>have:=HG.out;omega
       case rel=>exact STEP.out _ _ ⟨by simp ,by simp ⟩
      ·go_wp2
       go_roundg (l.length - (j+1))
       case measure=>have:=HG.out;omega
       case rel=>exact STEP.out _ _ ⟨by simp ,by simp ⟩
    ·have f1:((f:Int)==0)=false:=by simpa using f0
     have f2:(f:Int)≠0:=by omega
     by_cases p0:pq=0
     ·subst p0
      cases d
      ·go_wp2
       go_roundg (l.length - (j+1))
       case measure=>have:=HG.out;omega
       case rel=>exact STEP.out _ _ ⟨by first | rfl | (simp;done) | (simp [f0];done) | (simp [f0,pf];done) | (simp [f0,p0,pf];done),by first | rfl | (simp;done) | (simp [f0];done) | (simp [f0,pf];done) | (simp [f0,p0,pf];done)⟩
      ·go_wp2
       go_roundg (l.length - (j+1))
       case measure=>have:=HG.out;omega
       case rel=>exact STEP.out _ _ ⟨by first | rfl | (simp;done) | (simp [f0];done) | (simp [f0,pf];done) | (simp [f0,p0,pf];done),by first | rfl | (simp;done) | (simp [f0];done) | (simp [f0,pf];done) | (simp [f0,p0,pf];done)⟩
     ·have p1:((pq:Int)==0)=false:=by simpa using p0
      have p2:(pq:Int)≠0:=by omega
      by_cases pf:pq=f
      ·subst pf
       cases d
       ·go_wp2
        go_roundg (l.length - (j+1))
        case measure=>have:=HG.out;omega
        case rel=>exact STEP.out _ _ ⟨by first | rfl | (simp;done) | (simp [f0];done) | (simp [f0,pf];done) | (simp [f0,p0,pf];done),by first | rfl | (simp;done) | (simp [f0];done) | (simp [f0,pf];done) | (simp [f0,p0,pf];done)⟩
       ·go_wp2
        go_roundg (l.length - (j+1))
        case measure=>have:=HG.out;omega
        case rel=>exact STEP.out _ _ ⟨by first | rfl | (simp;done) | (simp [f0];done) | (simp [f0,pf];done) | (simp [f0,p0,pf];done),by first | rfl | (simp;done) | (simp [f0];done) | (simp [f0,pf];done) | (simp [f0,p0,pf];done)⟩
      ·have p3:((pq:Int)==(f:Int))=false:=by simp;omega
       have p4:(pq:Int)≠(f:Int):=by omega
       have p5:((pq:Int) != 0)=true:=by rw [bne_iff_ne];omega
       have p6:((pq:Int) != (f:Int))=true:=by rw [bne_iff_ne];omega
       cases d
       ·go_wp2
        go_roundg (l.length - (j+1))
        case measure=>have:=HG.out;omega
        case rel=>exact STEP.out _ _ ⟨by first | rfl | (simp;done) | (simp [f0];done) | (simp [f0,pf];done) | (simp [f0,p0,pf];done),by first | rfl | (simp;done) | (simp [f0];done) | (simp [f0,pf];done) | (simp [f0,p0,pf];done)⟩
       ·go_wp2
        go_roundg (l.length - (j+1))
        case measure=>have:=HG.out;omega
        case rel=>exact STEP.out _ _ ⟨by first | rfl | (simp;done) | (simp [f0];done) | (simp [f0,pf];done) | (simp [f0,p0,pf];done),by first | rfl | (simp;done) | (simp [f0];done) | (simp [f0,pf];done) | (simp [f0,p0,pf];done)⟩
   ·have HU2:Hid (Mip.pfault m F q=some p):=hu
    have HD:Hid (Dg a w2 dd ((N:Int) - (p:Nat)) 8):=hd
    clear hb2 hu hcq hd
    go_wp2
    go_ret
    refine ⟨HW2.out,Or.inr ⟨p,dd,?_,rfl,HD.out⟩⟩
    rw [HP.out,Mip.fault_some m F l j q p HPR.out HQ.out HU2.out];rfl
  ·have hle:(l.length:Int)≤(j:Int):=by omega
   have HJ:Hid (j=l.length):=by show _=_;omega
   have HFD:Hid (Mip.fd m F 0 false l=(f,d)):=by have h:=HR.out;rw [HJ.out,List.drop_length] at h;exact h
   have HFN:Hid (Mip.pfault m F e=if (d || (f != 0 && Mip.perOf m F e==0)) then some (Mip.pl e) else none):=by
    show _=_
    rw [HP.out,Mip.fault_none m F l (fun i q hq=>HPR.out i q (by have:=(List.getElem?_eq_some_iff.1 hq).1;have:=HJ.out;omega) hq)]
    unfold Mip.clash
    rw [HFD.out];rfl
   have HE8:Hid (∀w',Below w.heap.size w w'→w'.cell? ⟨10,0,none⟩=some (errV (a 8))):=fun w' h=>(HC.out.below h).nm.ce.e8
   clear HR HPR HFD HP hlt
   cases d
   ·by_cases f0:f=0
    ·subst f0
     go_wp2
     go_ret
     exact ⟨HW.out,Or.inl ⟨HFN.out,rfl⟩⟩
    ·have f1:((f:Int)==0)=false:=by simpa using f0
     have f2:(f:Int)≠0:=by omega
     have HF0:Hid (f≠0):=f0
     clear f0
     go_wp2_with fail
     refine (IE.out _ (HC.out.below HW.out)).mono ?_
     rintro E w3 ⟨hb3,rfl⟩
     have HW3:Hid (Below w.heap.size w w3):=below_step HW.out hb3
     generalize Mip.perOf m F e=pe at HFN
     clear hb3 IE
     by_cases p0:pe=0
     ·subst p0
      have HFT:Hid (Mip.pfault m F e=some (Mip.pl e)):=by show _=_;have h:=HFN.out;simpa [HF0.out] using h
      have k8:∀w',Below w3.heap.size w3 w'→w'.cell? ⟨10,0,none⟩=some (errV (a 8)):=fun w' h=>HE8.out w' (below_step HW3.out h)
      clear HFN HE8
      go_wp2_with fail
      go_region_held3 (fun w'=>Below w3.heap.size w3 w') (first | assumption | exact (Below.refl _ _).drew | exact Below.alloc (by assumption) (Below.size (by assumption)) _) (first
       | (go_at_call 216;(with_reducible refine (place_any _ _).mono ?_);rintro e w4 ⟨hbw4,rfl⟩;have hBw4:Below w3.heap.size w3 w4:=below_step (by assumption) hbw4))
      all_goals go_wp2
      all_goals go_ret
      all_goals exact ⟨below_step (below_step HW3.out (by assumption)) ((Below.refl _ _).alloc (Nat.le_refl _) _),Or.inr ⟨Mip.pl e,_,HFT.out,rfl,dg_new a _ _ rfl _ _⟩⟩
     ·have p1:((pe:Int)==0)=false:=by simpa using p0
      have p2:(pe:Int)≠0:=by omega
      have HFT:Hid (Mip.pfault m F e=none):=by show _=_;have h:=HFN.out;simpa [p0] using h
      clear HFN HE8 p0
      go_wp2
      go_ret
      exact ⟨HW3.out,Or.inl ⟨HFT.out,rfl⟩⟩
   ·have HFT:Hid (Mip.pfault m F e=some (Mip.pl e)):=by show _=_;have h:=HFN.out;simpa using h
    have HW3:=HW
    have k8:∀w',Below wr.heap.size wr w'→w'.cell? ⟨10,0,none⟩=some (errV (a 8)):=fun w' h=>HE8.out w' (below_step HW3.out h)
    clear HFN HE8 IE
    go_wp2_with fail
    go_region_held3 (fun w'=>Below wr.heap.size wr w') (first | assumption | exact (Below.refl _ _).drew | exact Below.alloc (by assumption) (Below.size (by assumption)) _) (first
     | (go_at_call 216;(with_reducible refine (place_any _ _).mono ?_);rintro e w4 ⟨hbw4,rfl⟩;have hBw4:Below wr.heap.size wr w4:=below_step (by assumption) hbw4))
    all_goals go_wp2
    all_goals go_ret
    all_goals exact ⟨below_step (below_step HW3.out (by assumption)) ((Below.refl _ _).alloc (Nat.le_refl _) _),Or.inr ⟨Mip.pl e,_,HFT.out,rfl,dg_new a _ _ rfl _ _⟩⟩
theorem periodFault_any (N:Nat) (a:Nat→Addr) (c b n:Nat) (m:Mil.Bytes→Option Int) (g:Nat) (F:List Flo) (hfit:Fit m F) (hF:∀f∈F,f.per≤1000000):∀e,Mil.wf (Mip.er e) false→FC N a c b n m g F e:=
 Mip.tree_ind (fun p x _ hw=>fault_node N a c b n m g F hfit hF _ hw (fun _ q hq=>by cases hq) (fun q hq=>by cases hq))
  (fun e hw hn hk=>fault_node N a c b n m g F hfit hF e hw (fun hu=>Mip.first_each m _ (by rw [←Mip.unres_kids m e hw hn];exact hu)) hk)
end
section
open Go.RowKit
theorem op_inj:∀i,i < 14→∀j,j < 14→opName i=opName j→i=j:=by decide
theorem operatorOf_at (a:Nat→Addr) (k:Nat) (hk:k < 14) (w:World) (L:Laid a w) :
  Calls Tryz.prog 129 #[.string (bs (opName k))] w fun e w'=>e=.returned (.agg #[.string (bs (opName k)),.int .i64 (opBind k),.int .i64 (opWant k),.int .i64 (opGive k)])∧Below w.heap.size w w':=by
 obtain ⟨tq,ho⟩:=L.ops
 have hix:=fun (j:Nat) (h:j < 14) (w:World)=>index_ops j h w
 have HB0:Hid (Below w.heap.size w (w.alloc (.cells #[.string ⟨#[]⟩,.int .i64 0,.int .i64 0,.int .i64 0] 235))):=(Below.refl _ _).alloc (Nat.le_refl _) _
 have HN0:Hid (NewFour (w.alloc (.cells #[.string ⟨#[]⟩,.int .i64 0,.int .i64 0,.int .i64 0] 235)) w.heap.size):=heap_alloc_new w _
 have ho':(w.alloc (.cells #[.string ⟨#[]⟩,.int .i64 0,.int .i64 0,.int .i64 0] 235)).heap[17]?=some (.cells opCells tq (0,0)):=(HB0.out.block _ (Array.getElem?_eq_some_iff.1 ho).1).trans ho
 have HK:Hid (k < 14):=hk
 clear L ho hk
 go_enter Tryz.func129,Tryz.ntmps129
 go_wp2_with (refine wpList_load_row rfl 259 _ rfl 17 rfl tq _ (0,0) _ ho' Tryz.underlying259 rfl (by kernel_rfl) ?_)
 clear ho'
 go_loopg [6] 14 (fun g s6 wr=>∃j:Nat,j≤k∧s6=.int .i64 j∧g=14 - j∧Hid (Below w.heap.size w wr)∧Hid (NewFour wr w.heap.size))
 case atStart=>exact ⟨0,Nat.zero_le _,rfl,rfl,HB0,HN0⟩
 case round=>
  obtain ⟨j,hj,rfl,hg,HB,HN⟩:=hrel
  have HG:Hid (gk=14 - j):=hg
  have HJ:Hid (j≤k):=hj
  clear hg hj
  have hlt:j < 14:=by have:=HJ.out;have:=HK.out;omega
  have hi:=hix j hlt
  by_cases heq:j=k
  ·subst heq
   have hbq:((bs (opName j)).toList==(bs (opName j)).toList)=true:=by simp
   have HN':Hid (NewFour (wr.alloc (.cells #[.string (bs (opName j)),.int .i64 (opBind j),.int .i64 (opWant j),.int .i64 (opGive j)] 235)) w.heap.size):=HN.out.later ((Below.refl _ _).alloc (Nat.le_refl _) _)
   obtain ⟨r0,r1,r2,r3,z0,z1,z2,z3⟩:=HN'.out.facts
   go_wp2
   have q0:=other_cell (v:=.int .i64 (opGive j)) (other_cell (v:=.int .i64 (opWant j)) (other_cell (v:=.int .i64 (opBind j)) (same_cell (v:=.string (bs (opName j))) r0) (by decide:1≠0)) (by decide:2≠0)) (by decide:3≠0)
   have q1:=other_cell (v:=.int .i64 (opGive j)) (other_cell (v:=.int .i64 (opWant j)) (same_cell (v:=.int .i64 (opBind j)) (other_cell (v:=.string (bs (opName j))) r1 (by decide:0≠1))) (by decide:2≠1)) (by decide:3≠1)
   have q2:=other_cell (v:=.int .i64 (opGive j)) (same_cell (v:=.int .i64 (opWant j)) (other_cell (v:=.int .i64 (opBind j)) (other_cell (v:=.string (bs (opName j))) r2 (by decide:0≠2)) (by decide:1≠2))) (by decide:3≠2)
   have q3:=same_cell (v:=.int .i64 (opGive j)) (other_cell (v:=.int .i64 (opWant j)) (other_cell (v:=.int .i64 (opBind j)) (other_cell (v:=.string (bs (opName j))) r3 (by decide:0≠3)) (by decide:1≠3)) (by decide:2≠3))
   exact bodyPost_ret (v:=.agg #[.string (bs (opName j)),.int .i64 (opBind j),.int .i64 (opWant j),.int .i64 (opGive j)]) (by simp [results,Tryz.results129,go_sem,q0,q1,q2,q3]) rfl ⟨rfl,below_four (HB.out.alloc HB.out.size _) _ _ _ _⟩
  ·have hne:opName j≠opName k:=fun e=>heq (op_inj j hlt k HK.out e)
   have hbq:((bs (opName j)).toList==(bs (opName k)).toList)=false:=by rw [Lib.toList_data,Lib.toList_data,bs_list,bs_list];simpa using hne
   have HE:Hid (j≠k):=heq
   clear heq hne
   go_wp2
   go_roundg (14 - (j+1))
   case measure=>have:=HG.out;omega
   case rel=>exact ⟨j+1,by have:=HJ.out;have:=HE.out;omega,by go_num,rfl,HB.out.alloc HB.out.size _,HN.out.later ((Below.refl _ _).alloc (Nat.le_refl _) _)⟩
theorem op_some {x:Mil.Bytes} (h:Mil.tightOf x≠9):∃k,k < 14∧x=opName k:=by
 apply Classical.byContradiction
 intro hno
 exact h (op_none (fun m hm e=>hno ⟨m,hm,e.symm⟩))
def opNo (x:Mil.Bytes):Nat:=(List.range 14).findIdx fun j=>opName j==x
namespace Mip
def preTy (x:Mil.Bytes):Nat:=if x=Mil.wNot then 1 else 0
def wantTy (x:Mil.Bytes):Nat:=(opWant (opNo x)).toNat
def giveTy (x:Mil.Bytes):Nat:=(opGive (opNo x)).toNat
def tyFlow (m:Mil.Bytes→Option Int) (F:List Flo) (x:Mil.Bytes):Nat:=(F[((m x).getD 0).toNat]?.map Flo.ty).getD 0
def tyBy (m:Mil.Bytes→Option Int) (F:List Flo) (t:Nat) (x:Mil.Bytes):List Nat→Nat×Bool
 | ts=>if t=1 then (0,true) else if t=2 then (1,true) else if t=3 then (tyFlow m F x,true)
  else if t=4 then (ts.getD 0 0,ts.getD 0 0==preTy x)
  else if t=5 then (giveTy x,ts.getD 0 0==ts.getD 1 0 && (wantTy x==2 || wantTy x==ts.getD 0 0))
  else if t=6 then (ts.getD 1 0,ts.getD 0 0==1 && ts.getD 1 0==ts.getD 2 0)
  else if t=7∨t=9 then (ts.getD 1 0,ts.getD 0 0==ts.getD 1 0)
  else if t=10 then (0,ts.getD 0 0==0 && ts.getD 1 0==0)
  else (ts.getD 0 0,true)
def tyPick (r:Nat×Bool):Option Nat:=if r.2 then some r.1 else none
def tyl (m:Mil.Bytes→Option Int) (F:List Flo):E→Option (List Nat)
 | .nil=>some []
 | .node t _ x a b=>(tyl m F a).bind fun us=>(tyl m F b).bind fun vs=>if t=0 then some (us++vs) else (tyPick (tyBy m F t x.1 (us++vs))).map fun u=>[u]
def tyOf (m:Mil.Bytes→Option Int) (F:List Flo) (e:E):Option Nat:=(tyl m F e).bind List.head?
def tyAll (m:Mil.Bytes→Option Int) (F:List Flo):List E→Option (List Nat)
 | []=>some []
 | q::r=>(tyOf m F q).bind fun u=>(tyAll m F r).map fun us=>u::us
def tg:E→Nat
 | .nil=>0
 | .node t _ _ _ _=>t
def tx:E→Mil.Bytes
 | .nil=>[]
 | .node _ _ x _ _=>x.1
theorem ty_one (m:Mil.Bytes→Option Int) (F:List Flo) {t k:Nat} {x:Mil.Bytes×Nat} {a b:E} (h:t≠0):tyl m F (.node t k x a b)=(tyOf m F (.node t k x a b)).map fun u=>[u]:=by
 unfold tyOf
 rw [tyl]
 cases tyl m F a with
 | none=>rfl
 | some us=>
  cases tyl m F b with
  | none=>rfl
  | some vs=>
   rw [Option.bind_some,Option.bind_some,if_neg h]
   cases tyPick (tyBy m F t x.1 (us++vs)) <;> rfl
theorem ty_all (m:Mil.Bytes→Option Int) (F:List Flo):∀e:E,Mil.wf (er e) false→tyl m F e=(tyOf m F e).map fun u=>[u]:=by
 refine tree_induct ?_ ?_ ?_ ?_ ?_ ?_ ?_ ?_ ?_ ?_
 ·intro p k _;exact ty_one m F (by decide)
 ·intro p k _;exact ty_one m F (by decide)
 ·intro p x _;exact ty_one m F (by decide)
 ·intro p x a _ _;exact ty_one m F (by decide)
 ·intro p x a b _ _ _;exact ty_one m F (by decide)
 ·intro p y a b c _ _ _;exact ty_one m F (by decide)
 ·intro p a b _ _;exact ty_one m F (by decide)
 ·intro p a k _ _ _;exact ty_one m F (by decide)
 ·intro p a b k _ _ _ _;exact ty_one m F (by decide)
 ·intro p x a b _ _ _;exact ty_one m F (by decide)
def tyJoin (m:Mil.Bytes→Option Int) (F:List Flo) (t:Nat) (x:Mil.Bytes) (us vs:Option (List Nat)):Option Nat:=us.bind fun us=>vs.bind fun vs=>tyPick (tyBy m F t x (us++vs))
theorem ty_node (m:Mil.Bytes→Option Int) (F:List Flo) {t k:Nat} {x:Mil.Bytes×Nat} {a b:E} (h:t≠0):tyOf m F (.node t k x a b)=tyJoin m F t x.1 (tyl m F a) (tyl m F b):=by
 unfold tyOf tyJoin
 rw [tyl]
 cases tyl m F a with
 | none=>rfl
 | some us=>
  cases tyl m F b with
  | none=>rfl
  | some vs=>
   show (if t=0 then some (us++vs) else (tyPick (tyBy m F t x.1 (us++vs))).map fun u=>[u]).bind List.head?=tyPick (tyBy m F t x.1 (us++vs))
   rw [if_neg h]
   cases tyPick (tyBy m F t x.1 (us++vs)) <;> rfl
theorem ty_kids (m:Mil.Bytes→Option Int) (F:List Flo):∀e:E,Mil.wf (er e) false→tyOf m F e=(tyAll m F (kids e)).bind fun ts=>tyPick (tyBy m F (tg e) (tx e) ts):=by
 have one:∀(t:Nat) (x:Mil.Bytes) (o:Option Nat),tyJoin m F t x (o.map fun u=>[u]) (some [])=(o.bind fun u=>((some []).map fun us=>u::us)).bind fun ts=>tyPick (tyBy m F t x ts):=fun t x o=>by cases o <;> rfl
 have two:∀(t:Nat) (x:Mil.Bytes) (o o':Option Nat),tyJoin m F t x (o.map fun u=>[u]) (o'.map fun u=>[u])=(o.bind fun u=>((o'.bind fun u=>((some []).map fun us=>u::us)).map fun us=>u::us)).bind fun ts=>tyPick (tyBy m F t x ts):=fun t x o o'=>by cases o <;> cases o' <;> rfl
 refine tree_ind (fun p x hx _=>rfl) ?_
 intro e hw hn hk
 have h1:∀q∈kids e,tyl m F q=(tyOf m F q).map fun u=>[u]:=fun q hq=>ty_all m F q (hk q hq).1
 clear hk
 revert h1 hn
 revert e
 intro e hw
 refine tree_induct (Q:=fun e=>(∀p x,e≠eName p x)→(∀q∈kids e,tyl m F q=(tyOf m F q).map fun u=>[u])→tyOf m F e=(tyAll m F (kids e)).bind fun ts=>tyPick (tyBy m F (tg e) (tx e) ts)) ?_ ?_ ?_ ?_ ?_ ?_ ?_ ?_ ?_ ?_ e hw
 ·intro p k _ _ _;rfl
 ·intro p k _ _ _;rfl
 ·intro p x _ _ _;rfl
 ·intro p x a _ _ _ h;exact (ty_node m F (by decide)).trans (by rw [h a (by simp [kids,ePre])];exact one 4 x _)
 ·intro p x a b _ _ _ _ h;exact (ty_node m F (by decide)).trans (by rw [h a (by simp [kids,eTwo]),h b (by simp [kids,eTwo])];exact two 5 x _ _)
 ·intro p y a b c _ _ _ _ h
  refine (ty_node m F (by decide)).trans ?_
  rw [tyl,h a (by simp [kids]),h b (by simp [kids]),h c (by simp [kids])]
  show _=((tyOf m F a).bind fun u=>((tyOf m F b).bind fun v=>((tyOf m F c).bind fun z=>((some []).map fun us=>z::us)).map fun us=>v::us).map fun us=>u::us).bind fun ts=>tyPick (tyBy m F 6 [] ts)
  cases tyOf m F a <;> cases tyOf m F b <;> cases tyOf m F c <;> rfl
 ·intro p a b _ _ _ h;exact (ty_node m F (by decide)).trans (by rw [h a (by simp [kids,eFby]),h b (by simp [kids,eFby])];exact two 7 [] _ _)
 ·intro p a k _ _ _ _ h;exact (ty_node m F (by decide)).trans (by rw [h a (by simp [kids,eUnder])];exact one 8 [] _)
 ·intro p a b k _ _ _ _ _ h;exact (ty_node m F (by decide)).trans (by rw [h a (by simp [kids,eHold]),h b (by simp [kids,eHold])];exact two 9 [] _ _)
 ·intro p x a b _ _ _ _ h;exact (ty_node m F (by decide)).trans (by rw [h a (by simp [kids,eLeast]),h b (by simp [kids,eLeast])];exact two 10 x _ _)
end Mip
end
section
namespace Mip
abbrev Way (nd : Nat → List Nat) (a b : Nat) : Prop := Relation.TransGen (fun x y => y ∈ nd x) a b
structure Met (nd : Nat → List Nat) (f : Nat) (M : Nat → Bool) (next : List Nat) : Prop where
  no : M f = false
  from0 : ∀ x ∈ nd f, M x = true ∨ x ∈ next
  step : ∀ m, M m = true → ∀ x ∈ nd m, M x = true ∨ x ∈ next
  way : ∀ x ∈ next, Way nd f x
  wayM : ∀ m, M m = true → Way nd f m
theorem Met.start (nd : Nat → List Nat) (f : Nat) : Met nd f (fun _ => false) (nd f) :=
  ⟨rfl, fun x hx => Or.inr hx, (fun m h => by cases h), fun x hx => .single hx, (fun m h => by cases h)⟩
theorem Met.found {nd : Nat → List Nat} {f : Nat} {M : Nat → Bool} {next : List Nat} (h : Met nd f M next) (hf : f ∈ next) : Way nd f f := h.way f hf
theorem Met.over {nd : Nat → List Nat} {f : Nat} {M : Nat → Bool} (h : Met nd f M []) : ¬ Way nd f f := by
  have key : ∀ x, Way nd f x → M x = true := fun x hx => by
    induction hx with
    | single hb => rcases h.from0 _ hb with h1 | h1
                   · exact h1
                   · cases h1
    | tail _ hb ih => rcases h.step _ ih _ hb with h1 | h1
                      · exact h1
                      · cases h1
  intro hw
  have := key f hw
  rw [h.no] at this
  cases this
theorem Met.go {nd : Nat → List Nat} {f : Nat} {M : Nat → Bool} {next : List Nat} {m : Nat} (h : Met nd f M (next ++ [m])) (hm : m ≠ f) : Met nd f (fun x => M x || x == m) (next ++ (if M m then [] else nd m)) := by
  have hw : Way nd f m := h.way m (by simp)
  have mv : ∀ x, (M x = true ∨ x ∈ next ++ [m]) → (M x || x == m) = true ∨ x ∈ next ++ (if M m then [] else nd m) := fun x hx => by
    rcases hx with hx | hx
    · left; simp [hx]
    · rcases List.mem_append.1 hx with hx | hx
      · right; exact List.mem_append_left _ hx
      · left; simp at hx; simp [hx]
  refine ⟨by simp [h.no, Ne.symm hm], fun x hx => mv x (h.from0 x hx), fun m' hm' x hx => ?_, fun x hx => ?_, fun m' hm' => ?_⟩
  · by_cases e : M m' = true
    · exact mv x (h.step m' e x hx)
    · have e1 : M m' = false := by simpa using e
      have e2 : m' = m := by simpa [e1] using hm'
      subst e2
      right
      rw [if_neg e]
      exact List.mem_append_right _ hx
  · rcases List.mem_append.1 hx with hx | hx
    · exact h.way x (List.mem_append_left _ hx)
    · split at hx
      · cases hx
      · exact .tail hw hx
  · by_cases e : M m' = true
    · exact h.wayM m' e
    · have e1 : M m' = false := by simpa using e
      have e2 : m' = m := by simpa [e1] using hm'
      rw [e2]; exact hw
def work (nd : Nat → List Nat) (M : Nat → Bool) : Nat → Nat
  | 0 => 0
  | k + 1 => work nd M k + if M k then 0 else (nd k).length
theorem work_same (nd : Nat → List Nat) (M : Nat → Bool) (m : Nat) : ∀ K, K ≤ m → work nd (fun x => M x || x == m) K = work nd M K
  | 0, _ => rfl
  | k + 1, h => by
    rw [work, work, work_same nd M m k (by omega)]
    have : (k == m) = false := by simp; omega
    simp [this]
theorem work_go (nd : Nat → List Nat) (M : Nat → Bool) (m : Nat) : ∀ K, m < K → work nd (fun x => M x || x == m) K + (if M m then [] else nd m).length = work nd M K
  | 0, h => by omega
  | k + 1, h => by
    rw [work, work]
    by_cases e : m = k
    · subst e
      rw [work_same nd M m m (Nat.le_refl _)]
      by_cases hM : M m = true
      · simp [hM]
      · simp [hM]
    · have ih := work_go nd M m k (by omega)
      have e2 : (k == m) = false := by simp; omega
      simp only [e2, Bool.or_false]
      omega
theorem no_way_of_rank {nd : Nat → List Nat} (r : Nat → Nat) (h : ∀ a b, b ∈ nd a → r b < r a) (f : Nat) : ¬ Way nd f f := by
  have key : ∀ x, Way nd f x → r x < r f := fun x hx => by
    induction hx with
    | single hb => exact h _ _ hb
    | tail _ hb ih => exact Nat.lt_trans (h _ _ hb) ih
  intro hw
  exact Nat.lt_irrefl _ (key f hw)
def rdy (nd : Nat → List Nat) (l acc : List Nat) (f : Nat) : Bool := !acc.contains f && (nd f).all fun x => !(l.contains x && !acc.contains x)
def ord (nd : Nat → List Nat) (l : List Nat) : Nat → List Nat → List Nat
  | 0, acc => acc
  | n + 1, acc => match l.find? (rdy nd l acc) with
    | none => ord nd l n acc
    | some f => ord nd l n (acc ++ [f])
theorem len_le : ∀ (l l' : List Nat), l.Nodup → (∀ x ∈ l, x ∈ l') → l.length ≤ l'.length
  | [], _, _, _ => Nat.zero_le _
  | a :: r, l', hn, hs => by
    have h1 := List.nodup_cons.1 hn
    have ha := hs a (by simp)
    have ih := len_le r (l'.erase a) h1.2 (fun x hx => (List.mem_erase_of_ne (fun (e : x = a) => h1.1 (by rw [← e]; exact hx))).2 (hs x (by simp [hx])))
    rw [List.length_erase_of_mem ha] at ih
    have := List.length_pos_of_mem ha
    rw [List.length_cons]
    omega
end Mip
end
end Go.Proofs.YticbokabjhnagaaGreatDoor
