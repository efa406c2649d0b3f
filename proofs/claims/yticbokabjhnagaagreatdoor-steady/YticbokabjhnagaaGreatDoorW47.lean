import Derived.Test.YticbokabjhnagaaGreatDoorW46
import Derived.BigQuiet
import Derived.Test.YticbokabjhnagaaGreatDoorW45
import Derived.Test.YticbokabjhnagaaGreatDoorW44
namespace Go.Proofs.YticbokabjhnagaaGreatDoor
set_option maxHeartbeats 32000000
section
open Go.RowKit
namespace Mip
theorem Parsed.unique {b:Mil.Bytes} {x y:List It} (h:Parsed b x) (k:Parsed b y):x=y:=by
 obtain ⟨n,h⟩:=h
 obtain ⟨m,k⟩:=k
 unfold parse at h k
 by_cases c:4000 < b.length
 ·rw [if_pos c] at h;cases h
 ·rw [if_neg c] at h k
  obtain ⟨s,h1,h2⟩:=Option.bind_eq_some_iff.1 h
  obtain ⟨s',k1,k2⟩:=Option.bind_eq_some_iff.1 k
  obtain rfl:=Option.some.inj (h1.symm.trans k1)
  exact Option.some.inj ((pprog_le n (n+m) _ _ x (by omega) h2).symm.trans (pprog_le m (n+m) _ _ y (by omega) k2))
def txA:Mil.Bytes:=[105,110,112,117,116,32,120,32,58,32,105,110,116,32,101,118,101,114,121,32,50,59,32,115,32,58,32,105,110,116,32,61,32,120,32,43,32,102,98,121,40,48,44,32,115,41,59,32,117,32,58,32,105,110,116,32,61,32,117,110,100,101,114,40,115,44,32,50,41,59,32,104,32,58,32,105,110,116,32,61,32,104,111,108,100,40,55,44,32,117,44,32,50,41,32,43,32,115,59,32,111,117,116,112,117,116,32,104,59]
def lsA:List It:=(parse 60 txA).getD []
theorem parsedA:Parsed txA lsA:=⟨60,by kernel_rfl⟩
def txB:Mil.Bytes:=[97,32,58,32,105,110,116,32,61,32,98,59,32,98,32,58,32,105,110,116,32,61,32,97,32,43,32,49,59]
def lsB:List It:=(parse 60 txB).getD []
theorem parsedB:Parsed txB lsB:=⟨60,by kernel_rfl⟩
def txC:Mil.Bytes:=[105,110,112,117,116,32,120,32,58,32,105,110,116,32,101,118,101,114,121,32,49,59,32,97,32,58,32,105,110,116,32,61,32,98,32,43,32,120,59,32,98,32,58,32,105,110,116,32,61,32,97,59]
def lsC:List It:=(parse 60 txC).getD []
theorem parsedC:Parsed txC lsC:=⟨60,by kernel_rfl⟩
end Mip
def goodC (N:Nat) (l:List Mip.It):Bool:=
 (dcl N l).1.isNone && (rsv N l).1.isNone && (dcl N l).2.Q.all (fun q=>Mip.tyOf (dcl N l).2.m (rsv N l).2 q.body==some q.ty)
def goodD (N:Nat) (l:List Mip.It):Bool:=
 (freeAt (prd N l) (dcl N l).2.Q).isNone && (dcl N l).2.Q.all (fun q=>Mip.pfault (dcl N l).2.m (prd N l) q.body==none && Mip.perOf (dcl N l).2.m (prd N l) q.body==perAt (prd N l) q.flow) && !tooGreat 1 (prd N l)
theorem okk_three {N:Nat} {l:List Mip.It} (h:goodC N l=true):okk N l 3:=by
 simp only [goodC,Bool.and_eq_true,Option.isNone_iff_eq_none,List.all_eq_true,beq_iff_eq] at h
 exact ⟨fun _=>h.1.1,fun _=>h.1.2,fun _=>h.2,fun e=>by omega,fun e=>by omega,fun e=>by omega,fun e=>by omega⟩
theorem okk_six {N:Nat} {l:List Mip.It} (h:goodC N l=true) (k:goodD N l=true):okk N l 6:=by
 have h3:=okk_three h
 simp only [goodD,Bool.and_eq_true,Option.isNone_iff_eq_none,List.all_eq_true,beq_iff_eq,Bool.not_eq_true'] at k
 exact ⟨fun _=>h3.1 (by omega),fun _=>h3.2.1 (by omega),fun _=>h3.2.2.1 (by omega),fun _=>k.1.1,fun _=>k.1.2,fun _=>k.2,fun e=>by omega⟩
theorem goodA:goodC 109 Mip.lsA=true∧goodD 109 Mip.lsA=true:=⟨by kernel_rfl,by kernel_rfl⟩
theorem goodB:goodC 29 Mip.lsB=true:=by kernel_rfl
theorem goodCC:goodC 52 Mip.lsC=true∧goodD 52 Mip.lsC=true:=⟨by kernel_rfl,by kernel_rfl⟩
theorem freeB:freeAt (prd 29 Mip.lsB) (dcl 29 Mip.lsB).2.Q=some 29:=by kernel_rfl
theorem ndf_none {m:Mil.Bytes→Option Int} {Q:List Nq} {a:Nat} (h:Q.all (fun q=>q.flow != a)=true):ndf m Q a=[]:=by
 unfold ndf
 rw [List.find?_eq_none.2 (fun q hq=>by have:=List.all_eq_true.1 h q hq;simpa using this)]
 rfl
def qA:List Nq:=(dcl 109 Mip.lsA).2.Q
def mA:Mil.Bytes→Option Int:=(dcl 109 Mip.lsA).2.m
theorem flowsA:qA.map Nq.flow=[1,2,3]:=by kernel_rfl
theorem ndA:ndf mA qA 1=[0]∧ndf mA qA 2=[1]∧ndf mA qA 3=[1]:=⟨by kernel_rfl,by kernel_rfl,by kernel_rfl⟩
theorem memA {q:Nq} (h:q∈qA):q.flow=1∨q.flow=2∨q.flow=3:=by
 have:q.flow∈qA.map Nq.flow:=List.mem_map.2 ⟨q,h,rfl⟩
 rw [flowsA] at this
 simpa using this
theorem rankA (a b:Nat) (h:b∈ndf mA qA a):b < a:=by
 by_cases h1:a=1
 ·subst h1;rw [ndA.1] at h;simp at h;omega
 by_cases h2:a=2
 ·subst h2;rw [ndA.2.1] at h;simp at h;omega
 by_cases h3:a=3
 ·subst h3;rw [ndA.2.2] at h;simp at h;omega
 ·rw [ndf_none (List.all_eq_true.2 fun q hq=>by rcases memA hq with e | e | e <;> simp [e] <;> omega)] at h
  cases h
theorem okA:okk 109 Mip.lsA 7:=by
 have h6:=okk_six goodA.1 goodA.2
 refine okk_up h6 (by decide) (fun e=>by cases e) (fun e=>by cases e) (fun e=>by cases e) (fun e=>by cases e) (fun e=>by cases e) (fun e=>by cases e) (fun _=>?_)
 unfold cyc
 have e:List.find? (fun q=>@decide (Mip.Way (ndf (dcl 109 Mip.lsA).2.m (dcl 109 Mip.lsA).2.Q) q.flow q.flow) (Classical.propDecidable _)) (dcl 109 Mip.lsA).2.Q=none:=List.find?_eq_none.2 (fun q hq=>by
  have:=Mip.no_way_of_rank (nd:=ndf mA qA) id rankA q.flow
  simpa [mA,qA] using this)
 rw [e]
 rfl
theorem notBadA {k:Nat} {p:Int}:¬Bad 109 Mip.lsA k p:=by
 have h:=okA
 rintro (⟨_,e⟩ | ⟨_,_,e⟩ | ⟨_,_,e⟩ | ⟨_,_,q,e,_⟩ | ⟨_,_,e⟩ | ⟨_,_,q,e,_⟩)
 ·exact e (h.1 (by decide))
 ·exact e (h.2.1 (by decide))
 ·exact e (h.2.2.1 (by decide))
 ·rw [h.2.2.2.1 (by decide)] at e;cases e
 ·exact e ⟨h.2.2.2.2.1 (by decide),h.2.2.2.2.2.1 (by decide)⟩
 ·have:=cyc_two (h.2.2.2.2.2.2 (by decide)) e;cases this
theorem badB {k:Nat} {p:Int} (h:Bad 29 Mip.lsB k p):k=9∧p=0:=by
 have h3:=okk_three goodB
 rcases h with ⟨_,e⟩ | ⟨_,_,e⟩ | ⟨_,_,e⟩ | ⟨hk,_,q,e,hp⟩ | ⟨_,h4,_⟩ | ⟨_,h6,_⟩
 ·exact absurd (h3.1 (by decide)) e
 ·exact absurd (h3.2.1 (by decide)) e
 ·exact absurd (h3.2.2.1 (by decide)) e
 ·rw [freeB] at e
  obtain rfl:=Option.some.inj e
  exact ⟨hk,hp⟩
 ·have:=h4.2.2.2.1 (by decide);rw [freeB] at this;cases this
 ·have:=h6.2.2.2.1 (by decide);rw [freeB] at this;cases this
theorem notB:¬okk 29 Mip.lsB 7:=fun h=>by have:=h.2.2.2.1 (by decide);rw [freeB] at this;cases this
def qC:List Nq:=(dcl 52 Mip.lsC).2.Q
def mC:Mil.Bytes→Option Int:=(dcl 52 Mip.lsC).2.m
def c1:Nq:=qC.headD ⟨[],0,0,.nil,0⟩
theorem qC_is:qC=c1::qC.tail:=by kernel_rfl
theorem c1_is:c1.flow=1∧c1.at_=29:=⟨by kernel_rfl,by kernel_rfl⟩
theorem ndC:ndf mC qC 1=[2,0]∧ndf mC qC 2=[1]:=⟨by kernel_rfl,by kernel_rfl⟩
theorem wayC:Mip.Way (ndf mC qC) 1 1:=.tail (.single (b:=2) (by rw [ndC.1];simp)) (by rw [ndC.2];simp)
theorem cycC:cyc (dcl 52 Mip.lsC).2.m (dcl 52 Mip.lsC).2.Q (some 29):=by
 show cyc mC qC (some 29)
 unfold cyc
 have e:List.find? (fun q=>@decide (Mip.Way (ndf mC qC) q.flow q.flow) (Classical.propDecidable _)) (c1::qC.tail)=some c1:=List.find?_cons_of_pos (by
  have:=wayC
  rw [←c1_is.1] at this
  simpa using this)
 rw [←qC_is] at e
 rw [e]
 show some c1.at_=_
 rw [c1_is.2]
theorem notC:¬okk 52 Mip.lsC 7:=fun h=>by have:=cyc_two (h.2.2.2.2.2.2 (by decide)) cycC;cases this
theorem badC {k:Nat} {p:Int} (h:Bad 52 Mip.lsC k p):k=10∧p=23:=by
 have h6:=okk_six goodCC.1 goodCC.2
 rcases h with ⟨_,e⟩ | ⟨_,_,e⟩ | ⟨_,_,e⟩ | ⟨_,_,q,e,_⟩ | ⟨_,_,e⟩ | ⟨hk,_,q,e,hp⟩
 ·exact absurd (h6.1 (by decide)) e
 ·exact absurd (h6.2.1 (by decide)) e
 ·exact absurd (h6.2.2.1 (by decide)) e
 ·rw [h6.2.2.2.1 (by decide)] at e;cases e
 ·exact absurd ⟨h6.2.2.2.2.1 (by decide),h6.2.2.2.2.2.1 (by decide)⟩ e
 ·obtain rfl:=Option.some.inj (cyc_two cycC e)
  exact ⟨hk,hp⟩
def fA:List Flo:=prd 109 Mip.lsA
theorem lenA:fA.length=4:=by kernel_rfl
theorem flA:fA[0]?.map (fun f=>(f.inp,f.per))=some (true,2)∧fA[2]?.map Flo.per=some 4∧fA[3]?.map Flo.out=some true:=⟨by kernel_rfl,by kernel_rfl,by kernel_rfl⟩
theorem persA:qA.map (fun q=>perAt fA q.flow)=[2,4,2]:=by kernel_rfl
theorem ordA:ordOf mA fA qA 2=[1,3]∧ordOf mA fA qA 4=[2]:=⟨by kernel_rfl,by kernel_rfl⟩
theorem tasksA {l:List Nat} (hu:l.Pairwise (· < ·)) (ha:∀p,p∈l↔∃q∈qA,perAt fA q.flow=p):l=[2,4]:=by
 have hm:∀p,p∈l↔p=2∨p=4:=fun p=>by
  rw [ha p]
  have e:(∃q∈qA,perAt fA q.flow=p)↔p∈qA.map (fun q=>perAt fA q.flow):=by rw [List.mem_map]
  rw [e,persA]
  simp
  omega
 match l,hu,hm with
 | [],_,hm=>have:=(hm 2).2 (Or.inl rfl);cases this
 | [x],_,hm=>
  have h1:=(hm 2).2 (Or.inl rfl)
  have h2:=(hm 4).2 (Or.inr rfl)
  simp at h1 h2
  omega
 | [x,y],hu,hm=>
  have h1:=(hm x).1 (by simp)
  have h2:=(hm y).1 (by simp)
  simp at hu
  have e1:x=2:=by omega
  have e2:y=4:=by omega
  rw [e1,e2]
 | x::y::z::r,hu,hm=>
  have h1:=(hm x).1 (by simp)
  have h2:=(hm y).1 (by simp)
  have h3:=(hm z).1 (by simp)
  simp at hu
  omega
end
section
open Go.RowKit
structure Alp (al:Nat→Addr) (w:World):Prop where
 l:Laid (up1 al) w
 e:Errs al w
 d:∀i k,k < i→i < 13→al k≠al i
theorem Alp.below {al:Nat→Addr} {w w':World} (h:Alp al w) (hb:Below w.heap.size w w'):Alp al w':=⟨h.l.below h.e.size hb,h.e.below hb,h.d⟩
theorem comA {ρ:Mil.Bytes→Int→Int→Int} (hr:Rall2 ρ) {al:Nat→Addr} {w:World} (h:Alp al w) (s:ByteArray) (hs:s.data.toList=Mip.txA) :
  Calls Tryz.prog 6 #[.string s] w fun e w'=>Below w.heap.size w w'∧∃P,e=.returned (.tuple #[.pointer (some ⟨P,0,none⟩),.agg #[.int .i64 0,.int .i64 0]])∧∃B0,Prg ρ B0 109 Mip.lsA w' P:=by
 have hn:s.size=109:=by
  have:s.data.toList.length=109:=by rw [hs];rfl
  simpa using this
 have H:=plainCompile_is hr al s w h.l h.e
 rw [hs,hn] at H
 refine H.mono ?_
 rintro e w' ⟨hb,⟨l,P,rfl,hp,B0,hP⟩ | ⟨f,at_,_,_,hno | ⟨l,k,hp,hbad,_⟩⟩⟩
 ·obtain rfl:=Mip.Parsed.unique hp Mip.parsedA
  exact ⟨hb,P,rfl,B0,hP⟩
 ·exact absurd Mip.parsedA.er (hno _)
 ·obtain rfl:=Mip.Parsed.unique hp Mip.parsedA
  exact absurd hbad notBadA
theorem comB {ρ:Mil.Bytes→Int→Int→Int} (hr:Rall2 ρ) {al:Nat→Addr} {w:World} (h:Alp al w) (s:ByteArray) (hs:s.data.toList=Mip.txB) :
  Calls Tryz.prog 6 #[.string s] w fun e w'=>Below w.heap.size w w'∧e=.returned (.tuple #[.pointer none,.agg #[.int .i64 9,.int .i64 0]]):=by
 have hn:s.size=29:=by
  have:s.data.toList.length=29:=by rw [hs];rfl
  simpa using this
 have H:=plainCompile_is hr al s w h.l h.e
 rw [hs,hn] at H
 refine H.mono ?_
 rintro e w' ⟨hb,⟨l,P,rfl,hp,B0,hP⟩ | ⟨f,at_,_,rfl,hno | ⟨l,k,hp,hbad,rfl⟩⟩⟩
 ·obtain rfl:=Mip.Parsed.unique hp Mip.parsedB
  exact absurd hP.ok notB
 ·exact absurd Mip.parsedB.er (hno _)
 ·obtain rfl:=Mip.Parsed.unique hp Mip.parsedB
  obtain ⟨rfl,rfl⟩:=badB hbad
  have e:lastOf al (up1 al 9) 13=9:=by
   show lastOf al (al 8) 13=9
   have n0:∀j,8 < j→j < 13→al 8≠al j:=fun j h1 h2=>h.d j 8 h1 h2
   simp [lastOf,n0]
  rw [e]
  exact ⟨hb,rfl⟩
theorem comC {ρ:Mil.Bytes→Int→Int→Int} (hr:Rall2 ρ) {al:Nat→Addr} {w:World} (h:Alp al w) (s:ByteArray) (hs:s.data.toList=Mip.txC) :
  Calls Tryz.prog 6 #[.string s] w fun e w'=>Below w.heap.size w w'∧e=.returned (.tuple #[.pointer none,.agg #[.int .i64 10,.int .i64 23]]):=by
 have hn:s.size=52:=by
  have:s.data.toList.length=52:=by rw [hs];rfl
  simpa using this
 have H:=plainCompile_is hr al s w h.l h.e
 rw [hs,hn] at H
 refine H.mono ?_
 rintro e w' ⟨hb,⟨l,P,rfl,hp,B0,hP⟩ | ⟨f,at_,_,rfl,hno | ⟨l,k,hp,hbad,rfl⟩⟩⟩
 ·obtain rfl:=Mip.Parsed.unique hp Mip.parsedC
  exact absurd hP.ok notC
 ·exact absurd Mip.parsedC.er (hno _)
 ·obtain rfl:=Mip.Parsed.unique hp Mip.parsedC
  obtain ⟨rfl,rfl⟩:=badC hbad
  have e:lastOf al (up1 al 10) 13=10:=by
   show lastOf al (al 9) 13=10
   have n0:∀j,9 < j→j < 13→al 9≠al j:=fun j h1 h2=>h.d j 9 h1 h2
   simp [lastOf,n0]
  rw [e]
  exact ⟨hb,rfl⟩
theorem tw_len {m:Mil.Bytes→Option Int} {F:List Flo} {Q:List Nq} {B:Nat} {w:World} {v:Value} {U:List (Nat×Value)} (h:Tw m F Q B w v U):U.length≤Q.length:=by
 have h1:=Mip.len_le (U.map Prod.fst) (Q.map fun q=>perAt F q.flow) (flows_nodup h.up) (fun p hp=>by
  obtain ⟨q,h1,h2⟩:=(h.all p).1 hp
  exact List.mem_map.2 ⟨q,h1,h2⟩)
 simpa using h1
theorem tasks_any' {ρ:Mil.Bytes→Int→Int→Int} {B0 N:Nat} {l:List Mip.It} {w:World} {P:Nat} (h:Prg ρ B0 N l w P):Calls Tryz.prog 8 #[.pointer (some ⟨P,0,none⟩)] w (TqPost N l w):=
 tasksOf_any h (fun B tv U hT=>Nat.le_trans (Nat.le_trans (tw_len hT) h.len.2) (by decide))
theorem fls_cell {w:World} {B g cap:Nat} {F:List Flo} (h:w.ownsRow B 42 5 (.slice (some ⟨g,0,none⟩) F.length cap) F.length (fls F)) {j:Nat} {f:Flo} (hf:F[j]?=some f) :
  w.cell? ⟨g,j*5+2,none⟩=some (.int .i64 (f.per:Nat))∧w.cell? ⟨g,j*5+3,none⟩=some (.bool f.inp)∧w.cell? ⟨g,j*5+4,none⟩=some (.bool f.out):=
 ⟨own_cell h (flat_at flC 5 (fun _=>rfl) F j 2 f hf (by decide)),own_cell h (flat_at flC 5 (fun _=>rfl) F j 3 f hf (by decide)),own_cell h (flat_at flC 5 (fun _=>rfl) F j 4 f hf (by decide))⟩
theorem tks_cell {w:World} {B g cap:Nat} {U:List (Nat×Value)} (h:w.ownsRow B 40 2 (.slice (some ⟨g,0,none⟩) U.length cap) U.length (tks U)) {j:Nat} {u:Nat×Value} (hu:U[j]?=some u) :
  w.cell? ⟨g,j*2+0,none⟩=some (.int .i64 (u.1:Nat))∧w.cell? ⟨g,j*2+1,none⟩=some u.2:=
 ⟨own_cell h (flat_at tkC 2 (fun _=>rfl) U j 0 u hu (by decide)),own_cell h (flat_at tkC 2 (fun _=>rfl) U j 1 u hu (by decide))⟩
theorem own_some {w:World} {B:Nat} {t:TypeId} {s:Nat} {o:Option Addr} {n c:Nat} {xs:List Value} (h:w.ownsRow B t s (.slice o n c) n xs) (h0:n≠0):∃g,o=some ⟨g,0,none⟩∧∃cur,w.heap[g]?=some (.cells cur t (0,0)):=by
 rcases h.2 with ⟨_,e⟩ | ⟨g,cap,cur,e,_,hg,_⟩
 ·exact absurd e h0
 ·injection e with e1 _ _
  exact ⟨g,e1,cur,hg⟩
set_option maxRecDepth 100000 in
theorem tasked_is {ρ:Mil.Bytes→Int→Int→Int} (hr:Rall2 ρ) (al:Nat→Addr) (w:World) (h:Alp al w) :
  Calls Tryz.prog 5 #[] w fun e w'=>Below w.heap.size w w'∧∃P B0,e=.returned (.tuple #[.pointer (some ⟨P,0,none⟩),.bool true])∧Prg ρ B0 109 Mip.lsA w' P:=by
 have H:Hid (Alp al w):=h
 have HRR:Hid (Rall2 ρ):=hr
 clear h hr
 go_enter Tryz.func5,Tryz.ntmps5
 go_wp2_with fail
 refine (comA HRR.out H.out _ (by rfl)).mono ?_
 rintro e w1 ⟨hb1,P,rfl,B0,hP⟩
 have HB1:Hid (Below w.heap.size w w1):=hb1
 have HP:Hid (Prg ρ B0 109 Mip.lsA w1 P):=hP
 clear hb1 hP
 go_wp2_with fail
 have HA1:Hid (Below w1.heap.size w1 (w1.alloc (.cells #[.int .i64 0,.int .i64 0] 27))):=(Below.refl _ _).alloc (Nat.le_refl _) _
 refine (flows_any (HP.out.below HA1.out)).mono ?_
 rintro e w2 ⟨hb2,v2,rfl,hF⟩
 obtain ⟨of,cf,e2⟩:=own_shape hF
 have hl4:(prd 109 Mip.lsA).length=4:=lenA
 subst e2
 obtain ⟨gf,rfl,_⟩:=own_some hF (by rw [hl4];decide)
 have HF2:Hid (w2.ownsRow _ 42 5 (.slice (some ⟨gf,0,none⟩) (prd 109 Mip.lsA).length cf) (prd 109 Mip.lsA).length (fls (prd 109 Mip.lsA))):=hF
 have HB2:Hid (Below w.heap.size w w2):=below_step (below_step HB1.out HA1.out) hb2
 have HP2:Hid (Prg ρ B0 109 Mip.lsA w2 P):=(HP.out.below HA1.out).below hb2
 rw [hl4]
 clear hF hb2 HA1 HP HB1 hl4
 go_wp2_with fail
 refine (tasks_any' HP2.out).mono ?_
 rintro e w3 ⟨hb3,v3,U,rfl,hT,_⟩
 have hU:U.map Prod.fst=[2,4]:=tasksA hT.up hT.all
 obtain ⟨u0,u1,rfl⟩:∃u0 u1,U=[(2,u0),(4,u1)]:=by
  match U,hU with
  | [(a,x),(b,y)],hU=>
   simp at hU
   exact ⟨x,y,by rw [hU.1,hU.2]⟩
 obtain ⟨ot,ct,e3⟩:=own_shape hT.row
 subst e3
 obtain ⟨gt,rfl,_⟩:=own_some hT.row (by simp)
 have q0:=tks_cell hT.row (j:=0) (u:=(2,u0)) rfl
 have q1:=tks_cell hT.row (j:=1) (u:=(4,u1)) rfl
 have z0:=hT.lst (2,u0) (by simp)
 have z1:=hT.lst (4,u1) (by simp)
 rw [show ordOf (dcl 109 Mip.lsA).2.m (prd 109 Mip.lsA) (dcl 109 Mip.lsA).2.Q 2=[1,3] from ordA.1] at z0
 rw [show ordOf (dcl 109 Mip.lsA).2.m (prd 109 Mip.lsA) (dcl 109 Mip.lsA).2.Q 4=[2] from ordA.2] at z1
 rcases z0 with ⟨e,_⟩ | ⟨g0,k0,_,rfl,_,d0⟩
 ·cases e
 rcases z1 with ⟨e,_⟩ | ⟨g1,k1,_,rfl,_,d1⟩
 ·cases e
 have a0:w3.cell? ⟨g0,0,none⟩=some (.int .i64 1):=d0 0 1 rfl
 have a1:w3.cell? ⟨g0,1,none⟩=some (.int .i64 3):=d0 1 3 rfl
 have b0:w3.cell? ⟨g1,0,none⟩=some (.int .i64 2):=d1 0 2 rfl
 have HF3:=own_kept HF2.out (fun g hg=>hb3.block g (lt_of_heap (own_lt HF2.out g hg).2.choose_spec))
 obtain ⟨f0,h0,i0⟩:=Option.map_eq_some_iff.1 flA.1
 obtain ⟨f2,h2,i2⟩:=Option.map_eq_some_iff.1 flA.2.1
 obtain ⟨f3,h3,i3⟩:=Option.map_eq_some_iff.1 flA.2.2
 have c0:=fls_cell HF3 h0
 have c2:=fls_cell HF3 h2
 have c3:=fls_cell HF3 h3
 injection i0 with i0 i0'
 rw [i0,i0'] at c0
 rw [i2] at c2
 rw [i3] at c3
 have HB3:Hid (Below w.heap.size w w3):=below_step HB2.out hb3
 have HP3:Hid (Prg ρ B0 109 Mip.lsA w3 P):=HP2.out.below hb3
 simp only [Nat.zero_mul,Nat.zero_add,Nat.one_mul,Nat.reduceMul,Nat.reduceAdd,List.length_cons,List.length_nil] at c0 c2 c3 q0 q1
 obtain ⟨c00,c01,_⟩:=c0
 obtain ⟨c20,_⟩:=c2
 obtain ⟨_,_,c32⟩:=c3
 obtain ⟨q00,q01⟩:=q0
 obtain ⟨q10,q11⟩:=q1
 clear hT hU d0 d1 HF2 HF3 hb3 h0 h2 h3 i0 i0' i2 i3 HB2 HP2
 go_wp2_with fail
 refine (comB HRR.out (H.out.below HB3.out) _ (by rfl)).mono ?_
 rintro e w4 ⟨hb4,rfl⟩
 have HB4:Hid (Below w.heap.size w w4):=below_step HB3.out hb4
 have HP4:Hid (Prg ρ B0 109 Mip.lsA w4 P):=HP3.out.below hb4
 clear c00 c01 c20 c32 q00 q01 q10 q11 a0 a1 b0 hb4 HB3 HP3
 go_wp2_with fail
 have HA4:Hid (Below w4.heap.size w4 (w4.alloc (.cells #[.int .i64 9,.int .i64 0] 27))):=(Below.refl _ _).alloc (Nat.le_refl _) _
 have k4:=heap_alloc_new w4 (.cells #[.int .i64 9,.int .i64 0] 27)
 have HB4':Hid (Below w.heap.size w (w4.alloc (.cells #[.int .i64 9,.int .i64 0] 27))):=below_step HB4.out HA4.out
 have HP5:Hid (Prg ρ B0 109 Mip.lsA (w4.alloc (.cells #[.int .i64 9,.int .i64 0] 27)) P):=HP4.out.below HA4.out
 generalize w4.alloc (.cells #[.int .i64 9,.int .i64 0] 27)=w5 at HB4' k4 HP5 ⊢
 generalize w4.heap.size=n4 at k4 ⊢
 clear HA4 HB4 HP4
 refine (comC HRR.out (H.out.below HB4'.out) _ (by rfl)).mono ?_
 rintro e w6 ⟨hb6,rfl⟩
 have k6:=(hb6.block n4 (lt_of_heap k4)).trans k4
 have HB6:Hid (Below w.heap.size w w6):=below_step HB4'.out hb6
 have HP6:Hid (Prg ρ B0 109 Mip.lsA w6 P):=HP5.out.below hb6
 clear hb6 k4
 go_wp2_with fail
 have HB7:Hid (Below w.heap.size w (w6.alloc (.cells #[.int .i64 10,.int .i64 23] 27))):=below_step HB6.out ((Below.refl _ _).alloc (Nat.le_refl _) _)
 have k7:=heap_alloc_new w6 (.cells #[.int .i64 10,.int .i64 23] 27)
 have k8:=(((Below.refl _ w6).alloc (Nat.le_refl _) (.cells #[.int .i64 10,.int .i64 23] 27)).block n4 (lt_of_heap k6)).trans k6
 have HP7:Hid (Prg ρ B0 109 Mip.lsA (w6.alloc (.cells #[.int .i64 10,.int .i64 23] 27)) P):=HP6.out.below ((Below.refl _ _).alloc (Nat.le_refl _) _)
 generalize w6.alloc (.cells #[.int .i64 10,.int .i64 23] 27)=w7 at HB7 k7 k8 HP7 ⊢
 generalize w6.heap.size=n6 at k7 ⊢
 have x0:w7.cell? ⟨n4,0,none⟩=some (.int .i64 9):=(cell_of_row w7 n4 0 _ _ _ k8).trans rfl
 have x1:w7.cell? ⟨n4,1,none⟩=some (.int .i64 0):=(cell_of_row w7 n4 1 _ _ _ k8).trans rfl
 have x2:w7.cell? ⟨n6,0,none⟩=some (.int .i64 10):=(cell_of_row w7 n6 0 _ _ _ k7).trans rfl
 have x3:w7.cell? ⟨n6,1,none⟩=some (.int .i64 23):=(cell_of_row w7 n6 1 _ _ _ k7).trans rfl
 clear k6 k7 k8 HB6 HB4' HP6 HP5
 go_quiet (fail)
 all_goals go_wp2
 all_goals go_ret2
 all_goals exact ⟨below_drewN HB7.out _,P,B0,rfl,HP7.out.below (below_drewN (Below.refl _ _) _)⟩
end
section
open Go.RowKit
def inA:List (List Int):=[[1,2,3,4,5]]
def arA:List (Option (List Int)):=[some [1,2,3,4,5],none,none,none]
theorem layA:lay (prd 109 Mip.lsA) inA=some arA:=by kernel_rfl
def q1:Nq:=(qA.find? (fun q=>q.flow==1)).getD ⟨[],0,0,.nil,0⟩
def q2:Nq:=(qA.find? (fun q=>q.flow==2)).getD ⟨[],0,0,.nil,0⟩
def q3:Nq:=(qA.find? (fun q=>q.flow==3)).getD ⟨[],0,0,.nil,0⟩
theorem fq1:(dcl 109 Mip.lsA).2.Q.find? (fun q=>q.flow==1)=some q1:=by kernel_rfl
theorem fq2:(dcl 109 Mip.lsA).2.Q.find? (fun q=>q.flow==2)=some q2:=by kernel_rfl
theorem fq3:(dcl 109 Mip.lsA).2.Q.find? (fun q=>q.flow==3)=some q3:=by kernel_rfl
theorem sm1_0 (ρ:Mil.Bytes→Int→Int→Int) (S:Int→Int→Option Int):Mip.sm (dcl 109 Mip.lsA).2.m ρ S q1.body ((0:Nat):Int)=(S 0 0).bind fun u=>((some 0:Option Int)).bind fun v=>some (ρ [43] u v):=by kernel_rfl
theorem sm1_1 (ρ:Mil.Bytes→Int→Int→Int) (S:Int→Int→Option Int):Mip.sm (dcl 109 Mip.lsA).2.m ρ S q1.body ((1:Nat):Int)=(S 0 1).bind fun u=>(S 1 0).bind fun v=>some (ρ [43] u v):=by kernel_rfl
theorem sm1_2 (ρ:Mil.Bytes→Int→Int→Int) (S:Int→Int→Option Int):Mip.sm (dcl 109 Mip.lsA).2.m ρ S q1.body ((2:Nat):Int)=(S 0 2).bind fun u=>(S 1 1).bind fun v=>some (ρ [43] u v):=by kernel_rfl
theorem sm1_3 (ρ:Mil.Bytes→Int→Int→Int) (S:Int→Int→Option Int):Mip.sm (dcl 109 Mip.lsA).2.m ρ S q1.body ((3:Nat):Int)=(S 0 3).bind fun u=>(S 1 2).bind fun v=>some (ρ [43] u v):=by kernel_rfl
theorem sm1_4 (ρ:Mil.Bytes→Int→Int→Int) (S:Int→Int→Option Int):Mip.sm (dcl 109 Mip.lsA).2.m ρ S q1.body ((4:Nat):Int)=(S 0 4).bind fun u=>(S 1 3).bind fun v=>some (ρ [43] u v):=by kernel_rfl
theorem sm1_5 (ρ:Mil.Bytes→Int→Int→Int) (S:Int→Int→Option Int):Mip.sm (dcl 109 Mip.lsA).2.m ρ S q1.body ((5:Nat):Int)=(S 0 5).bind fun u=>(S 1 4).bind fun v=>some (ρ [43] u v):=by kernel_rfl
theorem sm2_0 (ρ:Mil.Bytes→Int→Int→Int) (S:Int→Int→Option Int):Mip.sm (dcl 109 Mip.lsA).2.m ρ S q2.body ((0:Nat):Int)=S 1 0:=by kernel_rfl
theorem sm2_1 (ρ:Mil.Bytes→Int→Int→Int) (S:Int→Int→Option Int):Mip.sm (dcl 109 Mip.lsA).2.m ρ S q2.body ((1:Nat):Int)=S 1 2:=by kernel_rfl
theorem sm3_0 (ρ:Mil.Bytes→Int→Int→Int) (S:Int→Int→Option Int):Mip.sm (dcl 109 Mip.lsA).2.m ρ S q3.body ((0:Nat):Int)=((some 7:Option Int)).bind fun u=>(S 1 0).bind fun v=>some (ρ [43] u v):=by kernel_rfl
theorem sm3_1 (ρ:Mil.Bytes→Int→Int→Int) (S:Int→Int→Option Int):Mip.sm (dcl 109 Mip.lsA).2.m ρ S q3.body ((1:Nat):Int)=((some 7:Option Int)).bind fun u=>(S 1 1).bind fun v=>some (ρ [43] u v):=by kernel_rfl
theorem sm3_2 (ρ:Mil.Bytes→Int→Int→Int) (S:Int→Int→Option Int):Mip.sm (dcl 109 Mip.lsA).2.m ρ S q3.body ((2:Nat):Int)=(S 2 0).bind fun u=>(S 1 2).bind fun v=>some (ρ [43] u v):=by kernel_rfl
theorem sm3_3 (ρ:Mil.Bytes→Int→Int→Int) (S:Int→Int→Option Int):Mip.sm (dcl 109 Mip.lsA).2.m ρ S q3.body ((3:Nat):Int)=(S 2 0).bind fun u=>(S 1 3).bind fun v=>some (ρ [43] u v):=by kernel_rfl
theorem sm3_4 (ρ:Mil.Bytes→Int→Int→Int) (S:Int→Int→Option Int):Mip.sm (dcl 109 Mip.lsA).2.m ρ S q3.body ((4:Nat):Int)=(S 2 1).bind fun u=>(S 1 4).bind fun v=>some (ρ [43] u v):=by kernel_rfl
theorem sm3_5 (ρ:Mil.Bytes→Int→Int→Int) (S:Int→Int→Option Int):Mip.sm (dcl 109 Mip.lsA).2.m ρ S q3.body ((5:Nat):Int)=(S 2 1).bind fun u=>(S 1 5).bind fun v=>some (ρ [43] u v):=by kernel_rfl
theorem plus_is {ρ:Mil.Bytes→Int→Int→Int} (hr:Rall2 ρ) (a b:Int):ρ [43] a b=wrap64 (a+b):=by
 have:=(hr [43]).1 (by rw [Lib.toList_data,bs_list];rfl)
 rw [this]
def wantA:List Int:=[8,10,7,11,21]
theorem known_vals {ρ:Mil.Bytes→Int→Int→Int} (hr:Rall2 ρ) {n:Nat} (hn:n < 6) {o:Option Int} (h:Mn ρ 109 Mip.lsA inA 3 n o):o=wantA[n]?:=by
 rcases h with ⟨h,_⟩ | ⟨A,r,S,hA,_,hS,_,rfl⟩
 ·rw [layA] at h;cases h
 obtain rfl:=Option.some.inj (layA.symm.trans hA)
 have L0:Lof arA 0=some [1,2,3,4,5]:=rfl
 have L1:Lof arA 1=none:=rfl
 have L2:Lof arA 2=none:=rfl
 have L3:Lof arA 3=none:=rfl
 have x:∀i:Nat,i≤2000→S ((0:Nat):Int) (i:Nat)=([1,2,3,4,5]:List Int)[i]?:=fun i hi=>sol_in hS L0 hi
 have x0:S 0 0=some 1:=x 0 (by decide)
 have x1:S 0 1=some 2:=x 1 (by decide)
 have x2:S 0 2=some 3:=x 2 (by decide)
 have x3:S 0 3=some 4:=x 3 (by decide)
 have x4:S 0 4=some 5:=x 4 (by decide)
 have x5:S 0 5=none:=x 5 (by decide)
 have s0:S 1 0=some 1:=sol_next hS (j:=1) (i:=0) L1 fq1 (by decide) (fun k hk=>absurd hk (Nat.not_lt_zero _)) (by
  rw [sm1_0,x0];show some (ρ [43] 1 0)=_;rw [plus_is hr];kernel_rfl)
 have s1:S 1 1=some 3:=sol_next hS (j:=1) (i:=1) L1 fq1 (by decide) (fun k hk=>by
   obtain rfl:k=0:=by omega
   show (S 1 0).isSome=true;rw [s0];rfl) (by
  rw [sm1_1,x1,s0];show some (ρ [43] 2 1)=_;rw [plus_is hr];kernel_rfl)
 have s2:S 1 2=some 6:=sol_next hS (j:=1) (i:=2) L1 fq1 (by decide) (fun k hk=>by
   rcases (by omega:k=0∨k=1) with rfl | rfl
   ·show (S 1 0).isSome=true;rw [s0];rfl
   ·show (S 1 1).isSome=true;rw [s1];rfl) (by
  rw [sm1_2,x2,s1];show some (ρ [43] 3 3)=_;rw [plus_is hr];kernel_rfl)
 have s3:S 1 3=some 10:=sol_next hS (j:=1) (i:=3) L1 fq1 (by decide) (fun k hk=>by
   rcases (by omega:k=0∨k=1∨k=2) with rfl | rfl | rfl
   ·show (S 1 0).isSome=true;rw [s0];rfl
   ·show (S 1 1).isSome=true;rw [s1];rfl
   ·show (S 1 2).isSome=true;rw [s2];rfl) (by
  rw [sm1_3,x3,s2];show some (ρ [43] 4 6)=_;rw [plus_is hr];kernel_rfl)
 have s4:S 1 4=some 15:=sol_next hS (j:=1) (i:=4) L1 fq1 (by decide) (fun k hk=>by
   rcases (by omega:k=0∨k=1∨k=2∨k=3) with rfl | rfl | rfl | rfl
   ·show (S 1 0).isSome=true;rw [s0];rfl
   ·show (S 1 1).isSome=true;rw [s1];rfl
   ·show (S 1 2).isSome=true;rw [s2];rfl
   ·show (S 1 3).isSome=true;rw [s3];rfl) (by
  rw [sm1_4,x4,s3];show some (ρ [43] 5 10)=_;rw [plus_is hr];kernel_rfl)
 have s5:S 1 5=none:=sol_stop hS (j:=1) (i:=5) L1 fq1 (by rw [sm1_5,x5];rfl) (Nat.le_refl _) (by decide)
 have u0:S 2 0=some 1:=sol_next hS (j:=2) (i:=0) L2 fq2 (by decide) (fun k hk=>absurd hk (Nat.not_lt_zero _)) (by rw [sm2_0];exact s0)
 have u1:S 2 1=some 6:=sol_next hS (j:=2) (i:=1) L2 fq2 (by decide) (fun k hk=>by
   obtain rfl:k=0:=by omega
   show (S 2 0).isSome=true;rw [u0];rfl) (by rw [sm2_1];exact s2)
 have h0:S 3 0=some 8:=sol_next hS (j:=3) (i:=0) L3 fq3 (by decide) (fun k hk=>absurd hk (Nat.not_lt_zero _)) (by
  rw [sm3_0,s0];show some (ρ [43] 7 1)=_;rw [plus_is hr];kernel_rfl)
 have h1:S 3 1=some 10:=sol_next hS (j:=3) (i:=1) L3 fq3 (by decide) (fun k hk=>by
   obtain rfl:k=0:=by omega
   show (S 3 0).isSome=true;rw [h0];rfl) (by
  rw [sm3_1,s1];show some (ρ [43] 7 3)=_;rw [plus_is hr];kernel_rfl)
 have h2:S 3 2=some 7:=sol_next hS (j:=3) (i:=2) L3 fq3 (by decide) (fun k hk=>by
   rcases (by omega:k=0∨k=1) with rfl | rfl
   ·show (S 3 0).isSome=true;rw [h0];rfl
   ·show (S 3 1).isSome=true;rw [h1];rfl) (by
  rw [sm3_2,u0,s2];show some (ρ [43] 1 6)=_;rw [plus_is hr];kernel_rfl)
 have h3:S 3 3=some 11:=sol_next hS (j:=3) (i:=3) L3 fq3 (by decide) (fun k hk=>by
   rcases (by omega:k=0∨k=1∨k=2) with rfl | rfl | rfl
   ·show (S 3 0).isSome=true;rw [h0];rfl
   ·show (S 3 1).isSome=true;rw [h1];rfl
   ·show (S 3 2).isSome=true;rw [h2];rfl) (by
  rw [sm3_3,u0,s3];show some (ρ [43] 1 10)=_;rw [plus_is hr];kernel_rfl)
 have h4:S 3 4=some 21:=sol_next hS (j:=3) (i:=4) L3 fq3 (by decide) (fun k hk=>by
   rcases (by omega:k=0∨k=1∨k=2∨k=3) with rfl | rfl | rfl | rfl
   ·show (S 3 0).isSome=true;rw [h0];rfl
   ·show (S 3 1).isSome=true;rw [h1];rfl
   ·show (S 3 2).isSome=true;rw [h2];rfl
   ·show (S 3 3).isSome=true;rw [h3];rfl) (by
  rw [sm3_4,u1,s4];show some (ρ [43] 6 15)=_;rw [plus_is hr];kernel_rfl)
 have h5:S 3 5=none:=sol_stop hS (j:=3) (i:=5) L3 fq3 (by rw [sm3_5,u1,s5];rfl) (Nat.le_refl _) (by decide)
 rcases (by omega:n=0∨n=1∨n=2∨n=3∨n=4∨n=5) with rfl | rfl | rfl | rfl | rfl | rfl
 ·exact h0
 ·exact h1
 ·exact h2
 ·exact h3
 ·exact h4
 ·exact h5
end
section
open Go.RowKit
theorem own_lit0 {w:World} {g n:Nat} {cur:Array Value} {t:TypeId} (h:w.heap[g]?=some (.cells cur t (0,0))) (hn:n=cur.size) (hm:n≤maxLen):w.ownsRow 0 t 1 (.slice (some ⟨g,0,none⟩) n n) n cur.toList:=
 ⟨by simp [hn],Or.inr ⟨g,n,cur,rfl,Nat.zero_le _,h,Nat.le_refl _,hm,by omega,List.take_of_length_le (by simp [hn])⟩⟩
theorem insA {w:World} {ga gb:Nat} (ha:w.heap[ga]?=some (.cells #[.int .i64 1,.int .i64 2,.int .i64 3,.int .i64 4,.int .i64 5] 2 (0,0))) (hb:w.heap[gb]?=some (.cells #[.slice (some ⟨ga,0,none⟩) 5 5] 47 (0,0))):Ins w (.slice (some ⟨gb,0,none⟩) 1 1) inA [.slice (some ⟨ga,0,none⟩) 5 5]:=by
 refine ⟨⟨0,own_lit0 hb rfl (by unfold maxLen;omega)⟩,fun k l hl=>?_,by decide,fun l hl=>?_⟩
 ·cases k with
  | zero=>
   cases hl
   exact ⟨_,0,rfl,own_lit0 ha rfl (by unfold maxLen;omega)⟩
  | succ k=>simp [inA] at hl
 ·obtain rfl:l=[1,2,3,4,5]:=by simpa [inA] using hl
  decide
theorem e12 {al:Nat→Addr} {w:World} (h:Alp al w):lastOf al (al 11) 13=12:=by
 have n0:∀j,11 < j→j < 13→al 11≠al j:=fun j h1 h2=>h.d j 11 h1 h2
 simp [lastOf,n0]
theorem neA:∀x∈inA,x≠[]:=by
 intro x hx
 obtain rfl:x=[1,2,3,4,5]:=by simpa [inA] using hx
 simp
set_option maxRecDepth 100000 in
theorem known_any {ρ:Mil.Bytes→Int→Int→Int} (hr:Rall2 ρ) (al:Nat→Addr) (w:World) (h:Alp al w) :
  Calls Tryz.prog 9 #[] w fun e w'=>e=.returned (.bool true)∧Below w.heap.size w w':=by
 have H:Hid (Alp al w):=h
 have HRR:Hid (Rall2 ρ):=hr
 clear h hr
 go_enter Tryz.func9,Tryz.ntmps9
 go_wp2_with fail
 refine (tasked_is HRR.out al _ H.out).mono ?_
 rintro e w1 ⟨hb1,P,B0,rfl,hP⟩
 have HB1:Hid (Below w.heap.size w w1):=hb1
 have HP1:Hid (Prg ρ B0 109 Mip.lsA w1 P):=hP
 clear hb1 hP
 go_wp2_with fail
 obtain ⟨A1,hA1⟩:∃A1,A1=w1.alloc (.cells #[.int .i64 1,.int .i64 2,.int .i64 3,.int .i64 4,.int .i64 5] 2):=⟨_,rfl⟩
 obtain ⟨A2,hA2⟩:∃A2,A2=A1.alloc (.cells #[.slice (some ⟨w1.heap.size,0,none⟩) 5 5] 47):=⟨_,rfl⟩
 obtain ⟨A3,hA3⟩:∃A3,A3=A2.alloc (.cells #[.int .i64 8,.int .i64 10,.int .i64 7,.int .i64 11,.int .i64 21] 2):=⟨_,rfl⟩
 have z1:A1.heap.size=w1.heap.size+1:=by rw [hA1];simp
 have z2:A2.heap.size=w1.heap.size+1+1:=by rw [hA2];simp [z1]
 have b1:Below w1.heap.size w1 A1:=by rw [hA1];exact bl1 _ _
 have b2:Below A1.heap.size A1 A2:=by rw [hA2];exact bl1 _ _
 have b3:Below A2.heap.size A2 A3:=by rw [hA3];exact bl1 _ _
 have ha:A3.heap[w1.heap.size]?=some (.cells #[.int .i64 1,.int .i64 2,.int .i64 3,.int .i64 4,.int .i64 5] 2 (0,0)):=by
  rw [b3.block _ (by omega),b2.block _ (by omega),hA1];exact heap_alloc_new w1 _
 have hb:A3.heap[w1.heap.size+1]?=some (.cells #[.slice (some ⟨w1.heap.size,0,none⟩) 5 5] 47 (0,0)):=by
  rw [b3.block _ (by omega),hA2,←z1];exact heap_alloc_new A1 _
 have hc:A3.heap[w1.heap.size+1+1]?=some (.cells #[.int .i64 8,.int .i64 10,.int .i64 7,.int .i64 11,.int .i64 21] 2 (0,0)):=by
  rw [hA3,←z2];exact heap_alloc_new A2 _
 have HI:Hid (Ins A3 (.slice (some ⟨w1.heap.size+1,0,none⟩) 1 1) inA [.slice (some ⟨w1.heap.size,0,none⟩) 5 5]):=insA ha hb
 have HC:Hid (A3.heap[w1.heap.size+1+1]?=some (.cells #[.int .i64 8,.int .i64 10,.int .i64 7,.int .i64 11,.int .i64 21] 2 (0,0))):=hc
 have hb3:Below w1.heap.size w1 A3:=below_step (below_step b1 b2) b3
 have HB3:Hid (Below w.heap.size w A3):=below_step HB1.out hb3
 have HP3:Hid (Prg ρ B0 109 Mip.lsA A3 P):=HP1.out.below hb3
 clear b1 b2 b3 ha hb hc hb3 HB1 HP1 z1 z2
 rw [←hA1,←hA2,←hA3]
 clear hA1 hA2 hA3
 generalize w1.heap.size=g1 at HI HC ⊢
 go_loopg [5] 5 (fun gk s5 wr=>∃n:Nat,n≤5∧s5=.int .i64 n∧gk=5 - n∧Hid (Below A3.heap.size A3 wr))
 case atStart=>exact ⟨0,Nat.zero_le _,rfl,rfl,Below.refl _ _⟩
 case round=>
  obtain ⟨n,hn,rfl,hg,KB⟩:=hrel
  have HG:Hid (gk=5 - n∧n≤5):=⟨hg,hn⟩
  have FX:Hid (∀V,Below A3.heap.size A3 V→Prg ρ B0 109 Mip.lsA V P∧Alp al V∧Ins V (.slice (some ⟨g1+1,0,none⟩) 1 1) inA [.slice (some ⟨g1,0,none⟩) 5 5]∧Below w.heap.size w V):=fun V hV=>⟨HP3.out.below hV,(H.out.below HB3.out).below hV,HI.out.below hV,below_step HB3.out hV⟩
  clear hg hn
  have h34:3 < (prd 109 Mip.lsA).length:=by have:=lenA;unfold fA at this;omega
  have H34:Hid (3 < (prd 109 Mip.lsA).length):=h34
  clear h34
  by_cases hlt:n < 5
  ·have HLT:Hid (n < 5∧n≤400∧n < 6):=⟨hlt,by omega,by omega⟩
   have n5:(n:Int) < 5:=by omega
   have n0:(0:Int)≤(n:Int):=by omega
   clear hlt
   go_wp2_with fail
   refine (pmeaning_any (items_of Mip.parsedA) (FX.out _ KB.out).1 (FX.out _ KB.out).2.1.e (FX.out _ KB.out).2.2.1 neA H34.out HLT.out.2.1).mono ?_
   rintro E w6 ⟨hb6,o,hmn,rfl⟩
   have MB6:Hid (Below A3.heap.size A3 w6):=below_step KB.out hb6
   have ho:=known_vals HRR.out HLT.out.2.2 hmn
   obtain ⟨v,hv⟩:∃v,wantA[n]?=some v:=⟨_,List.getElem?_eq_getElem (by have:=HLT.out.1;simpa [wantA] using this)⟩
   rw [hv] at ho
   subst ho
   have MB7:Hid (Below A3.heap.size A3 (w6.alloc (.cells #[.int .i64 0,.int .i64 0] 27))):=MB6.out.alloc MB6.out.size _
   have k7:=(MB7.out.block _ (lt_of_heap HC.out)).trans HC.out
   have c7:(w6.alloc (.cells #[.int .i64 0,.int .i64 0] 27)).cell? ⟨g1+1+1,n,none⟩=some (.int .i64 v):=by
    refine (cell_of_row _ _ n _ _ _ k7).trans ?_
    have h5:=HLT.out.1
    rcases (by omega:n=0∨n=1∨n=2∨n=3∨n=4) with rfl | rfl | rfl | rfl | rfl <;> (cases hv;rfl)
   unfold pv
   clear hb6 hmn hv KB MB6 k7
   go_wp2
   go_roundg (5 - (n+1))
   case measure=>have:=HG.out;have:=HLT.out;omega
   case rel=>exact ⟨n+1,HLT.out.1,by go_num,rfl,MB7⟩
  ·have n5:¬(n:Int) < 5:=by omega
   go_wp2_with fail
   refine (pmeaning_any (n:=5) (items_of Mip.parsedA) (FX.out _ KB.out).1 (FX.out _ KB.out).2.1.e (FX.out _ KB.out).2.2.1 neA H34.out (by decide)).mono ?_
   rintro E w6 ⟨hb6,o,hmn,rfl⟩
   have MB6:Hid (Below A3.heap.size A3 w6):=below_step KB.out hb6
   have ho:o=none:=known_vals HRR.out (by decide) hmn
   subst ho
   have HB9:Hid (Below w.heap.size w (w6.alloc (.cells #[.int .i64 12,.int .i64 (-1)] 27))):=(FX.out _ (MB6.out.alloc MB6.out.size _)).2.2.2
   have E12:=e12 (FX.out _ MB6.out).2.1
   unfold pv
   rw [E12]
   clear hb6 hmn KB MB6 E12
   go_wp2
   go_ret
   exact ⟨rfl,HB9.out⟩
end
section
open Go.RowKit
theorem lof_more (A:List (Option (List Int))) (t:List Int) (j:Nat):(Lof A j=none↔Lof (A.map (Option.map (·++t))) j=none)∧∀l l',Lof A j=some l→Lof (A.map (Option.map (·++t))) j=some l'→∃t,l'=l++t:=by
 unfold Lof
 rw [List.getElem?_map]
 cases A[j]? with
 | none=>exact ⟨by simp,fun l l' h=>by simp at h⟩
 | some o=>
  cases o with
  | none=>exact ⟨by simp,fun l l' h=>by simp at h⟩
  | some x=>exact ⟨by simp,fun l l' h h'=>⟨t,by
    have e1:x=l:=by simpa using h
    have e2:x++t=l':=by simpa using h'
    rw [←e1,←e2]⟩⟩
theorem mn_more {ρ:Mil.Bytes→Int→Int→Int} {N:Nat} {l:List Mip.It} {ls:List (List Int)} {j n:Nat} {v:Int} {o':Option Int} (h:Mn ρ N l ls j n (some v)) (h':Mn ρ N l (ls.map (·++[1,0,1])) j n o'):o'=some v:=by
 rcases h with ⟨_,e⟩ | ⟨A,r,S,hA,hC,hS,_,e⟩
 ·cases e
 have hm:=lay_more [1,0,1] (by decide) _ _ _ hA
 rcases h' with ⟨e',_⟩ | ⟨A',r',S',hA',_,hS',_,rfl⟩
 ·rw [hm] at e';cases e'
 obtain rfl:=Option.some.inj (hm.symm.trans hA')
 exact sol_mono hC (lof_more A [1,0,1]) hS hS' _ _ _ rfl v e.symm
end
end Go.Proofs.YticbokabjhnagaaGreatDoor
