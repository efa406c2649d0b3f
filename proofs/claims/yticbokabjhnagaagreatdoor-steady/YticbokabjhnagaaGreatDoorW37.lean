import Derived.Test.YticbokabjhnagaaGreatDoorW29
import Derived.Test.YticbokabjhnagaaGreatDoorW36
import Derived.Laws.EntriesVeiled
namespace Go.Proofs.YticbokabjhnagaaGreatDoor
set_option maxHeartbeats 32000000
section
open Go.RowKit
def En (f:Nat):Prop:=∀xs w,(callFunc f xs).run Tryz.prog w=.ok (.enter f xs) w
def Ps (I:World→Prop) (r:Option Int) (E:Ending) (w':World):Prop:=I w'∧∃x,E=.returned (.tuple #[.int .i64 x,.bool r.isSome])∧∀v,r=some v→x=v
def P2 (I:World→Prop) (r s:Option Int) (E:Ending) (w':World):Prop:=I w'∧∃x y,E=.returned (.tuple #[.int .i64 x,.int .i64 y,.bool (r.isSome && s.isSome)])∧∀a b,r=some a→s=some b→x=a∧y=b
structure Env (lo:Nat) (w0:World) (I:World→Prop):Prop where
 keep:∀w,I w→∀k,lo≤k→k < w0.heap.size→w.heap[k]?=w0.heap[k]?
 grow:∀w w',I w→Below w.heap.size w w'→I w'
def Src (I:World→Prop) (sv:Value) (S:Int→Int→Option Int) (d:Int→Int→Prop):Prop:=
 ∃f x0,sv=.func (.func f) #[x0] #[]∧En f∧∀j n w,d j n→I w→Calls Tryz.prog f #[x0,.int .i64 j,.int .i64 n] w (Ps I (S j n))
abbrev Al:Type:=(Int→Int→Prop)→Int→Prop
abbrev Ph2:Type:=(Int→Int→Option Int)→Int→Option Int
def Bv (lo:Nat) (w0:World) (f:Nat) (c:Array Value) (α:Al) (φ:Ph2):Prop:=
 En f∧∀I sv S d,Env lo w0 I→Src I sv S d→∀n w,I w→α d n→Calls Tryz.prog f (#[sv,.int .i64 n]++c) w (Ps I (φ S n))
def B2 (lo:Nat) (w0:World) (f:Nat) (c:Array Value) (α:Al) (φ ψ:Ph2):Prop:=
 En f∧∀I sv S d,Env lo w0 I→Src I sv S d→∀n w,I w→α d n→Calls Tryz.prog f (#[sv,.int .i64 n]++c) w (P2 I (φ S n) (ψ S n))
def Rkn (f:Nat) (c:Array Value) (g:Int→Int→Int):Prop:=En f∧∀a b w,Calls Tryz.prog f (#[.int .i64 a,.int .i64 b]++c) w fun E w'=>E=.returned (.int .i64 (g a b))∧Below w.heap.size w w'
theorem Env.cell {lo:Nat} {w0 w:World} {I:World→Prop} (h:Env lo w0 I) (hI:I w) {p:Nat} (hp:lo≤p) {v:Value} (hk:w0.cell? ⟨p,0,none⟩=some v):w.cell? ⟨p,0,none⟩=some v:=
 (World.cell?_of_block (w:=w0) (h.keep w hI p hp (lt_of_cell hk))).trans hk
theorem Env.old {lo:Nat} {w0 w1:World} {I:World→Prop} (h:Env lo w1 I) (k:∀b,lo≤b→b < w0.heap.size→w1.heap[b]?=w0.heap[b]?) (hs:w0.heap.size≤w1.heap.size):Env lo w0 I:=⟨fun w hw b h1 h2=>(h.keep w hw b h1 (by omega)).trans (k b h1 h2),h.grow⟩
theorem Bv.move {lo:Nat} {w0 w1:World} {f:Nat} {c:Array Value} {α:Al} {φ:Ph2} (h:Bv lo w0 f c α φ) (k:∀b,lo≤b→b < w0.heap.size→w1.heap[b]?=w0.heap[b]?) (hs:w0.heap.size≤w1.heap.size):Bv lo w1 f c α φ:=⟨h.1,fun I sv S d hE hS n w hI ha=>h.2 I sv S d (hE.old k hs) hS n w hI ha⟩
theorem Bv.mono {lo:Nat} {w0 w1:World} {f:Nat} {c:Array Value} {α:Al} {φ:Ph2} (h:Bv lo w0 f c α φ) (k:Below w0.heap.size w0 w1):Bv lo w1 f c α φ:=h.move (fun b _ hb=>k.block b hb) k.size
theorem B2.mono {lo:Nat} {w0 w1:World} {f:Nat} {c:Array Value} {α:Al} {φ ψ:Ph2} (h:B2 lo w0 f c α φ ψ) (k:Below w0.heap.size w0 w1):B2 lo w1 f c α φ ψ:=⟨h.1,fun I sv S d hE hS n w hI ha=>h.2 I sv S d (hE.old (fun b _ hb=>k.block b hb) k.size) hS n w hI ha⟩
def FnP (w:World) (X:World→Nat→Array Value→Prop) (E:Ending) (w':World):Prop:=Below w.heap.size w w'∧∃(f:Nat) (c:Array Value),E=.returned (.func (.func f) #[] c)∧X w' f c
theorem en_always:En 98:=fun _ _=>by kernel_rfl
theorem en_ofFlow:En 99:=fun _ _=>by kernel_rfl
theorem en_later:En 114:=fun _ _=>by kernel_rfl
theorem en_rarer:En 115:=fun _ _=>by kernel_rfl
theorem en_oftener:En 116:=fun _ _=>by kernel_rfl
theorem en_both:En 142:=fun _ _=>by kernel_rfl
theorem en_ofTwo:En 101:=fun _ _=>by kernel_rfl
theorem en_ofChoice:En 113:=fun _ _=>by kernel_rfl
set_option maxRecDepth 100000 in
theorem always_body {lo:Nat} {w0:World} {p:Nat} (lp:lo≤p) {k:Int} (hk:w0.cell? ⟨p,0,none⟩=some (.int .i64 k)):Bv lo w0 98 #[.pointer (some ⟨p,0,none⟩)] (fun _ _=>True) (fun _ _=>some k):=by
 refine ⟨en_always,fun I sv S d hE hS n w hI ha=>?_⟩
 have HI:Hid (I w):=hI
 have HE:Hid (Env lo w0 I):=hE
 have HS:Hid (Src I sv S d):=hS
 have Ck:w.cell? ⟨p,0,none⟩=some (.int .i64 k):=hE.cell hI lp hk
 clear ha
 clear hI hE hS
 show Calls Tryz.prog 98 #[sv,.int .i64 n,.pointer (some ⟨p,0,none⟩)] w _
 go_enter Tryz.func98,Tryz.ntmps98
 go_wp2
 go_ret2
 exact ⟨HI.out,k,rfl,fun v h=>by cases h;rfl⟩
set_option maxRecDepth 100000 in
theorem ofFlow_body {lo:Nat} {w0:World} {p:Nat} (lp:lo≤p) {j:Int} (hk:w0.cell? ⟨p,0,none⟩=some (.int .i64 j)):Bv lo w0 99 #[.pointer (some ⟨p,0,none⟩)] (fun d n=>d j n) (fun S n=>S j n):=by
 refine ⟨en_ofFlow,fun I sv S d hE hS n w hI ha=>?_⟩
 have HI:Hid (I w):=hI
 have HE:Hid (Env lo w0 I):=hE
 have HS:Hid (Src I sv S d):=hS
 have Ck:w.cell? ⟨p,0,none⟩=some (.int .i64 j):=hE.cell hI lp hk
 have HA:Hid (d j n):=ha
 clear ha
 obtain ⟨fs,x0,hsv,hen,hcl⟩:=hS
 have hen2:=fun xs w=>hen xs w
 have HC:Hid (∀j n w,d j n→I w→Calls Tryz.prog fs #[x0,.int .i64 j,.int .i64 n] w (Ps I (S j n))):=hcl
 clear hcl hen HS HE
 subst hsv
 clear hI hE
 show Calls Tryz.prog 99 #[.func (.func fs) #[x0] #[],.int .i64 n,.pointer (some ⟨p,0,none⟩)] w _
 go_enter Tryz.func99,Tryz.ntmps99
 go_wp2_with fail
 refine (HC.out j n w HA.out HI.out).mono ?_
 rintro E w1 ⟨hI1,x,rfl,hx⟩
 have HX:Hid (I w1∧∀v,S j n=some v→x=v):=⟨hI1,hx⟩
 clear hI1 hx
 go_wp2_with fail
 go_ret2
 exact ⟨HX.out.1,x,rfl,HX.out.2⟩
set_option maxRecDepth 100000 in
theorem later_body {lo:Nat} {w0:World} {p q:Nat} (lp:lo≤p) (lq:lo≤q) {f1:Nat} {c1:Array Value} {f2:Nat} {c2:Array Value} {α1 α2:Al} {φ1 φ2:Ph2} (h1:Bv lo w0 f1 c1 α1 φ1) (h2:Bv lo w0 f2 c2 α2 φ2) (hk:w0.cell? ⟨p,0,none⟩=some (.func (.func f1) #[] c1)) (hl:w0.cell? ⟨q,0,none⟩=some (.func (.func f2) #[] c2)):Bv lo w0 114 #[.pointer (some ⟨p,0,none⟩),.pointer (some ⟨q,0,none⟩)] (fun d n=>if n=0 then α1 d n else α2 d (wrap64 (n - 1))) (fun S n=>if n=0 then φ1 S n else φ2 S (wrap64 (n - 1))):=by
 refine ⟨en_later,fun I sv S d hE hS n w hI ha=>?_⟩
 have HI:Hid (I w):=hI
 have HE:Hid (Env lo w0 I):=hE
 have HS:Hid (Src I sv S d):=hS
 have Ck:w.cell? ⟨p,0,none⟩=some (.func (.func f1) #[] c1):=hE.cell hI lp hk
 have Cl:w.cell? ⟨q,0,none⟩=some (.func (.func f2) #[] c2):=hE.cell hI lq hl
 have H1:Hid (Bv lo w0 f1 c1 α1 φ1):=h1
 have H2:Hid (Bv lo w0 f2 c2 α2 φ2):=h2
 have en1:=fun xs w=>h1.1 xs w
 have en2:=fun xs w=>h2.1 xs w
 clear h1 h2
 clear hI hE hS
 show Calls Tryz.prog 114 #[sv,.int .i64 n,.pointer (some ⟨p,0,none⟩),.pointer (some ⟨q,0,none⟩)] w _
 by_cases hn:n=0
 ·subst hn
  have HA:Hid (α1 d 0):=ha
  clear ha
  go_enter Tryz.func114,Tryz.ntmps114
  go_wp2_with fail
  refine (H1.out.2 I sv S d HE.out HS.out 0 w HI.out HA.out).mono ?_
  rintro E w1 ⟨hI1,x,rfl,hx1⟩
  have HX1:Hid (I w1∧∀v,_=some v→x=v):=⟨hI1,hx1⟩
  clear hI1 hx1
  go_wp2_with fail
  go_ret2
  exact ⟨HX1.out.1,x,rfl,HX1.out.2⟩
 ·have HA:Hid (α2 d (wrap64 (n - 1))):=by
   have ha':=ha
   simp only [if_neg hn] at ha'
   exact ha'
  have hn2:(n==0)=false:=by simpa using hn
  clear ha
  go_enter Tryz.func114,Tryz.ntmps114
  go_wp2_with fail
  refine (H2.out.2 I sv S d HE.out HS.out (wrap64 (n - 1)) w HI.out HA.out).mono ?_
  rintro E w1 ⟨hI1,x,rfl,hx1⟩
  have HX1:Hid (I w1∧∀v,_=some v→x=v):=⟨hI1,hx1⟩
  clear hI1 hx1
  go_wp2_with fail
  go_ret2
  exact ⟨HX1.out.1,x,rfl,HX1.out.2⟩
set_option maxRecDepth 100000 in
theorem rarer_body {lo:Nat} {w0:World} {p q:Nat} (lp:lo≤p) (lq:lo≤q) {f1:Nat} {c1:Array Value} {α1:Al} {φ1:Ph2} {k:Int} (h1:Bv lo w0 f1 c1 α1 φ1) (hk:w0.cell? ⟨p,0,none⟩=some (.func (.func f1) #[] c1)) (hl:w0.cell? ⟨q,0,none⟩=some (.int .i64 k)):Bv lo w0 115 #[.pointer (some ⟨p,0,none⟩),.pointer (some ⟨q,0,none⟩)] (fun d n=>α1 d (wrap64 (k*n))) (fun S n=>φ1 S (wrap64 (k*n))):=by
 refine ⟨en_rarer,fun I sv S d hE hS n w hI ha=>?_⟩
 have HI:Hid (I w):=hI
 have HE:Hid (Env lo w0 I):=hE
 have HS:Hid (Src I sv S d):=hS
 have Ck:w.cell? ⟨p,0,none⟩=some (.func (.func f1) #[] c1):=hE.cell hI lp hk
 have Cl:w.cell? ⟨q,0,none⟩=some (.int .i64 k):=hE.cell hI lq hl
 have H1:Hid (Bv lo w0 f1 c1 α1 φ1):=h1
 have en1:=fun xs w=>h1.1 xs w
 have HA:Hid (α1 d (wrap64 (k*n))):=ha
 clear h1 ha
 clear hI hE hS
 show Calls Tryz.prog 115 #[sv,.int .i64 n,.pointer (some ⟨p,0,none⟩),.pointer (some ⟨q,0,none⟩)] w _
 ·go_enter Tryz.func115,Tryz.ntmps115
  go_wp2_with fail
  refine (H1.out.2 I sv S d HE.out HS.out (wrap64 (k*n)) w HI.out HA.out).mono ?_
  rintro E w1 ⟨hI1,x,rfl,hx1⟩
  have HX1:Hid (I w1∧∀v,_=some v→x=v):=⟨hI1,hx1⟩
  clear hI1 hx1
  go_wp2_with fail
  go_ret2
  exact ⟨HX1.out.1,x,rfl,HX1.out.2⟩
set_option maxRecDepth 100000 in
theorem both_body {lo:Nat} {w0:World} {p q:Nat} (lp:lo≤p) (lq:lo≤q) {f1:Nat} {c1:Array Value} {f2:Nat} {c2:Array Value} {α1 α2:Al} {φ1 φ2:Ph2} (h1:Bv lo w0 f1 c1 α1 φ1) (h2:Bv lo w0 f2 c2 α2 φ2) (hk:w0.cell? ⟨p,0,none⟩=some (.func (.func f1) #[] c1)) (hl:w0.cell? ⟨q,0,none⟩=some (.func (.func f2) #[] c2)):B2 lo w0 142 #[.pointer (some ⟨p,0,none⟩),.pointer (some ⟨q,0,none⟩)] (fun d n=>α1 d n∧α2 d n) φ1 φ2:=by
 refine ⟨en_both,fun I sv S d hE hS n w hI ha=>?_⟩
 have HI:Hid (I w):=hI
 have HE:Hid (Env lo w0 I):=hE
 have HS:Hid (Src I sv S d):=hS
 have Ck:w.cell? ⟨p,0,none⟩=some (.func (.func f1) #[] c1):=hE.cell hI lp hk
 have Cl:w.cell? ⟨q,0,none⟩=some (.func (.func f2) #[] c2):=hE.cell hI lq hl
 have H1:Hid (Bv lo w0 f1 c1 α1 φ1):=h1
 have H2:Hid (Bv lo w0 f2 c2 α2 φ2):=h2
 have en1:=fun xs w=>h1.1 xs w
 have en2:=fun xs w=>h2.1 xs w
 clear h1 h2
 have HA:Hid (α1 d n∧α2 d n):=ha
 clear ha
 clear hI hE hS
 show Calls Tryz.prog 142 #[sv,.int .i64 n,.pointer (some ⟨p,0,none⟩),.pointer (some ⟨q,0,none⟩)] w _
 ·go_enter Tryz.func142,Tryz.ntmps142
  go_wp2_with fail
  refine (H1.out.2 I sv S d HE.out HS.out n w HI.out HA.out.1).mono ?_
  rintro E w1 ⟨hI1,x,rfl,hx1⟩
  have HX1:Hid (I w1∧∀v,_=some v→x=v):=⟨hI1,hx1⟩
  clear hI1 hx1
  cases hr:φ1 S n with
  | none=>
   go_wp2_with fail
   refine bodyPost_ret (v:=.tuple #[.int .i64 0,.int .i64 0,.bool false]) (by simp [results,Tryz.results142,go_sem]) rfl ?_
   exact ⟨HX1.out.1,0,0,by rw [hr];rfl,fun a b h=>by rw [hr] at h;cases h⟩
  | some v=>
   have HV:Hid (φ1 S n=some v∧x=v):=⟨hr,HX1.out.2 v hr⟩
   have Cl1:w1.cell? ⟨q,0,none⟩=some (.func (.func f2) #[] c2):=HE.out.cell HX1.out.1 lq hl
   clear hr
   go_wp2_with fail
   refine (H2.out.2 I sv S d HE.out HS.out n w1 HX1.out.1 HA.out.2).mono ?_
   rintro E w2 ⟨hI2,y,rfl,hy⟩
   have HX2:Hid (I w2∧∀v,φ2 S n=some v→y=v):=⟨hI2,hy⟩
   clear hI2 hy
   go_wp2_with fail
   refine bodyPost_ret (v:=.tuple #[.int .i64 x,.int .i64 y,.bool (φ2 S n).isSome]) (by simp [results,Tryz.results142,go_sem]) rfl ?_
   exact ⟨HX2.out.1,x,y,by rw [HV.out.1];rfl,fun a b h1 h2=>⟨by rw [HV.out.1] at h1;cases h1;exact HV.out.2,HX2.out.2 b h2⟩⟩
set_option maxRecDepth 100000 in
theorem oftener_body {lo:Nat} {w0:World} {p q r:Nat} (lp:lo≤p) (lq:lo≤q) (lr:lo≤r) {f1:Nat} {c1:Array Value} {f2:Nat} {c2:Array Value} {α1 α2:Al} {φ1 φ2:Ph2} {k:Int} (hk0:k≠0) (h1:Bv lo w0 f1 c1 α1 φ1) (h2:Bv lo w0 f2 c2 α2 φ2) (hj:w0.cell? ⟨p,0,none⟩=some (.int .i64 k)) (hk:w0.cell? ⟨q,0,none⟩=some (.func (.func f1) #[] c1)) (hl:w0.cell? ⟨r,0,none⟩=some (.func (.func f2) #[] c2)):Bv lo w0 116 #[.pointer (some ⟨p,0,none⟩),.pointer (some ⟨q,0,none⟩),.pointer (some ⟨r,0,none⟩)] (fun d n=>if n < k then α1 d n else α2 d (wrap64 (n.tdiv k - 1))) (fun S n=>if n < k then φ1 S n else φ2 S (wrap64 (n.tdiv k - 1))):=by
 refine ⟨en_oftener,fun I sv S d hE hS n w hI ha=>?_⟩
 have HI:Hid (I w):=hI
 have HE:Hid (Env lo w0 I):=hE
 have HS:Hid (Src I sv S d):=hS
 have Cj:w.cell? ⟨p,0,none⟩=some (.int .i64 k):=hE.cell hI lp hj
 have Ck:w.cell? ⟨q,0,none⟩=some (.func (.func f1) #[] c1):=hE.cell hI lq hk
 have Cl:w.cell? ⟨r,0,none⟩=some (.func (.func f2) #[] c2):=hE.cell hI lr hl
 have H1:Hid (Bv lo w0 f1 c1 α1 φ1):=h1
 have H2:Hid (Bv lo w0 f2 c2 α2 φ2):=h2
 have en1:=fun xs w=>h1.1 xs w
 have en2:=fun xs w=>h2.1 xs w
 clear h1 h2
 clear hI hE hS
 show Calls Tryz.prog 116 #[sv,.int .i64 n,.pointer (some ⟨p,0,none⟩),.pointer (some ⟨q,0,none⟩),.pointer (some ⟨r,0,none⟩)] w _
 by_cases hn:n < k
 ·have HA:Hid (α1 d n):=by
   have ha':=ha
   simp only [if_pos hn] at ha'
   exact ha'
  have HN:Hid (n < k):=hn
  clear ha
  go_enter Tryz.func116,Tryz.ntmps116
  go_wp2_with fail
  refine (H1.out.2 I sv S d HE.out HS.out n w HI.out HA.out).mono ?_
  rintro E w1 ⟨hI1,x,rfl,hx1⟩
  have HX1:Hid (I w1∧∀v,_=some v→x=v):=⟨hI1,hx1⟩
  clear hI1 hx1
  go_wp2_with fail
  go_ret2
  first
   | exact ⟨HX1.out.1,x,rfl,HX1.out.2⟩
   | (show Ps I (if n < k then _ else _) _ _;rw [if_pos HN.out];exact ⟨HX1.out.1,x,rfl,HX1.out.2⟩)
 ·have HA:Hid (α2 d (wrap64 (n.tdiv k - 1))):=by
   have ha':=ha
   simp only [if_neg hn] at ha'
   exact ha'
  have HN:Hid (¬n < k):=hn
  have hn2:k≤n:=by omega
  clear ha
  go_enter Tryz.func116,Tryz.ntmps116
  go_wp2_with fail
  have HI2:Hid (I w.drew):=HE.out.grow w w.drew HI.out (Below.refl _ _).drew
  have HWR:Hid (IntKind.i64.wrap (IntKind.i64.wrap (n.tdiv k) - 1)=wrap64 (n.tdiv k - 1)):=by
   show _=_
   rw [IntKind.wrap_i64,IntKind.wrap_i64]
   unfold wrap64
   omega
  go_region_with (rw [HWR.out];refine (H2.out.2 I sv S d HE.out HS.out (wrap64 (n.tdiv k - 1)) w.drew HI2.out HA.out).mono ?_;rintro E w1 ⟨hI1,x,rfl,hx1⟩;have HX1:Hid (I w1∧∀v,φ2 S (wrap64 (n.tdiv k - 1))=some v→x=v):=⟨hI1,hx1⟩;clear hI1 hx1)
  all_goals go_wp2_with fail
  all_goals go_ret2
  all_goals exact ⟨HX1.out.1,x,rfl,HX1.out.2⟩
set_option maxRecDepth 100000 in
theorem ofTwo_body {lo:Nat} {w0:World} {p q:Nat} (lp:lo≤p) (lq:lo≤q) {f1:Nat} {c1:Array Value} {f2:Nat} {c2:Array Value} {α:Al} {φ ψ:Ph2} {g:Int→Int→Int} (h1:B2 lo w0 f1 c1 α φ ψ) (h2:Rkn f2 c2 g) (hk:w0.cell? ⟨p,0,none⟩=some (.func (.func f1) #[] c1)) (hl:w0.cell? ⟨q,0,none⟩=some (.func (.func f2) #[] c2)):Bv lo w0 101 #[.pointer (some ⟨p,0,none⟩),.pointer (some ⟨q,0,none⟩)] α (fun S n=>(φ S n).bind fun u=>(ψ S n).bind fun v=>some (g u v)):=by
 refine ⟨en_ofTwo,fun I sv S d hE hS n w hI ha=>?_⟩
 have HI:Hid (I w):=hI
 have HE:Hid (Env lo w0 I):=hE
 have HS:Hid (Src I sv S d):=hS
 have Ck:w.cell? ⟨p,0,none⟩=some (.func (.func f1) #[] c1):=hE.cell hI lp hk
 have Cl:w.cell? ⟨q,0,none⟩=some (.func (.func f2) #[] c2):=hE.cell hI lq hl
 have H1:Hid (B2 lo w0 f1 c1 α φ ψ):=h1
 have H2:Hid (Rkn f2 c2 g):=h2
 have en1:=fun xs w=>h1.1 xs w
 have en2:=fun xs w=>h2.1 xs w
 have HA:Hid (α d n):=ha
 clear h1 h2 ha
 clear hI hE hS
 show Calls Tryz.prog 101 #[sv,.int .i64 n,.pointer (some ⟨p,0,none⟩),.pointer (some ⟨q,0,none⟩)] w _
 ·go_enter Tryz.func101,Tryz.ntmps101
  go_wp2_with fail
  refine (H1.out.2 I sv S d HE.out HS.out n w HI.out HA.out).mono ?_
  rintro E w1 ⟨hI1,x,y,rfl,hx1⟩
  have HX1:Hid (I w1∧∀a b,φ S n=some a→ψ S n=some b→x=a∧y=b):=⟨hI1,hx1⟩
  have Cl1:w1.cell? ⟨q,0,none⟩=some (.func (.func f2) #[] c2):=HE.out.cell hI1 lq hl
  clear hI1 hx1
  by_cases hr:((φ S n).isSome && (ψ S n).isSome)=true
  ·obtain ⟨u,hu⟩:=Option.isSome_iff_exists.1 ((Bool.and_eq_true _ _ ▸ hr:_∧_)).1
   obtain ⟨v,hv⟩:=Option.isSome_iff_exists.1 ((Bool.and_eq_true _ _ ▸ hr:_∧_)).2
   have HV:Hid (φ S n=some u∧ψ S n=some v∧x=u∧y=v):=⟨hu,hv,HX1.out.2 u v hu hv⟩
   rw [hr]
   clear hr hu hv
   go_wp2_with fail
   refine (H2.out.2 x y w1).mono ?_
   rintro E w2 ⟨rfl,hb2⟩
   have HI2:Hid (I w2):=HE.out.grow w1 w2 HX1.out.1 hb2
   clear hb2
   go_wp2_with fail
   go_ret2
   obtain ⟨e1,e2,rfl,rfl⟩:=HV.out
   refine ⟨HI2.out,g x y,?_,fun z hz=>?_⟩
   ·rw [e1,e2];rfl
   ·rw [e1,e2] at hz;cases hz;rfl
  ·have hr':((φ S n).isSome && (ψ S n).isSome)=false:=by simpa using hr
   have HV:Hid (((φ S n).bind fun u=>(ψ S n).bind fun v=>some (g u v))=none):=by
    show _=_
    cases h1:φ S n with
    | none=>rfl
    | some a=>
     cases h2:ψ S n with
     | none=>rfl
     | some b=>rw [h1,h2] at hr';cases hr'
   rw [hr']
   clear hr hr'
   go_wp2_with fail
   go_ret2
   rw [HV.out]
   exact ⟨HX1.out.1,0,rfl,fun z hz=>by cases hz⟩
set_option maxRecDepth 100000 in
theorem ofChoice_body {lo:Nat} {w0:World} {p q:Nat} (lp:lo≤p) (lq:lo≤q) {f1:Nat} {c1:Array Value} {f2:Nat} {c2:Array Value} {α1 α:Al} {φ1 φ ψ:Ph2} (h1:Bv lo w0 f1 c1 α1 φ1) (h2:B2 lo w0 f2 c2 α φ ψ) (hk:w0.cell? ⟨p,0,none⟩=some (.func (.func f1) #[] c1)) (hl:w0.cell? ⟨q,0,none⟩=some (.func (.func f2) #[] c2)):Bv lo w0 113 #[.pointer (some ⟨p,0,none⟩),.pointer (some ⟨q,0,none⟩)] (fun d n=>α1 d n∧α d n) (fun S n=>(φ1 S n).bind fun h=>(φ S n).bind fun u=>(ψ S n).bind fun v=>some (if h=0 then v else u)):=by
 refine ⟨en_ofChoice,fun I sv S d hE hS n w hI ha=>?_⟩
 have HI:Hid (I w):=hI
 have HE:Hid (Env lo w0 I):=hE
 have HS:Hid (Src I sv S d):=hS
 have Ck:w.cell? ⟨p,0,none⟩=some (.func (.func f1) #[] c1):=hE.cell hI lp hk
 have Cl:w.cell? ⟨q,0,none⟩=some (.func (.func f2) #[] c2):=hE.cell hI lq hl
 have H1:Hid (Bv lo w0 f1 c1 α1 φ1):=h1
 have H2:Hid (B2 lo w0 f2 c2 α φ ψ):=h2
 have en1:=fun xs w=>h1.1 xs w
 have en2:=fun xs w=>h2.1 xs w
 have HA:Hid (α1 d n∧α d n):=ha
 clear h1 h2 ha
 clear hI hE hS
 show Calls Tryz.prog 113 #[sv,.int .i64 n,.pointer (some ⟨p,0,none⟩),.pointer (some ⟨q,0,none⟩)] w _
 ·go_enter Tryz.func113,Tryz.ntmps113
  go_wp2_with fail
  refine (H1.out.2 I sv S d HE.out HS.out n w HI.out HA.out.1).mono ?_
  rintro E w1 ⟨hI1,x,rfl,hx1⟩
  have HX1:Hid (I w1∧∀v,_=some v→x=v):=⟨hI1,hx1⟩
  clear hI1 hx1
  have Cl1:w1.cell? ⟨q,0,none⟩=some (.func (.func f2) #[] c2):=HE.out.cell HX1.out.1 lq hl
  cases hr:φ1 S n with
  | none=>
   go_wp2_with fail
   go_ret2
   exact ⟨HX1.out.1,0,by rw [hr];rfl,fun z hz=>by rw [hr] at hz;cases hz⟩
  | some h=>
   have HV:Hid (φ1 S n=some h∧x=h):=⟨hr,HX1.out.2 h hr⟩
   clear hr
   go_wp2_with fail
   refine (H2.out.2 I sv S d HE.out HS.out n w1 HX1.out.1 HA.out.2).mono ?_
   rintro E w2 ⟨hI2,y,z,rfl,hy⟩
   have HX2:Hid (I w2∧∀a b,φ S n=some a→ψ S n=some b→y=a∧z=b):=⟨hI2,hy⟩
   clear hI2 hy
   have HR:Hid (((φ1 S n).bind fun h=>(φ S n).bind fun u=>(ψ S n).bind fun v=>some (if h=0 then v else u)).isSome=((φ S n).isSome && (ψ S n).isSome)∧∀r,((φ1 S n).bind fun h=>(φ S n).bind fun u=>(ψ S n).bind fun v=>some (if h=0 then v else u))=some r→r=if x=0 then z else y):=by
    obtain ⟨e1,rfl⟩:=HV.out
    rw [e1]
    cases h1:φ S n with
    | none=>exact ⟨rfl,fun r hr=>by cases hr⟩
    | some a=>
     cases h2:ψ S n with
     | none=>exact ⟨rfl,fun r hr=>by cases hr⟩
     | some b=>
      obtain ⟨rfl,rfl⟩:=HX2.out.2 a b h1 h2
      exact ⟨rfl,fun r hr=>by cases hr;rfl⟩
   by_cases hx:x=0
   ·have HZ:Hid (x=0):=hx
    subst hx
    go_wp2_with fail
    go_ret2
    exact ⟨HX2.out.1,z,by rw [HR.out.1];rfl,fun r hr=>(HR.out.2 r hr).symm⟩
   ·have HZ:Hid (x≠0):=hx
    have hx2:(x==0)=false:=by simpa using hx
    go_wp2_with fail
    go_ret2
    exact ⟨HX2.out.1,y,by rw [HR.out.1];rfl,fun r hr=>by rw [HR.out.2 r hr,if_neg HZ.out]⟩
end
section
open Go.RowKit
theorem asNumber_is (v:Bool) (w:World):Calls Tryz.prog 70 #[.bool v] w fun E w'=>E=.returned (.int .i64 (if v then 1 else 0))∧w=w':=by
 go_enter Tryz.func70,Tryz.ntmps70
 cases v
 all_goals go_wp2
 all_goals go_ret
 all_goals exact ⟨rfl,rfl⟩
set_option maxRecDepth 100000 in
theorem rk_add:Rkn 102 #[] (fun a b=>wrap64 (a+b)):=by
 refine ⟨fun _ _=>by kernel_rfl,fun a b w=>?_⟩
 show Calls Tryz.prog 102 #[.int .i64 a,.int .i64 b] w _
 go_enter Tryz.func102,Tryz.ntmps102
 go_wp2
 go_ret
 exact ⟨rfl,Below.refl _ _⟩
set_option maxRecDepth 100000 in
theorem rk_sub:Rkn 103 #[] (fun a b=>wrap64 (a - b)):=by
 refine ⟨fun _ _=>by kernel_rfl,fun a b w=>?_⟩
 show Calls Tryz.prog 103 #[.int .i64 a,.int .i64 b] w _
 go_enter Tryz.func103,Tryz.ntmps103
 go_wp2
 go_ret
 exact ⟨rfl,Below.refl _ _⟩
set_option maxRecDepth 100000 in
theorem rk_mul:∃g,Rkn 104 #[] g:=by
 refine ⟨fun a b=>wrap64 (a*b),fun _ _=>by kernel_rfl,fun a b w=>?_⟩
 show Calls Tryz.prog 104 #[.int .i64 a,.int .i64 b] w _
 go_enter Tryz.func104,Tryz.ntmps104
 go_wp2
 go_ret
 exact ⟨rfl,Below.refl _ _⟩
set_option maxRecDepth 100000 in
theorem rk_min:∃g,Rkn 107 #[] g:=by
 refine ⟨fun a b=>min a b,fun _ _=>by kernel_rfl,fun a b w=>?_⟩
 show Calls Tryz.prog 107 #[.int .i64 a,.int .i64 b] w _
 go_enter Tryz.func107,Tryz.ntmps107
 go_wp2
 go_ret
 exact ⟨rfl,Below.refl _ _⟩
set_option maxRecDepth 100000 in
theorem rk_max:∃g,Rkn 108 #[] g:=by
 refine ⟨fun a b=>max a b,fun _ _=>by kernel_rfl,fun a b w=>?_⟩
 show Calls Tryz.prog 108 #[.int .i64 a,.int .i64 b] w _
 go_enter Tryz.func108,Tryz.ntmps108
 go_wp2
 go_ret
 exact ⟨rfl,Below.refl _ _⟩
set_option maxRecDepth 100000 in
theorem rk_and:∃g,Rkn 109 #[] g:=by
 refine ⟨fun a b=>bits BinOp.and IntKind.i64 a b,fun _ _=>by kernel_rfl,fun a b w=>?_⟩
 show Calls Tryz.prog 109 #[.int .i64 a,.int .i64 b] w _
 go_enter Tryz.func109,Tryz.ntmps109
 go_wp2
 go_ret
 exact ⟨rfl,Below.refl _ _⟩
set_option maxRecDepth 100000 in
theorem rk_or:∃g,Rkn 110 #[] g:=by
 refine ⟨fun a b=>bits BinOp.or IntKind.i64 a b,fun _ _=>by kernel_rfl,fun a b w=>?_⟩
 show Calls Tryz.prog 110 #[.int .i64 a,.int .i64 b] w _
 go_enter Tryz.func110,Tryz.ntmps110
 go_wp2
 go_ret
 exact ⟨rfl,Below.refl _ _⟩
set_option maxRecDepth 100000 in
theorem rk_xor:∃g,Rkn 111 #[] g:=by
 refine ⟨fun a b=>bits BinOp.xor IntKind.i64 a b,fun _ _=>by kernel_rfl,fun a b w=>?_⟩
 show Calls Tryz.prog 111 #[.int .i64 a,.int .i64 b] w _
 go_enter Tryz.func111,Tryz.ntmps111
 go_wp2
 go_ret
 exact ⟨rfl,Below.refl _ _⟩
set_option maxRecDepth 100000 in
theorem rk_quo:∃g,Rkn 105 #[] g:=by
 refine ⟨fun a b=>if b=0 then 0 else wrap64 (a.tdiv b),fun _ _=>by kernel_rfl,fun a b w=>?_⟩
 show Calls Tryz.prog 105 #[.int .i64 a,.int .i64 b] w _
 by_cases hb:b=0
 ·subst hb
  go_enter Tryz.func105,Tryz.ntmps105
  go_wp2
  go_ret
  exact ⟨rfl,Below.refl _ _⟩
 ·go_enter Tryz.func105,Tryz.ntmps105
  go_wp2
  go_ret
  exact ⟨rfl,Below.refl _ _⟩
set_option maxRecDepth 100000 in
theorem rk_rem:∃g,Rkn 106 #[] g:=by
 refine ⟨fun a b=>if b=0 then 0 else a.tmod b,fun _ _=>by kernel_rfl,fun a b w=>?_⟩
 show Calls Tryz.prog 106 #[.int .i64 a,.int .i64 b] w _
 by_cases hb:b=0
 ·subst hb
  go_enter Tryz.func106,Tryz.ntmps106
  go_wp2
  go_ret
  exact ⟨rfl,Below.refl _ _⟩
 ·go_enter Tryz.func106,Tryz.ntmps106
  go_wp2
  go_ret
  exact ⟨rfl,Below.refl _ _⟩
set_option maxRecDepth 100000 in
theorem rk_lt:∃g,Rkn 143 #[] g:=by
 refine ⟨fun a b=>if (decide (a < b))=true then 1 else 0,fun _ _=>by kernel_rfl,fun a b w=>?_⟩
 show Calls Tryz.prog 143 #[.int .i64 a,.int .i64 b] w _
 go_enter Tryz.func143,Tryz.ntmps143
 go_wp2_with fail
 all_goals refine (asNumber_is _ _).mono ?_
 all_goals rintro E u ⟨rfl,rfl⟩
 all_goals go_wp2_with fail
 all_goals go_ret
 all_goals first | exact ⟨rfl,Below.refl _ _⟩ | exact ⟨by simp_all <;> omega,Below.refl _ _⟩
set_option maxRecDepth 100000 in
theorem rk_le:∃g,Rkn 144 #[] g:=by
 refine ⟨fun a b=>if (decide (a≤b))=true then 1 else 0,fun _ _=>by kernel_rfl,fun a b w=>?_⟩
 show Calls Tryz.prog 144 #[.int .i64 a,.int .i64 b] w _
 go_enter Tryz.func144,Tryz.ntmps144
 go_wp2_with fail
 all_goals refine (asNumber_is _ _).mono ?_
 all_goals rintro E u ⟨rfl,rfl⟩
 all_goals go_wp2_with fail
 all_goals go_ret
 all_goals first | exact ⟨rfl,Below.refl _ _⟩ | exact ⟨by simp_all <;> omega,Below.refl _ _⟩
set_option maxRecDepth 100000 in
theorem rk_gt:∃g,Rkn 145 #[] g:=by
 refine ⟨fun a b=>if (decide (b < a))=true then 1 else 0,fun _ _=>by kernel_rfl,fun a b w=>?_⟩
 show Calls Tryz.prog 145 #[.int .i64 a,.int .i64 b] w _
 go_enter Tryz.func145,Tryz.ntmps145
 go_wp2_with fail
 all_goals refine (asNumber_is _ _).mono ?_
 all_goals rintro E u ⟨rfl,rfl⟩
 all_goals go_wp2_with fail
 all_goals go_ret
 all_goals first | exact ⟨rfl,Below.refl _ _⟩ | exact ⟨by simp_all <;> omega,Below.refl _ _⟩
set_option maxRecDepth 100000 in
theorem rk_ge:∃g,Rkn 146 #[] g:=by
 refine ⟨fun a b=>if (decide (b≤a))=true then 1 else 0,fun _ _=>by kernel_rfl,fun a b w=>?_⟩
 show Calls Tryz.prog 146 #[.int .i64 a,.int .i64 b] w _
 go_enter Tryz.func146,Tryz.ntmps146
 go_wp2_with fail
 all_goals refine (asNumber_is _ _).mono ?_
 all_goals rintro E u ⟨rfl,rfl⟩
 all_goals go_wp2_with fail
 all_goals go_ret
 all_goals first | exact ⟨rfl,Below.refl _ _⟩ | exact ⟨by simp_all <;> omega,Below.refl _ _⟩
set_option maxRecDepth 100000 in
theorem rk_eq:∃g,Rkn 147 #[] g:=by
 refine ⟨fun a b=>if (a==b)=true then 1 else 0,fun _ _=>by kernel_rfl,fun a b w=>?_⟩
 show Calls Tryz.prog 147 #[.int .i64 a,.int .i64 b] w _
 go_enter Tryz.func147,Tryz.ntmps147
 go_wp2_with fail
 all_goals refine (asNumber_is _ _).mono ?_
 all_goals rintro E u ⟨rfl,rfl⟩
 all_goals go_wp2_with fail
 all_goals go_ret
 all_goals first | exact ⟨rfl,Below.refl _ _⟩ | exact ⟨by simp_all <;> omega,Below.refl _ _⟩
set_option maxRecDepth 100000 in
theorem rk_ne:∃g,Rkn 148 #[] g:=by
 refine ⟨fun a b=>if (a != b)=true then 1 else 0,fun _ _=>by kernel_rfl,fun a b w=>?_⟩
 show Calls Tryz.prog 148 #[.int .i64 a,.int .i64 b] w _
 go_enter Tryz.func148,Tryz.ntmps148
 go_wp2_with fail
 all_goals refine (asNumber_is _ _).mono ?_
 all_goals rintro E u ⟨rfl,rfl⟩
 all_goals go_wp2_with fail
 all_goals go_ret
 all_goals first | exact ⟨rfl,Below.refl _ _⟩ | exact ⟨by simp_all <;> omega,Below.refl _ _⟩
end
end Go.Proofs.YticbokabjhnagaaGreatDoor
