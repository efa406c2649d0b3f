import Derived.Test.YticbokabjhnagaaGreatDoorW37
import Derived.Test.YticbokabjhnagaaGreatDoorW36
import Derived.Laws.EntriesVeiled
namespace Go.Proofs.YticbokabjhnagaaGreatDoor
set_option maxHeartbeats 32000000
section
open Go.RowKit
theorem bl1 (w:World) (o:Obj):Below w.heap.size w (w.alloc o):=(Below.refl _ _).alloc (Nat.le_refl _) _
theorem bl2 (w:World) (o o':Obj):Below w.heap.size w ((w.alloc o).alloc o'):=below_step (bl1 w o) (bl1 _ o')
theorem bl3 (w:World) (o o' o2:Obj):Below w.heap.size w (((w.alloc o).alloc o').alloc o2):=below_step (bl2 w o o') (bl1 _ o2)
theorem at_new (w:World) (v:Value) (t:TypeId):(w.alloc (.cells #[v] t)).cell? ⟨w.heap.size,0,none⟩=some v:=by simp
theorem at_new2 (w:World) (v:Value) (t:TypeId) (o:Obj):((w.alloc (.cells #[v] t)).alloc o).cell? ⟨w.heap.size,0,none⟩=some v:=((bl1 (w.alloc (.cells #[v] t)) o).cell (by simp)).trans (at_new w v t)
theorem at_old (w:World) (v:Value) (t:TypeId) (o:Obj):((w.alloc o).alloc (.cells #[v] t)).cell? ⟨w.heap.size+1,0,none⟩=some v:=by
 simp
theorem at_new3 (w:World) (v:Value) (t:TypeId) (o o':Obj):(((w.alloc (.cells #[v] t)).alloc o).alloc o').cell? ⟨w.heap.size,0,none⟩=some v:=((bl1 ((w.alloc (.cells #[v] t)).alloc o) o').cell (by simp;omega)).trans (at_new2 w v t o)
theorem at_mid3 (w:World) (v:Value) (t:TypeId) (o o':Obj):(((w.alloc o).alloc (.cells #[v] t)).alloc o').cell? ⟨w.heap.size+1,0,none⟩=some v:=((bl1 ((w.alloc o).alloc (.cells #[v] t)) o').cell (by simp)).trans (at_old w v t o)
theorem at_last3 (w:World) (v:Value) (t:TypeId) (o o':Obj):(((w.alloc o).alloc o').alloc (.cells #[v] t)).cell? ⟨w.heap.size+2,0,none⟩=some v:=by
 have:=at_old (w.alloc o) v t o'
 simpa using this
theorem always_is {lo:Nat} (k:Int) (w:World) (hlo:lo≤w.heap.size):Calls Tryz.prog 69 #[.int .i64 k] w (FnP w fun w' f c=>Bv lo w' f c (fun _ _=>True) (fun _ _=>some k)):=by
 go_enter Tryz.func69,Tryz.ntmps69
 go_wp2
 go_ret
 exact ⟨bl1 _ _,_,_,rfl,always_body hlo (at_new w _ _)⟩
theorem ofFlow_is {lo:Nat} (j:Int) (w:World) (hlo:lo≤w.heap.size):Calls Tryz.prog 71 #[.int .i64 j] w (FnP w fun w' f c=>Bv lo w' f c (fun d n=>d j n) (fun S n=>S j n)):=by
 go_enter Tryz.func71,Tryz.ntmps71
 go_wp2
 go_ret
 exact ⟨bl1 _ _,_,_,rfl,ofFlow_body hlo (at_new w _ _)⟩
section
variable {f1:Nat} {c1:Array Value} {f2:Nat} {c2:Array Value} {f3:Nat} {c3:Array Value} {α1 α2 α3:Al} {φ1 φ2 φ3:Ph2} {w:World} {lo:Nat}
theorem later_is (hlo:lo≤w.heap.size) (h1:Bv lo w f1 c1 α1 φ1) (h2:Bv lo w f2 c2 α2 φ2):Calls Tryz.prog 76 #[.func (.func f1) #[] c1,.func (.func f2) #[] c2] w (FnP w fun w' f c=>Bv lo w' f c (fun d n=>if n=0 then α1 d n else α2 d (wrap64 (n - 1))) (fun S n=>if n=0 then φ1 S n else φ2 S (wrap64 (n - 1)))):=by
 have H1:Hid (Bv lo w f1 c1 α1 φ1):=h1
 have H2:Hid (Bv lo w f2 c2 α2 φ2):=h2
 clear h1 h2
 go_enter Tryz.func76,Tryz.ntmps76
 go_wp2
 go_ret
 exact ⟨bl2 _ _ _,_,_,rfl,later_body hlo (by omega) (H1.out.mono (bl2 _ _ _)) (H2.out.mono (bl2 _ _ _)) (at_new2 w _ _ _) (at_old w _ _ _)⟩
theorem both_is (hlo:lo≤w.heap.size) (h1:Bv lo w f1 c1 α1 φ1) (h2:Bv lo w f2 c2 α2 φ2):Calls Tryz.prog 100 #[.func (.func f1) #[] c1,.func (.func f2) #[] c2] w (FnP w fun w' f c=>B2 lo w' f c (fun d n=>α1 d n∧α2 d n) φ1 φ2):=by
 have H1:Hid (Bv lo w f1 c1 α1 φ1):=h1
 have H2:Hid (Bv lo w f2 c2 α2 φ2):=h2
 clear h1 h2
 go_enter Tryz.func100,Tryz.ntmps100
 go_wp2
 go_ret
 exact ⟨bl2 _ _ _,_,_,rfl,both_body hlo (by omega) (H1.out.mono (bl2 _ _ _)) (H2.out.mono (bl2 _ _ _)) (at_new2 w _ _ _) (at_old w _ _ _)⟩
theorem rarer_is (hlo:lo≤w.heap.size) (k:Int) (h1:Bv lo w f1 c1 α1 φ1):Calls Tryz.prog 77 #[.func (.func f1) #[] c1,.int .i64 k] w (FnP w fun w' f c=>Bv lo w' f c (fun d n=>α1 d (wrap64 (k*n))) (fun S n=>φ1 S (wrap64 (k*n)))):=by
 have H1:Hid (Bv lo w f1 c1 α1 φ1):=h1
 clear h1
 go_enter Tryz.func77,Tryz.ntmps77
 go_wp2
 go_ret
 exact ⟨bl2 _ _ _,_,_,rfl,rarer_body hlo (by omega) (H1.out.mono (bl2 _ _ _)) (at_new2 w _ _ _) (at_old w _ _ _)⟩
theorem oftener_is (hlo:lo≤w.heap.size) (k:Int) (hk:k≠0) (h1:Bv lo w f1 c1 α1 φ1) (h2:Bv lo w f2 c2 α2 φ2):Calls Tryz.prog 78 #[.func (.func f1) #[] c1,.func (.func f2) #[] c2,.int .i64 k] w (FnP w fun w' f c=>Bv lo w' f c (fun d n=>if n < k then α1 d n else α2 d (wrap64 (n.tdiv k - 1))) (fun S n=>if n < k then φ1 S n else φ2 S (wrap64 (n.tdiv k - 1)))):=by
 have H1:Hid (Bv lo w f1 c1 α1 φ1):=h1
 have H2:Hid (Bv lo w f2 c2 α2 φ2):=h2
 have HK:Hid (k≠0):=hk
 clear h1 h2 hk
 go_enter Tryz.func78,Tryz.ntmps78
 go_wp2
 go_ret
 exact ⟨bl3 _ _ _ _,_,_,rfl,oftener_body (by omega) hlo (by omega) HK.out (H1.out.mono (bl3 _ _ _ _)) (H2.out.mono (bl3 _ _ _ _)) (at_last3 w _ _ _ _) (at_new3 w _ _ _ _) (at_mid3 w _ _ _ _)⟩
theorem ofTwo_is (hlo:lo≤w.heap.size) {g:Int→Int→Int} (h1:Rkn f1 c1 g) (h2:Bv lo w f2 c2 α2 φ2) (h3:Bv lo w f3 c3 α3 φ3):Calls Tryz.prog 73 #[.func (.func f1) #[] c1,.func (.func f2) #[] c2,.func (.func f3) #[] c3] w (FnP w fun w' f c=>Bv lo w' f c (fun d n=>α2 d n∧α3 d n) (fun S n=>(φ2 S n).bind fun u=>(φ3 S n).bind fun v=>some (g u v))):=by
 have H1:Hid (Rkn f1 c1 g):=h1
 have H2:Hid (Bv lo w f2 c2 α2 φ2):=h2
 have H3:Hid (Bv lo w f3 c3 α3 φ3):=h3
 clear h1 h2 h3
 go_enter Tryz.func73,Tryz.ntmps73
 go_wp2_with fail
 refine (both_is (by simp;omega) (H2.out.mono (bl1 _ _)) (H3.out.mono (bl1 _ _))).mono ?_
 rintro e w2 ⟨hb2,f4,c4,rfl,h4⟩
 have H4:Hid (B2 lo w2 f4 c4 (fun d n=>α2 d n∧α3 d n) φ2 φ3∧Below w.heap.size w w2∧w2.cell? ⟨w.heap.size,0,none⟩=some (.func (.func f1) #[] c1)):=⟨h4,below_step (bl1 _ _) hb2,(hb2.cell (by simp)).trans (at_new w _ _)⟩
 clear hb2 h4
 go_wp2
 go_ret
 exact ⟨below_step H4.out.2.1 (bl1 _ _),_,_,rfl,ofTwo_body (Nat.le_trans hlo H4.out.2.1.size) hlo (H4.out.1.mono (bl1 _ _)) H1.out (at_new w2 _ _) (((bl1 _ _).cell (lt_of_cell H4.out.2.2)).trans H4.out.2.2)⟩
theorem ofChoice_is (hlo:lo≤w.heap.size) (h1:Bv lo w f1 c1 α1 φ1) (h2:Bv lo w f2 c2 α2 φ2) (h3:Bv lo w f3 c3 α3 φ3):Calls Tryz.prog 75 #[.func (.func f1) #[] c1,.func (.func f2) #[] c2,.func (.func f3) #[] c3] w (FnP w fun w' f c=>Bv lo w' f c (fun d n=>α1 d n∧(α2 d n∧α3 d n)) (fun S n=>(φ1 S n).bind fun h=>(φ2 S n).bind fun u=>(φ3 S n).bind fun v=>some (if h=0 then v else u))):=by
 have H1:Hid (Bv lo w f1 c1 α1 φ1):=h1
 have H2:Hid (Bv lo w f2 c2 α2 φ2):=h2
 have H3:Hid (Bv lo w f3 c3 α3 φ3):=h3
 clear h1 h2 h3
 go_enter Tryz.func75,Tryz.ntmps75
 go_wp2_with fail
 refine (both_is (by simp;omega) (H2.out.mono (bl1 _ _)) (H3.out.mono (bl1 _ _))).mono ?_
 rintro e w2 ⟨hb2,f4,c4,rfl,h4⟩
 have H4:Hid (B2 lo w2 f4 c4 (fun d n=>α2 d n∧α3 d n) φ2 φ3∧Below w.heap.size w w2∧w2.cell? ⟨w.heap.size,0,none⟩=some (.func (.func f1) #[] c1)):=⟨h4,below_step (bl1 _ _) hb2,(hb2.cell (by simp)).trans (at_new w _ _)⟩
 clear hb2 h4
 go_wp2
 go_ret
 exact ⟨below_step H4.out.2.1 (bl1 _ _),_,_,rfl,ofChoice_body hlo (Nat.le_trans hlo H4.out.2.1.size) ((H1.out.mono H4.out.2.1).mono (bl1 _ _)) (H4.out.1.mono (bl1 _ _)) (((bl1 _ _).cell (lt_of_cell H4.out.2.2)).trans H4.out.2.2) (at_new w2 _ _)⟩
end
def Rf (s:ByteArray) (g:Int→Int→Int):Prop:=((s.toList==[43])=true→g=fun a b=>wrap64 (a+b))∧((s.toList==[45])=true→g=fun a b=>wrap64 (a - b))∧∀w,Calls Tryz.prog 74 #[.string s] w (FnP w fun _ f c=>Rkn f c g)
theorem comparison_ex (s:ByteArray):∃g,∀w,Calls Tryz.prog 112 #[.string s] w (FnP w fun _ f c=>Rkn f c g):=by
 by_cases h_lt:(s.toList==[60])=true
 ·obtain ⟨g,hg⟩:=rk_lt
  have HG:Hid (Rkn 143 #[] g):=hg
  refine ⟨g,fun w=>?_⟩
  clear hg
  go_enter Tryz.func112,Tryz.ntmps112
  go_wp2
  go_ret
  exact ⟨Below.refl _ _,_,_,rfl,HG.out⟩
 replace h_lt:(s.toList==[60])=false:=by simpa using h_lt
 by_cases h_le:(s.toList==[60,61])=true
 ·obtain ⟨g,hg⟩:=rk_le
  have HG:Hid (Rkn 144 #[] g):=hg
  refine ⟨g,fun w=>?_⟩
  clear hg
  go_enter Tryz.func112,Tryz.ntmps112
  go_wp2
  go_ret
  exact ⟨Below.refl _ _,_,_,rfl,HG.out⟩
 replace h_le:(s.toList==[60,61])=false:=by simpa using h_le
 by_cases h_gt:(s.toList==[62])=true
 ·obtain ⟨g,hg⟩:=rk_gt
  have HG:Hid (Rkn 145 #[] g):=hg
  refine ⟨g,fun w=>?_⟩
  clear hg
  go_enter Tryz.func112,Tryz.ntmps112
  go_wp2
  go_ret
  exact ⟨Below.refl _ _,_,_,rfl,HG.out⟩
 replace h_gt:(s.toList==[62])=false:=by simpa using h_gt
 by_cases h_ge:(s.toList==[62,61])=true
 ·obtain ⟨g,hg⟩:=rk_ge
  have HG:Hid (Rkn 146 #[] g):=hg
  refine ⟨g,fun w=>?_⟩
  clear hg
  go_enter Tryz.func112,Tryz.ntmps112
  go_wp2
  go_ret
  exact ⟨Below.refl _ _,_,_,rfl,HG.out⟩
 replace h_ge:(s.toList==[62,61])=false:=by simpa using h_ge
 by_cases h_eq:(s.toList==[61,61])=true
 ·obtain ⟨g,hg⟩:=rk_eq
  have HG:Hid (Rkn 147 #[] g):=hg
  refine ⟨g,fun w=>?_⟩
  clear hg
  go_enter Tryz.func112,Tryz.ntmps112
  go_wp2
  go_ret
  exact ⟨Below.refl _ _,_,_,rfl,HG.out⟩
 replace h_eq:(s.toList==[61,61])=false:=by simpa using h_eq
 obtain ⟨g,hg⟩:=rk_ne
 have HG:Hid (Rkn 148 #[] g):=hg
 refine ⟨g,fun w=>?_⟩
 clear hg
 go_enter Tryz.func112,Tryz.ntmps112
 go_wp2
 go_ret
 exact ⟨Below.refl _ _,_,_,rfl,HG.out⟩
theorem reckoning_ex (s:ByteArray):∃g,Rf s g:=by
 by_cases h_add:(s.toList==[43])=true
 ·have HG:Hid (Rkn 102 #[] (fun a b=>wrap64 (a+b))):=rk_add
  refine ⟨fun a b=>wrap64 (a+b),?_,?_,fun w=>?_⟩
  ·intro h;rfl
  ·intro h;exact absurd ((beq_iff_eq.1 h_add).symm.trans (beq_iff_eq.1 h)) (by decide)
  ·skip
   go_enter Tryz.func74,Tryz.ntmps74
   go_wp2
   go_ret
   exact ⟨Below.refl _ _,_,_,rfl,HG.out⟩
 replace h_add:(s.toList==[43])=false:=by simpa using h_add
 by_cases h_sub:(s.toList==[45])=true
 ·have HG:Hid (Rkn 103 #[] (fun a b=>wrap64 (a - b))):=rk_sub
  refine ⟨fun a b=>wrap64 (a - b),?_,?_,fun w=>?_⟩
  ·intro h;rw [h_add] at h;cases h
  ·intro h;rfl
  ·skip
   go_enter Tryz.func74,Tryz.ntmps74
   go_wp2
   go_ret
   exact ⟨Below.refl _ _,_,_,rfl,HG.out⟩
 replace h_sub:(s.toList==[45])=false:=by simpa using h_sub
 by_cases h_mul:(s.toList==[42])=true
 ·obtain ⟨g,hg⟩:=rk_mul
  have HG:Hid (Rkn 104 #[] g):=hg
  refine ⟨g,?_,?_,fun w=>?_⟩
  ·intro h;rw [h_add] at h;cases h
  ·intro h;rw [h_sub] at h;cases h
  ·clear hg
   go_enter Tryz.func74,Tryz.ntmps74
   go_wp2
   go_ret
   exact ⟨Below.refl _ _,_,_,rfl,HG.out⟩
 replace h_mul:(s.toList==[42])=false:=by simpa using h_mul
 by_cases h_quo:(s.toList==[47])=true
 ·obtain ⟨g,hg⟩:=rk_quo
  have HG:Hid (Rkn 105 #[] g):=hg
  refine ⟨g,?_,?_,fun w=>?_⟩
  ·intro h;rw [h_add] at h;cases h
  ·intro h;rw [h_sub] at h;cases h
  ·clear hg
   go_enter Tryz.func74,Tryz.ntmps74
   go_wp2
   go_ret
   exact ⟨Below.refl _ _,_,_,rfl,HG.out⟩
 replace h_quo:(s.toList==[47])=false:=by simpa using h_quo
 by_cases h_rem:(s.toList==[37])=true
 ·obtain ⟨g,hg⟩:=rk_rem
  have HG:Hid (Rkn 106 #[] g):=hg
  refine ⟨g,?_,?_,fun w=>?_⟩
  ·intro h;rw [h_add] at h;cases h
  ·intro h;rw [h_sub] at h;cases h
  ·clear hg
   go_enter Tryz.func74,Tryz.ntmps74
   go_wp2
   go_ret
   exact ⟨Below.refl _ _,_,_,rfl,HG.out⟩
 replace h_rem:(s.toList==[37])=false:=by simpa using h_rem
 by_cases h_min:(s.toList==[109,105,110])=true
 ·obtain ⟨g,hg⟩:=rk_min
  have HG:Hid (Rkn 107 #[] g):=hg
  refine ⟨g,?_,?_,fun w=>?_⟩
  ·intro h;rw [h_add] at h;cases h
  ·intro h;rw [h_sub] at h;cases h
  ·clear hg
   go_enter Tryz.func74,Tryz.ntmps74
   go_wp2
   go_ret
   exact ⟨Below.refl _ _,_,_,rfl,HG.out⟩
 replace h_min:(s.toList==[109,105,110])=false:=by simpa using h_min
 by_cases h_max:(s.toList==[109,97,120])=true
 ·obtain ⟨g,hg⟩:=rk_max
  have HG:Hid (Rkn 108 #[] g):=hg
  refine ⟨g,?_,?_,fun w=>?_⟩
  ·intro h;rw [h_add] at h;cases h
  ·intro h;rw [h_sub] at h;cases h
  ·clear hg
   go_enter Tryz.func74,Tryz.ntmps74
   go_wp2
   go_ret
   exact ⟨Below.refl _ _,_,_,rfl,HG.out⟩
 replace h_max:(s.toList==[109,97,120])=false:=by simpa using h_max
 by_cases h_and:(s.toList==[97,110,100])=true
 ·obtain ⟨g,hg⟩:=rk_and
  have HG:Hid (Rkn 109 #[] g):=hg
  refine ⟨g,?_,?_,fun w=>?_⟩
  ·intro h;rw [h_add] at h;cases h
  ·intro h;rw [h_sub] at h;cases h
  ·clear hg
   go_enter Tryz.func74,Tryz.ntmps74
   go_wp2
   go_ret
   exact ⟨Below.refl _ _,_,_,rfl,HG.out⟩
 replace h_and:(s.toList==[97,110,100])=false:=by simpa using h_and
 by_cases h_or:(s.toList==[111,114])=true
 ·obtain ⟨g,hg⟩:=rk_or
  have HG:Hid (Rkn 110 #[] g):=hg
  refine ⟨g,?_,?_,fun w=>?_⟩
  ·intro h;rw [h_add] at h;cases h
  ·intro h;rw [h_sub] at h;cases h
  ·clear hg
   go_enter Tryz.func74,Tryz.ntmps74
   go_wp2
   go_ret
   exact ⟨Below.refl _ _,_,_,rfl,HG.out⟩
 replace h_or:(s.toList==[111,114])=false:=by simpa using h_or
 by_cases h_xor:(s.toList==[120,111,114])=true
 ·obtain ⟨g,hg⟩:=rk_xor
  have HG:Hid (Rkn 111 #[] g):=hg
  refine ⟨g,?_,?_,fun w=>?_⟩
  ·intro h;rw [h_add] at h;cases h
  ·intro h;rw [h_sub] at h;cases h
  ·clear hg
   go_enter Tryz.func74,Tryz.ntmps74
   go_wp2
   go_ret
   exact ⟨Below.refl _ _,_,_,rfl,HG.out⟩
 replace h_xor:(s.toList==[120,111,114])=false:=by simpa using h_xor
 obtain ⟨g,hg⟩:=comparison_ex s
 have HG:Hid (∀w,Calls Tryz.prog 112 #[.string s] w (FnP w fun _ f c=>Rkn f c g)):=hg
 refine ⟨g,?_,?_,fun w=>?_⟩
 ·intro h;rw [h_add] at h;cases h
 ·intro h;rw [h_sub] at h;cases h
 ·clear hg
  go_enter Tryz.func74,Tryz.ntmps74
  go_wp2_with fail
  refine (HG.out w).mono ?_
  rintro e w2 ⟨hb2,f2,c2,rfl,h2⟩
  have H2:Hid (Below w.heap.size w w2∧Rkn f2 c2 g):=⟨hb2,h2⟩
  clear hb2 h2
  go_wp2_with fail
  go_ret
  exact ⟨H2.out.1,_,_,rfl,H2.out.2⟩
end
section
open Go.RowKit
end
end Go.Proofs.YticbokabjhnagaaGreatDoor
