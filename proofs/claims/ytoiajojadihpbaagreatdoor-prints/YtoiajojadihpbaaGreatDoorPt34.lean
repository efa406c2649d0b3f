import Derived.Test.YtoiajojadihpbaaGreatDoorPt33
import Derived.Test.YtoiajojadihpbaaGreatDoorPt32
import Derived.Deep.RegionHeld3
namespace Go.Proofs.YtoiajojadihpbaaGreatDoor
set_option maxHeartbeats 8000000
section
open Go.RowKit
set_option maxRecDepth 100000 in
theorem rt_two1 (B g:Nat) (iv nv:Value) (ns:List Ref.Nd) (i p:Nat) (a b:Nat) (x:Mil.Bytes) (q r:Mil.E) (hn:ns[i]?=some ⟨5,x,p,0,false,a,b,0⟩) (hx:Ref.level x=1) (hl3:x.length≤3) (ha:(Mil.txt q).length≤24000) (hb:(Mil.txt r).length≤24000) (hq:OR B g iv nv ns q a) (hr:OR B g iv nv ns r b):TR B g iv nv ns (Mil.eTwo x q r) i:=by
 intro w h
 have HP:=hid h
 have hl:=(List.getElem?_eq_some_iff.1 hn).1
 have i1:(0:Int)≤(i:Int):=by omega
 have i2:(i:Int) < (ns.length:Int):=by omega
 obtain ⟨k,cp,hv,c0,c1,c2,c3,c4,c5,c6,c7⟩:=h.node8 hn
 have d1:=h.cells.2
 rw [hv] at d1
 have HB0:=bRow w #[.int .i64 ((5:Nat):Int),.string (bs x),.int .i64 (p:Nat),.int .i64 ((0:Nat):Int),.bool false,.int .i64 ((a:Nat):Int),.int .i64 ((b:Nat):Int),.int .i64 ((0:Nat):Int)] 195
 have hb0:=HB0.out
 have NC:=ncRow w #[.int .i64 ((5:Nat):Int),.string (bs x),.int .i64 (p:Nat),.int .i64 ((0:Nat):Int),.bool false,.int .i64 ((a:Nat):Int),.int .i64 ((b:Nat):Int),.int .i64 ((0:Nat):Int)] 195
 clear hv h hn hl hb0
 have HQ:Hid (∀w',PM B g iv nv ns w'→Calls Tryz.prog 98 #[.pointer (some ⟨g,0,none⟩),.int .i64 (a:Nat),.int .i64 1] w' (TxPost (Mil.brack (Mil.tight q) 1 (Mil.txt q)) w')):=fun w' h'=>hq 1 (by decide) w' h'
 have HR:Hid (∀w',PM B g iv nv ns w'→Calls Tryz.prog 98 #[.pointer (some ⟨g,0,none⟩),.int .i64 (b:Nat),.int .i64 2] w' (TxPost (Mil.brack (Mil.tight r) 2 (Mil.txt r)) w')):=fun w' h'=>hr 2 (by decide) w' h'
 have LV:Hid (∀w,Calls Tryz.prog 100 #[.string (bs x)] w fun e w'=>e=.returned (.int .i64 ((1:Nat):Int))∧w'=w):=fun w=>hx ▸ level_any x w
 have ht:Mil.tightOf x=1:=by
  rcases Ref.level_tight x with ⟨h1,_⟩ | ⟨h1,_⟩ <;> omega
 have HG:Hid (Ending.returned (.string (bs (Mil.brack (Mil.tight q) 1 (Mil.txt q))++bs Mil.blank++bs x++bs Mil.blank++bs (Mil.brack (Mil.tight r) 2 (Mil.txt r))))=.returned (.string (bs (Mil.txt (Mil.eTwo x q r))))):=by
  show _=_
  rw [bs_add,bs_add,bs_add,bs_add]
  show _=Ending.returned (.string (bs (Mil.brack (Mil.tight q) (Mil.leftOf (Mil.tightOf x)) (Mil.txt q)++Mil.blank++x++Mil.blank++Mil.brack (Mil.tight r) (Mil.tightOf x+1) (Mil.txt r))))
  rw [ht];rfl
 have s1:(bs (Mil.brack (Mil.tight q) 1 (Mil.txt q))).size≤24002:=by rw [bs_size];have:=Ref.brack_le (Mil.tight q) 1 (Mil.txt q);omega
 have s2:(bs (Mil.brack (Mil.tight r) 2 (Mil.txt r))).size≤24002:=by rw [bs_size];have:=Ref.brack_le (Mil.tight r) 2 (Mil.txt r);omega
 have s3:(bs x).size≤3:=by rw [bs_size];exact hl3
 have n1:¬9223372036854775807 < (bs (Mil.brack (Mil.tight q) 1 (Mil.txt q))).size+1:=by omega
 have n2:¬9223372036854775807 < (bs (Mil.brack (Mil.tight q) 1 (Mil.txt q))).size+1+(bs x).size:=by omega
 have n3:¬9223372036854775807 < (bs (Mil.brack (Mil.tight q) 1 (Mil.txt q))).size+1+(bs x).size+1:=by omega
 have n4:¬9223372036854775807 < (bs (Mil.brack (Mil.tight q) 1 (Mil.txt q))).size+1+(bs x).size+1+(bs (Mil.brack (Mil.tight r) 2 (Mil.txt r))).size:=by omega
 clear hq hr hx ht ha hb s1 s2 s3 hl3
 go_enter Tryz.func55,Tryz.ntmps55
 go_wp2_with fail
 clear c0 c1 c2 c3 c4 c5 c6 c7 d1 i1 i2
 have HP0:=hid (HP.out.below HB0.out)
 generalize hW:w.alloc (.cells #[.int .i64 ((5:Nat):Int),.string (bs x),.int .i64 (p:Nat),.int .i64 ((0:Nat):Int),.bool false,.int .i64 ((a:Nat):Int),.int .i64 ((b:Nat):Int),.int .i64 ((0:Nat):Int)] 195)=W at HB0 NC HP0 ⊢
 have BW:Hid (Below W.heap.size W W):=Below.refl _ _
 clear hW
 refine (LV.out _).mono ?_
 rintro e w0 ⟨rfl,hw⟩
 have hw':=hw.symm
 clear hw
 subst hw'
 have f5:W.cell? ⟨w.heap.size,5,none⟩=some (.int .i64 (a:Nat)):=NC.out W BW.out 5
 go_wp2_with fail
 clear f5
 refine (HQ.out _ (HP0.out.below BW.out)).mono ?_
 rintro r w1 ⟨rfl,hb⟩
 have Bw1:=hid (below_step BW.out hb)
 clear hb
 have f6:w1.cell? ⟨w.heap.size,6,none⟩=some (.int .i64 (b:Nat)):=NC.out w1 Bw1.out 6
 go_wp2_with fail
 clear f6
 refine (HR.out _ (HP0.out.below Bw1.out)).mono ?_
 rintro r w2 ⟨rfl,hb⟩
 have Bw2:=hid (below_step Bw1.out hb)
 clear hb
 have f1:w2.cell? ⟨w.heap.size,1,none⟩=some (.string (bs x)):=NC.out w2 Bw2.out 1
 generalize hXq:bs (Mil.brack (Mil.tight q) 1 (Mil.txt q))=Xq at HG n1 n2 n3 n4 ⊢
 clear hXq
 generalize hXr:bs (Mil.brack (Mil.tight r) 2 (Mil.txt r))=Xr at HG n4 ⊢
 clear hXr
 go_wp2_with fail
 all_goals go_ret
 exact ⟨HG.out,below_step HB0.out Bw2.out⟩
set_option maxRecDepth 100000 in
theorem rt_two2 (B g:Nat) (iv nv:Value) (ns:List Ref.Nd) (i p:Nat) (a b:Nat) (x:Mil.Bytes) (q r:Mil.E) (hn:ns[i]?=some ⟨5,x,p,0,false,a,b,0⟩) (hx:Ref.level x=2) (hl3:x.length≤3) (ha:(Mil.txt q).length≤24000) (hb:(Mil.txt r).length≤24000) (hq:OR B g iv nv ns q a) (hr:OR B g iv nv ns r b):TR B g iv nv ns (Mil.eTwo x q r) i:=by
 intro w h
 have HP:=hid h
 have hl:=(List.getElem?_eq_some_iff.1 hn).1
 have i1:(0:Int)≤(i:Int):=by omega
 have i2:(i:Int) < (ns.length:Int):=by omega
 obtain ⟨k,cp,hv,c0,c1,c2,c3,c4,c5,c6,c7⟩:=h.node8 hn
 have d1:=h.cells.2
 rw [hv] at d1
 have HB0:=bRow w #[.int .i64 ((5:Nat):Int),.string (bs x),.int .i64 (p:Nat),.int .i64 ((0:Nat):Int),.bool false,.int .i64 ((a:Nat):Int),.int .i64 ((b:Nat):Int),.int .i64 ((0:Nat):Int)] 195
 have hb0:=HB0.out
 have NC:=ncRow w #[.int .i64 ((5:Nat):Int),.string (bs x),.int .i64 (p:Nat),.int .i64 ((0:Nat):Int),.bool false,.int .i64 ((a:Nat):Int),.int .i64 ((b:Nat):Int),.int .i64 ((0:Nat):Int)] 195
 clear hv h hn hl hb0
 have HQ:Hid (∀w',PM B g iv nv ns w'→Calls Tryz.prog 98 #[.pointer (some ⟨g,0,none⟩),.int .i64 (a:Nat),.int .i64 2] w' (TxPost (Mil.brack (Mil.tight q) 2 (Mil.txt q)) w')):=fun w' h'=>hq 2 (by decide) w' h'
 have HR:Hid (∀w',PM B g iv nv ns w'→Calls Tryz.prog 98 #[.pointer (some ⟨g,0,none⟩),.int .i64 (b:Nat),.int .i64 3] w' (TxPost (Mil.brack (Mil.tight r) 3 (Mil.txt r)) w')):=fun w' h'=>hr 3 (by decide) w' h'
 have LV:Hid (∀w,Calls Tryz.prog 100 #[.string (bs x)] w fun e w'=>e=.returned (.int .i64 ((2:Nat):Int))∧w'=w):=fun w=>hx ▸ level_any x w
 have ht:Mil.tightOf x=2:=by
  rcases Ref.level_tight x with ⟨h1,_⟩ | ⟨h1,_⟩ <;> omega
 have HG:Hid (Ending.returned (.string (bs (Mil.brack (Mil.tight q) 2 (Mil.txt q))++bs Mil.blank++bs x++bs Mil.blank++bs (Mil.brack (Mil.tight r) 3 (Mil.txt r))))=.returned (.string (bs (Mil.txt (Mil.eTwo x q r))))):=by
  show _=_
  rw [bs_add,bs_add,bs_add,bs_add]
  show _=Ending.returned (.string (bs (Mil.brack (Mil.tight q) (Mil.leftOf (Mil.tightOf x)) (Mil.txt q)++Mil.blank++x++Mil.blank++Mil.brack (Mil.tight r) (Mil.tightOf x+1) (Mil.txt r))))
  rw [ht];rfl
 have s1:(bs (Mil.brack (Mil.tight q) 2 (Mil.txt q))).size≤24002:=by rw [bs_size];have:=Ref.brack_le (Mil.tight q) 2 (Mil.txt q);omega
 have s2:(bs (Mil.brack (Mil.tight r) 3 (Mil.txt r))).size≤24002:=by rw [bs_size];have:=Ref.brack_le (Mil.tight r) 3 (Mil.txt r);omega
 have s3:(bs x).size≤3:=by rw [bs_size];exact hl3
 have n1:¬9223372036854775807 < (bs (Mil.brack (Mil.tight q) 2 (Mil.txt q))).size+1:=by omega
 have n2:¬9223372036854775807 < (bs (Mil.brack (Mil.tight q) 2 (Mil.txt q))).size+1+(bs x).size:=by omega
 have n3:¬9223372036854775807 < (bs (Mil.brack (Mil.tight q) 2 (Mil.txt q))).size+1+(bs x).size+1:=by omega
 have n4:¬9223372036854775807 < (bs (Mil.brack (Mil.tight q) 2 (Mil.txt q))).size+1+(bs x).size+1+(bs (Mil.brack (Mil.tight r) 3 (Mil.txt r))).size:=by omega
 clear hq hr hx ht ha hb s1 s2 s3 hl3
 go_enter Tryz.func55,Tryz.ntmps55
 go_wp2_with fail
 clear c0 c1 c2 c3 c4 c5 c6 c7 d1 i1 i2
 have HP0:=hid (HP.out.below HB0.out)
 generalize hW:w.alloc (.cells #[.int .i64 ((5:Nat):Int),.string (bs x),.int .i64 (p:Nat),.int .i64 ((0:Nat):Int),.bool false,.int .i64 ((a:Nat):Int),.int .i64 ((b:Nat):Int),.int .i64 ((0:Nat):Int)] 195)=W at HB0 NC HP0 ⊢
 have BW:Hid (Below W.heap.size W W):=Below.refl _ _
 clear hW
 refine (LV.out _).mono ?_
 rintro e w0 ⟨rfl,hw⟩
 have hw':=hw.symm
 clear hw
 subst hw'
 have f5:W.cell? ⟨w.heap.size,5,none⟩=some (.int .i64 (a:Nat)):=NC.out W BW.out 5
 go_wp2_with fail
 clear f5
 refine (HQ.out _ (HP0.out.below BW.out)).mono ?_
 rintro r w1 ⟨rfl,hb⟩
 have Bw1:=hid (below_step BW.out hb)
 clear hb
 have f6:w1.cell? ⟨w.heap.size,6,none⟩=some (.int .i64 (b:Nat)):=NC.out w1 Bw1.out 6
 go_wp2_with fail
 clear f6
 refine (HR.out _ (HP0.out.below Bw1.out)).mono ?_
 rintro r w2 ⟨rfl,hb⟩
 have Bw2:=hid (below_step Bw1.out hb)
 clear hb
 have f1:w2.cell? ⟨w.heap.size,1,none⟩=some (.string (bs x)):=NC.out w2 Bw2.out 1
 generalize hXq:bs (Mil.brack (Mil.tight q) 2 (Mil.txt q))=Xq at HG n1 n2 n3 n4 ⊢
 clear hXq
 generalize hXr:bs (Mil.brack (Mil.tight r) 3 (Mil.txt r))=Xr at HG n4 ⊢
 clear hXr
 go_wp2_with fail
 all_goals go_ret
 exact ⟨HG.out,below_step HB0.out Bw2.out⟩
set_option maxRecDepth 100000 in
theorem rt_two4 (B g:Nat) (iv nv:Value) (ns:List Ref.Nd) (i p:Nat) (a b:Nat) (x:Mil.Bytes) (q r:Mil.E) (hn:ns[i]?=some ⟨5,x,p,0,false,a,b,0⟩) (hx:Ref.level x=4) (hl3:x.length≤3) (ha:(Mil.txt q).length≤24000) (hb:(Mil.txt r).length≤24000) (hq:OR B g iv nv ns q a) (hr:OR B g iv nv ns r b):TR B g iv nv ns (Mil.eTwo x q r) i:=by
 intro w h
 have HP:=hid h
 have hl:=(List.getElem?_eq_some_iff.1 hn).1
 have i1:(0:Int)≤(i:Int):=by omega
 have i2:(i:Int) < (ns.length:Int):=by omega
 obtain ⟨k,cp,hv,c0,c1,c2,c3,c4,c5,c6,c7⟩:=h.node8 hn
 have d1:=h.cells.2
 rw [hv] at d1
 have HB0:=bRow w #[.int .i64 ((5:Nat):Int),.string (bs x),.int .i64 (p:Nat),.int .i64 ((0:Nat):Int),.bool false,.int .i64 ((a:Nat):Int),.int .i64 ((b:Nat):Int),.int .i64 ((0:Nat):Int)] 195
 have hb0:=HB0.out
 have NC:=ncRow w #[.int .i64 ((5:Nat):Int),.string (bs x),.int .i64 (p:Nat),.int .i64 ((0:Nat):Int),.bool false,.int .i64 ((a:Nat):Int),.int .i64 ((b:Nat):Int),.int .i64 ((0:Nat):Int)] 195
 clear hv h hn hl hb0
 have HQ:Hid (∀w',PM B g iv nv ns w'→Calls Tryz.prog 98 #[.pointer (some ⟨g,0,none⟩),.int .i64 (a:Nat),.int .i64 5] w' (TxPost (Mil.brack (Mil.tight q) 5 (Mil.txt q)) w')):=fun w' h'=>hq 5 (by decide) w' h'
 have HR:Hid (∀w',PM B g iv nv ns w'→Calls Tryz.prog 98 #[.pointer (some ⟨g,0,none⟩),.int .i64 (b:Nat),.int .i64 5] w' (TxPost (Mil.brack (Mil.tight r) 5 (Mil.txt r)) w')):=fun w' h'=>hr 5 (by decide) w' h'
 have LV:Hid (∀w,Calls Tryz.prog 100 #[.string (bs x)] w fun e w'=>e=.returned (.int .i64 ((4:Nat):Int))∧w'=w):=fun w=>hx ▸ level_any x w
 have ht:Mil.tightOf x=4:=by
  rcases Ref.level_tight x with ⟨h1,_⟩ | ⟨h1,_⟩ <;> omega
 have HG:Hid (Ending.returned (.string (bs (Mil.brack (Mil.tight q) 5 (Mil.txt q))++bs Mil.blank++bs x++bs Mil.blank++bs (Mil.brack (Mil.tight r) 5 (Mil.txt r))))=.returned (.string (bs (Mil.txt (Mil.eTwo x q r))))):=by
  show _=_
  rw [bs_add,bs_add,bs_add,bs_add]
  show _=Ending.returned (.string (bs (Mil.brack (Mil.tight q) (Mil.leftOf (Mil.tightOf x)) (Mil.txt q)++Mil.blank++x++Mil.blank++Mil.brack (Mil.tight r) (Mil.tightOf x+1) (Mil.txt r))))
  rw [ht];rfl
 have s1:(bs (Mil.brack (Mil.tight q) 5 (Mil.txt q))).size≤24002:=by rw [bs_size];have:=Ref.brack_le (Mil.tight q) 5 (Mil.txt q);omega
 have s2:(bs (Mil.brack (Mil.tight r) 5 (Mil.txt r))).size≤24002:=by rw [bs_size];have:=Ref.brack_le (Mil.tight r) 5 (Mil.txt r);omega
 have s3:(bs x).size≤3:=by rw [bs_size];exact hl3
 have n1:¬9223372036854775807 < (bs (Mil.brack (Mil.tight q) 5 (Mil.txt q))).size+1:=by omega
 have n2:¬9223372036854775807 < (bs (Mil.brack (Mil.tight q) 5 (Mil.txt q))).size+1+(bs x).size:=by omega
 have n3:¬9223372036854775807 < (bs (Mil.brack (Mil.tight q) 5 (Mil.txt q))).size+1+(bs x).size+1:=by omega
 have n4:¬9223372036854775807 < (bs (Mil.brack (Mil.tight q) 5 (Mil.txt q))).size+1+(bs x).size+1+(bs (Mil.brack (Mil.tight r) 5 (Mil.txt r))).size:=by omega
 clear hq hr hx ht ha hb s1 s2 s3 hl3
 go_enter Tryz.func55,Tryz.ntmps55
 go_wp2_with fail
 clear c0 c1 c2 c3 c4 c5 c6 c7 d1 i1 i2
 have HP0:=hid (HP.out.below HB0.out)
 generalize hW:w.alloc (.cells #[.int .i64 ((5:Nat):Int),.string (bs x),.int .i64 (p:Nat),.int .i64 ((0:Nat):Int),.bool false,.int .i64 ((a:Nat):Int),.int .i64 ((b:Nat):Int),.int .i64 ((0:Nat):Int)] 195)=W at HB0 NC HP0 ⊢
 have BW:Hid (Below W.heap.size W W):=Below.refl _ _
 clear hW
 refine (LV.out _).mono ?_
 rintro e w0 ⟨rfl,hw⟩
 have hw':=hw.symm
 clear hw
 subst hw'
 have f5:W.cell? ⟨w.heap.size,5,none⟩=some (.int .i64 (a:Nat)):=NC.out W BW.out 5
 go_wp2_with fail
 clear f5
 refine (HQ.out _ (HP0.out.below BW.out)).mono ?_
 rintro r w1 ⟨rfl,hb⟩
 have Bw1:=hid (below_step BW.out hb)
 clear hb
 have f6:w1.cell? ⟨w.heap.size,6,none⟩=some (.int .i64 (b:Nat)):=NC.out w1 Bw1.out 6
 go_wp2_with fail
 clear f6
 refine (HR.out _ (HP0.out.below Bw1.out)).mono ?_
 rintro r w2 ⟨rfl,hb⟩
 have Bw2:=hid (below_step Bw1.out hb)
 clear hb
 have f1:w2.cell? ⟨w.heap.size,1,none⟩=some (.string (bs x)):=NC.out w2 Bw2.out 1
 generalize hXq:bs (Mil.brack (Mil.tight q) 5 (Mil.txt q))=Xq at HG n1 n2 n3 n4 ⊢
 clear hXq
 generalize hXr:bs (Mil.brack (Mil.tight r) 5 (Mil.txt r))=Xr at HG n4 ⊢
 clear hXr
 go_wp2_with fail
 all_goals go_ret
 exact ⟨HG.out,below_step HB0.out Bw2.out⟩
set_option maxRecDepth 100000 in
theorem rt_two5 (B g:Nat) (iv nv:Value) (ns:List Ref.Nd) (i p:Nat) (a b:Nat) (x:Mil.Bytes) (q r:Mil.E) (hn:ns[i]?=some ⟨5,x,p,0,false,a,b,0⟩) (hx:Ref.level x=5) (hl3:x.length≤3) (ha:(Mil.txt q).length≤24000) (hb:(Mil.txt r).length≤24000) (hq:OR B g iv nv ns q a) (hr:OR B g iv nv ns r b):TR B g iv nv ns (Mil.eTwo x q r) i:=by
 intro w h
 have HP:=hid h
 have hl:=(List.getElem?_eq_some_iff.1 hn).1
 have i1:(0:Int)≤(i:Int):=by omega
 have i2:(i:Int) < (ns.length:Int):=by omega
 obtain ⟨k,cp,hv,c0,c1,c2,c3,c4,c5,c6,c7⟩:=h.node8 hn
 have d1:=h.cells.2
 rw [hv] at d1
 have HB0:=bRow w #[.int .i64 ((5:Nat):Int),.string (bs x),.int .i64 (p:Nat),.int .i64 ((0:Nat):Int),.bool false,.int .i64 ((a:Nat):Int),.int .i64 ((b:Nat):Int),.int .i64 ((0:Nat):Int)] 195
 have hb0:=HB0.out
 have NC:=ncRow w #[.int .i64 ((5:Nat):Int),.string (bs x),.int .i64 (p:Nat),.int .i64 ((0:Nat):Int),.bool false,.int .i64 ((a:Nat):Int),.int .i64 ((b:Nat):Int),.int .i64 ((0:Nat):Int)] 195
 clear hv h hn hl hb0
 have HQ:Hid (∀w',PM B g iv nv ns w'→Calls Tryz.prog 98 #[.pointer (some ⟨g,0,none⟩),.int .i64 (a:Nat),.int .i64 5] w' (TxPost (Mil.brack (Mil.tight q) 5 (Mil.txt q)) w')):=fun w' h'=>hq 5 (by decide) w' h'
 have HR:Hid (∀w',PM B g iv nv ns w'→Calls Tryz.prog 98 #[.pointer (some ⟨g,0,none⟩),.int .i64 (b:Nat),.int .i64 6] w' (TxPost (Mil.brack (Mil.tight r) 6 (Mil.txt r)) w')):=fun w' h'=>hr 6 (by decide) w' h'
 have LV:Hid (∀w,Calls Tryz.prog 100 #[.string (bs x)] w fun e w'=>e=.returned (.int .i64 ((5:Nat):Int))∧w'=w):=fun w=>hx ▸ level_any x w
 have ht:Mil.tightOf x=5:=by
  rcases Ref.level_tight x with ⟨h1,_⟩ | ⟨h1,_⟩ <;> omega
 have HG:Hid (Ending.returned (.string (bs (Mil.brack (Mil.tight q) 5 (Mil.txt q))++bs Mil.blank++bs x++bs Mil.blank++bs (Mil.brack (Mil.tight r) 6 (Mil.txt r))))=.returned (.string (bs (Mil.txt (Mil.eTwo x q r))))):=by
  show _=_
  rw [bs_add,bs_add,bs_add,bs_add]
  show _=Ending.returned (.string (bs (Mil.brack (Mil.tight q) (Mil.leftOf (Mil.tightOf x)) (Mil.txt q)++Mil.blank++x++Mil.blank++Mil.brack (Mil.tight r) (Mil.tightOf x+1) (Mil.txt r))))
  rw [ht];rfl
 have s1:(bs (Mil.brack (Mil.tight q) 5 (Mil.txt q))).size≤24002:=by rw [bs_size];have:=Ref.brack_le (Mil.tight q) 5 (Mil.txt q);omega
 have s2:(bs (Mil.brack (Mil.tight r) 6 (Mil.txt r))).size≤24002:=by rw [bs_size];have:=Ref.brack_le (Mil.tight r) 6 (Mil.txt r);omega
 have s3:(bs x).size≤3:=by rw [bs_size];exact hl3
 have n1:¬9223372036854775807 < (bs (Mil.brack (Mil.tight q) 5 (Mil.txt q))).size+1:=by omega
 have n2:¬9223372036854775807 < (bs (Mil.brack (Mil.tight q) 5 (Mil.txt q))).size+1+(bs x).size:=by omega
 have n3:¬9223372036854775807 < (bs (Mil.brack (Mil.tight q) 5 (Mil.txt q))).size+1+(bs x).size+1:=by omega
 have n4:¬9223372036854775807 < (bs (Mil.brack (Mil.tight q) 5 (Mil.txt q))).size+1+(bs x).size+1+(bs (Mil.brack (Mil.tight r) 6 (Mil.txt r))).size:=by omega
 clear hq hr hx ht ha hb s1 s2 s3 hl3
 go_enter Tryz.func55,Tryz.ntmps55
 go_wp2_with fail
 clear c0 c1 c2 c3 c4 c5 c6 c7 d1 i1 i2
 have HP0:=hid (HP.out.below HB0.out)
 generalize hW:w.alloc (.cells #[.int .i64 ((5:Nat):Int),.string (bs x),.int .i64 (p:Nat),.int .i64 ((0:Nat):Int),.bool false,.int .i64 ((a:Nat):Int),.int .i64 ((b:Nat):Int),.int .i64 ((0:Nat):Int)] 195)=W at HB0 NC HP0 ⊢
 have BW:Hid (Below W.heap.size W W):=Below.refl _ _
 clear hW
 refine (LV.out _).mono ?_
 rintro e w0 ⟨rfl,hw⟩
 have hw':=hw.symm
 clear hw
 subst hw'
 have f5:W.cell? ⟨w.heap.size,5,none⟩=some (.int .i64 (a:Nat)):=NC.out W BW.out 5
 go_wp2_with fail
 clear f5
 refine (HQ.out _ (HP0.out.below BW.out)).mono ?_
 rintro r w1 ⟨rfl,hb⟩
 have Bw1:=hid (below_step BW.out hb)
 clear hb
 have f6:w1.cell? ⟨w.heap.size,6,none⟩=some (.int .i64 (b:Nat)):=NC.out w1 Bw1.out 6
 go_wp2_with fail
 clear f6
 refine (HR.out _ (HP0.out.below Bw1.out)).mono ?_
 rintro r w2 ⟨rfl,hb⟩
 have Bw2:=hid (below_step Bw1.out hb)
 clear hb
 have f1:w2.cell? ⟨w.heap.size,1,none⟩=some (.string (bs x)):=NC.out w2 Bw2.out 1
 generalize hXq:bs (Mil.brack (Mil.tight q) 5 (Mil.txt q))=Xq at HG n1 n2 n3 n4 ⊢
 clear hXq
 generalize hXr:bs (Mil.brack (Mil.tight r) 6 (Mil.txt r))=Xr at HG n4 ⊢
 clear hXr
 go_wp2_with fail
 all_goals go_ret
 exact ⟨HG.out,below_step HB0.out Bw2.out⟩
set_option maxRecDepth 100000 in
theorem rt_two6 (B g:Nat) (iv nv:Value) (ns:List Ref.Nd) (i p:Nat) (a b:Nat) (x:Mil.Bytes) (q r:Mil.E) (hn:ns[i]?=some ⟨5,x,p,0,false,a,b,0⟩) (hx:Ref.level x=6) (hl3:x.length≤3) (ha:(Mil.txt q).length≤24000) (hb:(Mil.txt r).length≤24000) (hq:OR B g iv nv ns q a) (hr:OR B g iv nv ns r b):TR B g iv nv ns (Mil.eTwo x q r) i:=by
 intro w h
 have HP:=hid h
 have hl:=(List.getElem?_eq_some_iff.1 hn).1
 have i1:(0:Int)≤(i:Int):=by omega
 have i2:(i:Int) < (ns.length:Int):=by omega
 obtain ⟨k,cp,hv,c0,c1,c2,c3,c4,c5,c6,c7⟩:=h.node8 hn
 have d1:=h.cells.2
 rw [hv] at d1
 have HB0:=bRow w #[.int .i64 ((5:Nat):Int),.string (bs x),.int .i64 (p:Nat),.int .i64 ((0:Nat):Int),.bool false,.int .i64 ((a:Nat):Int),.int .i64 ((b:Nat):Int),.int .i64 ((0:Nat):Int)] 195
 have hb0:=HB0.out
 have NC:=ncRow w #[.int .i64 ((5:Nat):Int),.string (bs x),.int .i64 (p:Nat),.int .i64 ((0:Nat):Int),.bool false,.int .i64 ((a:Nat):Int),.int .i64 ((b:Nat):Int),.int .i64 ((0:Nat):Int)] 195
 clear hv h hn hl hb0
 have HQ:Hid (∀w',PM B g iv nv ns w'→Calls Tryz.prog 98 #[.pointer (some ⟨g,0,none⟩),.int .i64 (a:Nat),.int .i64 6] w' (TxPost (Mil.brack (Mil.tight q) 6 (Mil.txt q)) w')):=fun w' h'=>hq 6 (by decide) w' h'
 have HR:Hid (∀w',PM B g iv nv ns w'→Calls Tryz.prog 98 #[.pointer (some ⟨g,0,none⟩),.int .i64 (b:Nat),.int .i64 7] w' (TxPost (Mil.brack (Mil.tight r) 7 (Mil.txt r)) w')):=fun w' h'=>hr 7 (by decide) w' h'
 have LV:Hid (∀w,Calls Tryz.prog 100 #[.string (bs x)] w fun e w'=>e=.returned (.int .i64 ((6:Nat):Int))∧w'=w):=fun w=>hx ▸ level_any x w
 have ht:Mil.tightOf x=6:=by
  rcases Ref.level_tight x with ⟨h1,_⟩ | ⟨h1,_⟩ <;> omega
 have HG:Hid (Ending.returned (.string (bs (Mil.brack (Mil.tight q) 6 (Mil.txt q))++bs Mil.blank++bs x++bs Mil.blank++bs (Mil.brack (Mil.tight r) 7 (Mil.txt r))))=.returned (.string (bs (Mil.txt (Mil.eTwo x q r))))):=by
  show _=_
  rw [bs_add,bs_add,bs_add,bs_add]
  show _=Ending.returned (.string (bs (Mil.brack (Mil.tight q) (Mil.leftOf (Mil.tightOf x)) (Mil.txt q)++Mil.blank++x++Mil.blank++Mil.brack (Mil.tight r) (Mil.tightOf x+1) (Mil.txt r))))
  rw [ht];rfl
 have s1:(bs (Mil.brack (Mil.tight q) 6 (Mil.txt q))).size≤24002:=by rw [bs_size];have:=Ref.brack_le (Mil.tight q) 6 (Mil.txt q);omega
 have s2:(bs (Mil.brack (Mil.tight r) 7 (Mil.txt r))).size≤24002:=by rw [bs_size];have:=Ref.brack_le (Mil.tight r) 7 (Mil.txt r);omega
 have s3:(bs x).size≤3:=by rw [bs_size];exact hl3
 have n1:¬9223372036854775807 < (bs (Mil.brack (Mil.tight q) 6 (Mil.txt q))).size+1:=by omega
 have n2:¬9223372036854775807 < (bs (Mil.brack (Mil.tight q) 6 (Mil.txt q))).size+1+(bs x).size:=by omega
 have n3:¬9223372036854775807 < (bs (Mil.brack (Mil.tight q) 6 (Mil.txt q))).size+1+(bs x).size+1:=by omega
 have n4:¬9223372036854775807 < (bs (Mil.brack (Mil.tight q) 6 (Mil.txt q))).size+1+(bs x).size+1+(bs (Mil.brack (Mil.tight r) 7 (Mil.txt r))).size:=by omega
 clear hq hr hx ht ha hb s1 s2 s3 hl3
 go_enter Tryz.func55,Tryz.ntmps55
 go_wp2_with fail
 clear c0 c1 c2 c3 c4 c5 c6 c7 d1 i1 i2
 have HP0:=hid (HP.out.below HB0.out)
 generalize hW:w.alloc (.cells #[.int .i64 ((5:Nat):Int),.string (bs x),.int .i64 (p:Nat),.int .i64 ((0:Nat):Int),.bool false,.int .i64 ((a:Nat):Int),.int .i64 ((b:Nat):Int),.int .i64 ((0:Nat):Int)] 195)=W at HB0 NC HP0 ⊢
 have BW:Hid (Below W.heap.size W W):=Below.refl _ _
 clear hW
 refine (LV.out _).mono ?_
 rintro e w0 ⟨rfl,hw⟩
 have hw':=hw.symm
 clear hw
 subst hw'
 have f5:W.cell? ⟨w.heap.size,5,none⟩=some (.int .i64 (a:Nat)):=NC.out W BW.out 5
 go_wp2_with fail
 clear f5
 refine (HQ.out _ (HP0.out.below BW.out)).mono ?_
 rintro r w1 ⟨rfl,hb⟩
 have Bw1:=hid (below_step BW.out hb)
 clear hb
 have f6:w1.cell? ⟨w.heap.size,6,none⟩=some (.int .i64 (b:Nat)):=NC.out w1 Bw1.out 6
 go_wp2_with fail
 clear f6
 refine (HR.out _ (HP0.out.below Bw1.out)).mono ?_
 rintro r w2 ⟨rfl,hb⟩
 have Bw2:=hid (below_step Bw1.out hb)
 clear hb
 have f1:w2.cell? ⟨w.heap.size,1,none⟩=some (.string (bs x)):=NC.out w2 Bw2.out 1
 generalize hXq:bs (Mil.brack (Mil.tight q) 6 (Mil.txt q))=Xq at HG n1 n2 n3 n4 ⊢
 clear hXq
 generalize hXr:bs (Mil.brack (Mil.tight r) 7 (Mil.txt r))=Xr at HG n4 ⊢
 clear hXr
 go_wp2_with fail
 all_goals go_ret
 exact ⟨HG.out,below_step HB0.out Bw2.out⟩
set_option maxRecDepth 100000 in
theorem operand_any (B g:Nat) (iv nv:Value) (ns:List Ref.Nd) (i:Nat) (e:Mil.E) (n:Ref.Nd) (hn:ns[i]?=some n) (hb:∀k,k≤7→(Ref.bindsOf n < k↔Mil.tight e < k)) (hl:(Mil.txt e).length≤24000) (ht:TR B g iv nv ns e i):OR B g iv nv ns e i:=by
 intro lv hlv w h
 have HP:=hid h
 have HT:=hid ht
 obtain ⟨kd,t,p,v,ng,a,b,c⟩:=n
 have hll:=(List.getElem?_eq_some_iff.1 hn).1
 have i1:(0:Int)≤(i:Int):=by omega
 have i2:(i:Int) < (ns.length:Int):=by omega
 have BV:Hid (∀w,Calls Tryz.prog 99 #[.agg #[.int .i64 (kd:Nat),.string (bs t),.int .i64 (p:Nat),.int .i64 (v:Nat),.bool ng,.int .i64 (a:Nat),.int .i64 (b:Nat),.int .i64 (c:Nat)]] w fun e w'=>e=.returned (.int .i64 ((Ref.bindsOf ⟨kd,t,p,v,ng,a,b,c⟩:Nat):Int))∧Below w.heap.size w w'):=fun w=>binds_any ⟨kd,t,p,v,ng,a,b,c⟩ w
 have hbb:=hb lv hlv
 generalize Ref.bindsOf ⟨kd,t,p,v,ng,a,b,c⟩=bo at BV hbb
 have HN:=hid hn
 have hs:(bs (Mil.txt e)).size≤24000:=by rw [bs_size];exact hl
 have n1:¬9223372036854775807 < 1+(bs (Mil.txt e)).size:=by omega
 have n2:¬9223372036854775807 < 1+(bs (Mil.txt e)).size+1:=by omega
 have HG:Hid (Ending.returned (.string (bs Mil.sOpen++bs (Mil.txt e)++bs Mil.sShut))=.returned (.string (bs (Mil.sOpen++Mil.txt e++Mil.sShut)))):=by
  show _=_
  rw [bs_add,bs_add]
 clear hn h ht hl hll hb hs hlv
 go_enter Tryz.func98,Tryz.ntmps98
 go_wp2_with fail
 refine (HT.out _ HP.out).mono ?_
 rintro r w1 ⟨rfl,hb1⟩
 have HB1:=hid hb1
 obtain ⟨k,cp,hv,c0,c1,c2,c3,c4,c5,c6,c7⟩:=(HP.out.below hb1).node8 HN.out
 have d1:=(HP.out.below hb1).cells.2
 rw [hv] at d1
 clear hv hb1
 go_wp2_with fail
 refine (BV.out _).mono ?_
 rintro r w2 ⟨rfl,hb2⟩
 have HB2:=hid (below_step HB1.out hb2)
 clear hb2 c0 c1 c2 c3 c4 c5 c6 c7 d1 i1 i2
 generalize hX:bs (Mil.txt e)=X at HG n1 n2 ⊢
 have HX:=hid hX
 clear hX
 by_cases hlt:bo < lv
 ·have q:((bo:Int) < (lv:Int))=True:=by simp;omega
  have HE:Hid (Mil.brack (Mil.tight e) lv (Mil.txt e)=Mil.sOpen++Mil.txt e++Mil.sShut):=by
   show _=_
   unfold Mil.brack
   rw [if_pos (hbb.1 hlt)]
  clear hbb hlt
  go_wp2_with fail
  all_goals go_ret
  refine ⟨?_,HB2.out⟩
  rw [HE.out]
  exact HG.out
 ·have q:((bo:Int) < (lv:Int))=False:=by simp;omega
  have HE:Hid (Mil.brack (Mil.tight e) lv (Mil.txt e)=Mil.txt e):=by
   show _=_
   unfold Mil.brack
   rw [if_neg (fun h=>hlt (hbb.2 h))]
  clear hbb hlt
  go_wp2_with fail
  all_goals go_ret
  refine ⟨?_,HB2.out⟩
  rw [HE.out,HX.out];rfl
end
end Go.Proofs.YtoiajojadihpbaaGreatDoor
