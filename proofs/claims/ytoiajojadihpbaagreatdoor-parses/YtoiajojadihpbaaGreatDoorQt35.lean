import Derived.Test.YtoiajojadihpbaaGreatDoorQt34
import Derived.Test.YtoiajojadihpbaaGreatDoorQt33
import Derived.Deep.RegionHeld3
namespace Go.Proofs.YtoiajojadihpbaaGreatDoor
set_option maxHeartbeats 8000000
set_option maxRecDepth 100000
section
open Go.RowKit
theorem rt_two1 (B g:Nat) (iv nv:Value) (ns:List Ref.Nd) (i p:Nat) (a b:Nat) (x:Mil.Bytes) (q r:Mil.E) (hn:ns[i]?=some ⟨5,x,p,0,false,a,b,0⟩) (hx:Ref.level x=1) (hl3:x.length<=3) (ha:(Mil.txt q).length<=24000) (hb:(Mil.txt r).length<=24000) (hq:OR B g iv nv ns q a) (hr:OR B g iv nv ns r b):TR B g iv nv ns (Mil.eTwo x q r) i:=by
 intro w h
 have HP:=hid h
 have hl:=(lgs hn).1
 have i1:(0:Int)<=(i:Int):=by omega
 have i2:(i:Int) < (ns.length:Int):=by omega
 obtain⟨k,cp,hv,c0,c1,c2,c3,c4,c5,c6,c7⟩:=h.node8 hn
 have d1:=h.cells.2
 rw[hv] at d1
 have HB0:=bRow w #[.int .i64 ((5:Nat):Int),.string (bs x),.int .i64 (p:Nat),.int .i64 ((0:Nat):Int),.bool false,.int .i64 ((a:Nat):Int),.int .i64 ((b:Nat):Int),.int .i64 ((0:Nat):Int)] 195
 have hb0:=HB0.out
 have NC:=ncRow w #[.int .i64 ((5:Nat):Int),.string (bs x),.int .i64 (p:Nat),.int .i64 ((0:Nat):Int),.bool false,.int .i64 ((a:Nat):Int),.int .i64 ((b:Nat):Int),.int .i64 ((0:Nat):Int)] 195
 clear hv h hn hl hb0
 have HQ:Hid (∀w',PM B g iv nv ns w'->Calls Tryz.prog 98 #[.pointer (some ⟨g,0,none⟩),.int .i64 (a:Nat),.int .i64 1] w' (TxPost (Mil.brack (Mil.tight q) 1 (Mil.txt q)) w')):=fun w' h'=>hq 1 (by decide) w' h'
 have HR:Hid (∀w',PM B g iv nv ns w'->Calls Tryz.prog 98 #[.pointer (some ⟨g,0,none⟩),.int .i64 (b:Nat),.int .i64 2] w' (TxPost (Mil.brack (Mil.tight r) 2 (Mil.txt r)) w')):=fun w' h'=>hr 2 (by decide) w' h'
 have LV:Hid (∀w,Calls Tryz.prog 100 #[.string (bs x)] w fun e w'=>e=.returned (.int .i64 ((1:Nat):Int))/\w'=w):=fun w=>hx ▸ level_any x w
 have ht:Mil.tightOf x=1:=by
  rcases Ref.level_tight x with ⟨h1,_⟩|⟨h1,_⟩ <;> omega
 have HG:Hid (Ending.returned (.string (bs (Mil.brack (Mil.tight q) 1 (Mil.txt q))++bs Mil.blank++bs x++bs Mil.blank++bs (Mil.brack (Mil.tight r) 2 (Mil.txt r))))=.returned (.string (bs (Mil.txt (Mil.eTwo x q r))))):=by
  show _=_
  rw[bs_add,bs_add,bs_add,bs_add]
  show _=Ending.returned (.string (bs (Mil.brack (Mil.tight q) (Mil.leftOf (Mil.tightOf x)) (Mil.txt q)++Mil.blank++x++Mil.blank++Mil.brack (Mil.tight r) (Mil.tightOf x+1) (Mil.txt r))))
  rw[ht];rfl
 have s1:(bs (Mil.brack (Mil.tight q) 1 (Mil.txt q))).size<=24002:=by rw[bs_size];have:=Ref.brack_le (Mil.tight q) 1 (Mil.txt q);omega
 have s2:(bs (Mil.brack (Mil.tight r) 2 (Mil.txt r))).size<=24002:=by rw[bs_size];have:=Ref.brack_le (Mil.tight r) 2 (Mil.txt r);omega
 have s3:(bs x).size<=3:=by rw[bs_size];exact hl3
 have n1:¬9223372036854775807 < (bs (Mil.brack (Mil.tight q) 1 (Mil.txt q))).size+1:=by omega
 have n2:¬9223372036854775807 < (bs (Mil.brack (Mil.tight q) 1 (Mil.txt q))).size+1+(bs x).size:=by omega
 have n3:¬9223372036854775807 < (bs (Mil.brack (Mil.tight q) 1 (Mil.txt q))).size+1+(bs x).size+1:=by omega
 have n4:¬9223372036854775807 < (bs (Mil.brack (Mil.tight q) 1 (Mil.txt q))).size+1+(bs x).size+1+(bs (Mil.brack (Mil.tight r) 2 (Mil.txt r))).size:=by omega
 clear hq hr hx ht ha hb s1 s2 s3 hl3
 go_enter Tryz.func55,Tryz.ntmps55
 go_wp2_with fail
 clear c0 c1 c2 c3 c4 c5 c6 c7 d1 i1 i2
 have HP0:=hid (HP.out.below HB0.out)
 generalize hW:w.alloc (.cells #[.int .i64 ((5:Nat):Int),.string (bs x),.int .i64 (p:Nat),.int .i64 ((0:Nat):Int),.bool false,.int .i64 ((a:Nat):Int),.int .i64 ((b:Nat):Int),.int .i64 ((0:Nat):Int)] 195)=W at HB0 NC HP0 ⊢
 have BW:Hid (Below W.heap.size W W):=Below.refl _ _
 clear hW
 refine (LV.out _).mono ?_
 rintro e w0 ⟨rfl,hw⟩
 have hw':=hw.symm
 clear hw
 subst hw'
 have f5:W.cell? ⟨w.heap.size,5,none⟩=some (.int .i64 (a:Nat)):=NC.out W BW.out 5
 go_wp2_with fail
 clear f5
 refine (HQ.out _ (HP0.out.below BW.out)).mono ?_
 rintro r w1 ⟨rfl,hb⟩
 have Bw1:=hid (below_step BW.out hb)
 clear hb
 have f6:w1.cell? ⟨w.heap.size,6,none⟩=some (.int .i64 (b:Nat)):=NC.out w1 Bw1.out 6
 go_wp2_with fail
 clear f6
 refine (HR.out _ (HP0.out.below Bw1.out)).mono ?_
 rintro r w2 ⟨rfl,hb⟩
 have Bw2:=hid (below_step Bw1.out hb)
 clear hb
 have f1:w2.cell? ⟨w.heap.size,1,none⟩=some (.string (bs x)):=NC.out w2 Bw2.out 1
 generalize hXq:bs (Mil.brack (Mil.tight q) 1 (Mil.txt q))=Xq at HG n1 n2 n3 n4 ⊢
 clear hXq
 generalize hXr:bs (Mil.brack (Mil.tight r) 2 (Mil.txt r))=Xr at HG n4 ⊢
 clear hXr
 go_wp2_with fail
 all_goals go_ret
 exact⟨HG.out,below_step HB0.out Bw2.out⟩
theorem rt_two2 (B g:Nat) (iv nv:Value) (ns:List Ref.Nd) (i p:Nat) (a b:Nat) (x:Mil.Bytes) (q r:Mil.E) (hn:ns[i]?=some ⟨5,x,p,0,false,a,b,0⟩) (hx:Ref.level x=2) (hl3:x.length<=3) (ha:(Mil.txt q).length<=24000) (hb:(Mil.txt r).length<=24000) (hq:OR B g iv nv ns q a) (hr:OR B g iv nv ns r b):TR B g iv nv ns (Mil.eTwo x q r) i:=by
 intro w h
 have HP:=hid h
 have hl:=(lgs hn).1
 have i1:(0:Int)<=(i:Int):=by omega
 have i2:(i:Int) < (ns.length:Int):=by omega
 obtain⟨k,cp,hv,c0,c1,c2,c3,c4,c5,c6,c7⟩:=h.node8 hn
 have d1:=h.cells.2
 rw[hv] at d1
 have HB0:=bRow w #[.int .i64 ((5:Nat):Int),.string (bs x),.int .i64 (p:Nat),.int .i64 ((0:Nat):Int),.bool false,.int .i64 ((a:Nat):Int),.int .i64 ((b:Nat):Int),.int .i64 ((0:Nat):Int)] 195
 have hb0:=HB0.out
 have NC:=ncRow w #[.int .i64 ((5:Nat):Int),.string (bs x),.int .i64 (p:Nat),.int .i64 ((0:Nat):Int),.bool false,.int .i64 ((a:Nat):Int),.int .i64 ((b:Nat):Int),.int .i64 ((0:Nat):Int)] 195
 clear hv h hn hl hb0
 have HQ:Hid (∀w',PM B g iv nv ns w'->Calls Tryz.prog 98 #[.pointer (some ⟨g,0,none⟩),.int .i64 (a:Nat),.int .i64 2] w' (TxPost (Mil.brack (Mil.tight q) 2 (Mil.txt q)) w')):=fun w' h'=>hq 2 (by decide) w' h'
 have HR:Hid (∀w',PM B g iv nv ns w'->Calls Tryz.prog 98 #[.pointer (some ⟨g,0,none⟩),.int .i64 (b:Nat),.int .i64 3] w' (TxPost (Mil.brack (Mil.tight r) 3 (Mil.txt r)) w')):=fun w' h'=>hr 3 (by decide) w' h'
 have LV:Hid (∀w,Calls Tryz.prog 100 #[.string (bs x)] w fun e w'=>e=.returned (.int .i64 ((2:Nat):Int))/\w'=w):=fun w=>hx ▸ level_any x w
 have ht:Mil.tightOf x=2:=by
  rcases Ref.level_tight x with ⟨h1,_⟩|⟨h1,_⟩ <;> omega
 have HG:Hid (Ending.returned (.string (bs (Mil.brack (Mil.tight q) 2 (Mil.txt q))++bs Mil.blank++bs x++bs Mil.blank++bs (Mil.brack (Mil.tight r) 3 (Mil.txt r))))=.returned (.string (bs (Mil.txt (Mil.eTwo x q r))))):=by
  show _=_
  rw[bs_add,bs_add,bs_add,bs_add]
  show _=Ending.returned (.string (bs (Mil.brack (Mil.tight q) (Mil.leftOf (Mil.tightOf x)) (Mil.txt q)++Mil.blank++x++Mil.blank++Mil.brack (Mil.tight r) (Mil.tightOf x+1) (Mil.txt r))))
  rw[ht];rfl
 have s1:(bs (Mil.brack (Mil.tight q) 2 (Mil.txt q))).size<=24002:=by rw[bs_size];have:=Ref.brack_le (Mil.tight q) 2 (Mil.txt q);omega
 have s2:(bs (Mil.brack (Mil.tight r) 3 (Mil.txt r))).size<=24002:=by rw[bs_size];have:=Ref.brack_le (Mil.tight r) 3 (Mil.txt r);omega
 have s3:(bs x).size<=3:=by rw[bs_size];exact hl3
 have n1:¬9223372036854775807 < (bs (Mil.brack (Mil.tight q) 2 (Mil.txt q))).size+1:=by omega
 have n2:¬9223372036854775807 < (bs (Mil.brack (Mil.tight q) 2 (Mil.txt q))).size+1+(bs x).size:=by omega
 have n3:¬9223372036854775807 < (bs (Mil.brack (Mil.tight q) 2 (Mil.txt q))).size+1+(bs x).size+1:=by omega
 have n4:¬9223372036854775807 < (bs (Mil.brack (Mil.tight q) 2 (Mil.txt q))).size+1+(bs x).size+1+(bs (Mil.brack (Mil.tight r) 3 (Mil.txt r))).size:=by omega
 clear hq hr hx ht ha hb s1 s2 s3 hl3
 go_enter Tryz.func55,Tryz.ntmps55
 go_wp2_with fail
 clear c0 c1 c2 c3 c4 c5 c6 c7 d1 i1 i2
 have HP0:=hid (HP.out.below HB0.out)
 generalize hW:w.alloc (.cells #[.int .i64 ((5:Nat):Int),.string (bs x),.int .i64 (p:Nat),.int .i64 ((0:Nat):Int),.bool false,.int .i64 ((a:Nat):Int),.int .i64 ((b:Nat):Int),.int .i64 ((0:Nat):Int)] 195)=W at HB0 NC HP0 ⊢
 have BW:Hid (Below W.heap.size W W):=Below.refl _ _
 clear hW
 refine (LV.out _).mono ?_
 rintro e w0 ⟨rfl,hw⟩
 have hw':=hw.symm
 clear hw
 subst hw'
 have f5:W.cell? ⟨w.heap.size,5,none⟩=some (.int .i64 (a:Nat)):=NC.out W BW.out 5
 go_wp2_with fail
 clear f5
 refine (HQ.out _ (HP0.out.below BW.out)).mono ?_
 rintro r w1 ⟨rfl,hb⟩
 have Bw1:=hid (below_step BW.out hb)
 clear hb
 have f6:w1.cell? ⟨w.heap.size,6,none⟩=some (.int .i64 (b:Nat)):=NC.out w1 Bw1.out 6
 go_wp2_with fail
 clear f6
 refine (HR.out _ (HP0.out.below Bw1.out)).mono ?_
 rintro r w2 ⟨rfl,hb⟩
 have Bw2:=hid (below_step Bw1.out hb)
 clear hb
 have f1:w2.cell? ⟨w.heap.size,1,none⟩=some (.string (bs x)):=NC.out w2 Bw2.out 1
 generalize hXq:bs (Mil.brack (Mil.tight q) 2 (Mil.txt q))=Xq at HG n1 n2 n3 n4 ⊢
 clear hXq
 generalize hXr:bs (Mil.brack (Mil.tight r) 3 (Mil.txt r))=Xr at HG n4 ⊢
 clear hXr
 go_wp2_with fail
 all_goals go_ret
 exact⟨HG.out,below_step HB0.out Bw2.out⟩
theorem rt_two4 (B g:Nat) (iv nv:Value) (ns:List Ref.Nd) (i p:Nat) (a b:Nat) (x:Mil.Bytes) (q r:Mil.E) (hn:ns[i]?=some ⟨5,x,p,0,false,a,b,0⟩) (hx:Ref.level x=4) (hl3:x.length<=3) (ha:(Mil.txt q).length<=24000) (hb:(Mil.txt r).length<=24000) (hq:OR B g iv nv ns q a) (hr:OR B g iv nv ns r b):TR B g iv nv ns (Mil.eTwo x q r) i:=by
 intro w h
 have HP:=hid h
 have hl:=(lgs hn).1
 have i1:(0:Int)<=(i:Int):=by omega
 have i2:(i:Int) < (ns.length:Int):=by omega
 obtain⟨k,cp,hv,c0,c1,c2,c3,c4,c5,c6,c7⟩:=h.node8 hn
 have d1:=h.cells.2
 rw[hv] at d1
 have HB0:=bRow w #[.int .i64 ((5:Nat):Int),.string (bs x),.int .i64 (p:Nat),.int .i64 ((0:Nat):Int),.bool false,.int .i64 ((a:Nat):Int),.int .i64 ((b:Nat):Int),.int .i64 ((0:Nat):Int)] 195
 have hb0:=HB0.out
 have NC:=ncRow w #[.int .i64 ((5:Nat):Int),.string (bs x),.int .i64 (p:Nat),.int .i64 ((0:Nat):Int),.bool false,.int .i64 ((a:Nat):Int),.int .i64 ((b:Nat):Int),.int .i64 ((0:Nat):Int)] 195
 clear hv h hn hl hb0
 have HQ:Hid (∀w',PM B g iv nv ns w'->Calls Tryz.prog 98 #[.pointer (some ⟨g,0,none⟩),.int .i64 (a:Nat),.int .i64 5] w' (TxPost (Mil.brack (Mil.tight q) 5 (Mil.txt q)) w')):=fun w' h'=>hq 5 (by decide) w' h'
 have HR:Hid (∀w',PM B g iv nv ns w'->Calls Tryz.prog 98 #[.pointer (some ⟨g,0,none⟩),.int .i64 (b:Nat),.int .i64 5] w' (TxPost (Mil.brack (Mil.tight r) 5 (Mil.txt r)) w')):=fun w' h'=>hr 5 (by decide) w' h'
 have LV:Hid (∀w,Calls Tryz.prog 100 #[.string (bs x)] w fun e w'=>e=.returned (.int .i64 ((4:Nat):Int))/\w'=w):=fun w=>hx ▸ level_any x w
 have ht:Mil.tightOf x=4:=by
  rcases Ref.level_tight x with ⟨h1,_⟩|⟨h1,_⟩ <;> omega
 have HG:Hid (Ending.returned (.string (bs (Mil.brack (Mil.tight q) 5 (Mil.txt q))++bs Mil.blank++bs x++bs Mil.blank++bs (Mil.brack (Mil.tight r) 5 (Mil.txt r))))=.returned (.string (bs (Mil.txt (Mil.eTwo x q r))))):=by
  show _=_
  rw[bs_add,bs_add,bs_add,bs_add]
  show _=Ending.returned (.string (bs (Mil.brack (Mil.tight q) (Mil.leftOf (Mil.tightOf x)) (Mil.txt q)++Mil.blank++x++Mil.blank++Mil.brack (Mil.tight r) (Mil.tightOf x+1) (Mil.txt r))))
  rw[ht];rfl
 have s1:(bs (Mil.brack (Mil.tight q) 5 (Mil.txt q))).size<=24002:=by rw[bs_size];have:=Ref.brack_le (Mil.tight q) 5 (Mil.txt q);omega
 have s2:(bs (Mil.brack (Mil.tight r) 5 (Mil.txt r))).size<=24002:=by rw[bs_size];have:=Ref.brack_le (Mil.tight r) 5 (Mil.txt r);omega
 have s3:(bs x).size<=3:=by rw[bs_size];exact hl3
 have n1:¬9223372036854775807 < (bs (Mil.brack (Mil.tight q) 5 (Mil.txt q))).size+1:=by omega
 have n2:¬9223372036854775807 < (bs (Mil.brack (Mil.tight q) 5 (Mil.txt q))).size+1+(bs x).size:=by omega
 have n3:¬9223372036854775807 < (bs (Mil.brack (Mil.tight q) 5 (Mil.txt q))).size+1+(bs x).size+1:=by omega
 have n4:¬9223372036854775807 < (bs (Mil.brack (Mil.tight q) 5 (Mil.txt q))).size+1+(bs x).size+1+(bs (Mil.brack (Mil.tight r) 5 (Mil.txt r))).size:=by omega
 clear hq hr hx ht ha hb s1 s2 s3 hl3
 go_enter Tryz.func55,Tryz.ntmps55
 go_wp2_with fail
 clear c0 c1 c2 c3 c4 c5 c6 c7 d1 i1 i2
 have HP0:=hid (HP.out.below HB0.out)
 generalize hW:w.alloc (.cells #[.int .i64 ((5:Nat):Int),.string (bs x),.int .i64 (p:Nat),.int .i64 ((0:Nat):Int),.bool false,.int .i64 ((a:Nat):Int),.int .i64 ((b:Nat):Int),.int .i64 ((0:Nat):Int)] 195)=W at HB0 NC HP0 ⊢
 have BW:Hid (Below W.heap.size W W):=Below.refl _ _
 clear hW
 refine (LV.out _).mono ?_
 rintro e w0 ⟨rfl,hw⟩
 have hw':=hw.symm
 clear hw
 subst hw'
 have f5:W.cell? ⟨w.heap.size,5,none⟩=some (.int .i64 (a:Nat)):=NC.out W BW.out 5
 go_wp2_with fail
 clear f5
 refine (HQ.out _ (HP0.out.below BW.out)).mono ?_
 rintro r w1 ⟨rfl,hb⟩
 have Bw1:=hid (below_step BW.out hb)
 clear hb
 have f6:w1.cell? ⟨w.heap.size,6,none⟩=some (.int .i64 (b:Nat)):=NC.out w1 Bw1.out 6
 go_wp2_with fail
 clear f6
 refine (HR.out _ (HP0.out.below Bw1.out)).mono ?_
 rintro r w2 ⟨rfl,hb⟩
 have Bw2:=hid (below_step Bw1.out hb)
 clear hb
 have f1:w2.cell? ⟨w.heap.size,1,none⟩=some (.string (bs x)):=NC.out w2 Bw2.out 1
 generalize hXq:bs (Mil.brack (Mil.tight q) 5 (Mil.txt q))=Xq at HG n1 n2 n3 n4 ⊢
 clear hXq
 generalize hXr:bs (Mil.brack (Mil.tight r) 5 (Mil.txt r))=Xr at HG n4 ⊢
 clear hXr
 go_wp2_with fail
 all_goals go_ret
 exact⟨HG.out,below_step HB0.out Bw2.out⟩
theorem rt_two5 (B g:Nat) (iv nv:Value) (ns:List Ref.Nd) (i p:Nat) (a b:Nat) (x:Mil.Bytes) (q r:Mil.E) (hn:ns[i]?=some ⟨5,x,p,0,false,a,b,0⟩) (hx:Ref.level x=5) (hl3:x.length<=3) (ha:(Mil.txt q).length<=24000) (hb:(Mil.txt r).length<=24000) (hq:OR B g iv nv ns q a) (hr:OR B g iv nv ns r b):TR B g iv nv ns (Mil.eTwo x q r) i:=by
 intro w h
 have HP:=hid h
 have hl:=(lgs hn).1
 have i1:(0:Int)<=(i:Int):=by omega
 have i2:(i:Int) < (ns.length:Int):=by omega
 obtain⟨k,cp,hv,c0,c1,c2,c3,c4,c5,c6,c7⟩:=h.node8 hn
 have d1:=h.cells.2
 rw[hv] at d1
 have HB0:=bRow w #[.int .i64 ((5:Nat):Int),.string (bs x),.int .i64 (p:Nat),.int .i64 ((0:Nat):Int),.bool false,.int .i64 ((a:Nat):Int),.int .i64 ((b:Nat):Int),.int .i64 ((0:Nat):Int)] 195
 have hb0:=HB0.out
 have NC:=ncRow w #[.int .i64 ((5:Nat):Int),.string (bs x),.int .i64 (p:Nat),.int .i64 ((0:Nat):Int),.bool false,.int .i64 ((a:Nat):Int),.int .i64 ((b:Nat):Int),.int .i64 ((0:Nat):Int)] 195
 clear hv h hn hl hb0
 have HQ:Hid (∀w',PM B g iv nv ns w'->Calls Tryz.prog 98 #[.pointer (some ⟨g,0,none⟩),.int .i64 (a:Nat),.int .i64 5] w' (TxPost (Mil.brack (Mil.tight q) 5 (Mil.txt q)) w')):=fun w' h'=>hq 5 (by decide) w' h'
 have HR:Hid (∀w',PM B g iv nv ns w'->Calls Tryz.prog 98 #[.pointer (some ⟨g,0,none⟩),.int .i64 (b:Nat),.int .i64 6] w' (TxPost (Mil.brack (Mil.tight r) 6 (Mil.txt r)) w')):=fun w' h'=>hr 6 (by decide) w' h'
 have LV:Hid (∀w,Calls Tryz.prog 100 #[.string (bs x)] w fun e w'=>e=.returned (.int .i64 ((5:Nat):Int))/\w'=w):=fun w=>hx ▸ level_any x w
 have ht:Mil.tightOf x=5:=by
  rcases Ref.level_tight x with ⟨h1,_⟩|⟨h1,_⟩ <;> omega
 have HG:Hid (Ending.returned (.string (bs (Mil.brack (Mil.tight q) 5 (Mil.txt q))++bs Mil.blank++bs x++bs Mil.blank++bs (Mil.brack (Mil.tight r) 6 (Mil.txt r))))=.returned (.string (bs (Mil.txt (Mil.eTwo x q r))))):=by
  show _=_
  rw[bs_add,bs_add,bs_add,bs_add]
  show _=Ending.returned (.string (bs (Mil.brack (Mil.tight q) (Mil.leftOf (Mil.tightOf x)) (Mil.txt q)++Mil.blank++x++Mil.blank++Mil.brack (Mil.tight r) (Mil.tightOf x+1) (Mil.txt r))))
  rw[ht];rfl
 have s1:(bs (Mil.brack (Mil.tight q) 5 (Mil.txt q))).size<=24002:=by rw[bs_size];have:=Ref.brack_le (Mil.tight q) 5 (Mil.txt q);omega
 have s2:(bs (Mil.brack (Mil.tight r) 6 (Mil.txt r))).size<=24002:=by rw[bs_size];have:=Ref.brack_le (Mil.tight r) 6 (Mil.txt r);omega
 have s3:(bs x).size<=3:=by rw[bs_size];exact hl3
 have n1:¬9223372036854775807 < (bs (Mil.brack (Mil.tight q) 5 (Mil.txt q))).size+1:=by omega
 have n2:¬9223372036854775807 < (bs (Mil.brack (Mil.tight q) 5 (Mil.txt q))).size+1+(bs x).size:=by omega
 have n3:¬9223372036854775807 < (bs (Mil.brack (Mil.tight q) 5 (Mil.txt q))).size+1+(bs x).size+1:=by omega
 have n4:¬9223372036854775807 < (bs (Mil.brack (Mil.tight q) 5 (Mil.txt q))).size+1+(bs x).size+1+(bs (Mil.brack (Mil.tight r) 6 (Mil.txt r))).size:=by omega
 clear hq hr hx ht ha hb s1 s2 s3 hl3
 go_enter Tryz.func55,Tryz.ntmps55
 go_wp2_with fail
 clear c0 c1 c2 c3 c4 c5 c6 c7 d1 i1 i2
 have HP0:=hid (HP.out.below HB0.out)
 generalize hW:w.alloc (.cells #[.int .i64 ((5:Nat):Int),.string (bs x),.int .i64 (p:Nat),.int .i64 ((0:Nat):Int),.bool false,.int .i64 ((a:Nat):Int),.int .i64 ((b:Nat):Int),.int .i64 ((0:Nat):Int)] 195)=W at HB0 NC HP0 ⊢
 have BW:Hid (Below W.heap.size W W):=Below.refl _ _
 clear hW
 refine (LV.out _).mono ?_
 rintro e w0 ⟨rfl,hw⟩
 have hw':=hw.symm
 clear hw
 subst hw'
 have f5:W.cell? ⟨w.heap.size,5,none⟩=some (.int .i64 (a:Nat)):=NC.out W BW.out 5
 go_wp2_with fail
 clear f5
 refine (HQ.out _ (HP0.out.below BW.out)).mono ?_
 rintro r w1 ⟨rfl,hb⟩
 have Bw1:=hid (below_step BW.out hb)
 clear hb
 have f6:w1.cell? ⟨w.heap.size,6,none⟩=some (.int .i64 (b:Nat)):=NC.out w1 Bw1.out 6
 go_wp2_with fail
 clear f6
 refine (HR.out _ (HP0.out.below Bw1.out)).mono ?_
 rintro r w2 ⟨rfl,hb⟩
 have Bw2:=hid (below_step Bw1.out hb)
 clear hb
 have f1:w2.cell? ⟨w.heap.size,1,none⟩=some (.string (bs x)):=NC.out w2 Bw2.out 1
 generalize hXq:bs (Mil.brack (Mil.tight q) 5 (Mil.txt q))=Xq at HG n1 n2 n3 n4 ⊢
 clear hXq
 generalize hXr:bs (Mil.brack (Mil.tight r) 6 (Mil.txt r))=Xr at HG n4 ⊢
 clear hXr
 go_wp2_with fail
 all_goals go_ret
 exact⟨HG.out,below_step HB0.out Bw2.out⟩
theorem rt_two6 (B g:Nat) (iv nv:Value) (ns:List Ref.Nd) (i p:Nat) (a b:Nat) (x:Mil.Bytes) (q r:Mil.E) (hn:ns[i]?=some ⟨5,x,p,0,false,a,b,0⟩) (hx:Ref.level x=6) (hl3:x.length<=3) (ha:(Mil.txt q).length<=24000) (hb:(Mil.txt r).length<=24000) (hq:OR B g iv nv ns q a) (hr:OR B g iv nv ns r b):TR B g iv nv ns (Mil.eTwo x q r) i:=by
 intro w h
 have HP:=hid h
 have hl:=(lgs hn).1
 have i1:(0:Int)<=(i:Int):=by omega
 have i2:(i:Int) < (ns.length:Int):=by omega
 obtain⟨k,cp,hv,c0,c1,c2,c3,c4,c5,c6,c7⟩:=h.node8 hn
 have d1:=h.cells.2
 rw[hv] at d1
 have HB0:=bRow w #[.int .i64 ((5:Nat):Int),.string (bs x),.int .i64 (p:Nat),.int .i64 ((0:Nat):Int),.bool false,.int .i64 ((a:Nat):Int),.int .i64 ((b:Nat):Int),.int .i64 ((0:Nat):Int)] 195
 have hb0:=HB0.out
 have NC:=ncRow w #[.int .i64 ((5:Nat):Int),.string (bs x),.int .i64 (p:Nat),.int .i64 ((0:Nat):Int),.bool false,.int .i64 ((a:Nat):Int),.int .i64 ((b:Nat):Int),.int .i64 ((0:Nat):Int)] 195
 clear hv h hn hl hb0
 have HQ:Hid (∀w',PM B g iv nv ns w'->Calls Tryz.prog 98 #[.pointer (some ⟨g,0,none⟩),.int .i64 (a:Nat),.int .i64 6] w' (TxPost (Mil.brack (Mil.tight q) 6 (Mil.txt q)) w')):=fun w' h'=>hq 6 (by decide) w' h'
 have HR:Hid (∀w',PM B g iv nv ns w'->Calls Tryz.prog 98 #[.pointer (some ⟨g,0,none⟩),.int .i64 (b:Nat),.int .i64 7] w' (TxPost (Mil.brack (Mil.tight r) 7 (Mil.txt r)) w')):=fun w' h'=>hr 7 (by decide) w' h'
 have LV:Hid (∀w,Calls Tryz.prog 100 #[.string (bs x)] w fun e w'=>e=.returned (.int .i64 ((6:Nat):Int))/\w'=w):=fun w=>hx ▸ level_any x w
 have ht:Mil.tightOf x=6:=by
  rcases Ref.level_tight x with ⟨h1,_⟩|⟨h1,_⟩ <;> omega
 have HG:Hid (Ending.returned (.string (bs (Mil.brack (Mil.tight q) 6 (Mil.txt q))++bs Mil.blank++bs x++bs Mil.blank++bs (Mil.brack (Mil.tight r) 7 (Mil.txt r))))=.returned (.string (bs (Mil.txt (Mil.eTwo x q r))))):=by
  show _=_
  rw[bs_add,bs_add,bs_add,bs_add]
  show _=Ending.returned (.string (bs (Mil.brack (Mil.tight q) (Mil.leftOf (Mil.tightOf x)) (Mil.txt q)++Mil.blank++x++Mil.blank++Mil.brack (Mil.tight r) (Mil.tightOf x+1) (Mil.txt r))))
  rw[ht];rfl
 have s1:(bs (Mil.brack (Mil.tight q) 6 (Mil.txt q))).size<=24002:=by rw[bs_size];have:=Ref.brack_le (Mil.tight q) 6 (Mil.txt q);omega
 have s2:(bs (Mil.brack (Mil.tight r) 7 (Mil.txt r))).size<=24002:=by rw[bs_size];have:=Ref.brack_le (Mil.tight r) 7 (Mil.txt r);omega
 have s3:(bs x).size<=3:=by rw[bs_size];exact hl3
 have n1:¬9223372036854775807 < (bs (Mil.brack (Mil.tight q) 6 (Mil.txt q))).size+1:=by omega
 have n2:¬9223372036854775807 < (bs (Mil.brack (Mil.tight q) 6 (Mil.txt q))).size+1+(bs x).size:=by omega
 have n3:¬9223372036854775807 < (bs (Mil.brack (Mil.tight q) 6 (Mil.txt q))).size+1+(bs x).size+1:=by omega
 have n4:¬9223372036854775807 < (bs (Mil.brack (Mil.tight q) 6 (Mil.txt q))).size+1+(bs x).size+1+(bs (Mil.brack (Mil.tight r) 7 (Mil.txt r))).size:=by omega
 clear hq hr hx ht ha hb s1 s2 s3 hl3
 go_enter Tryz.func55,Tryz.ntmps55
 go_wp2_with fail
 clear c0 c1 c2 c3 c4 c5 c6 c7 d1 i1 i2
 have HP0:=hid (HP.out.below HB0.out)
 generalize hW:w.alloc (.cells #[.int .i64 ((5:Nat):Int),.string (bs x),.int .i64 (p:Nat),.int .i64 ((0:Nat):Int),.bool false,.int .i64 ((a:Nat):Int),.int .i64 ((b:Nat):Int),.int .i64 ((0:Nat):Int)] 195)=W at HB0 NC HP0 ⊢
 have BW:Hid (Below W.heap.size W W):=Below.refl _ _
 clear hW
 refine (LV.out _).mono ?_
 rintro e w0 ⟨rfl,hw⟩
 have hw':=hw.symm
 clear hw
 subst hw'
 have f5:W.cell? ⟨w.heap.size,5,none⟩=some (.int .i64 (a:Nat)):=NC.out W BW.out 5
 go_wp2_with fail
 clear f5
 refine (HQ.out _ (HP0.out.below BW.out)).mono ?_
 rintro r w1 ⟨rfl,hb⟩
 have Bw1:=hid (below_step BW.out hb)
 clear hb
 have f6:w1.cell? ⟨w.heap.size,6,none⟩=some (.int .i64 (b:Nat)):=NC.out w1 Bw1.out 6
 go_wp2_with fail
 clear f6
 refine (HR.out _ (HP0.out.below Bw1.out)).mono ?_
 rintro r w2 ⟨rfl,hb⟩
 have Bw2:=hid (below_step Bw1.out hb)
 clear hb
 have f1:w2.cell? ⟨w.heap.size,1,none⟩=some (.string (bs x)):=NC.out w2 Bw2.out 1
 generalize hXq:bs (Mil.brack (Mil.tight q) 6 (Mil.txt q))=Xq at HG n1 n2 n3 n4 ⊢
 clear hXq
 generalize hXr:bs (Mil.brack (Mil.tight r) 7 (Mil.txt r))=Xr at HG n4 ⊢
 clear hXr
 go_wp2_with fail
 all_goals go_ret
 exact⟨HG.out,below_step HB0.out Bw2.out⟩
theorem operand_any (B g:Nat) (iv nv:Value) (ns:List Ref.Nd) (i:Nat) (e:Mil.E) (n:Ref.Nd) (hn:ns[i]?=some n) (hb:∀k,k<=7->(Ref.bindsOf n < k↔Mil.tight e < k)) (hl:(Mil.txt e).length<=24000) (ht:TR B g iv nv ns e i):OR B g iv nv ns e i:=by
 intro lv hlv w h
 have HP:=hid h
 have HT:=hid ht
 obtain⟨kd,t,p,v,ng,a,b,c⟩:=n
 have hll:=(lgs hn).1
 have i1:(0:Int)<=(i:Int):=by omega
 have i2:(i:Int) < (ns.length:Int):=by omega
 have BV:Hid (∀w,Calls Tryz.prog 99 #[.agg #[.int .i64 (kd:Nat),.string (bs t),.int .i64 (p:Nat),.int .i64 (v:Nat),.bool ng,.int .i64 (a:Nat),.int .i64 (b:Nat),.int .i64 (c:Nat)]] w fun e w'=>e=.returned (.int .i64 ((Ref.bindsOf ⟨kd,t,p,v,ng,a,b,c⟩:Nat):Int))/\Below w.heap.size w w'):=fun w=>binds_any ⟨kd,t,p,v,ng,a,b,c⟩ w
 have hbb:=hb lv hlv
 generalize Ref.bindsOf ⟨kd,t,p,v,ng,a,b,c⟩=bo at BV hbb
 have HN:=hid hn
 have hs:(bs (Mil.txt e)).size<=24000:=by rw[bs_size];exact hl
 have n1:¬9223372036854775807 < 1+(bs (Mil.txt e)).size:=by omega
 have n2:¬9223372036854775807 < 1+(bs (Mil.txt e)).size+1:=by omega
 have HG:Hid (Ending.returned (.string (bs Mil.sOpen++bs (Mil.txt e)++bs Mil.sShut))=.returned (.string (bs (Mil.sOpen++Mil.txt e++Mil.sShut)))):=by
  show _=_
  rw[bs_add,bs_add]
 clear hn h ht hl hll hb hs hlv
 go_enter Tryz.func98,Tryz.ntmps98
 go_wp2_with fail
 refine (HT.out _ HP.out).mono ?_
 rintro r w1 ⟨rfl,hb1⟩
 have HB1:=hid hb1
 obtain⟨k,cp,hv,c0,c1,c2,c3,c4,c5,c6,c7⟩:=(HP.out.below hb1).node8 HN.out
 have d1:=(HP.out.below hb1).cells.2
 rw[hv] at d1
 clear hv hb1
 go_wp2_with fail
 refine (BV.out _).mono ?_
 rintro r w2 ⟨rfl,hb2⟩
 have HB2:=hid (below_step HB1.out hb2)
 clear hb2 c0 c1 c2 c3 c4 c5 c6 c7 d1 i1 i2
 generalize hX:bs (Mil.txt e)=X at HG n1 n2 ⊢
 have HX:=hid hX
 clear hX
 by_cases hlt:bo < lv
 ·have q:((bo:Int) < (lv:Int))=True:=by simp;omega
  have HE:Hid (Mil.brack (Mil.tight e) lv (Mil.txt e)=Mil.sOpen++Mil.txt e++Mil.sShut):=by
   show _=_
   unfold Mil.brack
   rw[if_pos (hbb.1 hlt)]
  clear hbb hlt
  go_wp2_with fail
  all_goals go_ret
  refine⟨?_,HB2.out⟩
  rw[HE.out]
  exact HG.out
 ·have q:((bo:Int) < (lv:Int))=False:=by simp;omega
  have HE:Hid (Mil.brack (Mil.tight e) lv (Mil.txt e)=Mil.txt e):=by
   show _=_
   unfold Mil.brack
   rw[if_neg (fun h=>hlt (hbb.2 h))]
  clear hbb hlt
  go_wp2_with fail
  all_goals go_ret
  refine⟨?_,HB2.out⟩
  rw[HE.out,HX.out];rfl
end
section
open Go.RowKit
namespace Ref
open Mil
theorem binds_tight {ns:List Nd} {e:E} {i:Nat} (hw:wf e false) (h:Has ns e i):∃n,ns[i]?=some n/\∀k,k<=7->(bindsOf n < k↔Mil.tight e < k):=by
 obtain⟨hl,hr⟩:=h
 cases e with
 | nil=>exact hw.elim
 | node t k x a b=>
  rcases hr with ⟨c,_⟩|⟨c,p,d⟩|⟨c,p,d⟩|⟨c,p,d⟩|⟨c,c2,p,v,d1,d2⟩|⟨c,p,a',d1,_⟩|⟨c,p,a',d1,_⟩|⟨c,p,a',b',c',d1,_⟩|⟨p,a',b',y,v,c,d1,_⟩
  ·subst c
   rcases hw with ⟨e,_⟩|⟨e,_⟩|⟨e,_⟩|⟨e,_⟩|⟨e,_⟩|⟨e,_⟩|⟨e,_⟩|⟨e,_⟩|⟨e,_⟩|⟨e,_⟩ <;> cases e
  ·subst c;exact⟨_,d,fun k _=>Iff.rfl⟩
  ·subst c;exact⟨_,d,fun k _=>Iff.rfl⟩
  ·subst c;exact⟨_,d,fun k _=>Iff.rfl⟩
  ·subst c;subst c2
   refine⟨_,d2,fun l hk=>?_⟩
   have e1:bindsOf ⟨1,[],p,v,true,0,0,0⟩=8:=rfl
   have e2:Mil.tight (.node 4 k sMinus a b)=7:=rfl
   omega
  ·subst c
   refine⟨_,d1,fun k _=>?_⟩
   exact Iff.rfl
  ·subst c;exact⟨_,d1,fun k _=>Iff.rfl⟩
  ·subst c;exact⟨_,d1,fun k _=>Iff.rfl⟩
  ·refine⟨_,d1,fun k _=>?_⟩
   rcases c with ⟨rfl,rfl,rfl⟩|⟨rfl,rfl,rfl⟩|⟨rfl,rfl,rfl⟩|⟨rfl,rfl,rfl⟩
   ·have ht:tightOf y≠9:=by
     rcases hw with ⟨e,_⟩|⟨e,_⟩|⟨e,_⟩|⟨e,_⟩|⟨_,_,e,_⟩|⟨e,_⟩|⟨e,_⟩|⟨e,_⟩|⟨e,_⟩|⟨e,_⟩
     all_goals first|cases e|exact e
    show level y < k↔tightOf y < k
    rcases level_tight y with ⟨h1,_⟩|⟨_,h1⟩
    ·rw[h1]
    ·exact absurd h1 ht
   ·exact Iff.rfl
   ·exact Iff.rfl
   ·exact Iff.rfl
theorem brackT_le (t l:Nat) (x:List Tok):x.length<=(brackT t l x).length:=by
 unfold brackT
 split
 ·simp;omega
 ·exact Nat.le_refl _
end Ref
def PX (B g:Nat) (iv nv:Value) (ns:List Ref.Nd) (e:Mil.E):Prop:=∀i,Ref.Has ns e i->(Mil.toks e).length<=600->TR B g iv nv ns e i/\OR B g iv nv ns e i
theorem px_of {B g:Nat} {iv nv:Value} {ns:List Ref.Nd} {e:Mil.E} (hw:Mil.wf e false) (h:∀i,Ref.Has ns e i->(Mil.toks e).length<=600->TR B g iv nv ns e i):PX B g iv nv ns e:=by
 intro i hi ht
 have t:=h i hi ht
 obtain⟨n,hn,hb⟩:=Ref.binds_tight hw hi
 have hl:=Mil.txt_len e hw
 exact⟨t,operand_any B g iv nv ns i e n hn hb (by omega) t⟩
theorem rx_short {e:Mil.E} (hw:Mil.wf e false) (h:(Mil.toks e).length<=600):(Mil.txt e).length<=24000:=by
 have:=Mil.txt_len e hw
 omega
theorem px_int (B g:Nat) (iv nv:Value) (ns:List Ref.Nd) (k:Nat) (hk:(k:Int)<=Mil.maxInt):PX B g iv nv ns (Mil.eInt k):=by
 refine px_of (Or.inl ⟨rfl,rfl,hk,rfl,rfl⟩) (fun i hi _=>?_)
 have hr:=hi.2
 rcases hr with ⟨c,_⟩|⟨_,p,d⟩|⟨c,_⟩|⟨c,_⟩|⟨c,_⟩|⟨c,_⟩|⟨c,_⟩|⟨c,_⟩|⟨_,_,_,_,_,c,_⟩
 case inr.inl=>exact rt_int B g iv nv ns i p k d (by unfold Mil.maxInt at hk;omega)
 all_goals first|exact absurd c (by decide)|(rcases c with ⟨c,_⟩|⟨c,_⟩|⟨c,_⟩|⟨c,_⟩ <;> exact absurd c (by decide))
theorem px_bool (B g:Nat) (iv nv:Value) (ns:List Ref.Nd) (k:Nat) (hk:k=0\/k=1):PX B g iv nv ns (Mil.eBool k):=by
 refine px_of (Or.inr (Or.inl ⟨rfl,rfl,hk,rfl,rfl⟩)) (fun i hi _=>?_)
 have hr:=hi.2
 rcases hr with ⟨c,_⟩|⟨c,_⟩|⟨_,p,d⟩|⟨c,_⟩|⟨c,_⟩|⟨c,_⟩|⟨c,_⟩|⟨c,_⟩|⟨_,_,_,_,_,c,_⟩
 case inr.inr.inl=>
  rcases hk with rfl|rfl
  ·exact rt_false B g iv nv ns i p d
  ·exact rt_true B g iv nv ns i p d
 all_goals first|exact absurd c (by decide)|(rcases c with ⟨c,_⟩|⟨c,_⟩|⟨c,_⟩|⟨c,_⟩ <;> exact absurd c (by decide))
theorem px_pre (B g:Nat) (iv nv:Value) (ns:List Ref.Nd) (x:Mil.Bytes) (a:Mil.E) (hx:x=Mil.wNot\/x=Mil.sMinus) (hw:Mil.wf a false) (ha:PX B g iv nv ns a):PX B g iv nv ns (Mil.ePre x a):=by
 have hwf:Mil.wf (Mil.ePre x a) false:=Or.inr (Or.inr (Or.inr (Or.inl ⟨rfl,rfl,hx,hw,rfl⟩)))
 refine px_of hwf (fun i hi ht=>?_)
 have hta:(Mil.toks a).length<=600:=by
  have h1:(Mil.toks (Mil.ePre x a)).length=(Mil.brackT (Mil.tight a) (Mil.preLvl x) (Mil.toks a)).length+1:=rfl
  have:=Ref.brackT_le (Mil.tight a) (Mil.preLvl x) (Mil.toks a)
  omega
 have hr:=hi.2
 rcases hr with ⟨c,_⟩|⟨c,_⟩|⟨c,_⟩|⟨c,_⟩|⟨_,c2,p,v,d1,d2⟩|⟨_,p,a',d1,d2,d3⟩|⟨c,_⟩|⟨c,_⟩|⟨_,_,_,_,_,c,_⟩
 case inr.inr.inr.inr.inl=>
  subst d1
  subst c2
  have hv:(v:Int)<=Mil.maxInt:=by
   rcases hw with ⟨_,_,h,_⟩|⟨h,_⟩|⟨h,_⟩|⟨h,_⟩|⟨h,_⟩|⟨h,_⟩|⟨h,_⟩|⟨h,_⟩|⟨h,_⟩|⟨h,_⟩
   all_goals first|cases h;done|exact h
  exact rt_neg B g iv nv ns i p v d2 (by unfold Mil.maxInt at hv;omega)
 case inr.inr.inr.inr.inr.inl=>
  have hha:Ref.Has ns a a':=⟨by have:=hi.1;omega,d3⟩
  have ho:=(ha a' hha hta).2
  rcases hx with rfl|rfl
  ·exact rt_not B g iv nv ns i p a' a d1 (rx_short hw hta) ho
  ·exact rt_minus B g iv nv ns i p a' a d1 (rx_short hw hta) ho
 all_goals first|exact absurd c (by decide)|(rcases c with ⟨c,_⟩|⟨c,_⟩|⟨c,_⟩|⟨c,_⟩ <;> exact absurd c (by decide))
theorem px_const (B g:Nat) (iv nv:Value) (ns:List Ref.Nd) (c:Mil.E) (h:Mil.isConst c):PX B g iv nv ns c:=by
 rcases h with ⟨k,hk,rfl⟩|⟨k,hk,rfl⟩|⟨k,hk,rfl⟩
 ·exact px_int B g iv nv ns k hk
 ·exact px_bool B g iv nv ns k hk
 ·exact px_pre B g iv nv ns _ _ (Or.inr rfl) (Or.inl ⟨rfl,rfl,hk,rfl,rfl⟩) (px_int B g iv nv ns k hk)
theorem two_parts {ns:List Ref.Nd} {t k:Nat} {x:Mil.Bytes} {a b:Mil.E} {i:Nat} (ht:t=5\/t=7\/t=9\/t=10) (h:Ref.Has ns (.node t k x a b) i) :
  ∃p a' b' y v,((t=5/\y=x/\v=0)\/(t=7/\y=Mil.wFby/\v=0)\/(t=9/\y=Mil.wHold/\v=k)\/(t=10/\y=x/\v=0))/\ns[i]?=some ⟨t,y,p,v,false,a',b',0⟩/\Ref.Has ns a a'/\Ref.Has ns b b':=by
 obtain⟨hl,hr⟩:=h
 rcases hr with ⟨c,_⟩|⟨c,_⟩|⟨c,_⟩|⟨c,_⟩|⟨c,_⟩|⟨c,_⟩|⟨c,_⟩|⟨c,_⟩|⟨p,a',b',y,v,c,d1,d2,d3,d4,d5⟩
 case inr.inr.inr.inr.inr.inr.inr.inr=>exact⟨p,a',b',y,v,c,d1,⟨by omega,d4⟩,⟨by omega,d5⟩⟩
 all_goals omega
theorem px_all (B g:Nat) (iv nv:Value) (ns:List Ref.Nd):∀e:Mil.E,Mil.wf e false->PX B g iv nv ns e:=by
 refine Mil.wf_induct (px_int B g iv nv ns) (px_bool B g iv nv ns) ?_ (px_pre B g iv nv ns) ?_ ?_ ?_ ?_ ?_ ?_
 ·intro x hx
  refine px_of (Or.inr (Or.inr (Or.inl ⟨rfl,rfl,hx,rfl,rfl⟩))) (fun i hi _=>?_)
  have hr:=hi.2
  rcases hr with ⟨c,_⟩|⟨c,_⟩|⟨c,_⟩|⟨_,p,d⟩|⟨c,_⟩|⟨c,_⟩|⟨c,_⟩|⟨c,_⟩|⟨_,_,_,_,_,c,_⟩
  case inr.inr.inr.inl=>exact rt_name B g iv nv ns i p x d
  all_goals first|exact absurd c (by decide)|(rcases c with ⟨c,_⟩|⟨c,_⟩|⟨c,_⟩|⟨c,_⟩ <;> exact absurd c (by decide))
 ·intro x a b hx hwa hwb ha hb
  refine px_of (Or.inr (Or.inr (Or.inr (Or.inr (Or.inl ⟨rfl,rfl,hx,hwa,hwb⟩))))) (fun i hi ht=>?_)
  have h1:(Mil.toks (Mil.eTwo x a b)).length=(Mil.brackT (Mil.tight a) (Mil.leftOf (Mil.tightOf x)) (Mil.toks a)).length+((Mil.brackT (Mil.tight b) (Mil.tightOf x+1) (Mil.toks b)).length+1):=by
   show (Mil.brackT (Mil.tight a) (Mil.leftOf (Mil.tightOf x)) (Mil.toks a)++Mil.fix x::Mil.brackT (Mil.tight b) (Mil.tightOf x+1) (Mil.toks b)).length=_
   rw[List.length_append,List.length_cons]
  have l1:=Ref.brackT_le (Mil.tight a) (Mil.leftOf (Mil.tightOf x)) (Mil.toks a)
  have l2:=Ref.brackT_le (Mil.tight b) (Mil.tightOf x+1) (Mil.toks b)
  have ta:(Mil.toks a).length<=600:=by omega
  have tb:(Mil.toks b).length<=600:=by omega
  obtain⟨p,a',b',y,v,c,d1,d2,d3⟩:=two_parts (Or.inl rfl) hi
  obtain⟨rfl,rfl⟩:y=x/\v=0:=by
   rcases c with ⟨_,c⟩|⟨c,_⟩|⟨c,_⟩|⟨c,_⟩
   ·exact c
   ·cases c
   ·cases c
   ·cases c
  have hoa:=(ha a' d2 ta).2
  have hob:=(hb b' d3 tb).2
  have s1:=rx_short hwa ta
  have s2:=rx_short hwb tb
  have s3:=Mil.op_len hx
  have hlv:Ref.level y=1\/Ref.level y=2\/Ref.level y=4\/Ref.level y=5\/Ref.level y=6:=by
   have:=Mil.tightOf_cases y
   rcases Ref.level_tight y with ⟨h1,_⟩|⟨_,h1⟩
   ·omega
   ·exact absurd h1 hx
  rcases hlv with hlv|hlv|hlv|hlv|hlv
  ·exact rt_two1 B g iv nv ns i p a' b' y a b d1 hlv s3 s1 s2 hoa hob
  ·exact rt_two2 B g iv nv ns i p a' b' y a b d1 hlv s3 s1 s2 hoa hob
  ·exact rt_two4 B g iv nv ns i p a' b' y a b d1 hlv s3 s1 s2 hoa hob
  ·exact rt_two5 B g iv nv ns i p a' b' y a b d1 hlv s3 s1 s2 hoa hob
  ·exact rt_two6 B g iv nv ns i p a' b' y a b d1 hlv s3 s1 s2 hoa hob
 ·intro a b c hwa hwb hwc ha hb hc
  refine px_of (Or.inr (Or.inr (Or.inr (Or.inr (Or.inr (Or.inl ⟨rfl,rfl,rfl,hwa,rfl,rfl,rfl,hwb,hwc⟩)))))) (fun i hi ht=>?_)
  have h1:(Mil.toks (Mil.eIf a b c)).length=(Mil.toks a).length+(Mil.toks b).length+(Mil.toks c).length+3:=by
   show (Mil.fix Mil.wIf::(Mil.toks a++Mil.fix Mil.wThen::(Mil.toks b++Mil.fix Mil.wElse::Mil.toks c))).length=_
   simp;omega
  have ta:(Mil.toks a).length<=600:=by omega
  have tb:(Mil.toks b).length<=600:=by omega
  have tc:(Mil.toks c).length<=600:=by omega
  have hr:=hi.2
  rcases hr with ⟨c,_⟩|⟨c,_⟩|⟨c,_⟩|⟨c,_⟩|⟨c,_⟩|⟨c,_⟩|⟨c,_⟩|⟨_,p,a',b',c',d1,d2,d3,d4,d5,d6⟩|⟨_,_,_,_,_,c,_⟩
  case inr.inr.inr.inr.inr.inr.inr.inl=>
   have hl:=hi.1
   have d67:Ref.Rep ns b b' 0/\Ref.Rep ns c c' 0:=by
    rcases d6 with ⟨_,e1,e2⟩|⟨c,_⟩|⟨c,_⟩|⟨c,_⟩|⟨c,_⟩|⟨c,_⟩|⟨c,_⟩|⟨c,_⟩|⟨_,_,_,_,_,c,_⟩
    case inl=>exact⟨e1,e2⟩
    all_goals first|exact absurd c (by decide)|(rcases c with ⟨c,_⟩|⟨c,_⟩|⟨c,_⟩|⟨c,_⟩ <;> exact absurd c (by decide))
   exact rt_if B g iv nv ns i p a' b' c' a b c d1 (rx_short hwa ta) (ha a' ⟨by omega,d5⟩ ta).1 (rx_short hwb tb) (hb b' ⟨by omega,d67.1⟩ tb).1 (rx_short hwc tc) (hc c' ⟨by omega,d67.2⟩ tc).1
  all_goals first|exact absurd c (by decide)|(rcases c with ⟨c,_⟩|⟨c,_⟩|⟨c,_⟩|⟨c,_⟩ <;> exact absurd c (by decide))
 ·intro a b hca hwb hb
  have hwa:=Mil.wf_const hca
  refine px_of (Or.inr (Or.inr (Or.inr (Or.inr (Or.inr (Or.inr (Or.inl ⟨rfl,rfl,rfl,hca,hwb⟩))))))) (fun i hi ht=>?_)
  have h1:(Mil.toks (Mil.eFby a b)).length=(Mil.toks a).length+(Mil.toks b).length+4:=by
   show (Mil.fix Mil.wFby::Mil.fix Mil.sOpen::(Mil.toks a++Mil.fix Mil.sComma::(Mil.toks b++[Mil.fix Mil.sShut]))).length=_
   simp;omega
  have ta:(Mil.toks a).length<=600:=by omega
  have tb:(Mil.toks b).length<=600:=by omega
  obtain⟨p,a',b',y,v,c,d1,d2,d3⟩:=two_parts (Or.inr (Or.inl rfl)) hi
  obtain⟨rfl,rfl⟩:y=Mil.wFby/\v=0:=by
   rcases c with ⟨c,_⟩|⟨_,c⟩|⟨c,_⟩|⟨c,_⟩
   ·cases c
   ·exact c
   ·cases c
   ·cases c
  exact rt_fby B g iv nv ns i p a' b' a b d1 (rx_short hwa ta) (px_const B g iv nv ns a hca a' d2 ta).1 (rx_short hwb tb) (hb b' d3 tb).1
 ·intro a k h2 h1000 hwa ha
  refine px_of (Or.inr (Or.inr (Or.inr (Or.inr (Or.inr (Or.inr (Or.inr (Or.inl ⟨rfl,rfl,h2,h1000,hwa,rfl⟩)))))))) (fun i hi ht=>?_)
  have h1:(Mil.toks (Mil.eUnder a k)).length=(Mil.toks a).length+5:=by
   show (Mil.fix Mil.wUnder::Mil.fix Mil.sOpen::(Mil.toks a++[Mil.fix Mil.sComma,Mil.num k,Mil.fix Mil.sShut])).length=_
   simp
  have ta:(Mil.toks a).length<=600:=by omega
  have hr:=hi.2
  rcases hr with ⟨c,_⟩|⟨c,_⟩|⟨c,_⟩|⟨c,_⟩|⟨c,_⟩|⟨c,_⟩|⟨_,p,a',d1,d2,d3⟩|⟨c,_⟩|⟨_,_,_,_,_,c,_⟩
  case inr.inr.inr.inr.inr.inr.inl=>
   have hl:=hi.1
   exact rt_under B g iv nv ns i p k a' a d1 (by omega) (rx_short hwa ta) (ha a' ⟨by omega,d3⟩ ta).1
  all_goals first|exact absurd c (by decide)|(rcases c with ⟨c,_⟩|⟨c,_⟩|⟨c,_⟩|⟨c,_⟩ <;> exact absurd c (by decide))
 ·intro a b k h2 h1000 hca hwb hb
  have hwa:=Mil.wf_const hca
  refine px_of (Or.inr (Or.inr (Or.inr (Or.inr (Or.inr (Or.inr (Or.inr (Or.inr (Or.inl ⟨rfl,rfl,h2,h1000,hca,hwb⟩))))))))) (fun i hi ht=>?_)
  have h1:(Mil.toks (Mil.eHold a b k)).length=(Mil.toks a).length+(Mil.toks b).length+6:=by
   show (Mil.fix Mil.wHold::Mil.fix Mil.sOpen::(Mil.toks a++Mil.fix Mil.sComma::(Mil.toks b++[Mil.fix Mil.sComma,Mil.num k,Mil.fix Mil.sShut]))).length=_
   simp;omega
  have ta:(Mil.toks a).length<=600:=by omega
  have tb:(Mil.toks b).length<=600:=by omega
  obtain⟨p,a',b',y,v,c,d1,d2,d3⟩:=two_parts (Or.inr (Or.inr (Or.inl rfl))) hi
  obtain⟨rfl,rfl⟩:y=Mil.wHold/\v=k:=by
   rcases c with ⟨c,_⟩|⟨c,_⟩|⟨_,c⟩|⟨c,_⟩
   ·cases c
   ·cases c
   ·exact c
   ·cases c
  exact rt_hold B g iv nv ns i p v a' b' a b d1 (by omega) (rx_short hwa ta) (px_const B g iv nv ns a hca a' d2 ta).1 (rx_short hwb tb) (hb b' d3 tb).1
 ·intro x a b hx hwa hwb ha hb
  refine px_of (Or.inr (Or.inr (Or.inr (Or.inr (Or.inr (Or.inr (Or.inr (Or.inr (Or.inr ⟨rfl,rfl,hx,hwa,hwb⟩))))))))) (fun i hi ht=>?_)
  have h1:(Mil.toks (Mil.eLeast x a b)).length=(Mil.toks a).length+(Mil.toks b).length+4:=by
   show (Mil.fix x::Mil.fix Mil.sOpen::(Mil.toks a++Mil.fix Mil.sComma::(Mil.toks b++[Mil.fix Mil.sShut]))).length=_
   simp;omega
  have ta:(Mil.toks a).length<=600:=by omega
  have tb:(Mil.toks b).length<=600:=by omega
  obtain⟨p,a',b',y,v,c,d1,d2,d3⟩:=two_parts (Or.inr (Or.inr (Or.inr rfl))) hi
  obtain⟨rfl,rfl⟩:y=x/\v=0:=by
   rcases c with ⟨c,_⟩|⟨c,_⟩|⟨c,_⟩|⟨_,c⟩
   ·cases c
   ·cases c
   ·cases c
   ·exact c
  have s3:y.length<=3:=by rcases hx with rfl|rfl <;> decide
  exact rt_least B g iv nv ns i p a' b' y a b d1 s3 (rx_short hwa ta) (ha a' d2 ta).1 (rx_short hwb tb) (hb b' d3 tb).1
end
end Go.Proofs.YtoiajojadihpbaaGreatDoor
