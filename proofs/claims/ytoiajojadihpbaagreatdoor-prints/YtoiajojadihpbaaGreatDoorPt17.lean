import Derived.Test.YtoiajojadihpbaaGreatDoorPt16
namespace Go.Proofs.YtoiajojadihpbaaGreatDoor
set_option maxHeartbeats 8000000
section
open Go.RowKit
theorem t_preL (x:Mil.Bytes) (u1:Value) (w:World):Calls Tryz.prog 250 #[.agg #[.string (bs x),u1]] w (NuP (Mil.preLvl x) w):=t_pre x u1 w
theorem brack_le (t l:Nat) (x:Mil.Bytes):(Mil.brack t l x).length≤x.length+2:=by
 unfold Mil.brack
 split
 ·simp [Mil.sOpen,Mil.sShut]
 ·omega
theorem prefixed_any (a:Nat→Addr) (x:Mil.Bytes) (hx:x=Mil.wNot∨x=Mil.sMinus) (p:Mil.E) (hl:(Mil.txt p).length≤24000) (hp:OT a p) (w:World) (hP:Pl a w) :
  Calls Tryz.prog 245 #[.agg #[.string (bs x),ev p]] w (TxPost (Mil.txt (Mil.ePre x p)) w):=by
 have HP:=hid hP
 have HO:=hid hp
 have hsz:(bs (Mil.brack (Mil.tight p) (Mil.preLvl x) (Mil.txt p))).size≤24002:=by rw [bs_size];have:=brack_le (Mil.tight p) (Mil.preLvl x) (Mil.txt p);omega
 clear hP hp hl
 go_enter Tryz.func245,Tryz.ntmps245
 go_wp2_with fail
 have HB:Hid (Below w.heap.size w (w.alloc (.cells #[.string (bs x),ev p] 279))):=(Below.refl _ _).alloc (Nat.le_refl _) _
 have k0:∀w',Below (w.alloc (.cells #[.string (bs x),ev p] 279)).heap.size (w.alloc (.cells #[.string (bs x),ev p] 279)) w'→w'.cell? ⟨w.heap.size,0,none⟩=some (.string (bs x)):=
  fun w' hb=>(hb.cell (by simp)).trans (by simp)
 have k1:∀w',Below (w.alloc (.cells #[.string (bs x),ev p] 279)).heap.size (w.alloc (.cells #[.string (bs x),ev p] 279)) w'→w'.cell? ⟨w.heap.size,1,none⟩=some (ev p):=
  fun w' hb=>(hb.cell (by simp)).trans (by simp)
 generalize hW:w.alloc (.cells #[.string (bs x),ev p] 279)=W at HB k0 k1 ⊢
 have HBW:=hid HB
 clear hW
 go_region_held3 (fun w'=>Below W.heap.size W w') (first | assumption | exact (Below.refl _ _).drew) (first
  | (go_at_call 250;refine (t_preL x (ev p) _).mono ?_;rintro e w2 ⟨rfl,hb2⟩;have hB2:Below W.heap.size W w2:=below_step (by assumption) hb2)
  | (go_at_call 249;refine (HO.out _ _ ?_).mono ?_;exact (HP.out.below HBW.out).below (by assumption);rintro e w3 ⟨rfl,hb3⟩;have hB3:Below W.heap.size W w3:=below_step (by assumption) hb3))
 have HB3:=hid (below_step HBW.out hB3)
 have q0:=k0 w3 hB3
 clear k0 k1 hb2 hB2 hb3 hB3 HB HO HP
 rcases hx with hx | hx
 ·have hb:((bs x).toList==[110,111,116])=true:=by rw [Lib.toList_data,bs_list,hx];rfl
  have HX:=hid hx
  clear hx
  go_wp2
  go_ret
  refine ⟨?_,HB3.out⟩
  have hxx:=HX.out
  subst hxx
  show Ending.returned (.string (bs (Mil.wNot++Mil.blank)++bs (Mil.brack (Mil.tight p) 3 (Mil.txt p))))=_
  rw [bs_add];rfl
 ·have hb:((bs x).toList==[110,111,116])=false:=by rw [Lib.toList_data,bs_list,hx];rfl
  have HX:=hid hx
  have hsx:(bs x).size≤1:=by rw [bs_size,hx];decide
  clear hx
  go_wp2
  go_ret
  refine ⟨?_,HB3.out⟩
  have hxx:=HX.out
  subst hxx
  show Ending.returned (.string (bs Mil.sMinus++bs (Mil.brack (Mil.tight p) 7 (Mil.txt p))))=_
  rw [bs_add];rfl
theorem tight_le9 (x:Mil.Bytes):Mil.tightOf x≤9:=by
 unfold Mil.tightOf
 repeat' split
 all_goals omega
end
section
open Go.RowKit
theorem paired_any (a:Nat→Addr) (x:Mil.Bytes) (hx:Mil.tightOf x≠9) (p q:Mil.E) (hl:(Mil.txt p).length≤24000) (hl2:(Mil.txt q).length≤24000) (hp:OT a p) (hq:OT a q) (w:World) (hP:Pl a w) :
  Calls Tryz.prog 246 #[.agg #[.string (bs x),ev p,ev q]] w (TxPost (Mil.txt (Mil.eTwo x p q)) w):=by
 have HP:=hid hP
 have HO:=hid hp
 have HQ:=hid hq
 have HX:=hid hx
 have hs1:(bs (Mil.brack (Mil.tight p) (Mil.leftOf (Mil.tightOf x)) (Mil.txt p))).size≤24002:=by rw [bs_size];have:=brack_le (Mil.tight p) (Mil.leftOf (Mil.tightOf x)) (Mil.txt p);omega
 have hs2:(bs (Mil.brack (Mil.tight q) (Mil.tightOf x+1) (Mil.txt q))).size≤24002:=by rw [bs_size];have:=brack_le (Mil.tight q) (Mil.tightOf x+1) (Mil.txt q);omega
 have hs3:(bs x).size≤3:=by rw [bs_size];exact Mil.op_len hx
 have n1:¬9223372036854775807 < (bs (Mil.brack (Mil.tight p) (Mil.leftOf (Mil.tightOf x)) (Mil.txt p))).size+1:=by omega
 have n2:¬9223372036854775807 < (bs (Mil.brack (Mil.tight p) (Mil.leftOf (Mil.tightOf x)) (Mil.txt p))).size+1+(bs x).size:=by omega
 have n3:¬9223372036854775807 < (bs (Mil.brack (Mil.tight p) (Mil.leftOf (Mil.tightOf x)) (Mil.txt p))).size+1+(bs x).size+1:=by omega
 have n4:¬9223372036854775807 < (bs (Mil.brack (Mil.tight p) (Mil.leftOf (Mil.tightOf x)) (Mil.txt p))).size+1+(bs x).size+1+(bs (Mil.brack (Mil.tight q) (Mil.tightOf x+1) (Mil.txt q))).size:=by omega
 have HG:Hid (Ending.returned (.string (bs (Mil.brack (Mil.tight p) (Mil.leftOf (Mil.tightOf x)) (Mil.txt p))++bs Mil.blank++bs x++bs Mil.blank++bs (Mil.brack (Mil.tight q) (Mil.tightOf x+1) (Mil.txt q))))=.returned (.string (bs (Mil.txt (Mil.eTwo x p q))))):=by
  show _=_
  rw [bs_add,bs_add,bs_add,bs_add];rfl
 clear hP hp hq hx hl hl2 hs1 hs2 hs3
 go_enter Tryz.func246,Tryz.ntmps246
 go_wp2_with fail
 have k0:∀w',Below (w.alloc (.cells #[.string (bs x),ev p,ev q] 281)).heap.size (w.alloc (.cells #[.string (bs x),ev p,ev q] 281)) w'→w'.cell? ⟨w.heap.size,0,none⟩=some (.string (bs x)):=fun w' hb=>(hb.cell (by simp)).trans (by simp)
 have k1:∀w',Below (w.alloc (.cells #[.string (bs x),ev p,ev q] 281)).heap.size (w.alloc (.cells #[.string (bs x),ev p,ev q] 281)) w'→w'.cell? ⟨w.heap.size,1,none⟩=some (ev p):=fun w' hb=>(hb.cell (by simp)).trans (by simp)
 have k2:∀w',Below (w.alloc (.cells #[.string (bs x),ev p,ev q] 281)).heap.size (w.alloc (.cells #[.string (bs x),ev p,ev q] 281)) w'→w'.cell? ⟨w.heap.size,2,none⟩=some (ev q):=fun w' hb=>(hb.cell (by simp)).trans (by simp)
 have HB:Hid (Below w.heap.size w (w.alloc (.cells #[.string (bs x),ev p,ev q] 281))):=(Below.refl _ _).alloc (Nat.le_refl _) _
 generalize hW:w.alloc (.cells #[.string (bs x),ev p,ev q] 281)=W at HB k0 k1 k2 ⊢
 have HBW:=hid HB
 clear hW
 refine (t_two a x HX.out (ev p) (ev q) _ (HP.out.below HBW.out)).mono ?_
 rintro e w1 ⟨rfl,hb1⟩
 have hlf:Mil.leftOf (Mil.tightOf x)=if Mil.tightOf x=4 then 5 else Mil.tightOf x:=rfl
 have J0:Hid (∀w',Below w1.heap.size w1 w'→w'.cell? ⟨w.heap.size,0,none⟩=some (.string (bs x))):=fun w' h=>k0 w' (below_step hb1 h)
 have J1:Hid (∀w',Below w1.heap.size w1 w'→w'.cell? ⟨w.heap.size,1,none⟩=some (ev p)):=fun w' h=>k1 w' (below_step hb1 h)
 have J2:Hid (∀w',Below w1.heap.size w1 w'→w'.cell? ⟨w.heap.size,2,none⟩=some (ev q)):=fun w' h=>k2 w' (below_step hb1 h)
 have HP1:Hid (Pl a w1):=(HP.out.below HBW.out).below hb1
 have HB1:=hid (below_step HBW.out hb1)
 clear k0 k1 k2 hb1 HB HBW HP
 have h9:=tight_le9 x
 generalize htk:Mil.tightOf x=tk at *
 have hwr:IntKind.i64.wrap ((tk:Int)+1)=(tk:Int)+1:=by simp only [IntKind.wrap_i64];omega
 by_cases h4:tk=4
 ·have i4:((tk:Int)==4)=true:=by simp;omega
  have H5:Hid (Mil.leftOf tk=tk+1):=by show _=_;rw [hlf,if_pos h4,h4]
  have C1:Hid (∀w',Pl a w'→Calls Tryz.prog 249 #[ev p,.int .i64 ((tk:Int)+1)] w' (TxPost (Mil.brack (Mil.tight p) (Mil.leftOf tk) (Mil.txt p)) w')):=by
   intro w' h'
   rw [H5.out]
   exact HO.out w' (tk+1) h'
  have C2:Hid (∀w',Pl a w'→Calls Tryz.prog 249 #[ev q,.int .i64 ((tk:Int)+1)] w' (TxPost (Mil.brack (Mil.tight q) (tk+1) (Mil.txt q)) w')):=fun w' h'=>HQ.out w' (tk+1) h'
  clear h4 hlf HO HQ
  go_wp2_with fail
  have j0:=J0.out
  have j1:=J1.out
  have j2:=J2.out
  go_region_held3 (fun w'=>Below w1.heap.size w1 w') (first | assumption | exact (Below.refl _ _).drew | exact Below.alloc (by assumption) (Below.size (by assumption)) _) (first
   | (go_at_call 249;(with_reducible refine (C1.out _ ?_).mono ?_);exact HP1.out.below (by assumption);rintro e w3 ⟨rfl,hbw3⟩;have hBw3:Below w1.heap.size w1 w3:=below_step (by assumption) hbw3)
   | (go_at_call 249;(with_reducible refine (C2.out _ ?_).mono ?_);exact HP1.out.below (by assumption);rintro e w4 ⟨rfl,hbw4⟩;have hBw4:Below w1.heap.size w1 w4:=below_step (by assumption) hbw4))
  all_goals go_wp2
  all_goals go_ret
  all_goals exact ⟨HG.out,below_step HB1.out (by assumption)⟩
 ·have i4:((tk:Int)==4)=false:=by simp;omega
  have H5:Hid (Mil.leftOf tk=tk):=by show _=_;rw [hlf,if_neg h4]
  have C1:Hid (∀w',Pl a w'→Calls Tryz.prog 249 #[ev p,.int .i64 (tk)] w' (TxPost (Mil.brack (Mil.tight p) (Mil.leftOf tk) (Mil.txt p)) w')):=by
   intro w' h'
   rw [H5.out]
   exact HO.out w' (tk) h'
  have C2:Hid (∀w',Pl a w'→Calls Tryz.prog 249 #[ev q,.int .i64 ((tk:Int)+1)] w' (TxPost (Mil.brack (Mil.tight q) (tk+1) (Mil.txt q)) w')):=fun w' h'=>HQ.out w' (tk+1) h'
  clear h4 hlf HO HQ
  go_wp2_with fail
  have j0:=J0.out
  have j1:=J1.out
  have j2:=J2.out
  go_region_held3 (fun w'=>Below w1.heap.size w1 w') (first | assumption | exact (Below.refl _ _).drew | exact Below.alloc (by assumption) (Below.size (by assumption)) _) (first
   | (go_at_call 249;(with_reducible refine (C1.out _ ?_).mono ?_);exact HP1.out.below (by assumption);rintro e w3 ⟨rfl,hbw3⟩;have hBw3:Below w1.heap.size w1 w3:=below_step (by assumption) hbw3)
   | (go_at_call 249;(with_reducible refine (C2.out _ ?_).mono ?_);exact HP1.out.below (by assumption);rintro e w4 ⟨rfl,hbw4⟩;have hBw4:Below w1.heap.size w1 w4:=below_step (by assumption) hbw4))
  all_goals go_wp2
  all_goals go_ret
  all_goals exact ⟨HG.out,below_step HB1.out (by assumption)⟩
end
section
open Go.RowKit
theorem join2 (x y:Mil.Bytes):Lib.join [x,y] Mil.commaB=x++Mil.commaB++y:=by simp [Lib.join,List.intercalate]
theorem join3 (x y z:Mil.Bytes):Lib.join [x,y,z] Mil.commaB=x++Mil.commaB++y++Mil.commaB++z:=by simp [Lib.join,List.intercalate]
theorem tx_int (a:Nat→Addr) (k:Nat) (hk:(k:Int)≤Mil.maxInt):TC a (Mil.eInt k):=by
 intro w hP
 have HP:=hid hP
 clear hP
 have s0:=as_int_int
 show Calls Tryz.prog 243 #[.iface 309 (.agg #[.int .i64 (k:Nat)])] w _
 go_enter Tryz.func243,Tryz.ntmps243
 go_wp2_with fail
 have HB:Hid (Below w.heap.size w (w.alloc (.cells #[.int .i64 (k:Nat)] 309))):=(Below.refl _ _).alloc (Nat.le_refl _) _
 clear s0
 refine (formatInt_any a k hk _ (HP.out.below HB.out)).mono ?_
 rintro e w1 ⟨rfl,hb1⟩
 go_wp2
 go_ret
 exact ⟨rfl,below_step HB.out hb1⟩
theorem tx_bool (a:Nat→Addr) (k:Nat):TC a (Mil.eBool k):=by
 intro w hP
 have HP:=hid hP
 clear hP
 have CB:Hid (∀w,Calls Tryz.prog 244 #[.bool (k==1)] w (TxPost (Mil.txt (Mil.eBool k)) w)):=formatBool_any k
 generalize hbv:(k==1)=bv at CB
 have s0:=as_bool_int
 have s1:=as_bool_bool
 show Calls Tryz.prog 243 #[.iface 307 (.agg #[.bool (k==1)])] w _
 rw [hbv]
 clear hbv
 go_enter Tryz.func243,Tryz.ntmps243
 go_wp2_with fail
 have HB:Hid (Below w.heap.size w (w.alloc (.cells #[.bool bv] 307))):=(Below.refl _ _).alloc (Nat.le_refl _) _
 clear s0 s1
 refine (CB.out _).mono ?_
 rintro e w1 ⟨rfl,hb1⟩
 go_wp2
 go_ret
 exact ⟨rfl,below_step HB.out hb1⟩
theorem tx_name (a:Nat→Addr) (x:Mil.Bytes):TC a (Mil.eName x):=by
 intro w hP
 have HP:=hid hP
 clear hP
 have s0:=as_name_int
 have s1:=as_name_bool
 have s2:=as_name_name
 show Calls Tryz.prog 243 #[.iface 292 (.agg #[.string (bs x)])] w _
 go_enter Tryz.func243,Tryz.ntmps243
 go_wp2
 go_ret
 exact ⟨rfl,(Below.refl _ _).alloc (Nat.le_refl _) _⟩
theorem tx_pre (a:Nat→Addr) (x:Mil.Bytes) (p:Mil.E) (hvp:∃ty y,ev p=.iface ty y) (hx:x=Mil.wNot∨x=Mil.sMinus) (hl:(Mil.txt p).length≤24000) (hp:OT a p):TC a (Mil.ePre x p):=by
 intro w hP
 have HP:=hid hP
 clear hP
 obtain ⟨tp,yp,hep⟩:=hvp
 have HX:=hid hx
 have HL:=hid hl
 have CP:Hid (∀w,Pl a w→Calls Tryz.prog 245 #[.agg #[.string (bs x),.iface tp yp]] w (TxPost (Mil.txt (Mil.ePre x p)) w)):=by
  intro w h
  rw [←hep]
  exact prefixed_any a x hx p hl hp w h
 clear hx hl hp HX HL
 have s0:=as_pre_int
 have s1:=as_pre_bool
 have s2:=as_pre_name
 have s3:=as_pre_pre
 show Calls Tryz.prog 243 #[.iface 279 (.agg #[.string (bs x),ev p])] w _
 rw [hep]
 clear hep
 go_enter Tryz.func243,Tryz.ntmps243
 go_wp2_with fail
 have HB:Hid (Below w.heap.size w (w.alloc (.cells #[.string (bs x),.iface tp yp] 279))):=(Below.refl _ _).alloc (Nat.le_refl _) _
 clear s0 s1 s2 s3
 refine (CP.out _ (HP.out.below HB.out)).mono ?_
 rintro e w1 ⟨rfl,hb1⟩
 go_wp2
 go_ret
 exact ⟨rfl,below_step HB.out hb1⟩
theorem tx_two (a:Nat→Addr) (x:Mil.Bytes) (p q:Mil.E) (hvp:∃ty y,ev p=.iface ty y) (hvq:∃ty y,ev q=.iface ty y) (hx:Mil.tightOf x≠9) (hl:(Mil.txt p).length≤24000) (hl2:(Mil.txt q).length≤24000) (hp:OT a p) (hq:OT a q):TC a (Mil.eTwo x p q):=by
 intro w hP
 have HP:=hid hP
 clear hP
 obtain ⟨tp,yp,hep⟩:=hvp
 obtain ⟨tq,yq,heq⟩:=hvq
 have HX:=hid hx
 have HL:=hid hl
 have HL2:=hid hl2
 have CP:Hid (∀w,Pl a w→Calls Tryz.prog 246 #[.agg #[.string (bs x),.iface tp yp,.iface tq yq]] w (TxPost (Mil.txt (Mil.eTwo x p q)) w)):=by
  intro w h
  rw [←hep,←heq]
  exact paired_any a x hx p q hl hl2 hp hq w h
 clear hx hl hl2 hp hq HX HL HL2
 have s0:=as_two_int
 have s1:=as_two_bool
 have s2:=as_two_name
 have s3:=as_two_pre
 have s4:=as_two_two
 show Calls Tryz.prog 243 #[.iface 281 (.agg #[.string (bs x),ev p,ev q])] w _
 rw [hep,heq]
 clear hep heq
 go_enter Tryz.func243,Tryz.ntmps243
 go_wp2_with fail
 have HB:Hid (Below w.heap.size w (w.alloc (.cells #[.string (bs x),.iface tp yp,.iface tq yq] 281))):=(Below.refl _ _).alloc (Nat.le_refl _) _
 clear s0 s1 s2 s3 s4
 refine (CP.out _ (HP.out.below HB.out)).mono ?_
 rintro e w1 ⟨rfl,hb1⟩
 go_wp2
 go_ret
 exact ⟨rfl,below_step HB.out hb1⟩
theorem tx_if (a:Nat→Addr) (p q r:Mil.E) (hvp:∃ty y,ev p=.iface ty y) (hvq:∃ty y,ev q=.iface ty y) (hvr:∃ty y,ev r=.iface ty y) (hl:(Mil.txt p).length≤24000) (hl2:(Mil.txt q).length≤24000) (hl3:(Mil.txt r).length≤24000) (hp:TC a p) (hq:TC a q) (hr:TC a r):TC a (Mil.eIf p q r):=by
 intro w hP
 have HP:=hid hP
 clear hP
 obtain ⟨tp,yp,hep⟩:=hvp
 obtain ⟨tq,yq,heq⟩:=hvq
 obtain ⟨tr,yr,her⟩:=hvr
 have C1:Hid (∀w',Pl a w'→Calls Tryz.prog 243 #[.iface tp yp] w' (TxPost (Mil.txt p) w')):=by
  intro w' h
  rw [←hep]
  exact hp w' h
 have C2:Hid (∀w',Pl a w'→Calls Tryz.prog 243 #[.iface tq yq] w' (TxPost (Mil.txt q) w')):=by
  intro w' h
  rw [←heq]
  exact hq w' h
 have C3:Hid (∀w',Pl a w'→Calls Tryz.prog 243 #[.iface tr yr] w' (TxPost (Mil.txt r) w')):=by
  intro w' h
  rw [←her]
  exact hr w' h
 have z1:(bs (Mil.txt p)).size≤24000:=by rw [bs_size];exact hl
 have z2:(bs (Mil.txt q)).size≤24000:=by rw [bs_size];exact hl2
 have z3:(bs (Mil.txt r)).size≤24000:=by rw [bs_size];exact hl3
 have n1:¬9223372036854775807 < 3+(bs (Mil.txt p)).size:=by omega
 have n2:¬9223372036854775807 < 3+(bs (Mil.txt p)).size+6:=by omega
 have n3:¬9223372036854775807 < 3+(bs (Mil.txt p)).size+6+(bs (Mil.txt q)).size:=by omega
 have n4:¬9223372036854775807 < 3+(bs (Mil.txt p)).size+6+(bs (Mil.txt q)).size+6:=by omega
 have n5:¬9223372036854775807 < 3+(bs (Mil.txt p)).size+6+(bs (Mil.txt q)).size+6+(bs (Mil.txt r)).size:=by omega
 have HG:Hid (Ending.returned (.string (bs (Mil.wIf++Mil.blank)++bs (Mil.txt p)++bs (Mil.blank++Mil.wThen++Mil.blank)++bs (Mil.txt q)++bs (Mil.blank++Mil.wElse++Mil.blank)++bs (Mil.txt r)))=.returned (.string (bs (Mil.txt (Mil.eIf p q r))))):=by
  show _=_
  rw [bs_add,bs_add,bs_add,bs_add,bs_add]
  refine congrArg (fun z=>Ending.returned (Value.string (bs z))) ?_
  show _=(Mil.wIf++Mil.blank++Mil.txt p++Mil.blank++(Mil.wThen++Mil.blank++Mil.txt q++Mil.blank++Mil.wElse++Mil.blank++Mil.txt r))
  simp only [List.append_assoc]
 clear hl hl2 hl3 hp hq hr z1 z2 z3
 have s0:=as_if_int
 have s1:=as_if_bool
 have s2:=as_if_name
 have s3:=as_if_pre
 have s4:=as_if_two
 have s5:=as_if_if
 show Calls Tryz.prog 243 #[.iface 276 (.agg #[ev p,ev q,ev r])] w _
 rw [hep,heq,her]
 clear hep heq her
 go_enter Tryz.func243,Tryz.ntmps243
 go_wp2_with fail
 have k0:∀w',Below (w.alloc (.cells #[.iface tp yp,.iface tq yq,.iface tr yr] 276)).heap.size (w.alloc (.cells #[.iface tp yp,.iface tq yq,.iface tr yr] 276)) w'→w'.cell? ⟨w.heap.size,0,none⟩=some (.iface tp yp):=fun w' hb=>(hb.cell (by simp)).trans (by simp)
 have k1:∀w',Below (w.alloc (.cells #[.iface tp yp,.iface tq yq,.iface tr yr] 276)).heap.size (w.alloc (.cells #[.iface tp yp,.iface tq yq,.iface tr yr] 276)) w'→w'.cell? ⟨w.heap.size,1,none⟩=some (.iface tq yq):=fun w' hb=>(hb.cell (by simp)).trans (by simp)
 have k2:∀w',Below (w.alloc (.cells #[.iface tp yp,.iface tq yq,.iface tr yr] 276)).heap.size (w.alloc (.cells #[.iface tp yp,.iface tq yq,.iface tr yr] 276)) w'→w'.cell? ⟨w.heap.size,2,none⟩=some (.iface tr yr):=fun w' hb=>(hb.cell (by simp)).trans (by simp)
 have HB:Hid (Below w.heap.size w (w.alloc (.cells #[.iface tp yp,.iface tq yq,.iface tr yr] 276))):=(Below.refl _ _).alloc (Nat.le_refl _) _
 clear s0 s1 s2 s3 s4 s5
 generalize hW:w.alloc (.cells #[.iface tp yp,.iface tq yq,.iface tr yr] 276)=W at HB k0 k1 k2 ⊢
 have HPW:=hid (HP.out.below HB)
 have HBW:=hid HB
 clear hW HB HP
 go_region_held3 (fun w'=>Below W.heap.size W w') (first | assumption | exact (Below.refl _ _).drew | exact Below.alloc (by assumption) (Below.size (by assumption)) _) (first
  | (go_at_call 243;(with_reducible refine (C1.out _ ?_).mono ?_);exact HPW.out.below (by assumption);rintro e w3 ⟨rfl,hbw3⟩;have hBw3:Below W.heap.size W w3:=below_step (by assumption) hbw3)
  | (go_at_call 243;(with_reducible refine (C2.out _ ?_).mono ?_);exact HPW.out.below (by assumption);rintro e w4 ⟨rfl,hbw4⟩;have hBw4:Below W.heap.size W w4:=below_step (by assumption) hbw4)
  | (go_at_call 243;(with_reducible refine (C3.out _ ?_).mono ?_);exact HPW.out.below (by assumption);rintro e w5 ⟨rfl,hbw5⟩;have hBw5:Below W.heap.size W w5:=below_step (by assumption) hbw5))
 all_goals go_wp2
 all_goals go_ret
 all_goals exact ⟨HG.out,below_step HBW.out (by assumption)⟩
theorem tx_fby (a:Nat→Addr) (p q:Mil.E) (hvp:∃ty y,ev p=.iface ty y) (hvq:∃ty y,ev q=.iface ty y) (hl:(Mil.txt p).length≤24000) (hl2:(Mil.txt q).length≤24000) (hp:TC a p) (hq:TC a q):TC a (Mil.eFby p q):=by
 intro w hP
 have HP:=hid hP
 clear hP
 obtain ⟨tp,yp,hep⟩:=hvp
 obtain ⟨tq,yq,heq⟩:=hvq
 have C1:Hid (∀w',Pl a w'→Calls Tryz.prog 243 #[.iface tp yp] w' (TxPost (Mil.txt p) w')):=by
  intro w' h
  rw [←hep]
  exact hp w' h
 have C2:Hid (∀w',Pl a w'→Calls Tryz.prog 243 #[.iface tq yq] w' (TxPost (Mil.txt q) w')):=by
  intro w' h
  rw [←heq]
  exact hq w' h
 have HL:Hid (∀x,x∈[Mil.txt p,Mil.txt q]→x.length≤24000):=by
  intro x hx
  simp only [List.mem_cons,List.not_mem_nil,or_false] at hx
  rcases hx with rfl | rfl
  ·exact hl
  ·exact hl2
 have HG:Hid (Ending.returned (.string (bs (Mil.wFby++Mil.sOpen++Lib.join [Mil.txt p,Mil.txt q] Mil.commaB++Mil.sShut)))=.returned (.string (bs (Mil.txt (Mil.eFby p q))))):=by
  show _=_
  rw [join2]
  refine congrArg (fun z=>Ending.returned (Value.string (bs z))) ?_
  show _=(Mil.wFby++Mil.sOpen++Mil.txt p++Mil.commaB++Mil.txt q++Mil.sShut)
  simp only [List.append_assoc]
 clear hl hl2 hp hq
 have s0:=as_fby_int
 have s1:=as_fby_bool
 have s2:=as_fby_name
 have s3:=as_fby_pre
 have s4:=as_fby_two
 have s5:=as_fby_if
 have s6:=as_fby_fby
 show Calls Tryz.prog 243 #[.iface 299 (.agg #[ev p,ev q])] w _
 rw [hep,heq]
 clear hep heq
 go_enter Tryz.func243,Tryz.ntmps243
 go_wp2_with fail
 have k0:∀w',Below (w.alloc (.cells #[.iface tp yp,.iface tq yq] 299)).heap.size (w.alloc (.cells #[.iface tp yp,.iface tq yq] 299)) w'→w'.cell? ⟨w.heap.size,0,none⟩=some (.iface tp yp):=fun w' hb=>(hb.cell (by simp)).trans (by simp)
 have k1:∀w',Below (w.alloc (.cells #[.iface tp yp,.iface tq yq] 299)).heap.size (w.alloc (.cells #[.iface tp yp,.iface tq yq] 299)) w'→w'.cell? ⟨w.heap.size,1,none⟩=some (.iface tq yq):=fun w' hb=>(hb.cell (by simp)).trans (by simp)
 have HB:Hid (Below w.heap.size w (w.alloc (.cells #[.iface tp yp,.iface tq yq] 299))):=(Below.refl _ _).alloc (Nat.le_refl _) _
 clear s0 s1 s2 s3 s4 s5 s6
 generalize hW:w.alloc (.cells #[.iface tp yp,.iface tq yq] 299)=W at HB k0 k1 ⊢
 have HPW:=hid (HP.out.below HB)
 have HBW:=hid HB
 clear hW HB HP
 go_region_held3 (fun w'=>Below W.heap.size W w') (first | assumption | exact (Below.refl _ _).drew | exact Below.alloc (by assumption) (Below.size (by assumption)) _) (first
  | (go_at_call 243;(with_reducible refine (C1.out _ ?_).mono ?_);exact HPW.out.below (by assumption);rintro e w3 ⟨rfl,hbw3⟩;have hBw3:Below W.heap.size W w3:=below_step (by assumption) hbw3)
  | (go_at_call 243;(with_reducible refine (C2.out _ ?_).mono ?_);exact HPW.out.below (by assumption);rintro e w4 ⟨rfl,hbw4⟩;have hBw4:Below W.heap.size W w4:=below_step (by assumption) hbw4)
  | (go_at_call 247;refine (callText_any Mil.wFby (by decide) [Mil.txt p,Mil.txt q] (by simp) (by simp) HL.out _ _ (heap_alloc_new _ _)).mono ?_;rintro e w9 ⟨rfl,hbw9⟩;have hBw9:Below W.heap.size W w9:=below_step (by assumption) hbw9))
 all_goals go_wp2
 all_goals go_ret
 all_goals exact ⟨HG.out,below_step HBW.out (by assumption)⟩
theorem tx_under (a:Nat→Addr) (p:Mil.E) (k:Nat) (hvp:∃ty y,ev p=.iface ty y) (hk:k≤1000) (hl:(Mil.txt p).length≤24000) (hp:TC a p):TC a (Mil.eUnder p k):=by
 intro w hP
 have HP:=hid hP
 clear hP
 obtain ⟨tp,yp,hep⟩:=hvp
 have C1:Hid (∀w',Pl a w'→Calls Tryz.prog 243 #[.iface tp yp] w' (TxPost (Mil.txt p) w')):=by
  intro w' h
  rw [←hep]
  exact hp w' h
 have HK:Hid ((k:Int)≤Mil.maxInt):=by show _≤_;simp only [Mil.maxInt];omega
 have HL:Hid (∀x,x∈[Mil.txt p,Lib.decDigits k]→x.length≤24000):=by
  intro x hx
  simp only [List.mem_cons,List.not_mem_nil,or_false] at hx
  rcases hx with rfl | rfl
  ·exact hl
  ·have:=Mil.digits_len HK.out;omega
 have HG:Hid (Ending.returned (.string (bs (Mil.wUnder++Mil.sOpen++Lib.join [Mil.txt p,Lib.decDigits k] Mil.commaB++Mil.sShut)))=.returned (.string (bs (Mil.txt (Mil.eUnder p k))))):=by
  show _=_
  rw [join2]
  refine congrArg (fun z=>Ending.returned (Value.string (bs z))) ?_
  show _=(Mil.wUnder++Mil.sOpen++Mil.txt p++Mil.commaB++Lib.decDigits k++Mil.sShut)
  simp only [List.append_assoc]
 clear hl hp hk
 have s0:=as_under_int
 have s1:=as_under_bool
 have s2:=as_under_name
 have s3:=as_under_pre
 have s4:=as_under_two
 have s5:=as_under_if
 have s6:=as_under_fby
 have s7:=as_under_under
 show Calls Tryz.prog 243 #[.iface 301 (.agg #[ev p,.int .i64 (k:Nat)])] w _
 rw [hep]
 clear hep
 go_enter Tryz.func243,Tryz.ntmps243
 go_wp2_with fail
 have k0:∀w',Below (w.alloc (.cells #[.iface tp yp,.int .i64 (k:Nat)] 301)).heap.size (w.alloc (.cells #[.iface tp yp,.int .i64 (k:Nat)] 301)) w'→w'.cell? ⟨w.heap.size,0,none⟩=some (.iface tp yp):=fun w' hb=>(hb.cell (by simp)).trans (by simp)
 have k1:∀w',Below (w.alloc (.cells #[.iface tp yp,.int .i64 (k:Nat)] 301)).heap.size (w.alloc (.cells #[.iface tp yp,.int .i64 (k:Nat)] 301)) w'→w'.cell? ⟨w.heap.size,1,none⟩=some (.int .i64 (k:Nat)):=fun w' hb=>(hb.cell (by simp)).trans (by simp)
 have HB:Hid (Below w.heap.size w (w.alloc (.cells #[.iface tp yp,.int .i64 (k:Nat)] 301))):=(Below.refl _ _).alloc (Nat.le_refl _) _
 clear s0 s1 s2 s3 s4 s5 s6 s7
 generalize hW:w.alloc (.cells #[.iface tp yp,.int .i64 (k:Nat)] 301)=W at HB k0 k1 ⊢
 have HPW:=hid (HP.out.below HB)
 have HBW:=hid HB
 clear hW HB HP
 go_region_held3 (fun w'=>Below W.heap.size W w') (first | assumption | exact (Below.refl _ _).drew | exact Below.alloc (by assumption) (Below.size (by assumption)) _) (first
  | (go_at_call 243;(with_reducible refine (C1.out _ ?_).mono ?_);exact HPW.out.below (by assumption);rintro e w3 ⟨rfl,hbw3⟩;have hBw3:Below W.heap.size W w3:=below_step (by assumption) hbw3)
  | (go_at_call 236;refine (formatInt_any a k HK.out _ ?_).mono ?_;exact HPW.out.below (by assumption);rintro e w4 ⟨rfl,hbw4⟩;have hBw4:Below W.heap.size W w4:=below_step (by assumption) hbw4)
  | (go_at_call 247;refine (callText_any Mil.wUnder (by decide) [Mil.txt p,Lib.decDigits k] (by simp) (by simp) HL.out _ _ (heap_alloc_new _ _)).mono ?_;rintro e w9 ⟨rfl,hbw9⟩;have hBw9:Below W.heap.size W w9:=below_step (by assumption) hbw9))
 all_goals go_wp2
 all_goals go_ret
 all_goals exact ⟨HG.out,below_step HBW.out (by assumption)⟩
theorem tx_hold (a:Nat→Addr) (p q:Mil.E) (k:Nat) (hvp:∃ty y,ev p=.iface ty y) (hvq:∃ty y,ev q=.iface ty y) (hk:k≤1000) (hl:(Mil.txt p).length≤24000) (hl2:(Mil.txt q).length≤24000) (hp:TC a p) (hq:TC a q):TC a (Mil.eHold p q k):=by
 intro w hP
 have HP:=hid hP
 clear hP
 obtain ⟨tp,yp,hep⟩:=hvp
 obtain ⟨tq,yq,heq⟩:=hvq
 have C1:Hid (∀w',Pl a w'→Calls Tryz.prog 243 #[.iface tp yp] w' (TxPost (Mil.txt p) w')):=by
  intro w' h
  rw [←hep]
  exact hp w' h
 have C2:Hid (∀w',Pl a w'→Calls Tryz.prog 243 #[.iface tq yq] w' (TxPost (Mil.txt q) w')):=by
  intro w' h
  rw [←heq]
  exact hq w' h
 have HK:Hid ((k:Int)≤Mil.maxInt):=by show _≤_;simp only [Mil.maxInt];omega
 have HL:Hid (∀x,x∈[Mil.txt p,Mil.txt q,Lib.decDigits k]→x.length≤24000):=by
  intro x hx
  simp only [List.mem_cons,List.not_mem_nil,or_false] at hx
  rcases hx with rfl | rfl | rfl
  ·exact hl
  ·exact hl2
  ·have:=Mil.digits_len HK.out;omega
 have HG:Hid (Ending.returned (.string (bs (Mil.wHold++Mil.sOpen++Lib.join [Mil.txt p,Mil.txt q,Lib.decDigits k] Mil.commaB++Mil.sShut)))=.returned (.string (bs (Mil.txt (Mil.eHold p q k))))):=by
  show _=_
  rw [join3]
  refine congrArg (fun z=>Ending.returned (Value.string (bs z))) ?_
  show _=(Mil.wHold++Mil.sOpen++Mil.txt p++Mil.commaB++Mil.txt q++Mil.commaB++Lib.decDigits k++Mil.sShut)
  simp only [List.append_assoc]
 clear hl hl2 hp hq hk
 have s0:=as_hold_int
 have s1:=as_hold_bool
 have s2:=as_hold_name
 have s3:=as_hold_pre
 have s4:=as_hold_two
 have s5:=as_hold_if
 have s6:=as_hold_fby
 have s7:=as_hold_under
 have s8:=as_hold_hold
 show Calls Tryz.prog 243 #[.iface 303 (.agg #[ev p,ev q,.int .i64 (k:Nat)])] w _
 rw [hep,heq]
 clear hep heq
 go_enter Tryz.func243,Tryz.ntmps243
 go_wp2_with fail
 have k0:∀w',Below (w.alloc (.cells #[.iface tp yp,.iface tq yq,.int .i64 (k:Nat)] 303)).heap.size (w.alloc (.cells #[.iface tp yp,.iface tq yq,.int .i64 (k:Nat)] 303)) w'→w'.cell? ⟨w.heap.size,0,none⟩=some (.iface tp yp):=fun w' hb=>(hb.cell (by simp)).trans (by simp)
 have k1:∀w',Below (w.alloc (.cells #[.iface tp yp,.iface tq yq,.int .i64 (k:Nat)] 303)).heap.size (w.alloc (.cells #[.iface tp yp,.iface tq yq,.int .i64 (k:Nat)] 303)) w'→w'.cell? ⟨w.heap.size,1,none⟩=some (.iface tq yq):=fun w' hb=>(hb.cell (by simp)).trans (by simp)
 have k2:∀w',Below (w.alloc (.cells #[.iface tp yp,.iface tq yq,.int .i64 (k:Nat)] 303)).heap.size (w.alloc (.cells #[.iface tp yp,.iface tq yq,.int .i64 (k:Nat)] 303)) w'→w'.cell? ⟨w.heap.size,2,none⟩=some (.int .i64 (k:Nat)):=fun w' hb=>(hb.cell (by simp)).trans (by simp)
 have HB:Hid (Below w.heap.size w (w.alloc (.cells #[.iface tp yp,.iface tq yq,.int .i64 (k:Nat)] 303))):=(Below.refl _ _).alloc (Nat.le_refl _) _
 clear s0 s1 s2 s3 s4 s5 s6 s7 s8
 generalize hW:w.alloc (.cells #[.iface tp yp,.iface tq yq,.int .i64 (k:Nat)] 303)=W at HB k0 k1 k2 ⊢
 have HPW:=hid (HP.out.below HB)
 have HBW:=hid HB
 clear hW HB HP
 go_region_held3 (fun w'=>Below W.heap.size W w') (first | assumption | exact (Below.refl _ _).drew | exact Below.alloc (by assumption) (Below.size (by assumption)) _) (first
  | (go_at_call 243;(with_reducible refine (C1.out _ ?_).mono ?_);exact HPW.out.below (by assumption);rintro e w3 ⟨rfl,hbw3⟩;have hBw3:Below W.heap.size W w3:=below_step (by assumption) hbw3)
  | (go_at_call 243;(with_reducible refine (C2.out _ ?_).mono ?_);exact HPW.out.below (by assumption);rintro e w4 ⟨rfl,hbw4⟩;have hBw4:Below W.heap.size W w4:=below_step (by assumption) hbw4)
  | (go_at_call 236;refine (formatInt_any a k HK.out _ ?_).mono ?_;exact HPW.out.below (by assumption);rintro e w5 ⟨rfl,hbw5⟩;have hBw5:Below W.heap.size W w5:=below_step (by assumption) hbw5)
  | (go_at_call 247;refine (callText_any Mil.wHold (by decide) [Mil.txt p,Mil.txt q,Lib.decDigits k] (by simp) (by simp) HL.out _ _ (heap_alloc_new _ _)).mono ?_;rintro e w9 ⟨rfl,hbw9⟩;have hBw9:Below W.heap.size W w9:=below_step (by assumption) hbw9))
 all_goals go_wp2
 all_goals go_ret
 all_goals exact ⟨HG.out,below_step HBW.out (by assumption)⟩
theorem tx_least (a:Nat→Addr) (x:Mil.Bytes) (p q:Mil.E) (hvp:∃ty y,ev p=.iface ty y) (hvq:∃ty y,ev q=.iface ty y) (hx:x=Mil.wMin∨x=Mil.wMax) (hl:(Mil.txt p).length≤24000) (hl2:(Mil.txt q).length≤24000) (hp:TC a p) (hq:TC a q):TC a (Mil.eLeast x p q):=by
 intro w hP
 have HP:=hid hP
 clear hP
 obtain ⟨tp,yp,hep⟩:=hvp
 obtain ⟨tq,yq,heq⟩:=hvq
 have C1:Hid (∀w',Pl a w'→Calls Tryz.prog 243 #[.iface tp yp] w' (TxPost (Mil.txt p) w')):=by
  intro w' h
  rw [←hep]
  exact hp w' h
 have C2:Hid (∀w',Pl a w'→Calls Tryz.prog 243 #[.iface tq yq] w' (TxPost (Mil.txt q) w')):=by
  intro w' h
  rw [←heq]
  exact hq w' h
 have HL3:Hid (x.length≤5):=by show x.length≤5;rcases hx with rfl | rfl <;> decide
 have HL:Hid (∀x,x∈[Mil.txt p,Mil.txt q]→x.length≤24000):=by
  intro x hx
  simp only [List.mem_cons,List.not_mem_nil,or_false] at hx
  rcases hx with rfl | rfl
  ·exact hl
  ·exact hl2
 have HG:Hid (Ending.returned (.string (bs (x++(Mil.sOpen++(Lib.join [Mil.txt p,Mil.txt q] Mil.commaB++Mil.sShut)))))=.returned (.string (bs (Mil.txt (Mil.eLeast x p q))))):=by
  show _=_
  rw [join2]
  refine congrArg (fun z=>Ending.returned (Value.string (bs z))) ?_
  show _=(x++Mil.sOpen++Mil.txt p++Mil.commaB++Mil.txt q++Mil.sShut)
  simp only [List.append_assoc]
 clear hl hl2 hp hq hx
 have s0:=as_least_int
 have s1:=as_least_bool
 have s2:=as_least_name
 have s3:=as_least_pre
 have s4:=as_least_two
 have s5:=as_least_if
 have s6:=as_least_fby
 have s7:=as_least_under
 have s8:=as_least_hold
 have s9:=as_least_least
 show Calls Tryz.prog 243 #[.iface 305 (.agg #[.string (bs x),ev p,ev q])] w _
 rw [hep,heq]
 clear hep heq
 go_enter Tryz.func243,Tryz.ntmps243
 go_wp2_with fail
 have k0:∀w',Below (w.alloc (.cells #[.string (bs x),.iface tp yp,.iface tq yq] 305)).heap.size (w.alloc (.cells #[.string (bs x),.iface tp yp,.iface tq yq] 305)) w'→w'.cell? ⟨w.heap.size,0,none⟩=some (.string (bs x)):=fun w' hb=>(hb.cell (by simp)).trans (by simp)
 have k1:∀w',Below (w.alloc (.cells #[.string (bs x),.iface tp yp,.iface tq yq] 305)).heap.size (w.alloc (.cells #[.string (bs x),.iface tp yp,.iface tq yq] 305)) w'→w'.cell? ⟨w.heap.size,1,none⟩=some (.iface tp yp):=fun w' hb=>(hb.cell (by simp)).trans (by simp)
 have k2:∀w',Below (w.alloc (.cells #[.string (bs x),.iface tp yp,.iface tq yq] 305)).heap.size (w.alloc (.cells #[.string (bs x),.iface tp yp,.iface tq yq] 305)) w'→w'.cell? ⟨w.heap.size,2,none⟩=some (.iface tq yq):=fun w' hb=>(hb.cell (by simp)).trans (by simp)
 have HB:Hid (Below w.heap.size w (w.alloc (.cells #[.string (bs x),.iface tp yp,.iface tq yq] 305))):=(Below.refl _ _).alloc (Nat.le_refl _) _
 clear s0 s1 s2 s3 s4 s5 s6 s7 s8 s9
 generalize hW:w.alloc (.cells #[.string (bs x),.iface tp yp,.iface tq yq] 305)=W at HB k0 k1 k2 ⊢
 have HPW:=hid (HP.out.below HB)
 have HBW:=hid HB
 clear hW HB HP
 go_region_held3 (fun w'=>Below W.heap.size W w') (first | assumption | exact (Below.refl _ _).drew | exact Below.alloc (by assumption) (Below.size (by assumption)) _) (first
  | (go_at_call 243;(with_reducible refine (C1.out _ ?_).mono ?_);exact HPW.out.below (by assumption);rintro e w3 ⟨rfl,hbw3⟩;have hBw3:Below W.heap.size W w3:=below_step (by assumption) hbw3)
  | (go_at_call 243;(with_reducible refine (C2.out _ ?_).mono ?_);exact HPW.out.below (by assumption);rintro e w4 ⟨rfl,hbw4⟩;have hBw4:Below W.heap.size W w4:=below_step (by assumption) hbw4)
  | (go_at_call 247;refine (callText_any x HL3.out [Mil.txt p,Mil.txt q] (by simp) (by simp) HL.out _ _ (heap_alloc_new _ _)).mono ?_;rintro e w9 ⟨rfl,hbw9⟩;have hBw9:Below W.heap.size W w9:=below_step (by assumption) hbw9))
 all_goals go_wp2
 all_goals go_ret
 all_goals exact ⟨HG.out,below_step HBW.out (by assumption)⟩
end
end Go.Proofs.YtoiajojadihpbaaGreatDoor
