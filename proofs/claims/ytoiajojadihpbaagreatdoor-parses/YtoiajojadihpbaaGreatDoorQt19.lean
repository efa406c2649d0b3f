import Derived.Test.YtoiajojadihpbaaGreatDoorQt18
import Derived.Test.YtoiajojadihpbaaGreatDoorQt17
import Derived.Test.YtoiajojadihpbaaGreatDoorQt15
import Derived.Test.YtoiajojadihpbaaGreatDoorQt06
import Derived.Test.YtoiajojadihpbaaGreatDoorQt01
import Derived.Lib.Strings
namespace Go.Proofs.YtoiajojadihpbaaGreatDoor
set_option maxHeartbeats 8000000
set_option maxRecDepth 100000
section
open Go.RowKit
namespace Mil
def lineText (i:It):Bytes:=
 if i.kind=1 then wInput++blank++i.nm++colonB++tyText i.ty++blank++wEvery++blank++Lib.decDigits i.every
 else if i.kind=2 then wOutput++blank++namesText i.names
 else i.nm++colonB++tyText i.ty++isB++txt i.body
theorem item_line (i:It):itemText i=lineText i++endB:=by
 unfold itemText lineText
 split
 ·rfl
 ·split <;> rfl
theorem more_join:∀r:List Bytes,moreText r=Lib.joinTail commaB r
 | []=>rfl
 | y::r=>by
  rw[moreText,more_join r]
  simp[Lib.joinTail]
theorem names_join (x:Bytes) (r:List Bytes):namesText (x::r)=Lib.join (x::r) commaB:=by
 rw[namesText_cons,Lib.join_cons,more_join]
end Mil
theorem line_input0 (a:Nat->Addr) (nm:Mil.Bytes) (hn:nm.length<=12) (k:Nat) (hk:k<=1000000) (w:World) (hP:Pl a w) :
  Calls Tryz.prog 235 #[.agg #[.string (bs nm),.int .i64 0,.int .i64 (k:Nat)]] w (TxPost (Mil.lineText ⟨1,nm,0,k,[],Mil.eNil⟩) w):=by
 have HP:=hid hP
 obtain⟨tq,hty⟩:=hP.l.types
 have cty:w.cell? ⟨20,0,none⟩=some (.string (bs Mil.wInt)):=by rw[cor w _ 0 _ _ _ hty];rfl
 have z9:(bs Mil.wInt).size=3:=rfl
 have HK:Hid ((k:Int)<=Mil.maxInt):=by show _<=_;simp only[Mil.maxInt];omega
 have z1:(bs nm).size<=12:=by rw[bs_size];exact hn
 have z2:(bs (Lib.decDigits k)).size<=20:=by rw[bs_size];exact Mil.digits_len HK.out
 have n1:¬9223372036854775807 < 6+(bs nm).size:=by omega
 have n2:¬9223372036854775807 < 6+(bs nm).size+3:=by omega
 have n3:¬9223372036854775807 < 6+(bs nm).size+3+(bs Mil.wInt).size:=by omega
 have n4:¬9223372036854775807 < 6+(bs nm).size+3+(bs Mil.wInt).size+7:=by omega
 have n5:¬9223372036854775807 < 6+(bs nm).size+3+(bs Mil.wInt).size+7+(bs (Lib.decDigits k)).size:=by omega
 have HG:Hid (Ending.returned (.string (bs (Mil.wInput++Mil.blank)++bs nm++bs Mil.colonB++bs Mil.wInt++bs (Mil.blank++Mil.wEvery++Mil.blank)++bs (Lib.decDigits k)))=.returned (.string (bs (Mil.lineText ⟨1,nm,0,k,[],Mil.eNil⟩)))):=by
  show _=_
  rw[bs_add,bs_add,bs_add,bs_add,bs_add]
  refine congrArg (fun z=>Ending.returned (Value.string (bs z))) ?_
  simp only[Mil.lineText,if_true,List.append_assoc]
  try rfl
 clear hP hty z9 z1 z2 hn hk
 go_enter Tryz.func235,Tryz.ntmps235
 go_wp2_with fail
 have k0:∀w',Below (w.alloc (.cells #[.string (bs nm),.int .i64 0,.int .i64 (k:Nat)] 259)).heap.size (w.alloc (.cells #[.string (bs nm),.int .i64 0,.int .i64 (k:Nat)] 259)) w'->w'.cell? ⟨w.heap.size,0,none⟩=some (.string (bs nm)):=fun w' hb=>(hb.cell (by simp)).trans (by simp)
 have k1:∀w',Below (w.alloc (.cells #[.string (bs nm),.int .i64 0,.int .i64 (k:Nat)] 259)).heap.size (w.alloc (.cells #[.string (bs nm),.int .i64 0,.int .i64 (k:Nat)] 259)) w'->w'.cell? ⟨w.heap.size,1,none⟩=some (.int .i64 0):=fun w' hb=>(hb.cell (by simp)).trans (by simp)
 have k2:∀w',Below (w.alloc (.cells #[.string (bs nm),.int .i64 0,.int .i64 (k:Nat)] 259)).heap.size (w.alloc (.cells #[.string (bs nm),.int .i64 0,.int .i64 (k:Nat)] 259)) w'->w'.cell? ⟨w.heap.size,2,none⟩=some (.int .i64 (k:Nat)):=fun w' hb=>(hb.cell (by simp)).trans (by simp)
 have HB:=bRow w #[.string (bs nm),.int .i64 0,.int .i64 (k:Nat)] 259
 have k9:∀w',Below (w.alloc (.cells #[.string (bs nm),.int .i64 0,.int .i64 (k:Nat)] 259)).heap.size (w.alloc (.cells #[.string (bs nm),.int .i64 0,.int .i64 (k:Nat)] 259)) w'->w'.cell? ⟨20,0,none⟩=some (.string (bs Mil.wInt)):=fun w' hb=>by
  have hb':Below w.heap.size w w':=below_step HB hb
  exact (hb'.cell (lt_of_cell cty)).trans cty
 generalize hW:w.alloc (.cells #[.string (bs nm),.int .i64 0,.int .i64 (k:Nat)] 259)=W at HB k0 k1 k2 k9 ⊢
 have HPW:=hid (HP.out.below HB)
 have HBW:=hid HB
 clear hW HB HP cty
 go_region_held3 (fun w'=>Below W.heap.size W w') (first|assumption|exact brf.drew|exact Below.alloc (by assumption) (Below.size (by assumption)) _) (first
  | (go_at_call 236;refine (formatInt_any a k HK.out _ ?_).mono ?_;exact HPW.out.below (by assumption);rintro e w3 ⟨rfl,hbw3⟩;have hBw3:Below W.heap.size W w3:=below_step (by assumption) hbw3))
 all_goals go_wp2
 all_goals go_ret
 all_goals exact⟨HG.out,below_step HBW.out (by assumption)⟩
theorem line_eq0 (a:Nat->Addr) (nm:Mil.Bytes) (hn:nm.length<=12) (p:Mil.E) (tp:TypeId) (yp:Value) (hep:ev p=.iface tp yp) (hl:(Mil.txt p).length<=24000) (hp:TC a p) (w:World) (hP:Pl a w) :
  Calls Tryz.prog 242 #[.agg #[.string (bs nm),.int .i64 0,.iface tp yp]] w (TxPost (Mil.lineText ⟨3,nm,0,0,[],p⟩) w):=by
 have HP:=hid hP
 obtain⟨tq,hty⟩:=hP.l.types
 have cty:w.cell? ⟨20,0,none⟩=some (.string (bs Mil.wInt)):=by rw[cor w _ 0 _ _ _ hty];rfl
 have z9:(bs Mil.wInt).size=3:=rfl
 have C1:Hid (∀w',Pl a w'->Calls Tryz.prog 243 #[.iface tp yp] w' (TxPost (Mil.txt p) w')):=by
  intro w' h
  rw[<-hep]
  exact hp w' h
 have z1:(bs nm).size<=12:=by rw[bs_size];exact hn
 have z2:(bs (Mil.txt p)).size<=24000:=by rw[bs_size];exact hl
 have n1:¬9223372036854775807 < (bs nm).size+3:=by omega
 have n2:¬9223372036854775807 < (bs nm).size+3+(bs Mil.wInt).size:=by omega
 have n3:¬9223372036854775807 < (bs nm).size+3+(bs Mil.wInt).size+3:=by omega
 have n4:¬9223372036854775807 < (bs nm).size+3+(bs Mil.wInt).size+3+(bs (Mil.txt p)).size:=by omega
 have HG:Hid (Ending.returned (.string (bs nm++bs Mil.colonB++bs Mil.wInt++bs Mil.isB++bs (Mil.txt p)))=.returned (.string (bs (Mil.lineText ⟨3,nm,0,0,[],p⟩)))):=by
  show _=_
  rw[bs_add,bs_add,bs_add,bs_add]
  refine congrArg (fun z=>Ending.returned (Value.string (bs z))) ?_
  simp only[Mil.lineText,List.append_assoc]
  try rfl
 clear hP hty z9 z1 z2 hn hl hp hep
 go_enter Tryz.func242,Tryz.ntmps242
 go_wp2_with fail
 have k0:∀w',Below (w.alloc (.cells #[.string (bs nm),.int .i64 0,.iface tp yp] 266)).heap.size (w.alloc (.cells #[.string (bs nm),.int .i64 0,.iface tp yp] 266)) w'->w'.cell? ⟨w.heap.size,0,none⟩=some (.string (bs nm)):=fun w' hb=>(hb.cell (by simp)).trans (by simp)
 have k1:∀w',Below (w.alloc (.cells #[.string (bs nm),.int .i64 0,.iface tp yp] 266)).heap.size (w.alloc (.cells #[.string (bs nm),.int .i64 0,.iface tp yp] 266)) w'->w'.cell? ⟨w.heap.size,1,none⟩=some (.int .i64 0):=fun w' hb=>(hb.cell (by simp)).trans (by simp)
 have k2:∀w',Below (w.alloc (.cells #[.string (bs nm),.int .i64 0,.iface tp yp] 266)).heap.size (w.alloc (.cells #[.string (bs nm),.int .i64 0,.iface tp yp] 266)) w'->w'.cell? ⟨w.heap.size,2,none⟩=some (.iface tp yp):=fun w' hb=>(hb.cell (by simp)).trans (by simp)
 have HB:=bRow w #[.string (bs nm),.int .i64 0,.iface tp yp] 266
 have k9:∀w',Below (w.alloc (.cells #[.string (bs nm),.int .i64 0,.iface tp yp] 266)).heap.size (w.alloc (.cells #[.string (bs nm),.int .i64 0,.iface tp yp] 266)) w'->w'.cell? ⟨20,0,none⟩=some (.string (bs Mil.wInt)):=fun w' hb=>by
  have hb':Below w.heap.size w w':=below_step HB hb
  exact (hb'.cell (lt_of_cell cty)).trans cty
 generalize hW:w.alloc (.cells #[.string (bs nm),.int .i64 0,.iface tp yp] 266)=W at HB k0 k1 k2 k9 ⊢
 have HPW:=hid (HP.out.below HB)
 have HBW:=hid HB
 clear hW HB HP cty
 go_region_held3 (fun w'=>Below W.heap.size W w') (first|assumption|exact brf.drew|exact Below.alloc (by assumption) (Below.size (by assumption)) _) (first
  | (go_at_call 243;(with_reducible refine (C1.out _ ?_).mono ?_);exact HPW.out.below (by assumption);rintro e w3 ⟨rfl,hbw3⟩;have hBw3:Below W.heap.size W w3:=below_step (by assumption) hbw3))
 all_goals go_wp2
 all_goals go_ret
 all_goals exact⟨HG.out,below_step HBW.out (by assumption)⟩
theorem line_input1 (a:Nat->Addr) (nm:Mil.Bytes) (hn:nm.length<=12) (k:Nat) (hk:k<=1000000) (w:World) (hP:Pl a w) :
  Calls Tryz.prog 235 #[.agg #[.string (bs nm),.int .i64 1,.int .i64 (k:Nat)]] w (TxPost (Mil.lineText ⟨1,nm,1,k,[],Mil.eNil⟩) w):=by
 have HP:=hid hP
 obtain⟨tq,hty⟩:=hP.l.types
 have cty:w.cell? ⟨20,1,none⟩=some (.string (bs Mil.wBool)):=by rw[cor w _ 1 _ _ _ hty];rfl
 have z9:(bs Mil.wBool).size=4:=rfl
 have HK:Hid ((k:Int)<=Mil.maxInt):=by show _<=_;simp only[Mil.maxInt];omega
 have z1:(bs nm).size<=12:=by rw[bs_size];exact hn
 have z2:(bs (Lib.decDigits k)).size<=20:=by rw[bs_size];exact Mil.digits_len HK.out
 have n1:¬9223372036854775807 < 6+(bs nm).size:=by omega
 have n2:¬9223372036854775807 < 6+(bs nm).size+3:=by omega
 have n3:¬9223372036854775807 < 6+(bs nm).size+3+(bs Mil.wBool).size:=by omega
 have n4:¬9223372036854775807 < 6+(bs nm).size+3+(bs Mil.wBool).size+7:=by omega
 have n5:¬9223372036854775807 < 6+(bs nm).size+3+(bs Mil.wBool).size+7+(bs (Lib.decDigits k)).size:=by omega
 have HG:Hid (Ending.returned (.string (bs (Mil.wInput++Mil.blank)++bs nm++bs Mil.colonB++bs Mil.wBool++bs (Mil.blank++Mil.wEvery++Mil.blank)++bs (Lib.decDigits k)))=.returned (.string (bs (Mil.lineText ⟨1,nm,1,k,[],Mil.eNil⟩)))):=by
  show _=_
  rw[bs_add,bs_add,bs_add,bs_add,bs_add]
  refine congrArg (fun z=>Ending.returned (Value.string (bs z))) ?_
  simp only[Mil.lineText,if_true,List.append_assoc]
  try rfl
 clear hP hty z9 z1 z2 hn hk
 go_enter Tryz.func235,Tryz.ntmps235
 go_wp2_with fail
 have k0:∀w',Below (w.alloc (.cells #[.string (bs nm),.int .i64 1,.int .i64 (k:Nat)] 259)).heap.size (w.alloc (.cells #[.string (bs nm),.int .i64 1,.int .i64 (k:Nat)] 259)) w'->w'.cell? ⟨w.heap.size,0,none⟩=some (.string (bs nm)):=fun w' hb=>(hb.cell (by simp)).trans (by simp)
 have k1:∀w',Below (w.alloc (.cells #[.string (bs nm),.int .i64 1,.int .i64 (k:Nat)] 259)).heap.size (w.alloc (.cells #[.string (bs nm),.int .i64 1,.int .i64 (k:Nat)] 259)) w'->w'.cell? ⟨w.heap.size,1,none⟩=some (.int .i64 1):=fun w' hb=>(hb.cell (by simp)).trans (by simp)
 have k2:∀w',Below (w.alloc (.cells #[.string (bs nm),.int .i64 1,.int .i64 (k:Nat)] 259)).heap.size (w.alloc (.cells #[.string (bs nm),.int .i64 1,.int .i64 (k:Nat)] 259)) w'->w'.cell? ⟨w.heap.size,2,none⟩=some (.int .i64 (k:Nat)):=fun w' hb=>(hb.cell (by simp)).trans (by simp)
 have HB:=bRow w #[.string (bs nm),.int .i64 1,.int .i64 (k:Nat)] 259
 have k9:∀w',Below (w.alloc (.cells #[.string (bs nm),.int .i64 1,.int .i64 (k:Nat)] 259)).heap.size (w.alloc (.cells #[.string (bs nm),.int .i64 1,.int .i64 (k:Nat)] 259)) w'->w'.cell? ⟨20,1,none⟩=some (.string (bs Mil.wBool)):=fun w' hb=>by
  have hb':Below w.heap.size w w':=below_step HB hb
  exact (hb'.cell (lt_of_cell cty)).trans cty
 generalize hW:w.alloc (.cells #[.string (bs nm),.int .i64 1,.int .i64 (k:Nat)] 259)=W at HB k0 k1 k2 k9 ⊢
 have HPW:=hid (HP.out.below HB)
 have HBW:=hid HB
 clear hW HB HP cty
 go_region_held3 (fun w'=>Below W.heap.size W w') (first|assumption|exact brf.drew|exact Below.alloc (by assumption) (Below.size (by assumption)) _) (first
  | (go_at_call 236;refine (formatInt_any a k HK.out _ ?_).mono ?_;exact HPW.out.below (by assumption);rintro e w3 ⟨rfl,hbw3⟩;have hBw3:Below W.heap.size W w3:=below_step (by assumption) hbw3))
 all_goals go_wp2
 all_goals go_ret
 all_goals exact⟨HG.out,below_step HBW.out (by assumption)⟩
theorem line_eq1 (a:Nat->Addr) (nm:Mil.Bytes) (hn:nm.length<=12) (p:Mil.E) (tp:TypeId) (yp:Value) (hep:ev p=.iface tp yp) (hl:(Mil.txt p).length<=24000) (hp:TC a p) (w:World) (hP:Pl a w) :
  Calls Tryz.prog 242 #[.agg #[.string (bs nm),.int .i64 1,.iface tp yp]] w (TxPost (Mil.lineText ⟨3,nm,1,0,[],p⟩) w):=by
 have HP:=hid hP
 obtain⟨tq,hty⟩:=hP.l.types
 have cty:w.cell? ⟨20,1,none⟩=some (.string (bs Mil.wBool)):=by rw[cor w _ 1 _ _ _ hty];rfl
 have z9:(bs Mil.wBool).size=4:=rfl
 have C1:Hid (∀w',Pl a w'->Calls Tryz.prog 243 #[.iface tp yp] w' (TxPost (Mil.txt p) w')):=by
  intro w' h
  rw[<-hep]
  exact hp w' h
 have z1:(bs nm).size<=12:=by rw[bs_size];exact hn
 have z2:(bs (Mil.txt p)).size<=24000:=by rw[bs_size];exact hl
 have n1:¬9223372036854775807 < (bs nm).size+3:=by omega
 have n2:¬9223372036854775807 < (bs nm).size+3+(bs Mil.wBool).size:=by omega
 have n3:¬9223372036854775807 < (bs nm).size+3+(bs Mil.wBool).size+3:=by omega
 have n4:¬9223372036854775807 < (bs nm).size+3+(bs Mil.wBool).size+3+(bs (Mil.txt p)).size:=by omega
 have HG:Hid (Ending.returned (.string (bs nm++bs Mil.colonB++bs Mil.wBool++bs Mil.isB++bs (Mil.txt p)))=.returned (.string (bs (Mil.lineText ⟨3,nm,1,0,[],p⟩)))):=by
  show _=_
  rw[bs_add,bs_add,bs_add,bs_add]
  refine congrArg (fun z=>Ending.returned (Value.string (bs z))) ?_
  simp only[Mil.lineText,List.append_assoc]
  try rfl
 clear hP hty z9 z1 z2 hn hl hp hep
 go_enter Tryz.func242,Tryz.ntmps242
 go_wp2_with fail
 have k0:∀w',Below (w.alloc (.cells #[.string (bs nm),.int .i64 1,.iface tp yp] 266)).heap.size (w.alloc (.cells #[.string (bs nm),.int .i64 1,.iface tp yp] 266)) w'->w'.cell? ⟨w.heap.size,0,none⟩=some (.string (bs nm)):=fun w' hb=>(hb.cell (by simp)).trans (by simp)
 have k1:∀w',Below (w.alloc (.cells #[.string (bs nm),.int .i64 1,.iface tp yp] 266)).heap.size (w.alloc (.cells #[.string (bs nm),.int .i64 1,.iface tp yp] 266)) w'->w'.cell? ⟨w.heap.size,1,none⟩=some (.int .i64 1):=fun w' hb=>(hb.cell (by simp)).trans (by simp)
 have k2:∀w',Below (w.alloc (.cells #[.string (bs nm),.int .i64 1,.iface tp yp] 266)).heap.size (w.alloc (.cells #[.string (bs nm),.int .i64 1,.iface tp yp] 266)) w'->w'.cell? ⟨w.heap.size,2,none⟩=some (.iface tp yp):=fun w' hb=>(hb.cell (by simp)).trans (by simp)
 have HB:=bRow w #[.string (bs nm),.int .i64 1,.iface tp yp] 266
 have k9:∀w',Below (w.alloc (.cells #[.string (bs nm),.int .i64 1,.iface tp yp] 266)).heap.size (w.alloc (.cells #[.string (bs nm),.int .i64 1,.iface tp yp] 266)) w'->w'.cell? ⟨20,1,none⟩=some (.string (bs Mil.wBool)):=fun w' hb=>by
  have hb':Below w.heap.size w w':=below_step HB hb
  exact (hb'.cell (lt_of_cell cty)).trans cty
 generalize hW:w.alloc (.cells #[.string (bs nm),.int .i64 1,.iface tp yp] 266)=W at HB k0 k1 k2 k9 ⊢
 have HPW:=hid (HP.out.below HB)
 have HBW:=hid HB
 clear hW HB HP cty
 go_region_held3 (fun w'=>Below W.heap.size W w') (first|assumption|exact brf.drew|exact Below.alloc (by assumption) (Below.size (by assumption)) _) (first
  | (go_at_call 243;(with_reducible refine (C1.out _ ?_).mono ?_);exact HPW.out.below (by assumption);rintro e w3 ⟨rfl,hbw3⟩;have hBw3:Below W.heap.size W w3:=below_step (by assumption) hbw3))
 all_goals go_wp2
 all_goals go_ret
 all_goals exact⟨HG.out,below_step HBW.out (by assumption)⟩
theorem line_out (x:Mil.Bytes) (r:List Mil.Bytes) (hx:∀y,y∈x::r->y.length<=12) (hr:r.length<=600) (b:Nat) (v:Value) (w:World) (ho:w.ownsRow b 9 1 v (x::r).length (strs (x::r))) :
  Calls Tryz.prog 237 #[.agg #[v]] w (TxPost (Mil.lineText ⟨2,[],0,0,x::r,Mil.eNil⟩) w):=by
 obtain⟨hl,⟨rfl,h0⟩|⟨g,cap,cur,rfl,hb,hg,hn,hm,hsz,htk⟩⟩:=ho
 ·simp at h0
 have hjl:(Lib.join (x::r) Mil.commaB).length<=20000:=by
  rw[Lib.join_length]
  have lens:∀l:List Mil.Bytes,(∀y,y∈l->y.length<=12)->Lib.lens l<=12*l.length:=by
   intro l
   induction l with
   | nil=>intro _;simp[Lib.lens]
   | cons y l ih=>
    intro h
    have h1:=h y (by simp)
    have h2:=ih (fun z hz=>h z (by simp[hz]))
    simp[Lib.lens] at h2 ⊢
    omega
  have:=lens (x::r) hx
  simp[Mil.commaB] at this ⊢
  omega
 have hcell:∀w',Below w.heap.size w w'->∀(j:Nat) (y:ByteArray),((x::r).map bs)[j]?=some y->w'.cell? ⟨g,0+j,none⟩=some (.string y):=by
  intro w' hw j y hj
  have hlt:g < w.heap.size:=(ags hg).1
  rw[hw.cell (p:=⟨g,0+j,none⟩) hlt,cor w g (0+j) _ _ _ hg,Nat.zero_add]
  have h1:(strs (x::r))[j]?=some (.string y):=by
   rw[List.getElem?_map] at hj ⊢
   obtain⟨z,hz,rfl⟩:=oms hj
   rw[hz];rfl
  rw[<-htk,List.getElem?_take] at h1
  split at h1
  ·simpa using h1
  ·cases h1
 have e1:(((x::r).map bs).map (fun y:ByteArray=>y.data.toList))=x::r:=by
  rw[List.map_map]
  exact List.map_id _
 have hJ:Hid (∀w',Below w.heap.size w w'->Calls Tryz.prog 238 #[.slice (some ⟨g,0,none⟩) (x::r).length cap,.string (bs Mil.commaB)] w' (TxPost (Mil.namesText (x::r)) w')):=by
  intro w' hw
  have hlt:g < w'.heap.size:=Nat.lt_of_lt_of_le (ags hg).1 hw.size
  have hj:=Tryz.strings_Join g 0 cap ((x::r).map bs) (bs Mil.commaB) w' (hcell w' hw) hlt (by simp;omega) (by rw[List.length_map];exact hn) (by rw[e1];exact Nat.le_trans hjl (by decide))
  rw[e1,List.length_map] at hj
  rw[Mil.names_join]
  exact hj
 have z1:(bs (Mil.namesText (x::r))).size<=20000:=by rw[bs_size,Mil.names_join];exact hjl
 have HG:Hid (Ending.returned (.string (bs (Mil.wOutput++Mil.blank)++bs (Mil.namesText (x::r))))=.returned (.string (bs (Mil.lineText ⟨2,[],0,0,x::r,Mil.eNil⟩)))):=by
  show _=_
  rw[bs_add]
  rfl
 generalize hN:Mil.namesText (x::r)=nt at *
 generalize (x::r).length=ln at *
 clear hjl hcell e1 htk hsz hg hl hx hr hN hb hm hn
 go_enter Tryz.func237,Tryz.ntmps237
 go_wp2_with fail
 have HB:Below w.heap.size w (w.alloc (.cells #[.slice (some ⟨g,0,none⟩) ln cap] 261)):=brf.alloc nlr _
 refine (hJ.out _ HB).mono ?_
 rintro e w1 ⟨rfl,hb1⟩
 have HB1:=hid (below_step HB hb1)
 clear HB hb1
 go_wp2
 go_ret
 exact⟨HG.out,HB1.out⟩
end
section
open Go.RowKit
namespace Mil
theorem print_lines (l:List It):print l=lines (l.map lineText):=by
 unfold print lines
 rw[List.map_map]
 congr 1
 apply List.map_congr_left
 intro i _
 exact item_line i
theorem toks_of_mem {l:List It} {i:It} (h:i∈l) (hl:(allToks l).length<=600):(itemToks i).length<=600:=by
 refine Nat.le_trans ?_ hl
 unfold allToks
 exact List.Sublist.length_le (List.sublist_flatten_of_mem (List.mem_map_of_mem h))
theorem out_toks {x:Bytes} {r:List Bytes} (ht:(itemToks ⟨2,[],0,0,x::r,eNil⟩).length<=600):r.length<=600:=by
 have h1:(fix wOutput::nam x::(moreToks r++[fix sSemi])).length<=600:=ht
 rw[List.length_cons,List.length_cons,List.length_append,moreToks_len] at h1
 omega
theorem eq_toks {x:Bytes} {t:Nat} {e:E} (ht:(itemToks ⟨3,x,t,0,[],e⟩).length<=600):(toks e).length<=600:=by
 have h1:(nam x::fix sColon::fix (tyText t)::fix sIs::(toks e++[fix sSemi])).length<=600:=ht
 simp only[List.length_cons,List.length_append] at h1
 omega
theorem more_len:∀r:List Bytes,(∀y,y∈r->y.length<=12)->(moreText r).length<=14*r.length
 | [],_=>by simp[moreText]
 | y::r,h=>by
  have h1:=h y (by simp)
  have h2:=more_len r (fun z hz=>h z (by simp[hz]))
  rw[moreText]
  simp only[List.length_append,commaB,List.length_cons,List.length_nil]
  omega
theorem ty_len (t:Nat):(tyText t).length<=4:=by
 unfold tyText
 split <;> decide
theorem line_len {i:It} (h:ItOk i) (ht:(itemToks i).length<=600):(lineText i).length<=30000:=by
 rcases h with ⟨x,t,k,rfl,hx,_,_,hk⟩|⟨x,r,rfl,hx,hr⟩|⟨x,t,e,rfl,hx,_,he⟩
 ·have h1:=hx.2.2.1
  have h2:=digits_len (k:=k) (by simp only[maxInt];omega)
  have h3:=ty_len t
  show (wInput++blank++x++colonB++tyText t++blank++wEvery++blank++Lib.decDigits k).length<=30000
  simp only[List.length_append,wInput,blank,colonB,wEvery,List.length_cons,List.length_nil]
  omega
 ·have h1:=hx.2.2.1
  have h2:=more_len r (fun y hy=>(hr y hy).2.2.1)
  have h3:=out_toks ht
  show (wOutput++blank++namesText (x::r)).length<=30000
  rw[namesText_cons]
  simp only[List.length_append,wOutput,blank,List.length_cons,List.length_nil]
  omega
 ·have h1:=hx.2.2.1
  have h2:=short he (eq_toks ht)
  have h3:=ty_len t
  show (x++colonB++tyText t++isB++txt e).length<=30000
  simp only[List.length_append,colonB,isB,List.length_cons,List.length_nil]
  omega
end Mil
theorem line_any (a:Nat->Addr) (W:World) (hP:Pl a W) (b:Nat) (i:Mil.It) (hi:Mil.ItOk i) (ht:(Mil.itemToks i).length<=600) (v:Value) (hv:Iv W b i v):∃fn ty y,v=.iface ty y/\LineOk W (Mil.lineText i) fn ty y:=by
 rcases hi with ⟨x,t,k,rfl,hx,hty,_,hk⟩|⟨x,r,rfl,hx,hr⟩|⟨x,t,e,rfl,hx,hty,he⟩
 ·rcases hv with ⟨_,rfl⟩|⟨h,_⟩|⟨h,_⟩
  ·refine⟨_,_,_,rfl,Or.inl ⟨rfl,rfl⟩,fun w hb=>?_⟩
   rcases hty with rfl|rfl
   ·exact line_input0 a x hx.2.2.1 k hk w (hP.below hb)
   ·exact line_input1 a x hx.2.2.1 k hk w (hP.below hb)
  ·cases h
  ·cases h
 ·rcases hv with ⟨h,_⟩|⟨_,r',rfl,ho⟩|⟨h,_⟩
  ·cases h
  ·refine⟨_,_,_,rfl,Or.inr (Or.inl ⟨rfl,rfl⟩),fun w hb=>?_⟩
   exact line_out x r (fun y hy=>by
    rcases List.mem_cons.1 hy with rfl|hy
    ·exact hx.2.2.1
    ·exact (hr y hy).2.2.1) (Mil.out_toks ht) (b+1) r' w (own_below ho hb)
  ·cases h
 ·rcases hv with ⟨h,_⟩|⟨h,_⟩|⟨_,rfl⟩
  ·cases h
  ·cases h
  ·refine⟨_,_,_,rfl,Or.inr (Or.inr ⟨rfl,rfl⟩),fun w hb=>?_⟩
   obtain⟨tp,yp,hep⟩:=ev_shape e he
   have h6:=Mil.eq_toks ht
   show Calls Tryz.prog 242 #[.agg #[.string (bs x),.int .i64 (t:Nat),ev e]] w _
   rw[hep]
   rcases hty with rfl|rfl
   ·exact line_eq0 a x hx.2.2.1 e tp yp hep (short he h6) (exprText_any a e he h6) w (hP.below hb)
   ·exact line_eq1 a x hx.2.2.1 e tp yp hep (short he h6) (exprText_any a e he h6) w (hP.below hb)
theorem print_any (a:Nat->Addr) (l:List Mil.It) (r:Mil.Bytes) (hr:Mil.Parsed r l) (t b:Nat) (o:Option Addr) (n c:Nat) (w:World) (hP:Pl a w) (ht:w.heap[t]?=some (.cells #[.slice o n c] 113 (0,0))) (hR:Row w b l (.slice o n c)) :
  Calls Tryz.prog 18 #[.pointer (some ⟨t,0,none⟩)] w (TxPost (Mil.print l) w):=by
 obtain⟨hok,h60,hall⟩:=Mil.parsed_ok hr
 obtain⟨vs,ho,hlen,hiv⟩:=hR
 rw[Mil.print_lines]
 obtain⟨hvl,⟨he,h0⟩|⟨g,cap,cur,he,hbg,hgg,hcap,hmx,hsz,htk⟩⟩:=ho
 ·have hl:l=[]:=List.length_eq_zero_iff.1 h0
  subst hl
  rw[he] at ht
  exact print_empty w t ht
 ·obtain⟨rfl,rfl,rfl⟩:o=some ⟨g,0,none⟩/\n=l.length/\c=cap:=by
   have h1:=Value.slice.inj he
   exact⟨h1.1,h1.2.1,h1.2.2⟩
  have hlt:g < w.heap.size:=(ags hgg).1
  have hw:=print_walk w t g c (l.map Mil.lineText) (by rw[List.length_map];exact h60) (fun x hx=>by
   obtain⟨i,hi,rfl⟩:=List.mem_map.1 hx
   exact Mil.line_len (hok i hi) (Mil.toks_of_mem hi hall)) (by rw[List.length_map];exact ht) hlt (by
   intro j x hj
   rw[List.getElem?_map] at hj
   obtain⟨i,hi,rfl⟩:=oms hj
   have hjl:j < l.length:=(lgs hi).1
   have hjv:j < vs.length:=by omega
   obtain⟨v,hv⟩:∃v,vs[j]?=some v:=⟨_,List.getElem?_eq_getElem hjv⟩
   have hm:=List.mem_of_getElem? hi
   obtain⟨fn,ty,y,e1,hL⟩:=line_any a w hP b i (hok i hm) (Mil.toks_of_mem hm hall) _ (hiv j i _ hi hv)
   refine⟨fn,ty,y,?_,hL⟩
   rw[cor w g j _ _ _ hgg,<-e1]
   rw[<-htk,List.getElem?_take] at hv
   split at hv
   ·simpa using hv
   ·cases hv)
  exact hw
end
section
open Go.RowKit
namespace Ref
open Mil
structure Tk where
 t:Bytes
 at_:Nat
 number:Bool
 name:Bool
 v:Nat
 e:Nat
def tokCells (k:Tk):List Value:=[.string (bs k.t),.int .i64 k.at_,.bool k.number,.bool k.name,.int .i64 k.v,.int .i64 k.e]
def tokV (k:Tk):Value:=.agg (tokCells k).toArray
def valueOf (x:Bytes):Nat:=x.foldl (fun n c=>10*n+(c.toNat - 48)) 0
def rvalue (x:Bytes):Option Nat:=if 19 < x.length\/(1 < x.length/\x.head?.map (·.toNat)=some 48) then none else if valueOf x<=9223372036854775807 then some (valueOf x) else none
def isOne (c:UInt8):Bool:=c.toNat==58 || c.toNat==59 || c.toNat==40 || c.toNat==41 || c.toNat==44 || c.toNat==43 || c.toNat==45 || c.toNat==42 || c.toNat==47 || c.toNat==37
def isTwo (c:UInt8):Bool:=c.toNat==61 || c.toNat==60 || c.toNat==62
def signLen:Bytes->Nat
 | []=>0
 | c::r=>if isOne c then 1 else if isTwo c then (if r.head?.map (·.toNat)=some 61 then 2 else 1) else if c.toNat=33 then (if r.head?.map (·.toNat)=some 61 then 2 else 0) else 0
def tokAt (r:Bytes) (p:Nat):Tk:=
 match r with
 | []=>⟨[],p,false,false,0,0⟩
 | c::_=>
  if isL c then ⟨r.takeWhile isN,p,false,!words.contains (r.takeWhile isN),0,if 12 < (r.takeWhile isN).length then 2 else 0⟩
  else if isD c then ⟨r.takeWhile isD,p,true,false,(rvalue (r.takeWhile isD)).getD 0,if (rvalue (r.takeWhile isD)).isSome then 0 else 2⟩
  else if signLen r=0 then ⟨[],p,false,false,0,2⟩ else ⟨r.take (signLen r),p,false,false,0,0⟩
def rnext (b:Bytes) (p:Nat):Tk:=tokAt (skip false (b.drop p)) (b.length - (skip false (b.drop p)).length)
theorem valueOf_snoc (x:Bytes) (c:UInt8):valueOf (x++[c])=10*valueOf x+(c.toNat - 48):=by
 unfold valueOf
 rw[List.foldl_append];rfl
theorem fold_mono:∀(y:Bytes) (n:Nat),n<=y.foldl (fun n c=>10*n+(c.toNat - 48)) n
 | [],n=>Nat.le_refl _
 | c::y,n=>by
  have:=fold_mono y (10*n+(c.toNat - 48))
  rw[List.foldl_cons]
  omega
theorem valueOf_take (x:Bytes) (i:Nat):valueOf (x.take i)<=valueOf x:=by
 have e:x.take i++x.drop i=x:=List.take_append_drop i x
 have h:valueOf (x.take i++x.drop i)=(x.drop i).foldl (fun n c=>10*n+(c.toNat - 48)) (valueOf (x.take i)):=by
  unfold valueOf
  rw[List.foldl_append]
 rw[e] at h
 rw[h]
 exact fold_mono _ _
end Ref
theorem letter_any (c:UInt8) (w:World):Calls Tryz.prog 126 #[.int .u8 c.toNat] w fun e w'=>e=.returned (.bool (Mil.isL c))/\w'=w:=by
 go_enter Tryz.func126,Tryz.ntmps126
 go_wp2
 all_goals
  go_ret
  refine⟨ret_bool ?_,rfl⟩
  unfold Mil.isL
  rw[Bool.eq_iff_iff];simp;omega
theorem digit_any (c:UInt8) (w:World):Calls Tryz.prog 127 #[.int .u8 c.toNat] w fun e w'=>e=.returned (.bool (Mil.isD c))/\w'=w:=by
 go_enter Tryz.func127,Tryz.ntmps127
 go_wp2
 all_goals
  go_ret
  refine⟨ret_bool ?_,rfl⟩
  unfold Mil.isD
  rw[Bool.eq_iff_iff];simp;omega
end
section
open Go.RowKit
namespace Ref
open Mil
structure Nd where
 kind:Nat
 t:Bytes
 at_:Nat
 v:Nat
 neg:Bool
 a:Nat
 b:Nat
 c:Nat
def ndCells (n:Nd):List Value:=[.int .i64 n.kind,.string (bs n.t),.int .i64 n.at_,.int .i64 n.v,.bool n.neg,.int .i64 n.a,.int .i64 n.b,.int .i64 n.c]
def ndV (n:Nd):Value:=.agg (ndCells n).toArray
structure Rs where
 p:Nat
 ns:List Nd
 fe:Nat
 fa:Nat
def tk0:Tk:=⟨[],0,false,false,0,0⟩
def now (T:List Tk) (s:Rs):Tk:=T.getD s.p tk0
def fail (T:List Tk) (e:Nat) (s:Rs):Rs:=if s.fe≠0 then s else { s with fe:=if (now T s).e≠0 then (now T s).e else e,fa:=(now T s).at_ }
def is (T:List Tk) (x:Bytes) (s:Rs):Bool:=s.fe==0 && (now T s).e==0 && (now T s).t==x && !(now T s).name
def up (s:Rs):Rs:={ s with p:=s.p+1 }
def take (T:List Tk) (x:Bytes) (s:Rs):Rs:=if is T x s then up s else fail T 3 s
def rname (T:List Tk) (s:Rs):Tk×Rs:=if s.fe=0/\(now T s).e=0/\(now T s).name=true then (now T s,up s) else (tk0,fail T 3 s)
def rnumber (T:List Tk) (lo hi:Nat) (s:Rs):Nat×Rs:=if s.fe=0/\(now T s).e=0/\(now T s).number=true/\lo<=(now T s).v/\(now T s).v<=hi then ((now T s).v,up s) else (lo,fail T 3 s)
def node (n:Nd) (s:Rs):Nat×Rs:=(s.ns.length,{ s with ns:=s.ns++[n] })
def rtyped (T:List Tk) (s:Rs):Nat×Rs:=if is T wBool s then (1,up s) else (0,take T wInt s)
def rconst (T:List Tk) (s:Rs):Nat×Rs:=
 if is T wTrue s then node ⟨2,[],(now T s).at_,1,false,0,0,0⟩ (up s)
 else if is T wFalse s then node ⟨2,[],(now T s).at_,0,false,0,0,0⟩ (up s)
 else if is T sMinus s then node ⟨1,[],(now T s).at_,(rnumber T 0 9223372036854775807 (up s)).1,true,0,0,0⟩ (rnumber T 0 9223372036854775807 (up s)).2
 else node ⟨1,[],(now T s).at_,(rnumber T 0 9223372036854775807 s).1,false,0,0,0⟩ (rnumber T 0 9223372036854775807 s).2
def level (x:Bytes):Nat:=
 if x=wOr\/x=wXor then 1 else if x=wAnd then 2 else if x=sLt\/x=sLe\/x=sGt\/x=sGe\/x=sEq\/x=sNe then 4
 else if x=sPlus\/x=sMinus then 5 else if x=sTimes\/x=sOver\/x=sRest then 6 else 0
def ratom (T:List Tk) (f:Nat->Nat->Rs->Option (Nat×Rs)) (s:Rs):Option (Nat×Rs):=
 if s.fe≠0 then some (0,s)
 else if (now T s).e=0/\(now T s).number=true then some (node ⟨1,[],(now T s).at_,(now T s).v,false,0,0,0⟩ (up s))
 else if (now T s).e=0/\(now T s).name=true then some (node ⟨3,(now T s).t,(now T s).at_,0,false,0,0,0⟩ (up s))
 else if (now T s).e≠0 then some (0,fail T 3 s)
 else if (now T s).t=wTrue\/(now T s).t=wFalse then some (rconst T s)
 else if (now T s).t=sOpen then (f 0 0 (up s)).map fun x=>(x.1,take T sShut x.2)
 else if (now T s).t=wFby then (f 0 0 (take T sComma (rconst T (take T sOpen (up s))).2)).map fun x=>node ⟨7,wFby,(now T s).at_,0,false,(rconst T (take T sOpen (up s))).1,x.1,0⟩ (take T sShut x.2)
 else if (now T s).t=wHold then (f 0 0 (take T sComma (rconst T (take T sOpen (up s))).2)).map fun x=>
  node ⟨9,wHold,(now T s).at_,(rnumber T 2 1000 (take T sComma x.2)).1,false,(rconst T (take T sOpen (up s))).1,x.1,0⟩ (take T sShut (rnumber T 2 1000 (take T sComma x.2)).2)
 else if (now T s).t=wUnder then (f 0 0 (take T sOpen (up s))).map fun x=>node ⟨8,wUnder,(now T s).at_,(rnumber T 2 1000 (take T sComma x.2)).1,false,x.1,0,0⟩ (take T sShut (rnumber T 2 1000 (take T sComma x.2)).2)
 else if (now T s).t=wMin\/(now T s).t=wMax then (f 0 0 (take T sOpen (up s))).bind fun x=>(f 0 0 (take T sComma x.2)).map fun y=>node ⟨10,(now T s).t,(now T s).at_,0,false,x.1,y.1,0⟩ (take T sShut y.2)
 else some (0,fail T 3 s)
def rstep (T:List Tk) (f:Nat->Nat->Rs->Option (Nat×Rs)) (tag left:Nat) (s:Rs):Option (Nat×Rs):=
 if tag=0 then
  if is T wIf s then (f 0 0 (up s)).bind fun x=>(f 0 0 (take T wThen x.2)).bind fun y=>(f 0 0 (take T wElse y.2)).map fun z=>node ⟨6,wIf,(now T s).at_,0,false,x.1,y.1,z.1⟩ z.2
  else f 1 0 s
 else if tag=8 then ratom T f s
 else if tag=7 then (if is T sMinus s then (f 7 0 (up s)).map fun x=>node ⟨4,sMinus,(now T s).at_,0,false,x.1,0,0⟩ x.2 else f 8 0 s)
 else if tag=3 then (if is T wNot s then (f 3 0 (up s)).map fun x=>node ⟨4,wNot,(now T s).at_,0,false,x.1,0,0⟩ x.2 else f 4 0 s)
 else if tag < 8 then (f (tag+1) 0 s).bind fun x=>f (10+tag) x.1 x.2
 else if s.fe=0/\(now T s).e=0/\(now T s).name=false/\level (now T s).t=tag - 10 then
  (f (tag - 10+1) 0 (up s)).bind fun y=>if tag=14 then some (node ⟨5,(now T s).t,(now T s).at_,0,false,left,y.1,0⟩ y.2) else f tag (node ⟨5,(now T s).t,(now T s).at_,0,false,left,y.1,0⟩ y.2).1 (node ⟨5,(now T s).t,(now T s).at_,0,false,left,y.1,0⟩ y.2).2
 else some (left,s)
def rx (T:List Tk):Nat->Nat->Nat->Rs->Option (Nat×Rs)
 | 0,_,_,_=>none
 | n+1,t,l,s=>rstep T (rx T n) t l s
def Rx (T:List Tk) (t l:Nat) (s:Rs) (x:Nat×Rs):Prop:=∃n,rx T n t l s=some x
end Ref
end
section
open Go.RowKit
set_option maxRecDepth 100000 in
set_option maxHeartbeats 8000000 in
theorem word_any (s : ByteArray) (w : World) : Calls Tryz.prog 128 #[.string s] w fun e w' => e = .returned (.bool (Mil.words.contains s.data.toList)) ∧ w' = w := by
  rw [← Lib.toList_data]
  go_enter Tryz.func128, Tryz.ntmps128
  go_wp2
  all_goals
    go_ret
    refine ⟨ret_bool ?_, rfl⟩
    generalize s.toList = x at *
    simp only [beq_iff_eq, beq_eq_false_iff_ne] at *
    first
    | (subst_vars; rfl)
    | (exfalso; simp_all; done)
    | (rw [eq_comm, Bool.eq_false_iff]
       intro hc
       have hm := List.contains_iff_mem.1 hc
       simp [Mil.words, Mil.wInput, Mil.wOutput, Mil.wEvery, Mil.wInt, Mil.wBool, Mil.wIf, Mil.wThen, Mil.wElse, Mil.wOr, Mil.wXor, Mil.wAnd, Mil.wNot, Mil.wTrue, Mil.wFalse, Mil.wFby, Mil.wUnder, Mil.wHold, Mil.wMin, Mil.wMax] at hm
       simp_all)
def signNum (c : Nat) (two : Bool) : Nat :=
  if c = 58 ∨ c = 59 ∨ c = 40 ∨ c = 41 ∨ c = 44 ∨ c = 43 ∨ c = 45 ∨ c = 42 ∨ c = 47 ∨ c = 37 then 1 else if c = 61 ∨ c = 60 ∨ c = 62 then (if two = true then 2 else 1) else if c = 33 then (if two = true then 2 else 0) else 0
theorem signLen_num (s : ByteArray) (p : Nat) (hp : p < s.size) (two : Bool) (h2 : ((s.data.toList.drop (p + 1)).head?.map (·.toNat) = some 61) ↔ two = true) : Ref.signLen (s.data.toList.drop p) = signNum s[p].toNat two := by
  rw [drop_at hp]
  unfold Ref.signLen signNum Ref.isOne Ref.isTwo
  simp only [h2, Bool.or_eq_true, beq_iff_eq, or_assoc]
theorem head_some (s : ByteArray) (p : Nat) (h : p + 1 < s.size) : ((s.data.toList.drop (p + 1)).head?.map (·.toNat) = some 61) ↔ (s[p + 1].toNat == 61) = true := by
  rw [drop_at h]; simp
theorem head_none (s : ByteArray) (p : Nat) (h : ¬ p + 1 < s.size) : ((s.data.toList.drop (p + 1)).head?.map (·.toNat) = some 61) ↔ false = true := by
  rw [drop_end (by omega)]; simp
set_option maxHeartbeats 4000000 in
theorem sign_any (s : ByteArray) (p : Nat) (hp : p < s.size) (hs : s.size ≤ 4000) (w : World) :
    Calls Tryz.prog 130 #[.string s, .int .i64 p] w fun e w' => e = .returned (.int .i64 (Ref.signLen (s.data.toList.drop p) : Nat)) ∧ w' = w := by
  by_cases h1 : p + 1 < s.size
  · rw [signLen_num s p hp _ (head_some s p h1)]
    go_enter Tryz.func130, Tryz.ntmps130
    go_wp2
    all_goals
      go_ret
      refine ⟨congrArg (fun z : Int => Ending.returned (.int .i64 z)) ?_, rfl⟩
      simp only [beq_iff_eq, beq_eq_false_iff_ne, ne_eq] at *
      unfold signNum
      simp only [beq_iff_eq]
      repeat' split
      all_goals omega
  · rw [signLen_num s p hp _ (head_none s p h1)]
    go_enter Tryz.func130, Tryz.ntmps130
    go_wp2
    all_goals
      go_ret
      refine ⟨congrArg (fun z : Int => Ending.returned (.int .i64 z)) ?_, rfl⟩
      simp only [beq_iff_eq, beq_eq_false_iff_ne, ne_eq] at *
      unfold signNum
      repeat' split
      all_goals (first | omega | simp_all)
end
end Go.Proofs.YtoiajojadihpbaaGreatDoor
