import Derived.Test.YtoiajojadihpbaaGreatDoorQt12
namespace Go.Proofs.YtoiajojadihpbaaGreatDoor
set_option maxHeartbeats 8000000
set_option maxRecDepth 100000
section
open Go.RowKit
theorem own_below {w w':World} {base:Nat} {e:TypeId} {size:Nat} {v:Value} {n:Nat} {xs:List Value} (ho:w.ownsRow base e size v n xs) (hb:Below w.heap.size w w'):w'.ownsRow base e size v n xs:=by
 refine⟨ho.1,?_⟩
 rcases ho.2 with hn|⟨g,cap,cur,rfl,hbg,hgg,rest⟩
 ·exact .inl hn
 ·exact .inr ⟨g,cap,cur,rfl,hbg,(hb.block g (ags hgg).1).trans hgg,rest⟩
theorem isB_below {T e:TypeId} {B b:Nat} {x:List Value} {w w':World} (h:Lib.IsBuilder T e B b x w) (hb:Below w.heap.size w w'):Lib.IsBuilder T e B b x w':=by
 have k:∀p,Lib.BuilderAt T e B b p x w->Lib.BuilderAt T e B b p x w':=by
  rintro p ⟨h1,v,h2,h3,h4⟩
  exact⟨h1,v,(hb.block b (ags h2).1).trans h2,own_below h3 hb,h4⟩
 exact h.imp (k _) (k _)
def LineOk (W:World) (x:Mil.Bytes) (fn:FuncId) (ty:TypeId) (y:Value):Prop:=
 ((ty=259/\fn=235)\/(ty=261/\fn=237)\/(ty=266/\fn=242))/\∀w,Below W.heap.size W w->Calls Tryz.prog fn #[y] w (TxPost x w)
theorem kLine1 (v : Value) (w : World) : (Go.method 465 259 v "ratemill/mill.line").run Tryz.prog w = .ok (235, v) w := by kernel_rfl
theorem kLine2 (v : Value) (w : World) : (Go.method 465 261 v "ratemill/mill.line").run Tryz.prog w = .ok (237, v) w := by kernel_rfl
theorem kLine3 (v : Value) (w : World) : (Go.method 465 266 v "ratemill/mill.line").run Tryz.prog w = .ok (242, v) w := by kernel_rfl
def lines (xs:List Mil.Bytes):Mil.Bytes:=(xs.map (·++Mil.endB)).flatten
theorem lines_len:∀xs:List Mil.Bytes,(∀x,x∈xs->x.length<=30000)->(lines xs).length<=30002*xs.length
 | [],_=>by simp[lines]
 | x::r,h=>by
  have h1:=h x (by simp)
  have h2:=lines_len r (fun y hy=>h y (by simp[hy]))
  simp[lines,Mil.endB] at h2 ⊢
  omega
theorem lines_take (xs:List Mil.Bytes) (j:Nat) (x:Mil.Bytes) (h:xs[j]?=some x):lines (xs.take (j+1))=lines (xs.take j)++x++Mil.endB:=by
 obtain⟨hj,rfl⟩:=lgs h
 rw[List.take_succ_eq_append_getElem hj]
 unfold lines
 rw[List.map_append,List.flatten_append]
 simp only[List.map_cons,List.map_nil,List.flatten_cons,List.flatten_nil,List.append_nil,List.append_assoc]
theorem writeString_any (B b:Nat) (l:List UInt8) (x:Mil.Bytes) (w:World) (h:Lib.IsBuilder 110 5 B b (Lib.byteCells l) w) (hlen:l.length+x.length<=140737488355328) (hBw:B<=w.heap.size) :
  Calls Tryz.prog 51 #[.pointer (some ⟨b,0,none⟩),.string (bs x)] w fun e w'=>e=.returned (.tuple #[.int .i64 (bs x).size,.nilIface])/\Lib.IsBuilder 110 5 B b (Lib.byteCells (l++x)) w'/\Below B w w':=by
 refine (Any.Builder_WriteString (P:=Tryz.prog) (ρ:=Tryz.lays156_ren) { Tryz.lays156 with } Tryz.Builder_Extra_156 B b (Lib.byteCells l) (bs x) w h (by simpa [Lib.byteCells,bs_size] using hlen) hBw).mono ?_
 rintro e w' ⟨rfl,h1,h2⟩
 refine⟨rfl,Or.inr ?_,h2⟩
 rw[Lib.byteCells_append]
 have e1:Lib.strCells (bs x)=Lib.byteCells x:=Lib.strCells_toArray x
 rw[<-e1]
 exact h1
theorem print_walk (w:World) (t g cap:Nat) (xs:List Mil.Bytes) (hn:xs.length<=60) (hx:∀x,x∈xs->x.length<=30000)
  (ht:w.heap[t]?=some (.cells #[.slice (some ⟨g,0,none⟩) xs.length cap] 113 (0,0))) (hg:g < w.heap.size)
  (hl:∀(j:Nat) (x:Mil.Bytes),xs[j]?=some x->∃fn ty y,w.cell? ⟨g,j,none⟩=some (.iface ty y)/\LineOk w x fn ty y) :
  Calls Tryz.prog 18 #[.pointer (some ⟨t,0,none⟩)] w (TxPost (lines xs) w):=by
 have ct:w.cell? ⟨t,0,none⟩=some (.slice (some ⟨g,0,none⟩) xs.length cap):=by rw[cor w t 0 _ _ _ ht];rfl
 have htl:t < w.heap.size:=(ags ht).1
 have HN:=hid hn
 have HX:=hid hx
 have HL:=hid hl
 have HGl:=hid hg
 have ct1:(w.alloc (.cells #[.pointer none,.slice none 0 0] 110)).cell? ⟨t,0,none⟩=some (.slice (some ⟨g,0,none⟩) xs.length cap):=by
  rw[<-ct]
  exact ((Below.refl w.heap.size w).alloc nlr _).cell htl
 have HI:Hid (Lib.IsBuilder 110 5 w.heap.size w.heap.size (Lib.byteCells (lines (xs.take 0))) (w.alloc (.cells #[.pointer none,.slice none 0 0] 110))):=Lib.fresh_isBuilder _ _ _
 have HB:=bRow w #[.pointer none,.slice none 0 0] 110
 clear hn hx ht hg hl ct htl
 go_enter Tryz.func18,Tryz.ntmps18
 go_wp2_with fail
 go_loopg [13] xs.length (fun gk s13 wr=>∃j:Nat,j<=xs.length/\s13=.int .i64 j/\gk=xs.length - j/\Hid (Lib.IsBuilder 110 5 w.heap.size w.heap.size (Lib.byteCells (lines (xs.take j))) wr)/\Hid (Below w.heap.size w wr))
 case atStart=>exact⟨0,Nat.zero_le _,rfl,rfl,HI,HB⟩
 case round=>
  obtain⟨j,hj,rfl,hgk,HIj,HBj⟩:=hrel
  have HG:=hid hgk
  have HJ:=hid hj
  have h60:=HN.out
  have HLn:Hid ((lines (xs.take j)).length<=1800120):=by
   have h1:=lines_len (xs.take j) (fun x hx=>HX.out x (List.mem_of_mem_take hx))
   have h2:(xs.take j).length<=60:=by rw[List.length_take];omega
   show _<=_
   omega
  clear hgk HI HB ct1
  by_cases hlt:j < xs.length
  ·obtain⟨x,hxj⟩:∃x,xs[j]?=some x:=⟨_,List.getElem?_eq_getElem hlt⟩
   obtain⟨fn,ty,y,hc,hM,hC⟩:=HL.out j x hxj
   have hcj:wr.cell? ⟨g,j,none⟩=some (.iface ty y):=(HBj.out.cell HGl.out).trans hc
   have HC:=hid hC
   have HXJ:=hid hxj
   have HX1:Hid (x.length<=30000):=HX.out x (List.mem_of_getElem? hxj)
   clear hc hC hxj
   rcases hM with ⟨rfl,rfl⟩|⟨rfl,rfl⟩|⟨rfl,rfl⟩
   ·have hk:=kLine1
    go_wp2_with fail
    refine (HC.out _ HBj.out).mono ?_
    rintro e w1 ⟨rfl,hb1⟩
    have HI1:Hid (Lib.IsBuilder 110 5 w.heap.size w.heap.size (Lib.byteCells (lines (xs.take j))) w1):=isB_below HIj.out hb1
    have HB1:=hid (below_step HBj.out hb1)
    clear hb1 hcj
    go_wp2_with fail
    refine (writeString_any _ _ _ x _ HI1.out (by have:=HLn.out;have:=HX1.out;omega) HB1.out.size).mono ?_
    rintro e w2 ⟨rfl,hi2,hb2⟩
    have HI2:=hid hi2
    have HB2:=hid (HB1.out.trans hb2)
    clear hi2 hb2
    go_wp2_with fail
    refine (writeString_any _ _ _ Mil.endB _ HI2.out (by have:=HLn.out;have:=HX1.out;rw[List.length_append];simp only[Mil.endB,List.length_cons,List.length_nil];omega) HB2.out.size).mono ?_
    rintro e w3 ⟨rfl,hi3,hb3⟩
    have HI3:Hid (Lib.IsBuilder 110 5 w.heap.size w.heap.size (Lib.byteCells (lines (xs.take (j+1)))) w3):=by rw[lines_take xs j x HXJ.out];exact hi3
    have HB3:=hid (HB2.out.trans hb3)
    clear hi3 hb3 HI1 HI2
    go_wp2
    go_roundg (xs.length - (j+1))
    case measure=>have:=HG.out;omega
    case rel=>exact⟨j+1,hlt,by go_num,rfl,HI3,HB3⟩
   ·have hk:=kLine2
    go_wp2_with fail
    refine (HC.out _ HBj.out).mono ?_
    rintro e w1 ⟨rfl,hb1⟩
    have HI1:Hid (Lib.IsBuilder 110 5 w.heap.size w.heap.size (Lib.byteCells (lines (xs.take j))) w1):=isB_below HIj.out hb1
    have HB1:=hid (below_step HBj.out hb1)
    clear hb1 hcj
    go_wp2_with fail
    refine (writeString_any _ _ _ x _ HI1.out (by have:=HLn.out;have:=HX1.out;omega) HB1.out.size).mono ?_
    rintro e w2 ⟨rfl,hi2,hb2⟩
    have HI2:=hid hi2
    have HB2:=hid (HB1.out.trans hb2)
    clear hi2 hb2
    go_wp2_with fail
    refine (writeString_any _ _ _ Mil.endB _ HI2.out (by have:=HLn.out;have:=HX1.out;rw[List.length_append];simp only[Mil.endB,List.length_cons,List.length_nil];omega) HB2.out.size).mono ?_
    rintro e w3 ⟨rfl,hi3,hb3⟩
    have HI3:Hid (Lib.IsBuilder 110 5 w.heap.size w.heap.size (Lib.byteCells (lines (xs.take (j+1)))) w3):=by rw[lines_take xs j x HXJ.out];exact hi3
    have HB3:=hid (HB2.out.trans hb3)
    clear hi3 hb3 HI1 HI2
    go_wp2
    go_roundg (xs.length - (j+1))
    case measure=>have:=HG.out;omega
    case rel=>exact⟨j+1,hlt,by go_num,rfl,HI3,HB3⟩
   ·have hk:=kLine3
    go_wp2_with fail
    refine (HC.out _ HBj.out).mono ?_
    rintro e w1 ⟨rfl,hb1⟩
    have HI1:Hid (Lib.IsBuilder 110 5 w.heap.size w.heap.size (Lib.byteCells (lines (xs.take j))) w1):=isB_below HIj.out hb1
    have HB1:=hid (below_step HBj.out hb1)
    clear hb1 hcj
    go_wp2_with fail
    refine (writeString_any _ _ _ x _ HI1.out (by have:=HLn.out;have:=HX1.out;omega) HB1.out.size).mono ?_
    rintro e w2 ⟨rfl,hi2,hb2⟩
    have HI2:=hid hi2
    have HB2:=hid (HB1.out.trans hb2)
    clear hi2 hb2
    go_wp2_with fail
    refine (writeString_any _ _ _ Mil.endB _ HI2.out (by have:=HLn.out;have:=HX1.out;rw[List.length_append];simp only[Mil.endB,List.length_cons,List.length_nil];omega) HB2.out.size).mono ?_
    rintro e w3 ⟨rfl,hi3,hb3⟩
    have HI3:Hid (Lib.IsBuilder 110 5 w.heap.size w.heap.size (Lib.byteCells (lines (xs.take (j+1)))) w3):=by rw[lines_take xs j x HXJ.out];exact hi3
    have HB3:=hid (HB2.out.trans hb3)
    clear hi3 hb3 HI1 HI2
    go_wp2
    go_roundg (xs.length - (j+1))
    case measure=>have:=HG.out;omega
    case rel=>exact⟨j+1,hlt,by go_num,rfl,HI3,HB3⟩
  ·have HE:Hid (xs.take j=xs):=List.take_of_length_le (by omega)
   go_wp2_with fail
   rw[HE.out] at HIj
   refine (Tryz.Builder_String_any _ _ _ _ HIj.out HBj.out.size).mono ?_
   rintro e w1 ⟨rfl,hb1⟩
   go_wp2
   go_ret
   exact⟨rfl,HBj.out.trans hb1⟩
theorem print_empty (w:World) (t:Nat) (ht:w.heap[t]?=some (.cells #[.slice none 0 0] 113 (0,0))) :
  Calls Tryz.prog 18 #[.pointer (some ⟨t,0,none⟩)] w (TxPost [] w):=by
 have ct:w.cell? ⟨t,0,none⟩=some (.slice none 0 0):=by rw[cor w t 0 _ _ _ ht];rfl
 have htl:t < w.heap.size:=(ags ht).1
 have ct1:(w.alloc (.cells #[.pointer none,.slice none 0 0] 110)).cell? ⟨t,0,none⟩=some (.slice none 0 0):=by
  rw[<-ct]
  exact ((Below.refl w.heap.size w).alloc nlr _).cell htl
 have HI:Hid (Lib.IsBuilder 110 5 w.heap.size w.heap.size (Lib.byteCells []) (w.alloc (.cells #[.pointer none,.slice none 0 0] 110))):=Lib.fresh_isBuilder _ _ _
 have HB:=bRow w #[.pointer none,.slice none 0 0] 110
 clear ht ct htl
 go_enter Tryz.func18,Tryz.ntmps18
 go_wp2_with fail
 refine wp_loop_rounds 1 ?_
 rw[rounds_succ]
 go_wp2_with fail
 refine (Tryz.Builder_String_any _ _ _ _ HI.out HB.out.size).mono ?_
 rintro e w1 ⟨rfl,hb1⟩
 go_wp2
 go_ret
 exact⟨rfl,HB.out.trans hb1⟩
end
section
open Go.RowKit
theorem as_int_int (v:Value) (w:World):(Instr.typeAssert (.iface 309 v) 263 309 true).run Tryz.prog w=.ok (.tuple #[v,.bool true]) w:=by kernel_rfl
theorem as_bool_int (v:Value) (w:World):(Instr.typeAssert (.iface 307 v) 263 309 true).run Tryz.prog w=.ok (.tuple #[.agg #[.int .i64 0],.bool false]) w:=by kernel_rfl
theorem as_bool_bool (v:Value) (w:World):(Instr.typeAssert (.iface 307 v) 263 307 true).run Tryz.prog w=.ok (.tuple #[v,.bool true]) w:=by kernel_rfl
theorem as_name_int (v:Value) (w:World):(Instr.typeAssert (.iface 292 v) 263 309 true).run Tryz.prog w=.ok (.tuple #[.agg #[.int .i64 0],.bool false]) w:=by kernel_rfl
theorem as_name_bool (v:Value) (w:World):(Instr.typeAssert (.iface 292 v) 263 307 true).run Tryz.prog w=.ok (.tuple #[.agg #[.bool false],.bool false]) w:=by kernel_rfl
theorem as_name_name (v:Value) (w:World):(Instr.typeAssert (.iface 292 v) 263 292 true).run Tryz.prog w=.ok (.tuple #[v,.bool true]) w:=by kernel_rfl
theorem as_pre_int (v:Value) (w:World):(Instr.typeAssert (.iface 279 v) 263 309 true).run Tryz.prog w=.ok (.tuple #[.agg #[.int .i64 0],.bool false]) w:=by kernel_rfl
theorem as_pre_bool (v:Value) (w:World):(Instr.typeAssert (.iface 279 v) 263 307 true).run Tryz.prog w=.ok (.tuple #[.agg #[.bool false],.bool false]) w:=by kernel_rfl
theorem as_pre_name (v:Value) (w:World):(Instr.typeAssert (.iface 279 v) 263 292 true).run Tryz.prog w=.ok (.tuple #[.agg #[.string ⟨#[]⟩],.bool false]) w:=by kernel_rfl
theorem as_pre_pre (v:Value) (w:World):(Instr.typeAssert (.iface 279 v) 263 279 true).run Tryz.prog w=.ok (.tuple #[v,.bool true]) w:=by kernel_rfl
theorem as_two_int (v:Value) (w:World):(Instr.typeAssert (.iface 281 v) 263 309 true).run Tryz.prog w=.ok (.tuple #[.agg #[.int .i64 0],.bool false]) w:=by kernel_rfl
theorem as_two_bool (v:Value) (w:World):(Instr.typeAssert (.iface 281 v) 263 307 true).run Tryz.prog w=.ok (.tuple #[.agg #[.bool false],.bool false]) w:=by kernel_rfl
theorem as_two_name (v:Value) (w:World):(Instr.typeAssert (.iface 281 v) 263 292 true).run Tryz.prog w=.ok (.tuple #[.agg #[.string ⟨#[]⟩],.bool false]) w:=by kernel_rfl
theorem as_two_pre (v:Value) (w:World):(Instr.typeAssert (.iface 281 v) 263 279 true).run Tryz.prog w=.ok (.tuple #[.agg #[.string ⟨#[]⟩,.nilIface],.bool false]) w:=by kernel_rfl
theorem as_two_two (v:Value) (w:World):(Instr.typeAssert (.iface 281 v) 263 281 true).run Tryz.prog w=.ok (.tuple #[v,.bool true]) w:=by kernel_rfl
theorem as_if_int (v:Value) (w:World):(Instr.typeAssert (.iface 276 v) 263 309 true).run Tryz.prog w=.ok (.tuple #[.agg #[.int .i64 0],.bool false]) w:=by kernel_rfl
theorem as_if_bool (v:Value) (w:World):(Instr.typeAssert (.iface 276 v) 263 307 true).run Tryz.prog w=.ok (.tuple #[.agg #[.bool false],.bool false]) w:=by kernel_rfl
theorem as_if_name (v:Value) (w:World):(Instr.typeAssert (.iface 276 v) 263 292 true).run Tryz.prog w=.ok (.tuple #[.agg #[.string ⟨#[]⟩],.bool false]) w:=by kernel_rfl
theorem as_if_pre (v:Value) (w:World):(Instr.typeAssert (.iface 276 v) 263 279 true).run Tryz.prog w=.ok (.tuple #[.agg #[.string ⟨#[]⟩,.nilIface],.bool false]) w:=by kernel_rfl
theorem as_if_two (v:Value) (w:World):(Instr.typeAssert (.iface 276 v) 263 281 true).run Tryz.prog w=.ok (.tuple #[.agg #[.string ⟨#[]⟩,.nilIface,.nilIface],.bool false]) w:=by kernel_rfl
theorem as_if_if (v:Value) (w:World):(Instr.typeAssert (.iface 276 v) 263 276 true).run Tryz.prog w=.ok (.tuple #[v,.bool true]) w:=by kernel_rfl
theorem as_fby_int (v:Value) (w:World):(Instr.typeAssert (.iface 299 v) 263 309 true).run Tryz.prog w=.ok (.tuple #[.agg #[.int .i64 0],.bool false]) w:=by kernel_rfl
theorem as_fby_bool (v:Value) (w:World):(Instr.typeAssert (.iface 299 v) 263 307 true).run Tryz.prog w=.ok (.tuple #[.agg #[.bool false],.bool false]) w:=by kernel_rfl
theorem as_fby_name (v:Value) (w:World):(Instr.typeAssert (.iface 299 v) 263 292 true).run Tryz.prog w=.ok (.tuple #[.agg #[.string ⟨#[]⟩],.bool false]) w:=by kernel_rfl
theorem as_fby_pre (v:Value) (w:World):(Instr.typeAssert (.iface 299 v) 263 279 true).run Tryz.prog w=.ok (.tuple #[.agg #[.string ⟨#[]⟩,.nilIface],.bool false]) w:=by kernel_rfl
theorem as_fby_two (v:Value) (w:World):(Instr.typeAssert (.iface 299 v) 263 281 true).run Tryz.prog w=.ok (.tuple #[.agg #[.string ⟨#[]⟩,.nilIface,.nilIface],.bool false]) w:=by kernel_rfl
theorem as_fby_if (v:Value) (w:World):(Instr.typeAssert (.iface 299 v) 263 276 true).run Tryz.prog w=.ok (.tuple #[.agg #[.nilIface,.nilIface,.nilIface],.bool false]) w:=by kernel_rfl
theorem as_fby_fby (v:Value) (w:World):(Instr.typeAssert (.iface 299 v) 263 299 true).run Tryz.prog w=.ok (.tuple #[v,.bool true]) w:=by kernel_rfl
theorem as_under_int (v:Value) (w:World):(Instr.typeAssert (.iface 301 v) 263 309 true).run Tryz.prog w=.ok (.tuple #[.agg #[.int .i64 0],.bool false]) w:=by kernel_rfl
theorem as_under_bool (v:Value) (w:World):(Instr.typeAssert (.iface 301 v) 263 307 true).run Tryz.prog w=.ok (.tuple #[.agg #[.bool false],.bool false]) w:=by kernel_rfl
theorem as_under_name (v:Value) (w:World):(Instr.typeAssert (.iface 301 v) 263 292 true).run Tryz.prog w=.ok (.tuple #[.agg #[.string ⟨#[]⟩],.bool false]) w:=by kernel_rfl
theorem as_under_pre (v:Value) (w:World):(Instr.typeAssert (.iface 301 v) 263 279 true).run Tryz.prog w=.ok (.tuple #[.agg #[.string ⟨#[]⟩,.nilIface],.bool false]) w:=by kernel_rfl
theorem as_under_two (v:Value) (w:World):(Instr.typeAssert (.iface 301 v) 263 281 true).run Tryz.prog w=.ok (.tuple #[.agg #[.string ⟨#[]⟩,.nilIface,.nilIface],.bool false]) w:=by kernel_rfl
theorem as_under_if (v:Value) (w:World):(Instr.typeAssert (.iface 301 v) 263 276 true).run Tryz.prog w=.ok (.tuple #[.agg #[.nilIface,.nilIface,.nilIface],.bool false]) w:=by kernel_rfl
theorem as_under_fby (v:Value) (w:World):(Instr.typeAssert (.iface 301 v) 263 299 true).run Tryz.prog w=.ok (.tuple #[.agg #[.nilIface,.nilIface],.bool false]) w:=by kernel_rfl
theorem as_under_under (v:Value) (w:World):(Instr.typeAssert (.iface 301 v) 263 301 true).run Tryz.prog w=.ok (.tuple #[v,.bool true]) w:=by kernel_rfl
theorem as_hold_int (v:Value) (w:World):(Instr.typeAssert (.iface 303 v) 263 309 true).run Tryz.prog w=.ok (.tuple #[.agg #[.int .i64 0],.bool false]) w:=by kernel_rfl
theorem as_hold_bool (v:Value) (w:World):(Instr.typeAssert (.iface 303 v) 263 307 true).run Tryz.prog w=.ok (.tuple #[.agg #[.bool false],.bool false]) w:=by kernel_rfl
theorem as_hold_name (v:Value) (w:World):(Instr.typeAssert (.iface 303 v) 263 292 true).run Tryz.prog w=.ok (.tuple #[.agg #[.string ⟨#[]⟩],.bool false]) w:=by kernel_rfl
theorem as_hold_pre (v:Value) (w:World):(Instr.typeAssert (.iface 303 v) 263 279 true).run Tryz.prog w=.ok (.tuple #[.agg #[.string ⟨#[]⟩,.nilIface],.bool false]) w:=by kernel_rfl
theorem as_hold_two (v:Value) (w:World):(Instr.typeAssert (.iface 303 v) 263 281 true).run Tryz.prog w=.ok (.tuple #[.agg #[.string ⟨#[]⟩,.nilIface,.nilIface],.bool false]) w:=by kernel_rfl
theorem as_hold_if (v:Value) (w:World):(Instr.typeAssert (.iface 303 v) 263 276 true).run Tryz.prog w=.ok (.tuple #[.agg #[.nilIface,.nilIface,.nilIface],.bool false]) w:=by kernel_rfl
theorem as_hold_fby (v:Value) (w:World):(Instr.typeAssert (.iface 303 v) 263 299 true).run Tryz.prog w=.ok (.tuple #[.agg #[.nilIface,.nilIface],.bool false]) w:=by kernel_rfl
theorem as_hold_under (v:Value) (w:World):(Instr.typeAssert (.iface 303 v) 263 301 true).run Tryz.prog w=.ok (.tuple #[.agg #[.nilIface,.int .i64 0],.bool false]) w:=by kernel_rfl
theorem as_hold_hold (v:Value) (w:World):(Instr.typeAssert (.iface 303 v) 263 303 true).run Tryz.prog w=.ok (.tuple #[v,.bool true]) w:=by kernel_rfl
theorem as_least_int (v:Value) (w:World):(Instr.typeAssert (.iface 305 v) 263 309 true).run Tryz.prog w=.ok (.tuple #[.agg #[.int .i64 0],.bool false]) w:=by kernel_rfl
theorem as_least_bool (v:Value) (w:World):(Instr.typeAssert (.iface 305 v) 263 307 true).run Tryz.prog w=.ok (.tuple #[.agg #[.bool false],.bool false]) w:=by kernel_rfl
theorem as_least_name (v:Value) (w:World):(Instr.typeAssert (.iface 305 v) 263 292 true).run Tryz.prog w=.ok (.tuple #[.agg #[.string ⟨#[]⟩],.bool false]) w:=by kernel_rfl
theorem as_least_pre (v:Value) (w:World):(Instr.typeAssert (.iface 305 v) 263 279 true).run Tryz.prog w=.ok (.tuple #[.agg #[.string ⟨#[]⟩,.nilIface],.bool false]) w:=by kernel_rfl
theorem as_least_two (v:Value) (w:World):(Instr.typeAssert (.iface 305 v) 263 281 true).run Tryz.prog w=.ok (.tuple #[.agg #[.string ⟨#[]⟩,.nilIface,.nilIface],.bool false]) w:=by kernel_rfl
theorem as_least_if (v:Value) (w:World):(Instr.typeAssert (.iface 305 v) 263 276 true).run Tryz.prog w=.ok (.tuple #[.agg #[.nilIface,.nilIface,.nilIface],.bool false]) w:=by kernel_rfl
theorem as_least_fby (v:Value) (w:World):(Instr.typeAssert (.iface 305 v) 263 299 true).run Tryz.prog w=.ok (.tuple #[.agg #[.nilIface,.nilIface],.bool false]) w:=by kernel_rfl
theorem as_least_under (v:Value) (w:World):(Instr.typeAssert (.iface 305 v) 263 301 true).run Tryz.prog w=.ok (.tuple #[.agg #[.nilIface,.int .i64 0],.bool false]) w:=by kernel_rfl
theorem as_least_hold (v:Value) (w:World):(Instr.typeAssert (.iface 305 v) 263 303 true).run Tryz.prog w=.ok (.tuple #[.agg #[.nilIface,.nilIface,.int .i64 0],.bool false]) w:=by kernel_rfl
theorem as_least_least (v:Value) (w:World):(Instr.typeAssert (.iface 305 v) 263 305 true).run Tryz.prog w=.ok (.tuple #[v,.bool true]) w:=by kernel_rfl
theorem me_int (u0 : Value) (w : World) : (Go.method 465 309 (.agg #[u0]) "ratemill/mill.tightness").run Tryz.prog w = .ok (256, .agg #[]) w := by kernel_rfl
theorem me_bool (u0 : Value) (w : World) : (Go.method 465 307 (.agg #[u0]) "ratemill/mill.tightness").run Tryz.prog w = .ok (256, .agg #[]) w := by kernel_rfl
theorem me_name (u0 : Value) (w : World) : (Go.method 465 292 (.agg #[u0]) "ratemill/mill.tightness").run Tryz.prog w = .ok (256, .agg #[]) w := by kernel_rfl
theorem me_pre (v : Value) (w : World) : (Go.method 465 279 v "ratemill/mill.tightness").run Tryz.prog w = .ok (250, v) w := by kernel_rfl
theorem me_two (v : Value) (w : World) : (Go.method 465 281 v "ratemill/mill.tightness").run Tryz.prog w = .ok (251, v) w := by kernel_rfl
theorem me_if (v : Value) (w : World) : (Go.method 465 276 v "ratemill/mill.tightness").run Tryz.prog w = .ok (252, v) w := by kernel_rfl
theorem me_fby (u0 : Value) (u1 : Value) (w : World) : (Go.method 465 299 (.agg #[u0, u1]) "ratemill/mill.tightness").run Tryz.prog w = .ok (256, .agg #[]) w := by kernel_rfl
theorem me_under (u0 : Value) (u1 : Value) (w : World) : (Go.method 465 301 (.agg #[u0, u1]) "ratemill/mill.tightness").run Tryz.prog w = .ok (256, .agg #[]) w := by kernel_rfl
theorem me_hold (u0 : Value) (u1 : Value) (u2 : Value) (w : World) : (Go.method 465 303 (.agg #[u0, u1, u2]) "ratemill/mill.tightness").run Tryz.prog w = .ok (256, .agg #[]) w := by kernel_rfl
theorem me_least (u0 : Value) (u1 : Value) (u2 : Value) (w : World) : (Go.method 465 305 (.agg #[u0, u1, u2]) "ratemill/mill.tightness").run Tryz.prog w = .ok (256, .agg #[]) w := by kernel_rfl
def TC (a:Nat->Addr) (e:Mil.E):Prop:=∀w,Pl a w->Calls Tryz.prog 243 #[ev e] w (TxPost (Mil.txt e) w)
def OT (a:Nat->Addr) (e:Mil.E):Prop:=∀(w:World) (l:Nat),Pl a w->Calls Tryz.prog 249 #[ev e,.int .i64 (l:Nat)] w (TxPost (Mil.brack (Mil.tight e) l (Mil.txt e)) w)
def NuP (k:Nat) (w:World) (e:Ending) (w':World):Prop:=e=.returned (.int .i64 (k:Nat))/\Below w.heap.size w w'
theorem t_atom (w:World):Calls Tryz.prog 256 #[.agg #[]] w (NuP 8 w):=by
 go_enter Tryz.func256,Tryz.ntmps256
 go_wp2
 go_ret
 exact⟨rfl,brf.alloc nlr _⟩
theorem t_if (u0 u1 u2:Value) (w:World):Calls Tryz.prog 252 #[.agg #[u0,u1,u2]] w (NuP 0 w):=by
 go_enter Tryz.func252,Tryz.ntmps252
 go_wp2
 go_ret
 exact⟨rfl,brf.alloc nlr _⟩
theorem t_pre (x:Mil.Bytes) (u1:Value) (w:World):Calls Tryz.prog 250 #[.agg #[.string (bs x),u1]] w (NuP (if x=Mil.wNot then 3 else 7) w):=by
 by_cases h:x=Mil.wNot
 ·rw[if_pos h]
  have hb:((bs x).toList==[110,111,116])=true:=by rw[Lib.toList_data,bs_list,h];rfl
  clear h
  go_enter Tryz.func250,Tryz.ntmps250
  go_wp2
  go_ret
  exact⟨rfl,brf.alloc nlr _⟩
 ·rw[if_neg h]
  have hb:((bs x).toList==[110,111,116])=false:=by rw[Lib.toList_data,bs_list];exact beq_false_of_ne h
  clear h
  go_enter Tryz.func250,Tryz.ntmps250
  go_wp2
  go_ret
  exact⟨rfl,brf.alloc nlr _⟩
theorem t_two (a:Nat->Addr) (x:Mil.Bytes) (hx:Mil.tightOf x≠9) (u1 u2:Value) (w:World) (h:Pl a w):Calls Tryz.prog 251 #[.agg #[.string (bs x),u1,u2]] w (NuP (Mil.tightOf x) w):=by
 have HP:=hid h
 have HX:=hid hx
 clear h hx
 go_enter Tryz.func251,Tryz.ntmps251
 go_wp2_with fail
 have hb:Below w.heap.size w (w.alloc (.cells #[.string (bs x),u1,u2] 281)):=brf.alloc nlr _
 refine (tightnessOf_any a (bs x) _ (HP.out.below hb).l).mono ?_
 rintro e w1 ⟨rfl,hb1⟩
 have HB:=hid (below_step hb hb1)
 clear hb hb1
 go_wp2
 go_ret
 refine⟨?_,HB.out⟩
 rw[bs_list,tightGo,if_neg HX.out];rfl
end
section
open Go.RowKit
theorem ot_int (a:Nat->Addr) (k:Nat) (hlen:(Mil.txt (Mil.eInt k)).length<=24000) (h:TC a (Mil.eInt k)):OT a (Mil.eInt k):=by
 intro w l hP
 have HP:=hid hP
 have HT:=hid h
 have hm:=me_int (.int .i64 (k:Nat))
 have hsz:(bs (Mil.txt (Mil.eInt k))).size<=24000:=by rw[bs_size];exact hlen
 clear hP h hlen
 show Calls Tryz.prog 249 #[.iface 309 (.agg #[.int .i64 (k:Nat)]),.int .i64 (l:Nat)] w _
 go_enter Tryz.func249,Tryz.ntmps249
 go_wp2_with fail
 refine (t_atom _).mono ?_
 rintro e w1 ⟨he,hb1⟩
 obtain rfl:e=.returned (.int .i64 ((Mil.tight (Mil.eInt k):Nat):Int)):=he
 clear hm
 generalize htk:Mil.tight (Mil.eInt k)=tk
 have HTK:=hid htk
 clear htk
 by_cases hl:tk < l
 ·have hi:(tk:Int) < (l:Int):=by omega
  have HL:=hid hl
  clear hl
  go_wp2_with fail
  refine (HT.out _ (HP.out.below hb1)).mono ?_
  rintro e w2 ⟨rfl,hb2⟩
  go_wp2
  go_ret
  refine⟨?_,below_step hb1 hb2⟩
  rw[Mil.brack,HTK.out,if_pos HL.out]
  show Ending.returned (.string (bs Mil.sOpen++bs (Mil.txt (Mil.eInt k))++bs Mil.sShut))=_
  rw[bs_add,bs_add]
 ·have hi:¬(tk:Int) < (l:Int):=by omega
  have HL:=hid hl
  clear hl
  go_wp2_with fail
  refine (HT.out _ (HP.out.below hb1)).mono ?_
  rintro e w2 ⟨rfl,hb2⟩
  go_wp2
  go_ret
  refine⟨?_,below_step hb1 hb2⟩
  rw[Mil.brack,HTK.out,if_neg HL.out];rfl
theorem ot_bool (a:Nat->Addr) (k:Nat) (hlen:(Mil.txt (Mil.eBool k)).length<=24000) (h:TC a (Mil.eBool k)):OT a (Mil.eBool k):=by
 intro w l hP
 have HP:=hid hP
 have HT:=hid h
 have hm:=me_bool (.bool (k==1))
 have hsz:(bs (Mil.txt (Mil.eBool k))).size<=24000:=by rw[bs_size];exact hlen
 clear hP h hlen
 show Calls Tryz.prog 249 #[.iface 307 (.agg #[.bool (k==1)]),.int .i64 (l:Nat)] w _
 go_enter Tryz.func249,Tryz.ntmps249
 go_wp2_with fail
 refine (t_atom _).mono ?_
 rintro e w1 ⟨he,hb1⟩
 obtain rfl:e=.returned (.int .i64 ((Mil.tight (Mil.eBool k):Nat):Int)):=he
 clear hm
 generalize htk:Mil.tight (Mil.eBool k)=tk
 have HTK:=hid htk
 clear htk
 by_cases hl:tk < l
 ·have hi:(tk:Int) < (l:Int):=by omega
  have HL:=hid hl
  clear hl
  go_wp2_with fail
  refine (HT.out _ (HP.out.below hb1)).mono ?_
  rintro e w2 ⟨rfl,hb2⟩
  go_wp2
  go_ret
  refine⟨?_,below_step hb1 hb2⟩
  rw[Mil.brack,HTK.out,if_pos HL.out]
  show Ending.returned (.string (bs Mil.sOpen++bs (Mil.txt (Mil.eBool k))++bs Mil.sShut))=_
  rw[bs_add,bs_add]
 ·have hi:¬(tk:Int) < (l:Int):=by omega
  have HL:=hid hl
  clear hl
  go_wp2_with fail
  refine (HT.out _ (HP.out.below hb1)).mono ?_
  rintro e w2 ⟨rfl,hb2⟩
  go_wp2
  go_ret
  refine⟨?_,below_step hb1 hb2⟩
  rw[Mil.brack,HTK.out,if_neg HL.out];rfl
theorem ot_name (a:Nat->Addr) (x:Mil.Bytes) (hlen:(Mil.txt (Mil.eName x)).length<=24000) (h:TC a (Mil.eName x)):OT a (Mil.eName x):=by
 intro w l hP
 have HP:=hid hP
 have HT:=hid h
 have hm:=me_name (.string (bs x))
 have hsz:(bs (Mil.txt (Mil.eName x))).size<=24000:=by rw[bs_size];exact hlen
 clear hP h hlen
 show Calls Tryz.prog 249 #[.iface 292 (.agg #[.string (bs x)]),.int .i64 (l:Nat)] w _
 go_enter Tryz.func249,Tryz.ntmps249
 go_wp2_with fail
 refine (t_atom _).mono ?_
 rintro e w1 ⟨he,hb1⟩
 obtain rfl:e=.returned (.int .i64 ((Mil.tight (Mil.eName x):Nat):Int)):=he
 clear hm
 generalize htk:Mil.tight (Mil.eName x)=tk
 have HTK:=hid htk
 clear htk
 by_cases hl:tk < l
 ·have hi:(tk:Int) < (l:Int):=by omega
  have HL:=hid hl
  clear hl
  go_wp2_with fail
  refine (HT.out _ (HP.out.below hb1)).mono ?_
  rintro e w2 ⟨rfl,hb2⟩
  go_wp2
  go_ret
  refine⟨?_,below_step hb1 hb2⟩
  rw[Mil.brack,HTK.out,if_pos HL.out]
  show Ending.returned (.string (bs Mil.sOpen++bs (Mil.txt (Mil.eName x))++bs Mil.sShut))=_
  rw[bs_add,bs_add]
 ·have hi:¬(tk:Int) < (l:Int):=by omega
  have HL:=hid hl
  clear hl
  go_wp2_with fail
  refine (HT.out _ (HP.out.below hb1)).mono ?_
  rintro e w2 ⟨rfl,hb2⟩
  go_wp2
  go_ret
  refine⟨?_,below_step hb1 hb2⟩
  rw[Mil.brack,HTK.out,if_neg HL.out];rfl
theorem ot_pre (a:Nat->Addr) (x:Mil.Bytes) (p:Mil.E) (hlen:(Mil.txt (Mil.ePre x p)).length<=24000) (h:TC a (Mil.ePre x p)):OT a (Mil.ePre x p):=by
 intro w l hP
 have HP:=hid hP
 have HT:=hid h
 have hm:=me_pre
 have hsz:(bs (Mil.txt (Mil.ePre x p))).size<=24000:=by rw[bs_size];exact hlen
 clear hP h hlen
 show Calls Tryz.prog 249 #[.iface 279 (.agg #[.string (bs x),ev p]),.int .i64 (l:Nat)] w _
 go_enter Tryz.func249,Tryz.ntmps249
 go_wp2_with fail
 refine (t_pre x (ev p) _).mono ?_
 rintro e w1 ⟨he,hb1⟩
 obtain rfl:e=.returned (.int .i64 ((Mil.tight (Mil.ePre x p):Nat):Int)):=he
 clear hm
 generalize htk:Mil.tight (Mil.ePre x p)=tk
 have HTK:=hid htk
 clear htk
 by_cases hl:tk < l
 ·have hi:(tk:Int) < (l:Int):=by omega
  have HL:=hid hl
  clear hl
  go_wp2_with fail
  refine (HT.out _ (HP.out.below hb1)).mono ?_
  rintro e w2 ⟨rfl,hb2⟩
  go_wp2
  go_ret
  refine⟨?_,below_step hb1 hb2⟩
  rw[Mil.brack,HTK.out,if_pos HL.out]
  show Ending.returned (.string (bs Mil.sOpen++bs (Mil.txt (Mil.ePre x p))++bs Mil.sShut))=_
  rw[bs_add,bs_add]
 ·have hi:¬(tk:Int) < (l:Int):=by omega
  have HL:=hid hl
  clear hl
  go_wp2_with fail
  refine (HT.out _ (HP.out.below hb1)).mono ?_
  rintro e w2 ⟨rfl,hb2⟩
  go_wp2
  go_ret
  refine⟨?_,below_step hb1 hb2⟩
  rw[Mil.brack,HTK.out,if_neg HL.out];rfl
theorem ot_two (a:Nat->Addr) (x:Mil.Bytes) (p q:Mil.E) (hx:Mil.tightOf x≠9) (hlen:(Mil.txt (Mil.eTwo x p q)).length<=24000) (h:TC a (Mil.eTwo x p q)):OT a (Mil.eTwo x p q):=by
 intro w l hP
 have HP:=hid hP
 have HT:=hid h
 have hm:=me_two
 have hsz:(bs (Mil.txt (Mil.eTwo x p q))).size<=24000:=by rw[bs_size];exact hlen
 clear hP h hlen
 show Calls Tryz.prog 249 #[.iface 281 (.agg #[.string (bs x),ev p,ev q]),.int .i64 (l:Nat)] w _
 go_enter Tryz.func249,Tryz.ntmps249
 go_wp2_with fail
 refine (t_two a x hx (ev p) (ev q) _ HP.out).mono ?_
 rintro e w1 ⟨he,hb1⟩
 obtain rfl:e=.returned (.int .i64 ((Mil.tight (Mil.eTwo x p q):Nat):Int)):=he
 clear hm
 generalize htk:Mil.tight (Mil.eTwo x p q)=tk
 have HTK:=hid htk
 clear htk
 by_cases hl:tk < l
 ·have hi:(tk:Int) < (l:Int):=by omega
  have HL:=hid hl
  clear hl
  go_wp2_with fail
  refine (HT.out _ (HP.out.below hb1)).mono ?_
  rintro e w2 ⟨rfl,hb2⟩
  go_wp2
  go_ret
  refine⟨?_,below_step hb1 hb2⟩
  rw[Mil.brack,HTK.out,if_pos HL.out]
  show Ending.returned (.string (bs Mil.sOpen++bs (Mil.txt (Mil.eTwo x p q))++bs Mil.sShut))=_
  rw[bs_add,bs_add]
 ·have hi:¬(tk:Int) < (l:Int):=by omega
  have HL:=hid hl
  clear hl
  go_wp2_with fail
  refine (HT.out _ (HP.out.below hb1)).mono ?_
  rintro e w2 ⟨rfl,hb2⟩
  go_wp2
  go_ret
  refine⟨?_,below_step hb1 hb2⟩
  rw[Mil.brack,HTK.out,if_neg HL.out];rfl
theorem ot_if (a:Nat->Addr) (p q r:Mil.E) (hlen:(Mil.txt (Mil.eIf p q r)).length<=24000) (h:TC a (Mil.eIf p q r)):OT a (Mil.eIf p q r):=by
 intro w l hP
 have HP:=hid hP
 have HT:=hid h
 have hm:=me_if
 have hsz:(bs (Mil.txt (Mil.eIf p q r))).size<=24000:=by rw[bs_size];exact hlen
 clear hP h hlen
 show Calls Tryz.prog 249 #[.iface 276 (.agg #[ev p,ev q,ev r]),.int .i64 (l:Nat)] w _
 go_enter Tryz.func249,Tryz.ntmps249
 go_wp2_with fail
 refine (t_if (ev p) (ev q) (ev r) _).mono ?_
 rintro e w1 ⟨he,hb1⟩
 obtain rfl:e=.returned (.int .i64 ((Mil.tight (Mil.eIf p q r):Nat):Int)):=he
 clear hm
 generalize htk:Mil.tight (Mil.eIf p q r)=tk
 have HTK:=hid htk
 clear htk
 by_cases hl:tk < l
 ·have hi:(tk:Int) < (l:Int):=by omega
  have HL:=hid hl
  clear hl
  go_wp2_with fail
  refine (HT.out _ (HP.out.below hb1)).mono ?_
  rintro e w2 ⟨rfl,hb2⟩
  go_wp2
  go_ret
  refine⟨?_,below_step hb1 hb2⟩
  rw[Mil.brack,HTK.out,if_pos HL.out]
  show Ending.returned (.string (bs Mil.sOpen++bs (Mil.txt (Mil.eIf p q r))++bs Mil.sShut))=_
  rw[bs_add,bs_add]
 ·have hi:¬(tk:Int) < (l:Int):=by omega
  have HL:=hid hl
  clear hl
  go_wp2_with fail
  refine (HT.out _ (HP.out.below hb1)).mono ?_
  rintro e w2 ⟨rfl,hb2⟩
  go_wp2
  go_ret
  refine⟨?_,below_step hb1 hb2⟩
  rw[Mil.brack,HTK.out,if_neg HL.out];rfl
theorem ot_fby (a:Nat->Addr) (p q:Mil.E) (hlen:(Mil.txt (Mil.eFby p q)).length<=24000) (h:TC a (Mil.eFby p q)):OT a (Mil.eFby p q):=by
 intro w l hP
 have HP:=hid hP
 have HT:=hid h
 have hm:=me_fby (ev p) (ev q)
 have hsz:(bs (Mil.txt (Mil.eFby p q))).size<=24000:=by rw[bs_size];exact hlen
 clear hP h hlen
 show Calls Tryz.prog 249 #[.iface 299 (.agg #[ev p,ev q]),.int .i64 (l:Nat)] w _
 go_enter Tryz.func249,Tryz.ntmps249
 go_wp2_with fail
 refine (t_atom _).mono ?_
 rintro e w1 ⟨he,hb1⟩
 obtain rfl:e=.returned (.int .i64 ((Mil.tight (Mil.eFby p q):Nat):Int)):=he
 clear hm
 generalize htk:Mil.tight (Mil.eFby p q)=tk
 have HTK:=hid htk
 clear htk
 by_cases hl:tk < l
 ·have hi:(tk:Int) < (l:Int):=by omega
  have HL:=hid hl
  clear hl
  go_wp2_with fail
  refine (HT.out _ (HP.out.below hb1)).mono ?_
  rintro e w2 ⟨rfl,hb2⟩
  go_wp2
  go_ret
  refine⟨?_,below_step hb1 hb2⟩
  rw[Mil.brack,HTK.out,if_pos HL.out]
  show Ending.returned (.string (bs Mil.sOpen++bs (Mil.txt (Mil.eFby p q))++bs Mil.sShut))=_
  rw[bs_add,bs_add]
 ·have hi:¬(tk:Int) < (l:Int):=by omega
  have HL:=hid hl
  clear hl
  go_wp2_with fail
  refine (HT.out _ (HP.out.below hb1)).mono ?_
  rintro e w2 ⟨rfl,hb2⟩
  go_wp2
  go_ret
  refine⟨?_,below_step hb1 hb2⟩
  rw[Mil.brack,HTK.out,if_neg HL.out];rfl
theorem ot_under (a:Nat->Addr) (p:Mil.E) (k:Nat) (hlen:(Mil.txt (Mil.eUnder p k)).length<=24000) (h:TC a (Mil.eUnder p k)):OT a (Mil.eUnder p k):=by
 intro w l hP
 have HP:=hid hP
 have HT:=hid h
 have hm:=me_under (ev p) (.int .i64 (k:Nat))
 have hsz:(bs (Mil.txt (Mil.eUnder p k))).size<=24000:=by rw[bs_size];exact hlen
 clear hP h hlen
 show Calls Tryz.prog 249 #[.iface 301 (.agg #[ev p,.int .i64 (k:Nat)]),.int .i64 (l:Nat)] w _
 go_enter Tryz.func249,Tryz.ntmps249
 go_wp2_with fail
 refine (t_atom _).mono ?_
 rintro e w1 ⟨he,hb1⟩
 obtain rfl:e=.returned (.int .i64 ((Mil.tight (Mil.eUnder p k):Nat):Int)):=he
 clear hm
 generalize htk:Mil.tight (Mil.eUnder p k)=tk
 have HTK:=hid htk
 clear htk
 by_cases hl:tk < l
 ·have hi:(tk:Int) < (l:Int):=by omega
  have HL:=hid hl
  clear hl
  go_wp2_with fail
  refine (HT.out _ (HP.out.below hb1)).mono ?_
  rintro e w2 ⟨rfl,hb2⟩
  go_wp2
  go_ret
  refine⟨?_,below_step hb1 hb2⟩
  rw[Mil.brack,HTK.out,if_pos HL.out]
  show Ending.returned (.string (bs Mil.sOpen++bs (Mil.txt (Mil.eUnder p k))++bs Mil.sShut))=_
  rw[bs_add,bs_add]
 ·have hi:¬(tk:Int) < (l:Int):=by omega
  have HL:=hid hl
  clear hl
  go_wp2_with fail
  refine (HT.out _ (HP.out.below hb1)).mono ?_
  rintro e w2 ⟨rfl,hb2⟩
  go_wp2
  go_ret
  refine⟨?_,below_step hb1 hb2⟩
  rw[Mil.brack,HTK.out,if_neg HL.out];rfl
theorem ot_hold (a:Nat->Addr) (p q:Mil.E) (k:Nat) (hlen:(Mil.txt (Mil.eHold p q k)).length<=24000) (h:TC a (Mil.eHold p q k)):OT a (Mil.eHold p q k):=by
 intro w l hP
 have HP:=hid hP
 have HT:=hid h
 have hm:=me_hold (ev p) (ev q) (.int .i64 (k:Nat))
 have hsz:(bs (Mil.txt (Mil.eHold p q k))).size<=24000:=by rw[bs_size];exact hlen
 clear hP h hlen
 show Calls Tryz.prog 249 #[.iface 303 (.agg #[ev p,ev q,.int .i64 (k:Nat)]),.int .i64 (l:Nat)] w _
 go_enter Tryz.func249,Tryz.ntmps249
 go_wp2_with fail
 refine (t_atom _).mono ?_
 rintro e w1 ⟨he,hb1⟩
 obtain rfl:e=.returned (.int .i64 ((Mil.tight (Mil.eHold p q k):Nat):Int)):=he
 clear hm
 generalize htk:Mil.tight (Mil.eHold p q k)=tk
 have HTK:=hid htk
 clear htk
 by_cases hl:tk < l
 ·have hi:(tk:Int) < (l:Int):=by omega
  have HL:=hid hl
  clear hl
  go_wp2_with fail
  refine (HT.out _ (HP.out.below hb1)).mono ?_
  rintro e w2 ⟨rfl,hb2⟩
  go_wp2
  go_ret
  refine⟨?_,below_step hb1 hb2⟩
  rw[Mil.brack,HTK.out,if_pos HL.out]
  show Ending.returned (.string (bs Mil.sOpen++bs (Mil.txt (Mil.eHold p q k))++bs Mil.sShut))=_
  rw[bs_add,bs_add]
 ·have hi:¬(tk:Int) < (l:Int):=by omega
  have HL:=hid hl
  clear hl
  go_wp2_with fail
  refine (HT.out _ (HP.out.below hb1)).mono ?_
  rintro e w2 ⟨rfl,hb2⟩
  go_wp2
  go_ret
  refine⟨?_,below_step hb1 hb2⟩
  rw[Mil.brack,HTK.out,if_neg HL.out];rfl
theorem ot_least (a:Nat->Addr) (x:Mil.Bytes) (p q:Mil.E) (hlen:(Mil.txt (Mil.eLeast x p q)).length<=24000) (h:TC a (Mil.eLeast x p q)):OT a (Mil.eLeast x p q):=by
 intro w l hP
 have HP:=hid hP
 have HT:=hid h
 have hm:=me_least (.string (bs x)) (ev p) (ev q)
 have hsz:(bs (Mil.txt (Mil.eLeast x p q))).size<=24000:=by rw[bs_size];exact hlen
 clear hP h hlen
 show Calls Tryz.prog 249 #[.iface 305 (.agg #[.string (bs x),ev p,ev q]),.int .i64 (l:Nat)] w _
 go_enter Tryz.func249,Tryz.ntmps249
 go_wp2_with fail
 refine (t_atom _).mono ?_
 rintro e w1 ⟨he,hb1⟩
 obtain rfl:e=.returned (.int .i64 ((Mil.tight (Mil.eLeast x p q):Nat):Int)):=he
 clear hm
 generalize htk:Mil.tight (Mil.eLeast x p q)=tk
 have HTK:=hid htk
 clear htk
 by_cases hl:tk < l
 ·have hi:(tk:Int) < (l:Int):=by omega
  have HL:=hid hl
  clear hl
  go_wp2_with fail
  refine (HT.out _ (HP.out.below hb1)).mono ?_
  rintro e w2 ⟨rfl,hb2⟩
  go_wp2
  go_ret
  refine⟨?_,below_step hb1 hb2⟩
  rw[Mil.brack,HTK.out,if_pos HL.out]
  show Ending.returned (.string (bs Mil.sOpen++bs (Mil.txt (Mil.eLeast x p q))++bs Mil.sShut))=_
  rw[bs_add,bs_add]
 ·have hi:¬(tk:Int) < (l:Int):=by omega
  have HL:=hid hl
  clear hl
  go_wp2_with fail
  refine (HT.out _ (HP.out.below hb1)).mono ?_
  rintro e w2 ⟨rfl,hb2⟩
  go_wp2
  go_ret
  refine⟨?_,below_step hb1 hb2⟩
  rw[Mil.brack,HTK.out,if_neg HL.out];rfl
end
end Go.Proofs.YtoiajojadihpbaaGreatDoor
