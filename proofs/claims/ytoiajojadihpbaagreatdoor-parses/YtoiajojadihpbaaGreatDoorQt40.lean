import Derived.Test.YtoiajojadihpbaaGreatDoorQt36
import Derived.Test.YtoiajojadihpbaaGreatDoorQt27
namespace Go.Proofs.YtoiajojadihpbaaGreatDoor
set_option maxHeartbeats 8000000
set_option maxRecDepth 100000
section
open Go.RowKit
theorem step_make_full {P:Program} {ops:Array Oper} {o:Oper} {a:Act} {w:World} {K:Act->World->Prop} {Q:Exit->Act->World->Prop} {E:Prop}
  (hg:o.guard=none) (l c:Operand) (t:TypeId) (hop:o.op=Op.makeSlice t l c)
  (base:Nat) (e:TypeId) (i:TypeInfo) (z:Value) (size:Nat) (h1:P.underlying t=some (.slice e)) (h2:P.info? e=some i) (h3:i.zero=some z) (h4:i.size=size)
  (kl kc:IntKind) (n:Nat) (hl:a.eval l=.int kl (n:Nat)) (hc:a.eval c=.int kc (n:Nat)) (b2:i.bytes*n<=281474976710656) (b3:n<=maxLen) (b4:base<=w.heap.size)
  (hK:∀w',w'.ownsRow base e size (.slice (some ⟨w.heap.size,0,none⟩) n n) n (madeCells z.cells (n*size)).toList->w.grownBy w' none->K (a.put o.dst (.slice (some ⟨w.heap.size,0,none⟩) n n)) w') :
  if Region.wanted o (yielded ops a.tmps)=true then Oper.wp P o a w K Q else E:=by
 have hw:Region.wanted o (yielded ops a.tmps)=true:=by simp[Region.wanted,hg]
 rw[if_pos hw]
 obtain⟨w',hrun,r1,r2⟩:=run_make_full (P:=P) w base t e i z size h1 h2 h3 h4 kl kc n b2 b3 b4
 unfold Oper.wp
 simp[execOp,hop,hl,hc,hrun,Result.andThen]
 exact hK w' r1 r2
def Rg (rb:Nat) (rv:Value) (w:World):Prop:=∃cs:Array Value,w.heap[rb]?=some (.cells cs 173 (0,0))/\cs[2]?=some rv
theorem Rg.cell {rb:Nat} {rv:Value} {w:World} (h:Rg rb rv w):w.cell? ⟨rb,2,none⟩=some rv:=by
 obtain⟨cs,h1,h2⟩:=h
 rw[cor w rb 2 _ _ _ h1,h2]
theorem Rg.frozen {rb:Nat} {rv:Value} {w:World} (h:Rg rb rv w) (k:Nat):w.frozen? ⟨rb,k,none⟩=false:=by
 obtain⟨cs,h1,h2⟩:=h
 unfold World.frozen?;rw[h1];simp
theorem Rg.lt {rb:Nat} {rv:Value} {w:World} (h:Rg rb rv w):rb < w.heap.size:=by
 obtain⟨cs,h1,h2⟩:=h
 exact (ags h1).1
theorem Rg.kept {rb:Nat} {rv:Value} {w w':World} (h:Rg rb rv w) (hk:w'.heap[rb]?=w.heap[rb]?):Rg rb rv w':=by
 obtain⟨cs,h1,h2⟩:=h
 exact⟨cs,hk.trans h1,h2⟩
theorem Rg.set {rb:Nat} {rv rv':Value} {w:World} (h:Rg rb rv w):Rg rb rv' (w.setCell ⟨rb,2,none⟩ rv'):=by
 obtain⟨cs,h1,h2⟩:=h
 have hl:=(ags h2).1
 refine⟨cs.set 2 rv' hl,?_,by simp⟩
 show (w.heap.modify rb _)[rb]?=_
 rw[Array.getElem?_modify,if_pos rfl,h1]
 simp[Array.setIfInBounds,hl]
theorem rg_new {w:World} {cs:Array Value} {rv:Value} {s:Nat} (h:cs[2]?=some rv) (hs:w.heap.size=s):Rg s rv (w.alloc (.cells cs 173)):=by
 subst hs
 exact⟨cs,han w _,h⟩
theorem news_cells' (w:World) (cs:List Value) (e:TypeId) (j:Nat) (u:Value) (h:cs[j]?=some u):(w.alloc (.cells cs.toArray e)).cell? ((⟨w.heap.size,0,none⟩:Addr).add j)=some u:=by
 rw[Addr.add_lit,cor _ _ _ _ _ _ (han w _)]
 simpa using h
theorem own_kept' {w w':World} {base:Nat} {e:TypeId} {size:Nat} {v:Value} {n:Nat} {xs:List Value} (ho:w.ownsRow base e size v n xs) (hk:∀k,v.ownBlock=some k->w'.heap[k]?=w.heap[k]?):w'.ownsRow base e size v n xs:=by
 refine⟨ho.1,?_⟩
 rcases ho.2 with hn|⟨g,cap,cur,rfl,hbg,hgg,rest⟩
 ·exact .inl hn
 ·exact .inr ⟨g,cap,cur,rfl,hbg,(hk g rfl).trans hgg,rest⟩
abbrev rowV (n:Nat) (R:List Nat):List Value:=R.map fun q=>.slice (some ⟨q,0,none⟩) n n
theorem Tryz.infoRow:(Tryz.prog.info? 27).map (fun i=>(i.zero,i.size,i.bytes))=some (some (.slice none 0 0),1,24):=by kernel_rfl
theorem refNew_any (k:Int) (v:Value) (w:World) (hv:Us w v):Calls Tryz.prog 35 #[.int .i64 k,v] w fun r w'=>(∃(p:Value) (e:Int),r=.returned (.tuple #[p,.int .i64 e]))/\Below w.heap.size w w':=by
 have HV:=hid hv
 obtain⟨p,n,c,hvv,h1,h2⟩:=hv
 have HVV:=hid hvv
 subst hvv
 have H2:=hid h2
 clear h1 h2
 by_cases k1:k < 1
 ·have e1:(k < 1)=True:=by simp;omega
  clear k1
  go_enter Tryz.func35,Tryz.ntmps35
  go_wp2_with fail
  all_goals go_ret2
  all_goals exact⟨⟨_,_,rfl⟩,Below.refl _ _⟩
 ·have e1:(k < 1)=False:=by simp;omega
  clear k1
  by_cases k2:3 < k
  ·have e2:(3 < k)=True:=by simp;omega
   clear k2
   go_enter Tryz.func35,Tryz.ntmps35
   go_wp2_with fail
   all_goals go_ret2
   all_goals exact⟨⟨_,_,rfl⟩,Below.refl _ _⟩
  ·have e2:(3 < k)=False:=by simp;omega
   clear k2
   by_cases n1:n < 1
   ·have e3:((n:Int) < 1)=True:=by simp;omega
    clear n1
    go_enter Tryz.func35,Tryz.ntmps35
    go_wp2_with fail
    all_goals go_ret2
    all_goals exact⟨⟨_,_,rfl⟩,Below.refl _ _⟩
   ·have e3:((n:Int) < 1)=False:=by simp;omega
    have HN1:Hid (1<=n):=by show 1<=n;omega
    clear n1
    by_cases n2:4096 < n
    ·have e4:(4096 < (n:Int))=True:=by simp;omega
     clear n2
     go_enter Tryz.func35,Tryz.ntmps35
     go_wp2_with fail
     all_goals go_ret2
     all_goals exact⟨⟨_,_,rfl⟩,Below.refl _ _⟩
    ·have e4:(4096 < (n:Int))=False:=by simp;omega
     have HN2:Hid (n<=4096):=by show n<=4096;omega
     clear n2
     by_cases k3:k=3/\n≠1
     ·have e5:(k==3)=true:=by rw[k3.1];rfl
      have e6:((n:Int) != 1)=true:=by rw[bne_iff_ne];omega
      clear k3
      go_enter Tryz.func35,Tryz.ntmps35
      go_wp2_with fail
      all_goals go_ret2
      all_goals exact⟨⟨_,_,rfl⟩,Below.refl _ _⟩
     ·obtain⟨q1,q2,e5,e6,e7⟩:∃q1 q2:Bool,(k==3)=q1/\((n:Int) != 1)=q2/\(q1 && q2)=false:=by
       refine⟨_,_,rfl,rfl,?_⟩
       by_cases h3:k=3
       ·have:n=1:=Classical.byContradiction fun h=>k3 ⟨h3,h⟩
        rw[this];simp
       ·have:(k==3)=false:=by rw[beq_eq_false_iff_ne];exact h3
        rw[this];rfl
      clear k3
      go_enter Tryz.func35,Tryz.ntmps35
      have FB:Hid (Below w.heap.size w ((w.alloc (.cells #[.int .i64 0,.int .i64 0] 3)).alloc (.cells #[.int .i64 k,.int .i64 (n:Nat),.slice none 0 0,.int .i64 0,.int .i64 0,.slice (some ⟨w.heap.size,0,none⟩) 2 2,.int .i64 1,.int .i64 2,.int .i64 0,.bool false,.bool false,.bool false,.int .i64 0,.int .i64 0,.int .i64 0,.int .i64 0,.int .i64 0,.int .i64 0,.slice none 0 0,.slice none 0 0] 173))):=(brf.alloc nlr _).alloc (by simp) _
      have FG:Hid (Rg (w.heap.size+1) (.slice none 0 0) ((w.alloc (.cells #[.int .i64 0,.int .i64 0] 3)).alloc (.cells #[.int .i64 k,.int .i64 (n:Nat),.slice none 0 0,.int .i64 0,.int .i64 0,.slice (some ⟨w.heap.size,0,none⟩) 2 2,.int .i64 1,.int .i64 2,.int .i64 0,.bool false,.bool false,.bool false,.int .i64 0,.int .i64 0,.int .i64 0,.int .i64 0,.int .i64 0,.int .i64 0,.slice none 0 0,.slice none 0 0] 173))):=rg_new rfl (by simp)
      obtain⟨k0,hk0,kz0,kz1,kz2⟩:=info_parts Tryz.infoWord
      obtain⟨j0,hj0,jz0,jz1,jz2⟩:=info_parts Tryz.infoRow
      have HJ:Hid (Tryz.prog.info? 27=some j0/\j0.zero=some (.slice none 0 0)/\j0.size=1/\j0.bytes=24):=⟨hj0,jz0,jz1,jz2⟩
      have HK:Hid (Tryz.prog.info? 177=some k0/\k0.zero=some (.int .u64 0)/\k0.size=1/\k0.bytes=8):=⟨hk0,kz0,kz1,kz2⟩
      clear hk0 kz0 kz1 kz2 hj0 jz0 jz1 jz2
      have e8:q1=false\/(q1=true/\q2=false):=by cases q1 <;> cases q2 <;> simp_all
      clear e7
      rcases e8 with rfl|⟨rfl,rfl⟩
      all_goals go_wp2_with fail
      all_goals clear e1 e2 e3 e4 e5 e6
      all_goals generalize (w.alloc (.cells #[.int .i64 0,.int .i64 0] 3)).alloc (.cells #[.int .i64 k,.int .i64 (n:Nat),.slice none 0 0,.int .i64 0,.int .i64 0,.slice (some ⟨w.heap.size,0,none⟩) 2 2,.int .i64 1,.int .i64 2,.int .i64 0,.bool false,.bool false,.bool false,.int .i64 0,.int .i64 0,.int .i64 0,.int .i64 0,.int .i64 0,.int .i64 0,.slice none 0 0,.slice none 0 0] 173)=W0 at FB FG ⊢
      all_goals have HRB:Hid (w.heap.size<=w.heap.size+1):=Nat.le_succ _
      all_goals generalize hrb:w.heap.size+1=rb at FG HRB ⊢
      all_goals clear hrb
      ·go_loopg [8] 4 (fun gk s8 wr=>∃(i:Nat) (rv:Value) (R:List Nat),s8=.int .i64 (i:Nat)/\i<=4/\gk=4 - i/\Hid (Rg rb rv wr)/\Hid (wr.ownsRow (rb+1) 27 1 rv i (rowV n R))/\Hid (R.length=i/\∀q,q∈R->rb < q/\rv.ownBlock≠some q/\∃cur:Array Value,wr.heap[q]?=some (.cells cur 177 (0,0))/\cur.size=n)/\Hid (Below w.heap.size w wr))
       case atStart=>exact⟨0,.slice none 0 0,[],rfl,Nat.zero_le _,rfl,FG,World.ownsRow_nil _ _ _ _,⟨rfl,fun q hq=>by cases hq⟩,FB⟩
       case round=>
        obtain⟨i,rv,R,rfl,hi,hg,KG,KO,KR,KB⟩:=hrel
        have HG:=hid hg
        clear hg
        have d0:=KG.out.cell
        by_cases hlt:i < 4
        ·have b0:((i:Int) < 4)=True:=by simp;omega
         have HLT:=hid hlt
         have hw:IntKind.i64.wrap ((i:Int)+1)=(i:Int)+1:=by
          simp only[IntKind.wrap_i64];omega
         clear hlt hi
         go_wp2_with fail
         refine wp_region_L (fun w'=>w'.cell? ⟨rb,2,none⟩=some rv) 11 (by kernel_rfl) (by (try dsimp only);exact d0) (fun hHeld=>?_)
         refine wpAnyL_take (i := 0) (oi := { dst := some 40, op := Op.move (Operand.tmp 7), type := 73, pos := "regs.go:36", after := #[], guard := none }) (v := ?va0) rfl (by kernel_rfl) (by kernel_rfl) (by kernel_rfl) (by kernel_rfl) (fun _ _ _ h => h) (Or.inl ⟨by rfl, ?ya0⟩) (by assumption) ?ra0
         case ya0=>(intro w' hSw;(try dsimp only at hSw);go_simp <;> with_reducible rfl)
         try simp only[Act.put,List.setIfInBounds_toArray,List.set_cons_zero,List.set_cons_succ]
         refine wpAnyL_take (i := 1) (oi := { dst := some 41, op := Op.move (Operand.tmp 7), type := 73, pos := "regs.go:36", after := #[], guard := none }) (v := ?va1) rfl (by kernel_rfl) (by kernel_rfl) (by kernel_rfl) (by kernel_rfl) (fun _ _ _ h => h) (Or.inl ⟨by rfl, ?ya1⟩) (by assumption) ?ra1
         case ya1=>(intro w' hSw;(try dsimp only at hSw);go_simp <;> with_reducible rfl)
         try simp only[Act.put,List.setIfInBounds_toArray,List.set_cons_zero,List.set_cons_succ]
         refine wpAnyL_take (i := 2) (oi := { dst := some 42, op := Op.nilCheck (Operand.tmp 41), type := 0, pos := "regs.go:36", after := #[{ on := 1, ground := Ground.data }], guard := none }) (v := ?va2) rfl (by kernel_rfl) (by kernel_rfl) (by kernel_rfl) (by kernel_rfl) (fun _ _ _ h => h) (Or.inl ⟨by rfl, ?ya2⟩) (by assumption) ?ra2
         case ya2=>(intro w' hSw;(try dsimp only at hSw);go_simp <;> with_reducible rfl)
         try simp only[Act.put,List.setIfInBounds_toArray,List.set_cons_zero,List.set_cons_succ]
         refine wpAnyL_take (i := 3) (oi := { dst := some 43, op := Op.fieldAddr 173 (Operand.tmp 42) 2, type := 0, pos := "regs.go:36", after := #[{ on := 2, ground := Ground.data }], guard := none }) (v := ?va3) rfl (by kernel_rfl) (by kernel_rfl) (by kernel_rfl) (by kernel_rfl) (fun _ _ _ h => h) (Or.inl ⟨by rfl, ?ya3⟩) (by assumption) ?ra3
         case ya3=>(intro w' hSw;(try dsimp only at hSw);go_simp <;> with_reducible rfl)
         try simp only[Act.put,List.setIfInBounds_toArray,List.set_cons_zero,List.set_cons_succ]
         refine wpAnyL_take (i := 4) (oi := { dst := some 44, op := Op.load 171 (Operand.tmp 43), type := 171, pos := "regs.go:36", after := #[{ on := 3, ground := Ground.data }], guard := none }) (v := ?va4) rfl (by kernel_rfl) (by kernel_rfl) (by kernel_rfl) (by kernel_rfl) (fun _ _ _ h => h) (Or.inl ⟨by rfl, ?ya4⟩) (by assumption) ?ra4
         case ya4=>(intro w' hSw;(try dsimp only at hSw);go_simp <;> with_reducible rfl)
         try simp only[Act.put,List.setIfInBounds_toArray,List.set_cons_zero,List.set_cons_succ]
         refine wpAnyL_take (i := 5) (oi := { dst := some 45, op := Op.move (Operand.tmp 6), type := 3, pos := "regs.go:36", after := #[], guard := none }) (v := ?va5) rfl (by kernel_rfl) (by kernel_rfl) (by kernel_rfl) (by kernel_rfl) (fun _ _ _ h => h) (Or.inl ⟨by rfl, ?ya5⟩) (by assumption) ?ra5
         case ya5=>(intro w' hSw;(try dsimp only at hSw);go_simp <;> with_reducible rfl)
         try simp only[Act.put,List.setIfInBounds_toArray,List.set_cons_zero,List.set_cons_succ]
         refine wpAnyL_one (i := 6) (o := { dst := some 46, op := Op.makeSlice 27 (Operand.tmp 45) (Operand.tmp 45), type := 27, pos := "regs.go:36", after := #[{ on := 5, ground := Ground.data }, { on := 5, ground := Ground.data }], guard := none }) (by kernel_rfl) rfl (fun K hK => ?_)
         refine step_make_full rfl (.tmp 45) (.tmp 45) 27 rfl (rb+1) 177 k0 (.int .u64 0) 1 Tryz.underlying27 HK.out.1 HK.out.2.1 HK.out.2.2.1 _ _ n rfl rfl (by rw[HK.out.2.2.2];have:=HN2.out;omega) (by unfold maxLen;have:=HN2.out;omega) (by have:=KG.out.lt;simp;omega) ?_
         intro w6 O6 g6
         have G6:Hid (Rg rb rv w6):=KG.out.kept (g6.block rb KG.out.lt (by simp))
         have B6:Hid (Below w.heap.size w w6):=KB.out.trans ⟨g6.os,g6.tape,g6.output,g6.size,fun q hq=>g6.block q (Nat.lt_of_lt_of_le hq KB.out.size) (by simp)⟩
         have X6:Hid (∃cur:Array Value,w6.heap[wr.heap.size]?=some (.cells cur 177 (0,0))/\cur.size=n):=by
          rcases O6.2 with ⟨h,_⟩|⟨q,cap,cur,h,_,hq,_,_,hsz,_⟩
          ·cases h
          ·injection h with e1 e2 e3
           injection e1 with e1
           injection e1 with e1
           exact⟨cur,by rw[show wr.heap.size=q from e1];exact hq,by omega⟩
         have KR6:Hid (∀q,q∈R->rb < q/\q < wr.heap.size/\rv.ownBlock≠some q/\∃cur:Array Value,w6.heap[q]?=some (.cells cur 177 (0,0))/\cur.size=n):=fun q hq=>by
          obtain⟨h1,h2,cur,h3,h4⟩:=KR.out.2 q hq
          have hl:=(ags h3).1
          exact⟨h1,hl,h2,cur,(g6.block q hl (by simp)).trans h3,h4⟩
         have KO6:Hid (w6.ownsRow (rb+1) 27 1 rv i (rowV n R)):=own_kept' KO.out (fun q hq=>g6.block q (KO.out.lt q hq).2 (by simp))
         have N6:Hid (rb < wr.heap.size/\wr.heap.size < w6.heap.size/\∀q,rv.ownBlock=some q->rb < q/\q < wr.heap.size):=by
          obtain⟨cur,h3,_⟩:=X6.out
          exact⟨KG.out.lt,(ags h3).1,fun q hq=>KO.out.lt q hq⟩
         clear O6 g6
         refine hK.out _ _ (Or.inr ?sa6) (fun h6=>?ra6)
         case sa6=>exact G6.out.cell
         replace h6:=h6.resolve_left (by decide)
         clear hK K
         try simp only[Act.put,List.setIfInBounds_toArray,List.set_cons_zero,List.set_cons_succ]
         refine wpAnyL_one (i := 7) (o := { dst := some 47, op := Op.buildSlice 171 1 #[(0, Operand.tmp 46)], type := 171, pos := "regs.go:36", after := #[{ on := 6, ground := Ground.data }], guard := none }) (by kernel_rfl) rfl (fun K hK => ?_)
         go_simp
         refine hK.out _ _ (Or.inr ?sa7) (fun h7=>?ra7)
         case sa7=>((try dsimp only);go_keep)
         replace h7:=h7.resolve_left (by decide)
         clear hK K
         try simp only[Act.put,List.setIfInBounds_toArray,List.set_cons_zero,List.set_cons_succ]
         refine wpAnyL_one (i := 8) (o := { dst := some 48, op := Op.call { callee := Callee.builtin Builtin.append, args := #[Operand.tmp 44, Operand.tmp 47], argTypes := #[171, 171] }, type := 171, pos := "regs.go:36", after := #[{ on := 4, ground := Ground.data }, { on := 7, ground := Ground.data }], guard := none }) (by kernel_rfl) rfl (fun K hK => ?_)
         have OW:Hid ((w6.alloc (.cells #[.slice (some ⟨wr.heap.size,0,none⟩) n n] 27)).ownsRow (rb+1) 27 1 rv i (rowV n R)):=own_kept' KO6.out (fun q hq=>Below.heap_alloc w6 _ q (KO6.out.lt q hq).2)
         have NW:Hid (∀(j:Nat) (u:Value),[Value.slice (some ⟨wr.heap.size,0,none⟩) n n][j]?=some u->(w6.alloc (.cells #[.slice (some ⟨wr.heap.size,0,none⟩) n n] 27)).cell? ((⟨w6.heap.size,0,none⟩:Addr).add j)=some u):=fun j u h=>news_cells' w6 [.slice (some ⟨wr.heap.size,0,none⟩) n n] 27 j u h
         refine step_append_lies _ rfl (.tmp 44) (.tmp 47) 171 rfl (rb+1) 27 j0 (.slice none 0 0) 1 24 Tryz.underlying171 HJ.out.1 HJ.out.2.1 HJ.out.2.2.1 HJ.out.2.2.2 rfl (by decide) rv i (rowV n R) rfl OW.out ⟨w6.heap.size,0,none⟩ 1 1 [.slice (some ⟨wr.heap.size,0,none⟩) n n] rfl rfl NW.out (by intro u hu;rw[List.mem_singleton.1 hu];rfl) (by decide) (by unfold maxLen;have:=HLT.out;omega) (by have:=HLT.out;omega) (by have:=N6.out;simp;omega) _ rfl ?_
         intro k8 c8 w8 O8 hg8 hat8 hlt8
         have G8:Hid (Rg rb rv w8):=(G6.out.kept (Below.heap_alloc w6 _ rb (by have:=N6.out;omega))).kept (hg8.block rb (by have:=N6.out;simp;omega) (fun e=>by have:=(N6.out.2.2 rb e.symm).1;omega))
         have B8:Hid (Below w.heap.size w w8):=(B6.out.alloc B6.out.size _).trans ⟨hg8.os,hg8.tape,hg8.output,hg8.size,fun q hq=>hg8.block q (by have:=B6.out.size;simp;omega) (fun e=>by have:=(N6.out.2.2 q e.symm).1;have:=HRB.out;omega)⟩
         have E8:Hid (∀q,q∈R++[wr.heap.size]->rb < q/\k8≠q/\∃cur:Array Value,w8.heap[q]?=some (.cells cur 177 (0,0))/\cur.size=n):=by
          have key:∀q,rb < q->q < w6.heap.size->rv.ownBlock≠some q->(∃cur:Array Value,w6.heap[q]?=some (.cells cur 177 (0,0))/\cur.size=n)->rb < q/\k8≠q/\∃cur:Array Value,w8.heap[q]?=some (.cells cur 177 (0,0))/\cur.size=n:=fun q h1 h2 h3 ⟨cur,h4,h5⟩=>by
           refine⟨h1,fun e=>?_,cur,(hg8.block q (by simp;omega) (fun e=>h3 e.symm)).trans ((Below.heap_alloc w6 _ q h2).trans h4),h5⟩
           subst e
           rcases hat8 with h|h
           ·exact h3 h
           ·simp at h;omega
          intro q hq
          rcases List.mem_append.1 hq with hq|hq
          ·obtain⟨h1,h2,h3,h4⟩:=KR6.out q hq
           exact key q h1 (by have:=N6.out;omega) h3 h4
          ·rw[List.mem_singleton.1 hq]
           refine key _ N6.out.1 N6.out.2.1 (fun e=>?_) X6.out
           have:=(N6.out.2.2 _ e).2
           omega
         have O9:Hid (w8.ownsRow (rb+1) 27 1 (.slice (some ⟨k8,0,none⟩) (i+1) c8) (i+1) (rowV n (R++[wr.heap.size]))):=by
          show World.ownsRow _ _ _ _ _ _ _
          rw[show rowV n (R++[wr.heap.size])=rowV n R++[.slice (some ⟨wr.heap.size,0,none⟩) n n] from by simp[rowV]]
          exact O8
         have x1:=G8.out.cell
         have xz:=G8.out.frozen
         clear O8 hg8 hat8 hlt8
         refine hK.out _ _ (Or.inr ?sa8) (fun h8=>?ra8)
         case sa8=>exact x1
         replace h8:=h8.resolve_left (by decide)
         clear hK K
         try simp only[Act.put,List.setIfInBounds_toArray,List.set_cons_zero,List.set_cons_succ]
         refine wpAnyL_one (i := 9) (o := { dst := some 49, op := Op.nilCheck (Operand.tmp 40), type := 0, pos := "regs.go:36", after := #[{ on := 0, ground := Ground.data }, { on := 0, ground := Ground.phase }, { on := 1, ground := Ground.phase }, { on := 2, ground := Ground.phase }, { on := 3, ground := Ground.phase }, { on := 4, ground := Ground.phase }, { on := 5, ground := Ground.phase }, { on := 6, ground := Ground.phase }, { on := 7, ground := Ground.phase }, { on := 8, ground := Ground.phase }], guard := none }) (by kernel_rfl) rfl (fun K hK => ?_)
         go_simp
         refine hK.out _ _ (Or.inr (by assumption)) (fun h9=>?ra9)
         clear h9 hK K
         try simp only[Act.put,List.setIfInBounds_toArray,List.set_cons_zero,List.set_cons_succ]
         refine wpAnyL_one (i := 10) (o := { dst := some 50, op := Op.fieldAddr 173 (Operand.tmp 49) 2, type := 0, pos := "regs.go:36", after := #[{ on := 9, ground := Ground.data }, { on := 0, ground := Ground.phase }, { on := 1, ground := Ground.phase }, { on := 2, ground := Ground.phase }, { on := 3, ground := Ground.phase }, { on := 4, ground := Ground.phase }, { on := 5, ground := Ground.phase }, { on := 6, ground := Ground.phase }, { on := 7, ground := Ground.phase }, { on := 8, ground := Ground.phase }], guard := none }) (by kernel_rfl) rfl (fun K hK => ?_)
         go_simp
         refine hK.out _ _ (Or.inr (by assumption)) (fun h10=>?ra10)
         clear h10 hK K
         try simp only[Act.put,List.setIfInBounds_toArray,List.set_cons_zero,List.set_cons_succ]
         refine wpAnyL_one (i := 11) (o := { dst := none, op := Op.store 171 (Operand.tmp 50) (Operand.tmp 48), type := 0, pos := "regs.go:36", after := #[{ on := 10, ground := Ground.data }, { on := 8, ground := Ground.data }, { on := 8, ground := Ground.chain }, { on := 0, ground := Ground.phase }, { on := 1, ground := Ground.phase }, { on := 2, ground := Ground.phase }, { on := 3, ground := Ground.phase }, { on := 4, ground := Ground.phase }, { on := 5, ground := Ground.phase }, { on := 6, ground := Ground.phase }, { on := 7, ground := Ground.phase }, { on := 8, ground := Ground.phase }], guard := none }) (by kernel_rfl) rfl (fun K hK => ?_)
         go_simp
         refine hK.out _ _ (Or.inl rfl) (fun _=>?ra11)
         clear hK K
         try simp only[Act.put,List.setIfInBounds_toArray,List.set_cons_zero,List.set_cons_succ]
         refine wpAnyL_done (by kernel_rfl) ?_ _
         all_goals go_wp2
         all_goals go_roundg (4 - (i+1))
         case measure=>
          have h1:=HG.out
          have h2:=HLT.out
          omega
         case rel=>
          have oth:∀q,q≠rb->(w8.setCell ⟨rb,2,none⟩ (.slice (some ⟨k8,0,none⟩) (i+1) c8)).heap[q]?=w8.heap[q]?:=fun q hq=>bhs w8 ⟨rb,2,none⟩ _ q hq
          refine⟨i+1,.slice (some ⟨k8,0,none⟩) (i+1) c8,R++[wr.heap.size],rfl,HLT.out,rfl,G8.out.set,own_kept' O9.out (fun q hq=>oth q (by have:=(O9.out.lt q hq).1;omega)),⟨by rw[List.length_append,KR.out.1];rfl,fun q hq=>?_⟩,B8.out.setCell HRB.out _⟩
          obtain⟨h1,h2,cur,h3,h4⟩:=E8.out q hq
          refine⟨h1,fun e=>h2 ?_,cur,(oth q (by omega)).trans h3,h4⟩
          simpa [Value.ownBlock] using e
        ·have b0:((i:Int) < 4)=False:=by simp;omega
         obtain⟨hRl,hall⟩:=KR.out
         have hi4:i=4:=by omega
         obtain⟨q0,R',rfl⟩:∃q0 R',R=q0::R':=by
          cases R with
          | nil=>simp at hRl;omega
          | cons q r=>exact⟨q,r,rfl⟩
         obtain⟨hq0,_,cur,hcur,hsz⟩:=hall q0 List.mem_cons_self
         obtain⟨kr,cr,hrv,hr0⟩:∃kr cr,rv=.slice (some ⟨kr,0,none⟩) i cr/\wr.cell? ⟨kr,0,none⟩=some (.slice (some ⟨q0,0,none⟩) n n):=by
          rcases KO.out.2 with ⟨_,h0⟩|⟨kr,cap,cu,hv,_,hkr,hc,_,hs,ht⟩
          ·omega
          ·refine⟨kr,cap,hv,?_⟩
           rw[cor wr kr 0 _ _ _ hkr]
           have e:(rowV n (q0::R'))[0]?=some (.slice (some ⟨q0,0,none⟩) n n):=rfl
           rw[<-e,<-ht,List.getElem?_take,if_pos (by omega)]
           simp
         obtain⟨b,off,rfl,U,hU,hcell⟩:=H2.out.resolve_left (by have:=HN1.out;omega)
         rw[hrv,hi4] at d0
         have HC:Hid (wr.heap[q0]?=some (.cells cur 177 (0,0))/\cur.size=n):=⟨hcur,hsz⟩
         have HU:=hid hU
         have HS:Hid (∀j v,(uv U)[j]?=some v->wr.cell? ((⟨b,off,none⟩:Addr).add j)=some v):=fun j u hu=>by
          rw[show (uv U)[j]?=(U[j]?).map (Value.int .u64) from List.getElem?_map ..] at hu
          obtain⟨y,hy,rfl⟩:=oms hu
          rw[Addr.add_lit]
          have:=hcell j y hy
          exact (KB.out.cell (lt_of_cell this)).trans this
         have HQ:Hid (w.heap.size<=q0):=by
          have:=HRB.out
          show w.heap.size<=q0
          omega
         clear hRl hall hi4 hq0 hcur hsz hrv hU hcell hlt hi
         go_wp2_with (refine wpList_copy_own rfl (.tmp 56) (.tmp 57) 27 27 rfl 177 Tryz.underlying27 (by rw[HK.out.1];exact congrArg some HK.out.2.2.1) q0 0 n n ⟨b,off,none⟩ n c rfl rfl cur 177 HC.out.1 (uv U) (by simp[HU.out]) HS.out (by simp[HU.out,HC.out.2]) (by intro u hu;obtain⟨_,_,rfl⟩:=List.mem_map.1 hu;rfl) ?_)
         all_goals go_ret2
         all_goals exact⟨⟨_,_,rfl⟩,below_setRow KB.out HQ.out _⟩
      ·go_loopg [8] 4 (fun gk s8 wr=>∃(i:Nat) (rv:Value) (R:List Nat),s8=.int .i64 (i:Nat)/\i<=4/\gk=4 - i/\Hid (Rg rb rv wr)/\Hid (wr.ownsRow (rb+1) 27 1 rv i (rowV n R))/\Hid (R.length=i/\∀q,q∈R->rb < q/\rv.ownBlock≠some q/\∃cur:Array Value,wr.heap[q]?=some (.cells cur 177 (0,0))/\cur.size=n)/\Hid (Below w.heap.size w wr))
       case atStart=>exact⟨0,.slice none 0 0,[],rfl,Nat.zero_le _,rfl,FG,World.ownsRow_nil _ _ _ _,⟨rfl,fun q hq=>by cases hq⟩,FB⟩
       case round=>
        obtain⟨i,rv,R,rfl,hi,hg,KG,KO,KR,KB⟩:=hrel
        have HG:=hid hg
        clear hg
        have d0:=KG.out.cell
        by_cases hlt:i < 4
        ·have b0:((i:Int) < 4)=True:=by simp;omega
         have HLT:=hid hlt
         have hw:IntKind.i64.wrap ((i:Int)+1)=(i:Int)+1:=by
          simp only[IntKind.wrap_i64];omega
         clear hlt hi
         go_wp2_with fail
         refine wp_region_L (fun w'=>w'.cell? ⟨rb,2,none⟩=some rv) 11 (by kernel_rfl) (by (try dsimp only);exact d0) (fun hHeld=>?_)
         refine wpAnyL_take (i := 0) (oi := { dst := some 40, op := Op.move (Operand.tmp 7), type := 73, pos := "regs.go:36", after := #[], guard := none }) (v := ?vb0) rfl (by kernel_rfl) (by kernel_rfl) (by kernel_rfl) (by kernel_rfl) (fun _ _ _ h => h) (Or.inl ⟨by rfl, ?yb0⟩) (by assumption) ?rb0
         case yb0=>(intro w' hSw;(try dsimp only at hSw);go_simp <;> with_reducible rfl)
         try simp only[Act.put,List.setIfInBounds_toArray,List.set_cons_zero,List.set_cons_succ]
         refine wpAnyL_take (i := 1) (oi := { dst := some 41, op := Op.move (Operand.tmp 7), type := 73, pos := "regs.go:36", after := #[], guard := none }) (v := ?vb1) rfl (by kernel_rfl) (by kernel_rfl) (by kernel_rfl) (by kernel_rfl) (fun _ _ _ h => h) (Or.inl ⟨by rfl, ?yb1⟩) (by assumption) ?rb1
         case yb1=>(intro w' hSw;(try dsimp only at hSw);go_simp <;> with_reducible rfl)
         try simp only[Act.put,List.setIfInBounds_toArray,List.set_cons_zero,List.set_cons_succ]
         refine wpAnyL_take (i := 2) (oi := { dst := some 42, op := Op.nilCheck (Operand.tmp 41), type := 0, pos := "regs.go:36", after := #[{ on := 1, ground := Ground.data }], guard := none }) (v := ?vb2) rfl (by kernel_rfl) (by kernel_rfl) (by kernel_rfl) (by kernel_rfl) (fun _ _ _ h => h) (Or.inl ⟨by rfl, ?yb2⟩) (by assumption) ?rb2
         case yb2=>(intro w' hSw;(try dsimp only at hSw);go_simp <;> with_reducible rfl)
         try simp only[Act.put,List.setIfInBounds_toArray,List.set_cons_zero,List.set_cons_succ]
         refine wpAnyL_take (i := 3) (oi := { dst := some 43, op := Op.fieldAddr 173 (Operand.tmp 42) 2, type := 0, pos := "regs.go:36", after := #[{ on := 2, ground := Ground.data }], guard := none }) (v := ?vb3) rfl (by kernel_rfl) (by kernel_rfl) (by kernel_rfl) (by kernel_rfl) (fun _ _ _ h => h) (Or.inl ⟨by rfl, ?yb3⟩) (by assumption) ?rb3
         case yb3=>(intro w' hSw;(try dsimp only at hSw);go_simp <;> with_reducible rfl)
         try simp only[Act.put,List.setIfInBounds_toArray,List.set_cons_zero,List.set_cons_succ]
         refine wpAnyL_take (i := 4) (oi := { dst := some 44, op := Op.load 171 (Operand.tmp 43), type := 171, pos := "regs.go:36", after := #[{ on := 3, ground := Ground.data }], guard := none }) (v := ?vb4) rfl (by kernel_rfl) (by kernel_rfl) (by kernel_rfl) (by kernel_rfl) (fun _ _ _ h => h) (Or.inl ⟨by rfl, ?yb4⟩) (by assumption) ?rb4
         case yb4=>(intro w' hSw;(try dsimp only at hSw);go_simp <;> with_reducible rfl)
         try simp only[Act.put,List.setIfInBounds_toArray,List.set_cons_zero,List.set_cons_succ]
         refine wpAnyL_take (i := 5) (oi := { dst := some 45, op := Op.move (Operand.tmp 6), type := 3, pos := "regs.go:36", after := #[], guard := none }) (v := ?vb5) rfl (by kernel_rfl) (by kernel_rfl) (by kernel_rfl) (by kernel_rfl) (fun _ _ _ h => h) (Or.inl ⟨by rfl, ?yb5⟩) (by assumption) ?rb5
         case yb5=>(intro w' hSw;(try dsimp only at hSw);go_simp <;> with_reducible rfl)
         try simp only[Act.put,List.setIfInBounds_toArray,List.set_cons_zero,List.set_cons_succ]
         refine wpAnyL_one (i := 6) (o := { dst := some 46, op := Op.makeSlice 27 (Operand.tmp 45) (Operand.tmp 45), type := 27, pos := "regs.go:36", after := #[{ on := 5, ground := Ground.data }, { on := 5, ground := Ground.data }], guard := none }) (by kernel_rfl) rfl (fun K hK => ?_)
         refine step_make_full rfl (.tmp 45) (.tmp 45) 27 rfl (rb+1) 177 k0 (.int .u64 0) 1 Tryz.underlying27 HK.out.1 HK.out.2.1 HK.out.2.2.1 _ _ n rfl rfl (by rw[HK.out.2.2.2];have:=HN2.out;omega) (by unfold maxLen;have:=HN2.out;omega) (by have:=KG.out.lt;simp;omega) ?_
         intro w6 O6 g6
         have G6:Hid (Rg rb rv w6):=KG.out.kept (g6.block rb KG.out.lt (by simp))
         have B6:Hid (Below w.heap.size w w6):=KB.out.trans ⟨g6.os,g6.tape,g6.output,g6.size,fun q hq=>g6.block q (Nat.lt_of_lt_of_le hq KB.out.size) (by simp)⟩
         have X6:Hid (∃cur:Array Value,w6.heap[wr.heap.size]?=some (.cells cur 177 (0,0))/\cur.size=n):=by
          rcases O6.2 with ⟨h,_⟩|⟨q,cap,cur,h,_,hq,_,_,hsz,_⟩
          ·cases h
          ·injection h with e1 e2 e3
           injection e1 with e1
           injection e1 with e1
           exact⟨cur,by rw[show wr.heap.size=q from e1];exact hq,by omega⟩
         have KR6:Hid (∀q,q∈R->rb < q/\q < wr.heap.size/\rv.ownBlock≠some q/\∃cur:Array Value,w6.heap[q]?=some (.cells cur 177 (0,0))/\cur.size=n):=fun q hq=>by
          obtain⟨h1,h2,cur,h3,h4⟩:=KR.out.2 q hq
          have hl:=(ags h3).1
          exact⟨h1,hl,h2,cur,(g6.block q hl (by simp)).trans h3,h4⟩
         have KO6:Hid (w6.ownsRow (rb+1) 27 1 rv i (rowV n R)):=own_kept' KO.out (fun q hq=>g6.block q (KO.out.lt q hq).2 (by simp))
         have N6:Hid (rb < wr.heap.size/\wr.heap.size < w6.heap.size/\∀q,rv.ownBlock=some q->rb < q/\q < wr.heap.size):=by
          obtain⟨cur,h3,_⟩:=X6.out
          exact⟨KG.out.lt,(ags h3).1,fun q hq=>KO.out.lt q hq⟩
         clear O6 g6
         refine hK.out _ _ (Or.inr ?sb6) (fun h6=>?rb6)
         case sb6=>exact G6.out.cell
         replace h6:=h6.resolve_left (by decide)
         clear hK K
         try simp only[Act.put,List.setIfInBounds_toArray,List.set_cons_zero,List.set_cons_succ]
         refine wpAnyL_one (i := 7) (o := { dst := some 47, op := Op.buildSlice 171 1 #[(0, Operand.tmp 46)], type := 171, pos := "regs.go:36", after := #[{ on := 6, ground := Ground.data }], guard := none }) (by kernel_rfl) rfl (fun K hK => ?_)
         go_simp
         refine hK.out _ _ (Or.inr ?sb7) (fun h7=>?rb7)
         case sb7=>((try dsimp only);go_keep)
         replace h7:=h7.resolve_left (by decide)
         clear hK K
         try simp only[Act.put,List.setIfInBounds_toArray,List.set_cons_zero,List.set_cons_succ]
         refine wpAnyL_one (i := 8) (o := { dst := some 48, op := Op.call { callee := Callee.builtin Builtin.append, args := #[Operand.tmp 44, Operand.tmp 47], argTypes := #[171, 171] }, type := 171, pos := "regs.go:36", after := #[{ on := 4, ground := Ground.data }, { on := 7, ground := Ground.data }], guard := none }) (by kernel_rfl) rfl (fun K hK => ?_)
         have OW:Hid ((w6.alloc (.cells #[.slice (some ⟨wr.heap.size,0,none⟩) n n] 27)).ownsRow (rb+1) 27 1 rv i (rowV n R)):=own_kept' KO6.out (fun q hq=>Below.heap_alloc w6 _ q (KO6.out.lt q hq).2)
         have NW:Hid (∀(j:Nat) (u:Value),[Value.slice (some ⟨wr.heap.size,0,none⟩) n n][j]?=some u->(w6.alloc (.cells #[.slice (some ⟨wr.heap.size,0,none⟩) n n] 27)).cell? ((⟨w6.heap.size,0,none⟩:Addr).add j)=some u):=fun j u h=>news_cells' w6 [.slice (some ⟨wr.heap.size,0,none⟩) n n] 27 j u h
         refine step_append_lies _ rfl (.tmp 44) (.tmp 47) 171 rfl (rb+1) 27 j0 (.slice none 0 0) 1 24 Tryz.underlying171 HJ.out.1 HJ.out.2.1 HJ.out.2.2.1 HJ.out.2.2.2 rfl (by decide) rv i (rowV n R) rfl OW.out ⟨w6.heap.size,0,none⟩ 1 1 [.slice (some ⟨wr.heap.size,0,none⟩) n n] rfl rfl NW.out (by intro u hu;rw[List.mem_singleton.1 hu];rfl) (by decide) (by unfold maxLen;have:=HLT.out;omega) (by have:=HLT.out;omega) (by have:=N6.out;simp;omega) _ rfl ?_
         intro k8 c8 w8 O8 hg8 hat8 hlt8
         have G8:Hid (Rg rb rv w8):=(G6.out.kept (Below.heap_alloc w6 _ rb (by have:=N6.out;omega))).kept (hg8.block rb (by have:=N6.out;simp;omega) (fun e=>by have:=(N6.out.2.2 rb e.symm).1;omega))
         have B8:Hid (Below w.heap.size w w8):=(B6.out.alloc B6.out.size _).trans ⟨hg8.os,hg8.tape,hg8.output,hg8.size,fun q hq=>hg8.block q (by have:=B6.out.size;simp;omega) (fun e=>by have:=(N6.out.2.2 q e.symm).1;have:=HRB.out;omega)⟩
         have E8:Hid (∀q,q∈R++[wr.heap.size]->rb < q/\k8≠q/\∃cur:Array Value,w8.heap[q]?=some (.cells cur 177 (0,0))/\cur.size=n):=by
          have key:∀q,rb < q->q < w6.heap.size->rv.ownBlock≠some q->(∃cur:Array Value,w6.heap[q]?=some (.cells cur 177 (0,0))/\cur.size=n)->rb < q/\k8≠q/\∃cur:Array Value,w8.heap[q]?=some (.cells cur 177 (0,0))/\cur.size=n:=fun q h1 h2 h3 ⟨cur,h4,h5⟩=>by
           refine⟨h1,fun e=>?_,cur,(hg8.block q (by simp;omega) (fun e=>h3 e.symm)).trans ((Below.heap_alloc w6 _ q h2).trans h4),h5⟩
           subst e
           rcases hat8 with h|h
           ·exact h3 h
           ·simp at h;omega
          intro q hq
          rcases List.mem_append.1 hq with hq|hq
          ·obtain⟨h1,h2,h3,h4⟩:=KR6.out q hq
           exact key q h1 (by have:=N6.out;omega) h3 h4
          ·rw[List.mem_singleton.1 hq]
           refine key _ N6.out.1 N6.out.2.1 (fun e=>?_) X6.out
           have:=(N6.out.2.2 _ e).2
           omega
         have O9:Hid (w8.ownsRow (rb+1) 27 1 (.slice (some ⟨k8,0,none⟩) (i+1) c8) (i+1) (rowV n (R++[wr.heap.size]))):=by
          show World.ownsRow _ _ _ _ _ _ _
          rw[show rowV n (R++[wr.heap.size])=rowV n R++[.slice (some ⟨wr.heap.size,0,none⟩) n n] from by simp[rowV]]
          exact O8
         have x1:=G8.out.cell
         have xz:=G8.out.frozen
         clear O8 hg8 hat8 hlt8
         refine hK.out _ _ (Or.inr ?sb8) (fun h8=>?rb8)
         case sb8=>exact x1
         replace h8:=h8.resolve_left (by decide)
         clear hK K
         try simp only[Act.put,List.setIfInBounds_toArray,List.set_cons_zero,List.set_cons_succ]
         refine wpAnyL_one (i := 9) (o := { dst := some 49, op := Op.nilCheck (Operand.tmp 40), type := 0, pos := "regs.go:36", after := #[{ on := 0, ground := Ground.data }, { on := 0, ground := Ground.phase }, { on := 1, ground := Ground.phase }, { on := 2, ground := Ground.phase }, { on := 3, ground := Ground.phase }, { on := 4, ground := Ground.phase }, { on := 5, ground := Ground.phase }, { on := 6, ground := Ground.phase }, { on := 7, ground := Ground.phase }, { on := 8, ground := Ground.phase }], guard := none }) (by kernel_rfl) rfl (fun K hK => ?_)
         go_simp
         refine hK.out _ _ (Or.inr (by assumption)) (fun h9=>?rb9)
         clear h9 hK K
         try simp only[Act.put,List.setIfInBounds_toArray,List.set_cons_zero,List.set_cons_succ]
         refine wpAnyL_one (i := 10) (o := { dst := some 50, op := Op.fieldAddr 173 (Operand.tmp 49) 2, type := 0, pos := "regs.go:36", after := #[{ on := 9, ground := Ground.data }, { on := 0, ground := Ground.phase }, { on := 1, ground := Ground.phase }, { on := 2, ground := Ground.phase }, { on := 3, ground := Ground.phase }, { on := 4, ground := Ground.phase }, { on := 5, ground := Ground.phase }, { on := 6, ground := Ground.phase }, { on := 7, ground := Ground.phase }, { on := 8, ground := Ground.phase }], guard := none }) (by kernel_rfl) rfl (fun K hK => ?_)
         go_simp
         refine hK.out _ _ (Or.inr (by assumption)) (fun h10=>?rb10)
         clear h10 hK K
         try simp only[Act.put,List.setIfInBounds_toArray,List.set_cons_zero,List.set_cons_succ]
         refine wpAnyL_one (i := 11) (o := { dst := none, op := Op.store 171 (Operand.tmp 50) (Operand.tmp 48), type := 0, pos := "regs.go:36", after := #[{ on := 10, ground := Ground.data }, { on := 8, ground := Ground.data }, { on := 8, ground := Ground.chain }, { on := 0, ground := Ground.phase }, { on := 1, ground := Ground.phase }, { on := 2, ground := Ground.phase }, { on := 3, ground := Ground.phase }, { on := 4, ground := Ground.phase }, { on := 5, ground := Ground.phase }, { on := 6, ground := Ground.phase }, { on := 7, ground := Ground.phase }, { on := 8, ground := Ground.phase }], guard := none }) (by kernel_rfl) rfl (fun K hK => ?_)
         go_simp
         refine hK.out _ _ (Or.inl rfl) (fun _=>?rb11)
         clear hK K
         try simp only[Act.put,List.setIfInBounds_toArray,List.set_cons_zero,List.set_cons_succ]
         refine wpAnyL_done (by kernel_rfl) ?_ _
         all_goals go_wp2
         all_goals go_roundg (4 - (i+1))
         case measure=>
          have h1:=HG.out
          have h2:=HLT.out
          omega
         case rel=>
          have oth:∀q,q≠rb->(w8.setCell ⟨rb,2,none⟩ (.slice (some ⟨k8,0,none⟩) (i+1) c8)).heap[q]?=w8.heap[q]?:=fun q hq=>bhs w8 ⟨rb,2,none⟩ _ q hq
          refine⟨i+1,.slice (some ⟨k8,0,none⟩) (i+1) c8,R++[wr.heap.size],rfl,HLT.out,rfl,G8.out.set,own_kept' O9.out (fun q hq=>oth q (by have:=(O9.out.lt q hq).1;omega)),⟨by rw[List.length_append,KR.out.1];rfl,fun q hq=>?_⟩,B8.out.setCell HRB.out _⟩
          obtain⟨h1,h2,cur,h3,h4⟩:=E8.out q hq
          refine⟨h1,fun e=>h2 ?_,cur,(oth q (by omega)).trans h3,h4⟩
          simpa [Value.ownBlock] using e
        ·have b0:((i:Int) < 4)=False:=by simp;omega
         obtain⟨hRl,hall⟩:=KR.out
         have hi4:i=4:=by omega
         obtain⟨q0,R',rfl⟩:∃q0 R',R=q0::R':=by
          cases R with
          | nil=>simp at hRl;omega
          | cons q r=>exact⟨q,r,rfl⟩
         obtain⟨hq0,_,cur,hcur,hsz⟩:=hall q0 List.mem_cons_self
         obtain⟨kr,cr,hrv,hr0⟩:∃kr cr,rv=.slice (some ⟨kr,0,none⟩) i cr/\wr.cell? ⟨kr,0,none⟩=some (.slice (some ⟨q0,0,none⟩) n n):=by
          rcases KO.out.2 with ⟨_,h0⟩|⟨kr,cap,cu,hv,_,hkr,hc,_,hs,ht⟩
          ·omega
          ·refine⟨kr,cap,hv,?_⟩
           rw[cor wr kr 0 _ _ _ hkr]
           have e:(rowV n (q0::R'))[0]?=some (.slice (some ⟨q0,0,none⟩) n n):=rfl
           rw[<-e,<-ht,List.getElem?_take,if_pos (by omega)]
           simp
         obtain⟨b,off,rfl,U,hU,hcell⟩:=H2.out.resolve_left (by have:=HN1.out;omega)
         rw[hrv,hi4] at d0
         have HC:Hid (wr.heap[q0]?=some (.cells cur 177 (0,0))/\cur.size=n):=⟨hcur,hsz⟩
         have HU:=hid hU
         have HS:Hid (∀j v,(uv U)[j]?=some v->wr.cell? ((⟨b,off,none⟩:Addr).add j)=some v):=fun j u hu=>by
          rw[show (uv U)[j]?=(U[j]?).map (Value.int .u64) from List.getElem?_map ..] at hu
          obtain⟨y,hy,rfl⟩:=oms hu
          rw[Addr.add_lit]
          have:=hcell j y hy
          exact (KB.out.cell (lt_of_cell this)).trans this
         have HQ:Hid (w.heap.size<=q0):=by
          have:=HRB.out
          show w.heap.size<=q0
          omega
         clear hRl hall hi4 hq0 hcur hsz hrv hU hcell hlt hi
         go_wp2_with (refine wpList_copy_own rfl (.tmp 56) (.tmp 57) 27 27 rfl 177 Tryz.underlying27 (by rw[HK.out.1];exact congrArg some HK.out.2.2.1) q0 0 n n ⟨b,off,none⟩ n c rfl rfl cur 177 HC.out.1 (uv U) (by simp[HU.out]) HS.out (by simp[HU.out,HC.out.2]) (by intro u hu;obtain⟨_,_,rfl⟩:=List.mem_map.1 hu;rfl) ?_)
         all_goals go_ret2
         all_goals exact⟨⟨_,_,rfl⟩,below_setRow KB.out HQ.out _⟩
end
end Go.Proofs.YtoiajojadihpbaaGreatDoor
