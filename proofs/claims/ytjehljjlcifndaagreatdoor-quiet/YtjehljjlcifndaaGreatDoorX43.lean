import Derived.Test.YtjehljjlcifndaaGreatDoorX42
namespace Go.Proofs.YtjehljjlcifndaaGreatDoor
set_option maxHeartbeats 32000000
set_option maxRecDepth 100000
section
open Go.RowKit
abbrev nts (xs:List Nat):List Value:=xs.map (fun x=>Value.int .i64 (x:Nat))
def duI (F:List Flo) (c i:Nat):List Nat:=(List.range i).filter fun k=>match F[k]? with|some f=>f.inp && c % f.per==0|none=>false
def duT (U:List (Nat×Value)) (c i:Nat):List Nat:=(List.range i).filter fun k=>match U[k]? with|some u=>c % u.1==0|none=>false
theorem duI_yes {F:List Flo} {c i:Nat} {f:Flo} (hf:F[i]?=some f) (h1:f.inp=true) (h2:c % f.per=0):duI F c (i+1)=duI F c i++[i]:=by
 unfold duI
 rw[List.range_succ,List.filter_append]
 simp[hf,h1,h2]
theorem duI_no {F:List Flo} {c i:Nat} {f:Flo} (hf:F[i]?=some f) (h:f.inp=false\/c % f.per≠0):duI F c (i+1)=duI F c i:=by
 unfold duI
 rw[List.range_succ,List.filter_append]
 rcases h with h|h <;> simp[hf,h]
theorem duT_yes {U:List (Nat×Value)} {c i:Nat} {u:Nat×Value} (hf:U[i]?=some u) (h2:c % u.1=0):duT U c (i+1)=duT U c i++[i]:=by
 unfold duT
 rw[List.range_succ,List.filter_append]
 simp[hf,h2]
theorem duT_no {U:List (Nat×Value)} {c i:Nat} {u:Nat×Value} (hf:U[i]?=some u) (h:c % u.1≠0):duT U c (i+1)=duT U c i:=by
 unfold duT
 rw[List.range_succ,List.filter_append]
 simp[hf,h]
theorem duI_len (F:List Flo) (c i:Nat):(duI F c i).length<=i:=by
 unfold duI
 exact Nat.le_trans (List.length_filter_le _ _) (by simp)
theorem duT_len (U:List (Nat×Value)) (c i:Nat):(duT U c i).length<=i:=by
 unfold duT
 exact Nat.le_trans (List.length_filter_le _ _) (by simp)
theorem dueInputs_any {F:List Flo} {D:Nat->Obj->Prop} {wE:World} {mb lb jb K T BF c:Nat} {fv tv wv:Value} {ov:Bool} {L:Nat->List Int} {J:Nat->List Nat} {fn jn:Nat->Value} {w:World} (h:Mc D wE mb lb jb K T fv tv wv (c:Nat) ov L J fn jn w) (hF:wE.ownsRow BF 52 5 fv F.length (fls F)) (h60:F.length<=60) (hper:∀f∈F,1<=f.per) :
  Calls Tryz.prog 68 #[.pointer (some ⟨mb,0,none⟩)] w fun E w'=>Below w.heap.size w w'/\∃v,E=.returned v/\w'.ownsRow w.heap.size 3 1 v (duI F c F.length).length (nts (duI F c F.length)):=by
 obtain⟨i0,hi0,jz0,jz1,jz2⟩:=info_parts Tryz.infoI
 obtain⟨of,cf,rfl⟩:=own_shape hF
 obtain⟨c0,_,_,c3,_⟩:=h.cells
 have HC:Hid (w.cell? ⟨mb,3,none⟩=some (.int .i64 (c:Nat))):=c3
 have HF:Hid (w.ownsRow BF 52 5 (.slice of F.length cf) F.length (fls F)):=own_kept hF (fun g hg=>h.be.block g (lt_of_heap (own_lt hF g hg).2.choose_spec))
 have H60:Hid (F.length<=60/\∀f∈F,1<=f.per):=⟨h60,hper⟩
 clear h hF h60 hper c3
 go_enter Tryz.func68,Tryz.ntmps68
 go_wp2_with fail
 clear c0
 go_loopg [3,12] F.length (fun gk s3 s12 wr=>∃(i:Nat) (o:Option Addr) (cp:Nat),s12=.int .i64 (i:Nat)/\s3=.slice o (duI F c i).length cp/\gk=F.length - i/\i<=F.length/\Hid (Below w.heap.size w wr)/\Hid (wr.ownsRow w.heap.size 3 1 (.slice o (duI F c i).length cp) (duI F c i).length (nts (duI F c i))))
 case atStart=>exact⟨0,none,0,rfl,rfl,rfl,Nat.zero_le _,Below.refl _ _,World.ownsRow_nil _ _ _ _⟩
 case round=>
  obtain⟨i,o,cp,rfl,rfl,hg,hle,KB,KO⟩:=hrel
  have HG:Hid (gk=F.length - i/\i<=F.length):=⟨hg,hle⟩
  clear hg hle
  by_cases hlt:i < F.length
  ·obtain⟨f,hf⟩:∃f,F[i]?=some f:=⟨_,List.getElem?_eq_getElem hlt⟩
   have HFI:Hid (F[i]?=some f/\i < F.length/\1<=f.per):=⟨hf,hlt,H60.out.2 f (List.mem_of_getElem? hf)⟩
   obtain⟨g,hof⟩:∃g,of=some ⟨g,0,none⟩:=by
    rcases HF.out.2 with ⟨_,e⟩|⟨g,cap,cur,e,_⟩
    ·omega
    ·injection e with e1;exact⟨g,e1⟩
   subst hof
   have kp:∀{q:Addr} {v:Value},w.cell? q=some v->wr.cell? q=some v:=fun hq=>(KB.out.cell (lt_of_cell hq)).trans hq
   have e0:wr.cell? ⟨g,i*5,none⟩=some (.string (bs f.nm)):=kp (flo_cell HF.out hf 0 (by decide) rfl)
   have e1:wr.cell? ⟨g,i*5+1,none⟩=some (.int .i64 (f.ty:Nat)):=kp (flo_cell HF.out hf 1 (by decide) rfl)
   have e2:wr.cell? ⟨g,i*5+2,none⟩=some (.int .i64 (f.per:Nat)):=kp (flo_cell HF.out hf 2 (by decide) rfl)
   have e3:wr.cell? ⟨g,i*5+3,none⟩=some (.bool f.inp):=kp (flo_cell HF.out hf 3 (by decide) rfl)
   have e4:wr.cell? ⟨g,i*5+4,none⟩=some (.bool f.out):=kp (flo_cell HF.out hf 4 (by decide) rfl)
   have cm:wr.cell? ⟨mb,3,none⟩=some (.int .i64 (c:Nat)):=kp HC.out
   have h0:(0:Int)<=(i:Int):=by omega
   have h1:(i:Int) < (F.length:Int):=by omega
   have q60:(F.length:Int)<=60:=by have:=H60.out.1;omega
   have VB:Hid (Below wr.heap.size wr (wr.alloc (.cells #[.string (bs f.nm),.int .i64 (f.ty:Nat),.int .i64 (f.per:Nat),.bool f.inp,.bool f.out] 52))):=brf.alloc nlr _
   have k0:=han wr (.cells #[.string (bs f.nm),.int .i64 (f.ty:Nat),.int .i64 (f.per:Nat),.bool f.inp,.bool f.out] 52)
   clear kp hf
   go_upto_region 5 with fail
   clear e0 e1 e2 e3 e4
   replace cm:=(VB.out.cell (lt_of_cell cm)).trans cm
   have HBV:Hid (Below w.heap.size w (wr.alloc (.cells #[.string (bs f.nm),.int .i64 (f.ty:Nat),.int .i64 (f.per:Nat),.bool f.inp,.bool f.out] 52))):=below_step KB.out VB.out
   have KOV:Hid ((wr.alloc (.cells #[.string (bs f.nm),.int .i64 (f.ty:Nat),.int .i64 (f.per:Nat),.bool f.inp,.bool f.out] 52)).ownsRow w.heap.size 3 1 (.slice o (duI F c i).length cp) (duI F c i).length (nts (duI F c i))):=own_kept KO.out (fun g hg=>VB.out.block g (lt_of_heap (own_lt KO.out g hg).2.choose_spec))
   generalize wr.alloc (.cells #[.string (bs f.nm),.int .i64 (f.ty:Nat),.int .i64 (f.per:Nat),.bool f.inp,.bool f.out] 52)=V at VB k0 cm HBV KOV ⊢
   generalize wr.heap.size=ib at k0 VB ⊢
   have x2:V.cell? ⟨ib,2,none⟩=some (.int .i64 (f.per:Nat)):=(cor V ib 2 _ _ _ k0).trans rfl
   have x3:V.cell? ⟨ib,3,none⟩=some (.bool f.inp):=(cor V ib 3 _ _ _ k0).trans rfl
   clear k0
   have nz:¬((f.per:Nat):Int)=0:=by have:=HFI.out.2.2;omega
   cases hin:f.inp with
   | false=>
    rw[hin] at x3
    have HN:Hid (duI F c (i+1)=duI F c i):=duI_no HFI.out.1 (Or.inl hin)
    clear hin
    go_quiet (fail)
    go_wp2_with fail
    go_roundg (F.length - (i+1))
    case measure=>have:=HG.out;have:=HFI.out;omega
    case rel=>
     refine⟨i+1,o,cp,by go_num,by rw[HN.out],rfl,HFI.out.2.1,below_drewN HBV.out _,?_⟩
     rw[HN.out]
     exact own_kept KOV.out (fun _ _=>rfl)
   | true=>
    rw[hin] at x3
    by_cases z:c % f.per=0
    ·have z1:(c:Int) % (f.per:Int)=0:=by omega
     have HY:Hid (duI F c (i+1)=duI F c i++[i]):=duI_yes HFI.out.1 hin z
     have HLN:Hid ((duI F c i).length<=60):=by show _<=_;have:=duI_len F c i;have:=HFI.out.2.1;have:=H60.out.1;omega
     clear hin z
     go_quiet (fail)
     go_upto_region 6 with fail
     have HBQ:Hid (Below w.heap.size w (V.drewN nq)):=below_drewN HBV.out _
     have KOQ:Hid ((V.drewN nq).ownsRow w.heap.size 3 1 (.slice o (duI F c i).length cp) (duI F c i).length (nts (duI F c i))):=own_kept KOV.out (fun _ _=>rfl)
     generalize V.drewN nq=V2 at HBQ KOQ ⊢
     have HBA:Hid (Below V2.heap.size V2 (V2.alloc (.cells #[.int .i64 (i:Nat)] 3))):=brf.alloc nlr _
     have KOA:Hid ((V2.alloc (.cells #[.int .i64 (i:Nat)] 3)).ownsRow w.heap.size 3 1 (.slice o (duI F c i).length cp) (duI F c i).length (nts (duI F c i))):=own_kept KOQ.out (fun g hg=>HBA.out.block g (lt_of_heap (own_lt KOQ.out g hg).2.choose_spec))
     have HBW:Hid (Below w.heap.size w (V2.alloc (.cells #[.int .i64 (i:Nat)] 3))):=below_step HBQ.out HBA.out
     clear cm x2 x3 VB
     go_wp2_with (at_builtin;refine wpList_append_lies _ rfl _ _ 70 rfl w.heap.size 3 i0 (.int .i64 0) 1 8 Tryz.underlying70 hi0 jz0 jz1 jz2 rfl (by decide) (.slice o (duI F c i).length cp) (duI F c i).length (nts (duI F c i)) rfl KOA.out ⟨V2.heap.size,0,none⟩ 1 1 [.int .i64 (i:Nat)] rfl rfl (fun j u hu=>by
       cases j with
       | zero=>cases hu;rw[Addr.add_lit,Nat.zero_add];simp
       | succ j=>simp at hu) (by intro u hu;simp at hu;subst hu;rfl) (by decide) (by unfold maxLen;have:=HLN.out;omega) (by have:=HLN.out;omega) HBW.out.size _ rfl ?_;intro k8 c8 w8 O8 hg8 hat8 hlt8)
     have HB8:Hid (Below w.heap.size w w8):=below_grown HBW.out HBW.out.size hg8 (fun k e=>(own_lt KOA.out k e).1)
     have HO8:Hid (w8.ownsRow w.heap.size 3 1 (.slice (some ⟨k8,0,none⟩) (duI F c (i+1)).length c8) (duI F c (i+1)).length (nts (duI F c (i+1)))):=by
      have e1:(duI F c (i+1)).length=(duI F c i).length+1:=by rw[HY.out];simp
      have e2:nts (duI F c (i+1))=nts (duI F c i)++[.int .i64 (i:Nat)]:=by rw[HY.out];simp[nts]
      show World.ownsRow _ _ _ _ _ _ _
      rw[e1,e2]
      exact O8
     have HE8:Hid ((duI F c (i+1)).length=(duI F c i).length+1):=by show _=_;rw[HY.out];simp
     clear O8 hg8 hat8 hlt8
     go_roundg (F.length - (i+1))
     case measure=>have:=HG.out;have:=HFI.out;omega
     case rel=>exact⟨i+1,_,_,by go_num,by rw[HE8.out],rfl,HFI.out.2.1,HB8,HO8⟩
    ·have z1:¬(c:Int) % (f.per:Int)=0:=by omega
     have HN:Hid (duI F c (i+1)=duI F c i):=duI_no HFI.out.1 (Or.inr z)
     clear hin z
     go_quiet (fail)
     go_wp2_with fail
     go_roundg (F.length - (i+1))
     case measure=>have:=HG.out;have:=HFI.out;omega
     case rel=>
      refine⟨i+1,o,cp,by go_num,by rw[HN.out],rfl,HFI.out.2.1,below_drewN HBV.out _,?_⟩
      rw[HN.out]
      exact own_kept KOV.out (fun _ _=>rfl)
  ·have hle:(F.length:Int)<=(i:Int):=by omega
   have HE:Hid (i=F.length):=by show _=_;have:=HG.out.2;omega
   go_wp2
   go_ret
   refine⟨KB.out,_,rfl,?_⟩
   have:=KO.out
   rw[HE.out] at this ⊢
   exact this
theorem dueTasks_any {U:List (Nat×Value)} {D:Nat->Obj->Prop} {wE:World} {mb lb jb K T BF c:Nat} {fv tv wv:Value} {ov:Bool} {L:Nat->List Int} {J:Nat->List Nat} {fn jn:Nat->Value} {w:World} (h:Mc D wE mb lb jb K T fv tv wv (c:Nat) ov L J fn jn w) (hU:wE.ownsRow BF 72 2 tv U.length (tks U)) (h60:U.length<=60) (hper:∀u∈U,1<=u.1/\∃o n c,u.2=.slice o n c) :
  Calls Tryz.prog 69 #[.pointer (some ⟨mb,0,none⟩)] w fun E w'=>Below w.heap.size w w'/\∃v,E=.returned v/\w'.ownsRow w.heap.size 3 1 v (duT U c U.length).length (nts (duT U c U.length)):=by
 obtain⟨i0,hi0,jz0,jz1,jz2⟩:=info_parts Tryz.infoI
 obtain⟨of,cf,rfl⟩:=own_shape hU
 obtain⟨_,c1,_,cc3,_⟩:=h.cells
 have HC:Hid (w.cell? ⟨mb,3,none⟩=some (.int .i64 (c:Nat))):=cc3
 have HF:Hid (w.ownsRow BF 72 2 (.slice of U.length cf) U.length (tks U)):=own_kept hU (fun g hg=>h.be.block g (lt_of_heap (own_lt hU g hg).2.choose_spec))
 have H60:Hid (U.length<=60/\∀u∈U,1<=u.1/\∃o n c,u.2=.slice o n c):=⟨h60,hper⟩
 clear h hU h60 hper cc3
 go_enter Tryz.func69,Tryz.ntmps69
 go_wp2_with fail
 clear c1
 go_loopg [3,12] U.length (fun gk s3 s12 wr=>∃(i:Nat) (o:Option Addr) (cp:Nat),s12=.int .i64 (i:Nat)/\s3=.slice o (duT U c i).length cp/\gk=U.length - i/\i<=U.length/\Hid (Below w.heap.size w wr)/\Hid (wr.ownsRow w.heap.size 3 1 (.slice o (duT U c i).length cp) (duT U c i).length (nts (duT U c i))))
 case atStart=>exact⟨0,none,0,rfl,rfl,rfl,Nat.zero_le _,Below.refl _ _,World.ownsRow_nil _ _ _ _⟩
 case round=>
  obtain⟨i,o,cp,rfl,rfl,hg,hle,KB,KO⟩:=hrel
  have HG:Hid (gk=U.length - i/\i<=U.length):=⟨hg,hle⟩
  clear hg hle
  by_cases hlt:i < U.length
  ·obtain⟨⟨p,v⟩,hf⟩:∃f,U[i]?=some f:=⟨_,List.getElem?_eq_getElem hlt⟩
   obtain⟨hp1,o3,n3,c3,hv3⟩:=H60.out.2 _ (List.mem_of_getElem? hf)
   have hv4:v=.slice o3 n3 c3:=hv3
   subst hv4
   clear hv3
   have HFI:Hid (U[i]?=some (p,.slice o3 n3 c3)/\i < U.length/\1<=p):=⟨hf,hlt,hp1⟩
   obtain⟨g,hof⟩:∃g,of=some ⟨g,0,none⟩:=by
    rcases HF.out.2 with ⟨_,e⟩|⟨g,cap,cur,e,_⟩
    ·omega
    ·injection e with e1;exact⟨g,e1⟩
   subst hof
   have kp:∀{q:Addr} {v:Value},w.cell? q=some v->wr.cell? q=some v:=fun hq=>(KB.out.cell (lt_of_cell hq)).trans hq
   have e0:wr.cell? ⟨g,i*2,none⟩=some (.int .i64 (p:Nat)):=kp (own_cell HF.out (flat_at tkC 2 (fun _=>rfl) U i 0 _ hf (by decide)))
   have e1:wr.cell? ⟨g,i*2+1,none⟩=some (.slice o3 n3 c3):=kp (own_cell HF.out (flat_at tkC 2 (fun _=>rfl) U i 1 _ hf (by decide)))
   have cm:wr.cell? ⟨mb,3,none⟩=some (.int .i64 (c:Nat)):=kp HC.out
   have h0:(0:Int)<=(i:Int):=by omega
   have h1:(i:Int) < (U.length:Int):=by omega
   have q60:(U.length:Int)<=60:=by have:=H60.out.1;omega
   have VB:Hid (Below wr.heap.size wr (wr.alloc (.cells #[.int .i64 (p:Nat),.slice o3 n3 c3] 72))):=brf.alloc nlr _
   have k0:=han wr (.cells #[.int .i64 (p:Nat),.slice o3 n3 c3] 72)
   clear kp hf
   go_upto_region 5 with fail
   clear e0 e1
   replace cm:=(VB.out.cell (lt_of_cell cm)).trans cm
   have HBV:Hid (Below w.heap.size w (wr.alloc (.cells #[.int .i64 (p:Nat),.slice o3 n3 c3] 72))):=below_step KB.out VB.out
   have KOV:Hid ((wr.alloc (.cells #[.int .i64 (p:Nat),.slice o3 n3 c3] 72)).ownsRow w.heap.size 3 1 (.slice o (duT U c i).length cp) (duT U c i).length (nts (duT U c i))):=own_kept KO.out (fun g hg=>VB.out.block g (lt_of_heap (own_lt KO.out g hg).2.choose_spec))
   generalize wr.alloc (.cells #[.int .i64 (p:Nat),.slice o3 n3 c3] 72)=V at VB k0 cm HBV KOV ⊢
   generalize wr.heap.size=ib at k0 VB ⊢
   have x2:V.cell? ⟨ib,0,none⟩=some (.int .i64 (p:Nat)):=(cor V ib 0 _ _ _ k0).trans rfl
   have x3:True:=trivial
   clear k0
   have nz:¬((p:Nat):Int)=0:=by have:=HFI.out.2.2;omega
   by_cases z:c % p=0
   ·have z1:(c:Int) % (p:Int)=0:=by omega
    have HY:Hid (duT U c (i+1)=duT U c i++[i]):=duT_yes HFI.out.1 z
    have HLN:Hid ((duT U c i).length<=60):=by show _<=_;have:=duT_len U c i;have:=HFI.out.2.1;have:=H60.out.1;omega
    clear z
    go_quiet (fail)
    go_upto_region 6 with fail
    have HBQ:Hid (Below w.heap.size w (V.drewN nq)):=below_drewN HBV.out _
    have KOQ:Hid ((V.drewN nq).ownsRow w.heap.size 3 1 (.slice o (duT U c i).length cp) (duT U c i).length (nts (duT U c i))):=own_kept KOV.out (fun _ _=>rfl)
    generalize V.drewN nq=V2 at HBQ KOQ ⊢
    have HBA:Hid (Below V2.heap.size V2 (V2.alloc (.cells #[.int .i64 (i:Nat)] 3))):=brf.alloc nlr _
    have KOA:Hid ((V2.alloc (.cells #[.int .i64 (i:Nat)] 3)).ownsRow w.heap.size 3 1 (.slice o (duT U c i).length cp) (duT U c i).length (nts (duT U c i))):=own_kept KOQ.out (fun g hg=>HBA.out.block g (lt_of_heap (own_lt KOQ.out g hg).2.choose_spec))
    have HBW:Hid (Below w.heap.size w (V2.alloc (.cells #[.int .i64 (i:Nat)] 3))):=below_step HBQ.out HBA.out
    clear cm x2 x3 VB
    go_wp2_with (at_builtin;refine wpList_append_lies _ rfl _ _ 70 rfl w.heap.size 3 i0 (.int .i64 0) 1 8 Tryz.underlying70 hi0 jz0 jz1 jz2 rfl (by decide) (.slice o (duT U c i).length cp) (duT U c i).length (nts (duT U c i)) rfl KOA.out ⟨V2.heap.size,0,none⟩ 1 1 [.int .i64 (i:Nat)] rfl rfl (fun j u hu=>by
      cases j with
      | zero=>cases hu;rw[Addr.add_lit,Nat.zero_add];simp
      | succ j=>simp at hu) (by intro u hu;simp at hu;subst hu;rfl) (by decide) (by unfold maxLen;have:=HLN.out;omega) (by have:=HLN.out;omega) HBW.out.size _ rfl ?_;intro k8 c8 w8 O8 hg8 hat8 hlt8)
    have HB8:Hid (Below w.heap.size w w8):=below_grown HBW.out HBW.out.size hg8 (fun k e=>(own_lt KOA.out k e).1)
    have HO8:Hid (w8.ownsRow w.heap.size 3 1 (.slice (some ⟨k8,0,none⟩) (duT U c (i+1)).length c8) (duT U c (i+1)).length (nts (duT U c (i+1)))):=by
     have e1:(duT U c (i+1)).length=(duT U c i).length+1:=by rw[HY.out];simp
     have e2:nts (duT U c (i+1))=nts (duT U c i)++[.int .i64 (i:Nat)]:=by rw[HY.out];simp[nts]
     show World.ownsRow _ _ _ _ _ _ _
     rw[e1,e2]
     exact O8
    have HE8:Hid ((duT U c (i+1)).length=(duT U c i).length+1):=by show _=_;rw[HY.out];simp
    clear O8 hg8 hat8 hlt8
    go_roundg (U.length - (i+1))
    case measure=>have:=HG.out;have:=HFI.out;omega
    case rel=>exact⟨i+1,_,_,by go_num,by rw[HE8.out],rfl,HFI.out.2.1,HB8,HO8⟩
   ·have z1:¬(c:Int) % (p:Int)=0:=by omega
    have HN:Hid (duT U c (i+1)=duT U c i):=duT_no HFI.out.1 z
    clear z
    go_quiet (fail)
    go_wp2_with fail
    go_roundg (U.length - (i+1))
    case measure=>have:=HG.out;have:=HFI.out;omega
    case rel=>
     refine⟨i+1,o,cp,by go_num,by rw[HN.out],rfl,HFI.out.2.1,below_drewN HBV.out _,?_⟩
     rw[HN.out]
     exact own_kept KOV.out (fun _ _=>rfl)
  ·have hle:(U.length:Int)<=(i:Int):=by omega
   have HE:Hid (i=U.length):=by show _=_;have:=HG.out.2;omega
   go_wp2
   go_ret
   refine⟨KB.out,_,rfl,?_⟩
   have:=KO.out
   rw[HE.out] at this ⊢
   exact this
end
section
open Go.RowKit
theorem anyBusy_any {D:Nat->Obj->Prop} {wE:World} {mb lb jb K T B:Nat} {fv tv wv:Value} {c:Int} {ov:Bool} {L:Nat->List Int} {J:Nat->List Nat} {fn jn:Nat->Value} {w:World} (h:Mc D wE mb lb jb K T fv tv wv c ov L J fn jn w) {v:Value} {xs:List Nat} (hx:w.ownsRow B 3 1 v xs.length (nts xs)) (hT:∀t∈xs,t < T) (h60:xs.length<=60) :
  Calls Tryz.prog 71 #[.pointer (some ⟨mb,0,none⟩),v] w fun E w'=>E=.returned (.bool (xs.any (fun t=>!(J t).isEmpty)))/\w=w':=by
 obtain⟨o,cx,rfl⟩:=own_shape hx
 have HM:Hid (Mc D wE mb lb jb K T fv tv wv c ov L J fn jn w):=h
 have HX:Hid (w.ownsRow B 3 1 (.slice o xs.length cx) xs.length (nts xs)):=hx
 have HT:Hid ((∀t∈xs,t < T)/\xs.length<=60):=⟨hT,h60⟩
 clear h hx hT h60
 go_enter Tryz.func71,Tryz.ntmps71
 go_wp2_with fail
 go_loopg [9] xs.length (fun gk s9 wr=>∃i:Nat,i<=xs.length/\s9=.int .i64 (i:Nat)/\gk=xs.length - i/\Hid ((xs.take i).any (fun t=>!(J t).isEmpty)=false)/\wr=w)
 case atStart=>exact⟨0,Nat.zero_le _,rfl,rfl,rfl,rfl⟩
 case round=>
  obtain⟨i,hi,rfl,hg,HA,rfl⟩:=hrel
  have HG:Hid (gk=xs.length - i/\i<=xs.length):=⟨hg,hi⟩
  clear hg hi
  by_cases hlt:i < xs.length
  ·obtain⟨x,hxi⟩:∃x,xs[i]?=some x:=⟨_,List.getElem?_eq_getElem hlt⟩
   have HXI:Hid (xs[i]?=some x/\i < xs.length):=⟨hxi,hlt⟩
   obtain⟨g,hof⟩:∃g,o=some ⟨g,0,none⟩:=by
    rcases HX.out.2 with ⟨_,e⟩|⟨g,cap,cur,e,_⟩
    ·omega
    ·injection e with e1;exact⟨g,e1⟩
   subst hof
   have cx1:wr.cell? ⟨g,i,none⟩=some (.int .i64 (x:Nat)):=own_cell HX.out (by simp[nts,hxi])
   have h0:(0:Int)<=(i:Int):=by omega
   have h1:(i:Int) < (xs.length:Int):=by omega
   have q60:(xs.length:Int)<=60:=by have:=HT.out.2;omega
   have HTK:Hid ((xs.take (i+1)).any (fun t=>!(J t).isEmpty)=!(J x).isEmpty):=by
    show _=_
    rw[List.take_add_one,hxi,List.any_append,HA.out]
    simp
   clear hxi hlt
   go_wp2_with fail
   refine (busy_any HM.out (HT.out.1 x (List.mem_of_getElem? HXI.out.1))).mono ?_
   rintro E w1 ⟨rfl,rfl⟩
   cases hb:(J x).isEmpty with
   | true=>
    rw[hb] at HTK
    have HTK2:Hid ((xs.take (i+1)).any (fun t=>!(J t).isEmpty)=false):=HTK.out
    clear HTK hb cx1
    dsimp only[Bool.not_true]
    go_wp2
    go_roundg (xs.length - (i+1))
    case measure=>have:=HG.out;have:=HXI.out;omega
    case rel=>exact⟨i+1,HXI.out.2,by go_num,rfl,HTK2,rfl⟩
   | false=>
    have HAN:Hid (xs.any (fun t=>!(J t).isEmpty)=true):=List.any_eq_true.2 ⟨x,List.mem_of_getElem? HXI.out.1,by rw[hb];rfl⟩
    clear HTK hb cx1
    dsimp only[Bool.not_false]
    go_wp2
    go_ret
    rw[HAN.out]
    exact⟨rfl,rfl⟩
  ·have hle:(xs.length:Int)<=(i:Int):=by omega
   have HAN:Hid (xs.any (fun t=>!(J t).isEmpty)=false):=by
    show _=_
    have:=HA.out
    rw[List.take_of_length_le (by omega)] at this
    exact this
   go_wp2
   go_ret
   rw[HAN.out]
   exact⟨rfl,rfl⟩
theorem fits_one {w:World} {g off cap ty:Nat} {x:Int} (hc:w.cell? ⟨g,off,none⟩=some (.int .i64 x)):Calls Tryz.prog 66 #[.int .i64 (ty:Nat),.slice (some ⟨g,off,none⟩) 1 cap] w fun E w'=>E=.returned (.bool (fitL ty [x]))/\w'=w:=by
 by_cases ht:ty=1
 ·subst ht
  go_enter Tryz.func66,Tryz.ntmps66
  go_wp2_with fail
  refine wp_loop_rounds 2 ?_
  rw[rounds_succ]
  by_cases z0:x=0
  ·subst z0
   go_wp2_with fail
   rw[rounds_succ]
   go_wp2_with fail
   go_ret
   exact⟨rfl,rfl⟩
  ·by_cases z1:x=1
   ·subst z1
    go_wp2_with fail
    rw[rounds_succ]
    go_wp2_with fail
    go_ret
    exact⟨rfl,rfl⟩
   ·have y0:(x != 0)=true:=by simpa using z0
    have y1:(x != 1)=true:=by simpa using z1
    have HZ:Hid (fitL 1 [x]=false):=by show _=_;simp[fitL,z0,z1]
    go_wp2_with fail
    go_ret
    rw[HZ.out]
    exact⟨rfl,rfl⟩
 ·have HZ:Hid (fitL ty [x]=true):=by
   show _=_
   unfold fitL
   have:(ty != 1)=true:=by simpa using ht
   rw[this];rfl
  have h2:¬((ty:Nat):Int)=1:=by omega
  go_enter Tryz.func66,Tryz.ntmps66
  go_wp2_with fail
  go_ret
  rw[HZ.out]
  exact⟨rfl,rfl⟩
def ftyAt (F:List Flo) (j:Nat):Nat:=(F[j]?.map Flo.ty).getD 0
def fitT (F:List Flo) (ds:List Nat) (xs:List Int):Bool:=decide (ds.length=xs.length) && (ds.zip xs).all (fun p=>fitL (ftyAt F p.1) [p.2])
theorem fit_any {F:List Flo} {D:Nat->Obj->Prop} {wE:World} {mb lb jb K T B BX BF:Nat} {fv tv wv:Value} {c:Int} {ov:Bool} {L:Nat->List Int} {J:Nat->List Nat} {fn jn:Nat->Value} {w:World} (h:Mc D wE mb lb jb K T fv tv wv c ov L J fn jn w) (hF:wE.ownsRow BF 52 5 fv F.length (fls F)) {v vx:Value} {ds:List Nat} {xs:List Int} (hd:w.ownsRow B 3 1 v ds.length (nts ds)) (hx:Nl w BX vx xs) (hK:∀t∈ds,t < F.length) (h60:ds.length<=60) :
  Calls Tryz.prog 70 #[.pointer (some ⟨mb,0,none⟩),v,vx] w fun E w'=>E=.returned (.bool (fitT F ds xs))/\Below w.heap.size w w':=by
 obtain⟨o,cd,rfl⟩:=own_shape hd
 obtain⟨ox,cx,rfl⟩:=own_shape hx
 obtain⟨of,cf,rfl⟩:=own_shape hF
 obtain⟨c0,_⟩:=h.cells
 have HF:Hid (w.ownsRow BF 52 5 (.slice of F.length cf) F.length (fls F)):=own_kept hF (fun g hg=>h.be.block g (lt_of_heap (own_lt hF g hg).2.choose_spec))
 have HD:Hid (w.ownsRow B 3 1 (.slice o ds.length cd) ds.length (nts ds)):=hd
 have HX:Hid (Nl w BX (.slice ox xs.length cx) xs):=hx
 have HT:Hid ((∀t∈ds,t < F.length)/\ds.length<=60):=⟨hK,h60⟩
 have HC0:Hid (w.cell? ⟨mb,0,none⟩=some (.slice of F.length cf)):=c0
 clear h hd hx hF hK h60 c0
 go_enter Tryz.func70,Tryz.ntmps70
 by_cases hl:ds.length=xs.length
 ·have hl1:((ds.length:Nat):Int)=((xs.length:Nat):Int):=by omega
  have HL:Hid (ds.length=xs.length):=hl
  go_wp2_with fail
  go_loopg [16] ds.length (fun gk s16 wr=>∃i:Nat,i<=ds.length/\s16=.int .i64 (i:Nat)/\gk=ds.length - i/\Hid (((ds.zip xs).take i).all (fun p=>fitL (ftyAt F p.1) [p.2])=true)/\Hid (Below w.heap.size w wr))
  case atStart=>exact⟨0,Nat.zero_le _,rfl,rfl,rfl,Below.refl _ _⟩
  case round=>
   obtain⟨i,hi,rfl,hg,HA,KB⟩:=hrel
   have HG:Hid (gk=ds.length - i/\i<=ds.length):=⟨hg,hi⟩
   clear hg hi
   by_cases hlt:i < ds.length
   ·obtain⟨d,hdi⟩:∃d,ds[i]?=some d:=⟨_,List.getElem?_eq_getElem hlt⟩
    obtain⟨x,hxi⟩:∃x,xs[i]?=some x:=⟨_,List.getElem?_eq_getElem (by omega)⟩
    have hdF:=HT.out.1 d (List.mem_of_getElem? hdi)
    obtain⟨f,hf⟩:∃f,F[d]?=some f:=⟨_,List.getElem?_eq_getElem hdF⟩
    obtain⟨g,hof⟩:∃g,o=some ⟨g,0,none⟩:=by
     rcases HD.out.2 with ⟨_,e⟩|⟨g,cap,cur,e,_⟩
     ·omega
     ·injection e with e1;exact⟨g,e1⟩
    subst hof
    obtain⟨gx,hox,hcx⟩:∃gx,ox=some ⟨gx,0,none⟩/\xs.length<=cx:=by
     rcases HX.out.2 with ⟨_,e⟩|⟨g,cap,cur,e,_,_,hle,_⟩
     ·omega
     ·injection e with e1 e2 e3;exact⟨g,e1,by rw[e3];exact hle⟩
    subst hox
    obtain⟨gf,hoff⟩:∃g,of=some ⟨g,0,none⟩:=by
     rcases HF.out.2 with ⟨_,e⟩|⟨g,cap,cur,e,_⟩
     ·omega
     ·injection e with e1;exact⟨g,e1⟩
    subst hoff
    have kp:∀{q:Addr} {v:Value},w.cell? q=some v->wr.cell? q=some v:=fun hq=>(KB.out.cell (lt_of_cell hq)).trans hq
    have cd1:wr.cell? ⟨g,i,none⟩=some (.int .i64 (d:Nat)):=kp (own_cell HD.out (by simp[nts,hdi]))
    have cx1:wr.cell? ⟨gx,i,none⟩=some (.int .i64 x):=kp (nl_cell HX.out hxi)
    have HCX:Hid (wr.cell? ⟨gx,i,none⟩=some (.int .i64 x)):=cx1
    have cf1:wr.cell? ⟨gf,d*5+1,none⟩=some (.int .i64 (f.ty:Nat)):=kp (flo_cell HF.out hf 1 (by decide) rfl)
    have cm:wr.cell? ⟨mb,0,none⟩=some (.slice (some ⟨gf,0,none⟩) F.length cf):=kp HC0.out
    have h0:(0:Int)<=(i:Int):=by omega
    have h1:(i:Int) < (ds.length:Int):=by omega
    have h2:(0:Int)<=(d:Int):=by omega
    have h3:(d:Int) < (F.length:Int):=by omega
    have h4:(i:Int)+1<=(cx:Int):=by omega
    have h5:(i:Int)<=(i:Int)+1:=by omega
    have h6:¬cx=i:=by omega
    have q60:(ds.length:Int)<=60:=by have:=HT.out.2;omega
    have HDX:Hid (ds[i]?=some d/\xs[i]?=some x/\F[d]?=some f/\i < ds.length):=⟨hdi,hxi,hf,hlt⟩
    have HTK:Hid (((ds.zip xs).take (i+1)).all (fun p=>fitL (ftyAt F p.1) [p.2])=fitL f.ty [x]):=by
     show _=_
     have hz:(ds.zip xs)[i]?=some (d,x):=by rw[List.getElem?_zip_eq_some];exact⟨hdi,hxi⟩
     rw[List.take_add_one,hz,List.all_append,HA.out]
     simp[ftyAt,hf]
    clear hdi hxi hf cx1 hdF hlt hcx kp
    have hw:IntKind.i64.wrap ((i:Int)+1)=(i:Int)+1:=by
     rw[IntKind.wrap_i64]
     omega
    cases hft:fitL f.ty [x] with
    | true=>
     have HFT:Hid (∀(V:World) (cap:Nat) (b:Bool),b=true->V.cell? ⟨gx,i,none⟩=some (.int .i64 x)->Calls Tryz.prog 66 #[.int .i64 (f.ty:Nat),.slice (some ⟨gx,i,none⟩) 1 cap] V fun E w'=>E=.returned (.bool b)/\w'=V):=fun V cap b hb hc=>by rw[hb,<-hft];exact fits_one hc
     rw[hft] at HTK
     clear hft
     go_upto_region 6 with fail
     go_quiet (first|(go_at_call 66;refine Calls.quiet_of_same (HFT.out _ _ true rfl HCX.out)))
     go_wp2
     go_roundg (ds.length - (i+1))
     case measure=>have:=HG.out;have:=HDX.out;omega
     case rel=>exact⟨i+1,HDX.out.2.2.2,by go_num,rfl,HTK,below_drewN KB.out _⟩
    | false=>
     have HFT:Hid (∀(V:World) (cap:Nat) (b:Bool),b=false->V.cell? ⟨gx,i,none⟩=some (.int .i64 x)->Calls Tryz.prog 66 #[.int .i64 (f.ty:Nat),.slice (some ⟨gx,i,none⟩) 1 cap] V fun E w'=>E=.returned (.bool b)/\w'=V):=fun V cap b hb hc=>by rw[hb,<-hft];exact fits_one hc
     have HZ:Hid (fitT F ds xs=false):=by
      show _=_
      have hz:(d,x)∈ds.zip xs:=List.mem_of_getElem? (i:=i) (by rw[List.getElem?_zip_eq_some];exact⟨HDX.out.1,HDX.out.2.1⟩)
      unfold fitT
      have:(ds.zip xs).all (fun p=>fitL (ftyAt F p.1) [p.2])=false:=List.all_eq_false.2 ⟨_,hz,by simp[ftyAt,HDX.out.2.2.1,hft]⟩
      rw[this,Bool.and_false]
     clear hft HTK
     go_upto_region 6 with fail
     go_quiet (first|(go_at_call 66;refine Calls.quiet_of_same (HFT.out _ _ false rfl HCX.out)))
     go_wp2
     go_ret
     rw[HZ.out]
     exact⟨rfl,below_drewN KB.out _⟩
   ·have hle:(ds.length:Int)<=(i:Int):=by omega
    have HZ:Hid (fitT F ds xs=true):=by
     show _=_
     have:=HA.out
     rw[List.take_of_length_le (by simp;omega)] at this
     unfold fitT
     rw[this]
     simp[HL.out]
    go_wp2
    go_ret
    rw[HZ.out]
    exact⟨rfl,KB.out⟩
 ·have hl1:¬((ds.length:Nat):Int)=((xs.length:Nat):Int):=by omega
  have HZ:Hid (fitT F ds xs=false):=by show _=_;unfold fitT;simp[hl]
  go_wp2_with fail
  go_ret
  rw[HZ.out]
  exact⟨rfl,Below.refl _ _⟩
end
end Go.Proofs.YtjehljjlcifndaaGreatDoor
