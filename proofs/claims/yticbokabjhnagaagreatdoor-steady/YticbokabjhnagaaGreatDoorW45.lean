import Derived.Test.YticbokabjhnagaaGreatDoorW44
import Derived.Test.YticbokabjhnagaaGreatDoorRows
import Derived.Deep.Slices
import Derived.SizedLaws
import Derived.ProofKit
import Derived.ChangeBears2
import Derived.LaidMore
import Derived.OpenShut
import Derived.Stop.Joined
namespace Go.Proofs.YticbokabjhnagaaGreatDoor
set_option maxHeartbeats 32000000
section
open Go.RowKit
def Scr (w:World) (b off n:Nat):Prop:=∀j,j < n→∃(k x y z:Int) (s:ByteArray) (o1:Option Addr) (n1 c1:Nat) (o2:Option Addr) (n2 c2:Nat),w.cell? ⟨b,off+j*7,none⟩=some (.int .i64 k)∧w.cell? ⟨b,off+j*7+1,none⟩=some (.int .i64 x)∧w.cell? ⟨b,off+j*7+2,none⟩=some (.int .i64 y)∧w.cell? ⟨b,off+j*7+3,none⟩=some (.int .i64 z)∧w.cell? ⟨b,off+j*7+4,none⟩=some (.string s)∧w.cell? ⟨b,off+j*7+5,none⟩=some (.slice o1 n1 c1)∧w.cell? ⟨b,off+j*7+6,none⟩=some (.slice o2 n2 c2)
theorem Scr.below {w w':World} {b off n:Nat} (h:Scr w b off n) (k:Below w.heap.size w w'):Scr w' b off n:=fun j hj=>by
  obtain ⟨q,x,y,z,s,o1,n1,c1,o2,n2,c2,h0,h1,h2,h3,h4,h5,h6⟩:=h j hj
  have kp:∀{p:Addr} {v:Value},w.cell? p=some v→w'.cell? p=some v:=fun hp=>(k.cell (lt_of_cell hp)).trans hp
  exact ⟨q,x,y,z,s,o1,n1,c1,o2,n2,c2,kp h0,kp h1,kp h2,kp h3,kp h4,kp h5,kp h6⟩
theorem Cp.app {ls:List (List Int)} {b:Nat} {v:Value} {us:List Value} {w w':World} (h:Cp ls b ls.length v us w) (hg:w.grownBy w' v.ownBlock) {v' u:Value} (ho:w'.ownsRow b 47 1 v' (ls.length+1) (us++[u])) {l:List Int} {B:Nat} (hu:Nl w B u l):Cp (ls++[l]) b (ls++[l]).length v' (us++[u]) w':=by
  have h':Cp (ls++[l]) b ls.length v us w:=⟨h.row,fun k l' hk=>h.lst k l' (by
    rw [List.take_append_of_le_length (Nat.le_refl _)] at hk
    exact hk)⟩
  have:=h'.more hg ho (l:=l) (by simp) hu
  simpa using this
structure Pl (ls:List (List Int)) (b:Nat) (v:Value) (w:World) (e at_:Nat):Prop where
  cp:∃us,Cp ls b ls.length v us w
  ne:∀l∈ls,l≠[]∧l.length≤12
  len:ls.length≤e
  at_:at_≤12*e
set_option maxRecDepth 100000 in
theorem pools_any {ρ:Mil.Bytes→Int→Int→Int} {B0 N P b off n c:Nat} {l:List Mip.It} {w:World} (hP:Prg ρ B0 N l w P) (hn:0 < n) (hS:Scr w b off n) (hl:n < 2 ^ 60) :
    Calls Tryz.prog 10 #[.pointer (some ⟨P,0,none⟩),.slice (some ⟨b,off,none⟩) n c,.int .i64 12] w fun E w'=>Below w.heap.size w w'∧∃v ls us,E=.returned v∧Ins w' v ls us∧∀l∈ls,l≠[]∧l.length≤12:=by
  obtain ⟨n0,hn0,nz0,nz1,nz2⟩:=info_parts Tryz.infoI64
  obtain ⟨s0,hs0,sz0,sz1,sz2⟩:=info_parts Tryz.infoSl
  have HP:Hid (Prg ρ B0 N l w P∧Scr w b off n):=⟨hP,hS⟩
  have HN:Hid (0 < n∧n < 2 ^ 60):=⟨hn,hl⟩
  clear hP hS hn hl
  go_enter Tryz.func10,Tryz.ntmps10
  go_wp2_with fail
  refine (flows_any HP.out.1).mono ?_
  rintro E w1 ⟨hb1,v1,rfl,hF⟩
  obtain ⟨of,cf,e1⟩:=own_shape hF
  subst e1
  have HB1:Hid (Below w.heap.size w w1):=hb1
  have HF:Hid (w1.ownsRow w.heap.size 42 5 (.slice of (prd N l).length cf) (prd N l).length (fls (prd N l))):=hF
  have HS:Hid (Scr w1 b off n∧(prd N l).length≤60):=⟨HP.out.2.below hb1,by have:=HP.out.1.len.1;have:=prd_len (N:=N) l;omega⟩
  clear hb1 hF HP
  generalize prd N l=F at HF HS ⊢
  go_wp2_with fail
  go_loopg [7,9,10] F.length (fun gk s7 s9 s10 wr=>∃(e at_:Nat) (ls:List (List Int)) (o:Option Addr) (c:Nat),s7=.slice o ls.length c∧s9=.int .i64 (at_:Nat)∧s10=.int .i64 (e:Nat)∧gk=F.length - e∧e≤F.length∧Hid (Below w1.heap.size w1 wr)∧Hid (Pl ls w1.heap.size (.slice o ls.length c) wr e at_))
  case atStart=>exact ⟨0,0,[],none,0,rfl,rfl,rfl,rfl,Nat.zero_le _,Below.refl _ _,⟨⟨[],World.ownsRow_nil _ _ _ _,fun k l h=>by simp at h⟩,(fun l h=>by cases h),Nat.le_refl _,Nat.le_refl _⟩⟩
  case round=>
    obtain ⟨e,at_,ls,ov,cv,rfl,rfl,rfl,hg,hle,KB,KP⟩:=hrel
    have HG:Hid (gk=F.length - e∧e≤F.length):=⟨hg,hle⟩
    clear hg hle
    by_cases hlt:e < F.length
    · obtain ⟨f,hf⟩:∃f,F[e]?=some f:=⟨_,List.getElem?_eq_getElem hlt⟩
      have HFE:Hid (F[e]?=some f∧e < F.length):=⟨hf,hlt⟩
      obtain ⟨g,hof⟩:∃g,of=some ⟨g,0,none⟩:=by
        rcases HF.out.2 with ⟨_,e⟩ | ⟨g,cap,cur,e,_⟩
        · omega
        · injection e with e1;exact ⟨g,e1⟩
      subst hof
      have kp:∀{q:Addr} {v:Value},w1.cell? q=some v→wr.cell? q=some v:=fun hq=>(KB.out.cell (lt_of_cell hq)).trans hq
      have e2:wr.cell? ⟨g,e*5+2,none⟩=some (.int .i64 (f.per:Nat)):=kp (flo_cell HF.out hf 2 (by decide) rfl)
      have e3:wr.cell? ⟨g,e*5+3,none⟩=some (.bool f.inp):=kp (flo_cell HF.out hf 3 (by decide) rfl)
      have h0:(0:Int)≤(e:Int):=by omega
      have h1:(e:Int) < (F.length:Int):=by omega
      clear kp hf
      by_cases hin:f.inp=true
      · by_cases hper:(f.per:Int) < 1
        · rw [hin] at e3
          go_wp2_with fail
          go_roundg (F.length - (e+1))
          case measure=>have:=HG.out;have:=HFE.out;omega
          case rel=>exact ⟨e+1,at_,ls,ov,cv,rfl,rfl,wrap_succ (by have:=HFE.out.2;have:=HS.out.2;omega),rfl,HFE.out.2,KB,⟨KP.out.cp,KP.out.ne,by have:=KP.out.len;omega,by have:=KP.out.at_;omega⟩⟩
        · rw [hin] at e3
          have HPER:Hid (1≤f.per):=by show _≤_;omega
          clear hin hlt
          obtain ⟨W0,hW0⟩:∃W0,W0=wr:=⟨_,rfl⟩
          subst hW0
          go_wp2_with fail
          go_loopg [9,11,12] 12 (fun gk2 s9 s11 s12 w'=>∃(a2 t:Nat) (xs:List Int) (o2:Option Addr) (c2:Nat),s9=.int .i64 (a2:Nat)∧s11=.slice o2 xs.length c2∧s12=.int .i64 (t:Nat)∧gk2=12 - t∧Hid (Below W0.heap.size W0 w')∧Hid (Nl w' W0.heap.size (.slice o2 xs.length c2) xs)∧Hid (xs.length≤t∧xs.length≤12∧a2=at_+xs.length∧(t=0∨xs≠[])∧t≤24))
          case atStart=>exact ⟨at_,0,[],none,0,rfl,rfl,rfl,rfl,Below.refl _ _,World.ownsRow_nil _ _ _ _,⟨Nat.le_refl _,by decide,rfl,Or.inl rfl,by decide⟩⟩
          case round=>
            obtain ⟨a2,t,xs,o2,c2,rfl,rfl,rfl,hg2,LB,LN,LX⟩:=hrel
            have HG2:Hid (gk=12 - t):=hg2
            have kp:∀{q:Addr} {v:Value},w1.cell? q=some v→wr.cell? q=some v:=fun hq=>((below_step KB.out LB.out).cell (lt_of_cell hq)).trans hq
            have y1:wr.cell? ⟨g,e*5+1,none⟩=some (.int .i64 (f.ty:Nat)):=kp (flo_cell HF.out HFE.out.1 1 (by decide) rfl)
            have y2:wr.cell? ⟨g,e*5+2,none⟩=some (.int .i64 (f.per:Nat)):=kp (flo_cell HF.out HFE.out.1 2 (by decide) rfl)
            clear hg2 e2 e3
            by_cases ht:t < 12
            · obtain ⟨q,x,y,z,s,o1,n1,c1,o3,n3,c3,d0,d1,d2,d3,d4,d5,d6⟩:=HS.out.1 (a2 % n) (Nat.mod_lt _ HN.out.1)
              replace d0:=kp d0
              replace d1:=kp d1
              replace d2:=kp d2
              replace d3:=kp d3
              replace d4:=kp d4
              replace d5:=kp d5
              replace d6:=kp d6
              have HT:Hid (t < 12):=ht
              have t1:((t:Nat):Int) < 12:=by omega
              have np:(0:Int) < (n:Nat):=by have:=HN.out.1;omega
              have nz:((n:Nat):Int)≠0:=by omega
              have r0:(0:Int)≤(a2:Int) % (n:Int):=Int.emod_nonneg _ nz
              have r1:(a2:Int) % (n:Int) < (n:Int):=Int.emod_lt_of_pos _ np
              have AB:Hid (Below wr.heap.size wr (wr.alloc (.cells #[.int .i64 q,.int .i64 x,.int .i64 y,.int .i64 z,.string s,.slice o1 n1 c1,.slice o3 n3 c3] 33))):=(Below.refl _ _).alloc (Nat.le_refl _) _
              clear kp ht
              go_upto_region 16 with fail
              replace y1:=(AB.out.cell (lt_of_cell y1)).trans y1
              replace y2:=(AB.out.cell (lt_of_cell y2)).trans y2
              generalize wrap64 (wrap64 (wrap64 (x+wrap64 (3*y))+z)+(a2:Int))=X
              clear d0 d1 d2 d3 d4 d5 d6 r0 r1 np nz
              generalize wr.alloc (.cells #[.int .i64 q,.int .i64 x,.int .i64 y,.int .i64 z,.string s,.slice o1 n1 c1,.slice o3 n3 c3] 33)=V at AB y1 y2 ⊢
              by_cases hty:f.ty=1
              · have t5:((f.ty:Nat):Int)=1:=by omega
                go_upto_region 18 with fail
                generalize bits BinOp.and IntKind.i64 X 1=Y
                clear t5 hty
                have HB2:Hid (Below wr.heap.size wr (V.alloc (.cells #[.int .i64 Y] 2))):=below_step AB.out ((Below.refl _ _).alloc (Nat.le_refl _) _)
                have OW:Hid (Nl (V.alloc (.cells #[.int .i64 Y] 2)) W0.heap.size (.slice o2 xs.length c2) xs):=own_kept LN.out (fun g hg=>HB2.out.block g (lt_of_heap (own_lt LN.out g hg).2.choose_spec))
                clear y1 y2
                go_upto_region 19 with (at_builtin;refine wpList_append_lies _ rfl _ _ 47 rfl W0.heap.size 2 n0 (.int .i64 0) 1 8 Tryz.underlying47 hn0 nz0 nz1 nz2 rfl (by decide) (.slice o2 xs.length c2) xs.length (i64s xs) rfl OW.out ⟨V.heap.size,0,none⟩ 1 1 [.int .i64 Y] rfl rfl (fun j u hu=>by
                    cases j with
                    | zero=>cases hu;rw [Addr.add_lit,Nat.zero_add];simp
                    | succ j=>simp at hu) (by intro u hu;simp at hu;subst hu;rfl) (by decide) (by unfold maxLen;have:=LX.out.2.1;omega) (by have:=LX.out.2.1;omega) (Nat.le_trans LB.out.size HB2.out.size) _ rfl ?_;intro k9 c9 w9 O9 hg9 hat9 hlt9)
                have H9:Hid (Below W0.heap.size W0 w9∧Nl w9 W0.heap.size (Value.slice (some ⟨k9,0,none⟩) (xs.length+1) c9) (xs++[Y])):=by
                  refine ⟨below_grown (below_step LB.out HB2.out) (below_step LB.out HB2.out).size hg9 (fun k e=>(own_lt OW.out k e).1),?_⟩
                  have e:i64s (xs++[Y])=i64s xs++[.int .i64 Y]:=List.map_append
                  show World.ownsRow _ _ _ _ _ _ _
                  rw [List.length_append,e]
                  exact O9
                clear O9 hg9 hat9 hlt9 OW HB2 AB
                have z2:w9.cell? ⟨g,e*5+2,none⟩=some (.int .i64 (f.per:Nat)):=by
                  have h:=flo_cell HF.out HFE.out.1 2 (by decide) rfl
                  exact ((below_step KB.out H9.out.1).cell (lt_of_cell h)).trans h
                have HA2:Hid (Value.int .i64 (wrap64 ((a2:Int)+1))=.int .i64 ((a2+1:Nat):Int)):=wrap_succ (by have:=LX.out;have:=KP.out.at_;have:=HFE.out;have:=HS.out.2;omega)
                by_cases hbig:(12:Int) < (f.per:Nat)
                · go_upto_region 21 with fail
                  have HQL:Hid (Below W0.heap.size W0 (w9.alloc (.cells #[Value.slice (some ⟨k9,0,none⟩) (xs.length+1) c9] 47))):=H9.out.1.alloc H9.out.1.size _
                  obtain ⟨us,hcp⟩:=KP.out.cp
                  have HCP:Hid (Cp ls w1.heap.size ls.length (.slice ov ls.length cv) us (w9.alloc (.cells #[Value.slice (some ⟨k9,0,none⟩) (xs.length+1) c9] 47))):=hcp.below HQL.out
                  have HNL:Hid (Nl (w9.alloc (.cells #[Value.slice (some ⟨k9,0,none⟩) (xs.length+1) c9] 47)) W0.heap.size (Value.slice (some ⟨k9,0,none⟩) (xs.length+1) c9) (xs++[Y])):=own_kept H9.out.2 (fun g hg=>Below.heap_alloc w9 _ g (lt_of_heap (own_lt H9.out.2 g hg).2.choose_spec))
                  clear hcp
                  go_wp2_with (at_builtin;refine wpList_append_lies _ rfl _ _ 45 rfl w1.heap.size 47 s0 (.slice none 0 0) 1 24 Tryz.underlying45 hs0 sz0 sz1 sz2 rfl (by decide) (.slice ov ls.length cv) ls.length us rfl HCP.out.row ⟨w9.heap.size,0,none⟩ 1 1 [Value.slice (some ⟨k9,0,none⟩) (xs.length+1) c9] rfl rfl (fun j u hu=>by
                      cases j with
                      | zero=>cases hu;rw [Addr.add_lit,Nat.zero_add];simp
                      | succ j=>simp at hu) (by intro u hu;simp at hu;subst hu;rfl) (by decide) (by unfold maxLen;have:=KP.out.len;have:=HFE.out;have:=HS.out.2;omega) (by have:=KP.out.len;have:=HFE.out;have:=HS.out.2;omega) (Nat.le_trans KB.out.size HQL.out.size) _ rfl ?_;intro k8 c8 w8 O8 hg8 hat8 hlt8)
                  have HC8:Hid (Cp (ls++[(xs++[Y])]) w1.heap.size (ls++[(xs++[Y])]).length (.slice (some ⟨k8,0,none⟩) (ls.length+1) c8) (us++[Value.slice (some ⟨k9,0,none⟩) (xs.length+1) c9]) w8):=HCP.out.app hg8 O8 HNL.out
                  have HB8:Hid (Below w1.heap.size w1 w8):=below_grown (below_step KB.out HQL.out) (below_step KB.out HQL.out).size hg8 (fun k e=>(own_lt HCP.out.row k e).1)
                  clear O8 hg8 hat8 hlt8
                  go_roundg (F.length - (e+1))
                  case measure=>have:=HG.out;have:=HFE.out;omega
                  case rel=>exact ⟨e+1,a2+1,ls++[(xs++[Y])],_,c8,by rw [List.length_append];rfl,HA2.out,wrap_succ (by have:=HFE.out.2;have:=HS.out.2;omega),rfl,HFE.out.2,HB8,⟨⟨_,by have h:=HC8.out;rw [List.length_append] at h ⊢;exact h⟩,(fun l' hl'=>by
                    rcases List.mem_append.1 hl' with h | h
                    · exact KP.out.ne l' h
                    · simp at h;subst h;exact ⟨by simp,by rw [List.length_append];have:=LX.out.1;have:=HT.out;show _+1≤_;omega⟩),by rw [List.length_append];have:=KP.out.len;show _+1≤_;omega,by have:=LX.out;have:=KP.out.at_;have:=HT.out;omega⟩⟩
                · have HPB:Hid (f.per≤12):=by show _≤_;omega
                  have w2:wrap64 (((t:Nat):Int)+((f.per:Nat):Int))=((t+f.per:Nat):Int):=by
                    have:=HT.out
                    have:=HPB.out
                    unfold wrap64
                    omega
                  go_wp2_with fail
                  go_roundg (12 - (t+f.per))
                  case measure=>have:=HG2.out;have:=HT.out;have:=HPER.out;omega
                  case rel=>exact ⟨a2+1,t+f.per,xs++[Y],_,c9,HA2.out,by rw [List.length_append];rfl,rfl,rfl,H9.out.1,(by have h:=H9.out.2;rw [List.length_append];exact h),⟨by rw [List.length_append];have:=LX.out;have:=HPER.out;show _+1≤_;omega,by rw [List.length_append];have:=LX.out;have:=HT.out;show _+1≤_;omega,by rw [List.length_append];have:=LX.out;show _=_+(_+1);omega,Or.inr (by simp),by have:=HT.out;have:=HPB.out;omega⟩⟩
              · have t5:¬((f.ty:Nat):Int)=1:=by omega
                go_upto_region 18 with fail
                clear t5 hty
                have HB2:Hid (Below wr.heap.size wr (V.alloc (.cells #[.int .i64 X] 2))):=below_step AB.out ((Below.refl _ _).alloc (Nat.le_refl _) _)
                have OW:Hid (Nl (V.alloc (.cells #[.int .i64 X] 2)) W0.heap.size (.slice o2 xs.length c2) xs):=own_kept LN.out (fun g hg=>HB2.out.block g (lt_of_heap (own_lt LN.out g hg).2.choose_spec))
                clear y1 y2
                go_upto_region 19 with (at_builtin;refine wpList_append_lies _ rfl _ _ 47 rfl W0.heap.size 2 n0 (.int .i64 0) 1 8 Tryz.underlying47 hn0 nz0 nz1 nz2 rfl (by decide) (.slice o2 xs.length c2) xs.length (i64s xs) rfl OW.out ⟨V.heap.size,0,none⟩ 1 1 [.int .i64 X] rfl rfl (fun j u hu=>by
                    cases j with
                    | zero=>cases hu;rw [Addr.add_lit,Nat.zero_add];simp
                    | succ j=>simp at hu) (by intro u hu;simp at hu;subst hu;rfl) (by decide) (by unfold maxLen;have:=LX.out.2.1;omega) (by have:=LX.out.2.1;omega) (Nat.le_trans LB.out.size HB2.out.size) _ rfl ?_;intro k9 c9 w9 O9 hg9 hat9 hlt9)
                have H9:Hid (Below W0.heap.size W0 w9∧Nl w9 W0.heap.size (Value.slice (some ⟨k9,0,none⟩) (xs.length+1) c9) (xs++[X])):=by
                  refine ⟨below_grown (below_step LB.out HB2.out) (below_step LB.out HB2.out).size hg9 (fun k e=>(own_lt OW.out k e).1),?_⟩
                  have e:i64s (xs++[X])=i64s xs++[.int .i64 X]:=List.map_append
                  show World.ownsRow _ _ _ _ _ _ _
                  rw [List.length_append,e]
                  exact O9
                clear O9 hg9 hat9 hlt9 OW HB2 AB
                have z2:w9.cell? ⟨g,e*5+2,none⟩=some (.int .i64 (f.per:Nat)):=by
                  have h:=flo_cell HF.out HFE.out.1 2 (by decide) rfl
                  exact ((below_step KB.out H9.out.1).cell (lt_of_cell h)).trans h
                have HA2:Hid (Value.int .i64 (wrap64 ((a2:Int)+1))=.int .i64 ((a2+1:Nat):Int)):=wrap_succ (by have:=LX.out;have:=KP.out.at_;have:=HFE.out;have:=HS.out.2;omega)
                by_cases hbig:(12:Int) < (f.per:Nat)
                · go_upto_region 21 with fail
                  have HQL:Hid (Below W0.heap.size W0 (w9.alloc (.cells #[Value.slice (some ⟨k9,0,none⟩) (xs.length+1) c9] 47))):=H9.out.1.alloc H9.out.1.size _
                  obtain ⟨us,hcp⟩:=KP.out.cp
                  have HCP:Hid (Cp ls w1.heap.size ls.length (.slice ov ls.length cv) us (w9.alloc (.cells #[Value.slice (some ⟨k9,0,none⟩) (xs.length+1) c9] 47))):=hcp.below HQL.out
                  have HNL:Hid (Nl (w9.alloc (.cells #[Value.slice (some ⟨k9,0,none⟩) (xs.length+1) c9] 47)) W0.heap.size (Value.slice (some ⟨k9,0,none⟩) (xs.length+1) c9) (xs++[X])):=own_kept H9.out.2 (fun g hg=>Below.heap_alloc w9 _ g (lt_of_heap (own_lt H9.out.2 g hg).2.choose_spec))
                  clear hcp
                  go_wp2_with (at_builtin;refine wpList_append_lies _ rfl _ _ 45 rfl w1.heap.size 47 s0 (.slice none 0 0) 1 24 Tryz.underlying45 hs0 sz0 sz1 sz2 rfl (by decide) (.slice ov ls.length cv) ls.length us rfl HCP.out.row ⟨w9.heap.size,0,none⟩ 1 1 [Value.slice (some ⟨k9,0,none⟩) (xs.length+1) c9] rfl rfl (fun j u hu=>by
                      cases j with
                      | zero=>cases hu;rw [Addr.add_lit,Nat.zero_add];simp
                      | succ j=>simp at hu) (by intro u hu;simp at hu;subst hu;rfl) (by decide) (by unfold maxLen;have:=KP.out.len;have:=HFE.out;have:=HS.out.2;omega) (by have:=KP.out.len;have:=HFE.out;have:=HS.out.2;omega) (Nat.le_trans KB.out.size HQL.out.size) _ rfl ?_;intro k8 c8 w8 O8 hg8 hat8 hlt8)
                  have HC8:Hid (Cp (ls++[(xs++[X])]) w1.heap.size (ls++[(xs++[X])]).length (.slice (some ⟨k8,0,none⟩) (ls.length+1) c8) (us++[Value.slice (some ⟨k9,0,none⟩) (xs.length+1) c9]) w8):=HCP.out.app hg8 O8 HNL.out
                  have HB8:Hid (Below w1.heap.size w1 w8):=below_grown (below_step KB.out HQL.out) (below_step KB.out HQL.out).size hg8 (fun k e=>(own_lt HCP.out.row k e).1)
                  clear O8 hg8 hat8 hlt8
                  go_roundg (F.length - (e+1))
                  case measure=>have:=HG.out;have:=HFE.out;omega
                  case rel=>exact ⟨e+1,a2+1,ls++[(xs++[X])],_,c8,by rw [List.length_append];rfl,HA2.out,wrap_succ (by have:=HFE.out.2;have:=HS.out.2;omega),rfl,HFE.out.2,HB8,⟨⟨_,by have h:=HC8.out;rw [List.length_append] at h ⊢;exact h⟩,(fun l' hl'=>by
                    rcases List.mem_append.1 hl' with h | h
                    · exact KP.out.ne l' h
                    · simp at h;subst h;exact ⟨by simp,by rw [List.length_append];have:=LX.out.1;have:=HT.out;show _+1≤_;omega⟩),by rw [List.length_append];have:=KP.out.len;show _+1≤_;omega,by have:=LX.out;have:=KP.out.at_;have:=HT.out;omega⟩⟩
                · have HPB:Hid (f.per≤12):=by show _≤_;omega
                  have w2:wrap64 (((t:Nat):Int)+((f.per:Nat):Int))=((t+f.per:Nat):Int):=by
                    have:=HT.out
                    have:=HPB.out
                    unfold wrap64
                    omega
                  go_wp2_with fail
                  go_roundg (12 - (t+f.per))
                  case measure=>have:=HG2.out;have:=HT.out;have:=HPER.out;omega
                  case rel=>exact ⟨a2+1,t+f.per,xs++[X],_,c9,HA2.out,by rw [List.length_append];rfl,rfl,rfl,H9.out.1,(by have h:=H9.out.2;rw [List.length_append];exact h),⟨by rw [List.length_append];have:=LX.out;have:=HPER.out;show _+1≤_;omega,by rw [List.length_append];have:=LX.out;have:=HT.out;show _+1≤_;omega,by rw [List.length_append];have:=LX.out;show _=_+(_+1);omega,Or.inr (by simp),by have:=HT.out;have:=HPB.out;omega⟩⟩
            · have ht2:(12:Int)≤((t:Nat):Int):=by omega
              have HX:Hid (Below W0.heap.size W0 wr∧Nl wr W0.heap.size (.slice o2 xs.length c2) xs):=⟨LB.out,LN.out⟩
              have HNE:Hid (xs≠[]):=by
                rcases LX.out.2.2.2.1 with h | h
                · omega
                · exact h
              clear kp ht y1 y2
              go_upto_region 21 with fail
              have HQL:Hid (Below W0.heap.size W0 (wr.alloc (.cells #[Value.slice o2 xs.length c2] 47))):=HX.out.1.alloc HX.out.1.size _
              obtain ⟨us,hcp⟩:=KP.out.cp
              have HCP:Hid (Cp ls w1.heap.size ls.length (.slice ov ls.length cv) us (wr.alloc (.cells #[Value.slice o2 xs.length c2] 47))):=hcp.below HQL.out
              have HNL:Hid (Nl (wr.alloc (.cells #[Value.slice o2 xs.length c2] 47)) W0.heap.size (Value.slice o2 xs.length c2) xs):=own_kept HX.out.2 (fun g hg=>Below.heap_alloc wr _ g (lt_of_heap (own_lt HX.out.2 g hg).2.choose_spec))
              clear hcp
              go_wp2_with (at_builtin;refine wpList_append_lies _ rfl _ _ 45 rfl w1.heap.size 47 s0 (.slice none 0 0) 1 24 Tryz.underlying45 hs0 sz0 sz1 sz2 rfl (by decide) (.slice ov ls.length cv) ls.length us rfl HCP.out.row ⟨wr.heap.size,0,none⟩ 1 1 [Value.slice o2 xs.length c2] rfl rfl (fun j u hu=>by
                  cases j with
                  | zero=>cases hu;rw [Addr.add_lit,Nat.zero_add];simp
                  | succ j=>simp at hu) (by intro u hu;simp at hu;subst hu;rfl) (by decide) (by unfold maxLen;have:=KP.out.len;have:=HFE.out;have:=HS.out.2;omega) (by have:=KP.out.len;have:=HFE.out;have:=HS.out.2;omega) (Nat.le_trans KB.out.size HQL.out.size) _ rfl ?_;intro k8 c8 w8 O8 hg8 hat8 hlt8)
              have HC8:Hid (Cp (ls++[xs]) w1.heap.size (ls++[xs]).length (.slice (some ⟨k8,0,none⟩) (ls.length+1) c8) (us++[Value.slice o2 xs.length c2]) w8):=HCP.out.app hg8 O8 HNL.out
              have HB8:Hid (Below w1.heap.size w1 w8):=below_grown (below_step KB.out HQL.out) (below_step KB.out HQL.out).size hg8 (fun k e=>(own_lt HCP.out.row k e).1)
              clear O8 hg8 hat8 hlt8
              go_roundg (F.length - (e+1))
              case measure=>have:=HG.out;have:=HFE.out;omega
              case rel=>exact ⟨e+1,a2,ls++[xs],_,c8,by rw [List.length_append];rfl,rfl,wrap_succ (by have:=HFE.out.2;have:=HS.out.2;omega),rfl,HFE.out.2,HB8,⟨⟨_,by have h:=HC8.out;rw [List.length_append] at h ⊢;exact h⟩,(fun l' hl'=>by
                rcases List.mem_append.1 hl' with h | h
                · exact KP.out.ne l' h
                · simp at h;subst h;exact ⟨HNE.out,LX.out.2.1⟩),by rw [List.length_append];have:=KP.out.len;show _+1≤_;omega,by have:=LX.out;have:=KP.out.at_;omega⟩⟩
      · have hin':f.inp=false:=by simpa using hin
        rw [hin'] at e3
        go_wp2_with fail
        go_roundg (F.length - (e+1))
        case measure=>have:=HG.out;have:=HFE.out;omega
        case rel=>exact ⟨e+1,at_,ls,ov,cv,rfl,rfl,wrap_succ (by have:=HFE.out.2;have:=HS.out.2;omega),rfl,HFE.out.2,KB,⟨KP.out.cp,KP.out.ne,by have:=KP.out.len;omega,by have:=KP.out.at_;omega⟩⟩
    · have hle:(F.length:Int)≤(e:Int):=by omega
      go_wp2_with fail
      go_ret
      obtain ⟨us,hcp⟩:=KP.out.cp
      refine ⟨below_step HB1.out KB.out,_,ls,us,rfl,⟨⟨_,hcp.row⟩,fun k l hk=>hcp.lst k l (by rw [List.take_length];exact hk),?_,fun l hl=>?_⟩,KP.out.ne⟩
      · have:=KP.out.len;have:=HG.out.2;have:=HS.out.2;omega
      · have:=(KP.out.ne l hl).2;omega
end
section
open Go.ChangeShapes Go.WideShapes Go.ChangeAt Go.RowKit Go.Deep
theorem cellsOp:Tryz.prog.cellsOf 33=7:=by kernel_rfl
theorem bytesOp:33≤Tryz.prog.bytesOf 33:=by
 have h:decide (33≤Tryz.prog.bytesOf 33)=true:=by kernel_rfl
 exact of_decide_eq_true h
theorem cellsI:Tryz.prog.cellsOf 3=1:=by kernel_rfl
theorem cellsS:Tryz.prog.cellsOf 9=1:=by kernel_rfl
theorem cellsL:Tryz.prog.cellsOf 30=1:=by kernel_rfl
theorem cellsU:Tryz.prog.cellsOf 31=1:=by kernel_rfl
theorem open_script {H:Type} {enc:TypeId×Value→H} {W:World} {fuel:Nat} {cs:List Value} {x:DataW H×List MemPlace} (h:DataW.trod enc Tryz.prog W 0 (fun _=>true) true fuel 22 cs=some x) (hw:∀elems spare,x.1=.slice elems spare→(elems.length+spare.length)*Tryz.prog.bytesOf 33≤reachBytes) :
  (∃o c,cs=[.slice o 0 c])∨∃b off n c,cs=[.slice (some ⟨b,off,none⟩) n c]∧0 < n∧n < 2 ^ 60∧Scr W b off n:=by
 rcases open_slice Tryz.underlying22 h with ⟨rfl,_⟩ | ⟨a,len,cap,m,n,D,P,rfl,_,hl,_,hm,hx1,hx⟩
 ·exact Or.inl ⟨none,0,rfl⟩
 ·have hm':m=cap:=by simpa using hm
  have hlen:len≤4398046511103:=by
   have h1:=hw _ _ (congrArg Prod.fst hx1)
   simp only [List.length_map,List.length_range] at h1
   have h2:reachBytes=140737488351232:=by decide
   rw [h2] at h1
   have h3:=Nat.mul_le_mul_left (len+(m - len)) bytesOp
   omega
  by_cases hz0:len=0
  ·subst hz0
   exact Or.inl ⟨_,_,rfl⟩
  obtain ⟨b,off,spot⟩:=a
  have hspot:spot=none:=by
   obtain ⟨z,hz⟩:∃z:Nat,z=0:=⟨0,rfl⟩
   obtain ⟨cs',h1,_⟩:=hx z (by omega)
   rw [cellsOp] at h1
   subst hz
   obtain ⟨_,hlen,hcell⟩:=World.cells?_some h1
   have g0:=hcell 0 (by decide)
   obtain ⟨c0,hc0⟩:∃c0,cs'[0]?=some c0:=⟨_,List.getElem?_eq_getElem (by omega)⟩
   rw [hc0] at g0
   simpa [Addr.add] using World.cell?_spot g0
  subst hspot
  refine Or.inr ⟨b,off,len,cap,rfl,by omega,by omega,fun j hj=>?_⟩
  obtain ⟨cs',h1,h2⟩:=hx j (by omega)
  rw [cellsOp] at h1
  clear hx hw hx1
  obtain ⟨_,hlen,hcell⟩:=World.cells?_some h1
  obtain ⟨xs,k,_,_,_,hxl,hf⟩:=DataW.trod_struct Tryz.underlying33 h2
  have hxl':xs.length=7:=hxl
  have ad:∀i,((⟨b,off,none⟩:Addr).add (j*7)).add i=⟨b,off+j*7+i,none⟩:=fun i=>by rw [Addr.add_lit,Addr.add_lit]
  obtain ⟨y0,hy0⟩:∃y,xs[0]?=some y:=⟨_,List.getElem?_eq_getElem (by omega)⟩
  have g0:=hf 0 _ rfl
  rw [hy0] at g0
  obtain ⟨z0,e0,_,wf0⟩:=DataW.trod_int Tryz.underlying3 g0
  have q0:W.cell? ⟨b,off+j*7,none⟩=some (.int .i64 z0):=by
   have h:=hcell 0 (by decide)
   rw [ad] at h
   refine h.trans ?_
   have:=congrArg (·[0]?) e0
   simpa [List.getElem?_take,List.getElem?_drop,cellsI] using this
  obtain ⟨y1,hy1⟩:∃y,xs[1]?=some y:=⟨_,List.getElem?_eq_getElem (by omega)⟩
  have g1:=hf 1 _ rfl
  rw [hy1] at g1
  obtain ⟨z1,e1,_,wf1⟩:=DataW.trod_int Tryz.underlying3 g1
  have q1:W.cell? ⟨b,off+j*7+1,none⟩=some (.int .i64 z1):=by
   have h:=hcell 1 (by decide)
   rw [ad] at h
   refine h.trans ?_
   have:=congrArg (·[0]?) e1
   simpa [List.getElem?_take,List.getElem?_drop,cellsI] using this
  obtain ⟨y2,hy2⟩:∃y,xs[2]?=some y:=⟨_,List.getElem?_eq_getElem (by omega)⟩
  have g2:=hf 2 _ rfl
  rw [hy2] at g2
  obtain ⟨z2,e2,_,wf2⟩:=DataW.trod_int Tryz.underlying3 g2
  have q2:W.cell? ⟨b,off+j*7+2,none⟩=some (.int .i64 z2):=by
   have h:=hcell 2 (by decide)
   rw [ad] at h
   refine h.trans ?_
   have:=congrArg (·[0]?) e2
   simpa [List.getElem?_take,List.getElem?_drop,cellsI] using this
  obtain ⟨y3,hy3⟩:∃y,xs[3]?=some y:=⟨_,List.getElem?_eq_getElem (by omega)⟩
  have g3:=hf 3 _ rfl
  rw [hy3] at g3
  obtain ⟨z3,e3,_,wf3⟩:=DataW.trod_int Tryz.underlying3 g3
  have q3:W.cell? ⟨b,off+j*7+3,none⟩=some (.int .i64 z3):=by
   have h:=hcell 3 (by decide)
   rw [ad] at h
   refine h.trans ?_
   have:=congrArg (·[0]?) e3
   simpa [List.getElem?_take,List.getElem?_drop,cellsI] using this
  obtain ⟨y4,hy4⟩:∃y,xs[4]?=some y:=⟨_,List.getElem?_eq_getElem (by omega)⟩
  have g4:=hf 4 _ rfl
  rw [hy4] at g4
  obtain ⟨z4,e4,_,_⟩:=DataW.trod_string Tryz.underlying9 g4
  have q4:W.cell? ⟨b,off+j*7+4,none⟩=some (.string z4):=by
   have h:=hcell 4 (by decide)
   rw [ad] at h
   refine h.trans ?_
   have:=congrArg (·[0]?) e4
   simpa [List.getElem?_take,List.getElem?_drop,cellsS] using this
  obtain ⟨y5,hy5⟩:∃y,xs[5]?=some y:=⟨_,List.getElem?_eq_getElem (by omega)⟩
  have g5:=hf 5 _ rfl
  rw [hy5] at g5
  have g5':∃(o:Option Addr) (l c:Nat),(cs'.drop 5).take 1=[.slice o l c]:=by
   rcases DataW.trod_slice Tryz.underlying30 g5 with ⟨e,_⟩ | ⟨a,len,cap,_,_,_,_,e,_,_,hl,hm,_⟩
   ·exact ⟨none,0,0,by simpa [cellsL] using e⟩
   ·exact ⟨some a,len,cap,by simpa [cellsL] using e⟩
  obtain ⟨o5,l5,c5,e5⟩:=g5'
  have q5:W.cell? ⟨b,off+j*7+5,none⟩=some (.slice o5 l5 c5):=by
   have h:=hcell 5 (by decide)
   rw [ad] at h
   refine h.trans ?_
   have:=congrArg (·[0]?) e5
   simpa [List.getElem?_take,List.getElem?_drop,cellsL] using this
  obtain ⟨y6,hy6⟩:∃y,xs[6]?=some y:=⟨_,List.getElem?_eq_getElem (by omega)⟩
  have g6:=hf 6 _ rfl
  rw [hy6] at g6
  have g6':∃(o:Option Addr) (l c:Nat),(cs'.drop 6).take 1=[.slice o l c]:=by
   rcases DataW.trod_slice Tryz.underlying31 g6 with ⟨e,_⟩ | ⟨a,len,cap,_,_,_,_,e,_,_,hl,hm,_⟩
   ·exact ⟨none,0,0,by simpa [cellsU] using e⟩
   ·exact ⟨some a,len,cap,by simpa [cellsU] using e⟩
  obtain ⟨o6,l6,c6,e6⟩:=g6'
  have q6:W.cell? ⟨b,off+j*7+6,none⟩=some (.slice o6 l6 c6):=by
   have h:=hcell 6 (by decide)
   rw [ad] at h
   refine h.trans ?_
   have:=congrArg (·[0]?) e6
   simpa [List.getElem?_take,List.getElem?_drop,cellsU] using this
  exact ⟨z0,z1,z2,z3,z4,o5,l5,c5,o6,l6,c6,q0,q1,q2,q3,q4,q5,q6⟩
end
end Go.Proofs.YticbokabjhnagaaGreatDoor
