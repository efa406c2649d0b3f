import Derived.Test.YtjehljjlcifndaaGreatDoorV43
import Derived.Test.YtjehljjlcifndaaGreatDoorV36
import Derived.Test.YtjehljjlcifndaaGreatDoorV44
namespace Go.Proofs.YtjehljjlcifndaaGreatDoor
set_option maxHeartbeats 32000000
set_option maxRecDepth 100000
section
open Go.RowKit
variable {xs:List Int} {n p t tk:Nat}
theorem bits_one (X:Int):bits BinOp.and IntKind.i64 X 1=0\/bits BinOp.and IntKind.i64 X 1=1:=by
  have key:∀a:BitVec 64,(a &&& BitVec.ofInt 64 1).toNat=a.toNat % 2:=fun a=>by
    rw[BitVec.toNat_and]
    exact Nat.and_one_is_mod _
  have h2:bits BinOp.and IntKind.i64 X 1=IntKind.i64.wrap (((BitVec.ofInt 64 X).toNat % 2:Nat):Int):=congrArg (fun n:Nat=>IntKind.i64.wrap (n:Int)) (key (BitVec.ofInt 64 X))
  rw[h2]
  rcases Nat.mod_two_eq_zero_or_one (BitVec.ofInt 64 X).toNat with e|e
  · left;rw[e];decide
  · right;rw[e];decide
theorem len_exit (hp:1<=p) (h:t=n*p) (h1:tk<=t) (h2:t < tk+p):n=(tk+p - 1) / p:=by
  have e:tk+p - 1=p*n+(tk+p - 1 - t):=by rw[Nat.mul_comm,<-h];omega
  rw[e,Nat.mul_add_div (by omega),Nat.div_eq_of_lt (by omega)];rfl
theorem len_break (h:t=n*p) (h0:1<=tk) (h1:t < tk) (h2:tk < p):n+1=(tk+p - 1) / p:=by
  have hn:n=0:=by
    rcases Nat.eq_zero_or_pos n with e|e
    · exact e
    · have:=Nat.le_mul_of_pos_left p e
      omega
  rw[hn]
  have e:tk+p - 1=p*1+(tk - 1):=by omega
  rw[e,Nat.mul_add_div (by omega),Nat.div_eq_of_lt (by omega)]
theorem step_len (h:t=xs.length*p) (y:Int):t+p=(xs++[y]).length*p:=by
  rw[h,List.length_append]
  show _=(xs.length+1)*p
  rw[Nat.succ_mul]
theorem lt_meas {gk:Nat} (h:gk=tk - t) (h1:t < tk) (h2:1<=p):tk - (t+p) < gk:=by omega
theorem lx_next {a2 at_:Nat} (h:xs.length<=t/\xs.length<=40/\a2=at_+xs.length/\(t=0\/xs≠[])/\t<=80) (h1:t < tk) (h2:1<=p) (h3:p<=tk) (h4:1<=tk/\tk<=40) (y:Int):(xs++[y]).length<=t+p/\(xs++[y]).length<=40/\a2+1=at_+(xs++[y]).length/\(t+p=0\/xs++[y]≠[])/\t+p<=80:=by
  obtain⟨a,b,c,_,d⟩:=h
  have e:(xs++[y]).length=xs.length+1:=by simp
  rw[e]
  exact⟨by omega,by omega,by omega,Or.inr (by simp),by omega⟩
theorem zds {F:List Flo} {e:Nat} {f:Flo} (hf:F[e]?=some f):F.take (e+1)=F.take e++[f]:=by
  rw[List.take_add_one,hf];rfl
theorem one_more {ty:Nat} {y:Int} (h:ty=1->∀v∈xs,v=0\/v=1) (hy:ty=1->y=0\/y=1):ty=1->∀v∈xs++[y],v=0\/v=1:=fun e v hv=>by
  rcases List.mem_append.1 hv with h1|h1
  · exact h e v h1
  · obtain rfl:v=y:=by simpa using h1
    exact hy e
structure Pm2 (tk:Nat) (F:List Flo) (ls:List (List Int)) (b:Nat) (v:Value) (w:World) (e at_:Nat):Prop where
  cp:∃us,Cp ls b ls.length v us w/\∀u∈us,∀q,u.ownBlock=some q->b<=q
  ne:∀l∈ls,l≠[]/\l.length<=40
  len:ls.length<=e
  at_:at_<=40*e
  pol:Pol tk (F.take e) ls
theorem pools_tk (htk:1<=tk/\tk<=40) {ρ:Mbi} {B0 N P b off n c:Nat} {l:List Mip.It} {w:World} (hP:Prg ρ B0 N l w P) (hn:0 < n) (hS:Scr w b off n) (hl:n < 2 ^ 60) (hpr:∀f∈prd N l,1<=f.per) :
    Calls Tryz.prog 8 #[.pointer (some ⟨P,0,none⟩),.slice (some ⟨b,off,none⟩) n c,.int .i64 (tk:Nat)] w fun E w'=>Below w.heap.size w w'/\∃v ls us,E=.returned v/\Ins w' v ls us/\(∀q,v.ownBlock=some q->w.heap.size<=q)/\(∀u∈us,∀q,u.ownBlock=some q->w.heap.size<=q)/\(∀l∈ls,l≠[]/\l.length<=40)/\Pol tk (prd N l) ls:=by
  obtain⟨n0,hn0,nz0,nz1,nz2⟩:=info_parts Tryz.infoI64
  obtain⟨s0,hs0,sz0,sz1,sz2⟩:=info_parts Tryz.infoSl
  have HP:Hid (Prg ρ B0 N l w P/\Scr w b off n):=⟨hP,hS⟩
  have HN:Hid (0 < n/\n < 2 ^ 60):=⟨hn,hl⟩
  have HTK:=hid htk
  have HPR:=hid hpr
  clear hP hS hn hl htk hpr
  go_enter Tryz.func8,Tryz.ntmps8
  go_wp2_with fail
  refine (zeb HP.out.1).mono ?_
  rintro E w1 ⟨hb1,v1,rfl,hF⟩
  obtain⟨of,cf,e1⟩:=zae hF
  subst e1
  have HB1:=hid hb1
  have HF:=hid hF
  have HS:Hid (Scr w1 b off n/\(prd N l).length<=60):=⟨HP.out.2.below hb1,by have:=HP.out.1.len.1;have:=zb9 (N:=N) l;omega⟩
  clear hb1 hF HP
  obtain⟨F,hFe⟩:∃F,F=prd N l:=⟨_,rfl⟩
  rw[<-hFe] at HF HS HPR ⊢
  have HFQ:=hid hFe
  clear hFe
  go_wp2_with fail
  go_loopg [7,9,10] F.length (fun gk s7 s9 s10 wr=>∃(e at_:Nat) (ls:List (List Int)) (o:Option Addr) (c:Nat),s7=.slice o ls.length c/\s9=.int .i64 (at_:Nat)/\s10=.int .i64 (e:Nat)/\gk=F.length - e/\e<=F.length/\Hid (Below w1.heap.size w1 wr)/\Hid (Pm2 tk F ls w1.heap.size (.slice o ls.length c) wr e at_))
  case atStart=>exact⟨0,0,[],none,0,rfl,rfl,rfl,rfl,Nat.zero_le _,Below.refl _ _,⟨⟨[],⟨World.ownsRow_nil _ _ _ _,fun k l h=>by simp at h⟩,(fun u hu=>by cases hu)⟩,(fun l h=>by cases h),Nat.le_refl _,Nat.le_refl _,rfl⟩⟩
  case round=>
    obtain⟨e,at_,ls,ov,cv,rfl,rfl,rfl,hg,hle,KB,KP⟩:=hrel
    have HG:Hid (gk=F.length - e/\e<=F.length):=⟨hg,hle⟩
    clear hg hle
    by_cases hlt:e < F.length
    · obtain⟨f,hf⟩:∃f,F[e]?=some f:=⟨_,List.getElem?_eq_getElem hlt⟩
      have HFE:Hid (F[e]?=some f/\e < F.length):=⟨hf,hlt⟩
      obtain⟨g,hof⟩:∃g,of=some ⟨g,0,none⟩:=by
        rcases HF.out.2 with ⟨_,e⟩|⟨g,cap,cur,e,_⟩
        · omega
        · injection e with e1;exact⟨g,e1⟩
      subst hof
      have kp:∀{q:Addr} {v:Value},w1.cell? q=some v->wr.cell? q=some v:=fun hq=>(KB.out.cell (zab hq)).trans hq
      have e2:wr.cell? ⟨g,e*5+2,none⟩=some (.int .i64 (f.per:Nat)):=kp (zay HF.out hf 2 (by decide) rfl)
      have e3:wr.cell? ⟨g,e*5+3,none⟩=some (.bool f.inp):=kp (zay HF.out hf 3 (by decide) rfl)
      have h0:(0:Int)<=(e:Int):=by omega
      have h1:(e:Int) < (F.length:Int):=by omega
      clear kp hf
      by_cases hin:f.inp=true
      · by_cases hper:(f.per:Int) < 1
        · exfalso
          have:=HPR.out f (List.mem_of_getElem? HFE.out.1)
          omega
        · rw[hin] at e3
          have HPER:Hid (1<=f.per):=by show _<=_;omega
          have HIN:=hid hin
          clear hin hlt
          obtain⟨W0,hW0⟩:∃W0,W0=wr:=⟨_,rfl⟩
          subst hW0
          go_wp2_with fail
          go_loopg [9,11,12] tk (fun gk2 s9 s11 s12 w'=>∃(a2 t:Nat) (xs:List Int) (o2:Option Addr) (c2:Nat),s9=.int .i64 (a2:Nat)/\s11=.slice o2 xs.length c2/\s12=.int .i64 (t:Nat)/\gk2=tk - t/\Hid (Below W0.heap.size W0 w')/\Hid (Nl w' W0.heap.size (.slice o2 xs.length c2) xs)/\Hid (xs.length<=t/\xs.length<=40/\a2=at_+xs.length/\(t=0\/xs≠[])/\t<=80)/\Hid (t=xs.length*f.per/\t < tk+f.per/\(f.ty=1->∀v∈xs,v=0\/v=1)))
          case atStart=>exact⟨at_,0,[],none,0,rfl,rfl,rfl,rfl,Below.refl _ _,World.ownsRow_nil _ _ _ _,⟨Nat.le_refl _,by decide,rfl,Or.inl rfl,by decide⟩,⟨(Nat.zero_mul _).symm,Nat.lt_of_lt_of_le HTK.out.1 (Nat.le_add_right _ _),fun _ v hv=>by cases hv⟩⟩
          case round=>
            obtain⟨a2,t,xs,o2,c2,rfl,rfl,rfl,hg2,LB,LN,LX,LY⟩:=hrel
            have HG2:=hid hg2
            have kp:∀{q:Addr} {v:Value},w1.cell? q=some v->wr.cell? q=some v:=fun hq=>((zaa KB.out LB.out).cell (zab hq)).trans hq
            have y1:wr.cell? ⟨g,e*5+1,none⟩=some (.int .i64 (f.ty:Nat)):=kp (zay HF.out HFE.out.1 1 (by decide) rfl)
            have y2:wr.cell? ⟨g,e*5+2,none⟩=some (.int .i64 (f.per:Nat)):=kp (zay HF.out HFE.out.1 2 (by decide) rfl)
            clear hg2 e2 e3
            by_cases ht:t < tk
            · obtain⟨q,x,y,z,s,o1,n1,c1,o3,n3,c3,d0,d1,d2,d3,d4,d5,d6⟩:=HS.out.1 (a2 % n) (Nat.mod_lt _ HN.out.1)
              replace d0:=kp d0
              replace d1:=kp d1
              replace d2:=kp d2
              replace d3:=kp d3
              replace d4:=kp d4
              replace d5:=kp d5
              replace d6:=kp d6
              have HT:=hid ht
              have t1:((t:Nat):Int) < (tk:Nat):=by omega
              have np:(0:Int) < (n:Nat):=by have:=HN.out.1;omega
              have nz:((n:Nat):Int)≠0:=by omega
              have r0:(0:Int)<=(a2:Int) % (n:Int):=Int.emod_nonneg _ nz
              have r1:(a2:Int) % (n:Int) < (n:Int):=Int.emod_lt_of_pos _ np
              have AB:Hid (Below wr.heap.size wr (wr.alloc (.cells #[.int .i64 q,.int .i64 x,.int .i64 y,.int .i64 z,.string s,.slice o1 n1 c1,.slice o3 n3 c3] 27))):=brf.alloc nlr _
              clear kp ht
              go_upto_region 16 with fail
              replace y1:=(AB.out.cell (zab y1)).trans y1
              replace y2:=(AB.out.cell (zab y2)).trans y2
              generalize wrap64 (wrap64 (wrap64 (x+wrap64 (3*y))+z)+(a2:Int))=X
              clear d0 d1 d2 d3 d4 d5 d6 r0 r1 np nz
              generalize wr.alloc (.cells #[.int .i64 q,.int .i64 x,.int .i64 y,.int .i64 z,.string s,.slice o1 n1 c1,.slice o3 n3 c3] 27)=V at AB y1 y2 ⊢
              by_cases hty:f.ty=1
              · have t5:((f.ty:Nat):Int)=1:=by omega
                go_upto_region 18 with fail
                have HYB:Hid (f.ty=1->bits BinOp.and IntKind.i64 X 1=0\/bits BinOp.and IntKind.i64 X 1=1):=fun _=>bits_one X
                generalize bits BinOp.and IntKind.i64 X 1=Y at HYB ⊢
                clear t5 hty
                have HB2:Hid (Below wr.heap.size wr (V.alloc (.cells #[.int .i64 Y] 2))):=zaa AB.out (brf.alloc nlr _)
                have OW:Hid (Nl (V.alloc (.cells #[.int .i64 Y] 2)) W0.heap.size (.slice o2 xs.length c2) xs):=own_kept LN.out (fun g hg=>HB2.out.block g (lt_of_heap (zac LN.out g hg).2.choose_spec))
                clear y1 y2
                go_upto_region 19 with (at_builtin;refine wpList_append_lies _ rfl _ _ 35 rfl W0.heap.size 2 n0 (.int .i64 0) 1 8 Tryz.underlying35 hn0 nz0 nz1 nz2 rfl (by decide) (.slice o2 xs.length c2) xs.length (i64s xs) rfl OW.out ⟨V.heap.size,0,none⟩ 1 1 [.int .i64 Y] rfl rfl (fun j u hu=>by
                    cases j with
                    | zero=>cases hu;rw[Addr.add_lit,Nat.zero_add];simp
                    | succ j=>simp at hu) (by intro u hu;simp at hu;subst hu;rfl) (by decide) (by unfold maxLen;have:=LX.out.2.1;omega) (by have:=LX.out.2.1;omega) (Nat.le_trans LB.out.size HB2.out.size) _ rfl ?_;intro k9 c9 w9 O9 hg9 hat9 hlt9)
                have H9:Hid (Below W0.heap.size W0 w9/\Nl w9 W0.heap.size (Value.slice (some ⟨k9,0,none⟩) (xs.length+1) c9) (xs++[Y])):=by
                  refine⟨zak (zaa LB.out HB2.out) (zaa LB.out HB2.out).size hg9 (fun k e=>(zac OW.out k e).1),?_⟩
                  have e:i64s (xs++[Y])=i64s xs++[.int .i64 Y]:=List.map_append
                  show World.ownsRow _ _ _ _ _ _ _
                  rw[List.length_append,e]
                  exact O9
                clear O9 hg9 hat9 hlt9 OW HB2 AB
                have z2:w9.cell? ⟨g,e*5+2,none⟩=some (.int .i64 (f.per:Nat)):=by
                  have h:=zay HF.out HFE.out.1 2 (by decide) rfl
                  exact ((zaa KB.out H9.out.1).cell (zab h)).trans h
                have HA2:Hid (Value.int .i64 (wrap64 ((a2:Int)+1))=.int .i64 ((a2+1:Nat):Int)):=zbk (by have:=LX.out;have:=KP.out.at_;have:=HFE.out;have:=HS.out.2;omega)
                by_cases hbig:((tk:Nat):Int) < (f.per:Nat)
                · have HBR:Hid (xs.length+1=(tk+f.per - 1) / f.per):=len_break LY.out.1 HTK.out.1 HT.out (by omega)
                  go_upto_region 21 with fail
                  have HQL:Hid (Below W0.heap.size W0 (w9.alloc (.cells #[Value.slice (some ⟨k9,0,none⟩) (xs.length+1) c9] 35))):=H9.out.1.alloc H9.out.1.size _
                  obtain⟨us,hcp,hfr⟩:=KP.out.cp
                  have HCP:=hid (hcp.below HQL.out)
                  have HNL:Hid (Nl (w9.alloc (.cells #[Value.slice (some ⟨k9,0,none⟩) (xs.length+1) c9] 35)) W0.heap.size (Value.slice (some ⟨k9,0,none⟩) (xs.length+1) c9) (xs++[Y])):=own_kept H9.out.2 (fun g hg=>Below.heap_alloc w9 _ g (lt_of_heap (zac H9.out.2 g hg).2.choose_spec))
                  have HFR:=hid hfr
                  clear hcp hfr
                  go_wp2_with (at_builtin;refine wpList_append_lies _ rfl _ _ 33 rfl w1.heap.size 35 s0 (.slice none 0 0) 1 24 Tryz.underlying33 hs0 sz0 sz1 sz2 rfl (by decide) (.slice ov ls.length cv) ls.length us rfl HCP.out.row ⟨w9.heap.size,0,none⟩ 1 1 [Value.slice (some ⟨k9,0,none⟩) (xs.length+1) c9] rfl rfl (fun j u hu=>by
                      cases j with
                      | zero=>cases hu;rw[Addr.add_lit,Nat.zero_add];simp
                      | succ j=>simp at hu) (by intro u hu;simp at hu;subst hu;rfl) (by decide) (by unfold maxLen;have:=KP.out.len;have:=HFE.out;have:=HS.out.2;omega) (by have:=KP.out.len;have:=HFE.out;have:=HS.out.2;omega) (Nat.le_trans KB.out.size HQL.out.size) _ rfl ?_;intro k8 c8 w8 O8 hg8 hat8 hlt8)
                  have HC8:Hid (Cp (ls++[(xs++[Y])]) w1.heap.size (ls++[(xs++[Y])]).length (.slice (some ⟨k8,0,none⟩) (ls.length+1) c8) (us++[Value.slice (some ⟨k9,0,none⟩) (xs.length+1) c9]) w8):=HCP.out.app hg8 O8 HNL.out
                  have HB8:Hid (Below w1.heap.size w1 w8):=zak (zaa KB.out HQL.out) (zaa KB.out HQL.out).size hg8 (fun k e=>(zac HCP.out.row k e).1)
                  clear O8 hg8 hat8 hlt8
                  go_roundg (F.length - (e+1))
                  case measure=>have:=HG.out;have:=HFE.out;omega
                  case rel=>exact⟨e+1,a2+1,ls++[(xs++[Y])],_,c8,by rw[List.length_append];rfl,HA2.out,zbk (by have:=HFE.out.2;have:=HS.out.2;omega),rfl,HFE.out.2,HB8,⟨⟨_,(by have h:=HC8.out;rw[List.length_append] at h ⊢;exact h),(fun u hu q hq=>by
                    rcases List.mem_append.1 hu with h|h
                    · exact HFR.out u h q hq
                    · simp at h;subst h;exact Nat.le_trans KB.out.size (zac HNL.out q hq).1)⟩,(fun l' hl'=>by
                    rcases List.mem_append.1 hl' with h|h
                    · exact KP.out.ne l' h
                    · simp at h;subst h;exact⟨by simp,by rw[List.length_append];have:=LX.out.1;have:=HT.out;have:=HTK.out;show _+1<=_;omega⟩),by rw[List.length_append];have:=KP.out.len;show _+1<=_;omega,by have:=LX.out;have:=KP.out.at_;have:=HT.out;have:=HTK.out;omega,by rw[zds HFE.out.1];exact Pol.take HIN.out (by rw[List.length_append];exact HBR.out) (one_more LY.out.2.2 HYB.out) _ _ KP.out.pol⟩⟩
                · have HPB:Hid (f.per<=tk):=by show _<=_;omega
                  have w2:wrap64 (((t:Nat):Int)+((f.per:Nat):Int))=((t+f.per:Nat):Int):=by
                    have:=HT.out
                    have:=HPB.out
                    have:=HTK.out
                    unfold wrap64
                    omega
                  go_wp2_with fail
                  have HLX2:Hid ((xs++[Y]).length<=t+f.per/\(xs++[Y]).length<=40/\a2+1=at_+(xs++[Y]).length/\(t+f.per=0\/xs++[Y]≠[])/\t+f.per<=80):=lx_next LX.out HT.out HPER.out HPB.out HTK.out Y
                  have HY2:Hid (t+f.per=(xs++[Y]).length*f.per/\t+f.per < tk+f.per/\(f.ty=1->∀v∈xs++[Y],v=0\/v=1)):=⟨step_len LY.out.1 Y,by have:=HT.out;omega,one_more LY.out.2.2 HYB.out⟩
                  go_roundg (tk - (t+f.per))
                  case measure=>exact lt_meas HG2.out HT.out HPER.out
                  case rel=>exact⟨a2+1,t+f.per,xs++[Y],_,c9,HA2.out,by rw[List.length_append];rfl,rfl,rfl,H9.out.1,(by have h:=H9.out.2;rw[List.length_append];exact h),HLX2,HY2⟩
              · have t5:¬((f.ty:Nat):Int)=1:=by omega
                have HYB:Hid (f.ty=1->X=0\/X=1):=fun e=>absurd e hty
                go_upto_region 18 with fail
                clear t5 hty
                have HB2:Hid (Below wr.heap.size wr (V.alloc (.cells #[.int .i64 X] 2))):=zaa AB.out (brf.alloc nlr _)
                have OW:Hid (Nl (V.alloc (.cells #[.int .i64 X] 2)) W0.heap.size (.slice o2 xs.length c2) xs):=own_kept LN.out (fun g hg=>HB2.out.block g (lt_of_heap (zac LN.out g hg).2.choose_spec))
                clear y1 y2
                go_upto_region 19 with (at_builtin;refine wpList_append_lies _ rfl _ _ 35 rfl W0.heap.size 2 n0 (.int .i64 0) 1 8 Tryz.underlying35 hn0 nz0 nz1 nz2 rfl (by decide) (.slice o2 xs.length c2) xs.length (i64s xs) rfl OW.out ⟨V.heap.size,0,none⟩ 1 1 [.int .i64 X] rfl rfl (fun j u hu=>by
                    cases j with
                    | zero=>cases hu;rw[Addr.add_lit,Nat.zero_add];simp
                    | succ j=>simp at hu) (by intro u hu;simp at hu;subst hu;rfl) (by decide) (by unfold maxLen;have:=LX.out.2.1;omega) (by have:=LX.out.2.1;omega) (Nat.le_trans LB.out.size HB2.out.size) _ rfl ?_;intro k9 c9 w9 O9 hg9 hat9 hlt9)
                have H9:Hid (Below W0.heap.size W0 w9/\Nl w9 W0.heap.size (Value.slice (some ⟨k9,0,none⟩) (xs.length+1) c9) (xs++[X])):=by
                  refine⟨zak (zaa LB.out HB2.out) (zaa LB.out HB2.out).size hg9 (fun k e=>(zac OW.out k e).1),?_⟩
                  have e:i64s (xs++[X])=i64s xs++[.int .i64 X]:=List.map_append
                  show World.ownsRow _ _ _ _ _ _ _
                  rw[List.length_append,e]
                  exact O9
                clear O9 hg9 hat9 hlt9 OW HB2 AB
                have z2:w9.cell? ⟨g,e*5+2,none⟩=some (.int .i64 (f.per:Nat)):=by
                  have h:=zay HF.out HFE.out.1 2 (by decide) rfl
                  exact ((zaa KB.out H9.out.1).cell (zab h)).trans h
                have HA2:Hid (Value.int .i64 (wrap64 ((a2:Int)+1))=.int .i64 ((a2+1:Nat):Int)):=zbk (by have:=LX.out;have:=KP.out.at_;have:=HFE.out;have:=HS.out.2;omega)
                by_cases hbig:((tk:Nat):Int) < (f.per:Nat)
                · have HBR:Hid (xs.length+1=(tk+f.per - 1) / f.per):=len_break LY.out.1 HTK.out.1 HT.out (by omega)
                  go_upto_region 21 with fail
                  have HQL:Hid (Below W0.heap.size W0 (w9.alloc (.cells #[Value.slice (some ⟨k9,0,none⟩) (xs.length+1) c9] 35))):=H9.out.1.alloc H9.out.1.size _
                  obtain⟨us,hcp,hfr⟩:=KP.out.cp
                  have HCP:=hid (hcp.below HQL.out)
                  have HNL:Hid (Nl (w9.alloc (.cells #[Value.slice (some ⟨k9,0,none⟩) (xs.length+1) c9] 35)) W0.heap.size (Value.slice (some ⟨k9,0,none⟩) (xs.length+1) c9) (xs++[X])):=own_kept H9.out.2 (fun g hg=>Below.heap_alloc w9 _ g (lt_of_heap (zac H9.out.2 g hg).2.choose_spec))
                  have HFR:=hid hfr
                  clear hcp hfr
                  go_wp2_with (at_builtin;refine wpList_append_lies _ rfl _ _ 33 rfl w1.heap.size 35 s0 (.slice none 0 0) 1 24 Tryz.underlying33 hs0 sz0 sz1 sz2 rfl (by decide) (.slice ov ls.length cv) ls.length us rfl HCP.out.row ⟨w9.heap.size,0,none⟩ 1 1 [Value.slice (some ⟨k9,0,none⟩) (xs.length+1) c9] rfl rfl (fun j u hu=>by
                      cases j with
                      | zero=>cases hu;rw[Addr.add_lit,Nat.zero_add];simp
                      | succ j=>simp at hu) (by intro u hu;simp at hu;subst hu;rfl) (by decide) (by unfold maxLen;have:=KP.out.len;have:=HFE.out;have:=HS.out.2;omega) (by have:=KP.out.len;have:=HFE.out;have:=HS.out.2;omega) (Nat.le_trans KB.out.size HQL.out.size) _ rfl ?_;intro k8 c8 w8 O8 hg8 hat8 hlt8)
                  have HC8:Hid (Cp (ls++[(xs++[X])]) w1.heap.size (ls++[(xs++[X])]).length (.slice (some ⟨k8,0,none⟩) (ls.length+1) c8) (us++[Value.slice (some ⟨k9,0,none⟩) (xs.length+1) c9]) w8):=HCP.out.app hg8 O8 HNL.out
                  have HB8:Hid (Below w1.heap.size w1 w8):=zak (zaa KB.out HQL.out) (zaa KB.out HQL.out).size hg8 (fun k e=>(zac HCP.out.row k e).1)
                  clear O8 hg8 hat8 hlt8
                  go_roundg (F.length - (e+1))
                  case measure=>have:=HG.out;have:=HFE.out;omega
                  case rel=>exact⟨e+1,a2+1,ls++[(xs++[X])],_,c8,by rw[List.length_append];rfl,HA2.out,zbk (by have:=HFE.out.2;have:=HS.out.2;omega),rfl,HFE.out.2,HB8,⟨⟨_,(by have h:=HC8.out;rw[List.length_append] at h ⊢;exact h),(fun u hu q hq=>by
                    rcases List.mem_append.1 hu with h|h
                    · exact HFR.out u h q hq
                    · simp at h;subst h;exact Nat.le_trans KB.out.size (zac HNL.out q hq).1)⟩,(fun l' hl'=>by
                    rcases List.mem_append.1 hl' with h|h
                    · exact KP.out.ne l' h
                    · simp at h;subst h;exact⟨by simp,by rw[List.length_append];have:=LX.out.1;have:=HT.out;have:=HTK.out;show _+1<=_;omega⟩),by rw[List.length_append];have:=KP.out.len;show _+1<=_;omega,by have:=LX.out;have:=KP.out.at_;have:=HT.out;have:=HTK.out;omega,by rw[zds HFE.out.1];exact Pol.take HIN.out (by rw[List.length_append];exact HBR.out) (one_more LY.out.2.2 HYB.out) _ _ KP.out.pol⟩⟩
                · have HPB:Hid (f.per<=tk):=by show _<=_;omega
                  have w2:wrap64 (((t:Nat):Int)+((f.per:Nat):Int))=((t+f.per:Nat):Int):=by
                    have:=HT.out
                    have:=HPB.out
                    have:=HTK.out
                    unfold wrap64
                    omega
                  go_wp2_with fail
                  have HLX2:Hid ((xs++[X]).length<=t+f.per/\(xs++[X]).length<=40/\a2+1=at_+(xs++[X]).length/\(t+f.per=0\/xs++[X]≠[])/\t+f.per<=80):=lx_next LX.out HT.out HPER.out HPB.out HTK.out X
                  have HY2:Hid (t+f.per=(xs++[X]).length*f.per/\t+f.per < tk+f.per/\(f.ty=1->∀v∈xs++[X],v=0\/v=1)):=⟨step_len LY.out.1 X,by have:=HT.out;omega,one_more LY.out.2.2 HYB.out⟩
                  go_roundg (tk - (t+f.per))
                  case measure=>exact lt_meas HG2.out HT.out HPER.out
                  case rel=>exact⟨a2+1,t+f.per,xs++[X],_,c9,HA2.out,by rw[List.length_append];rfl,rfl,rfl,H9.out.1,(by have h:=H9.out.2;rw[List.length_append];exact h),HLX2,HY2⟩
            · have ht2:((tk:Nat):Int)<=((t:Nat):Int):=by omega
              have HX:Hid (Below W0.heap.size W0 wr/\Nl wr W0.heap.size (.slice o2 xs.length c2) xs):=⟨LB.out,LN.out⟩
              have HNE:Hid (xs≠[]):=by
                rcases LX.out.2.2.2.1 with h|h
                · have:=HTK.out;omega
                · exact h
              have HEX:Hid (xs.length=(tk+f.per - 1) / f.per):=len_exit HPER.out LY.out.1 (by omega) LY.out.2.1
              clear kp ht y1 y2
              go_upto_region 21 with fail
              have HQL:Hid (Below W0.heap.size W0 (wr.alloc (.cells #[Value.slice o2 xs.length c2] 35))):=HX.out.1.alloc HX.out.1.size _
              obtain⟨us,hcp,hfr⟩:=KP.out.cp
              have HCP:=hid (hcp.below HQL.out)
              have HNL:Hid (Nl (wr.alloc (.cells #[Value.slice o2 xs.length c2] 35)) W0.heap.size (Value.slice o2 xs.length c2) xs):=own_kept HX.out.2 (fun g hg=>Below.heap_alloc wr _ g (lt_of_heap (zac HX.out.2 g hg).2.choose_spec))
              have HFR:=hid hfr
              clear hcp hfr
              go_wp2_with (at_builtin;refine wpList_append_lies _ rfl _ _ 33 rfl w1.heap.size 35 s0 (.slice none 0 0) 1 24 Tryz.underlying33 hs0 sz0 sz1 sz2 rfl (by decide) (.slice ov ls.length cv) ls.length us rfl HCP.out.row ⟨wr.heap.size,0,none⟩ 1 1 [Value.slice o2 xs.length c2] rfl rfl (fun j u hu=>by
                  cases j with
                  | zero=>cases hu;rw[Addr.add_lit,Nat.zero_add];simp
                  | succ j=>simp at hu) (by intro u hu;simp at hu;subst hu;rfl) (by decide) (by unfold maxLen;have:=KP.out.len;have:=HFE.out;have:=HS.out.2;omega) (by have:=KP.out.len;have:=HFE.out;have:=HS.out.2;omega) (Nat.le_trans KB.out.size HQL.out.size) _ rfl ?_;intro k8 c8 w8 O8 hg8 hat8 hlt8)
              have HC8:Hid (Cp (ls++[xs]) w1.heap.size (ls++[xs]).length (.slice (some ⟨k8,0,none⟩) (ls.length+1) c8) (us++[Value.slice o2 xs.length c2]) w8):=HCP.out.app hg8 O8 HNL.out
              have HB8:Hid (Below w1.heap.size w1 w8):=zak (zaa KB.out HQL.out) (zaa KB.out HQL.out).size hg8 (fun k e=>(zac HCP.out.row k e).1)
              clear O8 hg8 hat8 hlt8
              go_roundg (F.length - (e+1))
              case measure=>have:=HG.out;have:=HFE.out;omega
              case rel=>exact⟨e+1,a2,ls++[xs],_,c8,by rw[List.length_append];rfl,rfl,zbk (by have:=HFE.out.2;have:=HS.out.2;omega),rfl,HFE.out.2,HB8,⟨⟨_,(by have h:=HC8.out;rw[List.length_append] at h ⊢;exact h),(fun u hu q hq=>by
                    rcases List.mem_append.1 hu with h|h
                    · exact HFR.out u h q hq
                    · simp at h;subst h;exact Nat.le_trans KB.out.size (zac HNL.out q hq).1)⟩,(fun l' hl'=>by
                rcases List.mem_append.1 hl' with h|h
                · exact KP.out.ne l' h
                · simp at h;subst h;exact⟨HNE.out,LX.out.2.1⟩),by rw[List.length_append];have:=KP.out.len;show _+1<=_;omega,by have:=LX.out;have:=KP.out.at_;omega,by rw[zds HFE.out.1];exact Pol.take HIN.out HEX.out LY.out.2.2 _ _ KP.out.pol⟩⟩
      · have hin':f.inp=false:=by simpa using hin
        have HIN:=hid hin'
        rw[hin'] at e3
        go_wp2_with fail
        go_roundg (F.length - (e+1))
        case measure=>have:=HG.out;have:=HFE.out;omega
        case rel=>exact⟨e+1,at_,ls,ov,cv,rfl,rfl,zbk (by have:=HFE.out.2;have:=HS.out.2;omega),rfl,HFE.out.2,KB,⟨KP.out.cp,KP.out.ne,by have:=KP.out.len;omega,by have:=KP.out.at_;omega,by rw[zds HFE.out.1];exact Pol.skip HIN.out _ _ KP.out.pol⟩⟩
    · have hle:(F.length:Int)<=(e:Int):=by omega
      go_wp2_with fail
      go_ret
      obtain⟨us,hcp,hfr⟩:=KP.out.cp
      refine⟨zaa HB1.out KB.out,_,ls,us,rfl,⟨⟨_,hcp.row⟩,fun k l hk=>hcp.lst k l (by rw[List.take_length];exact hk),?_,fun l hl=>?_⟩,(fun q hq=>Nat.le_trans HB1.out.size (zac hcp.row q hq).1),(fun u hu q hq=>Nat.le_trans HB1.out.size (hfr u hu q hq)),KP.out.ne,?_⟩
      · have:=KP.out.len;have:=HG.out.2;have:=HS.out.2;omega
      · have:=(KP.out.ne l hl).2;omega
      · have h:=KP.out.pol
        have e1:e=F.length:=by have:=HG.out.2;omega
        rw[e1,List.take_length] at h
        first|exact h|(rw[<-HFQ.out];exact h)
end
section
open Go.RowKit
variable {fv tv wv:Value}
section
variable {P:Program} (w:World)
theorem run_append_zero (t ty e:TypeId) (i:TypeInfo) (ht:P.underlying t=some (.slice e)) (hi:P.info? e=some i) (o o':Option Addr) (n c c':Nat) (h:n<=c):(Builtin.append_ #[t,t] ty #[.slice o n c,.slice o' 0 c']).run P w=.ok (.slice o n c) w:=by
 cases o <;> cases o' <;> simp[Builtin.append_,run_underlying ht,sizeOf,typeInfo,hi,Builtin.lenOf,h,storeCells,Builtin.firstCells,loadCells,loadCellsFrom]
theorem zdr {ops:Array Oper} {rest:List Oper} {o:Oper} {a:Act} {Q:Exit->Act->World->Prop} (hgd:o.guard=none) (s x:Operand) (t:TypeId)
  (ho:o.op=.call { callee:=.builtin .append,args:=#[s,x],argTypes:=#[t,t] }) (e:TypeId) (i:TypeInfo) (ht:P.underlying t=some (.slice e)) (hi:P.info? e=some i) (q:Option Addr) (n c:Nat) (hnc:n<=c) (hs:a.eval s=.slice q n c) (q':Option Addr) (c':Nat) (hx:a.eval x=.slice q' 0 c')
  (h:wpList P ops Q rest (a.put o.dst (.slice q n c)) w):wpList P ops Q (o::rest) a w:=
 wpList_plain hgd fun _ hK=>by
  have hr:=run_append_zero (P:=P) w t o.type e i ht hi q q' n c c' hnc
  unfold Oper.wp execOp
  simp only[ho,resolve,invoke,builtin,Sem.run_bind,Sem.run_pure,Result.andThen_ok,List.map_toArray,List.map_cons,List.map_nil,hs,hx,hr]
  exact hK _ _ h
end
section
variable {D:Nat->Obj->Prop} {wE:World} {mb lb jb K T:Nat} {fv tv wv:Value} {c:Int} {ov:Bool} {L:Nat->List Int} {J:Nat->List Nat} {fn jn:Nat->Value} {w:World}
theorem log_zero (h:Mc D wE mb lb jb K T fv tv wv c ov L J fn jn w) {j:Nat} (hj:j < K) (hne:L j=[]) :
  Calls Tryz.prog 24 #[.pointer (some ⟨mb,0,none⟩),.int .i64 (j:Nat)] w fun E w'=>Below w.heap.size w w'/\∃v,E=.returned v/\Nl w' w.heap.size v (L j):=by
 obtain⟨n0,hn0,nz0,nz1,nz2⟩:=info_parts Tryz.infoI64
 obtain⟨_,_,_,_,_,c5,_⟩:=h.cells
 obtain⟨_,hnl⟩:=h.log j hj
 rw[hne] at hnl ⊢
 obtain⟨o,cl,hfn⟩:=zae hnl
 have cj:w.cell? ⟨lb,j,none⟩=some (.slice o 0 cl):=by rw[h.row.cell hj,hfn];rfl
 have h0:(0:Int)<=(j:Int):=by omega
 have h1:(j:Int) < (K:Int):=by omega
 have HH:Hid (∀w,Calls Tryz.prog 43 #[.slice (some ⟨lb,0,none⟩) K K,.int .i64 (j:Nat)] w fun E w'=>E=.returned (.bool true)/\w=w'):=fun w=>hasL_any _ _ _ _ w (decide_eq_true ⟨h0,h1⟩).symm
 have AB:Hid (Below w.heap.size w (w.alloc (.cells #[] 2))):=brf.alloc nlr _
 have d5:(w.alloc (.cells #[] 2)).cell? ⟨mb,5,none⟩=some (.slice (some ⟨lb,0,none⟩) K K):=(AB.out.cell (zab c5)).trans c5
 have dj:(w.alloc (.cells #[] 2)).cell? ⟨lb,j,none⟩=some (.slice o 0 cl):=(AB.out.cell (zab cj)).trans cj
 have KO:Hid ((w.alloc (.cells #[] 2)).ownsRow w.heap.size 2 1 (.slice (some ⟨w.heap.size,0,none⟩) 0 0) 0 []):=World.ownsRow_lit w #[] 0 nlr (by unfold maxLen;omega) rfl
 clear h hnl hfn hj hne
 go_enter Tryz.func24,Tryz.ntmps24
 go_wp2_with (first
  | (go_at_call 43;refine (HH.out _).mono ?_;rintro E w1 ⟨rfl,rfl⟩)
  | (at_builtin;refine zdr _ rfl _ _ 35 rfl 2 n0 Tryz.underlying35 hn0 (some ⟨w.heap.size,0,none⟩) 0 0 nlr rfl o cl rfl ?_))
 go_ret
 exact⟨AB.out,_,rfl,KO.out⟩
theorem log_all (h:Mc D wE mb lb jb K T fv tv wv c ov L J fn jn w) {j:Nat} (hj:j < K) :
  Calls Tryz.prog 24 #[.pointer (some ⟨mb,0,none⟩),.int .i64 (j:Nat)] w fun E w'=>Below w.heap.size w w'/\∃v,E=.returned v/\Nl w' w.heap.size v (L j):=by
 by_cases e:L j=[]
 ·exact log_zero h hj e
 ·exact log_any h hj e
end
theorem Ins.kept {w w':World} {v:Value} {ls:List (List Int)} {us:List Value} (h:Ins w v ls us) (hv:∀q,v.ownBlock=some q->w'.heap[q]?=w.heap[q]?) (hu:∀u∈us,∀q,u.ownBlock=some q->w'.heap[q]?=w.heap[q]?):Ins w' v ls us:=by
 obtain⟨B,hB⟩:=h.row
 refine⟨⟨B,own_kept hB hv⟩,fun i l hl=>?_,h.len⟩
 obtain⟨u,B',h1,h2⟩:=h.lst i l hl
 exact⟨u,B',h1,own_kept h2 (hu u (List.mem_of_getElem? h1))⟩
def My (ρ:Mbi) (N:Nat) (l:List Mip.It) (U:List (Nat×Value)) (D:Nat->Obj->Prop) (wE:World) (mb lb jb:Nat) (fv tv wv:Value) (c:Nat) (w:World):Prop:=
 ∃s ov fn jn,Mc D wE mb lb jb (prd N l).length U.length fv tv wv (c:Nat) ov s.1 s.2 fn jn w/\Px (dcl N l).2.m ρ (prd N l) (dcl N l).2.Q U.length (oU N l U) c s
section
variable {ρ:Mbi} {B0 N P:Nat} {l:List Mip.It} {wE w:World} {of ot:Option Addr} {cf ct g:Nat} {U:List (Nat×Value)} {r:Nat->Nat} {D:Nat->Obj->Prop} {mb lb jb c:Nat} {al:Nat->Addr}
theorem My.be (h:My ρ N l U D wE mb lb jb fv tv wv c w):Below wE.heap.size wE w:=by
 obtain⟨s,ov,fn,jn,h,_⟩:=h
 exact h.be
theorem My.below (h:My ρ N l U D wE mb lb jb fv tv wv c w) {w':World} (k:Below w.heap.size w w'):My ρ N l U D wE mb lb jb fv tv wv c w':=by
 obtain⟨s,ov,fn,jn,h,h2⟩:=h
 exact⟨s,ov,fn,jn,h.below k,h2⟩
theorem My.kp (h:My ρ N l U D wE mb lb jb fv tv wv c w) {b:Nat} {o:Obj} (hb:D b o):w.heap[b]?=some o:=by
 obtain⟨s,ov,fn,jn,h,h2⟩:=h
 exact (h.kp b o hb).1
theorem ptick_free (hA:Alp al wE) (M:Mw ρ B0 N l wE P of ot cf ct g U r) (h:My ρ N l U D wE mb lb jb (.slice of (prd N l).length cf) (.slice ot U.length ct) (.slice (some ⟨g,0,none⟩) (prd N l).length (prd N l).length) c w) (hc:c<=1000) {BX:Nat} {vx:Value} {xs:List Int} (hx:Nl w BX vx xs) (hx6:xs.length<=60) (hx0:xs=[]->vx=.slice none 0 0) :
  Calls Tryz.prog 21 #[.pointer (some ⟨mb,0,none⟩),vx] w fun E w'=>∃k a:Int,E=.returned (.agg #[.int .i64 k,.int .i64 a])/\((k=0/\My ρ N l U D wE mb lb jb (.slice of (prd N l).length cf) (.slice ot U.length ct) (.slice (some ⟨g,0,none⟩) (prd N l).length (prd N l).length) (c+1) w')\/(k≠0/\My ρ N l U D wE mb lb jb (.slice of (prd N l).length cf) (.slice ot U.length ct) (.slice (some ⟨g,0,none⟩) (prd N l).length (prd N l).length) c w')):=by
 obtain⟨s,ov,fn,jn,hM,hX⟩:=h
 have hl:∀j,(s.1 j).length<=1900:=fun j=>Nat.le_trans (hX.len M.tp j) (by omega)
 refine (zcv hA.e M.pt hM (by omega) hl hx hx6 hx0).mono ?_
 rintro E w' ⟨k,a,rfl,fn',jn',⟨_,rfl,h5⟩|⟨_,_,rfl,h5⟩|⟨_,_,_,rfl,h5⟩|⟨_,h2,h3,rfl,h5⟩⟩
 ·exact⟨_,a,rfl,Or.inr ⟨by simp[lastOf],s,ov,fn',jn',h5,hX⟩⟩
 ·exact⟨_,a,rfl,Or.inr ⟨by rw[e12 hA];decide,s,ov,fn',jn',h5,hX⟩⟩
 ·exact⟨_,a,rfl,Or.inr ⟨by simp[lastOf],s,true,fn',jn',h5,hX⟩⟩
 ·exact⟨_,a,rfl,Or.inl ⟨rfl,_,false,fn',jn',h5,hX.tick M.tp hc h2 h3⟩⟩
theorem pick_free (M:Mw ρ B0 N l wE P of ot cf ct g U r) (h:My ρ N l U D wE mb lb jb (.slice of (prd N l).length cf) (.slice ot U.length ct) (.slice (some ⟨g,0,none⟩) (prd N l).length (prd N l).length) c w) (hc:c<=1000) (y:Int) :
  Calls Tryz.prog 26 #[.pointer (some ⟨mb,0,none⟩),.int .i64 y] w fun E w'=>(∃k:Int,E=.returned (.int .i64 k))/\My ρ N l U D wE mb lb jb (.slice of (prd N l).length cf) (.slice ot U.length ct) (.slice (some ⟨g,0,none⟩) (prd N l).length (prd N l).length) c w':=by
 obtain⟨s,ov,fn,jn,hM,hX⟩:=h
 by_cases hy:0<=y/\y < (U.length:Nat)
 ·obtain⟨t,rfl⟩:∃t:Nat,y=t:=⟨y.toNat,by omega⟩
  have ht:t < U.length:=by omega
  refine (pick_any M.pm ht (hX.jok M.tp (by omega) ht) hM).mono ?_
  rintro E w' ⟨hE,fn',jn',h5⟩
  exact⟨hE,_,ov,fn',jn',h5,hX.pk M.tp (by omega) ht⟩
 ·refine (pick_none hM hy).mono ?_
  rintro E w' ⟨rfl,rfl⟩
  exact⟨⟨_,rfl⟩,s,ov,fn,jn,hM,hX⟩
end
end
end Go.Proofs.YtjehljjlcifndaaGreatDoor
