import Derived.Test.YtjehljjlcifndaaGreatDoorX45
namespace Go.Proofs.YtjehljjlcifndaaGreatDoor
set_option maxHeartbeats 32000000
set_option maxRecDepth 100000
section
open Go.RowKit
def dvs:List Flo->List (List Int)->Nat->List Int
 | [],_,_=>[]
 | f::r,ls,tick=>if f.inp then (match ls with
   | []=>[]
   | l::t=>(if tick % f.per=0 then (l[tick / f.per]?).toList else [])++dvs r t tick)
  else dvs r ls tick
theorem own_lessK {w:World} {B N:Nat} {e:TypeId} {size:Nat} {v:Value} {n:Nat} {xs:List Value} (h:w.ownsRow N e size v n xs) (hB:B<=N):w.ownsRow B e size v n xs:=
 ⟨h.1,h.2.imp id (fun ⟨g,cap,cur,e,hb,rest⟩=>⟨g,cap,cur,e,Nat.le_trans hB hb,rest⟩)⟩
def nin (F:List Flo):Nat:=(F.filter Flo.inp).length
theorem dvs_skip {F:List Flo} {ls:List (List Int)} {tick e a:Nat} {f:Flo} (hf:F[e]?=some f) (hi:f.inp=false):dvs (F.drop e) (ls.drop a) tick=dvs (F.drop (e+1)) (ls.drop a) tick:=by
 have hlt:=(lgs hf).1
 have ed:F.drop e=f::F.drop (e+1):=by rw[List.drop_eq_getElem_cons hlt];rw[(lgs hf).2]
 rw[ed]
 conv=>lhs;unfold dvs
 rw[if_neg (by rw[hi];decide)]
theorem dvs_take {F:List Flo} {ls:List (List Int)} {tick e a:Nat} {f:Flo} {l:List Int} (hf:F[e]?=some f) (hi:f.inp=true) (hl:ls[a]?=some l):dvs (F.drop e) (ls.drop a) tick=(if tick % f.per=0 then (l[tick / f.per]?).toList else [])++dvs (F.drop (e+1)) (ls.drop (a+1)) tick:=by
 have hlt:=(lgs hf).1
 have hla:=(lgs hl).1
 have ed:F.drop e=f::F.drop (e+1):=by rw[List.drop_eq_getElem_cons hlt];rw[(lgs hf).2]
 have el:ls.drop a=l::ls.drop (a+1):=by rw[List.drop_eq_getElem_cons hla];rw[(lgs hl).2]
 rw[ed,el]
 conv=>lhs;unfold dvs
 rw[if_pos hi]
theorem nin_drop {F:List Flo} {e:Nat} {f:Flo} (hf:F[e]?=some f):nin (F.drop e)=(if f.inp then 1 else 0)+nin (F.drop (e+1)):=by
 have hlt:=(lgs hf).1
 have ed:F.drop e=f::F.drop (e+1):=by rw[List.drop_eq_getElem_cons hlt];rw[(lgs hf).2]
 rw[ed]
 unfold nin
 cases hi:f.inp <;> simp[hi,Nat.add_comm]
theorem due_any {ρ:Mil.Bytes->Int->Int->Int} {B0 N P tick:Nat} {l:List Mip.It} {w:World} {vi:Value} {ls:List (List Int)} {us:List Value} (hP:Prg ρ B0 N l w P) (hI:Ins w vi ls us) (hn:nin (prd N l)=ls.length) (hper:∀f∈prd N l,1<=f.per) (ht:tick<=1000) :
  Calls Tryz.prog 22 #[.pointer (some ⟨P,0,none⟩),vi,.int .i64 (tick:Nat)] w fun E w'=>Below w.heap.size w w'/\∃v,E=.returned v/\Nl w' w.heap.size v (dvs (prd N l) ls tick)/\(dvs (prd N l) ls tick=[]->v=.slice none 0 0):=by
 obtain⟨n0,hn0,nz0,nz1,nz2⟩:=info_parts Tryz.infoI64
 obtain⟨BI,hBI⟩:=hI.row
 obtain⟨oi,ci,rfl⟩:=own_shape hBI
 have HII:Hid (Ins w (.slice oi ls.length ci) ls us):=hI
 have HBI:Hid (w.ownsRow BI 35 1 (.slice oi ls.length ci) ls.length us):=hBI
 have HP:Hid (Prg ρ B0 N l w P):=hP
 have HT:Hid (tick<=1000/\ls.length<=1000):=⟨ht,hI.len.1⟩
 have H60:Hid ((prd N l).length<=60):=by show _<=_;rw[prd_len];exact hP.len.1
 have HPR:Hid (nin (prd N l)=ls.length/\∀f∈prd N l,1<=f.per):=⟨hn,hper⟩
 clear hP hI hBI hn hper ht
 go_enter Tryz.func22,Tryz.ntmps22
 go_wp2_with fail
 refine (flows_any HP.out).mono ?_
 rintro E w1 ⟨hb1,v1,rfl,hF⟩
 obtain⟨of,cf,e1⟩:=own_shape hF
 subst e1
 have HB1:Hid (Below w.heap.size w w1):=hb1
 have HF:Hid (w1.ownsRow w.heap.size 52 5 (.slice of (prd N l).length cf) (prd N l).length (fls (prd N l))):=hF
 clear hb1 hF HP
 obtain⟨F,hFe⟩:∃F,F=prd N l:=⟨_,rfl⟩
 rw[<-hFe] at HF H60 HPR ⊢
 have HFQ:Hid (F=prd N l):=hFe
 clear hFe
 go_wp2_with fail
 go_loopg [7,9,10] F.length (fun gk s7 s9 s10 wr=>∃(e a:Nat) (xs:List Int) (o:Option Addr) (cp:Nat),s10=.int .i64 (e:Nat)/\s9=.int .i64 (a:Nat)/\s7=.slice o xs.length cp/\gk=F.length - e/\e<=F.length/\Hid (Below w1.heap.size w1 wr)/\Hid (Nl wr w1.heap.size (.slice o xs.length cp) xs/\(xs=[]->(.slice o xs.length cp:Value)=.slice none 0 0))/\Hid (dvs F ls tick=xs++dvs (F.drop e) (ls.drop a) tick/\a+nin (F.drop e)=ls.length/\xs.length<=e))
 case atStart=>exact⟨0,0,[],none,0,rfl,rfl,rfl,rfl,Nat.zero_le _,Below.refl _ _,⟨World.ownsRow_nil _ _ _ _,fun _=>rfl⟩,⟨rfl,by simpa using HPR.out.1,Nat.le_refl _⟩⟩
 case round=>
  obtain⟨e,a,xs,ov,cv,rfl,rfl,rfl,hg,hle,KB,KN,KX⟩:=hrel
  have HG:Hid (gk=F.length - e/\e<=F.length):=⟨hg,hle⟩
  clear hg hle
  by_cases hlt:e < F.length
  ·obtain⟨f,hf⟩:∃f,F[e]?=some f:=⟨_,List.getElem?_eq_getElem hlt⟩
   have HFE:Hid (F[e]?=some f/\e < F.length/\1<=f.per):=⟨hf,hlt,HPR.out.2 f (List.mem_of_getElem? hf)⟩
   obtain⟨g,hof⟩:∃g,of=some ⟨g,0,none⟩:=by
    rcases HF.out.2 with ⟨_,e⟩|⟨g,cap,cur,e,_⟩
    ·omega
    ·injection e with e1;exact⟨g,e1⟩
   subst hof
   have kp:∀{q:Addr} {v:Value},w1.cell? q=some v->wr.cell? q=some v:=fun hq=>(KB.out.cell (lt_of_cell hq)).trans hq
   have e2:wr.cell? ⟨g,e*5+2,none⟩=some (.int .i64 (f.per:Nat)):=kp (flo_cell HF.out hf 2 (by decide) rfl)
   have e3:wr.cell? ⟨g,e*5+3,none⟩=some (.bool f.inp):=kp (flo_cell HF.out hf 3 (by decide) rfl)
   have h0:(0:Int)<=(e:Int):=by omega
   have h1:(e:Int) < (F.length:Int):=by omega
   have q60:(F.length:Int)<=60:=by have:=H60.out;omega
   clear kp hf
   cases hin:f.inp with
   | false=>
    rw[hin] at e3
    have KX2:Hid (dvs F ls tick=xs++dvs (F.drop (e+1)) (ls.drop a) tick/\a+nin (F.drop (e+1))=ls.length/\xs.length<=e+1):=by
     refine⟨by rw[KX.out.1,dvs_skip HFE.out.1 hin],?_,by have:=KX.out.2.2;omega⟩
     have h2:=nin_drop HFE.out.1
     rw[hin] at h2
     have h3:=KX.out.2.1
     simp at h2
     omega
    clear hin
    go_wp2_with fail
    go_roundg (F.length - (e+1))
    case measure=>have:=HG.out;have:=HFE.out;omega
    case rel=>exact⟨e+1,a,xs,ov,cv,by go_num,rfl,rfl,rfl,HFE.out.2.1,KB,KN,KX2⟩
   | true=>
    rw[hin] at e3
    have hal:a < ls.length:=by
     have h2:=nin_drop HFE.out.1
     rw[hin] at h2
     have h3:=KX.out.2.1
     simp at h2
     omega
    obtain⟨x,hx⟩:∃x,ls[a]?=some x:=⟨_,List.getElem?_eq_getElem hal⟩
    obtain⟨u,BU,hus,hnl⟩:=HII.out.lst a x hx
    obtain⟨gi,hoi⟩:∃gi,oi=some ⟨gi,0,none⟩:=by
     rcases HBI.out.2 with ⟨_,e⟩|⟨gi,cap,cur,e,_⟩
     ·omega
     ·injection e with e1;exact⟨gi,e1⟩
    subst hoi
    obtain⟨ou,cu,rfl⟩:=own_shape hnl
    have cu1:wr.cell? ⟨gi,a,none⟩=some (.slice ou x.length cu):=by
     have cu0:=own_cell HBI.out hus
     exact ((below_step HB1.out KB.out).cell (lt_of_cell cu0)).trans cu0
    have HNX:Hid (dvs F ls tick=xs++((if tick % f.per=0 then (x[tick / f.per]?).toList else [])++dvs (F.drop (e+1)) (ls.drop (a+1)) tick)/\(a+1)+nin (F.drop (e+1))=ls.length/\xs.length<=e):=by
     refine⟨by rw[KX.out.1,dvs_take HFE.out.1 hin hx],?_,KX.out.2.2⟩
     have h2:=nin_drop HFE.out.1
     rw[hin] at h2
     have h3:=KX.out.2.1
     simp at h2
     omega
    have HXA:Hid (∀(k:Nat) y,x[k]?=some y->∃gu,ou=some ⟨gu,0,none⟩/\wr.cell? ⟨gu,k,none⟩=some (.int .i64 y)/\gu < w1.heap.size):=fun k y hy=>by
     obtain⟨gu,hou⟩:∃g,ou=some ⟨g,0,none⟩:=by
      rcases hnl.2 with ⟨_,e⟩|⟨g,cap,cur,e,_⟩
      ·have:=(lgs hy).1;omega
      ·injection e with e1;exact⟨g,e1⟩
     subst hou
     have c0:=nl_cell hnl hy
     exact⟨gu,rfl,((below_step HB1.out KB.out).cell (lt_of_cell c0)).trans c0,Nat.lt_of_lt_of_le (lt_of_cell c0) HB1.out.size⟩
    have HLG:Hid (gi < w1.heap.size/\g < w1.heap.size):=⟨Nat.lt_of_lt_of_le (lt_of_cell (own_cell HBI.out hus)) HB1.out.size,lt_of_cell (flo_cell HF.out HFE.out.1 2 (by decide) rfl)⟩
    have a0:(0:Int)<=(a:Int):=by omega
    have a1:(a:Int) < (ls.length:Int):=by omega
    have nz:¬((f.per:Nat):Int)=0:=by have:=HFE.out.2.2;omega
    have p2:decide (0 < f.per)=true:=decide_eq_true HFE.out.2.2
    have nzN:¬f.per=0:=by have:=HFE.out.2.2;omega
    have tm:(tick:Int).tmod (f.per:Int)=(tick:Int) % (f.per:Int):=Int.tmod_eq_emod_of_nonneg (by omega)
    have td:(tick:Int).tdiv (f.per:Int)=(tick:Int) / (f.per:Int):=Int.tdiv_eq_ediv_of_nonneg (by omega)
    have als:(ls.length:Int)<=1000:=by have:=HT.out.2;omega
    clear hin hx hus hnl hal KX
    by_cases z:tick % f.per=0
    ·have z1:(tick:Int) % (f.per:Int)=0:=by omega
     by_cases y:tick / f.per < x.length
     ·obtain⟨y9,hy9⟩:∃v,x[tick / f.per]?=some v:=⟨_,List.getElem?_eq_getElem y⟩
      obtain⟨k,hk⟩:∃k,k=tick / f.per:=⟨_,rfl⟩
      have e9:(tick:Int) / (f.per:Int)=(k:Int):=by rw[hk];simp
      obtain⟨gu,hou,cx9,hgu⟩:=HXA.out _ _ hy9
      subst hou
      have HLU:Hid (gu < w1.heap.size):=hgu
      have HZ:Hid (dvs F ls tick=(xs++[y9])++dvs (F.drop (e+1)) (ls.drop (a+1)) tick/\(a+1)+nin (F.drop (e+1))=ls.length/\(xs++[y9]).length<=e+1):=⟨by rw[HNX.out.1,if_pos z,hy9];simp,HNX.out.2.1,by have:=HNX.out.2.2;simp;omega⟩
      rw[<-hk] at y cx9
      have y1:(tick:Int) / (f.per:Int) < (x.length:Int):=by rw[e9];omega
      have y2:(0:Int)<=(k:Int):=by omega
      have y4:(k:Int) < (x.length:Int):=by omega
      have yw:IntKind.i64.wrap (k:Int)=(k:Int):=by
       rw[IntKind.wrap_i64]
       have hk2:k<=1000:=by rw[hk];exact Nat.le_trans (Nat.div_le_self _ _) HT.out.1
       omega
      have HLX:Hid (xs.length<=60):=by show _<=_;have:=HNX.out.2.2;have:=HFE.out.2.1;have:=H60.out;omega
      clear z y hy9 hgu y1 hk
      go_upto_region 8 with fail
      go_quiet (fail)
      go_upto_region 9 with fail
      have KBQ:Hid (Below w1.heap.size w1 (wr.drewN nq)):=below_drewN KB.out _
      have KNQ:Hid (Nl (wr.drewN nq) w1.heap.size (.slice ov xs.length cv) xs):=own_kept KN.out.1 (fun _ _=>rfl)
      have v1:(wr.drewN nq).cell? ⟨gi,a,none⟩=some (.slice (some ⟨gu,0,none⟩) x.length cu):=cu1
      have v2:(wr.drewN nq).cell? ⟨g,e*5+2,none⟩=some (.int .i64 (f.per:Nat)):=e2
      have v3:(wr.drewN nq).cell? ⟨gu,k,none⟩=some (.int .i64 y9):=cx9
      generalize wr.drewN nq=V at KBQ KNQ v1 v2 v3 ⊢
      clear cu1 e2 e3 cx9
      have XB:Hid (Below V.heap.size V (V.alloc (.cells #[.int .i64 y9] 2)).drew):=(brf.alloc nlr _).drew
      have OW:Hid ((V.alloc (.cells #[.int .i64 y9] 2)).drew.ownsRow w1.heap.size 2 1 (.slice ov xs.length cv) xs.length (i64s xs)):=own_kept KNQ.out (fun g hg=>XB.out.block g (lt_of_heap (own_lt KNQ.out g hg).2.choose_spec))
      have NW:Hid (∀(k:Nat) (y:Value),[Value.int .i64 y9][k]?=some y->(V.alloc (.cells #[.int .i64 y9] 2)).drew.cell? ((⟨V.heap.size,0,none⟩:Addr).add k)=some y):=fun k y hk=>news_cells V [Value.int .i64 y9] 2 k y hk
      refine region_L (fun w'=>w'.cell? ⟨gi,a,none⟩=some (.slice (some ⟨gu,0,none⟩) x.length cu)/\w'.cell? ⟨g,e*5+2,none⟩=some (.int .i64 (f.per:Nat))/\w'.cell? ⟨gu,k,none⟩=some (.int .i64 y9)) 16 (by kernel_rfl) ⟨v1,v2,v3⟩ (fun hS=>?_)
      refine Lu 0 (v:=?_) rfl (by kernel_rfl) (fun _ _ _ h=>h) (Or.inl ⟨by rfl,?_⟩) (by assumption) ?_
      rotate_left 1
      ·(intro w' hSw;(try dsimp only at hSw);go_simp <;> with_reducible rfl)
      try simp only[Act.put,sa,sz,sn]
      refine Lu 1 (v:=?_) rfl (by kernel_rfl) (fun _ _ _ h=>h) (Or.inl ⟨by rfl,?_⟩) (by assumption) ?_
      rotate_left 1
      ·(intro w' hSw;(try dsimp only at hSw);go_simp <;> with_reducible rfl)
      try simp only[Act.put,sa,sz,sn]
      refine Lu 2 (v:=?_) rfl (by kernel_rfl) (fun _ _ _ h=>h) (Or.inl ⟨by rfl,?_⟩) (by assumption) ?_
      rotate_left 1
      ·(intro w' hSw;(try dsimp only at hSw);go_simp <;> with_reducible rfl)
      try simp only[Act.put,sa,sz,sn]
      refine Lu 3 (v:=?_) rfl (by kernel_rfl) (fun _ _ _ h=>h) (Or.inl ⟨by rfl,?_⟩) (by assumption) ?_
      rotate_left 1
      ·(intro w' hSw;(try dsimp only at hSw);go_simp <;> with_reducible rfl)
      try simp only[Act.put,sa,sz,sn]
      refine Lu 4 (v:=?_) rfl (by kernel_rfl) (fun _ _ _ h=>h) (Or.inl ⟨by rfl,?_⟩) (by assumption) ?_
      rotate_left 1
      ·(intro w' hSw;(try dsimp only at hSw);go_simp <;> with_reducible rfl)
      try simp only[Act.put,sa,sz,sn]
      refine Lu 5 (v:=?_) rfl (by kernel_rfl) (fun _ _ _ h=>h) (Or.inl ⟨by rfl,?_⟩) (by assumption) ?_
      rotate_left 1
      ·(intro w' hSw;(try dsimp only at hSw);go_simp <;> with_reducible rfl)
      try simp only[Act.put,sa,sz,sn]
      refine Lu 6 (v:=?_) rfl (by kernel_rfl) (fun _ _ _ h=>h) (Or.inl ⟨by rfl,?_⟩) (by assumption) ?_
      rotate_left 1
      ·(intro w' hSw;(try dsimp only at hSw);go_simp <;> with_reducible rfl)
      try simp only[Act.put,sa,sz,sn]
      refine Lu 7 (v:=?_) rfl (by kernel_rfl) (fun _ _ _ h=>h) (Or.inl ⟨by rfl,?_⟩) (by assumption) ?_
      rotate_left 1
      ·(intro w' hSw;(try dsimp only at hSw);go_simp <;> with_reducible rfl)
      try simp only[Act.put,sa,sz,sn]
      refine Lu 8 (v:=?_) rfl (by kernel_rfl) (fun _ _ _ h=>h) (Or.inl ⟨by rfl,?_⟩) (by assumption) ?_
      rotate_left 1
      ·(intro w' hSw;(try dsimp only at hSw);go_simp <;> with_reducible rfl)
      try simp only[Act.put,sa,sz,sn]
      refine Lu 9 (v:=?_) rfl (by kernel_rfl) (fun _ _ _ h=>h) (Or.inl ⟨by rfl,?_⟩) (by assumption) ?_
      rotate_left 1
      ·(intro w' hSw;(try dsimp only at hSw);go_simp <;> with_reducible rfl)
      try simp only[Act.put,sa,sz,sn]
      refine Lu 10 (v:=?_) rfl (by kernel_rfl) (fun _ _ _ h=>h) (Or.inl ⟨by rfl,?_⟩) (by assumption) ?_
      rotate_left 1
      ·(intro w' hSw;(try dsimp only at hSw);go_simp <;> with_reducible rfl)
      try simp only[Act.put,sa,sz,sn]
      refine Lu 11 (v:=?_) rfl (by kernel_rfl) (fun _ _ _ h=>h) (Or.inl ⟨by rfl,?_⟩) (by assumption) ?_
      rotate_left 1
      ·(intro w' hSw;(try dsimp only at hSw);go_simp <;> with_reducible rfl)
      try simp only[Act.put,sa,sz,sn]
      refine Lu 12 (v:=?_) rfl (by kernel_rfl) (fun _ _ _ h=>h) (Or.inl ⟨by rfl,?_⟩) (by assumption) ?_
      rotate_left 1
      ·(intro w' hSw;(try dsimp only at hSw);go_simp <;> with_reducible rfl)
      try simp only[Act.put,sa,sz,sn]
      refine Lu 13 (v:=?_) rfl (by kernel_rfl) (fun _ _ _ h=>h) (Or.inl ⟨by rfl,?_⟩) (by assumption) ?_
      rotate_left 1
      ·(intro w' hSw;(try dsimp only at hSw);go_simp <;> with_reducible rfl)
      try simp only[Act.put,sa,sz,sn]
      refine L_one 14 (by kernel_rfl) rfl (fun K hK=>?_)
      go_simp
      refine hK.out _ _ (Or.inr ?_) (fun h14=>?_)
      ·have kp:∀{p:Addr} {y:Value},V.cell? p=some y->(V.alloc (.cells #[.int .i64 y9] 2)).drew.cell? p=some y:=fun hp=>(XB.out.cell (lt_of_cell hp)).trans hp
       exact⟨kp v1,kp v2,kp v3⟩
      replace h14:=h14.resolve_left (by decide)
      clear hK K hS
      try simp only[Act.put,sa,sz,sn]
      refine L_one 15 (by kernel_rfl) rfl (fun K hK=>?_)
      refine step_append_lies _ rfl _ _ 35 rfl w1.heap.size 2 n0 (.int .i64 0) 1 8 Tryz.underlying35 hn0 nz0 nz1 nz2 rfl (by decide) (.slice ov xs.length cv) xs.length (i64s xs) rfl OW.out ⟨V.heap.size,0,none⟩ 1 1 [Value.int .i64 y9] rfl rfl NW.out (by intro y hy;simp at hy;subst hy;rfl) (by decide) (by unfold maxLen;have:=HLX.out;omega) (by have:=HLX.out;omega) (Nat.le_trans KBQ.out.size XB.out.size) _ rfl ?_
      intro k7 c7 w7 O7 hg7 hat7 hlt7
      have HB7:Hid (Below w1.heap.size w1 w7):=below_grown (below_step KBQ.out XB.out) (below_step KBQ.out XB.out).size hg7 (fun k e=>(own_lt KNQ.out k e).1)
      have HO7:Hid (Nl w7 w1.heap.size (.slice (some ⟨k7,0,none⟩) (xs++[y9]).length c7) (xs++[y9])):=by
       have e1:(xs++[y9]).length=xs.length+1:=by simp
       have e2:i64s (xs++[y9])=i64s xs++[.int .i64 y9]:=by simp[i64s]
       show World.ownsRow _ _ _ _ _ _ _
       rw[e1,e2]
       exact O7
      have nb:∀{p:Addr} {u:Value},p.block < w1.heap.size->V.cell? p=some u->w7.cell? p=some u:=fun hl hp=>hg7.cell ((XB.out.cell (lt_of_cell hp)).trans hp) (fun e=>by have:=(own_lt KNQ.out _ e.symm).1;omega)
      have u1:=nb HLG.out.1 v1
      have u2:=nb HLG.out.2 v2
      have u3:=nb HLU.out v3
      clear O7 hg7 hat7 hlt7 h14 v1 v2 v3 nb
      refine hK.out _ _ (Or.inr ⟨u1,u2,u3⟩) (fun h15=>?_)
      replace h15:=h15.resolve_left (by decide)
      clear hK K
      try simp only[Act.put,sa,sz,sn]
      refine L_one 16 (by kernel_rfl) rfl (fun K hK=>?_)
      go_simp
      refine hK.out _ _ (Or.inl rfl) (fun _=>?_)
      clear hK K h15 u1 u2 u3
      try simp only[Act.put,sa,sz,sn]
      refine L_done (by kernel_rfl) ?_ _
      have HLE:Hid ((xs++[y9]).length=xs.length+1):=by show _=_;simp
      go_wp2_with fail
      go_roundg (F.length - (e+1))
      case measure=>have:=HG.out;have:=HFE.out;omega
      case rel=>exact⟨e+1,a+1,xs++[y9],_,_,by go_num,by go_num,by rw[HLE.out],rfl,HFE.out.2.1,HB7,⟨HO7.out,fun e=>by simp at e⟩,HZ.out⟩
     ·have HZ:Hid (dvs F ls tick=xs++dvs (F.drop (e+1)) (ls.drop (a+1)) tick/\(a+1)+nin (F.drop (e+1))=ls.length/\xs.length<=e+1):=⟨by rw[HNX.out.1,if_pos z,List.getElem?_eq_none (by omega)];rfl,HNX.out.2.1,by have:=HNX.out.2.2;omega⟩
      obtain⟨k,hk⟩:∃k,k=tick / f.per:=⟨_,rfl⟩
      have e9:(tick:Int) / (f.per:Int)=(k:Int):=by rw[hk];simp
      rw[<-hk] at y
      have y4:¬(k:Int) < (x.length:Int):=by omega
      have y6:decide (k < x.length)=false:=decide_eq_false y
      have y7:decide ((k:Int) < (x.length:Int))=false:=decide_eq_false y4
      have yw:IntKind.i64.wrap (k:Int)=(k:Int):=by
       rw[IntKind.wrap_i64]
       have hk2:k<=1000:=by rw[hk];exact Nat.le_trans (Nat.div_le_self _ _) HT.out.1
       omega
      clear z hk
      go_upto_region 8 with fail
      go_quiet (fail)
      go_wp2_with fail
      go_roundg (F.length - (e+1))
      case measure=>have:=HG.out;have:=HFE.out;omega
      case rel=>exact⟨e+1,a+1,xs,ov,cv,by go_num,by go_num,rfl,rfl,HFE.out.2.1,below_drewN KB.out _,⟨own_kept KN.out.1 (fun _ _=>rfl),KN.out.2⟩,HZ.out⟩
    ·have z2:¬(tick:Int) % (f.per:Int)=0:=by omega
     have HZ:Hid (dvs F ls tick=xs++dvs (F.drop (e+1)) (ls.drop (a+1)) tick/\(a+1)+nin (F.drop (e+1))=ls.length/\xs.length<=e+1):=⟨by rw[HNX.out.1,if_neg z,List.nil_append],HNX.out.2.1,by have:=HNX.out.2.2;omega⟩
     clear z
     go_upto_region 8 with fail
     go_quiet (fail)
     go_wp2_with fail
     go_roundg (F.length - (e+1))
     case measure=>have:=HG.out;have:=HFE.out;omega
     case rel=>exact⟨e+1,a+1,xs,ov,cv,by go_num,by go_num,rfl,rfl,HFE.out.2.1,below_drewN KB.out _,⟨own_kept KN.out.1 (fun _ _=>rfl),KN.out.2⟩,HZ.out⟩
  ·have hle:(F.length:Int)<=(e:Int):=by omega
   have HE:Hid (dvs F ls tick=xs):=by
    show _=_
    rw[KX.out.1,List.drop_eq_nil_of_le (by omega)]
    simp[dvs]
   go_wp2
   go_ret
   refine⟨below_step HB1.out KB.out,.slice ov xs.length cv,rfl,?_,?_⟩
   ·rw[<-HFQ.out,HE.out]
    exact own_lessK KN.out.1 HB1.out.size
   ·rw[<-HFQ.out,HE.out]
    exact KN.out.2
end
section
open Go.RowKit
def jsum (T:Nat) (J:Nat->List Nat):Nat:=((List.range T).map fun t=>(J t).length).sum
theorem jsum_succ (T:Nat) (J:Nat->List Nat):jsum (T+1) J=jsum T J+(J T).length:=by
 unfold jsum
 rw[List.range_succ,List.map_append,List.sum_append];simp
theorem jsum_le {J J':Nat->List Nat}:∀(T:Nat),(∀t,t < T->(J' t).length<=(J t).length)->jsum T J'<=jsum T J
 | 0,_=>Nat.le_refl _
 | T+1,h=>by
  rw[jsum_succ,jsum_succ]
  have h1:=jsum_le T (fun t ht=>h t (by omega))
  have h2:=h T (by omega)
  omega
theorem jsum_lt {J J':Nat->List Nat}:∀(T:Nat),(∀t,t < T->(J' t).length<=(J t).length)->(∃t,t < T/\(J' t).length < (J t).length)->jsum T J' < jsum T J
 | 0,_,⟨_,h,_⟩=>absurd h (Nat.not_lt_zero _)
 | T+1,h,⟨t,h1,h2⟩=>by
  rw[jsum_succ,jsum_succ]
  have h3:=h T (by omega)
  by_cases e:t=T
  ·subst e
   have h4:=jsum_le t (fun t' ht=>h t' (by omega))
   omega
  ·have h4:=jsum_lt T (fun t' ht=>h t' (by omega)) ⟨t,by omega,h2⟩
   omega
theorem pk_len {m:Mil.Bytes->Option Int} {ρ:Mil.Bytes->Int->Int->Int} {Q:List Nq} {L:Nat->List Int} {J:Nat->List Nat} (t t':Nat):((pk m ρ Q L J t).2 t').length<=(J t').length:=by
 unfold pk
 split
 ·exact Nat.le_refl _
 ·rename_i j rest hJ
  split
  ·exact Nat.le_refl _
  ·show (jput J t rest t').length<=_
   unfold jput
   by_cases e:t'=t
   ·rw[if_pos e,e,hJ];simp
   ·rw[if_neg e];exact Nat.le_refl _
theorem stp_len {m:Mil.Bytes->Option Int} {ρ:Mil.Bytes->Int->Int->Int} {Q:List Nq} {s:Lj} (t t':Nat):((stp m ρ Q s t).2 t').length<=(s.2 t').length:=by
 unfold stp
 split
 ·exact Nat.le_refl _
 ·exact pk_len t t'
theorem rnd_len {m:Mil.Bytes->Option Int} {ρ:Mil.Bytes->Int->Int->Int} {Q:List Nq} {s:Lj} (t':Nat):∀T,((rnd m ρ Q T s).2 t').length<=(s.2 t').length
 | 0=>Nat.le_refl _
 | T+1=>by
  rw[rnd_succ]
  exact Nat.le_trans (stp_len T t') (rnd_len t' T)
theorem itr_idle {m:Mil.Bytes->Option Int} {ρ:Mil.Bytes->Int->Int->Int} {Q:List Nq} {T:Nat} {s:Lj} {I:Lj->Prop} (hI:I s) (hk:∀s,I s->I (rnd m ρ Q T s)) (hg:∀s,I s->¬idle T s->∃t,t < T/\((rnd m ρ Q T s).2 t).length < (s.2 t).length) {n:Nat} (hn:∀k,k < n->¬idle T (itr m ρ Q T s k)):n<=jsum T s.2/\I (itr m ρ Q T s n)/\jsum T (itr m ρ Q T s n).2+n<=jsum T s.2:=by
 have:I (itr m ρ Q T s n)/\jsum T (itr m ρ Q T s n).2+n<=jsum T s.2:=by
  induction n with
  | zero=>exact⟨hI,Nat.le_refl _⟩
  | succ n ih=>
   obtain⟨h1,h2⟩:=ih (fun k hk=>hn k (by omega))
   refine⟨hk _ h1,?_⟩
   have h3:jsum T (rnd m ρ Q T (itr m ρ Q T s n)).2 < jsum T (itr m ρ Q T s n).2:=jsum_lt T (fun t _=>rnd_len t T) (hg _ h1 (hn n (by omega)))
   show jsum T (rnd m ρ Q T (itr m ρ Q T s n)).2+(n+1)<=_
   omega
 exact⟨by omega,this⟩
end
end Go.Proofs.YtjehljjlcifndaaGreatDoor
