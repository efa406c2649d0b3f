import Derived.Test.YtjehljjlcifndaaGreatDoorV41
import Derived.Test.YtjehljjlcifndaaGreatDoorV37
namespace Go.Proofs.YtjehljjlcifndaaGreatDoor
set_option maxHeartbeats 32000000
set_option maxRecDepth 100000
section
open Go.RowKit
variable {f:Flo} {ls:List (List Int)} {F:List Flo} {N a e tick:Nat} {w:World}
def dvs:List Flo->List (List Int)->Nat->List Int
 | [],_,_=>[]
 | f::r,ls,tick=>if f.inp then (match ls with
   | []=>[]
   | l::t=>(if tick % f.per=0 then (l[tick / f.per]?).toList else [])++dvs r t tick)
  else dvs r ls tick
theorem own_lessK {B:Nat} {e:TypeId} {size:Nat} {v:Value} {n:Nat} {xs:List Value} (h:w.ownsRow N e size v n xs) (hB:B<=N):w.ownsRow B e size v n xs:=
 ⟨h.1,h.2.imp id (fun ⟨g,cap,cur,e,hb,rest⟩=>⟨g,cap,cur,e,Nat.le_trans hB hb,rest⟩)⟩
def nin (F:List Flo):Nat:=(F.filter Flo.inp).length
theorem dvs_skip (hf:F[e]?=some f) (hi:f.inp=false):dvs (F.drop e) (ls.drop a) tick=dvs (F.drop (e+1)) (ls.drop a) tick:=by
 have hlt:=(lgs hf).1
 have ed:F.drop e=f::F.drop (e+1):=by rw[List.drop_eq_getElem_cons hlt];rw[(lgs hf).2]
 rw[ed]
 conv=>lhs;unfold dvs
 rw[if_neg (by rw[hi];decide)]
theorem dvs_take {l:List Int} (hf:F[e]?=some f) (hi:f.inp=true) (hl:ls[a]?=some l):dvs (F.drop e) (ls.drop a) tick=(if tick % f.per=0 then (l[tick / f.per]?).toList else [])++dvs (F.drop (e+1)) (ls.drop (a+1)) tick:=by
 have hlt:=(lgs hf).1
 have hla:=(lgs hl).1
 have ed:F.drop e=f::F.drop (e+1):=by rw[List.drop_eq_getElem_cons hlt];rw[(lgs hf).2]
 have el:ls.drop a=l::ls.drop (a+1):=by rw[List.drop_eq_getElem_cons hla];rw[(lgs hl).2]
 rw[ed,el]
 conv=>lhs;unfold dvs
 rw[if_pos hi]
theorem nin_drop (hf:F[e]?=some f):nin (F.drop e)=(if f.inp then 1 else 0)+nin (F.drop (e+1)):=by
 have hlt:=(lgs hf).1
 have ed:F.drop e=f::F.drop (e+1):=by rw[List.drop_eq_getElem_cons hlt];rw[(lgs hf).2]
 rw[ed]
 unfold nin
 cases hi:f.inp <;> simp[hi,Nat.add_comm]
theorem due_any {ρ:Mbi} {B0 P:Nat} {l:List Mip.It} {vi:Value} {us:List Value} (hP:Prg ρ B0 N l w P) (hI:Ins w vi ls us) (hn:nin (prd N l)=ls.length) (hper:∀f∈prd N l,1<=f.per) (ht:tick<=1000) :
  Calls Tryz.prog 22 #[.pointer (some ⟨P,0,none⟩),vi,.int .i64 (tick:Nat)] w fun E w'=>Below w.heap.size w w'/\∃v,E=.returned v/\Nl w' w.heap.size v (dvs (prd N l) ls tick)/\(dvs (prd N l) ls tick=[]->v=.slice none 0 0):=by
 obtain⟨n0,hn0,nz0,nz1,nz2⟩:=info_parts Tryz.infoI64
 obtain⟨BI,hBI⟩:=hI.row
 obtain⟨oi,ci,rfl⟩:=zae hBI
 have HII:=hid hI
 have HBI:=hid hBI
 have HP:=hid hP
 have HT:Hid (tick<=1000/\ls.length<=1000):=⟨ht,hI.len.1⟩
 have H60:Hid ((prd N l).length<=60):=by show _<=_;rw[zb9];exact hP.len.1
 have HPR:Hid (nin (prd N l)=ls.length/\∀f∈prd N l,1<=f.per):=⟨hn,hper⟩
 clear hP hI hBI hn hper ht
 go_enter Tryz.func22,Tryz.ntmps22
 go_wp2_with fail
 refine (zeb HP.out).mono ?_
 rintro E w1 ⟨hb1,v1,rfl,hF⟩
 obtain⟨of,cf,e1⟩:=zae hF
 subst e1
 have HB1:=hid hb1
 have HF:=hid hF
 clear hb1 hF HP
 obtain⟨F,hFe⟩:∃F,F=prd N l:=⟨_,rfl⟩
 rw[<-hFe] at HF H60 HPR ⊢
 have HFQ:=hid hFe
 clear hFe
 go_wp2_with fail
 go_loopg [7,9,10] F.length (fun gk s7 s9 s10 wr=>∃(e a:Nat) (xs:List Int) (o:Option Addr) (cp:Nat),s10=.int .i64 (e:Nat)/\s9=.int .i64 (a:Nat)/\s7=.slice o xs.length cp/\gk=F.length - e/\e<=F.length/\Hid (Below w1.heap.size w1 wr)/\Hid (Nl wr w1.heap.size (.slice o xs.length cp) xs/\(xs=[]->(.slice o xs.length cp:Value)=.slice none 0 0))/\Hid (dvs F ls tick=xs++dvs (F.drop e) (ls.drop a) tick/\a+nin (F.drop e)=ls.length/\xs.length<=e))
 case atStart=>exact⟨0,0,[],none,0,rfl,rfl,rfl,rfl,Nat.zero_le _,Below.refl _ _,⟨World.ownsRow_nil _ _ _ _,fun _=>rfl⟩,⟨rfl,by simpa using HPR.out.1,Nat.le_refl _⟩⟩
 case round=>
  obtain⟨e,a,xs,ov,cv,rfl,rfl,rfl,hg,hle,KB,KN,KX⟩:=hrel
  have HG:Hid (gk=F.length - e/\e<=F.length):=⟨hg,hle⟩
  clear hg hle
  by_cases hlt:e < F.length
  ·obtain⟨f,hf⟩:∃f,F[e]?=some f:=⟨_,List.getElem?_eq_getElem hlt⟩
   have HFE:Hid (F[e]?=some f/\e < F.length/\1<=f.per):=⟨hf,hlt,HPR.out.2 f (List.mem_of_getElem? hf)⟩
   obtain⟨g,hof⟩:∃g,of=some ⟨g,0,none⟩:=by
    rcases HF.out.2 with ⟨_,e⟩|⟨g,cap,cur,e,_⟩
    ·omega
    ·injection e with e1;exact⟨g,e1⟩
   subst hof
   have kp:∀{q:Addr} {v:Value},w1.cell? q=some v->wr.cell? q=some v:=fun hq=>(KB.out.cell (zab hq)).trans hq
   have e2:wr.cell? ⟨g,e*5+2,none⟩=some (.int .i64 (f.per:Nat)):=kp (zay HF.out hf 2 (by decide) rfl)
   have e3:wr.cell? ⟨g,e*5+3,none⟩=some (.bool f.inp):=kp (zay HF.out hf 3 (by decide) rfl)
   have h0:(0:Int)<=(e:Int):=by omega
   have h1:(e:Int) < (F.length:Int):=by omega
   have q60:(F.length:Int)<=60:=by have:=H60.out;omega
   clear kp hf
   cases hin:f.inp with
   | false=>
    rw[hin] at e3
    have KX2:Hid (dvs F ls tick=xs++dvs (F.drop (e+1)) (ls.drop a) tick/\a+nin (F.drop (e+1))=ls.length/\xs.length<=e+1):=by
     refine⟨by rw[KX.out.1,dvs_skip HFE.out.1 hin],?_,by have:=KX.out.2.2;omega⟩
     have h2:=nin_drop HFE.out.1
     rw[hin] at h2
     have h3:=KX.out.2.1
     simp at h2
     omega
    clear hin
    go_wp2_with fail
    go_roundg (F.length - (e+1))
    case measure=>have:=HG.out;have:=HFE.out;omega
    case rel=>exact⟨e+1,a,xs,ov,cv,by go_num,rfl,rfl,rfl,HFE.out.2.1,KB,KN,KX2⟩
   | true=>
    rw[hin] at e3
    have hal:a < ls.length:=by
     have h2:=nin_drop HFE.out.1
     rw[hin] at h2
     have h3:=KX.out.2.1
     simp at h2
     omega
    obtain⟨x,hx⟩:∃x,ls[a]?=some x:=⟨_,List.getElem?_eq_getElem hal⟩
    obtain⟨u,BU,hus,hnl⟩:=HII.out.lst a x hx
    obtain⟨gi,hoi⟩:∃gi,oi=some ⟨gi,0,none⟩:=by
     rcases HBI.out.2 with ⟨_,e⟩|⟨gi,cap,cur,e,_⟩
     ·omega
     ·injection e with e1;exact⟨gi,e1⟩
    subst hoi
    obtain⟨ou,cu,rfl⟩:=zae hnl
    have cu1:wr.cell? ⟨gi,a,none⟩=some (.slice ou x.length cu):=by
     have cu0:=zan HBI.out hus
     exact ((zaa HB1.out KB.out).cell (zab cu0)).trans cu0
    have HNX:Hid (dvs F ls tick=xs++((if tick % f.per=0 then (x[tick / f.per]?).toList else [])++dvs (F.drop (e+1)) (ls.drop (a+1)) tick)/\(a+1)+nin (F.drop (e+1))=ls.length/\xs.length<=e):=by
     refine⟨by rw[KX.out.1,dvs_take HFE.out.1 hin hx],?_,KX.out.2.2⟩
     have h2:=nin_drop HFE.out.1
     rw[hin] at h2
     have h3:=KX.out.2.1
     simp at h2
     omega
    have HXA:Hid (∀(k:Nat) y,x[k]?=some y->∃gu,ou=some ⟨gu,0,none⟩/\wr.cell? ⟨gu,k,none⟩=some (.int .i64 y)/\gu < w1.heap.size):=fun k y hy=>by
     obtain⟨gu,hou⟩:∃g,ou=some ⟨g,0,none⟩:=by
      rcases hnl.2 with ⟨_,e⟩|⟨g,cap,cur,e,_⟩
      ·have:=(lgs hy).1;omega
      ·injection e with e1;exact⟨g,e1⟩
     subst hou
     have c0:=zbr hnl hy
     exact⟨gu,rfl,((zaa HB1.out KB.out).cell (zab c0)).trans c0,Nat.lt_of_lt_of_le (zab c0) HB1.out.size⟩
    have HLG:Hid (gi < w1.heap.size/\g < w1.heap.size):=⟨Nat.lt_of_lt_of_le (zab (zan HBI.out hus)) HB1.out.size,zab (zay HF.out HFE.out.1 2 (by decide) rfl)⟩
    have a0:(0:Int)<=(a:Int):=by omega
    have a1:(a:Int) < (ls.length:Int):=by omega
    have nz:¬((f.per:Nat):Int)=0:=by have:=HFE.out.2.2;omega
    have p2:decide (0 < f.per)=true:=decide_eq_true HFE.out.2.2
    have nzN:¬f.per=0:=by have:=HFE.out.2.2;omega
    have tm:(tick:Int).tmod (f.per:Int)=(tick:Int) % (f.per:Int):=Int.tmod_eq_emod_of_nonneg (by omega)
    have td:(tick:Int).tdiv (f.per:Int)=(tick:Int) / (f.per:Int):=Int.tdiv_eq_ediv_of_nonneg (by omega)
    have als:(ls.length:Int)<=1000:=by have:=HT.out.2;omega
    clear hin hx hus hnl hal KX
    by_cases z:tick % f.per=0
    ·have z1:(tick:Int) % (f.per:Int)=0:=by omega
     by_cases y:tick / f.per < x.length
     ·obtain⟨y9,hy9⟩:∃v,x[tick / f.per]?=some v:=⟨_,List.getElem?_eq_getElem y⟩
      obtain⟨k,hk⟩:∃k,k=tick / f.per:=⟨_,rfl⟩
      have e9:(tick:Int) / (f.per:Int)=(k:Int):=by rw[hk];simp
      obtain⟨gu,hou,cx9,hgu⟩:=HXA.out _ _ hy9
      subst hou
      have HLU:=hid hgu
      have HZ:Hid (dvs F ls tick=(xs++[y9])++dvs (F.drop (e+1)) (ls.drop (a+1)) tick/\(a+1)+nin (F.drop (e+1))=ls.length/\(xs++[y9]).length<=e+1):=⟨by rw[HNX.out.1,if_pos z,hy9];simp,HNX.out.2.1,by have:=HNX.out.2.2;simp;omega⟩
      rw[<-hk] at y cx9
      have y1:(tick:Int) / (f.per:Int) < (x.length:Int):=by rw[e9];omega
      have y2:(0:Int)<=(k:Int):=by omega
      have y4:(k:Int) < (x.length:Int):=by omega
      have yw:IntKind.i64.wrap (k:Int)=(k:Int):=by
       rw[IntKind.wrap_i64]
       have hk2:k<=1000:=by rw[hk];exact Nat.le_trans (Nat.div_le_self _ _) HT.out.1
       omega
      have HLX:Hid (xs.length<=60):=by show _<=_;have:=HNX.out.2.2;have:=HFE.out.2.1;have:=H60.out;omega
      clear z y hy9 hgu y1 hk
      go_upto_region 8 with fail
      go_quiet (fail)
      go_upto_region 9 with fail
      have KBQ:Hid (Below w1.heap.size w1 (wr.drewN nq)):=below_drewN KB.out _
      have KNQ:Hid (Nl (wr.drewN nq) w1.heap.size (.slice ov xs.length cv) xs):=own_kept KN.out.1 (fun _ _=>rfl)
      have v1:(wr.drewN nq).cell? ⟨gi,a,none⟩=some (.slice (some ⟨gu,0,none⟩) x.length cu):=cu1
      have v2:(wr.drewN nq).cell? ⟨g,e*5+2,none⟩=some (.int .i64 (f.per:Nat)):=e2
      have v3:(wr.drewN nq).cell? ⟨gu,k,none⟩=some (.int .i64 y9):=cx9
      generalize wr.drewN nq=V at KBQ KNQ v1 v2 v3 ⊢
      clear cu1 e2 e3 cx9
      have XB:Hid (Below V.heap.size V (V.alloc (.cells #[.int .i64 y9] 2)).drew):=(brf.alloc nlr _).drew
      have OW:Hid ((V.alloc (.cells #[.int .i64 y9] 2)).drew.ownsRow w1.heap.size 2 1 (.slice ov xs.length cv) xs.length (i64s xs)):=own_kept KNQ.out (fun g hg=>XB.out.block g (lt_of_heap (zac KNQ.out g hg).2.choose_spec))
      have NW:Hid (∀(k:Nat) (y:Value),[Value.int .i64 y9][k]?=some y->(V.alloc (.cells #[.int .i64 y9] 2)).drew.cell? ((⟨V.heap.size,0,none⟩:Addr).add k)=some y):=fun k y hk=>zbe V [Value.int .i64 y9] 2 k y hk
      refine zbu (fun w'=>w'.cell? ⟨gi,a,none⟩=some (.slice (some ⟨gu,0,none⟩) x.length cu)/\w'.cell? ⟨g,e*5+2,none⟩=some (.int .i64 (f.per:Nat))/\w'.cell? ⟨gu,k,none⟩=some (.int .i64 y9)) 16 (by kernel_rfl) ⟨v1,v2,v3⟩ (fun hS=>?_)
      refine Lu 0 (v:=?_) rfl (by kernel_rfl) (fun _ _ _ h=>h) (Or.inl ⟨by rfl,?_⟩) (by assumption) ?_
      rotate_left 1
      ·(intro w' hSw;(try dsimp only at hSw);go_simp <;> with_reducible rfl)
      try simp only[Act.put,sa,sz,sn]
      refine Lu 1 (v:=?_) rfl (by kernel_rfl) (fun _ _ _ h=>h) (Or.inl ⟨by rfl,?_⟩) (by assumption) ?_
      rotate_left 1
      ·(intro w' hSw;(try dsimp only at hSw);go_simp <;> with_reducible rfl)
      try simp only[Act.put,sa,sz,sn]
      refine Lu 2 (v:=?_) rfl (by kernel_rfl) (fun _ _ _ h=>h) (Or.inl ⟨by rfl,?_⟩) (by assumption) ?_
      rotate_left 1
      ·(intro w' hSw;(try dsimp only at hSw);go_simp <;> with_reducible rfl)
      try simp only[Act.put,sa,sz,sn]
      refine Lu 3 (v:=?_) rfl (by kernel_rfl) (fun _ _ _ h=>h) (Or.inl ⟨by rfl,?_⟩) (by assumption) ?_
      rotate_left 1
      ·(intro w' hSw;(try dsimp only at hSw);go_simp <;> with_reducible rfl)
      try simp only[Act.put,sa,sz,sn]
      refine Lu 4 (v:=?_) rfl (by kernel_rfl) (fun _ _ _ h=>h) (Or.inl ⟨by rfl,?_⟩) (by assumption) ?_
      rotate_left 1
      ·(intro w' hSw;(try dsimp only at hSw);go_simp <;> with_reducible rfl)
      try simp only[Act.put,sa,sz,sn]
      refine Lu 5 (v:=?_) rfl (by kernel_rfl) (fun _ _ _ h=>h) (Or.inl ⟨by rfl,?_⟩) (by assumption) ?_
      rotate_left 1
      ·(intro w' hSw;(try dsimp only at hSw);go_simp <;> with_reducible rfl)
      try simp only[Act.put,sa,sz,sn]
      refine Lu 6 (v:=?_) rfl (by kernel_rfl) (fun _ _ _ h=>h) (Or.inl ⟨by rfl,?_⟩) (by assumption) ?_
      rotate_left 1
      ·(intro w' hSw;(try dsimp only at hSw);go_simp <;> with_reducible rfl)
      try simp only[Act.put,sa,sz,sn]
      refine Lu 7 (v:=?_) rfl (by kernel_rfl) (fun _ _ _ h=>h) (Or.inl ⟨by rfl,?_⟩) (by assumption) ?_
      rotate_left 1
      ·(intro w' hSw;(try dsimp only at hSw);go_simp <;> with_reducible rfl)
      try simp only[Act.put,sa,sz,sn]
      refine Lu 8 (v:=?_) rfl (by kernel_rfl) (fun _ _ _ h=>h) (Or.inl ⟨by rfl,?_⟩) (by assumption) ?_
      rotate_left 1
      ·(intro w' hSw;(try dsimp only at hSw);go_simp <;> with_reducible rfl)
      try simp only[Act.put,sa,sz,sn]
      refine Lu 9 (v:=?_) rfl (by kernel_rfl) (fun _ _ _ h=>h) (Or.inl ⟨by rfl,?_⟩) (by assumption) ?_
      rotate_left 1
      ·(intro w' hSw;(try dsimp only at hSw);go_simp <;> with_reducible rfl)
      try simp only[Act.put,sa,sz,sn]
      refine Lu 10 (v:=?_) rfl (by kernel_rfl) (fun _ _ _ h=>h) (Or.inl ⟨by rfl,?_⟩) (by assumption) ?_
      rotate_left 1
      ·(intro w' hSw;(try dsimp only at hSw);go_simp <;> with_reducible rfl)
      try simp only[Act.put,sa,sz,sn]
      refine Lu 11 (v:=?_) rfl (by kernel_rfl) (fun _ _ _ h=>h) (Or.inl ⟨by rfl,?_⟩) (by assumption) ?_
      rotate_left 1
      ·(intro w' hSw;(try dsimp only at hSw);go_simp <;> with_reducible rfl)
      try simp only[Act.put,sa,sz,sn]
      refine Lu 12 (v:=?_) rfl (by kernel_rfl) (fun _ _ _ h=>h) (Or.inl ⟨by rfl,?_⟩) (by assumption) ?_
      rotate_left 1
      ·(intro w' hSw;(try dsimp only at hSw);go_simp <;> with_reducible rfl)
      try simp only[Act.put,sa,sz,sn]
      refine Lu 13 (v:=?_) rfl (by kernel_rfl) (fun _ _ _ h=>h) (Or.inl ⟨by rfl,?_⟩) (by assumption) ?_
      rotate_left 1
      ·(intro w' hSw;(try dsimp only at hSw);go_simp <;> with_reducible rfl)
      try simp only[Act.put,sa,sz,sn]
      refine L_one 14 (by kernel_rfl) rfl (fun K hK=>?_)
      go_simp
      refine hK.out _ _ (Or.inr ?_) (fun h14=>?_)
      ·have kp:∀{p:Addr} {y:Value},V.cell? p=some y->(V.alloc (.cells #[.int .i64 y9] 2)).drew.cell? p=some y:=fun hp=>(XB.out.cell (zab hp)).trans hp
       exact⟨kp v1,kp v2,kp v3⟩
      replace h14:=h14.resolve_left (by decide)
      clear hK K hS
      try simp only[Act.put,sa,sz,sn]
      refine L_one 15 (by kernel_rfl) rfl (fun K hK=>?_)
      refine step_append_lies _ rfl _ _ 35 rfl w1.heap.size 2 n0 (.int .i64 0) 1 8 Tryz.underlying35 hn0 nz0 nz1 nz2 rfl (by decide) (.slice ov xs.length cv) xs.length (i64s xs) rfl OW.out ⟨V.heap.size,0,none⟩ 1 1 [Value.int .i64 y9] rfl rfl NW.out (by intro y hy;simp at hy;subst hy;rfl) (by decide) (by unfold maxLen;have:=HLX.out;omega) (by have:=HLX.out;omega) (Nat.le_trans KBQ.out.size XB.out.size) _ rfl ?_
      intro k7 c7 w7 O7 hg7 hat7 hlt7
      have HB7:Hid (Below w1.heap.size w1 w7):=zak (zaa KBQ.out XB.out) (zaa KBQ.out XB.out).size hg7 (fun k e=>(zac KNQ.out k e).1)
      have HO7:Hid (Nl w7 w1.heap.size (.slice (some ⟨k7,0,none⟩) (xs++[y9]).length c7) (xs++[y9])):=by
       have e1:(xs++[y9]).length=xs.length+1:=by simp
       have e2:i64s (xs++[y9])=i64s xs++[.int .i64 y9]:=by simp[i64s]
       show World.ownsRow _ _ _ _ _ _ _
       rw[e1,e2]
       exact O7
      have nb:∀{p:Addr} {u:Value},p.block < w1.heap.size->V.cell? p=some u->w7.cell? p=some u:=fun hl hp=>hg7.cell ((XB.out.cell (zab hp)).trans hp) (fun e=>by have:=(zac KNQ.out _ e.symm).1;omega)
      have u1:=nb HLG.out.1 v1
      have u2:=nb HLG.out.2 v2
      have u3:=nb HLU.out v3
      clear O7 hg7 hat7 hlt7 h14 v1 v2 v3 nb
      refine hK.out _ _ (Or.inr ⟨u1,u2,u3⟩) (fun h15=>?_)
      replace h15:=h15.resolve_left (by decide)
      clear hK K
      try simp only[Act.put,sa,sz,sn]
      refine L_one 16 (by kernel_rfl) rfl (fun K hK=>?_)
      go_simp
      refine hK.out _ _ (Or.inl rfl) (fun _=>?_)
      clear hK K h15 u1 u2 u3
      try simp only[Act.put,sa,sz,sn]
      refine zdd (by kernel_rfl) ?_ _
      have HLE:Hid ((xs++[y9]).length=xs.length+1):=by show _=_;simp
      go_wp2_with fail
      go_roundg (F.length - (e+1))
      case measure=>have:=HG.out;have:=HFE.out;omega
      case rel=>exact⟨e+1,a+1,xs++[y9],_,_,by go_num,by go_num,by rw[HLE.out],rfl,HFE.out.2.1,HB7,⟨HO7.out,fun e=>by simp at e⟩,HZ.out⟩
     ·have HZ:Hid (dvs F ls tick=xs++dvs (F.drop (e+1)) (ls.drop (a+1)) tick/\(a+1)+nin (F.drop (e+1))=ls.length/\xs.length<=e+1):=⟨by rw[HNX.out.1,if_pos z,List.getElem?_eq_none (by omega)];rfl,HNX.out.2.1,by have:=HNX.out.2.2;omega⟩
      obtain⟨k,hk⟩:∃k,k=tick / f.per:=⟨_,rfl⟩
      have e9:(tick:Int) / (f.per:Int)=(k:Int):=by rw[hk];simp
      rw[<-hk] at y
      have y4:¬(k:Int) < (x.length:Int):=by omega
      have y6:decide (k < x.length)=false:=decide_eq_false y
      have y7:decide ((k:Int) < (x.length:Int))=false:=decide_eq_false y4
      have yw:IntKind.i64.wrap (k:Int)=(k:Int):=by
       rw[IntKind.wrap_i64]
       have hk2:k<=1000:=by rw[hk];exact Nat.le_trans (Nat.div_le_self _ _) HT.out.1
       omega
      clear z hk
      go_upto_region 8 with fail
      go_quiet (fail)
      go_wp2_with fail
      go_roundg (F.length - (e+1))
      case measure=>have:=HG.out;have:=HFE.out;omega
      case rel=>exact⟨e+1,a+1,xs,ov,cv,by go_num,by go_num,rfl,rfl,HFE.out.2.1,below_drewN KB.out _,⟨own_kept KN.out.1 (fun _ _=>rfl),KN.out.2⟩,HZ.out⟩
    ·have z2:¬(tick:Int) % (f.per:Int)=0:=by omega
     have HZ:Hid (dvs F ls tick=xs++dvs (F.drop (e+1)) (ls.drop (a+1)) tick/\(a+1)+nin (F.drop (e+1))=ls.length/\xs.length<=e+1):=⟨by rw[HNX.out.1,if_neg z,List.nil_append],HNX.out.2.1,by have:=HNX.out.2.2;omega⟩
     clear z
     go_upto_region 8 with fail
     go_quiet (fail)
     go_wp2_with fail
     go_roundg (F.length - (e+1))
     case measure=>have:=HG.out;have:=HFE.out;omega
     case rel=>exact⟨e+1,a+1,xs,ov,cv,by go_num,by go_num,rfl,rfl,HFE.out.2.1,below_drewN KB.out _,⟨own_kept KN.out.1 (fun _ _=>rfl),KN.out.2⟩,HZ.out⟩
  ·have hle:(F.length:Int)<=(e:Int):=by omega
   have HE:Hid (dvs F ls tick=xs):=by
    show _=_
    rw[KX.out.1,List.drop_eq_nil_of_le (by omega)]
    simp[dvs]
   go_wp2
   go_ret
   refine⟨zaa HB1.out KB.out,.slice ov xs.length cv,rfl,?_,?_⟩
   ·rw[<-HFQ.out,HE.out]
    exact own_lessK KN.out.1 HB1.out.size
   ·rw[<-HFQ.out,HE.out]
    exact KN.out.2
end
section
open Go.RowKit
variable {Q:List Nq} {s:Lj} {ρ:Mbi} {m:Mbo} {T:Nat} {L:Nat->List Int} {J J':Nat->List Nat}
theorem pick_none {D:Nat->Obj->Prop} {wE:World} {mb lb jb K:Nat} {fv tv wv:Value} {c:Int} {ov:Bool} {fn jn:Nat->Value} {w:World} (h:Mc D wE mb lb jb K T fv tv wv c ov L J fn jn w) {t:Int} (ht:¬(0<=t/\t < (T:Nat))) :
  Calls Tryz.prog 26 #[.pointer (some ⟨mb,0,none⟩),.int .i64 t] w fun E w'=>E=.returned (.int .i64 (-1))/\w=w':=by
 obtain⟨_,_,_,_,_,_,c6⟩:=h.cells
 have HH:Hid (∀w,Calls Tryz.prog 44 #[.slice (some ⟨jb,0,none⟩) T T,.int .i64 t] w fun E w'=>E=.returned (.bool false)/\w=w'):=fun w=>hasJ_any _ _ _ _ w (decide_eq_false ht).symm
 clear h ht
 go_enter Tryz.func26,Tryz.ntmps26
 go_wp2_with (go_at_call 44;refine (HH.out _).mono ?_;rintro E w1 ⟨rfl,rfl⟩)
 go_ret
 exact⟨rfl,rfl⟩
def jsum (T:Nat) (J:Nat->List Nat):Nat:=((List.range T).map fun t=>(J t).length).sum
theorem zcf (T:Nat) (J:Nat->List Nat):jsum (T+1) J=jsum T J+(J T).length:=by
 unfold jsum
 rw[List.range_succ,List.map_append,List.sum_append];simp
theorem jsum_le:∀(T:Nat),(∀t,t < T->(J' t).length<=(J t).length)->jsum T J'<=jsum T J
 | 0,_=>Nat.le_refl _
 | T+1,h=>by
  rw[zcf,zcf]
  have h1:=jsum_le T (fun t ht=>h t (by omega))
  have h2:=h T (by omega)
  omega
theorem jsum_lt:∀(T:Nat),(∀t,t < T->(J' t).length<=(J t).length)->(∃t,t < T/\(J' t).length < (J t).length)->jsum T J' < jsum T J
 | 0,_,⟨_,h,_⟩=>absurd h (Nat.not_lt_zero _)
 | T+1,h,⟨t,h1,h2⟩=>by
  rw[zcf,zcf]
  have h3:=h T (by omega)
  by_cases e:t=T
  ·subst e
   have h4:=jsum_le t (fun t' ht=>h t' (by omega))
   omega
  ·have h4:=jsum_lt T (fun t' ht=>h t' (by omega)) ⟨t,by omega,h2⟩
   omega
theorem pk_len (t t':Nat):((pk m ρ Q L J t).2 t').length<=(J t').length:=by
 unfold pk
 split
 ·exact Nat.le_refl _
 ·rename_i j rest hJ
  split
  ·exact Nat.le_refl _
  ·show (jput J t rest t').length<=_
   unfold jput
   by_cases e:t'=t
   ·rw[if_pos e,e,hJ];simp
   ·rw[if_neg e];exact Nat.le_refl _
theorem stp_len (t t':Nat):((stp m ρ Q s t).2 t').length<=(s.2 t').length:=by
 unfold stp
 split
 ·exact Nat.le_refl _
 ·exact pk_len t t'
theorem rnd_len (t':Nat):∀T,((rnd m ρ Q T s).2 t').length<=(s.2 t').length
 | 0=>Nat.le_refl _
 | T+1=>by
  rw[rnd_succ]
  exact Nat.le_trans (stp_len T t') (rnd_len t' T)
theorem itr_idle {I:Lj->Prop} (hI:I s) (hk:∀s,I s->I (rnd m ρ Q T s)) (hg:∀s,I s->¬idle T s->∃t,t < T/\((rnd m ρ Q T s).2 t).length < (s.2 t).length) {n:Nat} (hn:∀k,k < n->¬idle T (itr m ρ Q T s k)):n<=jsum T s.2/\I (itr m ρ Q T s n)/\jsum T (itr m ρ Q T s n).2+n<=jsum T s.2:=by
 have:I (itr m ρ Q T s n)/\jsum T (itr m ρ Q T s n).2+n<=jsum T s.2:=by
  induction n with
  | zero=>exact⟨hI,Nat.le_refl _⟩
  | succ n ih=>
   obtain⟨h1,h2⟩:=ih (fun k hk=>hn k (by omega))
   refine⟨hk _ h1,?_⟩
   have h3:jsum T (rnd m ρ Q T (itr m ρ Q T s n)).2 < jsum T (itr m ρ Q T s n).2:=jsum_lt T (fun t _=>rnd_len t T) (hg _ h1 (hn n (by omega)))
   show jsum T (rnd m ρ Q T (itr m ρ Q T s n)).2+(n+1)<=_
   omega
 exact⟨by omega,this⟩
end
section
open Go.RowKit
variable {U:List (Nat×Value)} {F:List Flo} {c n p:Nat}
theorem zcy (L:Nat->List Int) (j:Nat) (v:Int):lput L j v j=L j++[v]:=if_pos rfl
theorem zba (L:Nat->List Int) {j k:Nat} (v:Int) (h:k≠j):lput L j v k=L k:=if_neg h
theorem zcg (J:Nat->List Nat) (t:Nat) (xs:List Nat):jput J t xs t=xs:=if_pos rfl
theorem jput_ne (J:Nat->List Nat) {t k:Nat} (xs:List Nat) (h:k≠t):jput J t xs k=J k:=if_neg h
theorem pk_cases (m:Mbo) (ρ:Mbi) (Q:List Nq) (L:Nat->List Int) (J:Nat->List Nat) (t:Nat) :
  pk m ρ Q L J t=(L,J)\/∃j rest q v,J t=j::rest/\Q.find? (fun q=>q.flow==j)=some q/\Mip.sm m ρ (SL L) q.body ((L j).length:Nat)=some v/\pk m ρ Q L J t=(lput L j v,jput J t rest):=by
 unfold pk
 cases hJ:J t with
 | nil=>exact Or.inl rfl
 | cons j rest=>
  dsimp only
  cases hf:Q.find? (fun q=>q.flow==j) with
  | none=>exact Or.inl rfl
  | some q=>
   cases hv:Mip.sm m ρ (SL L) q.body ((L j).length:Nat) with
   | none=>left;simp[hv]
   | some v=>right;exact⟨j,rest,q,v,rfl,hf,hv,by simp[hv]⟩
structure Ivj (F:List Flo) (T:Nat) (pt:Nat->Nat) (O:Nat->List Nat) (c:Nat) (s:Lj):Prop where
 inp:∀j f,F[j]?=some f->f.inp=true->(s.1 j).length=c / f.per+1
 job:∀t,t < T->∃pre,O t=pre++s.2 t/\(s.2 t≠[]->c % pt t=0)/\(∀e∈pre,(s.1 e).length=c / pt t+1)/\∀e∈s.2 t,(s.1 e).length=c / pt t
section
variable {m:Mbo} {ρ:Mbi} {F:List Flo} {Q:List Nq} {r:Nat->Nat} {T:Nat} {pt:Nat->Nat} {O:Nat->List Nat} {c:Nat} {s:Lj}
theorem Tp.ne (P:Tp m F Q r T pt O) {t t' e e':Nat} (ht:t < T) (ht':t' < T) (h:t≠t') (he:e∈O t) (he':e'∈O t'):e≠e':=by
 rintro rfl
 obtain⟨_,_,_,h1⟩:=(P.mem t ht e).1 he
 obtain⟨_,_,_,h2⟩:=(P.mem t' ht' e).1 he'
 rcases Nat.lt_or_gt_of_ne h with c|c
 ·have:=P.up t t' c ht';omega
 ·have:=P.up t' t c ht;omega
theorem Tp.noInp (P:Tp m F Q r T pt O) {t e:Nat} (ht:t < T) (he:e∈O t) {f:Flo} (hf:F[e]?=some f):f.inp=false:=by
 obtain⟨q,hq,rfl,_⟩:=(P.mem t ht e).1 he
 obtain⟨g,h1,h2⟩:=P.eqf q hq
 rw[hf] at h1
 obtain rfl:=osi h1
 exact h2
theorem Tp.at_ (P:Tp m F Q r T pt O) {t e:Nat} (ht:t < T) (he:e∈O t):∃f,F[e]?=some f/\f.inp=false/\f.per=pt t/\e < F.length:=by
 obtain⟨q,hq,rfl,h3⟩:=(P.mem t ht e).1 he
 obtain⟨g,h1,h2⟩:=P.eqf q hq
 exact⟨g,h1,h2,by rw[<-h3,za4 h1],(lgs h1).1⟩
theorem Ivj.pk (P:Tp m F Q r T pt O) (h:Ivj F T pt O c s) {t:Nat} (ht:t < T):Ivj F T pt O c (pk m ρ Q s.1 s.2 t):=by
 rcases pk_cases m ρ Q s.1 s.2 t with e|⟨j,rest,q,v,hJ,hq,hv,e⟩
 ·rw[e];exact h
 ·obtain⟨pre,o1,o2,o3,o4⟩:=h.job t ht
  rw[hJ] at o1 o2 o4
  have hjO:j∈O t:=by rw[o1];simp
  have hnd:=P.nd t ht
  rw[o1] at hnd
  have hn1:∀x∈pre,x≠j:=fun x hx e=>by
   subst e
   exact (List.nodup_append.1 hnd).2.2 x hx x (by simp) rfl
  have hn2:∀x∈rest,x≠j:=fun x hx e=>by
   subst e
   exact (List.nodup_cons.1 (List.nodup_append.1 hnd).2.1).1 hx
  rw[e]
  refine⟨fun k f hf hk=>?_,fun t' ht'=>?_⟩
  ·have hne:k≠j:=fun e=>by
    subst e
    rw[P.noInp ht hjO hf] at hk;cases hk
   show (lput s.1 j v k).length=_
   rw[zba _ _ hne]
   exact h.inp k f hf hk
  ·by_cases e1:t'=t
   ·subst e1
    refine⟨pre++[j],?_,fun _=>o2 (by simp),fun x hx=>?_,fun x hx=>?_⟩
    ·show O t'=_++jput s.2 t' rest t'
     rw[zcg,o1];simp
    ·show (lput s.1 j v x).length=_
     rcases List.mem_append.1 hx with hx|hx
     ·rw[zba _ _ (hn1 x hx)];exact o3 x hx
     ·obtain rfl:x=j:=by simpa using hx
      rw[zcy,List.length_append,o4 x (by simp)];rfl
    ·have hx2:x∈jput s.2 t' rest t':=hx
     rw[zcg] at hx2
     show (lput s.1 j v x).length=_
     rw[zba _ _ (hn2 x hx2)]
     exact o4 x (by simp[hx2])
   ·obtain⟨pre',p1,p2,p3,p4⟩:=h.job t' ht'
    have hne:∀x∈O t',x≠j:=fun x hx=>P.ne ht' ht e1 hx hjO
    refine⟨pre',?_,?_,fun x hx=>?_,fun x hx=>?_⟩
    ·show O t'=_++jput s.2 t rest t'
     rw[jput_ne _ _ e1];exact p1
    ·show jput s.2 t rest t'≠[]->_
     rw[jput_ne _ _ e1];exact p2
    ·show (lput s.1 j v x).length=_
     rw[zba _ _ (hne x (by rw[p1];simp[hx]))]
     exact p3 x hx
    ·have hx2:x∈jput s.2 t rest t':=hx
     rw[jput_ne _ _ e1] at hx2
     show (lput s.1 j v x).length=_
     rw[zba _ _ (hne x (by rw[p1];simp[hx2]))]
     exact p4 x hx2
theorem Ivj.jok (P:Tp m F Q r T pt O) (h:Ivj F T pt O c s) (hc:c<=2000) {t:Nat} (ht:t < T):Jok F Q s.1 (s.2 t):=by
 obtain⟨pre,o1,o2,o3,o4⟩:=h.job t ht
 intro j hj
 have hjO:j∈O t:=by rw[o1];simp[hj]
 obtain⟨q,hq,e,_⟩:=(P.mem t ht j).1 hjO
 obtain⟨f,_,_,_,hl⟩:=P.at_ ht hjO
 refine⟨hl,⟨q,hq,e⟩,?_⟩
 rw[o4 j hj]
 exact Nat.le_trans (Nat.div_le_self _ _) hc
theorem le_div (hp:1<=p) (h:n*p<=c):n<=c / p:=(Nat.le_div_iff_mul_le (by omega)).2 h
theorem lt_div (hc:c % p=0) (h:n*p < c):n < c / p:=by
 have e:=Nat.div_add_mod c p
 rw[hc,Nat.add_zero,Nat.mul_comm] at e
 rw[<-e] at h
 exact Nat.lt_of_mul_lt_mul_right h
theorem Ivj.go (P:Tp m F Q r T pt O) (h:Ivj F T pt O c s) (hc:c<=2000) {t:Nat} (ht:t < T) (hlow:∀t',t' < t->s.2 t'=[]) {j:Nat} {rest:List Nat} (hJ:s.2 t=j::rest) (ρ:Mbi) :
  ∃q v,Q.find? (fun q=>q.flow==j)=some q/\Mip.sm m ρ (SL s.1) q.body ((s.1 j).length:Nat)=some v:=by
 obtain⟨pre,o1,o2,o3,o4⟩:=h.job t ht
 have hm:=o2 (by rw[hJ];simp)
 rw[hJ] at o1 o4
 have hjO:j∈O t:=by rw[o1];simp
 obtain⟨q,hq,hqj,hper⟩:=(P.mem t ht j).1 hjO
 have hf:Q.find? (fun q=>q.flow==j)=some q:=by rw[<-hqj];exact P.cd.up q hq
 have hlen:=o4 j (by simp)
 have hp1:=P.ptp t ht
 have hi:(s.1 j).length<=2000:=by rw[hlen];exact Nat.le_trans (Nat.div_le_self _ _) hc
 have e0:c / pt t*pt t=c:=by
  have e:=Nat.div_add_mod c (pt t)
  rw[hm,Nat.add_zero,Nat.mul_comm] at e
  exact e
 have key:(Mip.sm m ρ (SL s.1) q.body ((s.1 j).length:Nat)).isSome=true:=by
  refine Mip.sm_some (d:=_) (fun j' n' hd=>?_) q.body (P.cd.hl q hq).wf _ (asks_time P.cd hq hi)
  obtain⟨h0,⟨x,hx⟩,hor⟩:=hd
  obtain⟨f0,f1⟩:=P.fit x j' hx
  obtain⟨n,rfl⟩:∃n:Nat,n'=n:=⟨n'.toNat,by omega⟩
  obtain⟨k,rfl⟩:∃k:Nat,j'=k:=⟨j'.toNat,by omega⟩
  simp only[Int.toNat_natCast] at f1 hor
  have hfk:F[k]?=some F[k]:=List.getElem?_eq_getElem f1
  have hpk:=P.pos _ (List.getElem_mem f1)
  have hpe:perAt F k=F[k].per:=za4 hfk
  have hqp:perAt F q.flow=pt t:=by rw[hqj];exact hper
  rw[hpe,hqp,hlen] at hor
  have hor':n*F[k].per < c\/(n*F[k].per=c/\k∈Mip.nds m q.body/\F[k].per<=pt t):=by
   have e1:((c / pt t:Nat):Int)*(pt t:Nat)=(c:Nat):=by rw[<-Int.natCast_mul,e0]
   rw[e1,<-Int.natCast_mul] at hor
   rcases hor with h1|⟨h1,h2,h3⟩
   ·left;omega
   ·right;exact⟨by omega,h2,h3⟩
  have hgoal:n < (s.1 k).length:=by
   cases hin:F[k].inp with
   | true=>
    rw[h.inp k _ hfk hin]
    have:n*F[k].per<=c:=by rcases hor' with h1|⟨h1,_⟩ <;> omega
    exact Nat.lt_succ_of_le (le_div hpk this)
   | false=>
    obtain⟨q',hq',e'⟩:=P.fe k _ hfk hin
    obtain⟨t',ht',e2⟩:=P.all q' hq'
    rw[e',hpe] at e2
    have hkO:k∈O t':=(P.mem t' ht' k).2 ⟨q',hq',e',by rw[hpe,e2]⟩
    obtain⟨pre',p1,p2,p3,p4⟩:=h.job t' ht'
    have hdone:k∈pre'->n < (s.1 k).length:=fun hk=>by
     rw[p3 k hk,e2]
     have:n*F[k].per<=c:=by rcases hor' with h1|⟨h1,_⟩ <;> omega
     exact Nat.lt_succ_of_le (le_div hpk this)
    rw[p1] at hkO
    rcases List.mem_append.1 hkO with hk|hk
    ·exact hdone hk
    ·have hm':=p2 (fun e=>by rw[e] at hk;cases hk)
     rcases hor' with h1|⟨h1,h2,h3⟩
     ·rw[p4 k hk,e2]
      rw[e2] at hm'
      exact lt_div hm' h1
     ·exfalso
      rw[<-e2] at h3
      rcases Nat.lt_trichotomy t' t with hlt|heq|hgt
      ·rw[hlow t' hlt] at hk;cases hk
      ·subst heq
       have hkO':k∈O t':=by rw[p1];simp[hk]
       have hpre:=P.pre t' ht' pre j rest o1 q hq hqj k h2 hkO'
       have hnd:=P.nd t' ht'
       rw[o1] at hnd
       rw[hJ] at hk
       exact (List.nodup_append.1 hnd).2.2 k hpre k hk rfl
      ·have:=P.up t t' hgt ht';omega
  show (SL s.1 (k:Nat) (n:Nat)).isSome=true
  unfold SL
  rw[if_pos (by omega),Int.toNat_natCast,Int.toNat_natCast,List.getElem?_eq_getElem hgoal]
  rfl
 obtain⟨v,hv⟩:=Option.isSome_iff_exists.1 key
 exact⟨q,v,hf,hv⟩
theorem Ivj.rnd_go (P:Tp m F Q r T pt O) (h:Ivj F T pt O c s) (hc:c<=2000) (hid:¬idle T s):∃t,t < T/\((rnd m ρ Q T s).2 t).length < (s.2 t).length:=by
 have hex:∃t,t < T/\s.2 t≠[]:=by
  apply Classical.byContradiction
  intro hno
  exact hid (fun t ht=>Classical.byContradiction fun e=>hno ⟨t,ht,e⟩)
 obtain⟨t,ht,hne,hlow⟩:∃t,t < T/\s.2 t≠[]/\∀t',t' < t->s.2 t'=[]:=by
  obtain⟨t,h1,h2⟩:=hex
  induction t using Nat.strongRecOn with
  | ind t ih=>
   by_cases hl:∀t',t' < t->s.2 t'=[]
   ·exact⟨t,h1,h2,hl⟩
   ·obtain⟨t',h3⟩:=Classical.not_forall.1 hl
    obtain⟨h4,h5⟩:=Classical.not_imp.1 h3
    exact ih t' h4 (by omega) h5
 obtain⟨j,rest,hJ⟩:∃j rest,s.2 t=j::rest:=by
  cases e:s.2 t with
  | nil=>exact absurd e hne
  | cons j rest=>exact⟨j,rest,rfl⟩
 obtain⟨q,v,hq,hv⟩:=h.go P hc ht hlow hJ ρ
 refine⟨t,ht,?_⟩
 have e1:(rnd m ρ Q (t+1) s).2 t=rest:=by
  rw[rnd_succ,rnd_idle hlow]
  unfold stp
  rw[hJ]
  show (Go.Proofs.YtjehljjlcifndaaGreatDoor.pk m ρ Q s.1 s.2 t).2 t=rest
  unfold Go.Proofs.YtjehljjlcifndaaGreatDoor.pk
  rw[hJ]
  dsimp only
  rw[hq]
  simp[hv,zcg]
 have e2:∀n,t+1<=n->(rnd m ρ Q n s).2 t=rest:=by
  intro n hn
  induction n with
  | zero=>omega
  | succ n ih=>
   by_cases c1:n=t
   ·subst c1;exact e1
   ·rw[rnd_succ,stp_other (by omega)]
    exact ih (by omega)
 rw[e2 T ht,hJ]
 simp
theorem rnd_keepsT {I:Lj->Prop}:∀(n:Nat) {s:Lj},(∀s t,t < n->I s->s.2 t≠[]->I (pk m ρ Q s.1 s.2 t))->I s->I (rnd m ρ Q n s)
 | 0,_,_,hs=>hs
 | n+1,s,h,hs=>by
  rw[rnd_succ]
  have h1:=rnd_keepsT n (fun s t ht=>h s t (by omega)) hs
  unfold stp
  by_cases e:((rnd m ρ Q n s).2 n).isEmpty=true
  ·rw[if_pos e];exact h1
  ·rw[if_neg e]
   exact h _ _ (by omega) h1 (fun e2=>e (by rw[e2];rfl))
theorem drain_ok (P:Tp m F Q r T pt O) (hc:c<=2000) {I:Lj->Prop} (hI:I s) (hv:∀s,I s->Ivj F T pt O c s) (hk:∀s t,t < T->I s->s.2 t≠[]->I (pk m ρ Q s.1 s.2 t)) {n N:Nat} (hN:jsum T s.2 < N) (hn:n=N/\∀k,k < n->¬idle T (itr m ρ Q T s k)):False:=by
 have:=itr_idle (m:=m) (ρ:=ρ) (Q:=Q) (T:=T) (I:=I) hI (fun s hs=>rnd_keepsT T hk hs) (fun s hs hid=>(hv s hs).rnd_go P hc hid) hn.2
 omega
structure Rsj (F:List Flo) (T c:Nat) (s:Lj):Prop where
 log:∀j f,F[j]?=some f->(s.1 j).length=(c+f.per - 1) / f.per
 job:∀t,t < T->s.2 t=[]
theorem cn_yes (hp:1<=p) (h:c % p=0):(c+p - 1) / p=c / p:=by
 have e:=Nat.div_add_mod c p
 rw[h,Nat.add_zero] at e
 have e2:c+p - 1=p*(c / p)+(p - 1):=by omega
 rw[e2,Nat.mul_add_div (by omega),Nat.div_eq_of_lt (by omega:p - 1 < p)]
 rfl
theorem cn_no (hp:1<=p) (h:c % p≠0):(c+p - 1) / p=c / p+1:=by
 have e:=Nat.div_add_mod c p
 have hl:=Nat.mod_lt c (by omega:0 < p)
 have e2:c+p - 1=p*(c / p)+(p+(c % p - 1)):=by omega
 rw[e2,Nat.mul_add_div (by omega),Nat.add_div_left _ (by omega),Nat.div_eq_of_lt (by omega:c % p - 1 < p)]
theorem cn_next (c:Nat) {p:Nat} (hp:1<=p):(c+1+p - 1) / p=c / p+1:=by
 have e:c+1+p - 1=c+p:=by omega
 rw[e,Nat.add_div_right _ (by omega)]
theorem Rsj.zero (P:Tp m F Q r T pt O):Rsj F T 0 (fun _=>[],fun _=>[]):=by
 refine⟨fun j f hf=>?_,fun _ _=>rfl⟩
 have:=P.pos f (List.mem_of_getElem? hf)
 rw[cn_yes this (Nat.zero_mod _),Nat.zero_div];rfl
theorem Ivj.done (P:Tp m F Q r T pt O) (h:Ivj F T pt O c s) (hid:idle T s):Rsj F T (c+1) s:=by
 refine⟨fun j f hf=>?_,hid⟩
 rw[cn_next c (P.pos f (List.mem_of_getElem? hf))]
 cases hin:f.inp with
 | true=>exact h.inp j f hf hin
 | false=>
  obtain⟨q,hq,e⟩:=P.fe j f hf hin
  obtain⟨t,ht,e2⟩:=P.all q hq
  obtain⟨pre,p1,_,p3,_⟩:=h.job t ht
  have hjO:j∈O t:=(P.mem t ht j).2 ⟨q,hq,e,by rw[e2,e]⟩
  rw[p1,hid t ht,List.append_nil] at hjO
  have e3:pt t=f.per:=by rw[e2,e,za4 hf]
  rw[p3 j hjO,e3]
end
theorem zbl:∀(zs:List (Nat×Int)) (L:Nat->List Int) (j:Nat),j ∉ zs.map Prod.fst->putL L zs j=L j
 | [],_,_,_=>rfl
 | z::r,L,j,h=>by
  rw[List.map_cons,List.mem_cons] at h
  show putL (lput L z.1 z.2) r j=_
  rw[zbl r _ j (fun e=>h (Or.inr e)),zba _ _ (fun e=>h (Or.inl e))]
theorem putL_in:∀(zs:List (Nat×Int)) (L:Nat->List Int) (j:Nat) (v:Int),(zs.map Prod.fst).Nodup->(j,v)∈zs->putL L zs j=L j++[v]
 | [],_,_,_,_,h=>by cases h
 | z::r,L,j,v,hn,h=>by
  rw[List.map_cons,List.nodup_cons] at hn
  show putL (lput L z.1 z.2) r j=_
  rcases List.mem_cons.1 h with e|h
  ·subst e
   rw[zbl r _ j hn.1,zcy]
  ·have hne:j≠z.1:=fun e=>hn.1 (List.mem_map.2 ⟨(j,v),h,e⟩)
   rw[putL_in r _ j v hn.2 h,zba _ _ hne]
theorem zdl (O:Nat->List Nat):∀(ts:List Nat) (J:Nat->List Nat) (t:Nat),setJ O J ts t=if t∈ts then O t else J t
 | [],_,_=>by simp[setJ]
 | z::r,J,t=>by
  show setJ O (jput J z (O z)) r t=_
  rw[zdl O r]
  by_cases h:t∈r
  ·rw[if_pos h,if_pos (by simp[h])]
  ·rw[if_neg h]
   by_cases e:t=z
   ·subst e
    rw[zcg,if_pos (by simp)]
   ·rw[jput_ne _ _ e,if_neg (by simp[h,e])]
theorem duI_mem {j:Nat}:j∈duI F c F.length↔∃f,F[j]?=some f/\f.inp=true/\c % f.per=0:=by
 unfold duI
 rw[List.mem_filter,List.mem_range]
 constructor
 ·rintro ⟨h1,h2⟩
  rw[List.getElem?_eq_getElem h1] at h2 ⊢
  dsimp only at h2
  simp only[Bool.and_eq_true,beq_iff_eq] at h2
  exact⟨_,rfl,h2.1,h2.2⟩
 ·rintro ⟨f,h1,h2,h3⟩
  refine⟨(lgs h1).1,?_⟩
  rw[h1]
  simp[h2,h3]
theorem duT_mem {t:Nat}:t∈duT U c U.length↔t < U.length/\c % ptU U t=0:=by
 unfold duT
 rw[List.mem_filter,List.mem_range]
 constructor
 ·rintro ⟨h1,h2⟩
  refine⟨h1,?_⟩
  rw[zd0 (List.getElem?_eq_getElem h1)]
  rw[List.getElem?_eq_getElem h1] at h2
  simpa using h2
 ·rintro ⟨h1,h2⟩
  refine⟨h1,?_⟩
  rw[zd0 (List.getElem?_eq_getElem h1)] at h2
  rw[List.getElem?_eq_getElem h1]
  simpa using h2
theorem zec (F:List Flo) (c i:Nat):(duI F c i).Nodup:=List.Nodup.sublist List.filter_sublist List.nodup_range
theorem zip_fst:∀(ds:List Nat) (xs:List Int),ds.length=xs.length->(ds.zip xs).map Prod.fst=ds
 | [],_,_=>rfl
 | d::r,[],h=>by simp at h
 | d::r,x::t,h=>by
  rw[List.zip_cons_cons,List.map_cons,zip_fst r t (by simpa using h)]
theorem Rsj.tick {m:Mbo} {Q:List Nq} {r:Nat->Nat} {O:Nat->List Nat} {s:Lj} (P:Tp m F Q r U.length (ptU U) O) (h:Rsj F U.length c s) {xs:List Int} (hx:(duI F c F.length).length=xs.length):Ivj F U.length (ptU U) O c (putL s.1 ((duI F c F.length).zip xs),setJ O s.2 (duT U c U.length)):=by
 have hz:=zip_fst _ _ hx
 have hnd:(((duI F c F.length).zip xs).map Prod.fst).Nodup:=by rw[hz];exact zec F c _
 refine⟨fun j f hf hi=>?_,fun t ht=>?_⟩
 ·have hp:=P.pos f (List.mem_of_getElem? hf)
  show (putL s.1 _ j).length=_
  by_cases hm:c % f.per=0
  ·have hj:j∈((duI F c F.length).zip xs).map Prod.fst:=by rw[hz];exact duI_mem.2 ⟨f,hf,hi,hm⟩
   obtain⟨z,h1,h2⟩:=List.mem_map.1 hj
   obtain⟨a,v⟩:=z
   obtain rfl:a=j:=h2
   rw[putL_in _ _ a v hnd h1,List.length_append,h.log a f hf,cn_yes hp hm];rfl
  ·have hj:j ∉ ((duI F c F.length).zip xs).map Prod.fst:=by
    rw[hz]
    intro e
    obtain⟨f',e1,_,e2⟩:=duI_mem.1 e
    rw[hf] at e1
    obtain rfl:=osi e1
    exact hm e2
   rw[zbl _ _ j hj,h.log j f hf,cn_no hp hm]
 ·have hlog:∀e∈O t,putL s.1 ((duI F c F.length).zip xs) e=s.1 e:=fun e he=>by
   refine zbl _ _ e ?_
   rw[hz]
   intro e1
   obtain⟨f',h1,h2,_⟩:=duI_mem.1 e1
   rw[P.noInp ht he h1] at h2;cases h2
  have hl2:∀e∈O t,(s.1 e).length=(c+ptU U t - 1) / ptU U t:=fun e he=>by
   obtain⟨f,h1,_,h3,_⟩:=P.at_ ht he
   rw[h.log e f h1,h3]
  have hp:=P.ptp t ht
  by_cases hm:c % ptU U t=0
  ·have e1:setJ O s.2 (duT U c U.length) t=O t:=by rw[zdl,if_pos (duT_mem.2 ⟨ht,hm⟩)]
   refine⟨[],by show _=[]++setJ O s.2 _ t;rw[e1];rfl,fun _=>hm,(fun e he=>by cases he),fun e he=>?_⟩
   have he2:e∈setJ O s.2 (duT U c U.length) t:=he
   rw[e1] at he2
   show (putL s.1 _ e).length=_
   rw[hlog e he2,hl2 e he2,cn_yes hp hm]
  ·have e1:setJ O s.2 (duT U c U.length) t=[]:=by
    rw[zdl,if_neg (fun e=>hm (duT_mem.1 e).2),h.job t ht]
   refine⟨O t,by show _=_++setJ O s.2 _ t;rw[e1];simp,fun e=>absurd e1 e,fun e he=>?_,fun e he=>?_⟩
   ·show (putL s.1 _ e).length=_
    rw[hlog e he,hl2 e he,cn_no hp hm]
   ·have he2:e∈setJ O s.2 (duT U c U.length) t:=he
    rw[e1] at he2;cases he2
end
end Go.Proofs.YtjehljjlcifndaaGreatDoor
