import Derived.Test.YticbokabjhnagaaGreatDoorW42
namespace Go.Proofs.YticbokabjhnagaaGreatDoor
set_option maxHeartbeats 32000000
section
open Go.RowKit
theorem Im.less {wE:World} {mb lb K:Nat} {wv:Value} {L:Nat→Option (List Int)} {S:Int→Int→Option Int} {p:Nat×Nat} {ps:List (Nat×Nat)} {w:World} (h:Im wE mb lb K wv L S (p::ps) w):Im wE mb lb K wv L S ps w:=by
 obtain ⟨fn,h1,h2⟩:=h
 exact ⟨fn,h1,fun q hq=>h2 q (List.mem_cons_of_mem _ hq)⟩
section
variable {m:Mil.Bytes→Option Int} {ρ:Mil.Bytes→Int→Int→Int} {F:List Flo} {Q:List Nq} {r:Nat→Nat} {L:Nat→Option (List Int)} {S:Int→Int→Option Int} {wE:World} {wv:Value} {B0 mb lb u:Nat}
set_option maxRecDepth 100000 in
theorem at_late (P:Pg m ρ F Q r L S wE wv B0) {j n:Int} (hn:2000 < n) {ps:List (Nat×Nat)} {w:World} (h:Im wE mb lb F.length wv L S ps w):Calls Tryz.prog 30 #[.pointer (some ⟨mb,0,none⟩),.int .i64 j,.int .i64 n] w (Ps (Im wE mb lb F.length wv L S ps) (S j n)):=by
 have HI:Hid (Im wE mb lb F.length wv L S ps w):=h
 have HS:Hid (S j n=none):=sol_late P.sol hn
 clear h P
 go_enter Tryz.func30,Tryz.ntmps30
 go_wp2_with fail
 go_ret2
 rw [HS.out]
 exact ⟨HI.out,0,rfl,fun v e=>by cases e⟩
set_option maxRecDepth 100000 in
theorem at_in (P:Pg m ρ F Q r L S wE wv B0) {j k:Nat} (hj:j < F.length) {l:List Int} (hl:L j=some l) (hk:k≤2000) {ps:List (Nat×Nat)} {w:World} (h:Im wE mb lb F.length wv L S ps w):Calls Tryz.prog 30 #[.pointer (some ⟨mb,0,none⟩),.int .i64 (j:Nat),.int .i64 (k:Nat)] w (Ps (Im wE mb lb F.length wv L S ps) (S (j:Nat) (k:Nat))):=by
 have HI:Hid (Im wE mb lb F.length wv L S ps w):=h
 have HP:Hid (Pg m ρ F Q r L S wE wv B0):=P
 obtain ⟨fn,hM,_⟩:=h
 have HM:Hid (Ms wE mb lb F.length wv L S w fn):=hM
 have HJ:Hid (j < F.length∧L j=some l):=⟨hj,hl⟩
 have HS:Hid (S (j:Nat) (k:Nat)=l[k]?):=sol_in P.sol hl hk
 obtain ⟨B,hB⟩:=hM.inp j l hj hl
 obtain ⟨oj,cj,hfj⟩:=own_shape hB
 have c1:w.cell? ⟨mb,1,none⟩=some (.slice (some ⟨lb,0,none⟩) F.length F.length):=(cell_of_row w mb 1 _ _ _ hM.m0).trans rfl
 have cl:w.cell? ⟨lb,j,none⟩=some (.slice oj l.length cj):=by rw [hM.row.cell hj,hfj]
 have h0:(0:Int)≤(j:Int):=by omega
 have h1:(j:Int) < (F.length:Int):=by omega
 have hk2:((k:Nat):Int)≤2000:=by omega
 by_cases hlt:k < l.length
 ·obtain ⟨x,hx⟩:∃x,l[k]?=some x:=⟨_,List.getElem?_eq_getElem hlt⟩
  have HX:Hid (l[k]?=some x):=hx
  obtain ⟨g,hoj⟩:∃g,oj=some ⟨g,0,none⟩:=by
   rcases hB.2 with ⟨e,e'⟩ | ⟨g,cap,cur,e,_⟩
   ·omega
   ·rw [hfj] at e;injection e with e1;exact ⟨g,e1⟩
  subst hoj
  rw [hfj] at hB
  have cx0:=nl_cell hB hx
  have cx:w.cell? ⟨g,k,none⟩=some (.int .i64 x):=(hM.be.cell (lt_of_cell cx0)).trans cx0
  have q1:¬((l.length:Nat):Int)≤((k:Nat):Int):=by omega
  have q2:((k:Nat):Int) < ((l.length:Nat):Int):=by omega
  have q3:(0:Int)≤((k:Nat):Int):=by omega
  clear P hM hB hfj hx hlt hl hj hk
  go_enter Tryz.func30,Tryz.ntmps30
  go_wp2_with fail
  refine wp_loop_rounds 1 ?_
  rw [rounds_succ]
  go_wp2_with fail
  go_ret2
  rw [HS.out,HX.out]
  exact ⟨HI.out,x,rfl,fun v e=>by cases e;rfl⟩
 ·have HX:Hid (l[k]?=none):=List.getElem?_eq_none (by omega)
  have q1:((l.length:Nat):Int)≤((k:Nat):Int):=by omega
  clear P hM hB hfj hlt hl hj hk
  go_enter Tryz.func30,Tryz.ntmps30
  go_wp2_with fail
  refine wp_loop_rounds 1 ?_
  rw [rounds_succ]
  go_wp2_with fail
  refine (goOn_in HP.out HJ.out.1 HJ.out.2 HM.out).mono ?_
  rintro E u ⟨rfl,rfl⟩
  go_wp2_with fail
  go_ret2
  rw [HS.out,HX.out]
  exact ⟨HI.out,0,rfl,fun v e=>by cases e⟩
set_option maxRecDepth 100000 in
theorem at_eq (P:Pg m ρ F Q r L S wE wv B0) (A:AtOk F r wE mb lb wv L S u) {j k:Nat} (hj:j < F.length) (hl:L j=none) (hk:k≤2000) (hu:mu F r (j:Nat) (k:Nat)≤u) {ps:List (Nat×Nat)} (hps:∀p∈ps,mu F r (j:Nat) (k:Nat) < mu F r (p.1:Nat) (p.2:Nat)) {w:World} (h:Im wE mb lb F.length wv L S ps w):Calls Tryz.prog 30 #[.pointer (some ⟨mb,0,none⟩),.int .i64 (j:Nat),.int .i64 (k:Nat)] w (Ps (Im wE mb lb F.length wv L S ps) (S (j:Nat) (k:Nat))):=by
 obtain ⟨q,hqm,hqj⟩:=P.eq j hj hl
 have HP:Hid (Pg m ρ F Q r L S wE wv B0):=P
 have HA:Hid (AtOk F r wE mb lb wv L S u):=A
 have HJ:Hid (j < F.length∧L j=none∧k≤2000∧mu F r (j:Nat) (k:Nat)≤u∧(∀p∈ps,mu F r (j:Nat) (k:Nat) < mu F r (p.1:Nat) (p.2:Nat))∧q∈Q∧q.flow=j):=⟨hj,hl,hk,hu,hps,hqm,hqj⟩
 have HI0:Hid (∃i,i≤2001∧Im wE mb lb F.length wv L S ((j,i)::ps) w):=by
  obtain ⟨fn,h1,h2⟩:=h
  obtain ⟨xs,x0,x1,_⟩:=h1.eqn j hj hl
  obtain ⟨o,c,e⟩:=own_shape x1
  exact ⟨xs.length,x0,fn,h1,fun p hp=>by
   rcases List.mem_cons.1 hp with rfl | hp
   ·exact ⟨o,c,e⟩
   ·exact h2 p hp⟩
 have h0:(0:Int)≤(j:Int):=by omega
 have h1:(j:Int) < (F.length:Int):=by omega
 have hk2:((k:Nat):Int)≤2000:=by omega
 have hk0:(0:Int)≤((k:Nat):Int):=by omega
 obtain ⟨i0,hi0,hI0⟩:=HI0.out
 have HI1:Hid (i0≤2001∧Im wE mb lb F.length wv L S ((j,i0)::ps) w):=⟨hi0,hI0⟩
 clear P A h hj hl hk hu hps hqm hqj HI0 hi0 hI0
 go_enter Tryz.func30,Tryz.ntmps30
 go_wp2_with fail
 go_loopg [6] (2001 - i0) (fun gk s6 wr=>∃i:Nat,i≤2001∧s6=.int .i64 0∧gk=2001 - i∧Hid (Im wE mb lb F.length wv L S ((j,i)::ps) wr))
 case atStart=>exact ⟨i0,HI1.out.1,rfl,rfl,HI1.out.2⟩
 case round=>
  obtain ⟨i,hi,rfl,hg,KI⟩:=hrel
  have HG:Hid (gk=2001 - i∧i≤2001):=⟨hg,hi⟩
  obtain ⟨fn,hM,hpin⟩:=KI.out
  obtain ⟨oj,cj,hfj⟩:∃o c,fn j=.slice o i c:=hpin (j,i) (by simp)
  have c1:wr.cell? ⟨mb,1,none⟩=some (.slice (some ⟨lb,0,none⟩) F.length F.length):=(cell_of_row wr mb 1 _ _ _ hM.m0).trans rfl
  have cl:wr.cell? ⟨lb,j,none⟩=some (.slice oj i cj):=by rw [hM.row.cell HJ.out.1,hfj]
  by_cases hlt:k < i
  ·obtain ⟨xs,x0,x1,x2⟩:=hM.eqn j HJ.out.1 HJ.out.2.1
   have hlen:xs.length=i:=by
    obtain ⟨o',c',e⟩:=own_shape x1
    exact pin_len (hpin (j,i) (by simp)) e
   obtain ⟨x,hx⟩:∃x,xs[k]?=some x:=⟨_,List.getElem?_eq_getElem (by omega)⟩
   have HX:Hid (S (j:Nat) (k:Nat)=some x):=x2 k x hx
   obtain ⟨g,hoj⟩:∃g,oj=some ⟨g,0,none⟩:=by
    rcases x1.2 with ⟨e,e'⟩ | ⟨g,cap,cur,e,_⟩
    ·omega
    ·rw [hfj] at e;injection e with e1;exact ⟨g,e1⟩
   subst hoj
   rw [hfj] at x1
   have cx:=nl_cell x1 hx
   have q1:¬((i:Nat):Int)≤((k:Nat):Int):=by omega
   have q2:((k:Nat):Int) < ((i:Nat):Int):=by omega
   clear hM hpin hfj hx hlt x0 x1 x2 hlen hg hi
   go_wp2_with fail
   go_ret2
   rw [HX.out]
   exact ⟨KI.out.less,x,rfl,fun v e=>by cases e;rfl⟩
  ·have q1:((i:Nat):Int)≤((k:Nat):Int):=by omega
   have HLE:Hid (i≤k):=by show _≤_;omega
   clear hM hpin hfj hlt hg hi
   go_wp2_with fail
   refine (goOn_eq HP.out HA.out HJ.out.1 HJ.out.2.1 HJ.out.2.2.2.2.2.1 HJ.out.2.2.2.2.2.2 (by have:=HLE.out;have:=HJ.out.2.2.1;omega) (Nat.le_trans (mu_le _ (by have:=HLE.out;omega)) HJ.out.2.2.2.1) (fun p hp=>Nat.lt_of_le_of_lt (mu_le _ (by have:=HLE.out;omega)) (HJ.out.2.2.2.2.1 p hp)) KI.out).mono ?_
   rintro E w2 ⟨rfl,hy,hn⟩
   cases hrv:Mip.sm m ρ S q.body (i:Nat) with
   | none=>
    have HN:Hid (Im wE mb lb F.length wv L S ((j,i)::ps) w2):=hn (by rw [hrv];rfl)
    have HZ:Hid (S (j:Nat) (k:Nat)=none):=sol_stop HP.out.sol HJ.out.2.1 (by have:=HP.out.cd.up q HJ.out.2.2.2.2.2.1;rw [HJ.out.2.2.2.2.2.2] at this;exact this) hrv HLE.out HJ.out.2.2.1
    clear hy hn hrv
    go_wp2_with fail
    go_ret2
    rw [HZ.out]
    exact ⟨HN.out.less,0,rfl,fun v e=>by cases e⟩
   | some v=>
    have HY:Hid (Im wE mb lb F.length wv L S ((j,i+1)::ps) w2):=hy (by rw [hrv];rfl)
    clear hy hn hrv
    go_wp2_with fail
    go_roundg (2001 - (i+1))
    case measure=>have:=HG.out;have:=HLE.out;have:=HJ.out.2.2.1;omega
    case rel=>exact ⟨i+1,by have:=HLE.out;have:=HJ.out.2.2.1;omega,rfl,rfl,HY⟩
theorem at_any (P:Pg m ρ F Q r L S wE wv B0):∀u,AtOk F r wE mb lb wv L S u
 | 0=>fun j n _ _ _ h=>by omega
 | u+1=>by
  intro j n hn hj hjk hm ps hps w hI
  have A:=at_any P u
  obtain ⟨k,rfl⟩:∃k:Nat,n=(k:Nat):=⟨n.toNat,by omega⟩
  obtain ⟨i,rfl⟩:∃i:Nat,j=(i:Nat):=⟨j.toNat,by omega⟩
  have e:((i:Nat):Int).toNat=i:=by omega
  rw [e] at hjk
  by_cases hk:k≤2000
  ·cases hl:L i with
   | some l=>exact at_in P hjk hl hk hI
   | none=>exact at_eq P A hjk hl hk (by omega) hps hI
  ·exact at_late P (by omega) hI
end
end
section
open Go.RowKit
theorem has_any (o:Option Addr) (n c:Nat) (k:Int) (w:World) {b:Bool} (hb:b=decide (0≤k∧k < (n:Nat))):Calls Tryz.prog 28 #[.slice o n c,.int .i64 k] w fun E w'=>E=.returned (.bool b)∧w=w':=by
 by_cases h0:0≤k
 ·by_cases h1:k < (n:Nat)
  ·have HD:Hid (b=true):=hb.trans (decide_eq_true ⟨h0,h1⟩)
   clear hb
   go_enter Tryz.func28,Tryz.ntmps28
   go_wp2_with fail
   go_ret
   rw [HD.out]
   exact ⟨rfl,rfl⟩
  ·have HD:Hid (b=false):=hb.trans (decide_eq_false (fun e=>h1 e.2))
   clear hb
   have h2:(n:Int)≤k:=by omega
   go_enter Tryz.func28,Tryz.ntmps28
   go_wp2_with fail
   go_ret
   rw [HD.out]
   exact ⟨rfl,rfl⟩
 ·have HD:Hid (b=false):=hb.trans (decide_eq_false (fun e=>h0 e.1))
  clear hb
  have h2:k < 0:=by omega
  go_enter Tryz.func28,Tryz.ntmps28
  go_wp2_with fail
  go_ret
  rw [HD.out]
  exact ⟨rfl,rfl⟩
def fitL (ty:Nat) (l:List Int):Bool:=ty != 1 || l.all (fun v=>v==0 || v==1)
set_option maxRecDepth 100000 in
theorem fits_any {w:World} {B ty:Nat} {v:Value} {l:List Int} (hl:l.length≤1000000) (h:Nl w B v l):Calls Tryz.prog 49 #[.int .i64 (ty:Nat),v] w fun E w'=>E=.returned (.bool (fitL ty l))∧w=w':=by
 obtain ⟨o,c,hv⟩:=own_shape h
 have HO:Hid (w.ownsRow B 2 1 (.slice o l.length c) l.length (i64s l)):=by
  show World.ownsRow _ _ _ _ _ _ _
  rw [←hv];exact h
 subst hv
 have HL:Hid (l.length≤1000000):=hl
 clear h hl
 by_cases ht:ty=1
 ·subst ht
  go_enter Tryz.func49,Tryz.ntmps49
  go_wp2_with fail
  go_loopg [11] l.length (fun gk s11 wr=>∃i:Nat,i≤l.length∧s11=.int .i64 (i:Nat)∧gk=l.length - i∧Hid ((l.take i).all (fun v=>v==0 || v==1)=true)∧wr=w)
  case atStart=>exact ⟨0,Nat.zero_le _,rfl,rfl,(by show _=_;simp),rfl⟩
  case round=>
   obtain ⟨i,hi,rfl,hg,HT,rfl⟩:=hrel
   have HG:Hid (gk=l.length - i∧i≤l.length):=⟨hg,hi⟩
   by_cases hlt:i < l.length
   ·obtain ⟨x,hx⟩:∃x,l[i]?=some x:=⟨_,List.getElem?_eq_getElem hlt⟩
    have HX:Hid (l[i]?=some x):=hx
    obtain ⟨g,hoj⟩:∃g,o=some ⟨g,0,none⟩:=by
     rcases HO.out.2 with ⟨e,e'⟩ | ⟨g,cap,cur,e,_⟩
     ·omega
     ·injection e with e1;exact ⟨g,e1⟩
    subst hoj
    have cx:wr.cell? ⟨g,i,none⟩=some (.int .i64 x):=nl_cell HO.out hx
    have q0:(0:Int)≤(i:Int):=by omega
    have q1:(i:Int) < (l.length:Int):=by omega
    have HTK:Hid ((l.take (i+1)).all (fun v=>v==0 || v==1)=(x==0 || x==1)):=by
     show _=_
     rw [List.take_add_one,hx,List.all_append,HT.out]
     simp
    have HF:Hid ((x==0 || x==1)=false→fitL 1 l=false):=fun e=>by
     show _=_
     have hm:=List.mem_of_getElem? HX.out
     unfold fitL
     rw [show (1 != 1)=false from rfl,Bool.false_or,List.all_eq_false]
     exact ⟨x,hm,by rw [e];simp⟩
    have q2:((l.length:Nat):Int)≤1000000:=by have:=HL.out;omega
    clear hx hg hi hlt
    by_cases z0:x=0
    ·subst z0
     go_wp2_with fail
     go_roundg (l.length - (i+1))
     case measure=>have:=HG.out;omega
     case rel=>exact ⟨i+1,by omega,by go_num,rfl,HTK.out,rfl⟩
    ·by_cases z1:x=1
     ·subst z1
      go_wp2_with fail
      go_roundg (l.length - (i+1))
      case measure=>have:=HG.out;omega
      case rel=>exact ⟨i+1,by omega,by go_num,rfl,HTK.out,rfl⟩
     ·have HZ:Hid (fitL 1 l=false):=HF.out (by simp [z0,z1])
      have y0:(x != 0)=true:=by simpa using z0
      have y1:(x != 1)=true:=by simpa using z1
      go_wp2_with fail
      go_ret
      rw [HZ.out]
      exact ⟨rfl,rfl⟩
   ·have hle:((l.length:Nat):Int)≤(i:Int):=by omega
    have HZ:Hid (fitL 1 l=true):=by
     show _=_
     have e:l.take i=l:=List.take_of_length_le (by omega)
     have:=HT.out
     rw [e] at this
     unfold fitL
     rw [this];rfl
    go_wp2_with fail
    go_ret
    rw [HZ.out]
    exact ⟨rfl,rfl⟩
 ·have HZ:Hid (fitL ty l=true):=by
   show _=_
   unfold fitL
   have:(ty != 1)=true:=by simpa using ht
   rw [this];rfl
  have h2:¬((ty:Nat):Int)=1:=by omega
  go_enter Tryz.func49,Tryz.ntmps49
  go_wp2_with fail
  go_ret
  rw [HZ.out]
  exact ⟨rfl,rfl⟩
def lay:List Flo→List (List Int)→Option (List (Option (List Int)))
 | [],[]=>some []
 | [],_::_=>none
 | f::r,ls=>if f.inp then (match ls with
   | []=>none
   | l::t=>if fitL f.ty l then (lay r t).map (some l::·) else none)
  else (lay r ls).map (none::·)
theorem lay_more (t:List Int) (ht:t.all (fun v=>v==0 || v==1)=true):∀(F:List Flo) (ls:List (List Int)) (A:List (Option (List Int))),lay F ls=some A→lay F (ls.map (·++t))=some (A.map (Option.map (·++t)))
 | [],[],A,h=>by cases h;rfl
 | [],_::_,A,h=>by cases h
 | f::r,ls,A,h=>by
  unfold lay at h ⊢
  by_cases hf:f.inp=true
  ·rw [if_pos hf] at h ⊢
   cases ls with
   | nil=>cases h
   | cons l s=>
    dsimp only [List.map_cons] at h ⊢
    split at h
    ·rename_i c
     obtain ⟨B,hB,rfl⟩:=Option.map_eq_some_iff.1 h
     have c':fitL f.ty (l++t)=true:=by
      unfold fitL at c ⊢
      rw [List.all_append,ht,Bool.and_true];exact c
     show (if fitL f.ty (l++t)=true then (lay r (s.map (·++t))).map (some (l++t)::·) else none)=_
     rw [if_pos c',lay_more t ht r s B hB]
     rfl
    ·cases h
  ·rw [if_neg hf] at h ⊢
   obtain ⟨B,hB,rfl⟩:=Option.map_eq_some_iff.1 h
   rw [lay_more t ht r ls B hB]
   rfl
theorem lay_len:∀(F:List Flo) (ls:List (List Int)) (A:List (Option (List Int))),lay F ls=some A→A.length=F.length
 | [],[],A,h=>by cases h;rfl
 | [],_::_,A,h=>by cases h
 | f::r,ls,A,h=>by
  unfold lay at h
  by_cases hf:f.inp=true
  ·rw [if_pos hf] at h
   cases ls with
   | nil=>cases h
   | cons l s=>
    dsimp only at h
    split at h
    ·obtain ⟨B,hB,rfl⟩:=Option.map_eq_some_iff.1 h
     rw [List.length_cons,List.length_cons,lay_len r s B hB]
    ·cases h
  ·rw [if_neg hf] at h
   obtain ⟨B,hB,rfl⟩:=Option.map_eq_some_iff.1 h
   rw [List.length_cons,List.length_cons,lay_len r ls B hB]
end
section
open Go.RowKit
structure Ins (w:World) (v:Value) (ls:List (List Int)) (us:List Value):Prop where
 row:∃B,w.ownsRow B 47 1 v ls.length us
 lst:∀(k:Nat) (l:List Int),ls[k]?=some l→∃u B,us[k]?=some u∧Nl w B u l
 len:ls.length≤1000∧∀l∈ls,l.length≤1000000
theorem Ins.below {w w':World} {v:Value} {ls:List (List Int)} {us:List Value} (h:Ins w v ls us) (k:Below w.heap.size w w'):Ins w' v ls us:=by
 obtain ⟨B,hB⟩:=h.row
 refine ⟨⟨B,own_kept hB (fun g hg=>k.block g (lt_of_heap (own_lt hB g hg).2.choose_spec))⟩,fun i l hl=>?_,h.len⟩
 obtain ⟨u,B',h1,h2⟩:=h.lst i l hl
 exact ⟨u,B',h1,own_kept h2 (fun g hg=>k.block g (lt_of_heap (own_lt h2 g hg).2.choose_spec))⟩
theorem flo_cell {w:World} {B g cap:Nat} {F:List Flo} (h:w.ownsRow B 42 5 (.slice (some ⟨g,0,none⟩) F.length cap) F.length (fls F)) {j:Nat} {f:Flo} (hf:F[j]?=some f) (i:Nat) (hi:i < 5) {u:Value} (hu:(flC f)[i]?=some u):w.cell? ⟨g,j*5+i,none⟩=some u:=
 own_cell h ((flat_at flC 5 (fun _=>rfl) F j i f hf hi).trans hu)
structure Ly (F:List Flo) (ls:List (List Int)) (w:World) (fn:Nat→Value) (i nx:Nat) (A:List (Option (List Int))):Prop where
 len:A.length=i
 le:i≤F.length
 nxl:nx≤ls.length
 go:lay F ls=(lay (F.drop i) (ls.drop nx)).map (A++·)
 yes:∀(k:Nat) l,A[k]?=some (some l)→∃B,Nl w B (fn k) l
 no:∀k,A[k]?=some none∨i≤k→fn k=.slice none 0 0
theorem Ly.zero (F:List Flo) (ls:List (List Int)) (w:World):Ly F ls w (fun _=>.slice none 0 0) 0 0 []:=
 ⟨rfl,Nat.zero_le _,Nat.zero_le _,by simp,fun k l h=>by simp at h,fun _ _=>rfl⟩
theorem Ly.skip {F:List Flo} {ls:List (List Int)} {w:World} {fn:Nat→Value} {i nx:Nat} {A:List (Option (List Int))} (h:Ly F ls w fn i nx A) {f:Flo} (hf:F[i]?=some f) (hi:f.inp=false):Ly F ls w fn (i+1) nx (A++[none]):=by
 have hlt:=(List.getElem?_eq_some_iff.1 hf).1
 have ed:F.drop i=f::F.drop (i+1):=by rw [List.drop_eq_getElem_cons hlt];rw [(List.getElem?_eq_some_iff.1 hf).2]
 refine ⟨by simp [h.len],hlt,h.nxl,?_,fun k l hk=>?_,fun k hk=>?_⟩
 ·rw [h.go,ed]
  conv=>lhs;unfold lay
  rw [if_neg (by rw [hi];decide),Option.map_map]
  congr 1
  funext x
  simp
 ·rcases Nat.lt_or_ge k A.length with c | c
  ·rw [List.getElem?_append_left c] at hk;exact h.yes k l hk
  ·rw [List.getElem?_append_right c] at hk
   have:=(List.getElem?_eq_some_iff.1 hk).1
   have e:k - A.length=0:=by simp at this;omega
   rw [e] at hk;simp at hk
 ·refine h.no k ?_
  rcases hk with hk | hk
  ·rcases Nat.lt_or_ge k A.length with c | c
   ·rw [List.getElem?_append_left c] at hk;exact Or.inl hk
   ·exact Or.inr (by have:=h.len;omega)
  ·exact Or.inr (by omega)
theorem Ly.take {F:List Flo} {ls:List (List Int)} {w:World} {fn:Nat→Value} {i nx:Nat} {A:List (Option (List Int))} (h:Ly F ls w fn i nx A) {f:Flo} (hf:F[i]?=some f) (hi:f.inp=true) {l:List Int} (hl:ls[nx]?=some l) (hfit:fitL f.ty l=true) {u:Value} {B:Nat} (hu:Nl w B u l):Ly F ls w (fun k=>if k=i then u else fn k) (i+1) (nx+1) (A++[some l]):=by
 have hlt:=(List.getElem?_eq_some_iff.1 hf).1
 have hln:=(List.getElem?_eq_some_iff.1 hl).1
 have ed:F.drop i=f::F.drop (i+1):=by rw [List.drop_eq_getElem_cons hlt];rw [(List.getElem?_eq_some_iff.1 hf).2]
 have el:ls.drop nx=l::ls.drop (nx+1):=by rw [List.drop_eq_getElem_cons hln];rw [(List.getElem?_eq_some_iff.1 hl).2]
 refine ⟨by simp [h.len],hlt,hln,?_,fun k l' hk=>?_,fun k hk=>?_⟩
 ·rw [h.go,ed,el]
  conv=>lhs;unfold lay
  rw [if_pos hi]
  show Option.map (A++·) (if fitL f.ty l=true then _ else _)=_
  rw [if_pos hfit,Option.map_map]
  congr 1
  funext x
  simp
 ·rcases Nat.lt_or_ge k A.length with c | c
  ·rw [List.getElem?_append_left c] at hk
   rw [if_neg (by have:=h.len;omega)]
   exact h.yes k l' hk
  ·rw [List.getElem?_append_right c] at hk
   have:=(List.getElem?_eq_some_iff.1 hk).1
   have e:k=A.length:=by simp at this;omega
   rw [e] at hk
   simp at hk
   subst hk
   rw [e,h.len,if_pos rfl]
   exact ⟨B,hu⟩
 ·have hne:k≠i:=by
   intro e
   rcases hk with hk | hk
   ·rw [e,←h.len,List.getElem?_append_right (Nat.le_refl _)] at hk;simp at hk
   ·omega
  rw [if_neg hne]
  refine h.no k ?_
  rcases hk with hk | hk
  ·rcases Nat.lt_or_ge k A.length with c | c
   ·rw [List.getElem?_append_left c] at hk;exact Or.inl hk
   ·exact Or.inr (by have:=h.len;omega)
  ·exact Or.inr (by omega)
theorem Ly.stop {F:List Flo} {ls:List (List Int)} {w:World} {fn:Nat→Value} {i nx:Nat} {A:List (Option (List Int))} (h:Ly F ls w fn i nx A) {f:Flo} (hf:F[i]?=some f) (hi:f.inp=true) (hn:∀l,ls[nx]?=some l→fitL f.ty l=false):lay F ls=none:=by
 have hlt:=(List.getElem?_eq_some_iff.1 hf).1
 have ed:F.drop i=f::F.drop (i+1):=by rw [List.drop_eq_getElem_cons hlt];rw [(List.getElem?_eq_some_iff.1 hf).2]
 rw [h.go,ed]
 unfold lay
 rw [if_pos hi]
 rcases Nat.lt_or_ge nx ls.length with c | c
 ·have el:ls.drop nx=ls[nx]::ls.drop (nx+1):=List.drop_eq_getElem_cons c
  rw [el]
  show Option.map (A++·) (if fitL f.ty ls[nx]=true then _ else _)=none
  rw [if_neg (by rw [hn _ (List.getElem?_eq_getElem c)];decide)]
  rfl
 ·rw [List.drop_eq_nil_of_le c]
  rfl
theorem Ly.done {F:List Flo} {ls:List (List Int)} {w:World} {fn:Nat→Value} {nx:Nat} {A:List (Option (List Int))} (h:Ly F ls w fn F.length nx A):lay F ls=if nx=ls.length then some A else none:=by
 rw [h.go,List.drop_length]
 have:=h.nxl
 by_cases e:nx=ls.length
 ·rw [if_pos e,e,List.drop_length]
  simp [lay]
 ·rw [if_neg e,List.drop_eq_getElem_cons (by omega)]
  rfl
end
section
open Go.RowKit
theorem Tryz.infoSl : (Tryz.prog.info? 47).map (fun i => (i.zero, i.size, i.bytes)) = some (some (.slice none 0 0), 1, 24) := by kernel_rfl
abbrev floA (f : Flo) : Array Value := #[.string (bs f.nm), .int .i64 (f.ty : Nat), .int .i64 (f.per : Nat), .bool f.inp, .bool f.out]
theorem fits_q {V : World} {n B ty : Nat} {v : Value} {l : List Int} {b : Bool} (hl : l.length ≤ 1000000) (h : Nl V B v l) (hb : fitL ty l = b) : Calls Tryz.prog 49 #[.int .i64 (ty : Nat), v] (V.drewN n) fun E w' => E = .returned (.bool b) ∧ w' = V.drewN n :=
  (fits_any (w := V.drewN n) hl h).mono (fun E w' h => ⟨by rw [h.1, hb], h.2.symm⟩)
def LgPost (F : List Flo) (ls : List (List Int)) (w : World) (E : Ending) (w' : World) : Prop :=
  Below w.heap.size w w' ∧ ((lay F ls = none ∧ ∃ v, E = .returned (.tuple #[v, .bool false])) ∨
   ∃ A fn, lay F ls = some A ∧ E = .returned (.tuple #[.slice (some ⟨w.heap.size, 0, none⟩) F.length F.length, .bool true]) ∧ w'.rowIs w.heap.size 47 F.length fn ∧ (∀ (k : Nat) l, A[k]? = some (some l) → ∃ B, Nl w B (fn k) l) ∧ ∀ k, A[k]? = some none → fn k = .slice none 0 0)
set_option maxRecDepth 100000 in
theorem logsOf_any {w : World} {P B : Nat} {F : List Flo} {fv tv wv vi : Value} {ls : List (List Int)} {us : List Value} (hP : w.heap[P]? = some (.cells #[fv, tv, wv] 58 (0, 0))) (hF : w.ownsRow B 42 5 fv F.length (fls F)) (h60 : F.length ≤ 60) (hI : Ins w vi ls us) :
    Calls Tryz.prog 29 #[.pointer (some ⟨P, 0, none⟩), vi] w (LgPost F ls w) := by
  obtain ⟨of, cf, rfl⟩ := own_shape hF
  obtain ⟨BI, hBI⟩ := hI.row
  obtain ⟨oi, ci, rfl⟩ := own_shape hBI
  have c0 : w.cell? ⟨P, 0, none⟩ = some (.slice of F.length cf) := (cell_of_row w P 0 _ _ _ hP).trans rfl
  have HF : Hid (w.ownsRow B 42 5 (.slice of F.length cf) F.length (fls F)) := hF
  have HII : Hid (Ins w (.slice oi ls.length ci) ls us) := hI
  have HBI : Hid (w.ownsRow BI 47 1 (.slice oi ls.length ci) ls.length us) := hBI
  have H60 : Hid (F.length ≤ 60 ∧ ls.length ≤ 1000) := ⟨h60, hI.len.1⟩
  have hmk := fun w => run_make_row' (P := Tryz.prog) 45 47 (.slice none 0 0) 24 Tryz.underlying45 Tryz.infoSl rfl .i64 .i64 F.length (by omega) (by omega) w
  have HB0 : Hid (Below w.heap.size w (w.alloc (.cells (madeCells #[.slice none 0 0] F.length) 47))) := (Below.refl _ _).alloc (Nat.le_refl _) _
  have HR0 : Hid ((w.alloc (.cells (madeCells #[.slice none 0 0] F.length) 47)).rowIs w.heap.size 47 F.length (fun _ => .slice none 0 0)) := World.rowIs_made w _ _ _
  have c0' : (w.alloc (.cells (madeCells #[.slice none 0 0] F.length) 47)).cell? ⟨P, 0, none⟩ = some (.slice of F.length cf) := (HB0.out.cell (lt_of_cell c0)).trans c0
  clear hP hF hI hBI h60
  go_enter Tryz.func29, Tryz.ntmps29
  go_wp2_with fail
  clear hmk c0
  generalize w.alloc (.cells (madeCells #[.slice none 0 0] F.length) 47) = W at HB0 HR0 c0' ⊢
  clear c0'
  go_loopg [7, 21] F.length (fun gk s7 s21 wr => ∃ (i nx : Nat) (fn : Nat → Value) (A : List (Option (List Int))), s7 = .int .i64 (nx : Nat) ∧ s21 = .int .i64 (i : Nat) ∧ gk = F.length - i ∧ Hid (Below w.heap.size w wr) ∧ Hid (wr.rowIs w.heap.size 47 F.length fn) ∧ Hid (Ly F ls w fn i nx A))
  case atStart => exact ⟨0, 0, _, _, rfl, rfl, rfl, HB0, HR0, Ly.zero F ls w⟩
  case round =>
    obtain ⟨i, nx, fn, A, rfl, rfl, hg, KB, KR, KL⟩ := hrel
    have HG : Hid (gk = F.length - i) := hg
    clear hg HB0 HR0
    by_cases hlt : i < F.length
    · have HLT : Hid (i < F.length ∧ nx ≤ ls.length) := ⟨hlt, KL.out.nxl⟩
      obtain ⟨f, hf⟩ : ∃ f, F[i]? = some f := ⟨_, List.getElem?_eq_getElem hlt⟩
      have HFI : Hid (F[i]? = some f) := hf
      obtain ⟨g, hof⟩ : ∃ g, of = some ⟨g, 0, none⟩ := by
        rcases HF.out.2 with ⟨_, e⟩ | ⟨g, cap, cur, e, _⟩
        · omega
        · injection e with e1; exact ⟨g, e1⟩
      subst hof
      have kp : ∀ {q : Addr} {v : Value}, w.cell? q = some v → wr.cell? q = some v := fun hq => (KB.out.cell (lt_of_cell hq)).trans hq
      have e0 : wr.cell? ⟨g, i * 5, none⟩ = some (.string (bs f.nm)) := kp (flo_cell HF.out hf 0 (by decide) rfl)
      have e1 : wr.cell? ⟨g, i * 5 + 1, none⟩ = some (.int .i64 (f.ty : Nat)) := kp (flo_cell HF.out hf 1 (by decide) rfl)
      have e2 : wr.cell? ⟨g, i * 5 + 2, none⟩ = some (.int .i64 (f.per : Nat)) := kp (flo_cell HF.out hf 2 (by decide) rfl)
      have e3 : wr.cell? ⟨g, i * 5 + 3, none⟩ = some (.bool f.inp) := kp (flo_cell HF.out hf 3 (by decide) rfl)
      have e4 : wr.cell? ⟨g, i * 5 + 4, none⟩ = some (.bool f.out) := kp (flo_cell HF.out hf 4 (by decide) rfl)
      have h0 : (0 : Int) ≤ (i : Int) := by omega
      have h1 : (i : Int) < (F.length : Int) := by omega
      have q60 : (F.length : Int) ≤ 60 := by have := H60.out.1; omega
      have qls : ((ls.length : Nat) : Int) ≤ 1000 := by have := H60.out.2; omega
      have VB : Hid (Below w.heap.size w (wr.alloc (.cells (floA f) 42))) := KB.out.alloc KB.out.size _
      have VR : Hid ((wr.alloc (.cells (floA f) 42)).rowIs w.heap.size 47 F.length fn) := KR.out.alloc _
      clear hf kp
      by_cases hin : f.inp = true
      · have HIN : Hid (f.inp = true) := hin
        rw [hin] at e3
        have VB2 : Hid (Below w.heap.size w (wr.alloc (.cells #[.string (bs f.nm), .int .i64 (f.ty : Nat), .int .i64 (f.per : Nat), .bool true, .bool f.out] 42))) := by
          have h := VB.out
          simp only [floA, hin] at h
          exact h
        have VR2 : Hid ((wr.alloc (.cells #[.string (bs f.nm), .int .i64 (f.ty : Nat), .int .i64 (f.per : Nat), .bool true, .bool f.out] 42)).rowIs w.heap.size 47 F.length fn) := by
          have h := VR.out
          simp only [floA, hin] at h
          exact h
        have x1 : (wr.alloc (.cells #[.string (bs f.nm), .int .i64 (f.ty : Nat), .int .i64 (f.per : Nat), .bool true, .bool f.out] 42)).cell? ⟨wr.heap.size, 1, none⟩ = some (.int .i64 (f.ty : Nat)) := by simp
        clear VB VR hin
        go_upto_region 7 with fail
        clear e0 e1 e2 e3 e4
        generalize wr.alloc (.cells #[.string (bs f.nm), .int .i64 (f.ty : Nat), .int .i64 (f.per : Nat), .bool true, .bool f.out] 42) = V at VB2 VR2 x1 ⊢
        have hnl := HLT.out.2
        by_cases hnx : nx = ls.length
        · have HST : Hid (lay F ls = none) := KL.out.stop HFI.out HIN.out (fun l hl => by
            have := (List.getElem?_eq_some_iff.1 hl).1
            omega)
          have q1 : ((nx : Nat) : Int) = ((ls.length : Nat) : Int) := by omega
          clear hnx hnl
          go_quiet (fail)
          go_wp2_with fail
          go_ret2
          exact ⟨below_drewN VB2.out _, Or.inl ⟨HST.out, _, rfl⟩⟩
        · obtain ⟨l, hl⟩ : ∃ l, ls[nx]? = some l := ⟨_, List.getElem?_eq_getElem (by omega)⟩
          obtain ⟨u, BU, hus, hnl2⟩ := HII.out.lst nx l hl
          obtain ⟨gi, hoi⟩ : ∃ gi, oi = some ⟨gi, 0, none⟩ := by
            rcases HBI.out.2 with ⟨_, e⟩ | ⟨gi, cap, cur, e, _⟩
            · omega
            · injection e with e1; exact ⟨gi, e1⟩
          subst hoi
          have cu0 : w.cell? ⟨gi, nx, none⟩ = some u := own_cell HBI.out hus
          have cu : V.cell? ⟨gi, nx, none⟩ = some u := (VB2.out.cell (lt_of_cell cu0)).trans cu0
          obtain ⟨ou, cu', rfl⟩ := own_shape hnl2
          have HU : Hid (ls[nx]? = some l ∧ Nl w BU (.slice ou l.length cu') l ∧ l.length ≤ 1000000) := ⟨hl, hnl2, HII.out.len.2 l (List.mem_of_getElem? hl)⟩
          have HNV : Hid (Nl V BU (.slice ou l.length cu') l) := own_kept hnl2 (fun g hg => VB2.out.block g (lt_of_heap (own_lt hnl2 g hg).2.choose_spec))
          have q0 : (0 : Int) ≤ ((nx : Nat) : Int) := by omega
          have q1 : ((nx : Nat) : Int) < ((ls.length : Nat) : Int) := by omega
          have q2 : (((nx : Nat) : Int) == ((ls.length : Nat) : Int)) = false := by simp; omega
          have q3 : decide (((nx : Nat) : Int) = ((ls.length : Nat) : Int)) = false := decide_eq_false (by omega)
          have q4 : ¬ ((nx : Nat) : Int) = ((ls.length : Nat) : Int) := by omega
          clear hnx hl hus hnl2 cu0 hnl
          cases hfit : fitL f.ty l with
          | false =>
            have HFT : Hid (fitL f.ty l = false) := hfit
            have HST : Hid (lay F ls = none) := KL.out.stop HFI.out HIN.out (fun l' hl' => by rw [HU.out.1] at hl'; cases hl'; exact hfit)
            clear hfit
            go_quiet (first | (go_at_call 49; refine Calls.quiet_of_same (fits_q HU.out.2.2 HNV.out HFT.out)))
            go_wp2_with fail
            go_ret2
            exact ⟨below_drewN VB2.out _, Or.inl ⟨HST.out, _, rfl⟩⟩
          | true =>
            have HFT : Hid (fitL f.ty l = true) := hfit
            have HTK : Hid (Ly F ls w (fun k => if k = i then .slice ou l.length cu' else fn k) (i + 1) (nx + 1) (A ++ [some l])) := KL.out.take HFI.out HIN.out HU.out.1 hfit HU.out.2.1
            clear hfit
            go_quiet (first | (go_at_call 49; refine Calls.quiet_of_same (fits_q HU.out.2.2 HNV.out HFT.out)))
            have ca := VR2.out.cell HLT.out.1
            have za := VR2.out.frozen i
            go_wp2_with fail
            go_roundg (F.length - (i + 1))
            case measure => have := HG.out; have := HLT.out; omega
            case rel => exact ⟨i + 1, nx + 1, _, _, by go_num, by go_num, rfl, (below_drewN VB2.out _).setCell (Nat.le_refl _) _, VR2.out.set i _, HTK⟩
      · have hin' : f.inp = false := by simpa using hin
        have HSK : Hid (Ly F ls w fn (i + 1) nx (A ++ [none])) := KL.out.skip HFI.out hin'
        rw [hin'] at e3
        clear hin
        go_wp2_with fail
        go_roundg (F.length - (i + 1))
        case measure => have := HG.out; have := HLT.out; omega
        case rel => exact ⟨i + 1, nx, fn, _, rfl, by go_num, rfl, (by have h := VB.out; simp only [floA, hin'] at h; exact h), (by have h := VR.out; simp only [floA, hin'] at h; exact h), HSK⟩
    · have hle : (F.length : Int) ≤ (i : Int) := by omega
      have HE : Hid (i = F.length) := by show _ = _; have := KL.out.le; omega
      have hnl := KL.out.nxl
      have HD : Hid (lay F ls = if nx = ls.length then some A else none) := by
        have := KL.out
        rw [HE.out] at this
        exact this.done
      by_cases hnx : nx = ls.length
      · have HN : Hid (nx = ls.length) := hnx
        have q1 : ((nx : Nat) : Int) = ((ls.length : Nat) : Int) := by omega
        clear hnl
        go_wp2_with fail
        go_ret2
        refine ⟨KB.out, Or.inr ⟨A, fn, by rw [HD.out, if_pos HN.out], ?_, KR.out, KL.out.yes, fun k hk => KL.out.no k (Or.inl hk)⟩⟩
        rw [HN.out]
        simp
      · have HN : Hid (nx ≠ ls.length) := hnx
        have q1 : ¬ ((nx : Nat) : Int) = ((ls.length : Nat) : Int) := by omega
        clear hnl
        go_wp2_with fail
        go_ret2
        refine ⟨KB.out, Or.inl ⟨by rw [HD.out, if_neg HN.out], .slice (some ⟨w.heap.size, 0, none⟩) F.length F.length, ?_⟩⟩
        have : (((nx : Nat) : Int) == ((ls.length : Nat) : Int)) = false := by have := HN.out; simp; omega
        simp [this]
end
section
open Go.RowKit
theorem find_up:∀{Q:List Nq},(Q.map Nq.flow).Pairwise (· < ·)→∀q∈Q,Q.find? (fun x=>x.flow==q.flow)=some q
 | [],_,q,hq=>by cases hq
 | x::r,h,q,hq=>by
  rw [List.map_cons,List.pairwise_cons] at h
  rcases List.mem_cons.1 hq with rfl | hq
  ·rw [List.find?_cons_of_pos (by simp)]
  ·have:=h.1 q.flow (List.mem_map.2 ⟨q,hq,rfl⟩)
   rw [List.find?_cons_of_neg (by simp;omega)]
   exact find_up h.2 q hq
theorem way_first {nd:Nat→List Nat} {a b:Nat} (h:Mip.Way nd a b):∃x,x∈nd a:=by
 induction h with
 | single hb=>exact ⟨_,hb⟩
 | tail _ _ ih=>exact ih
theorem cd_ex {N:Nat} {l:List Mip.It} (hi:Items l) (h:okk N l 7) (hF:(dcl N l).2.F.length≤60) (hQ:(dcl N l).2.Q.length≤60):∃r,Cd (dcl N l).2.m (prd N l) (dcl N l).2.Q r:=by
 have hz:=rz_prd hi (okk_less h (by decide)) hQ
 have hpos:=prd_pos hi (okk_less h (by decide)) hQ
 have hper:=h.2.2.2.2.1 (by decide)
 have hcyc:=cyc_each (h.2.2.2.2.2.2 (by decide))
 have hlen:=prd_len (N:=N) l
 obtain ⟨r,r1,r2⟩:=rank_ex (nd:=ndf (dcl N l).2.m (dcl N l).2.Q) (K:=(prd N l).length) (fun a b hb=>by
  unfold ndf at hb
  cases e:(dcl N l).2.Q.find? (fun q=>q.flow==a) with
  | none=>rw [e] at hb;simp at hb
  | some q=>
   rw [e] at hb
   exact nds_lt hz.fq.fit q.body (hz.un q (List.mem_of_find?_eq_some e)) b hb) (fun j hj=>by
  obtain ⟨x,hx⟩:=way_first hj
  unfold ndf at hx
  cases e:(dcl N l).2.Q.find? (fun q=>q.flow==j) with
  | none=>rw [e] at hx;simp at hx
  | some q=>
   have e2:=List.find?_some e
   have e3:q.flow=j:=by simpa using e2
   subst e3
   exact hcyc q (List.mem_of_find?_eq_some e) hj)
 refine ⟨r,⟨find_up hz.fq.up,fun q hq=>⟨(hz.fq.wf q hq).1,(hper q hq).1,hz.un q hq⟩,fun q hq=>(hper q hq).2,freeAt_each (h.2.2.2.1 (by decide)),fun j=>?_,fun x k hx=>?_,fun j=>by have:=r1 j;omega,fun q hq y hy=>r2 _ _ (by rw [ndf_of hz.fq.up hq];exact hy)⟩⟩
 ·unfold perAt
  cases e:(prd N l)[j]? with
  | none=>exact Nat.zero_le _
  | some f=>exact (hpos f (List.mem_of_getElem? e)).2
 ·obtain ⟨i,rfl,hi⟩:=hz.fq.fit x k hx
  rw [Int.toNat_natCast,perAt_of (List.getElem?_eq_getElem hi)]
  have:=(hpos _ (List.getElem_mem hi)).1
  omega
def Lof (A:List (Option (List Int))) (j:Nat):Option (List Int):=(A[j]?).getD none
theorem lay_at:∀(F:List Flo) (ls:List (List Int)) (A:List (Option (List Int))),lay F ls=some A→∀(j:Nat) f,F[j]?=some f→∃o,A[j]?=some o∧(o.isSome=f.inp)
 | [],ls,A,h,j,f,hf=>by simp at hf
 | x::r,ls,A,h,j,f,hf=>by
  unfold lay at h
  by_cases hx:x.inp=true
  ·rw [if_pos hx] at h
   cases ls with
   | nil=>cases h
   | cons l s=>
    dsimp only at h
    split at h
    ·obtain ⟨B,hB,rfl⟩:=Option.map_eq_some_iff.1 h
     cases j with
     | zero=>cases hf;exact ⟨_,rfl,hx.symm⟩
     | succ j=>exact lay_at r s B hB j f hf
    ·cases h
  ·rw [if_neg hx] at h
   obtain ⟨B,hB,rfl⟩:=Option.map_eq_some_iff.1 h
   cases j with
   | zero=>cases hf;exact ⟨_,rfl,by simpa using hx⟩
   | succ j=>exact lay_at r ls B hB j f hf
theorem pg_ex {N:Nat} {l:List Mip.It} (hi:Items l) (h:okk N l 7) (hF:(dcl N l).2.F.length≤60) (hQ:(dcl N l).2.Q.length≤60) {ρ:Mil.Bytes→Int→Int→Int} {B0:Nat} {wv:Value} {w:World} (hw:Wrw (dcl N l).2.m ρ B0 (prd N l).length (dcl N l).2.Q wv w) {ls:List (List Int)} {A:List (Option (List Int))} (hA:lay (prd N l) ls=some A) {r:Nat→Nat} (hr:Cd (dcl N l).2.m (prd N l) (dcl N l).2.Q r) {S:Int→Int→Option Int} (hS:∀j n,S j n=tv (dcl N l).2.m ρ (dcl N l).2.Q (Lof A) S j n) :
  Pg (dcl N l).2.m ρ (prd N l) (dcl N l).2.Q r (Lof A) S w wv B0:=by
 have hz:=rz_prd hi (okk_less h (by decide)) hQ
 have hlen:=prd_len (N:=N) l
 refine ⟨hr,hS,hw,fun j hj hn=>?_,fun j l' hl q hq e=>?_,fun x k hx=>?_,by omega⟩
 ·obtain ⟨o,h1,h2⟩:=lay_at _ _ _ hA j _ (List.getElem?_eq_getElem hj)
  have:o=none:=by simpa [Lof,h1] using hn
  subst this
  exact hz.fq.fe j _ (List.getElem?_eq_getElem hj) h2.symm
 ·obtain ⟨f,h1,h2⟩:=hz.fq.eqf q hq
  obtain ⟨o,h3,h4⟩:=lay_at _ _ _ hA _ _ h1
  rw [e] at h3
  have:o=some l':=by simpa [Lof,h3] using hl
  subst this
  rw [h2] at h4
  cases h4
 ·obtain ⟨i,rfl,hi⟩:=hz.fq.fit x k hx
  exact ⟨by omega,by simpa using hi⟩
end
end Go.Proofs.YticbokabjhnagaaGreatDoor
