import Derived.Test.YtjehljjlcifndaaGreatDoorX03
import Derived.Test.YtjehljjlcifndaaGreatDoorX01
namespace Go.Proofs.YtjehljjlcifndaaGreatDoor
set_option maxHeartbeats 32000000
set_option maxRecDepth 100000
section
namespace Mil
open Go.Deep
def moreToks:List Bytes->List Tok
 | []=>[]
 | y::r=>fix sComma::nam y::moreToks r
def itemToks (i:It):List Tok:=
 if i.kind=1 then [fix wInput,nam i.nm,fix sColon,fix (tyText i.ty),fix wEvery,num i.every,fix sSemi]
 else if i.kind=2 then fix wOutput::nam (i.names.headD [])::(moreToks i.names.tail++[fix sSemi])
 else nam i.nm::fix sColon::fix (tyText i.ty)::fix sIs::(toks i.body++[fix sSemi])
def ItOk (i:It):Prop:=
 (∃x t k,i=⟨1,x,t,k,[],eNil⟩/\NameOk x/\(t=0\/t=1)/\1<=k/\k<=1000000)\/(∃x r,i=⟨2,[],0,0,x::r,eNil⟩/\NameOk x/\∀y,y∈r->NameOk y) \/
 (∃x t e,i=⟨3,x,t,0,[],e⟩/\NameOk x/\(t=0\/t=1)/\wf e false)
theorem moreToks_len:∀l:List Bytes,(moreToks l).length=2*l.length
 | []=>rfl
 | _::r=>by rw[moreToks,List.length_cons,List.length_cons,moreToks_len r,List.length_cons];omega
theorem pnames_ok:∀(n:Nat) (acc:List Bytes) (s:St) (x:List Bytes×St),pnames n acc s=some x->StOk s->∃more,x.1=acc++more/\(∀y,y∈more->NameOk y)/\StOk x.2/\used s+2*more.length<=used x.2
 | 0,_,_,_,h,_=>by cases h
 | n+1,acc,s,x,h,hs=>by
  rw[pnames] at h
  by_cases c:sees s sComma=true
  ·rw[if_pos c] at h
   obtain⟨s1,h1,h⟩:=obs h
   obtain⟨y,h2,h⟩:=obs h
   have f1:=adv_ok h1 hs (sees_kind c).1
   obtain⟨k1,f2⟩:=name_ok h2 f1.1
   obtain⟨more,e1,e2,e3,e4⟩:=pnames_ok n _ _ x h f2.1
   refine⟨y.1::more,by rw[e1];simp,?_,e3,?_⟩
   ·intro z hz
    rcases List.mem_cons.1 hz with rfl|hz
    ·exact k1
    ·exact e2 z hz
   ·have:=f1.2;have:=f2.2
    simp;omega
  ·rw[if_neg c] at h
   obtain rfl:=osi h
   exact⟨[],by simp,(fun y hy=>by cases hy),hs,by simp⟩
theorem pitem_ok {n:Nat} {s:St} {x:It×St} (h:pitem n s=some x) (hs:StOk s):ItOk x.1/\StOk x.2/\used s+(itemToks x.1).length<=used x.2:=by
 unfold pitem at h
 by_cases c1:sees s wInput=true
 ·rw[if_pos c1] at h
  obtain⟨s1,h1,h⟩:=obs h
  obtain⟨y,h2,h⟩:=obs h
  obtain⟨s3,h3,h⟩:=obs h
  obtain⟨t,h4,h⟩:=obs h
  obtain⟨s5,h5,h⟩:=obs h
  obtain⟨k,h6,h⟩:=obs h
  obtain⟨s7,h7,rfl⟩:=oms h
  have f1:=adv_ok h1 hs (sees_kind c1).1
  obtain⟨n1,f2⟩:=name_ok h2 f1.1
  have f3:=want_ok h3 f2.1
  obtain⟨t1,f4⟩:=ftype_ok h4 f3.1
  have f5:=want_ok h5 f4.1
  obtain⟨b1,b2,f6⟩:=number_ok (by omega) h6 f5.1
  have f7:=want_ok h7 f6.1
  refine⟨Or.inl ⟨y.1,t.1,k.1,rfl,n1,t1,by omega,by omega⟩,f7.1,?_⟩
  have:=f1.2;have:=f2.2;have:=f3.2;have:=f4.2;have:=f5.2;have:=f6.2;have:=f7.2
  show used s+7<=used s7
  omega
 rw[if_neg c1] at h
 by_cases c2:sees s wOutput=true
 ·rw[if_pos c2] at h
  obtain⟨s1,h1,h⟩:=obs h
  obtain⟨y,h2,h⟩:=obs h
  obtain⟨l,h3,h⟩:=obs h
  obtain⟨s4,h4,rfl⟩:=oms h
  have f1:=adv_ok h1 hs (sees_kind c2).1
  obtain⟨n1,f2⟩:=name_ok h2 f1.1
  obtain⟨more,e1,e2,e3,e4⟩:=pnames_ok n _ _ l h3 f2.1
  have f4:=want_ok h4 e3
  refine⟨Or.inr (Or.inl ⟨y.1,more,by rw[e1];rfl,n1,e2⟩),f4.1,?_⟩
  have:=f1.2;have:=f2.2;have:=f4.2
  have hl:(itemToks ⟨2,[],0,0,l.1,eNil⟩).length=2*more.length+3:=by
   rw[e1]
   show (fix wOutput::nam y.1::(moreToks more++[fix sSemi])).length=_
   simp[moreToks_len]
  show used s+(itemToks ⟨2,[],0,0,l.1,eNil⟩).length<=used s4
  omega
 rw[if_neg c2] at h
 obtain⟨y,h1,h⟩:=obs h
 obtain⟨s2,h2,h⟩:=obs h
 obtain⟨t,h3,h⟩:=obs h
 obtain⟨s4,h4,h⟩:=obs h
 obtain⟨e,h5,h⟩:=obs h
 obtain⟨s6,h6,rfl⟩:=oms h
 obtain⟨n1,f1⟩:=name_ok h1 hs
 have f2:=want_ok h2 f1.1
 obtain⟨t1,f3⟩:=ftype_ok h3 f2.1
 have f4:=want_ok h4 f3.1
 obtain⟨e1,e2,e3⟩:=(px_ok n 0 eNil s4 e h5 f4.1).1 (by omega)
 rw[len_tight (Nat.zero_le _)] at e3
 have f6:=want_ok h6 e2
 refine⟨Or.inr (Or.inr ⟨y.1,t.1,e.1,rfl,n1,t1,e1⟩),f6.1,?_⟩
 have:=f1.2;have:=f2.2;have:=f3.2;have:=f4.2;have:=f6.2
 have hl:(itemToks ⟨3,y.1,t.1,0,[],e.1⟩).length=(toks e.1).length+5:=by
  show (nam y.1::fix sColon::fix (tyText t.1)::fix sIs::(toks e.1++[fix sSemi])).length=_
  simp
 show used s+(itemToks ⟨3,y.1,t.1,0,[],e.1⟩).length<=used s6
 omega
def allToks (l:List It):List Tok:=(l.map itemToks).flatten
theorem pprog_ok:∀(n:Nat) (acc:List It) (s:St) (l:List It),pprog n acc s=some l->StOk s->acc.length<=60->∃more,l=acc++more/\(∀i,i∈more->ItOk i)/\l.length<=60/\used s+(allToks more).length<=600
 | 0,_,_,_,h,_,_=>by cases h
 | n+1,acc,s,l,h,hs,ha=>by
  rw[pprog] at h
  by_cases c0:s.tok.kind=0
  ·rw[if_pos c0] at h
   obtain rfl:=osi h
   refine⟨[],by simp,(fun i hi=>by cases hi),ha,?_⟩
   unfold used;rw[if_pos c0]
   exact hs.2.2
  ·rw[if_neg c0] at h
   by_cases c1:acc.length=60
   ·rw[if_pos c1] at h;cases h
   ·rw[if_neg c1] at h
    obtain⟨x,h1,h2⟩:=obs h
    obtain⟨k1,k2,k3⟩:=pitem_ok h1 hs
    obtain⟨more,e1,e2,e3,e4⟩:=pprog_ok n _ _ l h2 k2 (by simp;omega)
    refine⟨x.1::more,by rw[e1];simp,?_,e3,?_⟩
    ·intro i hi
     rcases List.mem_cons.1 hi with rfl|hi
     ·exact k1
     ·exact e2 i hi
    ·have:(allToks (x.1::more)).length=(itemToks x.1).length+(allToks more).length:=by simp[allToks]
     omega
theorem parsed_ok {b:Bytes} {l:List It} (h:Parsed b l):(∀i,i∈l->ItOk i)/\l.length<=60/\(allToks l).length<=600:=by
 obtain⟨n,h⟩:=h
 unfold parse at h
 by_cases c:4000 < b.length
 ·rw[if_pos c] at h;cases h
 ·rw[if_neg c] at h
  obtain⟨s,h1,h2⟩:=obs h
  obtain⟨k1,k2⟩:=adv'_ok (Nat.zero_le _) h1
  obtain⟨more,e1,e2,e3,e4⟩:=pprog_ok n [] s l h2 k1 (by simp)
  have e5:l=more:=by simpa using e1
  rw[<-e5] at e2 e4
  exact⟨e2,e3,by omega⟩
theorem pnames_le:∀(n m:Nat) (acc:List Bytes) (s:St) (x:List Bytes×St),n<=m->pnames n acc s=some x->pnames m acc s=some x
 | 0,_,_,_,_,_,h=>by cases h
 | n+1,0,_,_,_,hm,_=>by omega
 | n+1,m+1,acc,s,x,hm,h=>by
  rw[pnames] at h ⊢
  by_cases c:sees s sComma=true
  ·rw[if_pos c] at h ⊢
   obtain⟨s1,h1,h⟩:=obs h
   obtain⟨y,h2,h⟩:=obs h
   rw[h1,Option.bind_some,h2,Option.bind_some]
   exact pnames_le n m _ _ x (by omega) h
  ·rw[if_neg c] at h ⊢;exact h
theorem pitem_le {n m:Nat} (hm:n<=m) {s:St} {x:It×St} (h:pitem n s=some x):pitem m s=some x:=by
 unfold pitem at h ⊢
 by_cases c1:sees s wInput=true
 ·rw[if_pos c1] at h ⊢;exact h
 rw[if_neg c1] at h ⊢
 by_cases c2:sees s wOutput=true
 ·rw[if_pos c2] at h ⊢
  refine (Imp.refl _).bind (fun _=>(Imp.refl _).bind (fun _=>Imp.bind (fun y hy=>pnames_le n m _ _ y hm hy) (fun _=>Imp.refl _))) x h
 rw[if_neg c2] at h ⊢
 refine (Imp.refl _).bind (fun _=>(Imp.refl _).bind (fun _=>(Imp.refl _).bind (fun _=>(Imp.refl _).bind (fun _=>Imp.bind (fun y hy=>px_le hm hy) (fun _=>Imp.refl _))))) x h
theorem pprog_le:∀(n m:Nat) (acc:List It) (s:St) (l:List It),n<=m->pprog n acc s=some l->pprog m acc s=some l
 | 0,_,_,_,_,_,h=>by cases h
 | n+1,0,_,_,_,hm,_=>by omega
 | n+1,m+1,acc,s,l,hm,h=>by
  rw[pprog] at h ⊢
  by_cases c0:s.tok.kind=0
  ·rw[if_pos c0] at h ⊢;exact h
  ·rw[if_neg c0] at h ⊢
   by_cases c1:acc.length=60
   ·rw[if_pos c1] at h;cases h
   ·rw[if_neg c1] at h ⊢
    obtain⟨x,h1,h2⟩:=obs h
    rw[pitem_le (show n<=m by omega) h1,Option.bind_some]
    exact pprog_le n m _ _ l (by omega) h2
end Mil
end
section
namespace Mil
def Rname (acc:List Bytes) (s:St) (l:List Bytes×St):Prop:=∃n,pnames n acc s=some l
def Rin (s:St) (i:It) (t:St):Prop:=∃x s3 y s5 k,name s=some x/\want x.2 sColon=some s3/\ftype s3=some y/\want y.2 wEvery=some s5/\number 1 1000000 s5=some k/\want k.2 sSemi=some t/\i=⟨1,x.1,y.1,k.1,[],eNil⟩
def Rout (s:St) (i:It) (t:St):Prop:=∃x l,name s=some x/\Rname [x.1] x.2 l/\want l.2 sSemi=some t/\i=⟨2,[],0,0,l.1,eNil⟩
def Req (s:St) (i:It) (t:St):Prop:=∃x s2 y s4 e,name s=some x/\want x.2 sColon=some s2/\ftype s2=some y/\want y.2 sIs=some s4/\Ok 0 eNil s4 e/\want e.2 sSemi=some t/\i=⟨3,x.1,y.1,0,[],e.1⟩
def Rit (s:St) (i:It) (t:St):Prop:=∃n,pitem n s=some (i,t)
theorem it_in {s:St} (h:sees s wInput=true) (i:It) (t:St):Rit s i t↔∃s1,adv s=some s1/\Rin s1 i t:=by
 constructor
 ·rintro ⟨n,hn⟩
  unfold pitem at hn
  rw[if_pos h] at hn
  obtain⟨s1,h1,hn⟩:=obs hn
  obtain⟨x,h2,hn⟩:=obs hn
  obtain⟨s3,h3,hn⟩:=obs hn
  obtain⟨y,h4,hn⟩:=obs hn
  obtain⟨s5,h5,hn⟩:=obs hn
  obtain⟨k,h6,hn⟩:=obs hn
  obtain⟨s7,h7,hn⟩:=oms hn
  obtain⟨rfl,rfl⟩:=Prod.mk.inj hn
  exact⟨s1,h1,x,s3,y,s5,k,h2,h3,h4,h5,h6,h7,rfl⟩
 ·rintro ⟨s1,h1,x,s3,y,s5,k,h2,h3,h4,h5,h6,h7,rfl⟩
  refine⟨0,?_⟩
  unfold pitem
  rw[if_pos h,h1,Option.bind_some,h2,Option.bind_some,h3,Option.bind_some,h4,Option.bind_some,h5,Option.bind_some,h6,Option.bind_some,h7];rfl
theorem it_out {s:St} (h:sees s wOutput=true) (i:It) (t:St):Rit s i t↔∃s1,adv s=some s1/\Rout s1 i t:=by
 have o1:=sees_other h (y:=wInput) (by decide)
 constructor
 ·rintro ⟨n,hn⟩
  unfold pitem at hn
  rw[o1,if_neg (by decide),if_pos h] at hn
  obtain⟨s1,h1,hn⟩:=obs hn
  obtain⟨x,h2,hn⟩:=obs hn
  obtain⟨l,h3,hn⟩:=obs hn
  obtain⟨s7,h7,hn⟩:=oms hn
  obtain⟨rfl,rfl⟩:=Prod.mk.inj hn
  exact⟨s1,h1,x,l,h2,⟨n,h3⟩,h7,rfl⟩
 ·rintro ⟨s1,h1,x,l,h2,⟨n,h3⟩,h7,rfl⟩
  refine⟨n,?_⟩
  unfold pitem
  rw[o1,if_neg (by decide),if_pos h,h1,Option.bind_some,h2,Option.bind_some,h3,Option.bind_some,h7];rfl
theorem it_eq {s:St} (o1:sees s wInput=false) (o2:sees s wOutput=false) (i:It) (t:St):Rit s i t↔Req s i t:=by
 constructor
 ·rintro ⟨n,hn⟩
  unfold pitem at hn
  rw[o1,if_neg (by decide),o2,if_neg (by decide)] at hn
  obtain⟨x,h2,hn⟩:=obs hn
  obtain⟨s3,h3,hn⟩:=obs hn
  obtain⟨y,h4,hn⟩:=obs hn
  obtain⟨s5,h5,hn⟩:=obs hn
  obtain⟨e,h6,hn⟩:=obs hn
  obtain⟨s7,h7,hn⟩:=oms hn
  obtain⟨rfl,rfl⟩:=Prod.mk.inj hn
  exact⟨x,s3,y,s5,e,h2,h3,h4,h5,⟨n,h6⟩,h7,rfl⟩
 ·rintro ⟨x,s3,y,s5,e,h2,h3,h4,h5,⟨n,h6⟩,h7,rfl⟩
  refine⟨n,?_⟩
  unfold pitem
  rw[o1,if_neg (by decide),o2,if_neg (by decide),h2,Option.bind_some,h3,Option.bind_some,h4,Option.bind_some,h5,Option.bind_some,h6,Option.bind_some,h7];rfl
end Mil
end
end Go.Proofs.YtjehljjlcifndaaGreatDoor
