import Derived.Test.YticbokabjhnagaaGreatDoorW40
namespace Go.Proofs.YticbokabjhnagaaGreatDoor
set_option maxHeartbeats 32000000
section
open Go.RowKit
theorem decl_src (N:Nat):∀(l:List Mip.It) (s:Ds),∀q∈(decl N s l).2.Q,q∈s.Q∨∃i∈l,i.kind=3∧q.body=i.body
 | [],_,q,hq=>Or.inl hq
 | i::r,s,q,hq=>by
  have up:∀s',q∈(decl N s' r).2.Q→(q∈s'.Q→q∈s.Q∨∃i'∈i::r,i'.kind=3∧q.body=i'.body)→q∈s.Q∨∃i'∈i::r,i'.kind=3∧q.body=i'.body:=fun s' h k=>by
   rcases decl_src N r s' q h with h1 | ⟨i',h1,h2⟩
   ·exact k h1
   ·exact Or.inr ⟨i',by simp [h1],h2⟩
  rw [decl] at hq
  by_cases k1:i.kind=1
  ·rw [if_pos k1] at hq
   split at hq
   ·exact Or.inl hq
   ·exact up _ hq Or.inl
  ·rw [if_neg k1] at hq
   by_cases k3:i.kind=3
   ·rw [if_pos k3] at hq
    split at hq
    ·exact Or.inl hq
    ·refine up _ hq (fun h=>?_)
     rcases List.mem_append.1 h with h | h
     ·exact Or.inl h
     ·simp at h
      exact Or.inr ⟨i,by simp,k3,by rw [h]⟩
   ·rw [if_neg k3] at hq
    split at hq
    ·exact Or.inl hq
    ·exact up _ hq Or.inl
theorem reso_un (m:Mil.Bytes→Option Int):∀(l:List Mip.It) (F:List Flo),(reso m F l).1=none→∀i∈l,i.kind=3→Mip.unres m i.body=none
 | [],_,_,i,hi,_=>by cases hi
 | x::r,F,h,i,hi,hk=>by
  rw [reso] at h
  by_cases k3:x.kind=3
  ·rw [if_pos k3] at h
   by_cases hu:(Mip.unres m x.body).isSome=true
   ·rw [if_pos hu] at h
    have h':Mip.unres m x.body=none:=h
    rw [h'] at hu;cases hu
   ·rw [if_neg hu] at h
    rcases List.mem_cons.1 hi with rfl | hi
    ·simpa using hu
    ·exact reso_un m r F h i hi hk
  ·rw [if_neg k3] at h
   rcases List.mem_cons.1 hi with rfl | hi
   ·exact absurd hk k3
   ·by_cases k2:x.kind=2
    ·rw [if_pos k2] at h
     split at h
     ·rename_i hs
      have h':(markAll m F x.names).1=none:=h
      rw [h'] at hs;cases hs
     ·exact reso_un m r _ h i hi hk
    ·rw [if_neg k2] at h
     exact reso_un m r F h i hi hk
def dcl (N:Nat) (l:List Mip.It):Option Nat×Ds:=decl N Ds.zero l
def rsv (N:Nat) (l:List Mip.It):Option Nat×List Flo:=reso (dcl N l).2.m (dcl N l).2.F l
def prd (N:Nat) (l:List Mip.It):List Flo:=rnds (dcl N l).2.m (dcl N l).2.Q 61 (rsv N l).2
def TysOk (N:Nat) (l:List Mip.It):Prop:=∀q∈(dcl N l).2.Q,Mip.tyOf (dcl N l).2.m (rsv N l).2 q.body=some q.ty
def okk (N:Nat) (l:List Mip.It) (k:Nat):Prop:=
 (1≤k→(dcl N l).1=none)∧(2≤k→(rsv N l).1=none)∧(3≤k→TysOk N l)∧(4≤k→freeAt (prd N l) (dcl N l).2.Q=none)∧(5≤k→PerOk (dcl N l).2.m (prd N l) (dcl N l).2.Q)∧(6≤k→tooGreat 1 (prd N l)=false)∧(7≤k→cyc (dcl N l).2.m (dcl N l).2.Q none)
def Bad (N:Nat) (l:List Mip.It) (k:Nat) (p:Int):Prop:=
 (k=5∧(dcl N l).1≠none)∨(k=6∧okk N l 1∧(rsv N l).1≠none)∨(k=7∧okk N l 2∧¬TysOk N l)∨(k=9∧okk N l 3∧∃q,freeAt (prd N l) (dcl N l).2.Q=some q∧p=(N:Int) - (q:Nat)) ∨
 (k=8∧okk N l 4∧¬(PerOk (dcl N l).2.m (prd N l) (dcl N l).2.Q∧tooGreat 1 (prd N l)=false))∨(k=10∧okk N l 6∧∃q,cyc (dcl N l).2.m (dcl N l).2.Q (some q)∧p=(N:Int) - (q:Nat))
def Ph (N:Nat) (w0:World) (iv:Value) (c b:Nat) (l:List Mip.It) (k:Nat) (w:World):Prop:=
 okk N l k∧((k=0∧Cs N w0 iv c b 0 (fun _=>none) [] [] (.slice none 0 0) (.slice none 0 0) w) ∨
  (k≠0∧(dcl N l).2.F.length≤60∧(dcl N l).2.Q.length≤60∧∃n fv qv,(k=1∧Cs N w0 iv c b n (dcl N l).2.m (dcl N l).2.F (nilX (dcl N l).2.Q) fv qv w)∨((k=2∨k=3)∧Cs N w0 iv c b n (dcl N l).2.m (rsv N l).2 (nilX (dcl N l).2.Q) fv qv w) ∨
   ((k=4∨k=5∨k=6)∧Cs N w0 iv c b n (dcl N l).2.m (prd N l) (nilX (dcl N l).2.Q) fv qv w)∨(k=7∧Fin N w0 iv c b n (dcl N l).2.m (prd N l) (dcl N l).2.Q fv qv w)))
theorem Cs.fin_below {N:Nat} {w0:World} {iv:Value} {c b n:Nat} {m:Mil.Bytes→Option Int} {F:List Flo} {Q:List Nq} {fv qv:Value} {w w':World} (h:Fin N w0 iv c b n m F Q fv qv w) (k:Below w.heap.size w w'):Fin N w0 iv c b n m F Q fv qv w':=by
 obtain ⟨X,h1,h2,h3⟩:=h
 exact ⟨X,h1,h2.below k,fun x hx=>(h3 x hx).below k⟩
theorem Ph.below {N:Nat} {w0:World} {iv:Value} {c b:Nat} {l:List Mip.It} {k:Nat} {w w':World} (h:Ph N w0 iv c b l k w) (hb:Below w.heap.size w w'):Ph N w0 iv c b l k w':=by
 obtain ⟨h0,h⟩:=h
 refine ⟨h0,?_⟩
 rcases h with ⟨h1,h2⟩ | ⟨h1,h2,h3,n,fv,qv,h⟩
 ·exact Or.inl ⟨h1,h2.below hb⟩
 ·refine Or.inr ⟨h1,h2,h3,n,fv,qv,?_⟩
  rcases h with ⟨e,h⟩ | ⟨e,h⟩ | ⟨e,h⟩ | ⟨e,h⟩
  ·exact Or.inl ⟨e,h.below hb⟩
  ·exact Or.inr (Or.inl ⟨e,h.below hb⟩)
  ·exact Or.inr (Or.inr (Or.inl ⟨e,h.below hb⟩))
  ·exact Or.inr (Or.inr (Or.inr ⟨e,Cs.fin_below h hb⟩))
section
variable {N:Nat} {l:List Mip.It}
theorem fq_dcl (hi:Items l) (h:okk N l 1):Fq (dcl N l).2.m (dcl N l).2.F (dcl N l).2.Q:=decl_ok N l Ds.zero hi.ok Fq.zero (h.1 (by decide))
theorem rz_rsv (hi:Items l) (h:okk N l 2) (hq:(dcl N l).2.Q.length≤60):Rz2 (dcl N l).2.m (rsv N l).2 (dcl N l).2.Q:=by
 have h1:okk N l 1:=⟨fun _=>h.1 (by decide),(fun e=>by omega),(fun e=>by omega),(fun e=>by omega),(fun e=>by omega),(fun e=>by omega),fun e=>by omega⟩
 obtain ⟨k1,k2⟩:=reso_keeps (dcl N l).2.m l (dcl N l).2.F
 refine ⟨(fq_dcl hi h1).kept k1 k2,fun q hq=>?_,hq⟩
 rcases decl_src N l Ds.zero q hq with h3 | ⟨i,h3,h4,h5⟩
 ·cases h3
 ·rw [h5]
  exact reso_un _ l _ (h.2.1 (by decide)) i h3 h4
theorem rz_prd (hi:Items l) (h:okk N l 2) (hq:(dcl N l).2.Q.length≤60):Rz2 (dcl N l).2.m (prd N l) (dcl N l).2.Q:=
 (rz_rsv hi h hq).alike (rnds_alike _ _ _ _) (rnds_le _ _ _ _ (rz_rsv hi h hq).fq.per)
theorem okk_less {j k:Nat} (h:okk N l k) (hjk:j≤k):okk N l j:=
 ⟨fun e=>h.1 (by omega),fun e=>h.2.1 (by omega),fun e=>h.2.2.1 (by omega),fun e=>h.2.2.2.1 (by omega),fun e=>h.2.2.2.2.1 (by omega),fun e=>h.2.2.2.2.2.1 (by omega),fun e=>h.2.2.2.2.2.2 (by omega)⟩
theorem prd_len (l:List Mip.It):(prd N l).length=(dcl N l).2.F.length:=(rnds_alike _ _ _ _).len.trans (reso_keeps _ _ _).1
theorem prd_pos (hi:Items l) (h:okk N l 4) (hq:(dcl N l).2.Q.length≤60):∀f∈prd N l,0 < f.per∧f.per≤1000000:=fun f hf=>by
 have hz:=rz_prd hi (okk_less h (by decide)) hq
 refine ⟨?_,hz.fq.per f hf⟩
 cases e:f.inp with
 | true=>exact hz.fq.inp f hf e
 | false=>
  obtain ⟨i,hfi⟩:=List.getElem?_of_mem hf
  obtain ⟨q,h1,h2⟩:=hz.fq.fe i f hfi e
  have:=freeAt_each (h.2.2.2.1 (by decide)) q h1
  rw [h2,perAt_of hfi] at this
  omega
end
def FoPost (N:Nat) (a:Nat→Addr) (w0:World) (iv:Value) (c b:Nat) (l:List Mip.It) (E:Ending) (w':World):Prop:=
 Below w0.heap.size w0 w'∧((E=.returned (.pointer none)∧Ph N w0 iv c b l 7 w')∨∃d p k,E=.returned (.pointer (some ⟨d,0,none⟩))∧Dg a w' d p k∧Bad N l k p)
def StepP (N:Nat) (a:Nat→Addr) (w0:World) (iv:Value) (c b:Nat) (l:List Mip.It) (k:Nat) (w:World) (E:Ending) (w':World):Prop:=
 Below w0.heap.size w0 w'∧((E=.returned (.pointer none)∧Ph N w0 iv c b l k w'∧Kt w w')∨∃d p k,E=.returned (.pointer (some ⟨d,0,none⟩))∧Dg a w' d p k∧Bad N l k p)
theorem okk_up {N:Nat} {l:List Mip.It} {k:Nat} (h:okk N l k) (h7:k < 7) (e1:k=0→(dcl N l).1=none) (e2:k=1→(rsv N l).1=none) (e3:k=2→TysOk N l) (e4:k=3→freeAt (prd N l) (dcl N l).2.Q=none) (e5:k=4→PerOk (dcl N l).2.m (prd N l) (dcl N l).2.Q) (e6:k=5→tooGreat 1 (prd N l)=false) (e7:k=6→cyc (dcl N l).2.m (dcl N l).2.Q none):okk N l (k+1):=by
 refine ⟨fun e=>?_,fun e=>?_,fun e=>?_,fun e=>?_,fun e=>?_,fun e=>?_,fun e=>?_⟩
 ·by_cases hk:k=0
  ·exact e1 hk
  ·exact h.1 (by omega)
 ·by_cases hk:k=1
  ·exact e2 hk
  ·exact h.2.1 (by omega)
 ·by_cases hk:k=2
  ·exact e3 hk
  ·exact h.2.2.1 (by omega)
 ·by_cases hk:k=3
  ·exact e4 hk
  ·exact h.2.2.2.1 (by omega)
 ·by_cases hk:k=4
  ·exact e5 hk
  ·exact h.2.2.2.2.1 (by omega)
 ·by_cases hk:k=5
  ·exact e6 hk
  ·exact h.2.2.2.2.2.1 (by omega)
 ·exact e7 (by omega)
theorem step0 {N:Nat} (hN:N≤4000) {a:Nat→Addr} {w0:World} (hE:Ce a w0) {b0:Nat} {l:List Mip.It} (hi:Items l) {o:Option Addr} {ci:Nat} (hR:Row N w0 b0 l (.slice o l.length ci)) {c b:Nat} {w:World} (h:Ph N w0 (.slice o l.length ci) c b l 0 w):Calls Tryz.prog 32 #[.pointer (some ⟨c,0,none⟩)] w (StepP N a w0 (.slice o l.length ci) c b l 1 w):=by
 obtain ⟨h0,⟨_,hC⟩ | ⟨e,_⟩⟩:=h
 ·refine (declare_any N hN a w0 hE b0 l hi o ci hR c b w hC).mono ?_
  rintro E w' ⟨hb,(⟨h1,rfl,n,fv,qv,h2,h3,h4,hC',hT⟩ | ⟨p,d,h1,rfl,hd⟩)⟩
  ·exact ⟨hb,Or.inl ⟨rfl,⟨okk_up h0 (by decide) (fun _=>h1) (by omega) (by omega) (by omega) (by omega) (by omega) (by omega),Or.inr ⟨by decide,h3,h4,n,fv,qv,Or.inl ⟨rfl,hC'⟩⟩⟩,hT⟩⟩
  ·refine ⟨hb,Or.inr ⟨d,_,5,rfl,hd,Or.inl ⟨rfl,fun e=>?_⟩⟩⟩
   have e':(decl N Ds.zero l).1=none:=e
   rw [h1] at e';cases e'
 ·exact absurd rfl e
theorem step1 {N:Nat} {a:Nat→Addr} {w0:World} (hE:Ce a w0) {b0:Nat} {l:List Mip.It} (hi:Items l) {o:Option Addr} {ci:Nat} (hR:Row N w0 b0 l (.slice o l.length ci)) {c b:Nat} {w:World} (h:Ph N w0 (.slice o l.length ci) c b l 1 w):Calls Tryz.prog 33 #[.pointer (some ⟨c,0,none⟩)] w (StepP N a w0 (.slice o l.length ci) c b l 2 w):=by
 obtain ⟨h0,⟨e,_⟩ | ⟨_,hf,hq,n,fv,qv,⟨_,hC⟩ | ⟨e,_⟩ | ⟨e,_⟩ | ⟨e,_⟩⟩⟩:=h
 ·omega
 ·refine (resolve_any N b0 l hi o ci hR hC hE (fq_dcl hi h0).fit).mono ?_
  rintro E w' ⟨hb,(⟨h1,rfl,hC',hT⟩ | ⟨p,d,h1,rfl,hd⟩)⟩
  ·exact ⟨hb,Or.inl ⟨rfl,⟨okk_up h0 (by decide) (by omega) (fun _=>h1) (by omega) (by omega) (by omega) (by omega) (by omega),Or.inr ⟨by decide,hf,hq,n,fv,qv,Or.inr (Or.inl ⟨Or.inl rfl,hC'⟩)⟩⟩,hT⟩⟩
  ·refine ⟨hb,Or.inr ⟨d,_,6,rfl,hd,Or.inr (Or.inl ⟨rfl,h0,fun e=>?_⟩)⟩⟩
   have e':(reso (dcl N l).2.m (dcl N l).2.F l).1=none:=e
   rw [h1] at e';cases e'
 ·omega
 ·omega
 ·omega
theorem step2 {N:Nat} {a:Nat→Addr} {w0:World} (hE:Ce a w0) (hL:Laid a w0) {l:List Mip.It} (hi:Items l) {c b:Nat} {w:World} {iv:Value} (h:Ph N w0 iv c b l 2 w):Calls Tryz.prog 34 #[.pointer (some ⟨c,0,none⟩)] w (StepP N a w0 iv c b l 3 w):=by
 obtain ⟨h0,⟨e,_⟩ | ⟨_,hf,hq,n,fv,qv,⟨e,_⟩ | ⟨_,hC⟩ | ⟨e,_⟩ | ⟨e,_⟩⟩⟩:=h
 ·omega
 ·omega
 ·refine (checkTypes_any hC hE hL (rz_rsv hi h0 hq)).mono ?_
  rintro E w' ⟨hb,(⟨h1,rfl,hC',hT⟩ | ⟨h1,d,p,rfl,hd⟩)⟩
  ·exact ⟨hb,Or.inl ⟨rfl,⟨okk_up h0 (by decide) (by omega) (by omega) (fun _=>h1) (by omega) (by omega) (by omega) (by omega),Or.inr ⟨by decide,hf,hq,n,fv,qv,Or.inr (Or.inl ⟨Or.inr rfl,hC'⟩)⟩⟩,hT⟩⟩
  ·exact ⟨hb,Or.inr ⟨d,_,7,rfl,hd,Or.inr (Or.inr (Or.inl ⟨rfl,h0,h1⟩))⟩⟩
 ·omega
 ·omega
theorem step3 {N:Nat} {a:Nat→Addr} {w0:World} (hE:Ce a w0) {l:List Mip.It} (hi:Items l) {c b:Nat} {w:World} {iv:Value} (h:Ph N w0 iv c b l 3 w):Calls Tryz.prog 35 #[.pointer (some ⟨c,0,none⟩)] w (StepP N a w0 iv c b l 4 w):=by
 obtain ⟨h0,⟨e,_⟩ | ⟨_,hf,hq,n,fv,qv,⟨e,_⟩ | ⟨_,hC⟩ | ⟨e,_⟩ | ⟨e,_⟩⟩⟩:=h
 ·omega
 ·omega
 ·refine (findPeriods_any hC hE (rz_rsv hi (okk_less h0 (by decide)) hq)).mono ?_
  rintro E w' ⟨hb,(⟨h1,rfl,hC',hT⟩ | ⟨p,d,h1,rfl,hd⟩)⟩
  ·exact ⟨hb,Or.inl ⟨rfl,⟨okk_up h0 (by decide) (by omega) (by omega) (by omega) (fun _=>h1) (by omega) (by omega) (by omega),Or.inr ⟨by decide,hf,hq,n,fv,qv,Or.inr (Or.inr (Or.inl ⟨Or.inl rfl,hC'⟩))⟩⟩,hT⟩⟩
  ·exact ⟨hb,Or.inr ⟨d,_,9,rfl,hd,Or.inr (Or.inr (Or.inr (Or.inl ⟨rfl,h0,p,h1,rfl⟩)))⟩⟩
 ·omega
 ·omega
theorem step4 {N:Nat} {a:Nat→Addr} {w0:World} (hE:Ce a w0) {l:List Mip.It} (hi:Items l) {c b:Nat} {w:World} {iv:Value} (h:Ph N w0 iv c b l 4 w):Calls Tryz.prog 36 #[.pointer (some ⟨c,0,none⟩)] w (StepP N a w0 iv c b l 5 w):=by
 obtain ⟨h0,⟨e,_⟩ | ⟨_,hf,hq,n,fv,qv,⟨e,_⟩ | ⟨e,_⟩ | ⟨_,hC⟩ | ⟨e,_⟩⟩⟩:=h
 ·omega
 ·omega
 ·omega
 ·refine (checkPeriods_any hC hE (rz_prd hi (okk_less h0 (by decide)) hq)).mono ?_
  rintro E w' ⟨hb,(⟨h1,rfl,hC',hT⟩ | ⟨h1,d,p,rfl,hd⟩)⟩
  ·exact ⟨hb,Or.inl ⟨rfl,⟨okk_up h0 (by decide) (by omega) (by omega) (by omega) (by omega) (fun _=>h1) (by omega) (by omega),Or.inr ⟨by decide,hf,hq,n,fv,qv,Or.inr (Or.inr (Or.inl ⟨Or.inr (Or.inl rfl),hC'⟩))⟩⟩,hT⟩⟩
  ·exact ⟨hb,Or.inr ⟨d,_,8,rfl,hd,Or.inr (Or.inr (Or.inr (Or.inr (Or.inl ⟨rfl,h0,fun e=>h1 e.1⟩))))⟩⟩
 ·omega
theorem step5 {N:Nat} {a:Nat→Addr} {w0:World} (hE:Ce a w0) {l:List Mip.It} (hi:Items l) {c b:Nat} {w:World} {iv:Value} (h:Ph N w0 iv c b l 5 w):Calls Tryz.prog 37 #[.pointer (some ⟨c,0,none⟩)] w (StepP N a w0 iv c b l 6 w):=by
 obtain ⟨h0,⟨e,_⟩ | ⟨_,hf,hq,n,fv,qv,⟨e,_⟩ | ⟨e,_⟩ | ⟨_,hC⟩ | ⟨e,_⟩⟩⟩:=h
 ·omega
 ·omega
 ·omega
 ·refine (checkCommon_cs hC hE (by rw [prd_len];omega) (prd_pos hi (okk_less h0 (by decide)) hq)).mono ?_
  rintro E w' ⟨hb,(⟨h1,rfl,hC',hT⟩ | ⟨h1,d,p,rfl,hd⟩)⟩
  ·exact ⟨hb,Or.inl ⟨rfl,⟨okk_up h0 (by decide) (by omega) (by omega) (by omega) (by omega) (by omega) (fun _=>h1) (by omega),Or.inr ⟨by decide,hf,hq,n,fv,qv,Or.inr (Or.inr (Or.inl ⟨Or.inr (Or.inr rfl),hC'⟩))⟩⟩,hT⟩⟩
  ·exact ⟨hb,Or.inr ⟨d,_,8,rfl,hd,Or.inr (Or.inr (Or.inr (Or.inr (Or.inl ⟨rfl,okk_less h0 (by decide),fun e=>h1 e.2⟩))))⟩⟩
 ·omega
theorem step6 {N:Nat} {a:Nat→Addr} {w0:World} (hE:Ce a w0) {l:List Mip.It} (hi:Items l) (hnod:∀i∈l,i.kind=3→nodes i.body≤600) {c b:Nat} {w:World} {iv:Value} (h:Ph N w0 iv c b l 6 w):Calls Tryz.prog 38 #[.pointer (some ⟨c,0,none⟩)] w (StepP N a w0 iv c b l 7 w):=by
 obtain ⟨h0,⟨e,_⟩ | ⟨_,hf,hq,n,fv,qv,⟨e,_⟩ | ⟨e,_⟩ | ⟨_,hC⟩ | ⟨e,_⟩⟩⟩:=h
 ·omega
 ·omega
 ·omega
 ·obtain ⟨cy,hcy⟩:∃cy,cyc (dcl N l).2.m (dcl N l).2.Q cy:=⟨_,rfl⟩
  refine (findNeeds_any hC hE (rz_prd hi (okk_less h0 (by decide)) hq) (by rw [prd_len];exact hf) (fun q hq=>?_) hcy).mono ?_
  ·rcases decl_src N l Ds.zero q hq with h3 | ⟨i,h3,h4,h5⟩
   ·cases h3
   ·rw [h5];exact hnod i h3 h4
  rintro E w' ⟨hb,(⟨h1,rfl,hC',hT⟩ | ⟨p,d,h1,rfl,hd⟩)⟩
  ·exact ⟨hb,Or.inl ⟨rfl,⟨okk_up h0 (by decide) (by omega) (by omega) (by omega) (by omega) (by omega) (by omega) (fun _=>by rw [h1] at hcy;exact hcy),Or.inr ⟨by decide,hf,hq,n,fv,qv,Or.inr (Or.inr (Or.inr ⟨rfl,hC'⟩))⟩⟩,hT⟩⟩
  ·exact ⟨hb,Or.inr ⟨d,_,10,rfl,hd,Or.inr (Or.inr (Or.inr (Or.inr (Or.inr ⟨rfl,h0,p,by rw [h1] at hcy;exact hcy,rfl⟩))))⟩⟩
 ·omega
set_option maxRecDepth 100000 in
theorem findOut_any {N:Nat} (hN:N≤4000) {a:Nat→Addr} {w0:World} (hE:Ce a w0) (hL:Laid a w0) {b0:Nat} {l:List Mip.It} (hi:Items l) (hnod:∀i∈l,i.kind=3→nodes i.body≤600) {o:Option Addr} {ci:Nat} (hR:Row N w0 b0 l (.slice o l.length ci)) {c b:Nat} {w:World} (h:Ph N w0 (.slice o l.length ci) c b l 0 w) (hw:Below w0.heap.size w0 w) :
  Calls Tryz.prog 21 #[.pointer (some ⟨c,0,none⟩)] w (FoPost N a w0 (.slice o l.length ci) c b l):=by
 have S0:Hid (∀w,Ph N w0 (.slice o l.length ci) c b l 0 w→Calls Tryz.prog 32 #[.pointer (some ⟨c,0,none⟩)] w (StepP N a w0 (.slice o l.length ci) c b l 1 w)):=fun w h=>step0 hN hE hi hR h
 have S1:Hid (∀w,Ph N w0 (.slice o l.length ci) c b l 1 w→Calls Tryz.prog 33 #[.pointer (some ⟨c,0,none⟩)] w (StepP N a w0 (.slice o l.length ci) c b l 2 w)):=fun w h=>step1 hE hi hR h
 have S2:Hid (∀w,Ph N w0 (.slice o l.length ci) c b l 2 w→Calls Tryz.prog 34 #[.pointer (some ⟨c,0,none⟩)] w (StepP N a w0 (.slice o l.length ci) c b l 3 w)):=fun w h=>step2 hE hL hi h
 have S3:Hid (∀w,Ph N w0 (.slice o l.length ci) c b l 3 w→Calls Tryz.prog 35 #[.pointer (some ⟨c,0,none⟩)] w (StepP N a w0 (.slice o l.length ci) c b l 4 w)):=fun w h=>step3 hE hi h
 have S4:Hid (∀w,Ph N w0 (.slice o l.length ci) c b l 4 w→Calls Tryz.prog 36 #[.pointer (some ⟨c,0,none⟩)] w (StepP N a w0 (.slice o l.length ci) c b l 5 w)):=fun w h=>step4 hE hi h
 have S5:Hid (∀w,Ph N w0 (.slice o l.length ci) c b l 5 w→Calls Tryz.prog 37 #[.pointer (some ⟨c,0,none⟩)] w (StepP N a w0 (.slice o l.length ci) c b l 6 w)):=fun w h=>step5 hE hi h
 have S6:Hid (∀w,Ph N w0 (.slice o l.length ci) c b l 6 w→Calls Tryz.prog 38 #[.pointer (some ⟨c,0,none⟩)] w (StepP N a w0 (.slice o l.length ci) c b l 7 w)):=fun w h=>step6 hE hi hnod h
 have HP0:Hid (Ph N w0 (.slice o l.length ci) c b l 0 w):=h
 have HW0:Hid (Below w0.heap.size w0 w):=hw
 clear h hw hN hE hL hi hnod hR
 generalize Value.slice o l.length ci=iv at S0 S1 S2 S3 S4 S5 S6 HP0
 go_enter Tryz.func21,Tryz.ntmps21
 go_wp2_with fail
 go_loopg [22] 7 (fun gk s22 wr=>∃k:Nat,k≤7∧s22=.int .i64 (k:Nat)∧gk=7 - k∧Hid (Below w0.heap.size w0 wr)∧Hid (Ph N w0 iv c b l k wr)∧Hid (wr.heap[w.heap.size]?=some (.cells #[.func (.func 32) #[.pointer (some ⟨c,0,none⟩)] #[],.func (.func 33) #[.pointer (some ⟨c,0,none⟩)] #[],.func (.func 34) #[.pointer (some ⟨c,0,none⟩)] #[],.func (.func 35) #[.pointer (some ⟨c,0,none⟩)] #[],.func (.func 36) #[.pointer (some ⟨c,0,none⟩)] #[],.func (.func 37) #[.pointer (some ⟨c,0,none⟩)] #[],.func (.func 38) #[.pointer (some ⟨c,0,none⟩)] #[]] 70 (0,0))))
 case atStart=>exact ⟨0,by decide,rfl,rfl,below_step HW0.out ((Below.refl _ _).alloc (Nat.le_refl _) _),HP0.out.below ((Below.refl _ _).alloc (Nat.le_refl _) _),heap_alloc_new w _⟩
 case round=>
  obtain ⟨k,hk,rfl,hg,KB,KP,KS⟩:=hrel
  have HG:Hid (gk=7 - k):=hg
  clear hg
  have hk8:k=0∨k=1∨k=2∨k=3∨k=4∨k=5∨k=6∨k=7:=by omega
  clear hk
  rcases hk8 with rfl | rfl | rfl | rfl | rfl | rfl | rfl | rfl
  ·have ck:=(cell_of_row wr w.heap.size 0 _ _ _ KS.out).trans rfl
   go_wp2_with fail
   refine (S0.out _ KP.out).mono ?_
   rintro E w1 ⟨hb1,(⟨rfl,hP1,hT1⟩ | ⟨d,p,kk,rfl,hd,hbad⟩)⟩
   ·have HB1:Hid (Below w0.heap.size w0 w1):=hb1
    have HP1:Hid (Ph N w0 iv c b l 1 w1):=hP1
    have HS1:=hT1 w.heap.size _ KS.out
    have HS2:=hidden HS1
    clear hb1 hP1 hT1 HS1 ck
    go_wp2
    go_roundg (7 - 1)
    case measure=>have:=HG.out;omega
    case rel=>exact ⟨1,by decide,by go_num,rfl,HB1,HP1,HS2⟩
   ·have HB1:Hid (Below w0.heap.size w0 w1):=hb1
    have HD:Hid (Dg a w1 d p kk∧Bad N l kk p):=⟨hd,hbad⟩
    clear hb1 hd hbad ck
    go_wp2
    go_ret
    exact ⟨HB1.out,Or.inr ⟨d,p,kk,rfl,HD.out.1,HD.out.2⟩⟩
  ·have ck:=(cell_of_row wr w.heap.size 1 _ _ _ KS.out).trans rfl
   go_wp2_with fail
   refine (S1.out _ KP.out).mono ?_
   rintro E w1 ⟨hb1,(⟨rfl,hP1,hT1⟩ | ⟨d,p,kk,rfl,hd,hbad⟩)⟩
   ·have HB1:Hid (Below w0.heap.size w0 w1):=hb1
    have HP1:Hid (Ph N w0 iv c b l 2 w1):=hP1
    have HS1:=hT1 w.heap.size _ KS.out
    have HS2:=hidden HS1
    clear hb1 hP1 hT1 HS1 ck
    go_wp2
    go_roundg (7 - 2)
    case measure=>have:=HG.out;omega
    case rel=>exact ⟨2,by decide,by go_num,rfl,HB1,HP1,HS2⟩
   ·have HB1:Hid (Below w0.heap.size w0 w1):=hb1
    have HD:Hid (Dg a w1 d p kk∧Bad N l kk p):=⟨hd,hbad⟩
    clear hb1 hd hbad ck
    go_wp2
    go_ret
    exact ⟨HB1.out,Or.inr ⟨d,p,kk,rfl,HD.out.1,HD.out.2⟩⟩
  ·have ck:=(cell_of_row wr w.heap.size 2 _ _ _ KS.out).trans rfl
   go_wp2_with fail
   refine (S2.out _ KP.out).mono ?_
   rintro E w1 ⟨hb1,(⟨rfl,hP1,hT1⟩ | ⟨d,p,kk,rfl,hd,hbad⟩)⟩
   ·have HB1:Hid (Below w0.heap.size w0 w1):=hb1
    have HP1:Hid (Ph N w0 iv c b l 3 w1):=hP1
    have HS1:=hT1 w.heap.size _ KS.out
    have HS2:=hidden HS1
    clear hb1 hP1 hT1 HS1 ck
    go_wp2
    go_roundg (7 - 3)
    case measure=>have:=HG.out;omega
    case rel=>exact ⟨3,by decide,by go_num,rfl,HB1,HP1,HS2⟩
   ·have HB1:Hid (Below w0.heap.size w0 w1):=hb1
    have HD:Hid (Dg a w1 d p kk∧Bad N l kk p):=⟨hd,hbad⟩
    clear hb1 hd hbad ck
    go_wp2
    go_ret
    exact ⟨HB1.out,Or.inr ⟨d,p,kk,rfl,HD.out.1,HD.out.2⟩⟩
  ·have ck:=(cell_of_row wr w.heap.size 3 _ _ _ KS.out).trans rfl
   go_wp2_with fail
   refine (S3.out _ KP.out).mono ?_
   rintro E w1 ⟨hb1,(⟨rfl,hP1,hT1⟩ | ⟨d,p,kk,rfl,hd,hbad⟩)⟩
   ·have HB1:Hid (Below w0.heap.size w0 w1):=hb1
    have HP1:Hid (Ph N w0 iv c b l 4 w1):=hP1
    have HS1:=hT1 w.heap.size _ KS.out
    have HS2:=hidden HS1
    clear hb1 hP1 hT1 HS1 ck
    go_wp2
    go_roundg (7 - 4)
    case measure=>have:=HG.out;omega
    case rel=>exact ⟨4,by decide,by go_num,rfl,HB1,HP1,HS2⟩
   ·have HB1:Hid (Below w0.heap.size w0 w1):=hb1
    have HD:Hid (Dg a w1 d p kk∧Bad N l kk p):=⟨hd,hbad⟩
    clear hb1 hd hbad ck
    go_wp2
    go_ret
    exact ⟨HB1.out,Or.inr ⟨d,p,kk,rfl,HD.out.1,HD.out.2⟩⟩
  ·have ck:=(cell_of_row wr w.heap.size 4 _ _ _ KS.out).trans rfl
   go_wp2_with fail
   refine (S4.out _ KP.out).mono ?_
   rintro E w1 ⟨hb1,(⟨rfl,hP1,hT1⟩ | ⟨d,p,kk,rfl,hd,hbad⟩)⟩
   ·have HB1:Hid (Below w0.heap.size w0 w1):=hb1
    have HP1:Hid (Ph N w0 iv c b l 5 w1):=hP1
    have HS1:=hT1 w.heap.size _ KS.out
    have HS2:=hidden HS1
    clear hb1 hP1 hT1 HS1 ck
    go_wp2
    go_roundg (7 - 5)
    case measure=>have:=HG.out;omega
    case rel=>exact ⟨5,by decide,by go_num,rfl,HB1,HP1,HS2⟩
   ·have HB1:Hid (Below w0.heap.size w0 w1):=hb1
    have HD:Hid (Dg a w1 d p kk∧Bad N l kk p):=⟨hd,hbad⟩
    clear hb1 hd hbad ck
    go_wp2
    go_ret
    exact ⟨HB1.out,Or.inr ⟨d,p,kk,rfl,HD.out.1,HD.out.2⟩⟩
  ·have ck:=(cell_of_row wr w.heap.size 5 _ _ _ KS.out).trans rfl
   go_wp2_with fail
   refine (S5.out _ KP.out).mono ?_
   rintro E w1 ⟨hb1,(⟨rfl,hP1,hT1⟩ | ⟨d,p,kk,rfl,hd,hbad⟩)⟩
   ·have HB1:Hid (Below w0.heap.size w0 w1):=hb1
    have HP1:Hid (Ph N w0 iv c b l 6 w1):=hP1
    have HS1:=hT1 w.heap.size _ KS.out
    have HS2:=hidden HS1
    clear hb1 hP1 hT1 HS1 ck
    go_wp2
    go_roundg (7 - 6)
    case measure=>have:=HG.out;omega
    case rel=>exact ⟨6,by decide,by go_num,rfl,HB1,HP1,HS2⟩
   ·have HB1:Hid (Below w0.heap.size w0 w1):=hb1
    have HD:Hid (Dg a w1 d p kk∧Bad N l kk p):=⟨hd,hbad⟩
    clear hb1 hd hbad ck
    go_wp2
    go_ret
    exact ⟨HB1.out,Or.inr ⟨d,p,kk,rfl,HD.out.1,HD.out.2⟩⟩
  ·have ck:=(cell_of_row wr w.heap.size 6 _ _ _ KS.out).trans rfl
   go_wp2_with fail
   refine (S6.out _ KP.out).mono ?_
   rintro E w1 ⟨hb1,(⟨rfl,hP1,hT1⟩ | ⟨d,p,kk,rfl,hd,hbad⟩)⟩
   ·have HB1:Hid (Below w0.heap.size w0 w1):=hb1
    have HP1:Hid (Ph N w0 iv c b l 7 w1):=hP1
    have HS1:=hT1 w.heap.size _ KS.out
    have HS2:=hidden HS1
    clear hb1 hP1 hT1 HS1 ck
    go_wp2
    go_roundg (7 - 7)
    case measure=>have:=HG.out;omega
    case rel=>exact ⟨7,by decide,by go_num,rfl,HB1,HP1,HS2⟩
   ·have HB1:Hid (Below w0.heap.size w0 w1):=hb1
    have HD:Hid (Dg a w1 d p kk∧Bad N l kk p):=⟨hd,hbad⟩
    clear hb1 hd hbad ck
    go_wp2
    go_ret
    exact ⟨HB1.out,Or.inr ⟨d,p,kk,rfl,HD.out.1,HD.out.2⟩⟩
  ·go_wp2
   go_ret
   exact ⟨KB.out,Or.inl ⟨rfl,KP.out⟩⟩
end
section
open Go.RowKit
abbrev cmC (iv : Value) (b : Nat) : Array Value := #[iv, .slice none 0 0, .map (some b), .slice none 0 0]
theorem newCompiler_any {w : World} {t : Nat} {o : Option Addr} {n ci : Nat} (ht : w.heap[t]? = some (.cells #[.slice o n ci] 95 (0, 0))) :
    Calls Tryz.prog 20 #[.pointer (some ⟨t, 0, none⟩)] w fun E w' => E = .returned (.pointer (some ⟨w.heap.size + 1, 0, none⟩)) ∧ w' = (w.alloc (.map #[] 0)).alloc (.cells (cmC (.slice o n ci) w.heap.size) 75) := by
  have c0 : w.cell? ⟨t, 0, none⟩ = some (.slice o n ci) := (cell_of_row w t 0 _ _ _ ht).trans rfl
  have hmm := @run_makeMap Tryz.prog
  clear ht
  go_enter Tryz.func20, Tryz.ntmps20
  go_wp2
  go_ret
  exact ⟨rfl, rfl⟩
theorem ph_zero {N : Nat} {w : World} {l : List Mip.It} {o : Option Addr} {n ci : Nat} : Ph N w (.slice o n ci) (w.heap.size + 1) w.heap.size l 0 ((w.alloc (.map #[] 0)).alloc (.cells (cmC (.slice o n ci) w.heap.size) 75)) := by
  have hb : Below w.heap.size w ((w.alloc (.map #[] 0)).alloc (.cells (cmC (.slice o n ci) w.heap.size) 75)) := below_step ((Below.refl _ _).alloc (Nat.le_refl _) _) ((Below.refl _ _).alloc (Nat.le_refl _) _)
  have e := heap_alloc_new (w.alloc (.map #[] 0)) (.cells (cmC (.slice o n ci) w.heap.size) 75)
  rw [World.size_alloc] at e
  refine ⟨⟨(fun h => by omega), (fun h => by omega), (fun h => by omega), (fun h => by omega), (fun h => by omega), (fun h => by omega), fun h => by omega⟩, Or.inl ⟨rfl, hb, Nat.le_succ _, Nat.le_refl _, e, ?_, World.ownsRow_nil _ _ _ _, World.ownsRow_nil _ _ _ _⟩⟩
  exact (Msi.made w).fr (Fr.of_below (own := fun _ => False) ((Below.refl _ _).alloc (Nat.le_refl _) _)) (fun e => e)
theorem Tw.below {m : Mil.Bytes → Option Int} {F : List Flo} {Q : List Nq} {B : Nat} {w w' : World} {v : Value} {U : List (Nat × Value)} (h : Tw m F Q B w v U) (k : Below w.heap.size w w') : Tw m F Q B w' v U :=
  ⟨own_kept h.row (fun g hg => k.block g (lt_of_heap (own_lt h.row g hg).2.choose_spec)), h.up, h.all, fun u hu => (h.lst u hu).below k⟩
structure Prg (ρ : Mil.Bytes → Int → Int → Int) (B0 N : Nat) (l : List Mip.It) (w : World) (P : Nat) : Prop where
  ok : okk N l 7
  len : (dcl N l).2.F.length ≤ 60 ∧ (dcl N l).2.Q.length ≤ 60
  blk : ∃ fv tv wv U B B', w.heap[P]? = some (.cells #[fv, tv, wv] 58 (0, 0)) ∧ w.ownsRow B 42 5 fv (prd N l).length (fls (prd N l)) ∧ Tw (dcl N l).2.m (prd N l) (dcl N l).2.Q B' w tv U ∧ Wrw (dcl N l).2.m ρ B0 (prd N l).length (dcl N l).2.Q wv w
theorem Prg.below {ρ : Mil.Bytes → Int → Int → Int} {B0 N : Nat} {l : List Mip.It} {w w' : World} {P : Nat} (h : Prg ρ B0 N l w P) (k : Below w.heap.size w w') : Prg ρ B0 N l w' P := by
  obtain ⟨fv, tv, wv, U, B, B', h1, h2, h3, h4⟩ := h.blk
  exact ⟨h.ok, h.len, fv, tv, wv, U, B, B', (k.block P (lt_of_heap h1)).trans h1, own_kept h2 (fun g hg => k.block g (lt_of_heap (own_lt h2 g hg).2.choose_spec)), h3.below k, h4.below k⟩
def CpPost (ρ : Mil.Bytes → Int → Int → Int) (N : Nat) (r : Mil.Bytes) (a : Nat → Addr) (w : World) (E : Ending) (w' : World) : Prop :=
  Below w.heap.size w w' ∧
  ((∃ l P, E = .returned (.tuple #[.pointer (some ⟨P, 0, none⟩), .nilIface]) ∧ Mip.Parsed r l ∧ Prg ρ w.heap.size N l w' P) ∨
   (∃ d p k, E = .returned (.tuple #[.pointer none, .iface 69 (.pointer (some ⟨d, 0, none⟩))]) ∧ Dg a w' d p k ∧ 1 ≤ k ∧ k ≤ 10 ∧ (((∀ l, ¬ Mil.Parsed r l) ∧ k ≤ 4) ∨ ∃ l, Mip.Parsed r l ∧ Bad N l k p)) ∨
   (E = .returned (.tuple #[.pointer none, errV (a 1)]) ∧ ∀ l, ¬ Mil.Parsed r l))
theorem bad_range {N : Nat} {l : List Mip.It} {k : Nat} {p : Int} (h : Bad N l k p) : 1 ≤ k ∧ k ≤ 10 := by
  rcases h with ⟨rfl, _⟩ | ⟨rfl, _⟩ | ⟨rfl, _⟩ | ⟨rfl, _⟩ | ⟨rfl, _⟩ | ⟨rfl, _⟩ <;> decide
theorem row_len {N : Nat} {w : World} {b : Nat} {l : List Mip.It} {o : Option Addr} {n c : Nat} (h : Row N w b l (.slice o n c)) : n = l.length := by
  obtain ⟨o', c', e⟩ := h.shape
  injection e
set_option maxRecDepth 100000 in
theorem compile_is {ρ : Mil.Bytes → Int → Int → Int} (hr : Rall2 ρ) (a : Nat → Addr) (s : ByteArray) (w : World) (L : Laid a w) (C : Ce a w) :
    Calls Tryz.prog 12 #[.string s] w (CpPost ρ s.size s.data.toList a w) := by
  have HL : Hid (Laid a w) := L
  have HC : Hid (Ce a w) := C
  have HRR : Hid (Rall2 ρ) := hr
  clear L C hr
  go_enter Tryz.func12, Tryz.ntmps12
  go_wp2_with fail
  refine (parse_any a s _ HL.out).mono ?_
  rintro E w1 ⟨hb1, (⟨l, b0, o, n, ci, t, hwb, rfl, hl, ht, hR⟩ | ⟨k, at_, d, hk, rfl, hd, hno, _, _⟩ | ⟨rfl, hno, _⟩)⟩
  · have HB1 : Hid (Below w.heap.size w w1) := hb1
    obtain rfl := row_len hR
    have HR : Hid (Row s.size w1 b0 l (.slice o l.length ci)) := hR
    have HPL : Hid (Mip.Parsed s.data.toList l) := hl
    have HT : Hid (w1.heap[t]? = some (.cells #[.slice o l.length ci] 95 (0, 0))) := ht
    have HS : Hid (s.size ≤ 4000) := by
      obtain ⟨m, hm⟩ := hl
      unfold Mip.parse at hm
      split at hm
      · cases hm
      · rename_i h4
        have e : s.data.toList.length = s.size := by simp
        show _ ≤ _
        omega
    clear hb1 hR hl ht hwb
    go_wp2_with fail
    refine (newCompiler_any HT.out).mono ?_
    rintro E w2 ⟨rfl, rfl⟩
    have HP0 : Hid (Ph s.size w1 (.slice o l.length ci) (w1.heap.size + 1) w1.heap.size l 0 ((w1.alloc (.map #[] 0)).alloc (.cells (cmC (.slice o l.length ci) w1.heap.size) 75))) := ph_zero
    have HB2 : Hid (Below w1.heap.size w1 ((w1.alloc (.map #[] 0)).alloc (.cells (cmC (.slice o l.length ci) w1.heap.size) 75))) := below_step ((Below.refl _ _).alloc (Nat.le_refl _) _) ((Below.refl _ _).alloc (Nat.le_refl _) _)
    generalize (w1.alloc (.map #[] 0)).alloc (.cells (cmC (.slice o l.length ci) w1.heap.size) 75) = w2 at HP0 HB2 ⊢
    generalize hcc : w1.heap.size + 1 = c at HP0 ⊢
    generalize hbb : w1.heap.size = b at HP0
    clear hcc hbb
    go_wp2_with fail
    refine (findOut_any HS.out (HC.out.below HB1.out) (HL.out.below HC.out.size HB1.out) (items_of HPL.out) (body_nodes HPL.out) HR.out HP0.out HB2.out).mono ?_
    rintro E w3 ⟨hb3, (⟨rfl, hP3⟩ | ⟨d, p, k, rfl, hd, hbad⟩)⟩
    · have HB3 : Hid (Below w.heap.size w w3) := below_step HB1.out hb3
      have HCE1 : Hid (Ce a w1) := HC.out.below HB1.out
      obtain ⟨h0, ⟨e, _⟩ | ⟨_, hf, hq, nn, fv, qv, ⟨e, _⟩ | ⟨e, _⟩ | ⟨e, _⟩ | ⟨_, hF⟩⟩⟩ := hP3
      · omega
      · omega
      · omega
      · omega
      · have HF : Hid (Fin s.size w1 (.slice o l.length ci) c b nn (dcl s.size l).2.m (prd s.size l) (dcl s.size l).2.Q fv qv w3) := hF
        have HK : Hid (okk s.size l 7 ∧ (dcl s.size l).2.F.length ≤ 60 ∧ (dcl s.size l).2.Q.length ≤ 60) := ⟨h0, hf, hq⟩
        have HZ : Hid (Rz2 (dcl s.size l).2.m (prd s.size l) (dcl s.size l).2.Q) := rz_prd (items_of HPL.out) (okk_less h0 (by decide)) hq
        have HPF : Hid ((prd s.size l).length ≤ 60) := by show _ ≤ _; rw [prd_len]; exact hf
        have HNO : Hid (∀ q ∈ (dcl s.size l).2.Q, nodes q.body ≤ 600) := fun q hq => by
          rcases decl_src s.size l Ds.zero q hq with h3 | ⟨i, h3, h4, h5⟩
          · cases h3
          · rw [h5]; exact body_nodes HPL.out i h3 h4
        obtain ⟨X, _, hCs, _⟩ := hF
        obtain ⟨of, cf, hfv⟩ := own_shape hCs.fl
        have HFO : Hid (fv = .slice of (prd s.size l).length cf ∧ w3.ownsRow w1.heap.size 42 5 fv (prd s.size l).length (fls (prd s.size l))) := ⟨hfv, hCs.fl⟩
        have d1 := hCs.cells.2.1
        rw [hfv] at d1
        have k1 : ∀ w', Below w3.heap.size w3 w' → w'.cell? ⟨c, 1, none⟩ = some (.slice of (prd s.size l).length cf) := fun w' hb => (hb.cell (lt_of_cell d1)).trans d1
        have HTK : Hid (∀ w', Below w3.heap.size w3 w' → Calls Tryz.prog 22 #[.pointer (some ⟨c, 0, none⟩)] w' (TasksPost (dcl s.size l).2.m (prd s.size l) (dcl s.size l).2.Q w')) := fun w' hb => tasks_any (Cs.fin_below HF.out hb) HZ.out HPF.out HNO.out
        have HWS : Hid (∀ w', Below w3.heap.size w3 w' → Calls Tryz.prog 23 #[.pointer (some ⟨c, 0, none⟩)] w' (WsP (dcl s.size l).2.m ρ (prd s.size l).length (dcl s.size l).2.Q w')) := fun w' hb => worths_is HRR.out (Cs.fin_below HF.out hb) HCE1.out HZ.out HPF.out
        clear hb3 h0 hf hq hCs hfv d1
        go_wp2_with fail
        go_region_held3 (fun w' => Below w3.heap.size w3 w') (first | assumption | exact (Below.refl _ _).drew | exact Below.alloc (by assumption) (Below.size (by assumption)) _) (first
          | (go_at_call 22; (with_reducible refine (HTK.out _ ?_).mono ?_); assumption; rintro e w4 ⟨hbw4, tv, U, rfl, hTw⟩; obtain ⟨ot, ct, htv⟩ := own_shape hTw.row; subst htv; have hBw4 : Below w3.heap.size w3 w4 := below_step (by assumption) hbw4)
          | (go_at_call 23; (with_reducible refine (HWS.out _ ?_).mono ?_); assumption; rintro e w5 ⟨hbw5, gw, rfl, hWr⟩; have HWR : Hid (Wrw (dcl s.size l).2.m ρ w.heap.size (prd s.size l).length (dcl s.size l).2.Q (.slice (some ⟨gw, 0, none⟩) (prd s.size l).length (prd s.size l).length) w5) := hWr.less (Nat.le_trans HB3.out.size (Below.size (by assumption))); clear hWr; have hBw5 : Below w3.heap.size w3 w5 := below_step (by assumption) hbw5))
        all_goals go_wp2
        all_goals go_ret2
        all_goals
          have HTW : Hid (Tw (dcl s.size l).2.m (prd s.size l) (dcl s.size l).2.Q _ w5 _ U) := hTw.below hbw5
          have HFW := HFO.out.2
          rw [HFO.out.1] at HFW
          refine ⟨below_step HB3.out (Below.alloc hBw5 (Below.size hBw5) _), Or.inl ⟨l, _, rfl, HPL.out, HK.out.1, HK.out.2, _, _, _, U, w1.heap.size, _, heap_alloc_new _ _, ?_, HTW.out.below ((Below.refl _ _).alloc (Nat.le_refl _) _), HWR.out.below ((Below.refl _ _).alloc (Nat.le_refl _) _)⟩⟩
          exact own_kept HFW (fun g hg => (Below.alloc hBw5 (Below.size hBw5) _).block g (lt_of_heap (own_lt HFW g hg).2.choose_spec))
    · have HB3 : Hid (Below w.heap.size w w3) := below_step HB1.out hb3
      have HD : Hid (Dg a w3 d p k ∧ Bad s.size l k p) := ⟨hd, hbad⟩
      clear hb3 hd hbad
      go_wp2
      go_ret2
      have hr := bad_range HD.out.2
      exact ⟨HB3.out, Or.inr (Or.inl ⟨d, p, k, rfl, HD.out.1, hr.1, hr.2, Or.inr ⟨l, HPL.out, HD.out.2⟩⟩)⟩
  · have HB1 : Hid (Below w.heap.size w w1) := hb1
    have HD : Hid (Dg a w1 d at_ k ∧ (k = 1 ∨ k = 2 ∨ k = 3 ∨ k = 4) ∧ ∀ l, ¬ Mil.Parsed s.data.toList l) := ⟨hd, hk, hno⟩
    clear hb1 hd hk hno
    go_wp2
    go_ret2
    exact ⟨HB1.out, Or.inr (Or.inl ⟨d, at_, k, rfl, HD.out.1, by have := HD.out.2.1; omega, by have := HD.out.2.1; omega, Or.inl ⟨HD.out.2.2, by have := HD.out.2.1; omega⟩⟩)⟩
  · have HB1 : Hid (Below w.heap.size w w1) := hb1
    have HNO : Hid (∀ l, ¬ Mil.Parsed s.data.toList l) := hno
    clear hb1 hno
    go_wp2
    go_ret2
    exact ⟨HB1.out, Or.inr (Or.inr ⟨rfl, HNO.out⟩)⟩
end
end Go.Proofs.YticbokabjhnagaaGreatDoor
