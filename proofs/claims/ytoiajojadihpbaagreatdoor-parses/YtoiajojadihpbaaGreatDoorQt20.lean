import Derived.Test.YtoiajojadihpbaaGreatDoorQt19
import Derived.Test.YtoiajojadihpbaaGreatDoorQt02
namespace Go.Proofs.YtoiajojadihpbaaGreatDoor
set_option maxHeartbeats 8000000
set_option maxRecDepth 100000
section
open Go.RowKit
theorem isD_bounds {c:UInt8} (h:Mil.isD c=true):(48:Int)<=(c.toNat:Int)/\(c.toNat:Int)<=57:=by
 unfold Mil.isD at h
 simp at h
 omega
theorem valueOf_next (s:ByteArray) (i:Nat) (h:i < s.size):Ref.valueOf (s.data.toList.take (i+1))=10*Ref.valueOf (s.data.toList.take i)+(s[i].toNat - 48):=by
 have hl:i < s.data.toList.length:=by simpa using h
 rw[List.take_succ_eq_append_getElem hl,Ref.valueOf_snoc];rfl
theorem head_zero (s:ByteArray) (h:0 < s.size):(s.data.toList.head?.map (·.toNat)=some 48)↔s[0].toNat=48:=by
 have e:=drop_at h
 rw[List.drop_zero] at e
 rw[e];simp
theorem value_any (s:ByteArray) (hs:s.size<=4000) (hd:∀(i:Nat) (h:i < s.size),Mil.isD s[i]=true) (w:World) :
  Calls Tryz.prog 129 #[.string s] w fun e w'=>e=.returned (.tuple #[.int .i64 ((Ref.rvalue s.data.toList).getD 0:Nat),.bool (Ref.rvalue s.data.toList).isSome])/\w'=w:=by
 have HD:=hid hd
 have hlen:s.data.toList.length=s.size:=by simp
 clear hd
 by_cases h19:(19:Int) < (s.size:Int)
 ·have hno:Ref.rvalue s.data.toList=none:=by
   unfold Ref.rvalue
   rw[if_pos (Or.inl (by rw[hlen];omega))]
  rw[hno]
  go_enter Tryz.func129,Tryz.ntmps129
  go_wp2
  go_ret2
  exact⟨rfl,rfl⟩
 ·by_cases h1:(1:Int) < (s.size:Int)
  ·have hp:0 < s.size:=by omega
   by_cases h0:((s[0].toNat:Int)==48)=true
   ·have hno:Ref.rvalue s.data.toList=none:=by
     unfold Ref.rvalue
     rw[if_pos (Or.inr ⟨by rw[hlen];omega,(head_zero s hp).2 (by simp at h0;omega)⟩)]
    rw[hno]
    go_enter Tryz.func129,Tryz.ntmps129
    go_wp2
    go_ret2
    exact⟨rfl,rfl⟩
   ·have h0':((s[0].toNat:Int)==48)=false:=by simpa using h0
    have HC:Hid (¬(19 < s.data.toList.length\/(1 < s.data.toList.length/\s.data.toList.head?.map (·.toNat)=some 48))):=by
     show ¬_
     rw[hlen,head_zero s hp]
     simp at h0'
     omega
    clear h0 hlen
    go_enter Tryz.func129,Tryz.ntmps129
    go_wp2
    go_loopg [4,5] s.size (fun gk s4 s5 wr=>∃i:Nat,i<=s.size/\s4=.int .i64 (Ref.valueOf (s.data.toList.take i):Nat)/\s5=.int .i64 i/\gk=s.size - i/\wr=w/\Hid (Ref.valueOf (s.data.toList.take i)<=9223372036854775807))
    case atStart=>exact⟨0,Nat.zero_le _,rfl,rfl,rfl,rfl,Nat.zero_le _⟩
    case round=>
     obtain⟨i,hi,rfl,rfl,hg,rfl,HV⟩:=hrel
     have HG:=hid hg
     clear hg
     by_cases hlt:i < s.size
     ·obtain⟨b1,b2⟩:=isD_bounds (HD.out i hlt)
      have HT:Hid (Ref.valueOf (s.data.toList.take (i+1))=10*Ref.valueOf (s.data.toList.take i)+(s[i].toNat - 48)):=valueOf_next s i hlt
      have HM:Hid (Ref.valueOf (s.data.toList.take (i+1))<=Ref.valueOf s.data.toList):=Ref.valueOf_take _ _
      generalize hn:Ref.valueOf (s.data.toList.take i)=n at *
      clear hn
      by_cases hle:(n:Int)<=(9223372036854775807 - ((s[i].toNat:Int) - 48)) / 10
      ·go_wp2
       go_roundg (s.size - (i+1))
       case measure=>have:=HG.out;omega
       case rel=>
        refine⟨i+1,hlt,?_,by go_num,rfl,rfl,?_⟩
        ·rw[HT.out]
         congr 1
         omega
        ·have:=HT.out
         show _<=_
         omega
      ·have hgt:(9223372036854775807 - ((s[i].toNat:Int) - 48)) / 10 < (n:Int):=by omega
       clear hle
       go_wp2
       go_ret2
       refine⟨?_,rfl⟩
       have hno:Ref.rvalue s.data.toList=none:=by
        unfold Ref.rvalue
        split
        ·rfl
        ·rw[if_neg]
         have h1:=HT.out
         have h2:=HM.out
         omega
       rw[hno];rfl
     ·have HE:Hid (s.data.toList.take i=s.data.toList):=List.take_of_length_le (by simp;omega)
      rw[HE.out] at HV ⊢
      have hyes:Ref.rvalue s.data.toList=some (Ref.valueOf s.data.toList):=by
       unfold Ref.rvalue
       rw[if_neg HC.out,if_pos HV.out]
      have HY:=hid hyes
      clear hyes
      go_wp2
      go_ret2
      rw[HY.out]
      exact⟨rfl,rfl⟩
  ·have HC:Hid (¬(19 < s.data.toList.length\/(1 < s.data.toList.length/\s.data.toList.head?.map (·.toNat)=some 48))):=by
    show ¬_
    rw[hlen]
    omega
   clear hlen
   go_enter Tryz.func129,Tryz.ntmps129
   go_wp2
   go_loopg [4,5] s.size (fun gk s4 s5 wr=>∃i:Nat,i<=s.size/\s4=.int .i64 (Ref.valueOf (s.data.toList.take i):Nat)/\s5=.int .i64 i/\gk=s.size - i/\wr=w/\Hid (Ref.valueOf (s.data.toList.take i)<=9223372036854775807))
   case atStart=>exact⟨0,Nat.zero_le _,rfl,rfl,rfl,rfl,Nat.zero_le _⟩
   case round=>
    obtain⟨i,hi,rfl,rfl,hg,rfl,HV⟩:=hrel
    have HG:=hid hg
    clear hg
    by_cases hlt:i < s.size
    ·obtain⟨b1,b2⟩:=isD_bounds (HD.out i hlt)
     have HT:Hid (Ref.valueOf (s.data.toList.take (i+1))=10*Ref.valueOf (s.data.toList.take i)+(s[i].toNat - 48)):=valueOf_next s i hlt
     have HM:Hid (Ref.valueOf (s.data.toList.take (i+1))<=Ref.valueOf s.data.toList):=Ref.valueOf_take _ _
     generalize hn:Ref.valueOf (s.data.toList.take i)=n at *
     clear hn
     by_cases hle:(n:Int)<=(9223372036854775807 - ((s[i].toNat:Int) - 48)) / 10
     ·go_wp2
      go_roundg (s.size - (i+1))
      case measure=>have:=HG.out;omega
      case rel=>
       refine⟨i+1,hlt,?_,by go_num,rfl,rfl,?_⟩
       ·rw[HT.out]
        congr 1
        omega
       ·have:=HT.out
        show _<=_
        omega
     ·have hgt:(9223372036854775807 - ((s[i].toNat:Int) - 48)) / 10 < (n:Int):=by omega
      clear hle
      go_wp2
      go_ret2
      refine⟨?_,rfl⟩
      have hno:Ref.rvalue s.data.toList=none:=by
       unfold Ref.rvalue
       split
       ·rfl
       ·rw[if_neg]
        have h1:=HT.out
        have h2:=HM.out
        omega
      rw[hno];rfl
    ·have HE:Hid (s.data.toList.take i=s.data.toList):=List.take_of_length_le (by simp;omega)
     rw[HE.out] at HV ⊢
     have hyes:Ref.rvalue s.data.toList=some (Ref.valueOf s.data.toList):=by
      unfold Ref.rvalue
      rw[if_neg HC.out,if_pos HV.out]
     have HY:=hid hyes
     clear hyes
     go_wp2
     go_ret2
     rw[HY.out]
     exact⟨rfl,rfl⟩
end
section
open Go.RowKit
theorem rnext_at {s:ByteArray} {p q:Nat} (hq:q<=s.size) (h:Mil.skip false (s.data.toList.drop p)=s.data.toList.drop q):Ref.rnext s.data.toList p=Ref.tokAt (s.data.toList.drop q) q:=by
 unfold Ref.rnext
 rw[h]
 have:s.data.toList.length - (s.data.toList.drop q).length=q:=by simp;omega
 rw[this]
theorem extract_bs (s:ByteArray) (q j:Nat):s.extract q j=bs ((s.data.toList.drop q).take (j - q)):=by
 rw[<-Lib.extract_data,bs_of]
theorem take_len {s:ByteArray} {q j:Nat} (hqj:q<=j) (hj:j<=s.size):((s.data.toList.drop q).take (j - q)).length=j - q:=by simp;omega
theorem tok_name {s:ByteArray} {q j:Nat} (hlt:q < s.size) (hL:Mil.isL s[q]=true) (hqj:q<=j) (hj:j<=s.size) (hR:Run Mil.isN s q j) (hF:∀h:j < s.size,Mil.isN s[j]=false) :
  Ref.tokAt (s.data.toList.drop q) q=⟨(s.data.toList.drop q).take (j - q),q,false,!Mil.words.contains ((s.data.toList.drop q).take (j - q)),0,if 12 < j - q then 2 else 0⟩:=by
 have e1:=(hR.done hF).1
 have e2:=drop_at hlt
 unfold Ref.tokAt
 rw[e2] at e1 ⊢
 simp only[]
 rw[if_pos hL,e1,<-e2,take_len hqj hj]
theorem contains_dec (x:Mil.Bytes):Mil.words.contains x=decide (x∈Mil.words):=by
 rw[Bool.eq_iff_iff];simp
theorem isN_yes {c:UInt8} (h:Mil.isN c=true):Mil.isL c=true\/(Mil.isL c=false/\Mil.isD c=true)\/(Mil.isL c=false/\Mil.isD c=false/\((c.toNat:Int)==95)=true):=by
 unfold Mil.isN at h
 cases h1:Mil.isL c <;> cases h2:Mil.isD c <;> simp_all
theorem isN_no {c:UInt8} (h:Mil.isN c=false):Mil.isL c=false/\Mil.isD c=false/\((c.toNat:Int)==95)=false:=by
 unfold Mil.isN at h
 cases h1:Mil.isL c <;> cases h2:Mil.isD c <;> simp_all
 omega
theorem tok_num {s:ByteArray} {q j:Nat} (hlt:q < s.size) (hL:Mil.isL s[q]=false) (hD:Mil.isD s[q]=true) (hR:Run Mil.isD s q j) (hF:∀h:j < s.size,Mil.isD s[j]=false) :
  Ref.tokAt (s.data.toList.drop q) q=⟨(s.data.toList.drop q).take (j - q),q,true,false,(Ref.rvalue ((s.data.toList.drop q).take (j - q))).getD 0,if (Ref.rvalue ((s.data.toList.drop q).take (j - q))).isSome then 0 else 2⟩:=by
 have e1:=(hR.done hF).1
 have e2:=drop_at hlt
 unfold Ref.tokAt
 rw[e2] at e1 ⊢
 simp only[]
 rw[if_neg (by rw[hL];decide),if_pos hD,e1]
theorem mem_while {f:UInt8->Bool} (x:UInt8):∀l:Mil.Bytes,x∈l.takeWhile f->f x=true
 | [],h=>by simp at h
 | c::l,h=>by
  rw[List.takeWhile_cons] at h
  split at h
  ·rcases List.mem_cons.1 h with rfl|h
   ·assumption
   ·exact mem_while x l h
  ·simp at h
theorem ext_digits {s:ByteArray} {q j:Nat} (hR:Run Mil.isD s q j) (hF:∀h:j < s.size,Mil.isD s[j]=false) (i:Nat) (h:i < (s.extract q j).size):Mil.isD (s.extract q j)[i]=true:=by
 have e1:=(hR.done hF).1
 have hl:i < (s.extract q j).data.toList.length:=by
  have:(s.extract q j).data.toList.length=(s.extract q j).size:=rfl
  omega
 have hm:(s.extract q j)[i]∈(s.extract q j).data.toList:=List.getElem_mem (l:=(s.extract q j).data.toList) (n:=i) hl
 rw[Lib.extract_data,<-e1] at hm
 exact mem_while _ _ hm
theorem tok_none {s:ByteArray} {q:Nat} (hlt:q < s.size) (hL:Mil.isL s[q]=false) (hD:Mil.isD s[q]=false) (h0:Ref.signLen (s.data.toList.drop q)=0) :
  Ref.tokAt (s.data.toList.drop q) q=⟨[],q,false,false,0,2⟩:=by
 have e2:=drop_at hlt
 unfold Ref.tokAt
 rw[e2] at h0 ⊢
 simp only[]
 rw[if_neg (by rw[hL];decide),if_neg (by rw[hD];decide),if_pos h0]
theorem tok_sign {s:ByteArray} {q n:Nat} (hlt:q < s.size) (hL:Mil.isL s[q]=false) (hD:Mil.isD s[q]=false) (hn:Ref.signLen (s.data.toList.drop q)=n) (h0:n≠0) :
  Ref.tokAt (s.data.toList.drop q) q=⟨(s.data.toList.drop q).take n,q,false,false,0,0⟩:=by
 have e2:=drop_at hlt
 unfold Ref.tokAt
 rw[e2] at hn ⊢
 simp only[]
 rw[if_neg (by rw[hL];decide),if_neg (by rw[hD];decide),hn,if_neg h0]
theorem sign_le (r:Mil.Bytes):Ref.signLen r<=r.length/\Ref.signLen r<=2:=by
 match r with
 | []=>exact⟨Nat.le_refl _,Nat.zero_le _⟩
 | [c]=>
  have h2:¬(([]:Mil.Bytes).head?.map (·.toNat)=some 61):=by simp
  simp only[Ref.signLen,if_neg h2,List.length_cons,List.length_nil]
  repeat' split
  all_goals omega
 | c::d::r=>
  simp only[Ref.signLen,List.length_cons]
  repeat' split
  all_goals omega
theorem next_any (s:ByteArray) (p:Nat) (hp:p<=s.size) (hs:s.size<=4000) (w:World) :
  Calls Tryz.prog 90 #[.string s,.int .i64 p] w fun e w'=>e=.returned (Ref.tokV (Ref.rnext s.data.toList p))/\Below w.heap.size w w':=by
 go_enter Tryz.func90,Tryz.ntmps90
 go_wp2
 go_loopg [1] (s.size - p) (fun gk s1 wr=>∃q:Nat,p<=q/\q<=s.size/\s1=.int .i64 q/\gk=s.size - q/\wr=w.alloc (.cells #[.string ⟨#[]⟩,.int .i64 0,.bool false,.bool false,.int .i64 0,.int .i64 0] 104)/\Hid (Mil.skip false (s.data.toList.drop q)=Mil.skip false (s.data.toList.drop p)))
 case atStart=>exact⟨p,Nat.le_refl _,hp,rfl,rfl,rfl,rfl⟩
 case round=>
  obtain⟨q,hpq,hq,rfl,hg,hw,HS⟩:=hrel
  rw[hw]
  have HG:=hid hg
  clear hg hw
  by_cases hlt:q < s.size
  ·by_cases e35:s[q].toNat=35
   ·have f32:((s[q].toNat:Int)==32)=false:=by simp;omega
    have f9:((s[q].toNat:Int)==9)=false:=by simp;omega
    have f10:((s[q].toNat:Int)==10)=false:=by simp;omega
    have f35:((s[q].toNat:Int)==35)=true:=by simp;omega
    have H35:=hid e35
    clear e35
    go_wp2
    go_loopg [1] (s.size - q) (fun gi s1 wi=>∃j:Nat,q<=j/\j<=s.size/\s1=.int .i64 j/\gi=s.size - j/\wi=w.alloc (.cells #[.string ⟨#[]⟩,.int .i64 0,.bool false,.bool false,.int .i64 0,.int .i64 0] 104)/\Hid (Mil.skip true (s.data.toList.drop j)=Mil.skip false (s.data.toList.drop p)))
    case atStart=>exact⟨q,Nat.le_refl _,hq,rfl,rfl,rfl,by show _=_;rw[<-HS.out,drop_at hlt];exact skip_hash H35.out⟩
    case round=>
     obtain⟨j,hqj,hj,rfl,hg2,hw,HS2⟩:=hrel
     rw[hw]
     have HG2:=hid hg2
     clear hg2 hw f32 f9 f10 f35
     by_cases hjl:j < s.size
     ·by_cases hnl:s[j].toNat=10
      ·have hb:((s[j].toNat:Int) != 10)=false:=by simp;omega
       have HN:=hid hnl
       clear hnl
       go_wp2
       have hne:j≠q:=fun e=>by subst e;have:=HN.out;have:=H35.out;omega
       go_roundg (s.size - j)
       case measure=>have:=HG.out;omega
       case rel=>exact⟨j,by omega,hj,rfl,rfl,rfl,by show _=_;rw[<-HS2.out,drop_at hjl];exact (skip_nl HN.out).symm⟩
      ·have hb:((s[j].toNat:Int) != 10)=true:=by simp;omega
       have HN:=hid hnl
       clear hnl
       go_wp2
       go_roundg (s.size - (j+1))
       case measure=>have:=HG2.out;omega
       case rel=>exact⟨j+1,by omega,by omega,by go_num,rfl,rfl,by show _=_;rw[<-HS2.out,drop_at hjl];exact (skip_more HN.out).symm⟩
     ·have hd:decide ((j:Int) < (s.size:Int))=false:=by simp;omega
      go_wp2
      go_roundg (s.size - j)
      case measure=>have:=HG.out;omega
      case rel=>exact⟨j,by omega,hj,rfl,rfl,rfl,by show _=_;rw[<-HS2.out,drop_end (by omega)];rfl⟩
   ·by_cases eb:s[q].toNat=32\/s[q].toNat=9\/s[q].toNat=10
    ·have f35:((s[q].toNat:Int)==35)=false:=by simp;omega
     have HB:=hid eb
     have hsk:Mil.skip false (s.data.toList.drop (q+1))=Mil.skip false (s.data.toList.drop p):=by rw[<-HS.out,skip_here hlt eb]
     have HK:=hid hsk
     have hcase:(((s[q].toNat:Int)==32)=true)\/(((s[q].toNat:Int)==32)=false/\((s[q].toNat:Int)==9)=true)\/(((s[q].toNat:Int)==32)=false/\((s[q].toNat:Int)==9)=false/\((s[q].toNat:Int)==10)=true):=by
      simp;omega
     clear eb e35 hsk
     rcases hcase with c1|⟨c1,c2⟩|⟨c1,c2,c3⟩
     all_goals
      go_wp2
      go_roundg (s.size - (q+1))
      case measure=>have:=HG.out;omega
      case rel=>exact⟨q+1,by omega,by omega,by go_num,rfl,rfl,HK⟩
    ·have f32:((s[q].toNat:Int)==32)=false:=by simp;omega
     have f9:((s[q].toNat:Int)==9)=false:=by simp;omega
     have f10:((s[q].toNat:Int)==10)=false:=by simp;omega
     have f35:((s[q].toNat:Int)==35)=false:=by simp;omega
     have HR:Hid (Mil.skip false (s.data.toList.drop p)=s.data.toList.drop q):=by
      show _=_
      rw[<-HS.out,drop_at hlt,Mil.skip,if_neg (by omega),if_neg (by omega)]
     clear e35 eb HS
     by_cases hL:Mil.isL s[q]=true
     ·have HLq:=hid hL
      go_wp2_with fail
      refine (letter_any s[q] _).mono ?_
      rintro e w1 ⟨rfl,rfl⟩
      go_wp2_with fail
      refine (digit_any s[q] _).mono ?_
      rintro e w1 ⟨rfl,rfl⟩
      go_wp2_with fail
      go_loopg [5] (s.size - q) (fun gk s5 wr=>∃j:Nat,q<=j/\j<=s.size/\s5=.int .i64 j/\gk=s.size - j/\wr=w.alloc (.cells #[.string ⟨#[]⟩,.int .i64 0,.bool false,.bool false,.int .i64 0,.int .i64 0] 104)/\Hid (Run Mil.isN s q j))
      case atStart=>exact⟨q,Nat.le_refl _,hq,rfl,rfl,rfl,Run.start _ _ _⟩
      case round=>
       obtain⟨j,hqj,hj,rfl,hg2,hw,HU⟩:=hrel
       rw[hw]
       have HG2:=hid hg2
       clear hg2 hw f32 f9 f10 f35
       by_cases hjl:j < s.size
       ·by_cases hn:Mil.isN s[j]=true
        ·have hcase:=isN_yes hn
         have HN:=hid hn
         clear hn
         rcases hcase with c1|⟨c1,c2⟩|⟨c1,c2,c3⟩
         all_goals
          go_wp2_with (first|(go_at_call 126;refine (letter_any s[j] _).mono ?_;rintro e w' ⟨rfl,rfl⟩)|(go_at_call 127;refine (digit_any s[j] _).mono ?_;rintro e w' ⟨rfl,rfl⟩))
          go_roundg (s.size - (j+1))
          case measure=>have:=HG2.out;omega
          case rel=>exact⟨j+1,by omega,by omega,by go_num,rfl,rfl,HU.out.next hqj hjl HN.out⟩
        ·have hn':Mil.isN s[j]=false:=by simpa using hn
         have hcase:=isN_no hn'
         have HF:Hid (∀h:j < s.size,Mil.isN s[j]=false):=fun _=>hn'
         clear hn hn'
         obtain⟨c1,c2,c3⟩:=hcase
         go_wp2_with (first|(go_at_call 126;refine (letter_any s[j] _).mono ?_;rintro e w' ⟨rfl,rfl⟩)|(go_at_call 127;refine (digit_any s[j] _).mono ?_;rintro e w' ⟨rfl,rfl⟩))
         refine (word_any (s.extract q j) _).mono ?_
         rintro e w1 ⟨rfl,rfl⟩
         rw[Lib.extract_data]
         have HX:Hid (Ref.rnext s.data.toList p=⟨(s.data.toList.drop q).take (j - q),q,false,!Mil.words.contains ((s.data.toList.drop q).take (j - q)),0,if 12 < j - q then 2 else 0⟩):=(rnext_at hq HR.out).trans (tok_name hlt HLq.out hqj hj HU.out HF.out)
         have hE:s.extract q j=bs ((s.data.toList.drop q).take (j - q)):=extract_bs s q j
         generalize (s.data.toList.drop q).take (j - q)=x at HX hE ⊢
         have HE:=hid hE
         clear hE
         by_cases h12:(12:Int) < (j:Int) - (q:Int)
         ·rw[if_pos (by omega)] at HX
          go_wp2
          refine bodyPost_ret (v:=.agg #[.string (s.extract q j),.int .i64 (q:Nat),.bool false,.bool (!decide (x∈Mil.words)),.int .i64 0,.int .i64 2]) (by simp[results,Tryz.results90,go_sem]) rfl ⟨?_,(brf.alloc nlr _).alloc (by simp) _⟩
          rw[HX.out,HE.out,<-contains_dec];rfl
         ·rw[if_neg (by omega)] at HX
          go_wp2
          refine bodyPost_ret (v:=.agg #[.string (s.extract q j),.int .i64 (q:Nat),.bool false,.bool (!decide (x∈Mil.words)),.int .i64 0,.int .i64 0]) (by simp[results,Tryz.results90,go_sem]) rfl ⟨?_,(brf.alloc nlr _).alloc (by simp) _⟩
          rw[HX.out,HE.out,<-contains_dec];rfl
       ·have HF:Hid (∀h:j < s.size,Mil.isN s[j]=false):=fun h=>absurd h hjl
        have hd:decide ((j:Int) < (s.size:Int))=false:=by simp;omega
        go_wp2_with fail
        refine (word_any (s.extract q j) _).mono ?_
        rintro e w1 ⟨rfl,rfl⟩
        rw[Lib.extract_data]
        have HX:Hid (Ref.rnext s.data.toList p=⟨(s.data.toList.drop q).take (j - q),q,false,!Mil.words.contains ((s.data.toList.drop q).take (j - q)),0,if 12 < j - q then 2 else 0⟩):=(rnext_at hq HR.out).trans (tok_name hlt HLq.out hqj hj HU.out HF.out)
        have hE:s.extract q j=bs ((s.data.toList.drop q).take (j - q)):=extract_bs s q j
        generalize (s.data.toList.drop q).take (j - q)=x at HX hE ⊢
        have HE:=hid hE
        clear hE
        by_cases h12:(12:Int) < (j:Int) - (q:Int)
        ·rw[if_pos (by omega)] at HX
         go_wp2
         refine bodyPost_ret (v:=.agg #[.string (s.extract q j),.int .i64 (q:Nat),.bool false,.bool (!decide (x∈Mil.words)),.int .i64 0,.int .i64 2]) (by simp[results,Tryz.results90,go_sem]) rfl ⟨?_,(brf.alloc nlr _).alloc (by simp) _⟩
         rw[HX.out,HE.out,<-contains_dec];rfl
        ·rw[if_neg (by omega)] at HX
         go_wp2
         refine bodyPost_ret (v:=.agg #[.string (s.extract q j),.int .i64 (q:Nat),.bool false,.bool (!decide (x∈Mil.words)),.int .i64 0,.int .i64 0]) (by simp[results,Tryz.results90,go_sem]) rfl ⟨?_,(brf.alloc nlr _).alloc (by simp) _⟩
         rw[HX.out,HE.out,<-contains_dec];rfl
     ·have hL':Mil.isL s[q]=false:=by simpa using hL
      have HLq:=hid hL'
      clear hL
      by_cases hD:Mil.isD s[q]=true
      ·have HDq:=hid hD
       go_wp2_with fail
       refine (letter_any s[q] _).mono ?_
       rintro e w1 ⟨rfl,rfl⟩
       go_wp2_with fail
       refine (digit_any s[q] _).mono ?_
       rintro e w1 ⟨rfl,rfl⟩
       go_wp2_with fail
       go_loopg [5] (s.size - q) (fun gk s5 wr=>∃j:Nat,q<=j/\j<=s.size/\s5=.int .i64 j/\gk=s.size - j/\wr=w.alloc (.cells #[.string ⟨#[]⟩,.int .i64 0,.bool false,.bool false,.int .i64 0,.int .i64 0] 104)/\Hid (Run Mil.isD s q j))
       case atStart=>exact⟨q,Nat.le_refl _,hq,rfl,rfl,rfl,Run.start _ _ _⟩
       case round=>
        obtain⟨j,hqj,hj,rfl,hg2,hw,HU⟩:=hrel
        rw[hw]
        have HG2:=hid hg2
        clear hg2 hw f32 f9 f10 f35
        by_cases hjl:j < s.size
        ·by_cases hn:Mil.isD s[j]=true
         ·go_wp2_with ((go_at_call 127;refine (digit_any s[j] _).mono ?_;rintro e w' ⟨rfl,rfl⟩))
          go_roundg (s.size - (j+1))
          case measure=>have:=HG2.out;omega
          case rel=>exact⟨j+1,by omega,by omega,by go_num,rfl,rfl,HU.out.next hqj hjl hn⟩
         ·have hn':Mil.isD s[j]=false:=by simpa using hn
          have HF:Hid (∀h:j < s.size,Mil.isD s[j]=false):=fun _=>hn'
          clear hn
          go_wp2_with ((go_at_call 127;refine (digit_any s[j] _).mono ?_;rintro e w' ⟨rfl,rfl⟩))
          refine (value_any (s.extract q j) (by simp;omega) (ext_digits HU.out HF.out) _).mono ?_
          rintro e w1 ⟨rfl,rfl⟩
          rw[Lib.extract_data]
          have HX:Hid (Ref.rnext s.data.toList p=⟨(s.data.toList.drop q).take (j - q),q,true,false,(Ref.rvalue ((s.data.toList.drop q).take (j - q))).getD 0,if (Ref.rvalue ((s.data.toList.drop q).take (j - q))).isSome then 0 else 2⟩):=(rnext_at hq HR.out).trans (tok_num hlt HLq.out HDq.out HU.out HF.out)
          have hE:s.extract q j=bs ((s.data.toList.drop q).take (j - q)):=extract_bs s q j
          generalize (s.data.toList.drop q).take (j - q)=x at HX hE ⊢
          have HE:=hid hE
          clear hE
          generalize (Ref.rvalue x).getD 0=v at HX ⊢
          cases hv:(Ref.rvalue x).isSome
          ·rw[hv,if_neg (by decide)] at HX
           clear hv
           go_wp2
           refine bodyPost_ret (v:=.agg #[.string (s.extract q j),.int .i64 (q:Nat),.bool true,.bool false,.int .i64 (v:Nat),.int .i64 2]) (by simp[results,Tryz.results90,go_sem]) rfl ⟨?_,(brf.alloc nlr _).alloc (by simp) _⟩
           rw[HX.out,HE.out];rfl
          ·rw[hv,if_pos rfl] at HX
           clear hv
           go_wp2
           refine bodyPost_ret (v:=.agg #[.string (s.extract q j),.int .i64 (q:Nat),.bool true,.bool false,.int .i64 (v:Nat),.int .i64 0]) (by simp[results,Tryz.results90,go_sem]) rfl ⟨?_,(brf.alloc nlr _).alloc (by simp) _⟩
           rw[HX.out,HE.out];rfl
        ·have HF:Hid (∀h:j < s.size,Mil.isD s[j]=false):=fun h=>absurd h hjl
         have hd:decide ((j:Int) < (s.size:Int))=false:=by simp;omega
         go_wp2_with fail
         refine (value_any (s.extract q j) (by simp;omega) (ext_digits HU.out HF.out) _).mono ?_
         rintro e w1 ⟨rfl,rfl⟩
         rw[Lib.extract_data]
         have HX:Hid (Ref.rnext s.data.toList p=⟨(s.data.toList.drop q).take (j - q),q,true,false,(Ref.rvalue ((s.data.toList.drop q).take (j - q))).getD 0,if (Ref.rvalue ((s.data.toList.drop q).take (j - q))).isSome then 0 else 2⟩):=(rnext_at hq HR.out).trans (tok_num hlt HLq.out HDq.out HU.out HF.out)
         have hE:s.extract q j=bs ((s.data.toList.drop q).take (j - q)):=extract_bs s q j
         generalize (s.data.toList.drop q).take (j - q)=x at HX hE ⊢
         have HE:=hid hE
         clear hE
         generalize (Ref.rvalue x).getD 0=v at HX ⊢
         cases hv:(Ref.rvalue x).isSome
         ·rw[hv,if_neg (by decide)] at HX
          clear hv
          go_wp2
          refine bodyPost_ret (v:=.agg #[.string (s.extract q j),.int .i64 (q:Nat),.bool true,.bool false,.int .i64 (v:Nat),.int .i64 2]) (by simp[results,Tryz.results90,go_sem]) rfl ⟨?_,(brf.alloc nlr _).alloc (by simp) _⟩
          rw[HX.out,HE.out];rfl
         ·rw[hv,if_pos rfl] at HX
          clear hv
          go_wp2
          refine bodyPost_ret (v:=.agg #[.string (s.extract q j),.int .i64 (q:Nat),.bool true,.bool false,.int .i64 (v:Nat),.int .i64 0]) (by simp[results,Tryz.results90,go_sem]) rfl ⟨?_,(brf.alloc nlr _).alloc (by simp) _⟩
          rw[HX.out,HE.out];rfl
      ·have hD':Mil.isD s[q]=false:=by simpa using hD
       have HDq:=hid hD'
       clear hD
       go_wp2_with fail
       refine (letter_any s[q] _).mono ?_
       rintro e w1 ⟨rfl,rfl⟩
       go_wp2_with fail
       refine (digit_any s[q] _).mono ?_
       rintro e w1 ⟨rfl,rfl⟩
       go_wp2_with fail
       refine (sign_any s q hlt hs _).mono ?_
       rintro e w1 ⟨rfl,rfl⟩
       obtain⟨hn1,hn2⟩:=sign_le (s.data.toList.drop q)
       have hn3:(s.data.toList.drop q).length=s.size - q:=by simp
       by_cases h0:Ref.signLen (s.data.toList.drop q)=0
       ·have HX:Hid (Ref.rnext s.data.toList p=⟨[],q,false,false,0,2⟩):=(rnext_at hq HR.out).trans (tok_none hlt HLq.out HDq.out h0)
        rw[h0]
        clear h0 hn1 hn2 hn3
        go_wp2
        refine bodyPost_ret (v:=.agg #[.string ⟨#[]⟩,.int .i64 (q:Nat),.bool false,.bool false,.int .i64 0,.int .i64 2]) (by simp[results,Tryz.results90,go_sem]) rfl ⟨?_,brf.alloc nlr _⟩
        rw[HX.out];rfl
       ·generalize hn:Ref.signLen (s.data.toList.drop q)=n at *
        have HX:Hid (Ref.rnext s.data.toList p=⟨(s.data.toList.drop q).take n,q,false,false,0,0⟩):=(rnext_at hq HR.out).trans (tok_sign hlt HLq.out HDq.out hn h0)
        have HE:Hid (s.extract q (q+n)=bs ((s.data.toList.drop q).take n)):=by
         have:=extract_bs s q (q+n)
         rw[Nat.add_sub_cancel_left] at this
         exact this
        have hz:((n:Int)==0)=false:=by simp;omega
        have hle:(q:Int)+(n:Int)<=(s.size:Int):=by omega
        clear hn hn1 hn3 h0
        go_wp2
        refine bodyPost_ret (v:=.agg #[.string (s.extract q (q+n)),.int .i64 (q:Nat),.bool false,.bool false,.int .i64 0,.int .i64 0]) (by simp[results,Tryz.results90,go_sem]) rfl ⟨?_,brf.alloc nlr _⟩
        rw[HX.out,HE.out];rfl
  ·have hd:decide ((q:Int) < (s.size:Int))=false:=by simp;omega
   have hqe:(q:Int)=(s.size:Int):=by omega
   have HR:Hid (Mil.skip false (s.data.toList.drop p)=[]):=by
    show _=_
    rw[<-HS.out,drop_end (by omega)];rfl
   go_wp2
   refine bodyPost_ret (v:=.agg #[.string ⟨#[]⟩,.int .i64 (s.size:Nat),.bool false,.bool false,.int .i64 0,.int .i64 0]) (by simp[results,Tryz.results90,go_sem]) rfl ⟨?_,brf.alloc nlr _⟩
   have e1:Ref.rnext s.data.toList p=⟨[],s.size,false,false,0,0⟩:=by
    unfold Ref.rnext
    rw[HR.out]
    show (⟨[],s.data.toList.length - 0,false,false,0,0⟩:Ref.Tk)=_
    simp
   rw[e1];rfl
end
end Go.Proofs.YtoiajojadihpbaaGreatDoor
