import Derived.Test.YtoiajojadihpbaaGreatDoorQt02
import Derived.Lib.ParseIntBTie
namespace Go.Proofs.YtoiajojadihpbaaGreatDoor
set_option maxHeartbeats 8000000
set_option maxRecDepth 100000
section
namespace Mil
open Go.Deep
theorem dig_big {u:Nat} (h:¬u < 10):Lib.decDigits u=Lib.decDigits (u / 10)++[UInt8.ofNat (48+u % 10)]:=by rw[Lib.decDigits,dif_neg h]
theorem skip_blank (r:Bytes):skip false (32::r)=skip false r:=by rw[skip,if_pos (by decide)]
theorem skip_line (r:Bytes):skip false (10::r)=skip false r:=by rw[skip,if_pos (by decide)]
def Lx:Bytes->List Tok->Bytes->Prop
 | b,[],b'=>b=b'
 | b,t::r,b'=>∃b1,cut (skip false b)=some (t,b1)/\Lx b1 r b'
theorem Lx.append {b b1 b2:Bytes}:∀{x y:List Tok},Lx b x b1->Lx b1 y b2->Lx b (x++y) b2
 | [],_,h,k=>by
  have:b=b1:=h
  rw[this];exact k
 | t::r,y,h,k=>by
  obtain⟨b3,h1,h2⟩:=h
  exact⟨b3,h1,Lx.append (x:=r) h2 k⟩
theorem Lx.blank {b b':Bytes} {t:Tok} {r:List Tok} (h:Lx b (t::r) b'):Lx (32::b) (t::r) b':=by
 obtain⟨b1,h1,h2⟩:=h
 exact⟨b1,by rw[skip_blank];exact h1,h2⟩
theorem Lx.line {b b':Bytes} {t:Tok} {r:List Tok} (h:Lx b (t::r) b'):Lx (10::b) (t::r) b':=by
 obtain⟨b1,h1,h2⟩:=h
 exact⟨b1,by rw[skip_line];exact h1,h2⟩
theorem cut_is (K:Bytes):cut (skip false (61::32::K))=some (fix sIs,32::K):=by rfl
end Mil
end
end Go.Proofs.YtoiajojadihpbaaGreatDoor
