/-
  What package reg does, whole; both statements.
-/
import Derived.Test.YtgaepakdhdfdfaaDoorVn
import Derived.Test.YtgaepakdhdfdfaaDoorVs1
import Derived.Test.YtgaepakdhdfdfaaDoorVs2
import Derived.Test.YtgaepakdhdfdfaaDoorVs3
namespace Go.Proofs.YtgaepakdhdfdfaaDoor
open Go.RowKit

theorem code1 (a : Nat → Addr) (B : Nat) : Reg.Code Reg.mach1 (Rall D1 73) a B where
  kept := fun h _ hk => rall_kept cc1 h hk
  own := fun h k hk => rall_own cc1 h k hk
  write := fun P k v A hv => write1_any (D := D1) cc1 P k v A hv
  stepW := fun A => stepW1_any (D := D1) Reg.laws1 cc1 A
  read := fun A => read1_any (D := D1) cc1 A
  stepR := fun A => stepR1_any (D := D1) Reg.laws1 cc1 A
theorem code2 (a : Nat → Addr) (B : Nat) : Reg.Code Reg.mach2 (Rall D2 75) a B where
  kept := fun h _ hk => rall_kept cc2 h hk
  own := fun h k hk => rall_own cc2 h k hk
  write := fun P k v A hv => write2_any (D := D2) cc2 P k v A hv
  stepW := fun A => stepW2_any (D := D2) Reg.laws2 cc2 A
  read := fun A => read2_any (D := D2) cc2 A
  stepR := fun A => stepR2_any (D := D2) Reg.laws2 cc2 A
theorem code3 (a : Nat → Addr) (B : Nat) : Reg.Code Reg.mach3 (Rall D3 77) a B where
  kept := fun h _ hk => rall_kept cc3 h hk
  own := fun h k hk => rall_own cc3 h k hk
  write := fun P k v A hv => write3_any (D := D3) cc3 P k v A hv
  stepW := fun A => stepW3_any (D := D3) Reg.laws3 cc3 A
  read := fun A => read3_any (D := D3) cc3 A
  stepR := fun A => stepR3_any (D := D3) Reg.laws3 cc3 A
theorem specs (a : Nat → Addr) : ∃ J : RJ, ∀ B, Spec J a B := ⟨_, fun B => Reg.spec_of (code1 a B) (code2 a B) (code3 a B) (news a B)⟩
theorem untorn_said : Rows.UntornSaid := untorn_holds specs
theorem fresh_said : Rows.FreshSaid := fresh_holds specs

end Go.Proofs.YtgaepakdhdfdfaaDoor
