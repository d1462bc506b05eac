/- Slbl. -/
import Derived.Test.YtceahffmenbibaaGreatDoorChecked
import Derived.Lib.Strings
import Derived.Lib.Slices
import Derived.Lib.Small
import Derived.Lib.Walk
import Derived.Lib.BitFns
set_option linter.unusedVariables false
set_option linter.unusedSimpArgs false
set_option maxHeartbeats 4000000
set_option maxRecDepth 100000
namespace Go.Proofs.YtceahffmenbibaaGreatDoor
namespace Lw
section
open Go
theorem Qr (x:Int) (w:World) (c:0 <= x) (b:x <= 134217727):
  Calls Tryz.prog 170 #[.int .u64 x] w fun e a=>e=.returned (.int .i64 (Lib.bitLen x.toNat))/\a=w:=by
 go_enter Tryz.func170,Tryz.ntmps170
 go_wp2
 all_goals (go_ret;refine ⟨congrArg Ending.returned (congrArg (Value.int IntKind.i64) ?_),rfl⟩)
 all_goals first
  |(rw [Lib.len8_of (x / 65536 / 256 % 256) (by omega) (by omega)]
    have e:(x / 65536 / 256 % 256).toNat=x.toNat / 16777216:=by omega
    have l:=Lib.bitLen_le8' (x / 65536 / 256 % 256) (by omega) (by omega);have s:=Lib.bitLen_shift24 x.toNat (by omega) (by omega);rw [e] at l ⊢;omega)
  |(rw [Lib.len8_of (x / 65536 % 256) (by omega) (by omega)]
    have e:(x / 65536 % 256).toNat=x.toNat / 65536:=by omega
    have l:=Lib.bitLen_le8' (x / 65536 % 256) (by omega) (by omega);have s:=Lib.bitLen_shift16 x.toNat (by omega) (by omega);rw [e] at l ⊢;omega)
  |(rw [Lib.len8_of (x / 256 % 256) (by omega) (by omega)]
    have e:(x / 256 % 256).toNat=x.toNat / 256:=by omega
    have l:=Lib.bitLen_le8' (x / 256 % 256) (by omega) (by omega);have s:=Lib.bitLen_shift8 x.toNat (by omega) (by omega);rw [e] at l ⊢;omega)
  |(rw [Lib.len8_of (x % 256) (by omega) (by omega)]
    have e:(x % 256).toNat=x.toNat:=by omega
    have l:=Lib.bitLen_le8' (x % 256) (by omega) (by omega);rw [e] at l ⊢;omega)
end
end Lw
end Go.Proofs.YtceahffmenbibaaGreatDoor
