/- The walks of Luby: the program's and the document's own. -/
import Derived.Test.YtceahffmenbibaaGreatDoorChecked
import Derived.Test.YtceahffmenbibaaGreatDoorLmath
import Derived.WalkKit
import Derived.WalkLawsBesides
import Derived.WalkSpells
import Derived.Below
import Derived.Test.YtceahffmenbibaaGreatDoorLubyLen
namespace Go.Proofs.YtceahffmenbibaaGreatDoor
namespace Lb
open Go Go.RowKit

theorem hide {p : Prop} (h : p) : Hid p := h
theorem unhide {p : Prop} (h : Hid p) : p := h.out

set_option maxHeartbeats 1000000 in
theorem bitsLen_any (x : Int) (w : World) (h0 : 0 ≤ x) (h1 : x ≤ 1048575) :
    Calls Tryz.prog 120 #[.int .u64 x] w fun e w' => e = .returned (.int .i64 (Lib.bitLen x.toNat)) ∧ w' = w := by
  go_enter Tryz.func120, Tryz.ntmps120
  go_wp2_with (go_at_call 170; refine (len_any x _ h0 h1).mono ?_; rintro e w' ⟨rfl, rfl⟩)
  go_ret
  exact ⟨rfl, rfl⟩
end Lb
end Go.Proofs.YtceahffmenbibaaGreatDoor
