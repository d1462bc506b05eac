/- The walks of Luby: the program's and the document's own. -/
import Derived.Test.YtdcggafjhpjcfaaDoorChecked
import Derived.Test.YtdcggafjhpjcfaaDoorLmath
import Derived.WalkKit
import Derived.WalkLawsBesides
import Derived.WalkSpells
import Derived.Below
import Derived.Test.YtdcggafjhpjcfaaDoorLubyLen
namespace Go.Proofs.YtdcggafjhpjcfaaDoor
namespace Lb
open Go Go.RowKit

theorem hide {p : Prop} (h : p) : Hid p := h
theorem unhide {p : Prop} (h : Hid p) : p := h.out

set_option maxHeartbeats 1000000 in
theorem bitsLen_any (x : Int) (w : World) (h0 : 0 ≤ x) (h1 : x ≤ 1048575) :
    Calls Tryd.prog 50 #[.int .u64 x] w fun e w' => e = .returned (.int .i64 (Lib.bitLen x.toNat)) ∧ w' = w := by
  go_enter Tryd.func50, Tryd.ntmps50
  go_wp2_with (go_at_call 64; refine (len_any x _ h0 h1).mono ?_; rintro e w' ⟨rfl, rfl⟩)
  go_ret
  exact ⟨rfl, rfl⟩
end Lb
end Go.Proofs.YtdcggafjhpjcfaaDoor
