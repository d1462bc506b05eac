/- Pspw Qchk. -/
import Derived.Test.YtceahffmenbibaaGreatDoorG20
import Derived.Deep.CutRange
set_option linter.unusedVariables false
set_option linter.unusedSimpArgs false
namespace Go.Proofs.YtceahffmenbibaaGreatDoor
namespace Rd
section
open Go Go.RowKit Go.Deep
attribute [local go_sem ↓] Go.wp_at_zero Go.wp_at_succ
theorem DY {X w7:World} (k:aA (X.alloc (.cells #[.int .u64 0,.int .u64 0] 84)) w7):Hid (w7.rowIs X.heap.size 84 2 (fA (0,0))):=by
 have r:=dS X (.int .u64 0) (.int .u64 0) 84;exact r.of_block (k _ (dV r))
theorem zL {X w7:World} (k:aA (X.alloc (.cells #[.int .u64 0,.int .u64 0] 84)).drew w7):Hid (w7.rowIs X.heap.size 84 2 (fA (0,0))):=by
 have r:=(dS X (.int .u64 0) (.int .u64 0) 84).drew;exact r.of_block (k _ (dV r))
theorem DX {X w7:World} {c:Nat} (k:aA X w7) (h:Hid (X.rowIs c 84 2 (fA (0,0)))):Hid (w7.rowIs c 84 2 (fA (0,0))):=h.out.of_block (k _ (dV h.out))
theorem zK {X w7:World} {c:Nat} (k:aA X.drew w7) (h:Hid (X.rowIs c 84 2 (fA (0,0)))):Hid (w7.rowIs c 84 2 (fA (0,0))):=h.out.of_block (k _ (dV h.out.drew))
end
end Rd
namespace Rd
section
variable {v:Bs} {L L':List Cl} {k:Nat} {r:Bs} {c:Cl} {res:Nat × Nat}
theorem Gj (hn:¬ nJ L (IE [] 0)):¬ bH L []:=by
 rintro (h | ⟨l,r,e,_⟩)
 ·exact hn h
 ·cases e
end
end Rd
end Go.Proofs.YtceahffmenbibaaGreatDoor
