/- Qchk. -/
import Derived.Test.YtceahffmenbibaaGreatDoorG20
import Derived.Test.YtceahffmenbibaaGreatDoorG13
set_option linter.unusedVariables false
set_option linter.unusedSimpArgs false
namespace Go.Proofs.YtceahffmenbibaaGreatDoor
namespace Rd
section
variable {v:Bs} {L L':List Cl} {k:Nat} {r:Bs} {c:Cl} {res:Nat × Nat}
theorem Gj (hn:¬ nJ L (IE [] 0)):¬ bH L []:=by
 rintro (h | ⟨l,r,e,_⟩)
 ·exact hn h
 ·cases e
end
end Rd
end Go.Proofs.YtceahffmenbibaaGreatDoor
