/- Walk of the store's hasEmpty. -/
import Derived.Test.YtceahffmenbibaaGreatDoorPadd
namespace Go.Proofs.YtceahffmenbibaaGreatDoor
namespace Rd
open Go Go.RowKit Go.Deep Go.Maps
set_option linter.unusedVariables false
set_option linter.unusedSimpArgs false
attribute [local go_sem ↓] Go.wp_at_zero Go.wp_at_succ

/-- is the set there? -/
def there (es : List Ent) (s : Key) : Bool := match look es s with
  | none => false
  | some i => match es[i]? with
    | none => false
    | some e => decide (0 < e.times)
set_option maxHeartbeats 1000000 in
set_option maxRecDepth 100000 in
theorem hasEmpty_any {B sb mb : Nat} {cv : Value} {gone : Int} {u : Key} {wv : Nat → Value} {es : List Ent} {wl : Nat → List Nat} (w : World) (hlen : es.length ≤ 2097152)
    (hS : Sto B sb w cv mb gone u wv es wl) :
    Calls Tryz.prog 116 #[.pointer (some ⟨sb, 0, none⟩)] w fun e w' => e = .returned (.bool (there es (0, 0))) ∧ Below w.heap.size w w' := by
  have h0 := (hS.head 0 (by omega)).1
  have h1 := (hS.head 1 (by omega)).1
  unfold stoF at h0 h1
  obtain ⟨c, hc, hrun⟩ := hS.map.lookup (k := (0, 0)) empty_ok
  unfold keyV at hrun
  have hlk : (Instr.lookup 130 (.map (some mb)) (.agg #[.int .u64 0, .int .u64 0]) true).run Tryz.prog w = .ok (.tuple #[.int .i64 c, .bool (look es (0, 0)).isSome]) w := hrun w rfl
  have HS := hide hS
  clear hrun hS
  rcases hl : look es (0, 0) with _ | i
  · have E : Hid (there es (0, 0) = false) := by unfold Hid there; rw [hl]
    rw [hl] at hlk
    clear hl hc
    go_enter Tryz.func116, Tryz.ntmps116
    go_wp2
    go_ret
    exact ⟨ret_bool (unhide E).symm, Below.refl _ _⟩
  · obtain ⟨hi, _⟩ := look_some hl
    have hci := hc i hl
    subst hci
    obtain ⟨cb, cap, hcv, _, _, _, _, hcells⟩ := (unhide HS).ents i hi
    subst hcv
    have c4 := (hcells 4 (by omega)).1
    simp only [entV, List.getElem?_cons_succ, List.getElem?_cons_zero] at c4
    have E : Hid (there es (0, 0) = decide (0 < (es[i]).times)) := by unfold Hid there; rw [hl]; simp only [List.getElem?_eq_getElem hi]
    rw [hl] at hlk
    have i0 : (0 : Int) ≤ (i : Int) := by omega
    have i1 : (i : Int) < (es.length : Int) := by omega
    generalize (es[i]).times = tm at c4 E
    clear hl hc hcells
    go_enter Tryz.func116, Tryz.ntmps116
    go_wp2
    go_ret
    exact ⟨ret_bool (by rw [unhide E]), Below.refl _ _⟩
end Rd
end Go.Proofs.YtceahffmenbibaaGreatDoor
