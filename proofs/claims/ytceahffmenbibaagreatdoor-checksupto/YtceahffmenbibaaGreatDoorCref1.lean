/- Walks of the document's checker: has, same, opposites, the marks. -/
import Derived.Test.YtceahffmenbibaaGreatDoorCspec
import Derived.Test.YtceahffmenbibaaGreatDoorRref5
import Derived.Outline
namespace Go.Proofs.YtceahffmenbibaaGreatDoor
namespace Rd
open Go Go.RowKit Go.Deep
set_option linter.unusedVariables false
set_option linter.unusedSimpArgs false

theorem contains_snoc (c : List Int) (k : Nat) (hk : k < c.length) (l : Int) : (c.take (k + 1)).contains l = ((c.take k).contains l || (c.getD k 0 == l)) := by
  rw [List.take_succ_eq_append_getElem hk, List.contains_append]
  have : c.getD k 0 = c[k] := by simp [List.getD_eq_getElem?_getD, hk]
  rw [this]
  simp only [List.contains_cons, List.contains_nil, Bool.or_false]
  rw [Bool.eq_iff_iff, Bool.or_eq_true, Bool.or_eq_true, beq_iff_eq, beq_iff_eq]
  simp [eq_comm]
def hasL (c : List Int) (l : Int) : Bool := c.contains l
set_option maxHeartbeats 1000000 in
theorem has_any (c : List Int) (u : Value) (l : Int) (w : World) (hc : c.length ≤ 1048576) (hu : RdRow w u c) :
    Calls Tryz.prog 124 #[u, .int .i64 l] w fun e w' => e = .returned (.bool (hasL c l)) ∧ w = w' := by
  obtain ⟨a, cap, b, rfl, ha, hcell⟩ := hu
  have HA := hide ha
  have HC := hide hcell
  clear ha hcell
  go_enter Tryz.func124, Tryz.ntmps124
  go_wp2
  go_loop [5] (fun i => ∃ k : Nat, k ≤ c.length ∧ i = .int .i64 k ∧ Hid ((c.take k).contains l = false)) (fun i => c.length - (intOf i).toNat)
  case atStart => exact ⟨0, Nat.zero_le _, rfl, rfl⟩
  case round =>
    obtain ⟨k, hk, rfl, hno⟩ := hrel
    by_cases hlt : k < c.length
    · have hcl := unhide HC k hlt
      have N := hide (contains_snoc c k hlt l)
      have hm : Hid (c.getD k 0 ∈ c) := by unfold Hid; simp [List.getD_eq_getElem?_getD, hlt]
      have haa := unhide HA (by omega)
      subst haa
      generalize c.getD k 0 = x at hcl N hm
      cases hx : (x == l) with
      | true =>
        have E : Hid (hasL c l = true) := by
          unfold Hid hasL
          rw [List.contains_iff_mem]; rw [← eq_of_beq hx]; exact unhide hm
        go_wp2
        go_ret
        exact ⟨ret_bool (unhide E).symm, rfl⟩
      | false =>
        have E : Hid ((c.take (k + 1)).contains l = false) := by unfold Hid; rw [unhide N, unhide hno, hx]; rfl
        go_wp2
        go_round
        case rel => exact ⟨k + 1, by omega, by go_num, E⟩
        case measure => simp [intOf]; omega
    · have e : k = c.length := by omega
      subst e
      rw [List.take_of_length_le (Nat.le_refl _)] at hno
      have E : Hid (hasL c l = false) := unhide hno
      go_wp2
      go_ret
      exact ⟨ret_bool (unhide E).symm, rfl⟩
theorem all_snoc (f : Int → Bool) (c : List Int) (k : Nat) (hk : k < c.length) : (c.take (k + 1)).all f = ((c.take k).all f && f (c.getD k 0)) := by
  rw [List.take_succ_eq_append_getElem hk, List.all_append]
  simp [List.getD_eq_getElem?_getD, hk]
theorem all_not (f : Int → Bool) (c : List Int) (k : Nat) (hk : k < c.length) (h : f (c.getD k 0) = false) : c.all f = false := by
  rw [Bool.eq_false_iff]; intro ha
  have hm : c.getD k 0 ∈ c := by simp [List.getD_eq_getElem?_getD, hk]
  rw [List.all_eq_true.1 ha _ hm] at h; cases h
set_option maxHeartbeats 1000000 in
set_option maxRecDepth 100000 in
theorem same_any (a b : List Int) (ua ub : Value) (w : World) (ha : a.length ≤ 1048576) (hb : b.length ≤ 1048576) (hua : RdRow w ua a) (hub : RdRow w ub b) :
    Calls Tryz.prog 121 #[ua, ub] w fun e w' => e = .returned (.bool (sameB a b)) ∧ w = w' := by
  have q1 := fun l => has_any b ub l w hb hub
  have q2 := fun l => has_any a ua l w ha hua
  obtain ⟨aa, acap, ab, rfl, haa, hacell⟩ := hua
  obtain ⟨ba, bcap, bb, rfl, hba, hbcell⟩ := hub
  have HA := hide haa
  have HB := hide hba
  have SD : Hid (sameB a b = (a.all (hasL b) && b.all (hasL a))) := rfl
  generalize sameB a b = sb at SD ⊢
  have HCA := hide hacell
  have HCB := hide hbcell
  clear haa hba hacell hbcell
  go_enter Tryz.func121, Tryz.ntmps121
  go_wp2
  go_loop [5] (fun i => ∃ k : Nat, k ≤ a.length ∧ i = .int .i64 k ∧ Hid ((a.take k).all (hasL b) = true)) (fun i => a.length - (intOf i).toNat)
  case atStart => exact ⟨0, Nat.zero_le _, rfl, rfl⟩
  case round =>
    obtain ⟨k, hk, rfl, hno⟩ := hrel
    by_cases hlt : k < a.length
    · have hcl := unhide HCA k hlt
      have N := hide (all_snoc (hasL b) a k hlt)
      have M := hide (all_not (hasL b) a k hlt)
      have hx := unhide HA (by omega)
      subst hx
      generalize a.getD k 0 = x at hcl N M
      go_wp2_with fail
      with_reducible refine (q1 x).mono ?_
      rintro e1 w1 ⟨rfl, rfl⟩
      cases hx : hasL b x with
      | false =>
        have E : Hid (sb = false) := by unfold Hid; rw [unhide SD, unhide M hx]; rfl
        go_wp2
        go_ret
        exact ⟨ret_bool (unhide E).symm, rfl⟩
      | true =>
        have E : Hid ((a.take (k + 1)).all (hasL b) = true) := by unfold Hid; rw [unhide N, unhide hno]; simp only [hx]; rfl
        go_wp2
        go_round
        case rel => exact ⟨k + 1, by omega, by go_num, E⟩
        case measure => simp [intOf]; omega
    · have e : k = a.length := by omega
      subst e
      rw [List.take_of_length_le (Nat.le_refl _)] at hno
      have SD2 : Hid (sb = b.all (hasL a)) := by unfold Hid; rw [unhide SD, unhide hno]; rfl
      clear SD hno q1
      go_wp2
      go_loop [7] (fun i => ∃ k : Nat, k ≤ b.length ∧ i = .int .i64 k ∧ Hid ((b.take k).all (hasL a) = true)) (fun i => b.length - (intOf i).toNat)
      case atStart => exact ⟨0, Nat.zero_le _, rfl, rfl⟩
      case round =>
        obtain ⟨k, hk, rfl, hno⟩ := hrel
        by_cases hlt : k < b.length
        · have hcl := unhide HCB k hlt
          have N := hide (all_snoc (hasL a) b k hlt)
          have M := hide (all_not (hasL a) b k hlt)
          have hx := unhide HB (by omega)
          subst hx
          generalize b.getD k 0 = x at hcl N M
          go_wp2_with fail
          with_reducible refine (q2 x).mono ?_
          rintro e1 w1 ⟨rfl, rfl⟩
          cases hx : hasL a x with
          | false =>
            have E : Hid (sb = false) := by unfold Hid; rw [unhide SD2, unhide M hx]
            go_wp2
            go_ret
            exact ⟨ret_bool (unhide E).symm, rfl⟩
          | true =>
            have E : Hid ((b.take (k + 1)).all (hasL a) = true) := by unfold Hid; rw [unhide N, unhide hno]; simp only [hx]; rfl
            go_wp2
            go_round
            case rel => exact ⟨k + 1, by omega, by go_num, E⟩
            case measure => simp [intOf]; omega
        · have e : k = b.length := by omega
          subst e
          rw [List.take_of_length_le (Nat.le_refl _), ← unhide SD2] at hno
          go_wp2
          go_ret
          exact ⟨ret_bool (unhide hno).symm, rfl⟩
end Rd
end Go.Proofs.YtceahffmenbibaaGreatDoor
