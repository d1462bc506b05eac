/- Walks of the program's small functions on texts. -/
import Derived.Test.YtceahffmenbibaaGreatDoorRnum
namespace Go.Proofs.YtceahffmenbibaaGreatDoor
namespace Rd
open Go Go.RowKit
set_option linter.unusedVariables false
set_option linter.unusedSimpArgs false

theorem isEmpty_of {s : ByteArray} (h : s.size = 0) : s.toList.isEmpty = true := by
  rw [ByteArray.toList_eq]
  have : s.data.toList = [] := List.eq_nil_of_length_eq_zero (by simpa using h)
  rw [this]; rfl
theorem notEmpty_of {s : ByteArray} (h : ¬ s.size = 0) : s.toList.isEmpty = false := by
  rw [ByteArray.toList_eq, Bool.eq_false_iff]
  intro h'
  have := List.isEmpty_iff.1 h'
  apply h
  have e := congrArg List.length this
  simpa using e

/-- nothing bad ahead -/
def lead (s : ByteArray) : Prop := ∃ h : 0 < s.size, s.size = 1 ∨ ¬ ((s[0].toNat : Int) = 48)
theorem numB_lead {s : ByteArray} (h : digs s s.size) (hl : lead s) : numB s.data.toList = true := by
  obtain ⟨h0, h1⟩ := hl
  by_cases e : s.size = 1
  · exact numB_one h e
  · rw [numB_many h (by omega)]
    simp
    rcases h1 with h1 | h1
    · exact absurd h1 e
    · omega
theorem zero_of {s : ByteArray} (h : (!s.toList == [48]) = false) : s.size = 1 := by
  simp [ByteArray.toList_eq] at h
  have e := congrArg List.length h
  simpa using e
theorem not_zero_of {s : ByteArray} (h0 : 0 < s.size) (hz : ((s[0].toNat : Int) == 48) = true) (h : (!s.toList == [48]) = true) : numB s.data.toList = false := by
  have hh : s.data.toList.head? = some s[0] := by
    rw [List.head?_eq_getElem?, List.getElem?_eq_getElem (by simpa using h0)]; rfl
  have e0 : s[0] = 48 := by
    rw [← UInt8.toNat_inj]; simp at hz ⊢; omega
  rw [e0] at hh
  have hl : s.data.toList.length = s.size := by simp
  have hne : s.size ≠ 1 := by
    intro e1
    rw [e1] at hl
    obtain ⟨c, hc⟩ := List.length_eq_one_iff.1 hl
    rw [hc] at hh
    simp at hh
    simp [ByteArray.toList_eq, hc, hh] at h
  simp [numB, hh, hl, hne]

set_option maxHeartbeats 1000000 in
theorem isNumber_any (s : ByteArray) (w : World) (hs : s.size ≤ maxLen) :
    Calls Tryz.prog 105 #[.string s] w fun e w' => e = .returned (.bool (numB s.data.toList)) ∧ w' = w := by
  unfold maxLen at hs
  by_cases h0 : s.size = 0
  · have he := isEmpty_of h0
    have E := hide (numB_none h0)
    go_enter Tryz.func105, Tryz.ntmps105
    go_wp2
    go_ret
    exact ⟨ret_bool (by rw [unhide E]), rfl⟩
  · have he := notEmpty_of h0
    have h1 : 0 < s.size := by omega
    by_cases hz : ((s[0].toNat : Int) == 48) = true
    · by_cases hq : (!s.toList == [48]) = true
      · have E := hide (not_zero_of h1 hz hq)
        go_enter Tryz.func105, Tryz.ntmps105
        go_wp2
        go_ret
        exact ⟨ret_bool (by rw [unhide E]), rfl⟩
      · have hq' : (!s.toList == [48]) = false := by simpa using hq
        clear hq
        have E : Hid (lead s) := ⟨h1, .inl (zero_of hq')⟩
        go_enter Tryz.func105, Tryz.ntmps105
        go_wp2
        go_loop [17] (fun i => ∃ k : Nat, k ≤ s.size ∧ i = .int .i64 k ∧ Hid (digs s k)) (fun i => s.size - (intOf i).toNat)
        case atStart => exact ⟨0, Nat.zero_le _, rfl, rfl⟩
        case round =>
          obtain ⟨k, hk, rfl, hd⟩ := hrel
          by_cases hlt : k < s.size
          · by_cases hc1 : (s[k].toNat : Int) < 48
            · go_wp2
              go_ret
              exact ⟨ret_bool (not_digs hlt (by omega)).symm, rfl⟩
            · by_cases hc2 : 57 < (s[k].toNat : Int)
              · go_wp2
                go_ret
                exact ⟨ret_bool (not_digs hlt (by omega)).symm, rfl⟩
              · go_wp2
                go_round
                case rel => exact ⟨k + 1, by omega, by go_num, digs_succ (unhide hd) hlt (by omega) (by omega)⟩
                case measure => simp [intOf]; omega
          · have E2 : Hid (numB s.data.toList = true) := by
              have e : k = s.size := by omega
              subst e
              exact numB_lead (unhide hd) (unhide E)
            go_wp2
            go_ret
            exact ⟨ret_bool (by rw [unhide E2]), rfl⟩
    · have hz' : ((s[0].toNat : Int) == 48) = false := by simpa using hz
      have E : Hid (lead s) := ⟨h1, .inr (by simpa using hz)⟩
      clear hz
      go_enter Tryz.func105, Tryz.ntmps105
      go_wp2
      go_loop [17] (fun i => ∃ k : Nat, k ≤ s.size ∧ i = .int .i64 k ∧ Hid (digs s k)) (fun i => s.size - (intOf i).toNat)
      case atStart => exact ⟨0, Nat.zero_le _, rfl, rfl⟩
      case round =>
        obtain ⟨k, hk, rfl, hd⟩ := hrel
        by_cases hlt : k < s.size
        · by_cases hc1 : (s[k].toNat : Int) < 48
          · go_wp2
            go_ret
            exact ⟨ret_bool (not_digs hlt (by omega)).symm, rfl⟩
          · by_cases hc2 : 57 < (s[k].toNat : Int)
            · go_wp2
              go_ret
              exact ⟨ret_bool (not_digs hlt (by omega)).symm, rfl⟩
            · go_wp2
              go_round
              case rel => exact ⟨k + 1, by omega, by go_num, digs_succ (unhide hd) hlt (by omega) (by omega)⟩
              case measure => simp [intOf]; omega
        · have E2 : Hid (numB s.data.toList = true) := by
            have e : k = s.size := by omega
            subst e
            exact numB_lead (unhide hd) (unhide E)
          go_wp2
          go_ret
          exact ⟨ret_bool (by rw [unhide E2]), rfl⟩

end Rd
end Go.Proofs.YtceahffmenbibaaGreatDoor
