/- The walks of the program's Luby. -/
import Derived.Test.YtceahffmenbibaaGreatDoorLubyWalks
namespace Go.Proofs.YtceahffmenbibaaGreatDoor
namespace Lb
open Go Go.RowKit

theorem bitsLen_k (i k : Nat) (w : World) (h0 : 1 ≤ i) (h1 : i ≤ 1000000) (hk : IsK i k) :
    Calls Tryz.prog 120 #[.int .u64 i] w fun e w' => e = .returned (.int .i64 k) ∧ w' = w := by
  refine (bitsLen_any i w (by omega) (by omega)).mono ?_
  rintro e w' ⟨rfl, rfl⟩
  have e := isK_unique hk (isK_bitLen h0 h1)
  rw [Int.toNat_natCast, ← e]
  exact ⟨rfl, rfl⟩

set_option maxHeartbeats 400000 in
theorem lubyNumber_any (n : Nat) (w : World) (h1 : 1 ≤ n) (h2 : n ≤ 1000000) :
    Calls Tryz.prog 78 #[.int .i64 n] w fun e w' => e = .returned (.int .i64 (lub n n)) ∧ w' = w := by
  go_enter Tryz.func78, Tryz.ntmps78
  go_wp2
  go_loop [0] (fun t => ∃ f i : Nat, t = .int .i64 i ∧ 1 ≤ i ∧ i ≤ f ∧ i ≤ 1000000 ∧ lub f i = lub n n) (fun t => (intOf t).toNat)
  case atStart => exact ⟨n, n, rfl, h1, Nat.le_refl _, h2, rfl⟩
  case round =>
    obtain ⟨f, i, rfl, hi1, hif, hi2, hl⟩ := hrel
    obtain ⟨g, rfl⟩ : ∃ g, f = g + 1 := ⟨f - 1, by omega⟩
    obtain ⟨k, hk⟩ : ∃ k, IsK i k := ⟨_, isK_bitLen hi1 hi2⟩
    have HL := hide hl; clear hl
    have HK := hide hk
    have hk20 := isK_le hi2 hk
    obtain ⟨hk1, hk2, hk3⟩ := hk
    have hp := pow_le (k := k - 1) (by omega)
    have he : ((k : Int) - 1).toNat = k - 1 := by omega
    go_wp2_with (go_at_call 120; refine (bitsLen_k i k _ hi1 hi2 (unhide HK)).mono ?_; rintro e w' ⟨rfl, rfl⟩)
    · go_ret
      exact ⟨congrArg Ending.returned (congrArg (Value.int IntKind.i64) (num_end (unhide HL) hi1 hi2 (unhide HK) ‹_›).symm), rfl⟩
    · obtain ⟨j, e, a1, a2, a3, a4, a5⟩ := num_step (unhide HL) hi1 hi2 hif (unhide HK) ‹_›
      rw [e]
      exact ⟨⟨g, j, rfl, a1, a2, a3, a4⟩, by simp [intOf]; omega⟩

set_option maxHeartbeats 400000 in
theorem luby_any (n : Int) (w : World) (h1 : 1 ≤ n) (h2 : n ≤ 1000000) :
    Calls Tryz.prog 46 #[.int .i64 n] w fun e w' => e = .returned (.tuple #[.int .i64 (lub n.toNat n.toNat), .int .i64 0]) ∧ w' = w := by
  obtain ⟨m, rfl⟩ := Int.eq_ofNat_of_zero_le (by omega : 0 ≤ n)
  rw [Int.toNat_natCast]
  go_enter Tryz.func46, Tryz.ntmps46
  go_wp2_with (go_at_call 78; refine (lubyNumber_any m _ (by omega) (by omega)).mono ?_; rintro e w' ⟨rfl, rfl⟩)
  go_ret2
  exact ⟨rfl, rfl⟩

set_option maxHeartbeats 400000 in
theorem luby_no (n : Int) (w : World) (h : n < 1 ∨ 1000000 < n) :
    Calls Tryz.prog 46 #[.int .i64 n] w fun e w' => e = .returned (.tuple #[.int .i64 0, .int .i64 6]) ∧ w' = w := by
  rcases h with h | h
  · go_enter Tryz.func46, Tryz.ntmps46
    go_wp2
    go_ret2
    exact ⟨rfl, rfl⟩
  · have h' : ¬ n < 1 := by omega
    go_enter Tryz.func46, Tryz.ntmps46
    go_wp2
    go_ret2
    exact ⟨rfl, rfl⟩

set_option maxHeartbeats 400000 in
theorem rluby_no (n : Int) (w : World) (h : n < 1 ∨ 1000000 < n) :
    Calls Tryz.prog 51 #[.int .i64 n] w fun e w' => e = .returned (.tuple #[.int .i64 0, .int .i64 6]) ∧ w' = w := by
  rcases h with h | h
  · go_enter Tryz.func51, Tryz.ntmps51
    go_wp2
    go_ret2
    exact ⟨rfl, rfl⟩
  · have h' : ¬ n < 1 := by omega
    go_enter Tryz.func51, Tryz.ntmps51
    go_wp2
    go_ret2
    exact ⟨rfl, rfl⟩

set_option maxHeartbeats 400000 in
theorem rluby_any (n : Int) (w : World) (h1 : 1 ≤ n) (h2 : n ≤ 1000000) :
    Calls Tryz.prog 51 #[.int .i64 n] w fun e w' => e = .returned (.tuple #[.int .i64 (lub n.toNat n.toNat), .int .i64 0]) ∧ w' = w := by
  obtain ⟨m, rfl⟩ := Int.eq_ofNat_of_zero_le (by omega : 0 ≤ n)
  rw [Int.toNat_natCast]
  go_enter Tryz.func51, Tryz.ntmps51
  go_wp2
  go_loop [0, 4] (fun t _ => ∃ f i : Nat, t = .int .i64 i ∧ 1 ≤ i ∧ i ≤ f ∧ i ≤ 1000000 ∧ lub f i = lub m m) (fun t _ => (intOf t).toNat)
  case atStart => exact ⟨m, m, rfl, by omega, Nat.le_refl _, by omega, rfl⟩
  case round =>
    obtain ⟨f, i, rfl, hi1, hif, hi2, hl⟩ := hrel
    obtain ⟨g, rfl⟩ : ∃ g, f = g + 1 := ⟨f - 1, by omega⟩
    have HL := hide hl; clear hl
    go_wp2
    go_loop [4] (fun t => ∃ k : Nat, t = .int .i64 k ∧ 1 ≤ k ∧ k ≤ 20 ∧ 2 ^ (k - 1) ≤ i) (fun t => (20 - intOf t).toNat)
    case atStart => exact ⟨1, rfl, Nat.le_refl _, by omega, by simpa using hi1⟩
    case round =>
      obtain ⟨k, rfl, hk1, hk20, hk2⟩ := hrel
      have hp := pow_le (k := k) (by omega)
      have hp' := pow_le (k := k - 1) (by omega)
      have he : ((k : Int) - 1).toNat = k - 1 := by omega
      by_cases hlt : (i : Int) ≤ 2 ^ k - 1
      · have HK : Hid (IsK i k) := isK_of hk1 hk2 hlt
        go_wp2
        · go_ret2
          exact ⟨congrArg (fun v : Int => Ending.returned (Value.tuple #[.int .i64 v, .int .i64 0])) (num_end (unhide HL) hi1 hi2 (unhide HK) (turn_eq hk1 ‹_›)).symm, rfl⟩
        · obtain ⟨j, e, a1, a2, a3, a4, a5⟩ := num_step (unhide HL) hi1 hi2 hif (unhide HK) (turn_eq hk1 ‹_›)
          rw [e]
          exact ⟨⟨g, j, rfl, a1, a2, a3, a4⟩, by simp [intOf]; omega⟩
      · have HN : Hid (k + 1 ≤ 20 ∧ 2 ^ (k + 1 - 1) ≤ i) := isK_next hi2 hlt
        go_wp2
        obtain ⟨b1, b2⟩ := unhide HN
        exact ⟨⟨k + 1, by go_num, by omega, b1, b2⟩, by simp [intOf]; omega⟩
end Lb
end Go.Proofs.YtceahffmenbibaaGreatDoor
