/- The law Lubys: the head, a step, the holds, the script. -/
import Derived.Test.YtceahffmenbibaaGreatDoorLubyNum
import Derived.Test.YtceahffmenbibaaGreatDoorSteps
namespace Go.Proofs.YtceahffmenbibaaGreatDoor
namespace Lb
open Go Go.RowKit

theorem luby_15 (w : World) : Calls Tryz.prog 46 #[.int .i64 15] w fun e w' => e = .returned (.tuple #[.int .i64 8, .int .i64 0]) ∧ w' = w := by
  refine (luby_any 15 w (by omega) (by omega)).mono ?_
  rintro e w' ⟨rfl, rfl⟩
  exact ⟨by rw [show (lub (15 : Int).toNat (15 : Int).toNat) = 8 from by decide +kernel]; rfl, rfl⟩

set_option maxHeartbeats 400000 in
theorem heads_luby (w : World) : Calls Tryz.prog 27 #[.int .i64 3] w fun e w' => e = .returned (.bool true) ∧ w' = w := by
  go_enter Tryz.func27, Tryz.ntmps27
  go_wp2_with (go_at_call 46; refine (luby_15 _).mono ?_; rintro e w' ⟨rfl, rfl⟩)
  go_ret
  exact ⟨rfl, rfl⟩

set_option maxHeartbeats 400000 in
theorem num_any (n : Int) (w : World) (h : (Lit.int .i64 n).wf = true) : Calls Tryz.prog 49 #[.int .i64 n] w fun e w' => e = .returned (.int .i64 n) ∧ w' = w := by
  have hb := bounds_i64 h
  go_enter Tryz.func49, Tryz.ntmps49
  go_wp2
  go_ret
  exact ⟨rfl, rfl⟩

set_option maxHeartbeats 400000 in
theorem still_none (b : Nat) (w : World) (h : w.cell? ⟨b, 1, none⟩ = some (.slice none 0 0)) :
    Calls Tryz.prog 29 #[.pointer (some ⟨b, 0, none⟩)] w fun e w' => e = .returned (.bool true) ∧ w' = w := by
  go_enter Tryz.func29, Tryz.ntmps29
  go_wp2
  go_loop [3] (fun i => i = .int .i64 0) (fun _ => 0)
  case atStart => rfl
  case round =>
    subst hrel
    go_wp2
    go_ret
    exact ⟨rfl, rfl⟩

set_option maxHeartbeats 400000 in
theorem plays_luby (hv : Value) (n m : Int) (s t : ByteArray) (w : World) :
    Calls Tryz.prog 28 #[hv, .agg #[.int .i64 3, .int .i64 n, .int .i64 m, .string s, .string t]] w fun e w' => e = .returned (.bool true) ∧ Below w.heap.size w w' := by
  by_cases h : 1 ≤ n ∧ n ≤ 1000000
  · obtain ⟨h1, h2⟩ := h
    go_enter Tryz.func28, Tryz.ntmps28
    go_wp2_with (first
      | (go_at_call 46; refine (luby_any n _ h1 h2).mono ?_; rintro e w' ⟨rfl, rfl⟩)
      | (go_at_call 51; refine (rluby_any n _ h1 h2).mono ?_; rintro e w' ⟨rfl, rfl⟩)
      | (go_at_call 49; refine (num_any _ _ (by decide)).mono ?_; rintro e w' ⟨rfl, rfl⟩))
    go_ret
    exact ⟨rfl, (Below.refl _ _).alloc (Nat.le_refl _) _⟩
  · have h' : n < 1 ∨ 1000000 < n := by omega
    clear h
    go_enter Tryz.func28, Tryz.ntmps28
    go_wp2_with (first
      | (go_at_call 46; refine (luby_no n _ h').mono ?_; rintro e w' ⟨rfl, rfl⟩)
      | (go_at_call 51; refine (rluby_no n _ h').mono ?_; rintro e w' ⟨rfl, rfl⟩)
      | (go_at_call 49; refine (num_any _ _ (by decide)).mono ?_; rintro e w' ⟨rfl, rfl⟩))
    go_ret
    exact ⟨rfl, (Below.refl _ _).alloc (Nat.le_refl _) _⟩


theorem spot_of {w : World} {a : Addr} {x : Stp} (h : StepAt w a 0 x) : a.spot = none := by
  simpa [Addr.add] using World.cell?_spot h.1

/-- the five cells of step i, the address written out -/
theorem step_cells {w : World} {b off i : Nat} {x : Stp} (h : StepAt w ⟨b, off, none⟩ i x) :
    w.cell? ⟨b, off + i * 5, none⟩ = some (.int .i64 x.k) ∧ w.cell? ⟨b, off + i * 5 + 1, none⟩ = some (.int .i64 x.n) ∧ w.cell? ⟨b, off + i * 5 + 2, none⟩ = some (.int .i64 x.m) ∧
    w.cell? ⟨b, off + i * 5 + 3, none⟩ = some (.string x.s) ∧ w.cell? ⟨b, off + i * 5 + 4, none⟩ = some (.string x.t) := by
  obtain ⟨h0, h1, h2, h3, h4, _⟩ := h
  simp only [Addr.add_lit, ← Nat.add_assoc, Nat.add_zero] at h0 h1 h2 h3 h4
  exact ⟨h0, h1, h2, h3, h4⟩

set_option maxHeartbeats 1000000 in
theorem upTo_luby (b off len cap : Nat) (q : Nat → Stp) (w : World) (hl : len ≤ maxLen) (hq : ∀ i, i < len → StepAt w ⟨b, off, none⟩ i (q i)) (hb : b < w.heap.size) :
    Calls Tryz.prog 15 #[.slice (some ⟨b, off, none⟩) len cap, .int .i64 3] w fun e w' => e = .returned (.int .i64 (-1)) ∧ Below w.heap.size w w' := by
  unfold maxLen at hl
  have HQ := hide hq; clear hq
  go_enter Tryz.func15, Tryz.ntmps15
  go_wp2_with (go_at_call 27; refine (heads_luby _).mono ?_; rintro e wh ⟨rfl, rfl⟩)
  go_loopw [5, 7, 8] (fun ok i st wr => ∃ k : Nat, k ≤ len ∧ i = .int .i64 k ∧ ok = .bool true ∧ Below (wh.heap.size + 1) (wh.alloc (.cells #[.int .i64 0, .slice none 0 0] 57)) wr) (fun _ i _ _ => len - (intOf i).toNat)
  case atStart => exact ⟨0, Nat.zero_le _, rfl, rfl, Below.refl _ _⟩
  case round =>
    obtain ⟨k, hk, rfl, rfl, hbel⟩ := hrel
    have hsz := hbel.size
    have hH : wr.cell? ⟨wh.heap.size, 1, none⟩ = some (.slice none 0 0) := by
      rw [hbel.cell (p := ⟨wh.heap.size, 1, none⟩) (by simp)]
      simp [World.cell?_alloc_at]
    by_cases hlt : k < len
    · obtain ⟨c0, c1, c2, c3, c4⟩ := step_cells (unhide HQ k hlt)
      have keep : ∀ o, wr.cell? ⟨b, o, none⟩ = wh.cell? ⟨b, o, none⟩ := fun o => by
        rw [hbel.cell (p := ⟨b, o, none⟩) (by simp; omega)]
        exact World.cell?_alloc_lt _ _ _ hb
      rw [← keep] at c0 c1 c2 c3 c4
      clear keep
      generalize (q k).k = xk at c0
      generalize (q k).n = xn at c1
      generalize (q k).m = xm at c2
      generalize (q k).s = xs at c3
      generalize (q k).t = xt at c4
      by_cases h3 : xk = 3
      · subst h3
        go_wp2_with fail
        refine (plays_luby _ xn xm xs xt _).mono ?_
        rintro e w1 ⟨rfl, hb1⟩
        have hH1 : w1.cell? ⟨wh.heap.size, 1, none⟩ = some (.slice none 0 0) := by
          rw [hb1.cell (p := ⟨wh.heap.size, 1, none⟩) (by simp at hsz ⊢; omega)]
          exact hH
        go_wp2_with (go_at_call 29; refine (still_none _ _ hH1).mono ?_; rintro e w2 ⟨rfl, rfl⟩)
        go_roundw
        case rel => exact ⟨k + 1, by omega, by go_num, rfl, hbel.trans (hb1.mono (by simp at hsz ⊢; omega))⟩
        case measure => simp [intOf]; omega
      · have h3' : (xk == 3) = false := by simpa using h3
        go_wp2
        go_roundw
        case rel => exact ⟨k + 1, by omega, by go_num, rfl, hbel⟩
        case measure => simp [intOf]; omega
    · go_wp2
      go_ret
      exact ⟨rfl, ((Below.refl _ _).alloc (Nat.le_refl _) _).trans (hbel.mono (by omega))⟩
end Lb
end Go.Proofs.YtceahffmenbibaaGreatDoor
