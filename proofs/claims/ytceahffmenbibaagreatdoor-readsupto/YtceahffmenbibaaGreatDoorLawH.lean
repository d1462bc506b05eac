/- The script of Reads. -/
import Derived.Test.YtceahffmenbibaaGreatDoorLawG
import Derived.Test.YtceahffmenbibaaGreatDoorSteps
namespace Go.Proofs.YtceahffmenbibaaGreatDoor
namespace Rd
open Go Go.RowKit Go.Deep Go.Proofs
set_option linter.unusedVariables false
set_option linter.unusedSimpArgs false

/-- the five cells of step i, the address written out -/
theorem step_cells {w : World} {b off i : Nat} {x : Stp} (h : StepAt w ⟨b, off, none⟩ i x) :
    w.cell? ⟨b, off + i * 5, none⟩ = some (.int .i64 x.k) ∧ w.cell? ⟨b, off + i * 5 + 1, none⟩ = some (.int .i64 x.n) ∧ w.cell? ⟨b, off + i * 5 + 2, none⟩ = some (.int .i64 x.m) ∧
    w.cell? ⟨b, off + i * 5 + 3, none⟩ = some (.string x.s) ∧ w.cell? ⟨b, off + i * 5 + 4, none⟩ = some (.string x.t) := by
  obtain ⟨h0, h1, h2, h3, h4, _⟩ := h
  simp only [Addr.add_lit, ← Nat.add_assoc, Nat.add_zero] at h0 h1 h2 h3 h4
  exact ⟨h0, h1, h2, h3, h4⟩

/-- the bytes of the steps ahead of k, and one more each -/
def sumTo (q : Nat → Stp) : Nat → Nat
  | 0 => 0
  | k + 1 => sumTo q k + (q k).s.size + 1
theorem sumTo_le (q : Nat → Stp) {a b : Nat} (h : a ≤ b) : sumTo q a ≤ sumTo q b := by
  induction h with
  | refl => exact Nat.le_refl _
  | step _ ih => simp only [sumTo, Nat.succ_eq_add_one]; omega

theorem hold_new (w : World) : Hold (w.alloc (.cells #[.int .i64 0, .slice none 0 0] 57)) w.heap.size 0 (.slice none 0 0) [] (fun _ => False) := by
  refine ⟨by simp [World.cell?_alloc_at], fun j => World.frozen?_alloc_new _ _ _ _, by simp [World.cell?_alloc_at], World.ownsRow_nil _ _ _ _, fun e he => (by simp at he), by simp⟩

/-- where the loop of upTo stands -/
def At (wh wr : World) (q : Nat → Stp) (k : Nat) : Prop :=
  ∃ N kv es, N ≤ sumTo q k ∧ Hold wr wh.heap.size N kv es (fun _ => False) ∧ Below wh.heap.size wh wr

set_option maxHeartbeats 4000000 in
theorem upTo_read (b off len cap : Nat) (q : Nat → Stp) (w : World) (hl : len ≤ maxLen) (hq : ∀ i, i < len → StepAt w ⟨b, off, none⟩ i (q i)) (hb : b < w.heap.size) (hg : Glob w) (hsum : sumTo q len ≤ 1048576) :
    Calls Tryz.prog 15 #[.slice (some ⟨b, off, none⟩) len cap, .int .i64 1] w fun e w' => e = .returned (.int .i64 (-1)) ∧ Below w.heap.size w w' := by
  unfold maxLen at hl
  have HQ := hide hq
  have HG := hide hg
  have HS := hide hsum
  clear hq hg hsum
  go_enter Tryz.func15, Tryz.ntmps15
  go_wp2_with fail
  refine (heads_read w (unhide HG)).mono ?_
  rintro e0 wh ⟨rfl, hbh⟩
  have HBH := hide hbh
  have sh := hbh.size
  clear hbh
  go_wp2_with fail
  go_loopw [5, 7, 8] (fun ok i st wr => ∃ k : Nat, k ≤ len ∧ i = .int .i64 k ∧ ok = .bool true ∧ Hid (At wh wr q k)) (fun _ i _ _ => len - (intOf i).toNat)
  case atStart => exact ⟨0, Nat.zero_le _, rfl, rfl, 0, _, _, Nat.zero_le _, hold_new wh, (Below.refl _ _).alloc (Nat.le_refl _) _⟩
  case round =>
    obtain ⟨k, hk, rfl, rfl, hat⟩ := hrel
    by_cases hlt : k < len
    · obtain ⟨c0, c1, c2, c3, c4⟩ := step_cells (unhide HQ k hlt)
      have keep : ∀ o, wr.cell? ⟨b, o, none⟩ = w.cell? ⟨b, o, none⟩ := fun o => by
        obtain ⟨_, _, _, _, _, hbel⟩ := unhide hat
        rw [hbel.cell (p := ⟨b, o, none⟩) (by show b < _; omega), (unhide HBH).cell (p := ⟨b, o, none⟩) hb]
      rw [← keep] at c0 c1 c2 c3 c4
      clear keep
      have hsz : Hid ((q k).s.size ≤ maxLen) := (unhide HQ k hlt).2.2.2.2.2.1
      have hsm : Hid (sumTo q (k + 1) = sumTo q k + (q k).s.size + 1) := rfl
      have hle : Hid (sumTo q (k + 1) ≤ 1048576) := Nat.le_trans (sumTo_le q hlt) (unhide HS)
      generalize (q k).k = xk at c0
      generalize (q k).n = xn at c1
      generalize (q k).m = xm at c2
      generalize (q k).s = xs at c3 hsz hsm
      generalize (q k).t = xt at c4
      by_cases h3 : xk = 1
      · subst h3
        obtain ⟨N, kv, es, hN, hH, hbel⟩ := unhide hat
        have HH := hide hH
        have HN := hide hN
        have HBL := hide hbel
        clear hat hH hN hbel
        go_wp2_with fail
        refine (plays_read wh.heap.size N kv es xn xm xs xt wr (unhide HH) (Glob.later ((unhide HBH).trans ((unhide HBL).mono sh)) (unhide HG)) (unhide hsz) (by have := unhide hsm; have := unhide hle; have := unhide HN; omega)).mono ?_
        rintro e1 w1 ⟨rfl, N', kv', es', hN', hH', hC'⟩
        have HN' : Hid (N' ≤ sumTo q (k + 1)) := by have := unhide hsm; have := unhide HN; show N' ≤ _; omega
        have HH' := hide hH'
        have HB' : Hid (Below wh.heap.size wh w1) := (unhide HBL).trans (hC'.below (Nat.le_of_lt (unhide HH).lt) (fun j hj => by
          rcases hj with rfl | hj
          · exact Nat.le_refl _
          · exact Nat.le_of_lt ((unhide HH).rowNe j hj.symm).1))
        clear hN' hH' hC' HH HN HBL
        go_wp2_with fail
        refine (still_any wh.heap.size N' kv' es' _ w1 (unhide HH') (by have := unhide HN'; have := unhide hle; omega)).mono ?_
        rintro e2 w2 ⟨rfl, hb2⟩
        have A2 : Hid (At wh w2 q (k + 1)) := ⟨N', kv', es', unhide HN', (unhide HH').later hb2, (unhide HB').trans (hb2.mono (unhide HB').size)⟩
        clear hb2 HH' HB' HN'
        go_wp2
        go_roundw
        case rel => exact ⟨k + 1, by omega, by go_num, rfl, A2⟩
        case measure => simp [intOf]; omega
      · have h3' : (xk == 1) = false := by simpa using h3
        have A2 : Hid (At wh wr q (k + 1)) := by
          obtain ⟨N, kv, es, hN, hH, hbel⟩ := unhide hat
          exact ⟨N, kv, es, Nat.le_trans hN (sumTo_le q (Nat.le_succ k)), hH, hbel⟩
        go_wp2
        go_roundw
        case rel => exact ⟨k + 1, by omega, by go_num, rfl, A2⟩
        case measure => simp [intOf]; omega
    · have BE : Hid (Below w.heap.size w wr) := by
        obtain ⟨N, kv, es, hN, hH, hbel⟩ := unhide hat
        exact (unhide HBH).trans (hbel.mono sh)
      go_wp2
      go_ret
      exact ⟨rfl, unhide BE⟩

set_option maxHeartbeats 400000 in
theorem upTo_read_empty (ao : Option Addr) (cap : Nat) (w : World) (hg : Glob w) :
    Calls Tryz.prog 15 #[.slice ao 0 cap, .int .i64 1] w fun e w' => e = .returned (.int .i64 (-1)) ∧ Below w.heap.size w w' := by
  have HG := hide hg
  clear hg
  go_enter Tryz.func15, Tryz.ntmps15
  go_wp2_with fail
  refine (heads_read w (unhide HG)).mono ?_
  rintro e0 wh ⟨rfl, hbh⟩
  have HBH := hide hbh
  have sh := hbh.size
  clear hbh
  go_wp2_with fail
  go_loop [7] (fun i => i = .int .i64 0) (fun _ => 0)
  case atStart => rfl
  case round =>
    subst hrel
    go_wp2
    go_ret
    exact ⟨rfl, (unhide HBH).alloc sh _⟩

/-- WHAT THE LAW IS TOLD OF ITS SCRIPT: nothing in it; or a row of steps, of a million bytes together. -/
def IsScript (w : World) (a : Option Addr) (len : Nat) (q : Nat → Stp) : Prop :=
  len = 0 ∨ ∃ b off, a = some ⟨b, off, none⟩ ∧ len ≤ maxLen ∧ b < w.heap.size ∧ (∀ i, i < len → StepAt w ⟨b, off, none⟩ i (q i)) ∧ sumTo q len ≤ 1048576

theorem upTo_any (a : Option Addr) (len cap : Nat) (q : Nat → Stp) (w : World) (hg : Glob w) (h : IsScript w a len q) :
    Calls Tryz.prog 15 #[.slice a len cap, .int .i64 1] w fun e w' => e = .returned (.int .i64 (-1)) ∧ Below w.heap.size w w' := by
  rcases h with rfl | ⟨b, off, rfl, hl, hb, hq, hs⟩
  · exact upTo_read_empty a cap w hg
  · exact upTo_read b off len cap q w hl hq hb hg hs

set_option maxHeartbeats 400000 in
theorem reads_any (a : Option Addr) (len cap : Nat) (q : Nat → Stp) (w : World) (hg : Glob w) (h : IsScript w a len q) :
    Calls Tryz.prog 3 #[.slice a len cap] w fun e w' => e = .returned (.bool true) ∧ Below w.heap.size w w' := by
  have H := hide h
  have HG := hide hg
  clear h hg
  go_enter Tryz.func3, Tryz.ntmps3
  go_wp2_with (go_at_call 15; refine (upTo_any a len cap q _ (unhide HG) (unhide H)).mono ?_; rintro e w' ⟨rfl, hb⟩)
  go_ret
  exact ⟨rfl, hb⟩
end Rd
end Go.Proofs.YtceahffmenbibaaGreatDoor
