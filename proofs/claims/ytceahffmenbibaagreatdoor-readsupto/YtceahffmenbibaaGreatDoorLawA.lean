/- Walks of the law's own functions: sameLists, mark, clause. -/
import Derived.Test.YtceahffmenbibaaGreatDoorHold
import Derived.Test.YtceahffmenbibaaGreatDoorRref5
import Derived.ArgAppend
namespace Go.Proofs.YtceahffmenbibaaGreatDoor
namespace Rd
open Go Go.RowKit Go.Deep
set_option linter.unusedVariables false
set_option linter.unusedSimpArgs false

set_option maxHeartbeats 400000 in
theorem mark_any (n : Nat) (w : World) (hn : n ≤ 4000000) : Calls Tryz.prog 54 #[.int .i64 n] w fun e w' => e = .returned (.int .i64 (mkv n)) ∧ w' = w := by
  go_enter Tryz.func54, Tryz.ntmps54
  go_wp2
  go_ret
  exact ⟨rfl, rfl⟩

theorem dd (w : World) (n m : Nat) : (w.drewN n).drewN m = w.drewN (n + m) := by simp
theorem RdRow.shape {w : World} {u : Value} {xs : List Int} (h : RdRow w u xs) : ∃ a c, u = .slice a xs.length c := by
  obtain ⟨a, c, b, h1, _⟩ := h; exact ⟨a, c, h1⟩

set_option maxHeartbeats 2000000 in
theorem same_any (v1 v2 : Value) (cl : List (List Int)) (w : World) (h1 : RdLists w v1 cl) (h2 : RdLists w v2 cl) (hn : cl.length ≤ 20000) (hi : ∀ i, (cl.getD i []).length ≤ 20000) :
    Calls Tryz.prog 45 #[v1, v2] w fun e w' => e = .returned (.bool true) ∧ ∃ n, w' = w.drewN n := by
  obtain ⟨a1, c1, b1, rfl, p1, q1⟩ := h1
  obtain ⟨a2, c2, b2, rfl, p2, q2⟩ := h2
  have P1 := hide p1
  have P2 := hide p2
  have Q1 := hide q1
  have Q2 := hide q2
  have HI := hide hi
  clear p1 p2 q1 q2 hi
  have hne : ((cl.length : Int) != (cl.length : Int)) = false := by simp
  go_enter Tryz.func45, Tryz.ntmps45
  go_wp2
  clear hne
  go_loopw [5] (fun i wr => ∃ k n : Nat, k ≤ cl.length ∧ i = .int .i64 k ∧ wr = w.drewN n) (fun i _ => cl.length - (intOf i).toNat)
  case atStart => exact ⟨0, 0, Nat.zero_le _, rfl, rfl⟩
  case round =>
    obtain ⟨k, n, hk, rfl, rfl⟩ := hrel
    by_cases hlt : k < cl.length
    · obtain ⟨u1, r1, s1⟩ := unhide Q1 k hlt
      obtain ⟨u2, r2, s2⟩ := unhide Q2 k hlt
      have e1 := unhide P1 (by omega)
      have e2 := unhide P2 (by omega)
      subst e1 e2
      obtain ⟨x1, y1, z1, rfl, t1, v1⟩ := s1
      obtain ⟨x2, y2, z2, rfl, t2, v2⟩ := s2
      have T1 := hide t1
      have T2 := hide t2
      have V1 := hide v1
      have V2 := hide v2
      have hl := unhide HI k
      obtain ⟨xs, hxs⟩ : ∃ xs, xs = cl.getD k [] := ⟨_, rfl⟩
      rw [← hxs] at r1 r2 T1 T2 V1 V2 hl
      clear hxs t1 t2 v1 v2
      have hne : ((xs.length : Int) != (xs.length : Int)) = false := by simp
      go_wp2
      go_quiet (fail)
      go_wp2
      go_loopw [6] (fun i wr => ∃ p n : Nat, p ≤ xs.length ∧ i = .int .i64 p ∧ wr = w.drewN n) (fun i _ => xs.length - (intOf i).toNat)
      case atStart => exact ⟨0, _, Nat.zero_le _, rfl, dd _ _ _⟩
      case round =>
        obtain ⟨p, n2, hp, rfl, rfl⟩ := hrel
        by_cases hpl : p < xs.length
        · have g1 := unhide V1 p hpl
          have g2 := unhide V2 p hpl
          have f1 := unhide T1 (by omega)
          have f2 := unhide T2 (by omega)
          subst f1 f2
          obtain ⟨m, hm⟩ : ∃ m, m = xs.getD p 0 := ⟨_, rfl⟩
          rw [← hm] at g1 g2
          clear hm
          have hmm : (m != m) = false := by simp
          go_wp2
          go_quiet (fail)
          go_wp2
          go_roundw
          case rel => first | exact ⟨p + 1, _, by omega, by go_num, dd _ _ _⟩ | exact ⟨p + 1, _, by omega, by go_num, rfl⟩
          case measure => simp [intOf]; omega
        · go_wp2
          go_roundw
          case rel => exact ⟨k + 1, _, by omega, by go_num, rfl⟩
          case measure => simp [intOf]; omega
    · go_wp2
      go_ret
      exact ⟨rfl, n, rfl⟩
end Rd
end Go.Proofs.YtceahffmenbibaaGreatDoor
