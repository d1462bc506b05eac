/- The walk of the program's Read. -/
import Derived.Test.YtceahffmenbibaaGreatDoorRmake
namespace Go.Proofs.YtceahffmenbibaaGreatDoor
namespace Rd
open Go Go.RowKit Go.Proofs Go.Deep
set_option linter.unusedVariables false
set_option linter.unusedSimpArgs false

def readP (s : Bs) : Int × List (List Int) × Int :=
  if 20000 < s.length then (0, [], 1)
  else match parseB s with
    | none => (0, [], 2)
    | some (v, T) => if above v [53, 48] || decide (700 < lits T) then (0, [], 1) else (value9 v, cls (zeros T) T, 0)

theorem parse_facts {s v : Bs} {T : List Bs} (h : parseB s = some (v, T)) : numB v = true ∧ okAll v T = true ∧ closedB T = true := by
  unfold parseB at h
  cases h1 : (skipF (s.length + 1) s).bind cutP with
  | none => rw [h1] at h; simp at h
  | some o =>
    obtain ⟨v', c, r⟩ := o
    rw [h1] at h
    simp only at h
    split at h
    · rename_i hc
      simp only [Option.some.injEq, Prod.mk.injEq] at h
      obtain ⟨rfl, rfl⟩ := h
      simp only [Bool.and_eq_true] at hc
      refine ⟨?_, hc.1.1, hc.1.2⟩
      obtain ⟨x, _, hx⟩ := Option.bind_eq_some_iff.1 h1
      unfold cutP at hx
      split at hx
      · rename_i hy
        simp only [Bool.and_eq_true] at hy
        simp only [Option.some.injEq, Prod.mk.injEq] at hx
        rw [← hx.1]; exact hy.1.2
      · cases hx
    · cases h

theorem short_of {v : Bs} {T : List Bs} (h : okAll v T = true) (hv : v.length ≤ 2) : shortLits T := by
  intro t ht hz
  have := List.all_eq_true.1 h t ht
  rw [hz, Bool.false_or] at this
  have hl : (strip t).length ≤ 2 := by
    have h2 := this
    unfold litB at h2
    simp only [Bool.and_eq_true, Bool.not_eq_true'] at h2
    have := not_above_len h2.2
    omega
  refine ⟨atoi_lit this (by omega), ?_⟩
  unfold strip at hl
  split at hl
  · simp at hl; omega
  · omega

theorem itoa50 (w : World) : Calls Tryz.prog 36 #[.int .i64 50] w fun e w' => e = .returned (.string ⟨#[53, 48]⟩) ∧ w' = w := by
  refine (Tryz.strconv_Itoa_small 50 (by omega) w).mono ?_
  rintro e w' ⟨rfl, rfl⟩
  exact ⟨by rw [show Lib.decDigits 50 = [53, 48] from by decide +kernel], rfl⟩
theorem isAbove50 (v : ByteArray) (b : Bool) (w : World) (hv : v.size ≤ 20000) (hb : above v.data.toList [53, 48] = b) :
    Calls Tryz.prog 35 #[.string v, .string ⟨#[53, 48]⟩] w fun e w' => e = .returned (.bool b) ∧ w' = w := by
  refine (isAbove_any v ⟨#[53, 48]⟩ w (by unfold maxLen; omega) (by decide)).mono ?_
  rintro e w' ⟨rfl, rfl⟩
  exact ⟨by rw [show above v.data.toList (⟨#[53, 48]⟩ : ByteArray).data.toList = b from hb], rfl⟩

/-- what Read answers: V, the clauses, the error -/
def ReadEnd (r : Int × List (List Int) × Int) (w w' : World) (e : Ending) : Prop :=
  ∃ u, e = .returned (.tuple #[.int .i64 r.1, u, .int .i64 r.2.2]) ∧ ((r.2.1 = [] ∧ u = .slice none 0 0) ∨ Lists 43 3 w.heap.size w' u r.2.1)

set_option maxHeartbeats 2000000 in
theorem read_any (s : ByteArray) (w : World) (hs : s.size ≤ maxLen) (hg : Glob w) :
    Calls Tryz.prog 18 #[.string s] w fun e w' => Below w.heap.size w w' ∧ ReadEnd (readP s.data.toList) w w' e := by
  unfold maxLen at hs
  by_cases h0 : 20000 < s.size
  · have E : Hid (readP s.data.toList = (0, [], 1)) := by unfold Hid readP; rw [if_pos (by simpa using h0)]
    go_enter Tryz.func18, Tryz.ntmps18
    go_wp2
    go_ret3
    exact ⟨Below.refl _ _, _, by rw [unhide E]; rfl, .inl ⟨by rw [unhide E], rfl⟩⟩
  · have h0' : ¬ (20000 : Int) < (s.size : Int) := by omega
    have HG := hide hg; clear hg
    go_enter Tryz.func18, Tryz.ntmps18
    go_wp2_with fail
    refine (parse_any s w (by omega) (unhide HG)).mono ?_
    rintro e w1 ⟨hb1, ⟨hp, rfl⟩ | ⟨v, T, A, hp, rfl, hA, hA1, hc, hn, hT, hv⟩⟩
    · have E : Hid (readP s.data.toList = (0, [], 2)) := by unfold Hid readP; rw [if_neg (by simpa using h0), hp]
      clear hp
      go_wp2
      go_ret3
      exact ⟨hb1.alloc (by exact hb1.size) _, _, by rw [unhide E]; rfl, .inl ⟨by rw [unhide E], rfl⟩⟩
    · have E0 : Hid (readP s.data.toList = if above v.data.toList [53, 48] || decide (700 < lits (bss T)) then (0, [], 1) else (value9 v.data.toList, cls (zeros (bss T)) (bss T), 0)) := by
        unfold Hid readP; rw [if_neg (by simpa using h0), hp]
      obtain ⟨f1, f2, f3⟩ := parse_facts hp
      have F1 := hide f1
      have F2 := hide f2
      have HC := hide hc
      have HT := hide hT
      have HB1 := hide hb1
      have s1 := hb1.size
      clear hp f1 f2 f3 hc hT hb1
      have zl := zeros_le (bss T)
      have ll := lits_le (bss T)
      have zl' : (bss T).length = T.length := by simp [bss]
      cases c1 : above v.data.toList [53, 48] with
      | true =>
        have E : Hid (readP s.data.toList = (0, [], 1)) := by unfold Hid; rw [unhide E0, c1]; rfl
        have C1 := hide c1
        clear c1 E0
        go_wp2
        go_quiet ((first | (go_at_call 36; exact Calls.quiet_of_same (itoa50 _)) | (go_at_call 35; exact Calls.quiet_of_same (isAbove50 v true _ hv (unhide C1)))))
        go_wp2
        go_ret3
        exact ⟨bel_drewN ((unhide HB1).alloc s1 _) _, _, by rw [unhide E]; rfl, .inl ⟨by rw [unhide E], rfl⟩⟩
      | false =>
        have C1 := hide c1
        clear c1
        by_cases c2 : 700 < lits (bss T)
        · have E : Hid (readP s.data.toList = (0, [], 1)) := by unfold Hid; rw [unhide E0, unhide C1]; simp [c2]
          have hd : decide ((700 : Int) < (lits (bss T) : Int)) = true := by simp; omega
          clear c2 E0
          go_wp2
          go_quiet ((first | (go_at_call 36; exact Calls.quiet_of_same (itoa50 _)) | (go_at_call 35; exact Calls.quiet_of_same (isAbove50 v false _ hv (unhide C1)))))
          go_wp2
          go_ret3
          exact ⟨bel_drewN ((unhide HB1).alloc s1 _) _, _, by rw [unhide E]; rfl, .inl ⟨by rw [unhide E], rfl⟩⟩
        · have E : Hid (readP s.data.toList = (value9 v.data.toList, cls (zeros (bss T)) (bss T), 0)) := by unfold Hid; rw [unhide E0, unhide C1]; simp [c2]
          have hd : decide ((700 : Int) < (lits (bss T) : Int)) = false := by simp; omega
          have v2 : v.size ≤ 2 := by have := not_above_len (unhide C1); simpa using this
          have AT := hide (atoi_num (unhide F1) (by simp; omega))
          have SH := hide (short_of (unhide F2) (by simpa using v2))
          clear c2 E0
          go_wp2
          go_quiet ((first | (go_at_call 36; exact Calls.quiet_of_same (itoa50 _)) | (go_at_call 35; exact Calls.quiet_of_same (isAbove50 v false _ hv (unhide C1)))))
          go_wp2
          go_region_with (first
            | (go_at_call 37; refine (toInt_any v (value9 v.data.toList) _ (by omega) (unhide AT)).mono ?_; rintro e2 w2 ⟨rfl, hb2⟩; have d0 := hb2.cell (p := ⟨w1.heap.size, 0, none⟩) (by simp); have d1 := hb2.cell (p := ⟨w1.heap.size, 1, none⟩) (by simp); have d2 := hb2.cell (p := ⟨w1.heap.size, 2, none⟩) (by simp); have d3 := hb2.cell (p := ⟨w1.heap.size, 3, none⟩) (by simp); have A2 : Hid (A < w2.heap.size) := (by have := hb2.size; simp at this; unfold Hid; omega); have C2 : Hid (∀ j (h : j < T.length), w2.cell? ⟨A, j, none⟩ = some (.string T[j])) := fun j h => (hb2.cell (p := ⟨A, j, none⟩) (by simp; omega)).trans ((World.cell?_alloc_lt _ _ _ (by exact hA1)).trans (unhide HC j h)); have HB2 := hide hb2; clear hb2)
            | (go_at_call 38; refine (makeClauses_any v T A _ hn (by exact unhide A2) (by exact unhide C2) (unhide SH)).mono ?_; rintro e3 w3 ⟨u, rfl, hb3, hl3⟩; have HB3 := hide hb3; have HL3 := hide hl3; clear hb3 hl3))
          all_goals
            go_wp2
            go_ret3
            have s2 := (unhide HB2).size
            simp at s2
            refine ⟨?_, u, by rw [unhide E]; rfl, .inr ?_⟩
            · refine Below.trans (Below.trans (bel_drewN ((unhide HB1).alloc s1 _) _) (Below.trans (Below.drew (Below.refl _ _)) ((unhide HB2).mono (by simp; omega)))) ((unhide HB3).mono (by omega))
            · rw [unhide E]; exact (unhide HL3).mono (by omega)
end Rd
end Go.Proofs.YtceahffmenbibaaGreatDoor
