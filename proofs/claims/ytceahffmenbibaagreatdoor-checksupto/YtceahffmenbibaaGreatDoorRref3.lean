/- Walk of the document's head. -/
import Derived.Test.YtceahffmenbibaaGreatDoorRref2
import Derived.Deep.QuietTactic
import Derived.BigQuiet
namespace Go.Proofs.YtceahffmenbibaaGreatDoor
namespace Rd
open Go Go.RowKit
set_option linter.unusedVariables false
set_option linter.unusedSimpArgs false

/-- no newline from a up to e -/
def noNl (s : ByteArray) (a e : Nat) : Prop := ∀ c ∈ sub s.data.toList a e, c ≠ 10
theorem noNl_succ {s : ByteArray} {a e : Nat} (h : noNl s a e) (ha : a ≤ e) (he : e < s.size) (hc : ((s[e].toNat : Int) != 10) = true) : noNl s a (e + 1) := by
  intro c hcm
  rw [sub_succ ha he] at hcm
  simp at hcm
  rcases hcm with h1 | rfl
  · exact h c h1
  · intro e'; simp at hc; apply hc; rw [e']; rfl

theorem takeWhile_all {p : UInt8 → Bool} : ∀ (A B : Bs), (∀ c ∈ A, p c = true) → (A ++ B).takeWhile p = A ++ B.takeWhile p
  | [], B, _ => rfl
  | a :: A, B, h => by
    simp only [List.cons_append]
    rw [List.takeWhile_cons, if_pos (h a (by simp)), takeWhile_all A B (fun c hc => h c (by simp [hc]))]

theorem drop_split (s : ByteArray) {a e : Nat} (ha : a ≤ e) : s.data.toList.drop a = sub s.data.toList a e ++ s.data.toList.drop e := by
  unfold sub
  rw [List.drop_take]
  conv => lhs; rw [← List.take_append_drop (e - a) (s.data.toList.drop a)]
  rw [List.drop_drop, show a + (e - a) = e by omega]

theorem line_mid {s : ByteArray} {a e : Nat} (h : noNl s a e) (ha : a ≤ e) (he : e < s.size) (hc : ((s[e].toNat : Int) != 10) = false) :
    line (s.data.toList.drop a) = sub s.data.toList a e ∧ ended (s.data.toList.drop a) = true ∧ rest (s.data.toList.drop a) = s.data.toList.drop (e + 1) := by
  have e1 : s[e] = 10 := by rw [← UInt8.toNat_inj]; simp at hc; simp; omega
  have hd : s.data.toList.drop e = s[e] :: s.data.toList.drop (e + 1) := by
    rw [List.drop_eq_getElem_cons (by simpa using he)]; rfl
  have hl : line (s.data.toList.drop a) = sub s.data.toList a e := by
    unfold line
    rw [drop_split s ha, takeWhile_all _ _ (fun c hcm => by simpa using h c hcm), hd, e1]
    simp
  have hlen : (sub s.data.toList a e).length = e - a := by simp [sub]; omega
  refine ⟨hl, ?_, ?_⟩
  · unfold ended; rw [hl, hlen]; simp; omega
  · unfold rest; rw [hl, hlen, List.drop_drop]; congr 1; omega
theorem line_end {s : ByteArray} {a : Nat} (h : noNl s a s.size) (ha : a ≤ s.size) : ended (s.data.toList.drop a) = false := by
  have hl : line (s.data.toList.drop a) = s.data.toList.drop a := by
    unfold line
    rw [drop_split s ha, takeWhile_all _ _ (fun c hcm => by simpa using h c hcm), List.drop_eq_nil_of_le (by simp)]
    simp
  unfold ended; rw [hl]; simp

theorem bel_drewN' {B : Nat} {a w : World} (h : Below B a w) (n : Nat) : Below B a (w.drewN n) := h.trans ⟨rfl, rfl, rfl, Nat.le_refl _, fun _ _ => rfl⟩
theorem hasPrefix2 (l : Bs) : Lib.hasPrefix l [99, 32] = (l.take 2 == [99, 32]) := by
  unfold Lib.hasPrefix
  match l with
  | [] => rfl
  | [a] => simp [List.isPrefixOf]
  | a :: b :: r =>
    simp only [List.isPrefixOf, List.take_succ_cons, List.take_zero, Bool.and_true]
    rw [Bool.eq_iff_iff]
    simp only [Bool.and_eq_true, beq_iff_eq, List.cons.injEq, and_true]
    constructor
    · rintro ⟨rfl, rfl⟩; exact ⟨rfl, rfl⟩
    · rintro ⟨rfl, rfl⟩; exact ⟨rfl, rfl⟩

/-- the four ways of the test for a comment -/
theorem comment_ways (s : ByteArray) (a e : Nat) (ha : a ≤ e) (he : e ≤ s.size) :
    (((s.extract a e).toList == [99]) = true ∧ comment (sub s.data.toList a e) = true) ∨
    ((((s.extract a e).toList == [99]) = false ∧ 1 < ((e - a : Nat) : Int) ∧ (((s.extract a e).extract 0 2).toList == [99, 32]) = true) ∧ comment (sub s.data.toList a e) = true) ∨
    ((((s.extract a e).toList == [99]) = false ∧ 1 < ((e - a : Nat) : Int) ∧ (((s.extract a e).extract 0 2).toList == [99, 32]) = false) ∧ comment (sub s.data.toList a e) = false) ∨
    ((((s.extract a e).toList == [99]) = false ∧ ¬ 1 < ((e - a : Nat) : Int)) ∧ comment (sub s.data.toList a e) = false) := by
  have h1 : (s.extract a e).toList = sub s.data.toList a e := by rw [ByteArray.toList_eq, extract_sub]
  have h2 : ((s.extract a e).extract 0 2).toList = (sub s.data.toList a e).take 2 := by
    rw [ByteArray.toList_eq, extract_sub, extract_sub]; rfl
  have hl : (sub s.data.toList a e).length = e - a := by simp [sub]; omega
  rw [h1, h2]
  unfold comment
  rw [hasPrefix2]
  cases c1 : (sub s.data.toList a e == [99]) with
  | true => left; simp
  | false =>
    right
    by_cases hb : 1 < ((e - a : Nat) : Int)
    · cases c3 : ((sub s.data.toList a e).take 2 == [99, 32]) with
      | true => left; simp [hb]
      | false => right; left; simp [hb]
    · right; right
      refine ⟨⟨rfl, hb⟩, ?_⟩
      have : ((sub s.data.toList a e).take 2 == [99, 32]) = false := by
        rw [beq_eq_false_iff_ne]; intro h
        have := congrArg List.length h
        simp [hl] at this
        omega
      rw [this]; rfl

theorem splitB_ne (c : UInt8) (l : Bs) : (splitB c l).length ≠ 0 := by unfold splitB; simp

/-- a row of texts that split left -/
theorem row_of {w' : World} {B : Nat} {v : Value} {P : List ByteArray} {t : TypeId} (h : w'.ownsRow B t 1 v P.length (strV P)) (hne : P.length ≠ 0) :
    ∃ g cap, v = .slice (some ⟨g, 0, none⟩) P.length cap ∧ g < w'.heap.size ∧ ∀ j (hj : j < P.length), w'.cell? ⟨g, j, none⟩ = some (.string P[j]) := by
  have hc := h
  obtain ⟨_, h0⟩ := h
  rcases h0 with ⟨_, h0⟩ | ⟨g, cap, cur, rfl, _⟩
  · exact absurd h0 hne
  · refine ⟨g, cap, rfl, (hc.lt g rfl).2, fun j hj => ?_⟩
    have := hc.cells (g := g) rfl j (.string P[j]) (by simp [strV, hj])
    simpa [Addr.add_lit] using this

theorem pline_len {l : Bs} {P : List ByteArray} (h : bsl P = splitB 32 l) (h4 : P.length ≠ 4) : pline l = none := by
  unfold pline
  rw [← h]
  split
  · rename_i a b v c heq
    exact absurd (by have := congrArg List.length heq; simpa [bsl] using this) h4
  · rfl
theorem pline_four {l : Bs} {p0 p1 p2 p3 : ByteArray} (h : bsl [p0, p1, p2, p3] = splitB 32 l) :
    pline l = if p0.data.toList == [112] && p1.data.toList == [99, 110, 102] && numB p2.data.toList && numB p3.data.toList then some (p2.data.toList, p3.data.toList) else none := by
  unfold pline
  rw [← h]
  rfl
theorem four_of {α : Type} {l : List α} (h : l.length = 4) : ∃ a b c d, l = [a, b, c, d] := by
  match l, h with
  | [a, b, c, d], _ => exact ⟨a, b, c, d, rfl⟩

set_option maxHeartbeats 4000000 in
set_option maxRecDepth 100000 in
theorem head_any (s : ByteArray) (w : World) (hs : s.size ≤ 20000) :
    Calls Tryz.prog 79 #[.string s] w fun e w' => Below w.heap.size w w' ∧
      ((headF (s.size + 1) s.data.toList = none ∧ e = .returned (.tuple #[.string ⟨#[]⟩, .string ⟨#[]⟩, .int .i64 (-1)])) ∨
       ∃ (v c : ByteArray) (at' : Nat), headF (s.size + 1) s.data.toList = some (v.data.toList, c.data.toList, s.data.toList.drop at') ∧ at' ≤ s.size ∧ v.size ≤ 20000 ∧ c.size ≤ 20000 ∧
         e = .returned (.tuple #[.string v, .string c, .int .i64 at'])) := by
  go_enter Tryz.func79, Tryz.ntmps79
  go_wp2
  go_loop [5, 6] (fun t _ => ∃ (a f : Nat), t = .int .i64 a ∧ a ≤ s.size ∧ s.size - a < f ∧ Hid (headF f (s.data.toList.drop a) = headF (s.size + 1) s.data.toList)) (fun t _ => s.size - (intOf t).toNat)
  case atStart => exact ⟨0, s.size + 1, rfl, Nat.zero_le _, by omega, rfl⟩
  case round =>
    obtain ⟨a, f, rfl, ha, hf, HF⟩ := hrel
    obtain ⟨g, rfl⟩ : ∃ g, f = g + 1 := ⟨f - 1, by omega⟩
    by_cases hlt : a < s.size
    · go_wp2
      go_loop [6] (fun t => ∃ e : Nat, t = .int .i64 e ∧ a ≤ e ∧ e ≤ s.size ∧ Hid (noNl s a e)) (fun t => s.size - (intOf t).toNat)
      case atStart => exact ⟨a, rfl, Nat.le_refl _, ha, by unfold Hid noNl; simp [sub]⟩
      case round =>
        obtain ⟨e, rfl, he1, he2, hno⟩ := hrel
        by_cases hel : e < s.size
        · cases hc : ((s[e].toNat : Int) != 10) with
          | true =>
            have N := hide (noNl_succ (unhide hno) he1 hel hc)
            go_wp2
            go_round
            case rel => exact ⟨e + 1, by go_num, by omega, by omega, N⟩
            case measure => simp [intOf]; omega
          | false =>
            obtain ⟨l1, l2, l3⟩ := line_mid (unhide hno) he1 hel hc
            have E0 : Hid (headF (g + 1) (s.data.toList.drop a) = if comment (sub s.data.toList a e) then headF g (s.data.toList.drop (e + 1)) else (pline (sub s.data.toList a e)).map fun x => (x.1, x.2, s.data.toList.drop (e + 1))) := by
              unfold Hid; rw [headF, l2, if_pos rfl, l1, l3]
            clear l1 l2 l3
            have hne : ((e : Int) == (s.size : Int)) = false := by simp; omega
            have hca : s.size - (e + 1) < g := by omega
            have h2 : e ≤ s.size := by omega
            rcases comment_ways s a e he1 h2 with ⟨d1, cm⟩ | ⟨⟨d1, d2, d3⟩, cm⟩ | ⟨⟨d1, d2, d3⟩, cm⟩ | ⟨⟨d1, d2⟩, cm⟩
            · have E : Hid (headF (g + 1) (s.data.toList.drop a) = headF g (s.data.toList.drop (e + 1))) := by unfold Hid; rw [unhide E0, cm, if_pos rfl]
              clear E0 cm
              go_wp2
              exact ⟨⟨e + 1, g, by go_num, by omega, hca, (unhide E).symm.trans (unhide HF)⟩, by simp [intOf]; omega⟩
            · have E : Hid (headF (g + 1) (s.data.toList.drop a) = headF g (s.data.toList.drop (e + 1))) := by unfold Hid; rw [unhide E0, cm, if_pos rfl]
              clear E0 cm
              go_wp2
              exact ⟨⟨e + 1, g, by go_num, by omega, hca, (unhide E).symm.trans (unhide HF)⟩, by simp [intOf]; omega⟩
            all_goals
              have CM := hide cm
              clear cm
              go_wp2_with fail
              refine (split_any 32 (s.extract a e) _ (by simp; omega)).mono ?_
              rintro e1 w1 ⟨v, P, rfl, hP, hown, hb, hsz⟩
              have HPn : P.length ≠ 0 := by
                have := splitB_ne 32 (s.extract a e).data.toList
                rw [← unhide hP] at this
                simpa [bsl] using this
              obtain ⟨gg, cap, rfl, hgl, hcell⟩ := row_of (unhide hown) HPn
              have HB := hide hb
              have HCe := hide hcell
              clear hb hown HPn hcell
              rw [extract_sub] at hP
              by_cases h4 : P.length = 4
              · obtain ⟨p0, p1, p2, p3, rfl⟩ := four_of h4
                have q0 : w1.cell? ⟨gg, 0, none⟩ = some (.string p0) := unhide HCe 0 (by simp)
                have q1 : w1.cell? ⟨gg, 1, none⟩ = some (.string p1) := unhide HCe 1 (by simp)
                have q2 : w1.cell? ⟨gg, 2, none⟩ = some (.string p2) := unhide HCe 2 (by simp)
                have q3 : w1.cell? ⟨gg, 3, none⟩ = some (.string p3) := unhide HCe 3 (by simp)
                have z2 : p2.size ≤ 20000 := by have := unhide hsz p2 (by simp); simp at this; omega
                have z3 : p3.size ≤ 20000 := by have := unhide hsz p3 (by simp); simp at this; omega
                have PL := hide (pline_four (unhide hP))
                clear HCe hsz hP h4
                cases t0 : (!p0.toList == [112]) with
                | true =>
                  have E : Hid (headF (s.size + 1) s.data.toList = none) := by
                    unfold Hid; rw [← unhide HF, unhide E0, unhide CM, if_neg (by simp), unhide PL, ← ByteArray.toList_eq (bs := p0)]
                    simp only [Bool.not_eq_true'] at t0
                    rw [t0]; simp
                  go_wp2
                  go_ret3
                  exact ⟨unhide HB, .inl ⟨unhide E, rfl⟩⟩
                | false =>
                  cases t1 : (!p1.toList == [99, 110, 102]) with
                  | true =>
                    have E : Hid (headF (s.size + 1) s.data.toList = none) := by
                      unfold Hid; rw [← unhide HF, unhide E0, unhide CM, if_neg (by simp), unhide PL, ← ByteArray.toList_eq (bs := p1)]
                      simp only [Bool.not_eq_true'] at t1
                      rw [t1]; simp
                    go_wp2
                    go_ret3
                    exact ⟨unhide HB, .inl ⟨unhide E, rfl⟩⟩
                  | false =>
                    have E1 : Hid (headF (s.size + 1) s.data.toList = if numB p2.data.toList && numB p3.data.toList then some (p2.data.toList, p3.data.toList, s.data.toList.drop (e + 1)) else none) := by
                      unfold Hid; rw [← unhide HF, unhide E0, unhide CM, if_neg (by simp), unhide PL, ← ByteArray.toList_eq (bs := p1), ← ByteArray.toList_eq (bs := p0)]
                      simp only [Bool.not_eq_false'] at t0 t1
                      rw [t0, t1]
                      cases numB p2.data.toList <;> cases numB p3.data.toList <;> rfl
                    clear PL
                    go_wp2_with fail
                    refine (number_any p2 _ (by unfold maxLen; omega)).mono ?_
                    rintro e2 w2 ⟨rfl, rfl⟩
                    cases n2 : numB p2.data.toList
                    all_goals
                      have N2 := hide n2
                      clear n2
                      go_wp2_with fail
                      refine (number_any p3 _ (by unfold maxLen; omega)).mono ?_
                      rintro e3 w3 ⟨rfl, rfl⟩
                      cases n3 : numB p3.data.toList
                      all_goals
                        have N3 := hide n3
                        clear n3
                        go_wp2
                    · go_ret3
                      exact ⟨unhide HB, .inl ⟨by rw [unhide E1, unhide N2]; rfl, rfl⟩⟩
                    · go_ret3
                      exact ⟨unhide HB, .inl ⟨by rw [unhide E1, unhide N2]; rfl, rfl⟩⟩
                    · go_ret3
                      exact ⟨unhide HB, .inl ⟨by rw [unhide E1, unhide N2, unhide N3]; rfl, rfl⟩⟩
                    · go_quiet (fail)
                      go_wp2
                      go_ret3
                      exact ⟨bel_drewN' (unhide HB) _, .inr ⟨p2, p3, e + 1, by rw [unhide E1, unhide N2, unhide N3]; rfl, by omega, z2, z3, rfl⟩⟩
              · have hnb : ((P.length : Int) != 4) = true := by simp; omega
                have PN := hide (pline_len (unhide hP) h4)
                have E : Hid (headF (s.size + 1) s.data.toList = none) := by
                  unfold Hid; rw [← unhide HF, unhide E0, unhide CM, if_neg (by simp), unhide PN]; rfl
                clear h4 HCe hsz hP
                go_wp2
                go_ret3
                exact ⟨unhide HB, .inl ⟨unhide E, rfl⟩⟩
        · have e1 : e = s.size := by omega
          subst e1
          have E : Hid (headF (s.size + 1) s.data.toList = none) := by
            unfold Hid; rw [← unhide HF, headF, line_end (unhide hno) ha]; rfl
          have hne : ((s.size : Int) == (s.size : Int)) = true := by simp
          go_wp2
          go_ret3
          exact ⟨Below.refl _ _, .inl ⟨unhide E, rfl⟩⟩
    · have E : Hid (headF (s.size + 1) s.data.toList = none) := by
        unfold Hid; rw [← unhide HF, headF]
        have : ended (s.data.toList.drop a) = false := by
          rw [List.drop_eq_nil_of_le (by simp; omega)]; rfl
        rw [this]; rfl
      go_wp2
      go_ret3
      exact ⟨Below.refl _ _, .inl ⟨unhide E, rfl⟩⟩
end Rd
end Go.Proofs.YtceahffmenbibaaGreatDoor
