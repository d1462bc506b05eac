/- The walk of countTokens. -/
import Derived.Test.YtceahffmenbibaaGreatDoorRprog3
namespace Go.Proofs.YtceahffmenbibaaGreatDoor
namespace Rd
open Go Go.RowKit Go.Proofs
set_option linter.unusedVariables false
set_option linter.unusedSimpArgs false

/-- the lists of bytes of texts -/
def bss (T : List ByteArray) : List Bs := T.map fun x => x.data.toList
theorem bss_take (T : List ByteArray) (k : Nat) : (bss T).take k = bss (T.take k) := by simp [bss, List.map_take]
theorem bss_snoc {T : List ByteArray} {k : Nat} (h : k < T.length) : bss (T.take (k + 1)) = bss (T.take k) ++ [T[k].data.toList] := by
  rw [List.take_succ_eq_append_getElem h]; unfold bss; rw [List.map_append]; rfl
theorem zeros_snoc (T : List Bs) (t : Bs) : zeros (T ++ [t]) = zeros T + if zero t then 1 else 0 := by
  unfold zeros; rw [List.filter_append]; cases h : zero t <;> simp [h]
theorem lits_snoc (T : List Bs) (t : Bs) : lits (T ++ [t]) = lits T + if zero t then 0 else 1 := by
  unfold lits; rw [List.filter_append]; cases h : zero t <;> simp [h]
theorem okAll_snoc (v : Bs) (T : List Bs) (t : Bs) : okAll v (T ++ [t]) = (okAll v T && (zero t || litB v t)) := by
  unfold okAll; rw [List.all_append]; simp
theorem zeros_le (T : List Bs) : zeros T ≤ T.length := by unfold zeros; exact List.length_filter_le _ _
theorem lits_le (T : List Bs) : lits T ≤ T.length := by unfold lits; exact List.length_filter_le _ _
theorem not_okAll {v : Bs} {T : List ByteArray} {k : Nat} (hk : k < T.length) (h : (zero T[k].data.toList || litB v T[k].data.toList) = false) : okAll v (bss T) = false := by
  rw [Bool.eq_false_iff]; intro ha
  have := List.all_eq_true.1 ha T[k].data.toList (by simp only [bss, List.mem_map]; exact ⟨T[k], List.getElem_mem hk, rfl⟩)
  rw [h] at this; cases this

/-- the last one closes -/
def closedB (T : List Bs) : Bool := T.isEmpty || T.getLast? == some [48]

/-- one 'parsed' as cells -/
abbrev prs (v : ByteArray) (c l : Nat) (a : Option Addr) (n : Nat) : Array Value := #[.string v, .int .i64 c, .int .i64 l, .slice a n n]

set_option maxHeartbeats 1000000 in
theorem countTokens_any (T : List ByteArray) (v : ByteArray) (A : Nat) (w : World) (hn : T.length ≤ 20000) (hT : ∀ x ∈ T, x.size ≤ 20000) (hv : v.size ≤ 20000) (hA : A < w.heap.size)
    (hc : ∀ j (h : j < T.length), w.cell? ⟨A, j, none⟩ = some (.string T[j])) :
    Calls Tryz.prog 62 #[.slice (some ⟨A, 0, none⟩) T.length T.length, .string v] w fun e w' => Below w.heap.size w w' ∧
      ((okAll v.data.toList (bss T) = true ∧ e = .returned (.tuple #[.agg (prs v (zeros (bss T)) (lits (bss T)) (some ⟨A, 0, none⟩) T.length), .bool (closedB (bss T))])) ∨
       (okAll v.data.toList (bss T) = false ∧ e = .returned (.tuple #[.agg (prs ⟨#[]⟩ 0 0 none 0), .bool false]))) := by
  have HC := hide hc; clear hc
  have HTs := hide hT; clear hT
  go_enter Tryz.func62, Tryz.ntmps62
  go_wp2
  go_loopw [15] (fun i wr => ∃ k : Nat, k ≤ T.length ∧ i = .int .i64 k ∧ Hid (okAll v.data.toList (bss (T.take k)) = true) ∧
      wr = (w.alloc (.cells (prs ⟨#[]⟩ 0 0 none 0) 72)).alloc (.cells (prs v (zeros (bss (T.take k))) (lits (bss (T.take k))) (some ⟨A, 0, none⟩) T.length) 72)) (fun i _ => T.length - (intOf i).toNat)
  case atStart => exact ⟨0, Nat.zero_le _, rfl, rfl, rfl⟩
  case round =>
    obtain ⟨k, hk, rfl, hok, rfl⟩ := hrel
    have z1 := zeros_le (bss (T.take k))
    have z2 := lits_le (bss (T.take k))
    have z3 : (bss (T.take k)).length ≤ k := by simp [bss]; omega
    by_cases hlt : k < T.length
    · have ck := unhide HC k hlt
      have hsz := unhide HTs T[k] (List.getElem_mem hlt)
      have S := hide (bss_snoc hlt)
      obtain ⟨t, ht⟩ : ∃ t, t = T[k] := ⟨_, rfl⟩
      rw [← ht] at ck hsz S
      have NK : Hid ((zero t.data.toList || litB v.data.toList t.data.toList) = false → okAll v.data.toList (bss T) = false) := fun h => not_okAll hlt (by rw [← ht]; exact h)
      clear ht
      cases c1 : (t.toList == [48]) with
      | true =>
        have Z : Hid (zero t.data.toList = true) := by unfold Hid zero; rw [← ByteArray.toList_eq]; exact c1
        go_wp2
        go_roundw
        case rel =>
          refine ⟨k + 1, by omega, by go_num, ?_, ?_⟩
          · unfold Hid; rw [unhide S, okAll_snoc, unhide hok, unhide Z]; rfl
          · rw [unhide S, zeros_snoc, lits_snoc, unhide Z]; rfl
        case measure => simp [intOf]; omega
      | false =>
        have Z : Hid (zero t.data.toList = false) := by unfold Hid zero; rw [← ByteArray.toList_eq]; exact c1
        cases c2 : litB v.data.toList t.data.toList with
        | true =>
          have C2 := hide c2; clear c2
          go_wp2_with fail
          refine (isLiteral_any t v _ (by unfold maxLen; omega) (by unfold maxLen; omega)).mono ?_
          rintro e w1 ⟨rfl, rfl⟩
          rw [unhide C2]
          go_wp2
          go_roundw
          case rel =>
            refine ⟨k + 1, by omega, by go_num, ?_, ?_⟩
            · unfold Hid; rw [unhide S, okAll_snoc, unhide hok, unhide Z, unhide C2]; rfl
            · rw [unhide S, zeros_snoc, lits_snoc, unhide Z]; rfl
          case measure => simp [intOf]; omega
        | false =>
          have C2 := hide c2; clear c2
          go_wp2_with fail
          refine (isLiteral_any t v _ (by unfold maxLen; omega) (by unfold maxLen; omega)).mono ?_
          rintro e w1 ⟨rfl, rfl⟩
          rw [unhide C2]
          go_wp2
          have hno := unhide NK (by rw [unhide Z, unhide C2]; rfl)
          exact bodyPost_ret (v := .tuple #[.agg (prs ⟨#[]⟩ 0 0 none 0), .bool false]) (by simp [results, Tryz.results62, go_sem]) rfl ⟨((Below.refl _ _).alloc (Nat.le_refl _) _).alloc (by simp) _, .inr ⟨hno, rfl⟩⟩
    · have e : k = T.length := by omega
      subst e
      have hall := unhide hok
      rw [List.take_of_length_le (Nat.le_refl _)] at hall ⊢
      have HALL := hide hall; clear hall hok
      by_cases h0 : T.length = 0
      · have hb : ((T.length : Int) == 0) = true := by simp [h0]
        have E : Hid (closedB (bss T) = true) := by unfold Hid closedB bss; rw [List.eq_nil_of_length_eq_zero h0]; rfl
        clear h0
        go_wp2
        exact bodyPost_ret (v := .tuple #[.agg (prs v (zeros (bss T)) (lits (bss T)) (some ⟨A, 0, none⟩) T.length), .bool (closedB (bss T))]) (by rw [unhide E]; simp [results, Tryz.results62, go_sem]) rfl
          ⟨((Below.refl _ _).alloc (Nat.le_refl _) _).alloc (by simp) _, .inl ⟨unhide HALL, rfl⟩⟩
      · have hb : ((T.length : Int) == 0) = false := by rw [beq_eq_false_iff_ne]; omega
        have ck := unhide HC (T.length - 1) (by omega)
        have he : ((T.length : Int) - 1).toNat = T.length - 1 := by omega
        have E : Hid (closedB (bss T) = (T[T.length - 1].toList == [48])) := by
          unfold Hid closedB
          have hne : (bss T) ≠ [] := by intro h; apply h0; have := congrArg List.length h; simpa [bss] using this
          have hl : (bss T).getLast? = some T[T.length - 1].data.toList := by
            rw [List.getLast?_eq_getElem?]
            simp [bss]
            exact ⟨T[T.length - 1], List.getElem?_eq_getElem (by omega), rfl⟩
          rw [hl]
          have h1 : (bss T).isEmpty = false := by simpa using hne
          rw [h1, ByteArray.toList_eq]; simp
        obtain ⟨t, ht⟩ : ∃ t, t = T[T.length - 1] := ⟨_, rfl⟩
        rw [← ht] at ck E
        clear ht
        have hp : 0 < T.length := by omega
        go_wp2
        exact bodyPost_ret (v := .tuple #[.agg (prs v (zeros (bss T)) (lits (bss T)) (some ⟨A, 0, none⟩) T.length), .bool (closedB (bss T))]) (by rw [unhide E]; simp [results, Tryz.results62, go_sem]) rfl
          ⟨((Below.refl _ _).alloc (Nat.le_refl _) _).alloc (by simp) _, .inl ⟨unhide HALL, rfl⟩⟩
end Rd
end Go.Proofs.YtceahffmenbibaaGreatDoor
