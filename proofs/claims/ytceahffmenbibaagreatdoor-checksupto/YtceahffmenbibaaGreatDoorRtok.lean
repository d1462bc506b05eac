/- strings.FieldsFunc at the three gaps gives the tokens: plain lists. -/
import Derived.Test.YtceahffmenbibaaGreatDoorRspec
import Derived.Lib.FieldsP
import Derived.Laws.RangeAny
import Derived.Laws.RangeString
namespace Go.Proofs.YtceahffmenbibaaGreatDoor
namespace Rd
open Go
set_option linter.unusedVariables false
set_option linter.unusedSimpArgs false

def gapRune (r : Nat) : Bool := r == 32 || r == 9 || r == 10
theorem get_bang {s : ByteArray} {i : Nat} (h : i < s.size) : s.get! i = s[i] := by
  show s.data[i]! = s.data[i]
  exact getElem!_pos s.data i h

theorem decode_span (s : ByteArray) (pos : Nat) (h : pos < s.size) (ha : 128 ≤ (s[pos]'h).toNat) :
    ∀ k, k < (Utf8.decode s pos).2 → ∃ hx9 : pos + k < s.size, 128 ≤ (s[pos + k]'hx9).toNat := by
  intro k hk
  by_cases hk0 : k = 0
  · subst hk0; exact ⟨h, ha⟩
  have hb0 : ¬ (s.get! (pos + 0)).toNat < 128 := by rw [Nat.add_zero, get_bang h]; omega
  have key : ∀ j, (decide (pos + j < s.size) && (s.get! (pos + j)).toNat / 64 == 2) = true → ∃ hx9 : pos + j < s.size, 128 ≤ (s[pos + j]'hx9).toNat := fun j hj => by
    simp only [Bool.and_eq_true, decide_eq_true_eq, beq_iff_eq] at hj
    refine ⟨hj.1, ?_⟩
    have := hj.2
    rw [get_bang hj.1] at this
    omega
  unfold Utf8.decode at hk
  simp only [hb0, if_false] at hk
  split at hk
  · rename_i hc
    simp only [Bool.and_eq_true] at hc
    split at hk
    · simp only at hk
      have : k = 1 := by omega
      subst this; exact key 1 (by simpa using hc.2)
    · simp only at hk; omega
  · split at hk
    · rename_i hc
      simp only [Bool.and_eq_true] at hc
      split at hk
      · simp only at hk
        have : k = 1 ∨ k = 2 := by omega
        rcases this with rfl | rfl
        · exact key 1 (by simpa using hc.1.2)
        · exact key 2 (by simpa using hc.2)
      · simp only at hk; omega
    · split at hk
      · rename_i hc
        simp only [Bool.and_eq_true] at hc
        split at hk
        · simp only at hk
          have : k = 1 ∨ k = 2 ∨ k = 3 := by omega
          rcases this with rfl | rfl | rfl
          · exact key 1 (by simpa using hc.1.1.2)
          · exact key 2 (by simpa using hc.1.2)
          · exact key 3 (by simpa using hc.2)
        · simp only at hk; omega
      · simp only at hk; omega

theorem fold_run : ∀ (r : Bs) (st : List Bs × Bs), (∀ c ∈ r, gap c = false) → r.foldl tokStep st = (st.1, st.2 ++ r)
  | [], st, _ => by simp
  | c :: r, st, h => by
    have hc := h c (by simp)
    simp only [List.foldl_cons]
    rw [fold_run r _ (fun x hx => h x (by simp [hx]))]
    simp [tokStep, hc]

theorem toksTo_app (a b : Bs) : toksTo (a ++ b) = b.foldl tokStep (toksTo a) := by unfold toksTo; rw [List.foldl_append]

/-- the text from a up to b -/
def sub (L : Bs) (a b : Nat) : Bs := (L.take b).drop a
theorem take_sub (L : Bs) {a b : Nat} (h : a ≤ b) : L.take b = L.take a ++ sub L a b := by
  unfold sub
  conv => lhs; rw [← List.take_append_drop a (L.take b)]
  rw [List.take_take, Nat.min_eq_left h]
theorem sub_app (L : Bs) {a b c : Nat} (h : a ≤ b) (hx9 : b ≤ c) : sub L a b ++ sub L b c = sub L a c := by
  have e1 := take_sub L (a := a) (b := c) (by omega)
  have e2 := take_sub L h
  have e3 := take_sub L hx9
  rw [e3, e2, List.append_assoc] at e1
  exact List.append_cancel_left e1

def Inv (s : ByteArray) (pos : Nat) (st : Option Nat) (acc : List (Nat × Nat)) : Prop :=
  toksTo (s.data.toList.take pos) = (acc.map fun x => sub s.data.toList x.1 x.2, match st with | none => [] | some a => sub s.data.toList a pos) ∧ (∀ a, st = some a → a < pos) ∧ pos ≤ s.size

theorem sub_ne {s : ByteArray} {a pos : Nat} (h : a < pos) (hp : pos ≤ s.size) : (sub s.data.toList a pos).isEmpty = false := by
  rw [Bool.eq_false_iff]; intro hx9
  have := congrArg List.length (List.isEmpty_iff.1 hx9)
  simp [sub] at this; omega

theorem sub_mem {s : ByteArray} {a b : Nat} {c : UInt8} (h : c ∈ sub s.data.toList a b) : ∃ k, ∃ hx9 : a + k < s.size, a + k < b ∧ c = s[a + k]'hx9 := by
  unfold sub at h
  obtain ⟨i, hi, e⟩ := List.getElem_of_mem h
  simp at hi
  refine ⟨i, by omega, by omega, ?_⟩
  rw [← e]
  simp [ByteArray.getElem_eq_getElem_data]

def accG (st : Option Nat) (acc : List (Nat × Nat)) (pos : Nat) : List (Nat × Nat) :=
  match st with | some a => acc ++ [(a, pos)] | none => acc
def stR (st : Option Nat) (pos : Nat) : Option Nat :=
  match st with | some a => some a | none => some pos
theorem inv_gap {s : ByteArray} {pos : Nat} {st : Option Nat} {acc : List (Nat × Nat)} (h : Inv s pos st acc) (hp : pos < s.size) (hg : gap s[pos] = true) :
    Inv s (pos + 1) none (accG st acc pos) := by
  obtain ⟨h1, h2, h3⟩ := h
  have ht : s.data.toList.take (pos + 1) = s.data.toList.take pos ++ [s[pos]] := by
    rw [List.take_succ_eq_append_getElem (by simpa using hp)]; rfl
  refine ⟨?_, (fun a h => by cases h), by omega⟩
  rw [ht, toksTo_snoc, h1]
  unfold tokStep
  rw [hg, if_pos rfl]
  cases st with
  | none => rfl
  | some a =>
    simp only
    rw [sub_ne (h2 a rfl) h3]
    simp [accG]

theorem inv_run {s : ByteArray} {pos wd : Nat} {st : Option Nat} {acc : List (Nat × Nat)} (h : Inv s pos st acc) (hw : 1 ≤ wd) (hall : ∀ k, k < wd → ∃ hx9 : pos + k < s.size, gap (s[pos + k]'hx9) = false) :
    Inv s (pos + wd) (stR st pos) acc := by
  obtain ⟨h1, h2, h3⟩ := h
  obtain ⟨hl, _⟩ := hall (wd - 1) (by omega)
  refine ⟨?_, ?_, by omega⟩
  · rw [take_sub s.data.toList (a := pos) (b := pos + wd) (by omega), toksTo_app, h1, fold_run]
    · cases st with
      | none => rfl
      | some a => simp only; rw [sub_app _ (Nat.le_of_lt (h2 a rfl)) (by omega)]; rfl
    · intro c hc
      obtain ⟨k, hk, hlt, rfl⟩ := sub_mem hc
      exact (hall k (by omega)).2
  · cases st with
    | none => intro a h; cases h; omega
    | some a => intro a' h; cases h; have := h2 a rfl; omega

theorem gap_rune (s : ByteArray) (pos : Nat) (h : pos < s.size) : gapRune (Utf8.decode s pos).1 = gap s[pos] := by
  by_cases ha : (s[pos]'h).toNat < 128
  · rw [decode_ascii s pos h ha]
    unfold gapRune gap
    rw [Bool.eq_iff_iff]
    simp [← UInt8.toNat_inj]
  · have h1 := (decode_high s pos h (by omega)).1
    unfold gapRune gap
    rw [Bool.eq_iff_iff]
    simp [← UInt8.toNat_inj]
    omega

theorem inv_spans (s : ByteArray) : ∀ (f pos : Nat) (st : Option Nat) (acc : List (Nat × Nat)), s.size ≤ pos + f → Inv s pos st acc →
    Inv s s.size (Lib.spansFromP gapRune s f pos st acc).2 (Lib.spansFromP gapRune s f pos st acc).1
  | 0, pos, st, acc, hf, hi => by
    have : pos = s.size := by have := hi.2.2; omega
    subst this; exact hi
  | f + 1, pos, st, acc, hf, hi => by
    unfold Lib.spansFromP
    by_cases hp : pos < s.size
    · rw [if_pos hp, gap_rune s pos hp]
      cases hg : gap s[pos] with
      | true =>
        have ha : (s[pos]'hp).toNat < 128 := by
          simp [gap, ← UInt8.toNat_inj] at hg; omega
        have hi' := inv_gap hi hp hg
        rw [decode_ascii s pos hp ha]
        cases st with
        | none => simp only [if_true]; exact inv_spans s f _ _ _ (by omega) hi'
        | some a => simp only [if_true]; exact inv_spans s f _ _ _ (by omega) hi'
      | false =>
        have hw : 1 ≤ (Utf8.decode s pos).2 := by
          by_cases ha : (s[pos]'hp).toNat < 128
          · rw [decode_ascii s pos hp ha]; simp
          · exact (decode_high s pos hp (by omega)).2
        have hall : ∀ k, k < (Utf8.decode s pos).2 → ∃ hx9 : pos + k < s.size, gap (s[pos + k]'hx9) = false := by
          intro k hk
          by_cases ha : (s[pos]'hp).toNat < 128
          · rw [decode_ascii s pos hp ha] at hk
            simp only at hk
            have : k = 0 := by omega
            subst this; exact ⟨hp, hg⟩
          · obtain ⟨hx9, h2⟩ := decode_span s pos hp (by omega) k hk
            refine ⟨hx9, ?_⟩
            rw [Bool.eq_false_iff]; intro hx
            simp [gap, ← UInt8.toNat_inj] at hx; omega
        have hi' := inv_run hi hw hall
        cases st with
        | none => simp only [Bool.false_eq_true, if_false]; exact inv_spans s f _ _ _ (by omega) hi'
        | some a => simp only [Bool.false_eq_true, if_false]; exact inv_spans s f _ _ _ (by omega) hi'
    · rw [if_neg hp]
      have : pos = s.size := by have := hi.2.2; omega
      subst this; exact hi

theorem fields_toks (s : ByteArray) : (Lib.goFieldsP gapRune s).map (fun x => x.data.toList) = toks s.data.toList := by
  have h := inv_spans s s.size 0 none [] (by omega) ⟨by simp [toksTo], (fun a h => by cases h), by omega⟩
  obtain ⟨h1, h2, _⟩ := h
  rw [List.take_of_length_le (by simp)] at h1
  rw [← toks_eq, h1]
  unfold Lib.goFieldsP Lib.spansOfP Lib.closeSpans close
  have hs : ∀ a b, List.take (b - a) (List.drop a s.data.toList) = sub s.data.toList a b := fun a b => by
    rw [sub, List.drop_take]
  cases hst : (Lib.spansFromP gapRune s s.size 0 none []).2 with
  | none => simp [List.map_map, Function.comp_def, hs]
  | some a =>
    have hne := sub_ne (s := s) (h2 a hst) (Nat.le_refl _)
    simp only [hne]
    simp [List.map_map, Function.comp_def, hs]
theorem toks_len (l : Bs) : (toks l).length ≤ l.length ∧ ∀ t ∈ toks l, t.length ≤ l.length := by
  suffices h : ∀ (l w : Bs), (toksF w l).length ≤ l.length + w.length ∧ ∀ t ∈ toksF w l, t.length ≤ l.length + w.length by
    have := h l []; simpa [toks] using this
  intro l
  induction l with
  | nil => intro w; unfold toksF; cases w <;> simp
  | cons c r ih =>
    intro w
    unfold toksF
    split
    · split
      · have := ih []
        simp at this ⊢
        exact ⟨by omega, fun t ht => by have := this.2 t ht; omega⟩
      · rename_i hw
        have := ih []
        have hw' : 1 ≤ w.length := by cases w <;> simp at hw ⊢
        simp at this ⊢
        exact ⟨by omega, fun t ht => by have := this.2 t ht; omega⟩
    · have := ih (w ++ [c])
      simp at this ⊢
      exact ⟨by omega, fun t ht => by have := this.2 t ht; omega⟩

end Rd
end Go.Proofs.YtceahffmenbibaaGreatDoor
