/- Sets of literals as two words of bits. -/
import Derived.Test.YtceahffmenbibaaGreatDoorCspec
import Derived.Lib.TrailingZeros
namespace Go.Proofs.YtceahffmenbibaaGreatDoor
namespace Rd
set_option linter.unusedVariables false
set_option linter.unusedSimpArgs false

abbrev Key : Type := Nat × Nat
def wide : Nat := 18446744073709551616
def Key.ok (s : Key) : Prop := s.1 < wide ∧ s.2 < wide
/-- the literals that have a bit -/
def IsLit (l : Int) : Prop := (1 ≤ l ∧ l ≤ 64) ∨ (-64 ≤ l ∧ l ≤ -1)
def Key.has (s : Key) (l : Int) : Bool := if 0 < l then s.1.testBit (l.toNat - 1) else if l < 0 then s.2.testBit ((-l).toNat - 1) else false
def andNot (a b : Nat) : Nat := a ^^^ (a &&& b)
def Key.un (s t : Key) : Key := (s.1 ||| t.1, s.2 ||| t.2)
def Key.wo (s t : Key) : Key := (andNot s.1 t.1, andNot s.2 t.2)
def Key.op (s : Key) : Key := (s.2, s.1)
def single (l : Int) : Key := if l < 0 then (0, 2 ^ ((-l).toNat - 1)) else (2 ^ (l.toNat - 1), 0)
def Key.one (s : Key) : Key := if s.1 ≠ 0 then (2 ^ Lib.ctz 64 s.1, 0) else (0, 2 ^ Lib.ctz 64 s.2)
def Key.oneL (s : Key) : Int := if s.1 ≠ 0 then (Lib.ctz 64 s.1 : Int) + 1 else -((Lib.ctz 64 s.2 : Int) + 1)
def place (l : Int) : Nat := if 0 < l then l.toNat - 1 else 64 + ((-l).toNat - 1)
def setOf (c : List Int) : Key := c.foldl (fun s l => s.un (single l)) (0, 0)

theorem testBit_wide {x i : Nat} (h : x < wide) (hb : x.testBit i = true) : i < 64 := by
  rcases Nat.lt_or_ge i 64 with h1 | h1
  · exact h1
  · have : x < 2 ^ i := Nat.lt_of_lt_of_le (show x < 2 ^ 64 from h) (Nat.pow_le_pow_right (by decide) h1)
    rw [Nat.testBit_lt_two_pow this] at hb; cases hb
theorem Key.has_lit {s : Key} (h : s.ok) {l : Int} (hl : s.has l = true) : IsLit l := by
  unfold Key.has at hl
  split at hl
  · have := testBit_wide h.1 hl; left; omega
  · split at hl
    · have := testBit_wide h.2 hl; right; omega
    · cases hl
theorem has_pos (s : Key) (i : Nat) : s.has ((i : Int) + 1) = s.1.testBit i := by
  unfold Key.has; rw [if_pos (by omega)]; congr 1
theorem has_neg (s : Key) (i : Nat) : s.has (-((i : Int) + 1)) = s.2.testBit i := by
  unfold Key.has; rw [if_neg (by omega), if_pos (by omega)]; congr 1
theorem lit_cases (l : Int) : l = 0 ∨ (∃ i : Nat, l = (i : Int) + 1) ∨ ∃ i : Nat, l = -((i : Int) + 1) := by
  rcases Int.lt_trichotomy l 0 with h | h | h
  · right; right; exact ⟨(-l - 1).toNat, by omega⟩
  · left; exact h
  · right; left; exact ⟨(l - 1).toNat, by omega⟩
theorem has_zero (s : Key) : s.has 0 = false := by unfold Key.has; simp
theorem key_ext {s t : Key} (h : ∀ l, s.has l = t.has l) : s = t := by
  obtain ⟨s1, s2⟩ := s; obtain ⟨t1, t2⟩ := t
  congr 1
  · exact Nat.eq_of_testBit_eq fun i => by have := h ((i : Int) + 1); rwa [has_pos, has_pos] at this
  · exact Nat.eq_of_testBit_eq fun i => by have := h (-((i : Int) + 1)); rwa [has_neg, has_neg] at this
theorem testBit_andNot (a b i : Nat) : (andNot a b).testBit i = (a.testBit i && !b.testBit i) := by
  unfold andNot; rw [Nat.testBit_xor, Nat.testBit_and]; cases a.testBit i <;> cases b.testBit i <;> rfl
theorem has_un (s t : Key) (l : Int) : (s.un t).has l = (s.has l || t.has l) := by
  rcases lit_cases l with rfl | ⟨i, rfl⟩ | ⟨i, rfl⟩
  · simp [has_zero]
  · simp [has_pos, Key.un, Nat.testBit_or]
  · simp only [has_neg, Key.un, Nat.testBit_or]
theorem has_wo (s t : Key) (l : Int) : (s.wo t).has l = (s.has l && !t.has l) := by
  rcases lit_cases l with rfl | ⟨i, rfl⟩ | ⟨i, rfl⟩
  · simp [has_zero]
  · simp only [has_pos, Key.wo, testBit_andNot]
  · simp only [has_neg, Key.wo, testBit_andNot]
theorem has_op (s : Key) (l : Int) : s.op.has l = s.has (-l) := by
  rcases lit_cases l with rfl | ⟨i, rfl⟩ | ⟨i, rfl⟩
  · simp [has_zero]
  · rw [has_pos, has_neg]; rfl
  · rw [has_neg, Int.neg_neg, has_pos]; rfl
theorem has_empty (l : Int) : Key.has (0, 0) l = false := by
  rcases lit_cases l with rfl | ⟨i, rfl⟩ | ⟨i, rfl⟩
  · simp [has_zero]
  · rw [has_pos]; simp
  · rw [has_neg]; simp
theorem has_single {l : Int} (hl : l ≠ 0) (x : Int) : (single l).has x = decide (x = l) := by
  rcases lit_cases l with rfl | ⟨i, rfl⟩ | ⟨i, rfl⟩
  · exact absurd rfl hl
  · have e : single ((i : Int) + 1) = (2 ^ i, 0) := by unfold single; rw [if_neg (by omega)]; congr 2
    rw [e]
    rcases lit_cases x with rfl | ⟨j, rfl⟩ | ⟨j, rfl⟩
    · rw [has_zero]; symm; simp; omega
    · rw [has_pos, Nat.testBit_two_pow]; simp; omega
    · rw [has_neg]; simp; omega
  · have e : single (-((i : Int) + 1)) = (0, 2 ^ i) := by unfold single; rw [if_pos (by omega)]; congr 2
    rw [e]
    rcases lit_cases x with rfl | ⟨j, rfl⟩ | ⟨j, rfl⟩
    · rw [has_zero]; symm; simp; omega
    · rw [has_pos]; simp; omega
    · rw [has_neg, Nat.testBit_two_pow]; simp; omega
theorem un_ok {s t : Key} (hs : s.ok) (ht : t.ok) : (s.un t).ok :=
  ⟨show _ < 2 ^ 64 from Nat.or_lt_two_pow hs.1 ht.1, show _ < 2 ^ 64 from Nat.or_lt_two_pow hs.2 ht.2⟩
theorem andNot_lt {a b : Nat} (h : a < wide) : andNot a b < wide := by
  show _ < 2 ^ 64
  exact Nat.xor_lt_two_pow h (Nat.lt_of_le_of_lt Nat.and_le_left h)
theorem wo_ok {s : Key} (hs : s.ok) (t : Key) : (s.wo t).ok := ⟨andNot_lt hs.1, andNot_lt hs.2⟩
theorem op_ok {s : Key} (hs : s.ok) : s.op.ok := ⟨hs.2, hs.1⟩
theorem empty_ok : Key.ok (0, 0) := ⟨by decide, by decide⟩
theorem single_ok {l : Int} (h : IsLit l) : (single l).ok := by
  unfold single
  rcases h with h | h
  · rw [if_neg (by omega)]; exact ⟨show _ < 2 ^ 64 from Nat.pow_lt_pow_right (by decide) (by omega), show 0 < wide by decide⟩
  · rw [if_pos (by omega)]; exact ⟨show 0 < wide by decide, show _ < 2 ^ 64 from Nat.pow_lt_pow_right (by decide) (by omega)⟩
theorem has_setOf_from (c : List Int) (h0 : ∀ l ∈ c, l ≠ 0) : ∀ (s : Key) (x : Int), (c.foldl (fun s l => s.un (single l)) s).has x = (s.has x || decide (x ∈ c)) := by
  induction c with
  | nil => intro s x; simp
  | cons a r ih =>
    intro s x
    rw [List.foldl_cons, ih (fun l hl => h0 l (List.mem_cons_of_mem _ hl)), has_un, has_single (h0 a (List.mem_cons_self ..)), Bool.or_assoc]
    congr 1
    by_cases e : x = a <;> simp [e]
theorem has_setOf {c : List Int} (h0 : ∀ l ∈ c, l ≠ 0) (x : Int) : (setOf c).has x = decide (x ∈ c) := by
  unfold setOf; rw [has_setOf_from c h0, has_empty]; simp
theorem setOf_ok_from (c : List Int) (h : ∀ l ∈ c, IsLit l) : ∀ (s : Key), s.ok → (c.foldl (fun s l => s.un (single l)) s).ok := by
  induction c with
  | nil => intro s hs; exact hs
  | cons a r ih => intro s hs; exact ih (fun l hl => h l (List.mem_cons_of_mem _ hl)) _ (un_ok hs (single_ok (h a (List.mem_cons_self ..))))
theorem setOf_ok {c : List Int} (h : ∀ l ∈ c, IsLit l) : (setOf c).ok := setOf_ok_from c h _ empty_ok
theorem setOf_snoc (c : List Int) (l : Int) : setOf (c ++ [l]) = (setOf c).un (single l) := by unfold setOf; rw [List.foldl_append]; rfl
theorem isLit_ne {l : Int} (h : IsLit l) : l ≠ 0 := by rcases h with h | h <;> omega
theorem isLit_neg {l : Int} (h : IsLit l) : IsLit (-l) := by
  rcases h with h | h
  · right; omega
  · left; omega

theorem empty_iff (s : Key) : (s.1 ||| s.2 = 0) ↔ s = (0, 0) := by
  obtain ⟨a, b⟩ := s
  constructor
  · intro h
    have h' : (a ||| b) = 0 := h
    have ha : a = 0 := Nat.eq_of_testBit_eq fun i => by have := congrArg (Nat.testBit · i) h'; simp only [Nat.testBit_or, Nat.zero_testBit, Bool.or_eq_false_iff] at this; simp [this.1]
    have hb : b = 0 := Nat.eq_of_testBit_eq fun i => by have := congrArg (Nat.testBit · i) h'; simp only [Nat.testBit_or, Nat.zero_testBit, Bool.or_eq_false_iff] at this; simp [this.2]
    rw [ha, hb]
  · intro h; cases h; rfl
theorem ne_zero_bit {x : Nat} : x ≠ 0 ↔ ∃ i, x.testBit i = true := ⟨Nat.exists_testBit_of_ne_zero, fun ⟨i, h⟩ e => by rw [e] at h; simp at h⟩
theorem nonempty_iff (s : Key) : s ≠ (0, 0) ↔ ∃ l, s.has l = true := by
  constructor
  · intro h
    rcases Classical.em (∃ l, s.has l = true) with h1 | h1
    · exact h1
    · exact absurd (key_ext fun l => by rw [has_empty]; cases e : s.has l with | false => rfl | true => exact absurd ⟨l, e⟩ h1) h
  · rintro ⟨l, hl⟩ rfl; rw [has_empty] at hl; cases hl
theorem meets_iff (s t : Key) : ((s.1 &&& t.1) ||| (s.2 &&& t.2) ≠ 0) ↔ ∃ l, s.has l = true ∧ t.has l = true := by
  have e : ∀ l, Key.has (s.1 &&& t.1, s.2 &&& t.2) l = (s.has l && t.has l) := fun l => by
    rcases lit_cases l with rfl | ⟨i, rfl⟩ | ⟨i, rfl⟩
    · simp [has_zero]
    · simp only [has_pos, Nat.testBit_and]
    · simp only [has_neg, Nat.testBit_and]
  have h1 := empty_iff (s.1 &&& t.1, s.2 &&& t.2)
  have h2 := nonempty_iff (s.1 &&& t.1, s.2 &&& t.2)
  simp only [e, Bool.and_eq_true] at h2
  rw [← h2]
  exact not_congr h1
theorem clash_iff (s : Key) : (s.1 &&& s.2 ≠ 0) ↔ ∃ l, s.has l = true ∧ s.has (-l) = true := by
  rw [ne_zero_bit]
  constructor
  · rintro ⟨i, hi⟩
    rw [Nat.testBit_and, Bool.and_eq_true] at hi
    exact ⟨(i : Int) + 1, by rw [has_pos]; exact hi.1, by rw [has_neg]; exact hi.2⟩
  · rintro ⟨l, h1, h2⟩
    rcases lit_cases l with rfl | ⟨i, rfl⟩ | ⟨i, rfl⟩
    · rw [has_zero] at h1; cases h1
    · rw [has_pos] at h1; rw [has_neg] at h2; exact ⟨i, by rw [Nat.testBit_and, h1, h2]; rfl⟩
    · rw [has_neg] at h1; rw [Int.neg_neg, has_pos] at h2; exact ⟨i, by rw [Nat.testBit_and, h1, h2]; rfl⟩

theorem low_bit {x : Nat} (h0 : x ≠ 0) (h : x < wide) : x.testBit (Lib.ctz 64 x) = true ∧ Lib.ctz 64 x < 64 := by
  obtain ⟨h1, h2⟩ := Lib.lowest_bit 64 x h0 h
  refine ⟨?_, h2⟩
  have := congrArg (Nat.testBit · (Lib.ctz 64 x)) h1
  simp only [Nat.testBit_and, Nat.testBit_two_pow_self, Bool.and_eq_true] at this
  exact this.1
theorem oneL_spec {s : Key} (hs : s.ok) (h : s ≠ (0, 0)) : s.one = single s.oneL ∧ s.has s.oneL = true ∧ IsLit s.oneL := by
  unfold Key.one Key.oneL
  by_cases h1 : s.1 ≠ 0
  · rw [if_pos h1, if_pos h1]
    obtain ⟨hb, hc⟩ := low_bit h1 hs.1
    refine ⟨?_, by rw [has_pos]; exact hb, .inl (by omega)⟩
    unfold single; rw [if_neg (by omega)]; congr 2
  · rw [if_neg h1, if_neg h1]
    have h2 : s.2 ≠ 0 := by
      intro e
      apply h
      obtain ⟨a, b⟩ := s
      simp only [ne_eq, Decidable.not_not] at h1
      simp only at e h1
      rw [h1, e]
    obtain ⟨hb, hc⟩ := low_bit h2 hs.2
    refine ⟨?_, by rw [has_neg]; exact hb, .inr (by omega)⟩
    unfold single; rw [if_pos (by omega)]; congr 2
theorem place_lt {l : Int} (h : IsLit l) : place l < 128 := by unfold place; rcases h with h | h <;> split <;> omega
theorem place_inj {l l' : Int} (h : IsLit l) (h' : IsLit l') (e : place l = place l') : l = l' := by
  unfold place at e
  rcases h with h | h <;> rcases h' with h' | h' <;> (split at e <;> split at e <;> omega)
end Rd
end Go.Proofs.YtceahffmenbibaaGreatDoor
