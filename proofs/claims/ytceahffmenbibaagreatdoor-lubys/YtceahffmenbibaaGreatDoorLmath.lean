/- Luby's numbers, in plain numbers: the two ways of the program and of the document's answer come to one function. -/
import Derived.Lib.ItoaNum
import Derived.Laws.MathBits
namespace Go.Proofs.YtceahffmenbibaaGreatDoor
namespace Lb

/-- k: how many bits i has. -/
def IsK (i k : Nat) : Prop := 1 ≤ k ∧ 2 ^ (k - 1) ≤ i ∧ i < 2 ^ k

/-- one number after the other, with fuel: 'k' bits: 2^(k-1) at the end of its stretch, else the sequence once more. -/
def lub : Nat → Nat → Nat
  | 0, _ => 0
  | f + 1, i => if i + 1 = 2 ^ (Lib.bitLen i) then 2 ^ (Lib.bitLen i - 1) else lub f (i - (2 ^ (Lib.bitLen i - 1) - 1))

theorem isK_bitLen {i : Nat} (h1 : 1 ≤ i) (h2 : i ≤ 1000000) : IsK i (Lib.bitLen i) := by
  have h := Lib.bitLenAux_bounds 64 i (by omega) (by omega)
  exact h

theorem isK_unique {i k j : Nat} (h1 : IsK i k) (h2 : IsK i j) : k = j := by
  obtain ⟨a1, a2, a3⟩ := h1
  obtain ⟨b1, b2, b3⟩ := h2
  have e1 : 2 ^ (k - 1) < 2 ^ j := by omega
  have e2 : 2 ^ (j - 1) < 2 ^ k := by omega
  have c1 := (Nat.pow_lt_pow_iff_right (a := 2) (by omega)).1 e1
  have c2 := (Nat.pow_lt_pow_iff_right (a := 2) (by omega)).1 e2
  omega

theorem isK_le {i k : Nat} (h2 : i ≤ 1000000) (h : IsK i k) : k ≤ 20 := by
  obtain ⟨a1, a2, a3⟩ := h
  have e1 : 2 ^ (k - 1) < 2 ^ 20 := by omega
  have c1 := (Nat.pow_lt_pow_iff_right (a := 2) (by omega)).1 e1
  omega

theorem two_pow_pred {k : Nat} (h : 1 ≤ k) : 2 ^ k = 2 * 2 ^ (k - 1) := by
  obtain ⟨j, rfl⟩ := Nat.exists_eq_add_of_le h
  rw [show 1 + j = j + 1 by omega, Nat.pow_succ, Nat.add_sub_cancel]; omega

theorem lub_end {f i k : Nat} (h1 : 1 ≤ i) (h2 : i ≤ 1000000) (h : IsK i k) (e : i + 1 = 2 ^ k) : lub (f + 1) i = 2 ^ (k - 1) := by
  have hk := isK_unique h (isK_bitLen h1 h2)
  simp only [lub]; rw [← hk, if_pos e]

theorem lub_step {f i k : Nat} (h1 : 1 ≤ i) (h2 : i ≤ 1000000) (h : IsK i k) (e : ¬ i + 1 = 2 ^ k) : lub (f + 1) i = lub f (i - (2 ^ (k - 1) - 1)) := by
  have hk := isK_unique h (isK_bitLen h1 h2)
  simp only [lub]; rw [← hk, if_neg e]

/-- what a round leaves: smaller, and at least 1. -/
theorem step_bounds {i k : Nat} (h1 : 1 ≤ i) (h : IsK i k) (e : ¬ i + 1 = 2 ^ k) : 1 ≤ i - (2 ^ (k - 1) - 1) ∧ i - (2 ^ (k - 1) - 1) < i := by
  obtain ⟨a1, a2, a3⟩ := h
  have p := two_pow_pred a1
  have hp : 1 ≤ 2 ^ (k - 1) := Nat.one_le_two_pow
  by_cases h2 : 2 ^ (k - 1) = 1
  · omega
  · omega

theorem pow_int (k : Nat) : ((2 ^ k : Nat) : Int) = (2 : Int) ^ k := by simp
theorem pow_le {k : Nat} (h : k ≤ 20) : (2 : Int) ^ k ≤ 1048576 ∧ 1 ≤ (2 : Int) ^ k := by
  have h1 : 2 ^ k ≤ 2 ^ 20 := Nat.pow_le_pow_right (by omega) h
  have h2 : 1 ≤ 2 ^ k := Nat.one_le_two_pow
  have e := pow_int k
  omega

theorem num_end {g i k v : Nat} (HL : lub (g + 1) i = v) (h1 : 1 ≤ i) (h2 : i ≤ 1000000) (hK : IsK i k) (h : ((i : Int) == 2 * 2 ^ (k - 1) - 1) = true) : (v : Int) = 2 ^ (k - 1) := by
  have p := two_pow_pred hK.1
  have q := pow_int (k - 1)
  have hp : 1 ≤ 2 ^ (k - 1) := Nat.one_le_two_pow
  have h' : (i : Int) = 2 * 2 ^ (k - 1) - 1 := by simpa using h
  rw [← HL, lub_end h1 h2 hK (by omega), q]

theorem num_step {g i k v : Nat} (HL : lub (g + 1) i = v) (h1 : 1 ≤ i) (h2 : i ≤ 1000000) (hg : i ≤ g + 1) (hK : IsK i k) (h : ((i : Int) == 2 * 2 ^ (k - 1) - 1) = false) :
    ∃ j : Nat, (i : Int) - (2 ^ (k - 1) - 1) = (j : Int) ∧ 1 ≤ j ∧ j ≤ g ∧ j ≤ 1000000 ∧ lub g j = v ∧ j < i := by
  have p := two_pow_pred hK.1
  have q := pow_int (k - 1)
  have hp : 1 ≤ 2 ^ (k - 1) := Nat.one_le_two_pow
  have h' : ¬ (i : Int) = 2 * 2 ^ (k - 1) - 1 := by simpa using h
  have e : ¬ i + 1 = 2 ^ k := by omega
  have b := step_bounds h1 hK e
  have k2 := hK.2.1
  refine ⟨i - (2 ^ (k - 1) - 1), by omega, b.1, by omega, by omega, ?_, b.2⟩
  rw [← HL, lub_step h1 h2 hK e]

theorem turn_eq {i k : Nat} (hk : 1 ≤ k) {b : Bool} (h : ((2 : Int) ^ k - 1 == (i : Int)) = b) : ((i : Int) == 2 * 2 ^ (k - 1) - 1) = b := by
  have p := two_pow_pred hk
  have q := pow_int (k - 1)
  have q' := pow_int k
  rw [← h, Bool.eq_iff_iff]
  simp only [beq_iff_eq]
  omega

theorem isK_of {i k : Nat} (h1 : 1 ≤ k) (h2 : 2 ^ (k - 1) ≤ i) (h3 : (i : Int) ≤ 2 ^ k - 1) : IsK i k := by
  have q' := pow_int k
  exact ⟨h1, h2, by omega⟩
theorem isK_next {i k : Nat} (h1 : i ≤ 1000000) (h3 : ¬ (i : Int) ≤ 2 ^ k - 1) : k + 1 ≤ 20 ∧ 2 ^ (k + 1 - 1) ≤ i := by
  have q' := pow_int k
  have e1 : 2 ^ k < 2 ^ 20 := by omega
  have c1 := (Nat.pow_lt_pow_iff_right (a := 2) (by omega)).1 e1
  refine ⟨by omega, ?_⟩
  rw [Nat.add_sub_cancel]
  omega
end Lb
end Go.Proofs.YtceahffmenbibaaGreatDoor
