/- How many bits of a word are set, by the library's sums. -/
import Derived.Test.YtceahffmenbibaaGreatDoorCbits
namespace Go.Proofs.YtceahffmenbibaaGreatDoor
namespace Rd
set_option linter.unusedVariables false
set_option linter.unusedSimpArgs false

def pcF : Nat → Nat → Nat
  | 0, _ => 0
  | f + 1, x => x % 2 + pcF f (x / 2)
/-- the bits that are set -/
def pc (x : Nat) : Nat := pcF 64 x

theorem pcF_zero : ∀ (f x : Nat), x < 2 ^ f → pcF f x = 0 → x = 0
  | 0, x, h, _ => by simp at h; omega
  | f + 1, x, h, h0 => by
    unfold pcF at h0
    have := pcF_zero f (x / 2) (by rw [Nat.pow_succ] at h; omega) (by omega)
    omega
theorem pcF_none (f : Nat) : pcF f 0 = 0 := by
  induction f with
  | zero => rfl
  | succ f ih => unfold pcF; simpa using ih
theorem testBit_zero' (x : Nat) : x.testBit 0 = decide (x % 2 = 1) := by simp [Nat.testBit_zero]
theorem pcF_one : ∀ (f x : Nat), x < 2 ^ f → pcF f x = 1 → ∀ i j, x.testBit i = true → x.testBit j = true → i = j
  | 0, x, h, h0 => by simp [pcF] at h0
  | f + 1, x, h, h0 => by
    unfold pcF at h0
    have hx : x / 2 < 2 ^ f := by rw [Nat.pow_succ] at h; omega
    intro i j hi hj
    rcases Nat.mod_two_eq_zero_or_one x with e | e
    · have ih := pcF_one f (x / 2) hx (by omega)
      cases i with
      | zero => rw [testBit_zero'] at hi; simp at hi; omega
      | succ i =>
        cases j with
        | zero => rw [testBit_zero'] at hj; simp at hj; omega
        | succ j => rw [Nat.testBit_succ] at hi hj; rw [ih i j hi hj]
    · have z := pcF_zero f (x / 2) hx (by omega)
      cases i with
      | zero =>
        cases j with
        | zero => rfl
        | succ j => rw [Nat.testBit_succ, z] at hj; simp at hj
      | succ i => rw [Nat.testBit_succ, z] at hi; simp at hi
theorem pcF_two : ∀ (f x : Nat), x < 2 ^ f → 2 ≤ pcF f x → ∃ i j, i ≠ j ∧ x.testBit i = true ∧ x.testBit j = true
  | 0, x, h, h0 => by simp [pcF] at h0
  | f + 1, x, h, h0 => by
    unfold pcF at h0
    have hx : x / 2 < 2 ^ f := by rw [Nat.pow_succ] at h; omega
    by_cases h2 : 2 ≤ pcF f (x / 2)
    · obtain ⟨i, j, hij, hi, hj⟩ := pcF_two f (x / 2) hx h2
      exact ⟨i + 1, j + 1, by omega, by rw [Nat.testBit_succ]; exact hi, by rw [Nat.testBit_succ]; exact hj⟩
    · have e : x % 2 = 1 := by omega
      have : x / 2 ≠ 0 := by intro z; rw [z, pcF_none] at h0; omega
      obtain ⟨i, hi⟩ := ne_zero_bit.1 this
      exact ⟨0, i + 1, by omega, by rw [testBit_zero']; simpa using e, by rw [Nat.testBit_succ]; exact hi⟩

def Key.size (s : Key) : Nat := pc s.1 + pc s.2
theorem size_zero {s : Key} (hs : s.ok) (h : s.size = 0) : s = (0, 0) := by
  unfold Key.size pc at h
  have h1 := pcF_zero 64 s.1 hs.1 (by omega)
  have h2 := pcF_zero 64 s.2 hs.2 (by omega)
  obtain ⟨a, b⟩ := s
  simp only at h1 h2
  rw [h1, h2]
theorem size_of_empty : Key.size (0, 0) = 0 := by decide
theorem size_one {s : Key} (hs : s.ok) (h : s.size = 1) : ∃ l, IsLit l ∧ s = single l := by
  have ne : s ≠ (0, 0) := by intro e; rw [e, size_of_empty] at h; cases h
  obtain ⟨l, hl⟩ := (nonempty_iff s).1 ne
  have il := Key.has_lit hs hl
  refine ⟨l, il, key_ext fun x => ?_⟩
  rw [has_single (isLit_ne il)]
  cases hx : s.has x with
  | false =>
    symm; simp; intro e; rw [e, hl] at hx; cases hx
  | true =>
    symm; simp
    unfold Key.size pc at h
    rcases lit_cases x with rfl | ⟨i, rfl⟩ | ⟨i, rfl⟩
    · rw [has_zero] at hx; cases hx
    · rcases lit_cases l with rfl | ⟨j, rfl⟩ | ⟨j, rfl⟩
      · rw [has_zero] at hl; cases hl
      · rw [has_pos] at hx hl
        have h2 : pcF 64 s.1 ≠ 0 := fun e => by rw [pcF_zero 64 s.1 hs.1 e] at hx; simp at hx
        rw [pcF_one 64 s.1 hs.1 (by omega) i j hx hl]
      · rw [has_pos] at hx; rw [has_neg] at hl
        have h2 : pcF 64 s.1 ≠ 0 := fun e => by rw [pcF_zero 64 s.1 hs.1 e] at hx; simp at hx
        have h3 : pcF 64 s.2 ≠ 0 := fun e => by rw [pcF_zero 64 s.2 hs.2 e] at hl; simp at hl
        omega
    · rcases lit_cases l with rfl | ⟨j, rfl⟩ | ⟨j, rfl⟩
      · rw [has_zero] at hl; cases hl
      · rw [has_neg] at hx; rw [has_pos] at hl
        have h2 : pcF 64 s.1 ≠ 0 := fun e => by rw [pcF_zero 64 s.1 hs.1 e] at hl; simp at hl
        have h3 : pcF 64 s.2 ≠ 0 := fun e => by rw [pcF_zero 64 s.2 hs.2 e] at hx; simp at hx
        omega
      · rw [has_neg] at hx hl
        have h2 : pcF 64 s.2 ≠ 0 := fun e => by rw [pcF_zero 64 s.2 hs.2 e] at hx; simp at hx
        rw [pcF_one 64 s.2 hs.2 (by omega) i j hx hl]
theorem size_two {s : Key} (hs : s.ok) (h : 2 ≤ s.size) : ∃ a b, a ≠ b ∧ s.has a = true ∧ s.has b = true := by
  unfold Key.size pc at h
  by_cases h1 : 2 ≤ pcF 64 s.1
  · obtain ⟨i, j, hij, hi, hj⟩ := pcF_two 64 s.1 hs.1 h1
    exact ⟨(i : Int) + 1, (j : Int) + 1, by omega, by rw [has_pos]; exact hi, by rw [has_pos]; exact hj⟩
  · by_cases h2 : 2 ≤ pcF 64 s.2
    · obtain ⟨i, j, hij, hi, hj⟩ := pcF_two 64 s.2 hs.2 h2
      exact ⟨-((i : Int) + 1), -((j : Int) + 1), by omega, by rw [has_neg]; exact hi, by rw [has_neg]; exact hj⟩
    · have e1 : s.1 ≠ 0 := fun e => by rw [e, pcF_none] at h1 h; omega
      have e2 : s.2 ≠ 0 := fun e => by rw [e, pcF_none] at h2 h; omega
      obtain ⟨i, hi⟩ := ne_zero_bit.1 e1
      obtain ⟨j, hj⟩ := ne_zero_bit.1 e2
      exact ⟨(i : Int) + 1, -((j : Int) + 1), by omega, by rw [has_pos]; exact hi, by rw [has_neg]; exact hj⟩
/-- of two or more: what is left without one literal is not empty -/
theorem size_two_wo {s : Key} (hs : s.ok) (h : 2 ≤ s.size) {l : Int} (hl : l ≠ 0) : s.wo (single l) ≠ (0, 0) := by
  obtain ⟨a, b, hab, ha, hb⟩ := size_two hs h
  rw [nonempty_iff]
  by_cases e : a = l
  · refine ⟨b, ?_⟩
    rw [has_wo, hb, has_single hl]; simp; intro e'; exact hab (by rw [e, e'])
  · exact ⟨a, by rw [has_wo, ha, has_single hl]; simpa using e⟩
theorem size_ge_one {s : Key} {l : Int} (hs : s.ok) (h : s.has l = true) : 1 ≤ s.size := by
  rcases Nat.eq_zero_or_pos s.size with e | e
  · rw [size_zero hs e, has_empty] at h; cases h
  · exact e

/-! ### the library's sums -/
theorem and_parts (a y m M : Nat) (ha : a < 256) (hm : m < 256) : (a + 256 * y) &&& (m + 256 * M) = (a &&& m) + 256 * (y &&& M) := by
  have hl : (a &&& m) < 2 ^ 8 := Nat.lt_of_le_of_lt Nat.and_le_left ha
  rw [Nat.add_comm a, Nat.add_comm m, Nat.add_comm (a &&& m)]
  refine Nat.eq_of_testBit_eq fun i => ?_
  rw [Nat.testBit_and, show 256 = 2 ^ 8 from rfl, Nat.testBit_two_pow_mul_add _ ha, Nat.testBit_two_pow_mul_add _ hm, Nat.testBit_two_pow_mul_add _ hl]
  split <;> simp [Nat.testBit_and]
/-- a byte again and again -/
def rep (c : Nat) : Nat → Nat
  | 0 => 0
  | n + 1 => c + 256 * rep c n
theorem rep_succ (c n : Nat) : rep c (n + 1) = c + 256 * rep c n := rfl
def p1 (n x : Nat) : Nat := (x / 2 &&& rep 85 n) + (x &&& rep 85 n)
def p2 (n x : Nat) : Nat := (p1 n x / 4 &&& rep 51 n) + (p1 n x &&& rep 51 n)
def p3 (n x : Nat) : Nat := (p2 n x / 16 + p2 n x) &&& rep 15 n
def g1 (a : Nat) : Nat := (a / 2 &&& 85) + (a &&& 85)
def g2 (a : Nat) : Nat := (g1 a / 4 &&& 51) + (g1 a &&& 51)
theorem p1_succ (n a y : Nat) (ha : a < 256) : p1 (n + 1) (a + 256 * y) = g1 a + 256 * p1 n y := by
  have e : (a + 256 * y) / 2 = (a / 2 + 128 * (y % 2)) + 256 * (y / 2) := by omega
  have k : ∀ a, a < 256 → ∀ b, b < 2 → ((a / 2 + 128 * b) &&& 85) = (a / 2 &&& 85) := by decide +kernel
  unfold p1 g1
  rw [rep_succ, e, and_parts _ _ _ _ (by omega) (by omega), and_parts _ _ _ _ ha (by omega), k a ha _ (by omega)]
  omega
theorem g1_lt : ∀ a, a < 256 → g1 a < 256 := by decide +kernel
theorem p2_succ (n a y : Nat) (ha : a < 256) : p2 (n + 1) (a + 256 * y) = g2 a + 256 * p2 n y := by
  have h1 := g1_lt a ha
  have k : ∀ a, a < 256 → ∀ b, b < 4 → ((a / 4 + 64 * b) &&& 51) = (a / 4 &&& 51) := by decide +kernel
  have e : (g1 a + 256 * p1 n y) / 4 = (g1 a / 4 + 64 * (p1 n y % 4)) + 256 * (p1 n y / 4) := by omega
  unfold p2
  rw [p1_succ n a y ha]
  unfold g2
  rw [rep_succ, e, and_parts _ _ _ _ (by omega) (by omega), and_parts _ _ _ _ h1 (by omega), k _ h1 _ (by omega)]
  omega
theorem g2_ok : ∀ a, a < 256 → g2 a < 256 ∧ g2 a % 16 < 5 ∧ g2 a ≤ 68 ∧ ∀ b, b < 5 → ((g2 a / 16 + 16 * b + g2 a) &&& 15) = pcF 8 a := by decide +kernel
theorem p2_low (n x : Nat) : p2 n x % 16 < 5 := by
  cases n with
  | zero => unfold p2 rep; simp
  | succ n =>
    have e : x = x % 256 + 256 * (x / 256) := by omega
    rw [e, p2_succ n _ _ (by omega)]
    have := (g2_ok (x % 256) (by omega)).2.1
    omega
theorem p3_succ (n a y : Nat) (ha : a < 256) : p3 (n + 1) (a + 256 * y) = pcF 8 a + 256 * p3 n y := by
  obtain ⟨h1, h2, h3, h4⟩ := g2_ok a ha
  have hl := p2_low n y
  have e : (g2 a + 256 * p2 n y) / 16 + (g2 a + 256 * p2 n y) = (g2 a / 16 + 16 * (p2 n y % 16) + g2 a) + 256 * (p2 n y / 16 + p2 n y) := by omega
  unfold p3
  rw [p2_succ n a y ha, e]
  rw [rep_succ, and_parts _ _ _ _ (by omega) (by omega), h4 _ hl]
theorem pcF_bytes (n x : Nat) : pcF (n + 8) x = pcF 8 (x % 256) + pcF n (x / 256) := by
  have e : pcF n (x / 2 / 2 / 2 / 2 / 2 / 2 / 2 / 2) = pcF n (x / 256) := by congr 1; omega
  simp only [pcF]
  rw [e]
  omega
theorem pcF8_le (x : Nat) : pcF 8 x ≤ 8 := by simp only [pcF]; omega
/-- the sums of the bytes -/
theorem p3_bytes (x : Nat) (h : x < wide) : ∃ b0 b1 b2 b3 b4 b5 b6 b7 : Nat, b0 ≤ 8 ∧ b1 ≤ 8 ∧ b2 ≤ 8 ∧ b3 ≤ 8 ∧ b4 ≤ 8 ∧ b5 ≤ 8 ∧ b6 ≤ 8 ∧ b7 ≤ 8 ∧
    p3 8 x = b0 + 256 * (b1 + 256 * (b2 + 256 * (b3 + 256 * (b4 + 256 * (b5 + 256 * (b6 + 256 * b7)))))) ∧ pc x = b0 + b1 + b2 + b3 + b4 + b5 + b6 + b7 := by
  unfold wide at h
  have st : ∀ n y, p3 (n + 1) y = pcF 8 (y % 256) + 256 * p3 n (y / 256) := fun n y => by
    conv => lhs; rw [show y = y % 256 + 256 * (y / 256) by omega]
    exact p3_succ n _ _ (by omega)
  have z : ∀ y, p3 0 y = 0 := fun y => by unfold p3 rep; simp
  refine ⟨_, _, _, _, _, _, _, _, pcF8_le (x % 256), pcF8_le (x / 256 % 256), pcF8_le (x / 256 / 256 % 256), pcF8_le (x / 256 / 256 / 256 % 256), pcF8_le (x / 256 / 256 / 256 / 256 % 256), pcF8_le (x / 256 / 256 / 256 / 256 / 256 % 256), pcF8_le (x / 256 / 256 / 256 / 256 / 256 / 256 % 256), pcF8_le (x / 256 / 256 / 256 / 256 / 256 / 256 / 256 % 256), ?_, ?_⟩
  · rw [st 7, st 6, st 5, st 4, st 3, st 2, st 1, st 0, z, Nat.mul_zero, Nat.add_zero]
  · unfold pc
    rw [pcF_bytes 56 x, pcF_bytes 48 (x / 256), pcF_bytes 40 (x / 256 / 256), pcF_bytes 32 (x / 256 / 256 / 256), pcF_bytes 24 (x / 256 / 256 / 256 / 256), pcF_bytes 16 (x / 256 / 256 / 256 / 256 / 256), pcF_bytes 8 (x / 256 / 256 / 256 / 256 / 256 / 256)]
    rw [show x / 256 / 256 / 256 / 256 / 256 / 256 / 256 % 256 = x / 256 / 256 / 256 / 256 / 256 / 256 / 256 from Nat.mod_eq_of_lt (by omega)]
    omega
/-- what the library's sums come to -/
theorem pop_end (x x4 x5 x6 : Nat) (h : x < wide) (h4 : x4 = p3 8 x + p3 8 x / 256) (h5 : x5 = x4 + x4 / 65536) (h6 : x6 = x5 + x5 / 4294967296) :
    x6 % 128 = pc x ∧ x4 < wide ∧ x5 < wide ∧ x6 < 9223372036854775808 ∧ p3 8 x < wide ∧ pc x ≤ 64 := by
  obtain ⟨b0, b1, b2, b3, b4, b5, b6, b7, c0, c1, c2, c3, c4, c5, c6, c7, e, ep⟩ := p3_bytes x h
  have e4 : x4 = (b0 + b1) + 256 * ((b1 + b2) + 256 * ((b2 + b3) + 256 * ((b3 + b4) + 256 * ((b4 + b5) + 256 * ((b5 + b6) + 256 * ((b6 + b7) + 256 * b7)))))) := by rw [h4, e]; omega
  have e5 : x5 = (b0 + b1 + b2 + b3) + 256 * ((b1 + b2 + b3 + b4) + 256 * ((b2 + b3 + b4 + b5) + 256 * ((b3 + b4 + b5 + b6) + 256 * ((b4 + b5 + b6 + b7) + 256 * ((b5 + b6 + b7) + 256 * ((b6 + b7) + 256 * b7)))))) := by rw [h5, e4]; omega
  obtain ⟨lo, hlo⟩ : ∃ lo, lo = (b0 + b1 + b2 + b3) + 256 * ((b1 + b2 + b3 + b4) + 256 * ((b2 + b3 + b4 + b5) + 256 * (b3 + b4 + b5 + b6))) := ⟨_, rfl⟩
  obtain ⟨hi, hhi⟩ : ∃ hi, hi = (b4 + b5 + b6 + b7) + 256 * ((b5 + b6 + b7) + 256 * ((b6 + b7) + 256 * b7)) := ⟨_, rfl⟩
  have e5' : x5 = lo + 4294967296 * hi := by rw [e5, hlo, hhi]; clear e e4 h4 h5 h6 e5 hlo hhi; omega
  have hl : lo < 4294967296 := by rw [hlo]; clear e e4 h4 h5 h6 e5 hlo hhi e5'; omega
  have ed : x5 / 4294967296 = hi := by rw [e5']; clear e e4 h4 h5 h6 e5 hlo hhi e5'; omega
  have e6 : x6 = lo + hi + 4294967296 * hi := by rw [h6, ed, e5']; clear e e4 h4 h5 h6 e5 hlo hhi e5' hl ed; omega
  have e7 : lo + hi = (b0 + b1 + b2 + b3 + b4 + b5 + b6 + b7) + 256 * ((b1 + b2 + b3 + b4 + b5 + b6 + b7) + 256 * ((b2 + b3 + b4 + b5 + b6 + b7) + 256 * (b3 + b4 + b5 + b6 + b7))) := by rw [hlo, hhi]; clear e e4 h4 h5 h6 e5 hlo hhi e5' hl ed e6; omega
  have hh : hi < 268435456 := by rw [hhi]; clear e e4 h4 h5 h6 e5 hlo hhi e5' hl ed e6 e7; omega
  unfold wide
  refine ⟨?_, ?_, ?_, ?_, ?_, ?_⟩
  · rw [e6, e7, ep]; clear e e4 h4 h5 h6 e5 hlo hhi e5' hl ed e6 e7 ep; omega
  · rw [e4]; clear e e4 h4 h5 h6 e5 hlo hhi e5' hl ed e6 e7 ep; omega
  · rw [e5']; clear e e4 h4 h5 h6 e5 hlo hhi e5' ed e6 e7 ep; omega
  · rw [e6, e7]; clear e e4 h4 h5 h6 e5 hlo hhi e5' hl ed e6 e7 ep; omega
  · rw [e]; clear e e4 h4 h5 h6 e5 hlo hhi e5' hl ed e6 e7 ep; omega
  · rw [ep]; clear e e4 h4 h5 h6 e5 hlo hhi e5' hl ed e6 e7 ep; omega
end Rd
end Go.Proofs.YtceahffmenbibaaGreatDoor
