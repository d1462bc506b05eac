/- Lines of a proof, in plain lists: the document's way and the program's. -/
import Derived.Test.YtceahffmenbibaaGreatDoorCref6
import Derived.Test.YtceahffmenbibaaGreatDoorReq
namespace Go.Proofs.YtceahffmenbibaaGreatDoor
namespace Rd
open Go
set_option linter.unusedVariables false
set_option linter.unusedSimpArgs false

theorem litsF_last (v : Bs) : ∀ (T : List Bs) (z : Bs), litsF v (T ++ [z]) = if zero z && T.all (litB v) then some (T.map litVal) else none
  | [], z => by
    show litsF v [z] = _
    unfold litsF
    cases zero z <;> rfl
  | t :: r, z => by
    have ih := litsF_last v r z
    obtain ⟨a, b, e⟩ : ∃ a b, r ++ [z] = a :: b := by cases r <;> exact ⟨_, _, rfl⟩
    have : litsF v ((t :: r) ++ [z]) = if litB v t then (litsF v (r ++ [z])).map (litVal t :: ·) else none := by
      rw [List.cons_append, e]; rfl
    rw [this, ih]
    cases h1 : litB v t <;> cases h2 : zero z <;> cases h3 : r.all (litB v) <;> simp [h1, h3]

/-- the program's way: cut at blanks -/
def litsP (v : Bs) : Nat → Bs → Option Cl
  | 0, _ => none
  | f + 1, s => if s == [48] then some [] else if hasB 32 s && litB v (upto 32 s) then (litsP v f (s.drop ((upto 32 s).length + 1))).map (litVal (upto 32 s) :: ·) else none
theorem hasB_len {c : UInt8} {s : Bs} (h : hasB c s = true) : (s.drop ((upto c s).length + 1)).length < s.length := by
  unfold hasB at h; simp at h; simp; omega
theorem litsP_eq (v : Bs) : ∀ (f : Nat) (s : Bs), s.length < f → litsP v f s = litsF v (splitR 32 s)
  | 0, s, h => by omega
  | f + 1, s, h => by
    unfold litsP
    rw [splitR_upto]
    cases hb : hasB 32 s with
    | true =>
      have ih := litsP_eq v f (s.drop ((upto 32 s).length + 1)) (by have := hasB_len hb; omega)
      have h48 : (s == [48]) = false := by
        rw [beq_eq_false_iff_ne]; intro e; rw [e] at hb; revert hb; decide
      rw [h48, ih]
      obtain ⟨a, b, e⟩ := splitR_ne 32 (s.drop ((upto 32 s).length + 1))
      simp only [Bool.false_eq_true, if_false, if_true, Bool.true_and]
      rw [e]
      rfl
    | false =>
      simp only [Bool.false_and, Bool.false_eq_true, if_false]
      unfold litsF zero
      rfl
def lineP (v : Bs) (l : Bs) : Option (Bool × Cl) :=
  if Lib.hasPrefix l [100, 32] then (litsP v (l.length + 1) (l.drop 2)).map fun c => (true, c) else (litsP v (l.length + 1) l).map fun c => (false, c)
theorem prefix_d (l : Bs) : Lib.hasPrefix l [100, 32] = (hasB 32 l && (upto 32 l == [100])) := by
  unfold Lib.hasPrefix
  match l with
  | [] => rfl
  | [a] =>
    by_cases ha : a = 32
    · subst ha; decide
    · have e : upto 32 [a] = [a] := by simp [upto, ha]
      have : hasB 32 [a] = false := by unfold hasB; rw [e]; simp
      rw [this]; simp [List.isPrefixOf]
  | a :: b :: r =>
    by_cases ha : a = 32
    · subst ha
      have e : upto 32 (32 :: b :: r) = [] := by simp [upto]
      rw [e]; simp [List.isPrefixOf]
    · by_cases hb : b = 32
      · subst hb
        have e : upto 32 (a :: 32 :: r) = [a] := by simp [upto, ha]
        have e2 : hasB 32 (a :: 32 :: r) = true := by unfold hasB; rw [e]; simp
        rw [e, e2]
        by_cases h100 : a = 100
        · subst h100; simp [List.isPrefixOf]
        · have : ¬ (100 : UInt8) = a := fun e => h100 e.symm
          have h1 : ((100 : UInt8) == a) = false := by simpa using this
          have h2 : (a == (100 : UInt8)) = false := by simpa using h100
          simp [List.isPrefixOf, h1, h2]
      · have e : upto 32 (a :: b :: r) = a :: b :: upto 32 r := by simp [upto, ha, hb]
        have : ¬ (32 : UInt8) = b := fun e => hb e.symm
        rw [e]; simp [List.isPrefixOf, this]
theorem lineP_eq (v l : Bs) : lineP v l = lineB v l := by
  unfold lineP lineB
  rw [splitB_eq, prefix_d, litsP_eq v _ l (by omega), splitR_upto 32 l]
  cases hb : hasB 32 l with
  | true =>
    simp only [Bool.true_and, if_true, List.head?_cons, List.tail_cons, Option.some.injEq]
    by_cases hu : upto 32 l = [100]
    · rw [if_pos (by simpa using hu), if_pos hu, litsP_eq v _ (l.drop 2) (by simp; omega), hu]
      rfl
    · rw [if_neg (by simpa using hu), if_neg hu]
  | false =>
    simp only [Bool.false_and, Bool.false_eq_true, if_false, List.head?_cons, List.tail_cons, Option.some.injEq]
    by_cases hu : l = [100]
    · rw [if_pos hu]; subst hu; rfl
    · rw [if_neg hu]

/-- literals of at most fifty variables -/
theorem dig_cases {c : UInt8} (h : isDig c = true) : ∃ d, d < 10 ∧ c = UInt8.ofNat (48 + d) := by
  unfold isDig at h
  simp only [Bool.and_eq_true, decide_eq_true_eq] at h
  refine ⟨c.toNat - 48, by omega, ?_⟩
  rw [← UInt8.toNat_inj]
  simp; omega
theorem one_dig : ∀ V, V < 51 → ∀ d, d < 10 → ([UInt8.ofNat (48 + d)] == [48]) = false → above [UInt8.ofNat (48 + d)] (Lib.decDigits V) = false → 1 ≤ value9 [UInt8.ofNat (48 + d)] ∧ value9 [UInt8.ofNat (48 + d)] ≤ 50 := by decide +kernel
def two_ok (V d e : Nat) : Bool := !numB [UInt8.ofNat (48 + d), UInt8.ofNat (48 + e)] || above [UInt8.ofNat (48 + d), UInt8.ofNat (48 + e)] (Lib.decDigits V) || (decide (1 ≤ value9 [UInt8.ofNat (48 + d), UInt8.ofNat (48 + e)]) && decide (value9 [UInt8.ofNat (48 + d), UInt8.ofNat (48 + e)] ≤ 50))
theorem two_all : ((List.range 51).all fun V => (List.range 10).all fun d => (List.range 10).all fun e => two_ok V d e) = true := by decide +kernel
theorem two_dig (V : Nat) (hV : V < 51) (d : Nat) (hd : d < 10) (e : Nat) (he : e < 10) (h1 : numB [UInt8.ofNat (48 + d), UInt8.ofNat (48 + e)] = true) (h2 : above [UInt8.ofNat (48 + d), UInt8.ofNat (48 + e)] (Lib.decDigits V) = false) : 1 ≤ value9 [UInt8.ofNat (48 + d), UInt8.ofNat (48 + e)] ∧ value9 [UInt8.ofNat (48 + d), UInt8.ofNat (48 + e)] ≤ 50 := by
  have := List.all_eq_true.1 (List.all_eq_true.1 (List.all_eq_true.1 two_all V (List.mem_range.2 hV)) d (List.mem_range.2 hd)) e (List.mem_range.2 he)
  unfold two_ok at this
  rw [h1, h2] at this
  simpa using this
theorem dd_len : ∀ V, V < 51 → (Lib.decDigits V).length ≤ 2 := by decide +kernel
theorem lit_strip {V : Nat} (hV : V ≤ 50) {t : Bs} (h : litB (Lib.decDigits V) t = true) : 1 ≤ value9 (strip t) ∧ value9 (strip t) ≤ 50 ∧ (strip t).length ≤ 2 := by
  unfold litB at h
  simp only [Bool.and_eq_true, Bool.not_eq_true'] at h
  obtain ⟨⟨h1, h2⟩, h3⟩ := h
  have hl := Nat.le_trans (not_above_len h3) (dd_len V (by omega))
  obtain ⟨hd, hne⟩ := numB_parts h1
  generalize strip t = x at *
  match x, hl with
  | [], _ => exact absurd rfl hne
  | [a], _ =>
    obtain ⟨d, hd1, rfl⟩ := dig_cases (by simpa using hd)
    obtain ⟨k1, k2⟩ := one_dig V (by omega) d hd1 h2 h3
    exact ⟨k1, k2, by simp⟩
  | [a, b], _ =>
    simp only [List.all_cons, List.all_nil, Bool.and_true, Bool.and_eq_true] at hd
    obtain ⟨d, hd1, rfl⟩ := dig_cases hd.1
    obtain ⟨e, he1, rfl⟩ := dig_cases hd.2
    obtain ⟨k1, k2⟩ := two_dig V (by omega) d hd1 e he1 h1 h3
    exact ⟨k1, k2, by simp⟩
  | a :: b :: c :: r, hl => simp at hl
theorem lit50 {V : Nat} (hV : V ≤ 50) {t : Bs} (h : litB (Lib.decDigits V) t = true) : In50 (litVal t) := by
  obtain ⟨h1, h2, _⟩ := lit_strip hV h
  unfold litVal In50
  split
  · right; omega
  · left; omega
theorem litsF50 {V : Nat} (hV : V ≤ 50) : ∀ {T : List Bs} {c : Cl}, litsF (Lib.decDigits V) T = some c → ∀ l ∈ c, In50 l
  | [], c, h => by simp [litsF] at h
  | [t], c, h => by
    unfold litsF at h
    split at h
    · cases h; intro l hl; simp at hl
    · cases h
  | t :: b :: r, c, h => by
    have : litsF (Lib.decDigits V) (t :: b :: r) = if litB (Lib.decDigits V) t then (litsF (Lib.decDigits V) (b :: r)).map (litVal t :: ·) else none := rfl
    rw [this] at h
    split at h
    · rename_i hl
      obtain ⟨d, hd, rfl⟩ := Option.map_eq_some_iff.1 h
      intro l hm
      rcases List.mem_cons.1 hm with rfl | hm
      · exact lit50 hV hl
      · exact litsF50 hV hd l hm
    · cases h
theorem lineB50 {V : Nat} (hV : V ≤ 50) {l : Bs} {g : Bool} {c : Cl} (h : lineB (Lib.decDigits V) l = some (g, c)) : ∀ l ∈ c, In50 l := by
  unfold lineB at h
  split at h
  · obtain ⟨d, hd, e⟩ := Option.map_eq_some_iff.1 h
    cases e; exact litsF50 hV hd
  · obtain ⟨d, hd, e⟩ := Option.map_eq_some_iff.1 h
    cases e; exact litsF50 hV hd
end Rd
end Go.Proofs.YtceahffmenbibaaGreatDoor
