/- Clauses out of tokens, as the program cuts them; the program's parser against the document's: plain lists. -/
import Derived.Test.YtceahffmenbibaaGreatDoorRspec
import Derived.Lib.Atoi
namespace Go.Proofs.YtceahffmenbibaaGreatDoor
namespace Rd
open Go
set_option linter.unusedVariables false
set_option linter.unusedSimpArgs false

def nz (t : Bs) : Bool := !zero t
def cls : Nat → List Bs → List (List Int)
  | 0, _ => []
  | c + 1, T => ((T.takeWhile nz).map litVal) :: cls c (T.drop ((T.takeWhile nz).length + 1))
theorem cls_length : ∀ (c : Nat) (T : List Bs), (cls c T).length = c
  | 0, _ => rfl
  | c + 1, T => by simp [cls, cls_length c]

def clsStep (st : List (List Int) × List Int) (t : Bs) : List (List Int) × List Int := if zero t then (st.1 ++ [st.2], []) else (st.1, st.2 ++ [litVal t])
theorem clausesTo_fold (T : List Bs) : clausesTo T = T.foldl clsStep ([], []) := rfl
theorem fold_nz : ∀ (A : List Bs) (st : List (List Int) × List Int), (∀ t ∈ A, zero t = false) → A.foldl clsStep st = (st.1, st.2 ++ A.map litVal)
  | [], st, _ => by simp
  | a :: A, st, h => by
    simp only [List.foldl_cons]
    rw [fold_nz A _ (fun t ht => h t (by simp [ht]))]
    simp [clsStep, h a (by simp)]
theorem fold_acc : ∀ (R : List Bs) (acc : List (List Int)) (cur : List Int), R.foldl clsStep (acc, cur) = (acc ++ (R.foldl clsStep ([], cur)).1, (R.foldl clsStep ([], cur)).2)
  | [], acc, cur => by simp
  | t :: R, acc, cur => by
    simp only [List.foldl_cons]
    by_cases h : zero t = true
    · simp only [clsStep, h, if_true]
      rw [fold_acc R (acc ++ [cur]), fold_acc R ([] ++ [cur])]
      simp
    · have h' : zero t = false := by simpa using h
      simp only [clsStep, h', Bool.false_eq_true, if_false]
      rw [fold_acc R acc]

theorem zeros_cons (t : Bs) (T : List Bs) : zeros (t :: T) = (if zero t then 1 else 0) + zeros T := by
  unfold zeros; cases h : zero t <;> simp [h]; omega
theorem zeros_nz {A : List Bs} (h : ∀ t ∈ A, zero t = false) : zeros A = 0 := by
  unfold zeros; rw [List.filter_eq_nil_iff.2]; rfl
  intro t ht; simp [h t ht]
theorem zeros_append (A B : List Bs) : zeros (A ++ B) = zeros A + zeros B := by unfold zeros; simp

/-- a list with a zero in it, cut at the first -/
theorem cut_zero {T : List Bs} (h : 0 < zeros T) : ∃ R, T = T.takeWhile nz ++ [48] :: R ∧ T.drop ((T.takeWhile nz).length + 1) = R ∧ zeros R + 1 = zeros T ∧ (∀ t ∈ T.takeWhile nz, zero t = false) := by
  induction T with
  | nil => simp [zeros] at h
  | cons t T ih =>
    by_cases hz : zero t = true
    · refine ⟨T, ?_⟩
      have ht : t = [48] := by simpa [zero] using hz
      subst ht
      simp [nz, hz, zeros_cons]
      omega
    · have hz' : zero t = false := by simpa using hz
      rw [zeros_cons, hz'] at h
      obtain ⟨R, h1, h2, h3, h4⟩ := ih (by simpa using h)
      refine ⟨R, ?_, ?_, ?_, ?_⟩
      · simp only [List.takeWhile_cons, nz, hz', Bool.not_false, if_true, List.cons_append]
        exact congrArg (t :: ·) h1
      · simp only [List.takeWhile_cons, nz, hz', Bool.not_false, if_true, List.length_cons, List.drop_succ_cons]
        exact h2
      · rw [zeros_cons, hz', h3]; simp
      · intro x hx
        simp only [List.takeWhile_cons, nz, hz', Bool.not_false, if_true, List.mem_cons] at hx
        rcases hx with rfl | hx
        · exact hz'
        · exact h4 x hx

theorem cls_eq : ∀ (c : Nat) (T : List Bs), zeros T = c → (clausesTo T).1 = cls c T
  | 0, T, h => by
    have h' : ∀ t ∈ T, zero t = false := by
      intro t ht
      have := List.filter_eq_nil_iff.1 (List.eq_nil_of_length_eq_zero h) t ht
      simpa using this
    rw [clausesTo_fold, fold_nz T _ h']
    rfl
  | c + 1, T, h => by
    obtain ⟨R, h1, h2, h3, h4⟩ := cut_zero (T := T) (by omega)
    have ih := cls_eq c R (by omega)
    rw [cls, h2, ← ih]
    conv => lhs; rw [h1]
    rw [clausesTo_fold, List.foldl_append, fold_nz _ _ h4, List.foldl_cons]
    rw [show clsStep ([], [] ++ List.map litVal (List.takeWhile nz T)) [48] = ([List.map litVal (List.takeWhile nz T)], []) from rfl]
    rw [fold_acc]
    rfl
theorem clausesTo_length (T : List Bs) : (clausesTo T).1.length = zeros T := by rw [cls_eq _ T rfl, cls_length]

/-- closed: nothing is left open -/
theorem open_iff (T : List Bs) : (clausesTo T).2.isEmpty = (T.isEmpty || T.getLast? == some [48]) := by
  by_cases h : T = []
  · subst h; rfl
  · rw [← List.dropLast_concat_getLast h, clausesTo_snoc]
    have hl : (T.dropLast ++ [T.getLast h]).getLast? = some (T.getLast h) := by simp
    rw [hl]
    have he : (T.dropLast ++ [T.getLast h]).isEmpty = false := by simp
    rw [he]
    by_cases hz : zero (T.getLast h) = true
    · rw [if_pos hz]
      simpa [zero] using hz
    · rw [if_neg hz]
      have : (T.getLast h == [48]) = false := by simpa [zero] using hz
      simp [this]

/-- short numbers -/
theorem decFrom_eq : ∀ (l : Bs) (acc : Nat), l.all isDig = true → ∃ n : Nat, Lib.decFrom acc l = some n ∧ (n : Int) = l.foldl (fun n c => 10 * n + ((c.toNat : Int) - 48)) (acc : Int)
  | [], acc, _ => ⟨acc, rfl, rfl⟩
  | c :: r, acc, h => by
    rw [List.all_cons, Bool.and_eq_true] at h
    have hc := h.1
    simp [isDig] at hc
    obtain ⟨n, h1, h2⟩ := decFrom_eq r (acc * 10 + (c.toNat - 48)) h.2
    refine ⟨n, ?_, ?_⟩
    · unfold Lib.decFrom Lib.digitVal
      rw [if_pos hc]
      exact h1
    · rw [h2, List.foldl_cons]
      congr 1
      omega
theorem numB_parts {t : Bs} (h : numB t = true) : t.all isDig = true ∧ t ≠ [] := by
  unfold numB at h
  simp only [Bool.and_eq_true] at h
  refine ⟨h.1, fun e => ?_⟩
  subst e
  simp at h
theorem decNat_num {t : Bs} (h : numB t = true) (hl : t.length ≤ 9) : ∃ n : Nat, Lib.decNat t = some n ∧ (n : Int) = value9 t := by
  obtain ⟨h1, h2⟩ := numB_parts h
  obtain ⟨n, e1, e2⟩ := decFrom_eq t 0 h1
  refine ⟨n, ?_, ?_⟩
  · unfold Lib.decNat
    rw [if_neg (by simpa using h2)]; exact e1
  · rw [e2]; unfold value9 valTo; rw [List.take_of_length_le hl]; rfl
theorem atoi_num {t : Bs} (h : numB t = true) (hl : t.length ≤ 9) : Lib.atoi t = some (value9 t) := by
  obtain ⟨n, e1, e2⟩ := decNat_num h hl
  obtain ⟨h1, h2⟩ := numB_parts h
  cases t with
  | nil => exact absurd rfl h2
  | cons c r =>
    rw [List.all_cons, Bool.and_eq_true] at h1
    have hc := h1.1
    simp [isDig] at hc
    have n45 : (c == 45) = false := by
      rw [beq_eq_false_iff_ne]; intro e; subst e; simp at hc
    have n43 : (c == 43) = false := by
      rw [beq_eq_false_iff_ne]; intro e; subst e; simp at hc
    simp only [Lib.atoi, n45, n43, e1, ← e2]
    rfl
theorem atoi_lit {v t : Bs} (h : litB v t = true) (hl : (strip t).length ≤ 9) : Lib.atoi t = some (litVal t) := by
  unfold litB at h
  simp only [Bool.and_eq_true] at h
  have hn := h.1.1
  unfold litVal
  by_cases h45 : t.head? = some 45
  · have hs : strip t = t.tail := by unfold strip; rw [if_pos h45]
    cases t with
    | nil => simp at h45
    | cons c r =>
      simp at h45
      subst h45
      rw [if_pos (show (45 :: r : Bs).head? = some 45 from rfl)]
      rw [hs] at hn hl ⊢
      obtain ⟨n, e1, e2⟩ := decNat_num hn hl
      simp only [List.tail_cons] at e1 e2 ⊢
      simp only [Lib.atoi, e1, ← e2]
      rfl
  · have hs : strip t = t := by unfold strip; rw [if_neg h45]
    rw [if_neg h45, hs]
    rw [hs] at hn hl
    exact atoi_num hn hl
theorem not_above_len {a b : Bs} (h : above a b = false) : a.length ≤ b.length := by
  unfold above at h
  split at h
  · omega
  · simp at h; omega

/-! ### the head -/
theorem line_c {l : Bs} (h : l.head? = some 99) : ∃ r, line l = 99 :: r := by
  cases l with
  | nil => simp at h
  | cons c r =>
    simp at h
    subst h
    exact ⟨line r, by simp [line]⟩
theorem line_head {l : Bs} {r : Bs} (h : line l = 99 :: r) : l.head? = some 99 := by
  cases l with
  | nil => simp [line] at h
  | cons c t =>
    unfold line at h
    rw [List.takeWhile_cons] at h
    split at h
    · simp at h; simp [h.1]
    · simp at h
end Rd
end Go.Proofs.YtceahffmenbibaaGreatDoor
