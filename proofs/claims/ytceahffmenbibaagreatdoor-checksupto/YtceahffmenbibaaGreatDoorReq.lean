/- The program's reading is the document's: plain lists. -/
import Derived.Test.YtceahffmenbibaaGreatDoorRread
namespace Go.Proofs.YtceahffmenbibaaGreatDoor
namespace Rd
open Go
set_option linter.unusedVariables false
set_option linter.unusedSimpArgs false

def splitR (c : UInt8) : Bs → List Bs
  | [] => [[]]
  | x :: l => if x == c then [] :: splitR c l else match splitR c l with | h :: t => (x :: h) :: t | [] => [[x]]
theorem splitR_ne (c : UInt8) (l : Bs) : ∃ h t, splitR c l = h :: t := by
  cases l with
  | nil => exact ⟨_, _, rfl⟩
  | cons x l =>
    unfold splitR
    split
    · exact ⟨_, _, rfl⟩
    · split
      · exact ⟨_, _, rfl⟩
      · exact ⟨_, _, rfl⟩
def splStep (c : UInt8) (st : List Bs × Bs) (x : UInt8) : List Bs × Bs := if x == c then (st.1 ++ [st.2], []) else (st.1, st.2 ++ [x])
theorem splitTo_fold (c : UInt8) (l : Bs) : splitTo c l = l.foldl (splStep c) ([], []) := rfl
def addHead (cur : Bs) : List Bs → List Bs
  | h :: t => (cur ++ h) :: t
  | [] => [cur]
theorem split_fold (c : UInt8) : ∀ (l : Bs) (acc : List Bs) (cur : Bs), (l.foldl (splStep c) (acc, cur)).1 ++ [(l.foldl (splStep c) (acc, cur)).2] = acc ++ addHead cur (splitR c l)
  | [], acc, cur => by simp [splitR, addHead]
  | x :: l, acc, cur => by
    simp only [List.foldl_cons]
    cases h : (x == c) with
    | true =>
      simp only [splStep, h, if_true]
      rw [split_fold c l]
      obtain ⟨h1, t1, e⟩ := splitR_ne c l
      simp [splitR, h, addHead, e]
    | false =>
      simp only [splStep, h, Bool.false_eq_true, if_false]
      rw [split_fold c l]
      obtain ⟨h1, t1, e⟩ := splitR_ne c l
      simp [splitR, h, addHead, e]
theorem splitB_eq (c : UInt8) (l : Bs) : splitB c l = splitR c l := by
  have := split_fold c l [] []
  unfold splitB
  rw [splitTo_fold, this]
  obtain ⟨h1, t1, e⟩ := splitR_ne c l
  simp [addHead, e]

/-- the first piece, and what follows -/
theorem splitR_cons {c : UInt8} : ∀ {l h : Bs} {t : List Bs}, splitR c l = h :: t → t ≠ [] → ∃ l', l = h ++ c :: l' ∧ splitR c l' = t
  | [], h, t, e, ht => by simp [splitR] at e; exact absurd e.2.symm (fun x => ht x.symm)
  | x :: l, h, t, e, ht => by
    unfold splitR at e
    cases hx : (x == c) with
    | true =>
      rw [hx, if_pos rfl] at e
      simp only [List.cons.injEq] at e
      have hc : x = c := by simpa using hx
      exact ⟨l, by rw [← e.1, hc]; rfl, e.2⟩
    | false =>
      rw [hx, if_neg (by simp)] at e
      obtain ⟨h1, t1, e1⟩ := splitR_ne c l
      rw [e1] at e
      simp only [List.cons.injEq] at e
      obtain ⟨l', e2, e3⟩ := splitR_cons (l := l) (h := h1) (t := t1) e1 (by rw [e.2]; exact ht)
      exact ⟨l', by rw [e2, ← e.1]; rfl, by rw [e3, e.2]⟩

def upto (c : UInt8) (l : Bs) : Bs := l.takeWhile (fun x => !(x == c))
def hasB (c : UInt8) (l : Bs) : Bool := decide ((upto c l).length < l.length)
theorem splitR_upto (c : UInt8) : ∀ (l : Bs), splitR c l = if hasB c l then upto c l :: splitR c (l.drop ((upto c l).length + 1)) else [l]
  | [] => rfl
  | x :: l => by
    rw [show splitR c (x :: l) = if x == c then [] :: splitR c l else match splitR c l with | h :: t => (x :: h) :: t | [] => [[x]] from rfl]
    cases hx : (x == c) with
    | true =>
      have e : upto c (x :: l) = [] := by simp [upto, hx]
      have e2 : hasB c (x :: l) = true := by unfold hasB; rw [e]; simp
      rw [e2, e]; rfl
    | false =>
      have e : upto c (x :: l) = x :: upto c l := by simp [upto, hx]
      have e2 : hasB c (x :: l) = hasB c l := by unfold hasB; rw [e]; simp
      rw [e2, e, if_neg (by simp), splitR_upto c l]
      cases hasB c l <;> rfl
theorem index_one (c : UInt8) : ∀ (l : Bs), Lib.index l [c] = if hasB c l then ((upto c l).length : Int) else -1
  | [] => by simp [Lib.index, upto, hasB]
  | x :: r => by
    have ih := index_one c r
    by_cases h : x = c
    · subst h; simp [Lib.index, upto, hasB, List.isPrefixOf]
    · have h' : ¬ c = x := fun e => h e.symm
      have hx : (x == c) = false := by simpa using h
      unfold Lib.index
      rw [show List.isPrefixOf [c] (x :: r) = false from by simp [List.isPrefixOf, h'], ih]
      have e1 : upto c (x :: r) = x :: upto c r := by simp [upto, hx]
      have e2 : hasB c (x :: r) = hasB c r := by unfold hasB; rw [e1]; simp
      rw [e2, e1]
      cases hasB c r <;> simp
theorem cut_one (c : UInt8) (l : Bs) : Lib.cut l [c] = if hasB c l then (upto c l, l.drop ((upto c l).length + 1), true) else (l, [], false) := by
  unfold Lib.cut
  rw [index_one]
  cases h : hasB c l
  · simp
  · have ht : l.take (upto c l).length = upto c l := by
      have := List.takeWhile_prefix (l := l) (p := fun x => !(x == c))
      exact (List.prefix_iff_eq_take.1 this).symm
    simp [ht]

theorem takeWhile_self {p : UInt8 → Bool} : ∀ (l : Bs), (∀ c ∈ l, p c = true) → l.takeWhile p = l
  | [], _ => rfl
  | a :: l, h => by rw [List.takeWhile_cons, if_pos (h a (by simp)), takeWhile_self l (fun c hc => h c (by simp [hc]))]
theorem numB_no32 {l : Bs} (h : numB l = true) : hasB 32 l = false := by
  have hd := (numB_parts h).1
  have : upto 32 l = l := by
    unfold upto
    refine takeWhile_self l fun x hx => ?_
    have := List.all_eq_true.1 hd x hx
    simp [isDig] at this
    simp [← UInt8.toNat_inj]
    omega
  unfold hasB
  rw [this]; simp

theorem pline_eq (ln : Bs) : pline ln = if Lib.hasPrefix ln pcnf && (Lib.cut (Lib.trimPrefix ln pcnf) [32]).2.2 && numB (Lib.cut (Lib.trimPrefix ln pcnf) [32]).1 && numB (Lib.cut (Lib.trimPrefix ln pcnf) [32]).2.1
    then some ((Lib.cut (Lib.trimPrefix ln pcnf) [32]).1, (Lib.cut (Lib.trimPrefix ln pcnf) [32]).2.1) else none := by
  unfold pline
  rw [splitB_eq]
  cases hp : Lib.hasPrefix ln pcnf with
  | true =>
    have htr : Lib.trimPrefix ln pcnf = ln.drop 6 := by unfold Lib.trimPrefix; rw [hp]; rfl
    obtain ⟨n, hn⟩ := List.isPrefixOf_iff_prefix.1 (show pcnf.isPrefixOf ln = true from hp)
    have hd : ln.drop 6 = n := by rw [← hn]; rfl
    rw [htr, hd]
    have hs : splitR 32 ln = [112] :: [99, 110, 102] :: splitR 32 n := by
      obtain ⟨h1, t1, e⟩ := splitR_ne 32 n
      rw [← hn]
      simp [splitR, e, pcnf]
    rw [hs, cut_one, splitR_upto]
    cases hl : hasB 32 n with
    | true =>
      simp only [if_true]
      rw [splitR_upto]
      cases hl2 : hasB 32 (n.drop ((upto 32 n).length + 1)) with
      | true =>
        simp only [if_true]
        obtain ⟨h1, t1, e⟩ := splitR_ne 32 ((n.drop ((upto 32 n).length + 1)).drop ((upto 32 (n.drop ((upto 32 n).length + 1))).length + 1))
        rw [e]
        have : numB (n.drop ((upto 32 n).length + 1)) = false := by
          rw [Bool.eq_false_iff]; intro hh; rw [numB_no32 hh] at hl2; cases hl2
        simp [this]
      | false =>
        simp
    | false =>
      simp
  | false =>
    simp only [Bool.false_and]
    split
    · rename_i a b v c heq
      split
      · rename_i hc
        exfalso
        simp only [Bool.and_eq_true, beq_iff_eq] at hc
        obtain ⟨⟨⟨ha, hb⟩, _⟩, _⟩ := hc
        subst ha hb
        obtain ⟨l1, e1, e2⟩ := splitR_cons heq (by simp)
        obtain ⟨l2, e3, e4⟩ := splitR_cons e2 (by simp)
        rw [e1, e3] at hp
        simp [Lib.hasPrefix, pcnf, List.isPrefixOf] at hp
      · rfl
    · rfl

theorem pline_c (r : Bs) : pline (99 :: r) = none := by
  rw [pline_eq]
  have : Lib.hasPrefix (99 :: r) pcnf = false := by simp [Lib.hasPrefix, pcnf, List.isPrefixOf]
  rw [this]; rfl

theorem heads_eq : ∀ (f : Nat) (l : Bs), l.length < f → (skipF f l).bind cutP = headF f l
  | 0, l, h => by omega
  | f + 1, l, h => by
    unfold skipF headF
    rw [hasPrefix_c]
    cases hc : (l.head? == some 99) with
    | true =>
      have hc' : l.head? = some 99 := by simpa using hc
      simp only [if_true]
      cases he : ended l with
      | false => rfl
      | true =>
        simp only [Bool.true_and, if_true]
        cases hm : comment (line l) with
        | true =>
          simp only [if_true]
          exact heads_eq f _ (by have := rest_len he; omega)
        | false =>
          obtain ⟨r, hr⟩ := line_c hc'
          rw [hr, pline_c]; rfl
    | false =>
      simp only [Bool.false_eq_true, if_false, Option.bind_some]
      unfold cutP
      cases he : ended l with
      | false => rfl
      | true =>
        simp only [Bool.true_and, if_true]
        have hm : comment (line l) = false := by
          rw [Bool.eq_false_iff]; intro hm
          have : ∃ r, line l = 99 :: r := by
            unfold comment at hm
            simp only [Bool.or_eq_true, beq_iff_eq] at hm
            rcases hm with hm | hm
            · exact ⟨[], hm⟩
            · obtain ⟨t, ht⟩ := List.isPrefixOf_iff_prefix.1 (show List.isPrefixOf [99, 32] (line l) = true from hm)
              exact ⟨32 :: t, by rw [← ht]; rfl⟩
          obtain ⟨r, hr⟩ := this
          have := line_head hr
          rw [this] at hc
          simp at hc
        rw [hm, pline_eq]
        simp only [Bool.false_eq_true, if_false]
        split <;> rfl

theorem read_eq (s : Bs) : readP s = readB s := by
  unfold readP readB parseB
  by_cases h : 20000 < s.length
  · rw [if_pos h, if_pos h]
  · rw [if_neg h, if_neg h, heads_eq (s.length + 1) s (by omega)]
    cases headF (s.length + 1) s with
    | none => rfl
    | some o =>
      obtain ⟨v, c, r⟩ := o
      simp only
      unfold body
      rw [open_iff, clausesTo_length, cls_eq _ (toks r) rfl]
      show _ = _
      rw [show (List.isEmpty (toks r) || (toks r).getLast? == some [48]) = closedB (toks r) from rfl]
      cases okAll v (toks r) with
      | false => rfl
      | true =>
        generalize closedB (toks r) = b1
        generalize (Lib.decDigits (zeros (toks r)) == c) = b2
        cases b1 <;> cases b2 <;> rfl
end Rd
end Go.Proofs.YtceahffmenbibaaGreatDoor
