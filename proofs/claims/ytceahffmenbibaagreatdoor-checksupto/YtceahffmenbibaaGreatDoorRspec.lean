/- Reading clauses, in plain lists of bytes: what the walks of both sides come to. -/
import Derived.Lib.ItoaNum
import Derived.Lib.Strings
import Derived.Lib.IndexMore
namespace Go.Proofs.YtceahffmenbibaaGreatDoor
namespace Rd

abbrev Bs : Type := List UInt8

def isDig (c : UInt8) : Bool := decide (48 ≤ c.toNat) && decide (c.toNat ≤ 57)
def numB (l : Bs) : Bool := l.all isDig && (l.length == 1 || (decide (1 < l.length) && !(l.head? == some 48)))
def gap (c : UInt8) : Bool := c == 32 || c == 9 || c == 10

/-- tokens: w is the word so far -/
def toksF : Bs → Bs → List Bs
  | w, [] => if w.isEmpty then [] else [w]
  | w, c :: r => if gap c then (if w.isEmpty then toksF [] r else w :: toksF [] r) else toksF (w ++ [c]) r
def toks (l : Bs) : List Bs := toksF [] l

/-- as the loop goes: the words that are closed, and the word so far -/
def tokStep (st : List Bs × Bs) (c : UInt8) : List Bs × Bs := if gap c then (if st.2.isEmpty then st.1 else st.1 ++ [st.2], []) else (st.1, st.2 ++ [c])
def toksTo (l : Bs) : List Bs × Bs := l.foldl tokStep ([], [])
theorem toksTo_snoc (l : Bs) (c : UInt8) : toksTo (l ++ [c]) = tokStep (toksTo l) c := by
  unfold toksTo; rw [List.foldl_append]; rfl
def close (st : List Bs × Bs) : List Bs := if st.2.isEmpty then st.1 else st.1 ++ [st.2]
theorem toksF_fold : ∀ (l : Bs) (acc : List Bs) (w : Bs), close (l.foldl tokStep (acc, w)) = acc ++ toksF w l
  | [], acc, w => by
    simp only [List.foldl_nil, close, toksF]
    cases w <;> simp
  | c :: r, acc, w => by
    simp only [List.foldl_cons, toksF, tokStep]
    cases hg : gap c with
    | true =>
      cases hw : w.isEmpty with
      | true => simp only [if_true]; rw [toksF_fold r]
      | false => simp only [if_true, Bool.false_eq_true, if_false]; rw [toksF_fold r]; simp
    | false => simp only [Bool.false_eq_true, if_false]; rw [toksF_fold r]
theorem toks_eq (l : Bs) : close (toksTo l) = toks l := by
  have := toksF_fold l [] []
  simpa [toksTo, toks] using this

/-- pieces between the bytes c -/
def splitTo (c : UInt8) (l : Bs) : List Bs × Bs := l.foldl (fun st x => if x == c then (st.1 ++ [st.2], []) else (st.1, st.2 ++ [x])) ([], [])
theorem splitTo_snoc (c : UInt8) (l : Bs) (x : UInt8) : splitTo c (l ++ [x]) = if x == c then ((splitTo c l).1 ++ [(splitTo c l).2], []) else ((splitTo c l).1, (splitTo c l).2 ++ [x]) := by
  unfold splitTo; rw [List.foldl_append]; rfl
def splitB (c : UInt8) (l : Bs) : List Bs := (splitTo c l).1 ++ [(splitTo c l).2]

/-- the number that the first nine digits spell -/
def valTo (l : Bs) : Int := l.foldl (fun n c => 10 * n + ((c.toNat : Int) - 48)) 0
theorem valTo_snoc (l : Bs) (c : UInt8) : valTo (l ++ [c]) = 10 * valTo l + ((c.toNat : Int) - 48) := by unfold valTo; rw [List.foldl_append]; rfl
def value9 (l : Bs) : Int := valTo (l.take 9)

/-- the first line, what follows it, and whether it ends -/
def line (l : Bs) : Bs := l.takeWhile (fun c => !(c == 10))
def rest (l : Bs) : Bs := l.drop ((line l).length + 1)
def ended (l : Bs) : Bool := decide ((line l).length < l.length)
def comment (l : Bs) : Bool := l == [99] || Lib.hasPrefix l [99, 32]
def pline (l : Bs) : Option (Bs × Bs) :=
  match splitB 32 l with
  | [a, b, v, c] => if a == [112] && b == [99, 110, 102] && numB v && numB c then some (v, c) else none
  | _ => none
def headF : Nat → Bs → Option (Bs × Bs × Bs)
  | 0, _ => none
  | f + 1, l => if ended l then (if comment (line l) then headF f (rest l) else (pline (line l)).map fun x => (x.1, x.2, rest l)) else none

def above (a b : Bs) : Bool := if a.length = b.length then !Op.bytesLess a b && !(a == b) else decide (b.length < a.length)
def strip (t : Bs) : Bs := if t.head? = some 45 then t.tail else t
def litB (v t : Bs) : Bool := numB (strip t) && !(strip t == [48]) && !above (strip t) v
def zero (t : Bs) : Bool := t == [48]
def okAll (v : Bs) (T : List Bs) : Bool := T.all fun t => zero t || litB v t
def litVal (t : Bs) : Int := if t.head? = some 45 then -(value9 (strip t)) else value9 (strip t)
def clausesTo (T : List Bs) : List (List Int) × List Int := T.foldl (fun st t => if zero t then (st.1 ++ [st.2], []) else (st.1, st.2 ++ [litVal t])) ([], [])
theorem clausesTo_snoc (T : List Bs) (t : Bs) : clausesTo (T ++ [t]) = if zero t then ((clausesTo T).1 ++ [(clausesTo T).2], []) else ((clausesTo T).1, (clausesTo T).2 ++ [litVal t]) := by
  unfold clausesTo; rw [List.foldl_append]; rfl
def zeros (T : List Bs) : Nat := (T.filter zero).length
def lits (T : List Bs) : Nat := (T.filter fun t => !zero t).length

/-- what Read answers: V, the clauses, the error -/
def body (v c : Bs) (T : List Bs) : Int × List (List Int) × Int :=
  if okAll v T then
    (if (clausesTo T).2.isEmpty && Lib.decDigits (clausesTo T).1.length == c then
      (if above v [53, 48] || decide (700 < lits T) then (0, [], 1) else (value9 v, (clausesTo T).1, 0))
     else (0, [], 2))
  else (0, [], 2)
def readB (s : Bs) : Int × List (List Int) × Int :=
  if 20000 < s.length then (0, [], 1)
  else match headF (s.length + 1) s with
    | none => (0, [], 2)
    | some (v, c, r) => body v c (toks r)
end Rd
end Go.Proofs.YtceahffmenbibaaGreatDoor
