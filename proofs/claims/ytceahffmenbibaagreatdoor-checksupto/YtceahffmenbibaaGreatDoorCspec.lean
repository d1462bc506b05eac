/- Checking proofs, in plain lists: when an addition is right, which line is told. -/
import Derived.Test.YtceahffmenbibaaGreatDoorRspec
namespace Go.Proofs.YtceahffmenbibaaGreatDoor
namespace Rd
set_option linter.unusedVariables false
set_option linter.unusedSimpArgs false

abbrev Cl : Type := List Int
def Cons (M : Int → Prop) : Prop := ∀ l, M l → M (-l) → False
def Met (M : Int → Prop) (c : Cl) : Prop := ∃ l ∈ c, M l
def Two (M : Int → Prop) (c : Cl) : Prop := ∃ a ∈ c, ∃ b ∈ c, a ≠ b ∧ ¬ M (-a) ∧ ¬ M (-b)
/-- nothing is left to be spread, and no clause is all false -/
def Stable (L : List Cl) (M : Int → Prop) : Prop := ∀ c ∈ L, Met M c ∨ Two M c
/-- laying down and spreading comes to a conflict: no consistent marks that hold what is laid down are at rest -/
def Conf (L : List Cl) (ls : List Int) : Prop := ∀ M, Cons M → (∀ l ∈ ls, M l) → ¬ Stable L M
def opp (c : Cl) (but : Int) : List Int := (c.filter fun l => !(l == but)).map fun l => -l
def RightP (L : List Cl) (c : Cl) : Prop := Conf L (opp c 0) ∨ ∃ l r, c = l :: r ∧ ∀ D ∈ L, -l ∈ D → Conf L (opp c 0 ++ opp D (-l))
def sameB (a b : Cl) : Bool := a.all (fun l => b.contains l) && b.all (fun l => a.contains l)
/-- without the first clause that has the same literals -/
def rem : List Cl → Cl → Option (List Cl)
  | [], _ => none
  | d :: r, c => if sameB d c then some r else (rem r c).map (d :: ·)

/-- a line of a proof: is it a deletion; its literals. v: how many variables, in digits -/
def litsF (v : Bs) : List Bs → Option Cl
  | [] => none
  | [t] => if zero t then some [] else none
  | t :: r => if litB v t then (litsF v r).map (litVal t :: ·) else none
def lineB (v : Bs) (l : Bs) : Option (Bool × Cl) :=
  if (splitB 32 l).head? = some [100] then (litsF v (splitB 32 l).tail).map fun c => (true, c)
  else (litsF v (splitB 32 l)).map fun c => (false, c)

/-- what Check answers: of the pieces of the proof between its newlines, k lines ahead of them -/
def chk (v : Bs) : List Cl → List Bs → Nat → Nat × Nat → Prop
  | _, [], _, res => res = (0, 5)
  | L, p :: r, k, res =>
    if r.isEmpty then (if p.isEmpty then res = (k, 5) else res = (k + 1, 3))
    else match lineB v p with
      | none => res = (k + 1, 3)
      | some (true, c) => (match rem L c with
          | none => res = (k + 1, 4)
          | some L' => chk v L' r (k + 1) res)
      | some (false, c) => (¬ RightP L c → res = (k + 1, 4)) ∧ (RightP L c → if c.isEmpty then res = (k + 1, 0) else chk v (L ++ [c]) r (k + 1) res)

theorem chk_inj (v : Bs) : ∀ (ps : List Bs) (L : List Cl) (k : Nat) (a b : Nat × Nat), chk v L ps k a → chk v L ps k b → a = b
  | [], L, k, a, b, h1, h2 => by simp only [chk] at h1 h2; rw [h1, h2]
  | p :: r, L, k, a, b, h1, h2 => by
    unfold chk at h1 h2
    split at h1
    · rename_i hr
      rw [if_pos hr] at h2
      split at h1
      · rename_i hp; rw [if_pos hp] at h2; rw [h1, h2]
      · rename_i hp; rw [if_neg hp] at h2; rw [h1, h2]
    · rename_i hr
      rw [if_neg hr] at h2
      split at h1
      · rename_i hl; rw [hl] at h2; rw [h1, h2]
      · rename_i c hl
        rw [hl] at h2
        simp only at h2
        split at h1
        · rename_i he; rw [he] at h2; rw [h1, h2]
        · rename_i L' he; rw [he] at h2; exact chk_inj v r _ _ _ _ h1 h2
      · rename_i c hl
        rw [hl] at h2
        simp only at h2
        rcases Classical.em (RightP L c) with hR | hR
        · have g1 := h1.2 hR
          have g2 := h2.2 hR
          split at g1
          · rename_i he; rw [if_pos he] at g2; rw [g1, g2]
          · rename_i he; rw [if_neg he] at g2; exact chk_inj v r _ _ _ _ g1 g2
        · rw [h1.1 hR, h2.1 hR]

/-! ### laying down and spreading -/
/-- marks that every rest holds -/
def Under (L : List Cl) (ls : List Int) (M : Int → Prop) : Prop := ∀ M', Cons M' → (∀ l ∈ ls, M' l) → Stable L M' → ∀ l, M l → M' l
theorem under_laid (L : List Cl) (ls : List Int) : Under L ls (· ∈ ls) := fun M' _ h _ l hl => h l hl
theorem Under.false_of {L : List Cl} {ls : List Int} {M M' : Int → Prop} (h : Under L ls M) (hc : Cons M') (hl : ∀ l ∈ ls, M' l) (hs : Stable L M') {l : Int} (hf : M (-l)) : ¬ M' l := fun hm => hc l hm (h M' hc hl hs _ hf)
/-- a clause whose literals are false but for l: l is in every rest -/
theorem Under.force {L : List Cl} {ls : List Int} {M : Int → Prop} (h : Under L ls M) {c : Cl} (hc : c ∈ L) {l : Int} (ho : ∀ x ∈ c, x ≠ l → M (-x)) : Under L ls (fun x => M x ∨ x = l) := by
  intro M' hM hl hs x hx
  rcases hx with hx | rfl
  · exact h M' hM hl hs x hx
  · rcases hs c hc with ⟨y, hy, hm⟩ | ⟨a, ha, b, hb, hab, h1, h2⟩
    · by_cases e : y = x
      · rw [← e]; exact hm
      · exact absurd hm (h.false_of hM hl hs (ho y hy e))
    · exfalso
      by_cases e : a = x
      · have : b ≠ x := fun e' => hab (by rw [e, e'])
        exact h2 (h M' hM hl hs _ (ho b hb this))
      · exact h1 (h M' hM hl hs _ (ho a ha e))
/-- a clause all false: a conflict -/
theorem Under.conf {L : List Cl} {ls : List Int} {M : Int → Prop} (h : Under L ls M) {c : Cl} (hc : c ∈ L) (ho : ∀ x ∈ c, M (-x)) : Conf L ls := by
  intro M' hM hl hs
  rcases hs c hc with ⟨y, hy, hm⟩ | ⟨a, ha, b, hb, hab, h1, h2⟩
  · exact h.false_of hM hl hs (ho y hy) hm
  · exact h1 (h M' hM hl hs _ (ho a ha))
theorem Under.clash {L : List Cl} {ls : List Int} {M : Int → Prop} (h : Under L ls M) {x : Int} (h1 : M x) (h2 : M (-x)) : Conf L ls :=
  fun M' hM hl hs => hM x (h M' hM hl hs _ h1) (h M' hM hl hs _ h2)
theorem not_conf {L : List Cl} {ls : List Int} {M : Int → Prop} (hc : Cons M) (hl : ∀ l ∈ ls, M l) (hs : Stable L M) : ¬ Conf L ls := fun h => h M hc hl hs

/-- what is at rest hangs on which sets of literals there are -/
def SameSets (L L' : List Cl) : Prop := ∀ c ∈ L, ∃ d ∈ L', ∀ l, l ∈ c ↔ l ∈ d
theorem stable_same {L L' : List Cl} (h : SameSets L L') {M : Int → Prop} (hs : Stable L' M) : Stable L M := by
  intro c hc
  obtain ⟨d, hd, e⟩ := h c hc
  rcases hs d hd with ⟨l, hl, hm⟩ | ⟨a, ha, b, hb, r⟩
  · exact .inl ⟨l, (e l).2 hl, hm⟩
  · exact .inr ⟨a, (e a).2 ha, b, (e b).2 hb, r⟩
theorem conf_same {L L' : List Cl} (h : SameSets L L') {ls ls' : List Int} (hl : ∀ l, l ∈ ls → l ∈ ls') (hc : Conf L ls) : Conf L' ls' :=
  fun M hM hm hs => hc M hM (fun l h => hm l (hl l h)) (stable_same h hs)
end Rd
end Go.Proofs.YtceahffmenbibaaGreatDoor
