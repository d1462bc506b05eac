/- Lists of lists that a call makes: what lies where. -/
import Derived.Test.YtceahffmenbibaaGreatDoorRcls
import Derived.Deep.OwnRows
import Derived.Below
namespace Go.Proofs.YtceahffmenbibaaGreatDoor
namespace Rd
open Go Go.RowKit Go.Deep
set_option linter.unusedVariables false
set_option linter.unusedSimpArgs false

/-- an inner list, in a block of its own -/
def inV (b : Nat) (xs : List Int) : Value := .slice (some ⟨b, 0, none⟩) xs.length xs.length
def intAt (xs : List Int) (q : Nat) : Value := .int .i64 (xs.getD q 0)
def outAt (cl : List (List Int)) (B : Nat → Nat) (k j : Nat) : Value := if j < k then inV (B j) (cl.getD j []) else .slice none 0 0
def partAt (xs : List Int) (last : Bool) (p q : Nat) : Value := if last && decide (p ≤ q) then .int .i64 0 else intAt xs q

/-- k inner lists are there; of the last one the first p numbers -/
structure Mem (te ti : TypeId) (base CB : Nat) (cl : List (List Int)) (w0 wr : World) (k : Nat) (B : Nat → Nat) (p : Nat) : Prop where
  outer : wr.rowIs CB te cl.length (outAt cl B k)
  inner : ∀ j, j < k → CB < B j ∧ wr.rowIs (B j) ti (cl.getD j []).length (partAt (cl.getD j []) (j + 1 == k) p)
  incr : ∀ j j', j < j' → j' < k → B j < B j'
  below : Below base w0 wr
  basele : base ≤ CB

theorem Mem.later {te ti : TypeId} {base CB : Nat} {cl : List (List Int)} {w0 wr wr' : World} {k : Nat} {B : Nat → Nat} {p : Nat} (h : Mem te ti base CB cl w0 wr k B p) (hb : Below wr.heap.size wr wr') : Mem te ti base CB cl w0 wr' k B p where
  outer := h.outer.of_block (hb.block _ h.outer.lt)
  inner := fun j hj => ⟨(h.inner j hj).1, (h.inner j hj).2.of_block (hb.block _ (h.inner j hj).2.lt)⟩
  incr := h.incr
  below := h.below.trans (hb.mono (by have := h.outer.lt; have := h.basele; omega))
  basele := h.basele

theorem partAt_full {xs : List Int} {b : Bool} {p q : Nat} (h : q < p) : partAt xs b p q = intAt xs q := by
  unfold partAt
  rw [if_neg (by simp; intro _; omega)]
theorem partAt_false {xs : List Int} {p q : Nat} : partAt xs false p q = intAt xs q := by unfold partAt; rfl

/-- a new inner list, all noughts -/
theorem Mem.push {te ti : TypeId} {base CB : Nat} {cl : List (List Int)} {w0 wr : World} {k : Nat} {B : Nat → Nat} {p : Nat} (h : Mem te ti base CB cl w0 wr k B p) (hk : k < cl.length)
    (hp : ∀ j, j + 1 = k → (cl.getD j []).length ≤ p) (e : Nat) (he : e = (cl.getD k []).length) :
    Mem te ti base CB cl w0 ((wr.setCell ⟨CB, k, none⟩ (.slice (some ⟨wr.heap.size, 0, none⟩) e e)).alloc (.cells (madeCells #[.int .i64 0] e) ti)) (k + 1) (fun j => if j = k then wr.heap.size else B j) 0 where
  outer := by
    subst he
    refine ((h.outer.set k _).alloc _).congr fun i hi => ?_
    unfold outAt inV
    by_cases e : i = k
    · subst e; simp
    · by_cases e' : i < k
      · simp [e, e', show i < k + 1 by omega]
      · simp [e, e', show ¬ i < k + 1 by omega]
  inner := fun j hj => by
    subst he
    by_cases e : j = k
    · subst e
      simp only [if_true]
      refine ⟨h.outer.lt, ?_⟩
      have hr := World.rowIs_made (wr.setCell ⟨CB, j, none⟩ (.slice (some ⟨wr.heap.size, 0, none⟩) (cl.getD j []).length (cl.getD j []).length)) (.int .i64 0) (cl.getD j []).length ti
      rw [show (wr.setCell ⟨CB, j, none⟩ (.slice (some ⟨wr.heap.size, 0, none⟩) (cl.getD j []).length (cl.getD j []).length)).heap.size = wr.heap.size from by simp [World.setCell]] at hr
      exact hr.congr fun i hi => by simp [partAt]
    · have hj' : j < k := by omega
      simp only [e, if_false]
      refine ⟨(h.inner j hj').1, ?_⟩
      have := ((h.inner j hj').2.setOther (a := ⟨CB, k, none⟩) (by have := (h.inner j hj').1; simp; omega) (.slice (some ⟨wr.heap.size, 0, none⟩) (cl.getD k []).length (cl.getD k []).length)).alloc (.cells (madeCells #[.int .i64 0] (cl.getD k []).length) ti)
      refine this.congr fun q hq => ?_
      have ne : (j + 1 == k + 1) = false := by simp; omega
      rw [ne, partAt_false]
      by_cases e2 : j + 1 = k
      · exact partAt_full (by have := hp j e2; omega)
      · have : (j + 1 == k) = false := by simpa using e2
        rw [this, partAt_false]
  incr := fun j j' h1 h2 => by
    by_cases e : j' = k
    · subst e
      have : ¬ j = j' := by omega
      simp only [if_true, this, if_false]
      exact (h.inner j h1).2.lt
    · have : ¬ j = k := by omega
      simp only [e, this, if_false]
      exact h.incr j j' h1 (by omega)
  below := (h.below.setCell (by exact h.basele) _).alloc (by have := h.outer.lt; have := h.basele; simp [World.setCell]; omega) _
  basele := h.basele

/-- one number more -/
theorem Mem.put {te ti : TypeId} {base CB : Nat} {cl : List (List Int)} {w0 wr : World} {k : Nat} {B : Nat → Nat} {p : Nat} (h : Mem te ti base CB cl w0 wr (k + 1) B p) (x : Int) (hx : x = (cl.getD k []).getD p 0) :
    Mem te ti base CB cl w0 (wr.setCell ⟨B k, p, none⟩ (.int .i64 x)) (k + 1) B (p + 1) where
  outer := h.outer.setOther (by have := (h.inner k (by omega)).1; simp; omega) _
  inner := fun j hj => by
    refine ⟨(h.inner j hj).1, ?_⟩
    by_cases e : j = k
    · subst e
      refine ((h.inner j hj).2.set p _).congr fun q hq => ?_
      have ee : (j + 1 == j + 1) = true := by simp
      rw [ee]
      by_cases e2 : q = p
      · subst e2
        simp [partAt, intAt, hx]
        intro h; omega
      · simp only [e2, if_false]
        unfold partAt
        by_cases e3 : p ≤ q
        · simp [e3, show p + 1 ≤ q by omega]
        · simp [e3, show ¬ p + 1 ≤ q by omega]
    · have hj' : j < k := by omega
      refine ((h.inner j hj).2.setOther (a := ⟨B k, p, none⟩) (by have := h.incr j k hj' (by omega); simp; omega) _).congr fun q hq => ?_
      have ne : (j + 1 == k + 1) = false := by simp; omega
      rw [ne, partAt_false, partAt_false]
  incr := h.incr
  below := h.below.setCell (by have := (h.inner k (by omega)).1; have := h.basele; simp; omega) _
  basele := h.basele

/-- WHAT A LIST OF LISTS IS, as its maker hands it over: each list in a block of its own, no two shared, no spare room -/
structure Lists (te ti : TypeId) (base : Nat) (w : World) (v : Value) (cl : List (List Int)) : Prop where
  ex : ∃ (CB : Nat) (B : Nat → Nat), v = .slice (some ⟨CB, 0, none⟩) cl.length cl.length ∧ base ≤ CB ∧ w.rowIs CB te cl.length (fun j => inV (B j) (cl.getD j [])) ∧
    (∀ j, j < cl.length → CB < B j ∧ w.rowIs (B j) ti (cl.getD j []).length (intAt (cl.getD j []))) ∧ ∀ j j', j < j' → j' < cl.length → B j < B j'

theorem Lists.mono {te ti : TypeId} {base base' : Nat} {w : World} {v : Value} {cl : List (List Int)} (h : Lists te ti base w v cl) (hb : base' ≤ base) : Lists te ti base' w v cl := by
  obtain ⟨CB, B, h1, h2, h3⟩ := h.ex
  exact ⟨CB, B, h1, by omega, h3⟩
theorem Mem.lists {te ti : TypeId} {base CB : Nat} {cl : List (List Int)} {w0 wr : World} {B : Nat → Nat} {p : Nat} (h : Mem te ti base CB cl w0 wr cl.length B p) (hp : ∀ j, j + 1 = cl.length → (cl.getD j []).length ≤ p) :
    Lists te ti base wr (.slice (some ⟨CB, 0, none⟩) cl.length cl.length) cl :=
  ⟨CB, B, rfl, h.basele, h.outer.congr fun i hi => by simp [outAt, hi], fun j hj => ⟨(h.inner j hj).1, (h.inner j hj).2.congr fun q hq => by
    by_cases e : j + 1 = cl.length
    · exact partAt_full (by have := hp j e; omega)
    · have : (j + 1 == cl.length) = false := by simpa using e
      rw [this, partAt_false]⟩, h.incr⟩
end Rd
end Go.Proofs.YtceahffmenbibaaGreatDoor
