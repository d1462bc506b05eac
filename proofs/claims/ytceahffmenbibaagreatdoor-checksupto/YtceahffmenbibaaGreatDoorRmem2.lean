/- Lists of lists that grow by append: what lies where. -/
import Derived.Test.YtceahffmenbibaaGreatDoorRmem
import Derived.Maps.AppendAt
namespace Go.Proofs.YtceahffmenbibaaGreatDoor
namespace Rd
open Go Go.RowKit Go.Deep
set_option linter.unusedVariables false
set_option linter.unusedSimpArgs false

def intsV (xs : List Int) : List Value := xs.map (Value.int .i64)

/-- rows of two types share no block -/
theorem own_ne {w : World} {B te ti n m : Nat} {v u : Value} {xs ys : List Value} (h1 : w.ownsRow B te 1 v n xs) (h2 : w.ownsRow B ti 1 u m ys) (hne : te ≠ ti) : v.ownBlock = none ∨ v.ownBlock ≠ u.ownBlock := by
  rcases h1.2 with ⟨rfl, _⟩ | ⟨g, cap, cur, rfl, _, hg, _⟩
  · exact .inl rfl
  · right
    rcases h2.2 with ⟨rfl, _⟩ | ⟨g', cap', cur', rfl, _, hg', _⟩
    · simp [Value.ownBlock]
    · simp only [Value.ownBlock, ne_eq, Option.some.injEq]
      intro e
      subst e
      rw [hg] at hg'
      simp at hg'
      exact hne hg'.2

structure RMem (te ti B : Nat) (wr : World) (cv clv : Value) (us : List Value) (cs : List (List Int)) (cur : List Int) : Prop where
  outer : wr.ownsRow B te 1 cv us.length us
  row : wr.ownsRow B ti 1 clv cur.length (intsV cur)
  len : us.length = cs.length
  inner : ∀ (j : Nat) u, us[j]? = some u → wr.ownsRow B ti 1 u (cs.getD j []).length (intsV (cs.getD j [])) ∧ (u.ownBlock = none ∨ u.ownBlock ≠ clv.ownBlock)

theorem RMem.later {te ti B : Nat} {wr wr' : World} {cv clv : Value} {us : List Value} {cs : List (List Int)} {cur : List Int} (h : RMem te ti B wr cv clv us cs cur) (hb : Below wr.heap.size wr wr') : RMem te ti B wr' cv clv us cs cur := by
  have hg : wr.grownBy wr' none := ⟨hb.os, hb.tape, hb.output, hb.size, fun k hk _ => hb.block k hk⟩
  have key : ∀ {t n v xs}, wr.ownsRow B t 1 v n xs → wr'.ownsRow B t 1 v n xs := fun {t n v xs} ho => by
    refine ho.kept hg ?_
    cases hv : v.ownBlock with
    | none => exact .inl rfl
    | some g => exact .inr (by simp)
  exact ⟨key h.outer, key h.row, h.len, fun j u hj => ⟨key (h.inner j u hj).1, (h.inner j u hj).2⟩⟩

theorem RMem.lit {te ti B : Nat} {wr w1 : World} {cv clv clv' : Value} {us : List Value} {cs : List (List Int)} {cur : List Int} {o : Obj} {x : Int} (hne : te ≠ ti) (h : RMem te ti B wr cv clv us cs cur)
    (hown' : w1.ownsRow B ti 1 clv' (cur.length + 1) (intsV cur ++ [.int .i64 x])) (hgrow : (wr.alloc o).grownBy w1 clv.ownBlock) (hat : clv'.ownBlock = clv.ownBlock ∨ clv'.ownBlock = some (wr.alloc o).heap.size) :
    RMem te ti B w1 cv clv' us cs (cur ++ [x]) where
  outer := (h.outer.alloc o).kept hgrow (own_ne h.outer h.row hne)
  row := by simpa [intsV] using hown'
  len := h.len
  inner := fun j u hj => by
    obtain ⟨h1, h2⟩ := h.inner j u hj
    refine ⟨(h1.alloc o).kept hgrow h2, ?_⟩
    cases hu : u.ownBlock with
    | none => exact .inl rfl
    | some g =>
      right
      rcases hat with e | e
      · rw [e, ← hu]; rcases h2 with h2 | h2
        · rw [hu] at h2; cases h2
        · exact h2
      · rw [e]
        have := (h1.lt g hu).2
        simp
        omega

theorem RMem.zero {te ti B : Nat} {wr w1 : World} {cv cv' clv : Value} {us : List Value} {cs : List (List Int)} {cur : List Int} {o : Obj} (hne : te ≠ ti) (h : RMem te ti B wr cv clv us cs cur)
    (hown' : w1.ownsRow B te 1 cv' (us.length + 1) (us ++ [clv])) (hgrow : (wr.alloc o).grownBy w1 cv.ownBlock) :
    RMem te ti B w1 cv' (.slice none 0 0) (us ++ [clv]) (cs ++ [cur]) [] where
  outer := by simpa using hown'
  row := World.ownsRow_nil _ _ _ _
  len := by simp [h.len]
  inner := fun j u hj => by
    have keep : ∀ {n v xs}, wr.ownsRow B ti 1 v n xs → w1.ownsRow B ti 1 v n xs := fun {n v xs} ho => (ho.alloc o).kept hgrow (own_ne ho h.outer (fun e => hne e.symm))
    have nn : u.ownBlock = none ∨ u.ownBlock ≠ (Value.slice none 0 0).ownBlock := by
      cases hu : u.ownBlock with
      | none => exact .inl rfl
      | some g => exact .inr (by simp [Value.ownBlock])
    refine ⟨?_, nn⟩
    by_cases hj' : j < us.length
    · rw [List.getElem?_append_left hj'] at hj
      have hc : (cs ++ [cur]).getD j [] = cs.getD j [] := by
        simp only [List.getD_eq_getElem?_getD]
        rw [List.getElem?_append_left (by rw [← h.len]; exact hj')]
      rw [hc]
      exact keep (h.inner j u hj).1
    · have e : j = us.length := by
        have := (List.getElem?_eq_some_iff.1 hj).1
        simp at this; omega
      subst e
      simp at hj
      subst hj
      have hc : (cs ++ [cur]).getD us.length [] = cur := by
        simp only [List.getD_eq_getElem?_getD]
        rw [h.len, List.getElem?_append_right (Nat.le_refl _)]; simp
      rw [hc]
      exact keep h.row

theorem owns_le {w : World} {B B' e n : Nat} {size : Nat} {v : Value} {xs : List Value} (h : w.ownsRow B e size v n xs) (hb : B' ≤ B) : w.ownsRow B' e size v n xs := by
  refine ⟨h.1, ?_⟩
  rcases h.2 with h | ⟨g, cap, cur, h1, h2, h3⟩
  · exact .inl h
  · exact .inr ⟨g, cap, cur, h1, by omega, h3⟩
theorem RMem.mono {te ti B B' : Nat} {wr : World} {cv clv : Value} {us : List Value} {cs : List (List Int)} {cur : List Int} (h : RMem te ti B wr cv clv us cs cur) (hb : B' ≤ B) : RMem te ti B' wr cv clv us cs cur :=
  ⟨owns_le h.outer hb, owns_le h.row hb, h.len, fun j u hj => ⟨owns_le (h.inner j u hj).1 hb, (h.inner j u hj).2⟩⟩
/-- a list of lists that the call has made -/
def OwnL (te ti B : Nat) (w : World) (v : Value) (cl : List (List Int)) : Prop := ∃ us, RMem te ti B w v (.slice none 0 0) us cl []
theorem ownL_nil (te ti B : Nat) (w : World) : OwnL te ti B w (.slice none 0 0) [] := ⟨[], World.ownsRow_nil _ _ _ _, World.ownsRow_nil _ _ _ _, rfl, fun j u h => by simp at h⟩
theorem RMem.ownL {te ti B : Nat} {wr : World} {cv clv : Value} {us : List Value} {cs : List (List Int)} {cur : List Int} (h : RMem te ti B wr cv clv us cs cur) : OwnL te ti B wr cv cs :=
  ⟨us, h.outer, World.ownsRow_nil _ _ _ _, h.len, fun j u hj => ⟨(h.inner j u hj).1, by
    cases hu : u.ownBlock with
    | none => exact .inl rfl
    | some g => exact .inr (by simp [Value.ownBlock])⟩⟩
theorem OwnL.later {te ti B : Nat} {w w' : World} {v : Value} {cl : List (List Int)} (h : OwnL te ti B w v cl) (hb : Below w.heap.size w w') : OwnL te ti B w' v cl := by
  obtain ⟨us, h⟩ := h; exact ⟨us, h.later hb⟩
theorem OwnL.mono {te ti B B' : Nat} {w : World} {v : Value} {cl : List (List Int)} (h : OwnL te ti B w v cl) (hb : B' ≤ B) : OwnL te ti B' w v cl := by
  obtain ⟨us, h⟩ := h; exact ⟨us, h.mono hb⟩

/-! ### to be read -/
/-- a list of numbers that can be read -/
def RdRow (w : World) (u : Value) (xs : List Int) : Prop := ∃ (a : Option Addr) (c b : Nat), u = .slice a xs.length c ∧ (0 < xs.length → a = some ⟨b, 0, none⟩) ∧ ∀ j, j < xs.length → w.cell? ⟨b, j, none⟩ = some (.int .i64 (xs.getD j 0))
/-- a list of lists that can be read -/
def RdLists (w : World) (v : Value) (cl : List (List Int)) : Prop := ∃ (a : Option Addr) (c b : Nat), v = .slice a cl.length c ∧ (0 < cl.length → a = some ⟨b, 0, none⟩) ∧ ∀ i, i < cl.length → ∃ u, w.cell? ⟨b, i, none⟩ = some u ∧ RdRow w u (cl.getD i [])

theorem rdRow_own {w : World} {B ti : Nat} {u : Value} {xs : List Int} (h : w.ownsRow B ti 1 u xs.length (intsV xs)) : RdRow w u xs := by
  have hc := h
  rcases h.2 with ⟨rfl, h0⟩ | ⟨g, cap, cur, rfl, _⟩
  · exact ⟨none, 0, 0, by rw [h0], fun hh => by omega, fun j hj => by omega⟩
  · refine ⟨some ⟨g, 0, none⟩, cap, g, rfl, fun _ => rfl, fun j hj => ?_⟩
    have := hc.cells (g := g) rfl j (.int .i64 (xs.getD j 0)) (by simp [intsV, hj, List.getD_eq_getElem?_getD])
    simpa [Addr.add_lit] using this
theorem RMem.read {te ti B : Nat} {wr : World} {cv clv : Value} {us : List Value} {cs : List (List Int)} {cur : List Int} (h : RMem te ti B wr cv clv us cs cur) : RdLists wr cv cs := by
  have hl := h.len
  have hc := h.outer
  rcases h.outer.2 with ⟨rfl, h0⟩ | ⟨g, cap, cur', rfl, _⟩
  · exact ⟨none, 0, 0, by rw [← hl, h0], fun hh => by omega, fun j hj => by omega⟩
  · refine ⟨some ⟨g, 0, none⟩, cap, g, by rw [hl], fun _ => rfl, fun i hi => ?_⟩
    have hi' : i < us.length := by omega
    refine ⟨us[i], ?_, rdRow_own (h.inner i us[i] (List.getElem?_eq_getElem hi')).1⟩
    have := hc.cells (g := g) rfl i us[i] (List.getElem?_eq_getElem hi')
    simpa [Addr.add_lit] using this
theorem Lists.read {te ti B : Nat} {w : World} {v : Value} {cl : List (List Int)} (h : Lists te ti B w v cl) : RdLists w v cl := by
  obtain ⟨CB, BB, rfl, h2, h3, h4, h5⟩ := h.ex
  refine ⟨_, cl.length, CB, rfl, fun _ => rfl, fun i hi => ⟨_, h3.cell hi, ?_⟩⟩
  exact ⟨some ⟨BB i, 0, none⟩, (cl.getD i []).length, BB i, rfl, fun _ => rfl, fun j hj => (h4 i hi).2.cell hj⟩
theorem RdRow.later {w w' : World} {u : Value} {xs : List Int} (h : RdRow w u xs) (hb : Below w.heap.size w w') : RdRow w' u xs := by
  obtain ⟨a, c, b, h1, h2, h3⟩ := h
  refine ⟨a, c, b, h1, h2, fun j hj => ?_⟩
  have := h3 j hj
  rw [hb.cell (p := ⟨b, j, none⟩) (block_lt_of_cell this)]; exact this
theorem RdLists.later {w w' : World} {v : Value} {cl : List (List Int)} (h : RdLists w v cl) (hb : Below w.heap.size w w') : RdLists w' v cl := by
  obtain ⟨a, c, b, h1, h2, h3⟩ := h
  refine ⟨a, c, b, h1, h2, fun i hi => ?_⟩
  obtain ⟨u, h4, h5⟩ := h3 i hi
  exact ⟨u, by rw [hb.cell (p := ⟨b, i, none⟩) (block_lt_of_cell h4)]; exact h4, h5.later hb⟩
theorem rdLists_nil (w : World) : RdLists w (.slice none 0 0) [] := ⟨none, 0, 0, rfl, fun h => by simp at h, fun i hi => by simp at hi⟩
end Rd
end Go.Proofs.YtceahffmenbibaaGreatDoor
