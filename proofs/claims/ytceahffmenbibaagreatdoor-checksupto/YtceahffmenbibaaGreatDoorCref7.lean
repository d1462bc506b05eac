/- Walk of the document's line. -/
import Derived.Test.YtceahffmenbibaaGreatDoorCline
import Derived.Outline
namespace Go.Proofs.YtceahffmenbibaaGreatDoor
namespace Rd
open Go Go.RowKit Go.Deep
set_option linter.unusedVariables false
set_option linter.unusedSimpArgs false

def pairF (x y : Value) (j : Nat) : Value := if j = 0 then x else y
/-- the walk of a line, as it goes: the answer's place, the line's, its literals, the pieces -/
structure LineSt (H H1 tg o : Nat) (P : List ByteArray) (w : World) (g : Bool) (u : Value) (xs : List Int) (wr : World) : Prop where
  res : wr.rowIs H 148 2 (pairF (.bool false) (.slice none 0 0))
  out : wr.rowIs (H + 1) 148 2 (pairF (.bool g) u)
  own : wr.ownsRow H1 3 1 u xs.length (intsV xs)
  txt : ∀ j (hj : j < P.length), wr.cell? ⟨tg, o + j, none⟩ = some (.string P[j])
  below : Below H w wr
  size : H1 ≤ wr.heap.size
  h1 : H + 2 ≤ H1
  htg : tg < H1
  htg2 : H + 2 ≤ tg
theorem LineSt.later {H H1 tg o : Nat} {P : List ByteArray} {w wr wr' : World} {g : Bool} {u : Value} {xs : List Int} (h : LineSt H H1 tg o P w g u xs wr) (hb : Below wr.heap.size wr wr') : LineSt H H1 tg o P w g u xs wr' where
  res := h.res.of_block (hb.block _ h.res.lt)
  out := h.out.of_block (hb.block _ h.out.lt)
  own := owns_later h.own hb
  txt := fun j hj => by rw [hb.cell (p := ⟨tg, o + j, none⟩) (by have := h.htg; have := h.size; simp; omega)]; exact h.txt j hj
  below := h.below.trans (hb.mono (by have := h.size; have := h.h1; omega))
  size := Nat.le_trans h.size hb.size
  h1 := h.h1
  htg := h.htg
  htg2 := h.htg2
theorem LineSt.gone {H H1 tg o : Nat} {P : List ByteArray} {w wr : World} {g : Bool} {u : Value} {xs : List Int} (h : LineSt H H1 tg o P w g u xs wr) : LineSt H H1 tg o P w true u xs (wr.setCell ⟨H + 1, 0, none⟩ (.bool true)) where
  res := h.res.setOther (by simp) _
  out := (h.out.set 0 _).congr fun i hi => by unfold pairF; split <;> rfl
  own := by
    refine ownsRow_setCell_below h.own (by have := h.h1; simp; omega) _
  txt := fun j hj => by rw [World.cell?_setCell_far _ _ _ _ (by have := h.htg2; simp; omega)]; exact h.txt j hj
  below := h.below.setCell (by simp) _
  size := by have := h.size; simpa [World.setCell] using this
  h1 := h.h1
  htg := h.htg
  htg2 := h.htg2
theorem LineSt.put {H H1 tg o : Nat} {P : List ByteArray} {w wr w6 : World} {g : Bool} {u v' : Value} {xs : List Int} {x : Int} {ob : Obj} (h : LineSt H H1 tg o P w g u xs wr) (A : Appended (wr.alloc ob) H1 3 1 u xs.length (intsV xs) 1 [.int .i64 x] v' w6) :
    LineSt H H1 tg o P w g v' (xs ++ [x]) (w6.setCell ⟨H + 1, 1, none⟩ v') := by
  have h' := h.later ((Below.refl _ _).alloc (Nat.le_refl _) ob)
  have hs := h.size
  have hh := h.h1
  have far : ∀ k, k < H1 → w6.heap[k]? = (wr.alloc ob).heap[k]? := fun k hk => A.grew.block k (by simp; omega) (fun e => by have := (h.own.lt k e.symm).1; omega)
  have s6 : H1 ≤ w6.heap.size := by have := A.grew.size; simp at this; omega
  exact {
    res := (h'.res.of_block (far _ (by omega))).setOther (by simp) _
    out := ((h'.out.of_block (far _ (by omega))).set 1 _).congr fun i hi => by
      unfold pairF
      by_cases e : i = 1
      · subst e; simp
      · have : i = 0 := by omega
        subst this; simp
    own := by
      have h1 := ownsRow_setCell_below A.own (a := ⟨H + 1, 1, none⟩) (by simp; omega) v'
      have e : (xs ++ [x]).length = xs.length + 1 := by simp
      rw [e]; unfold intsV at *; rw [List.map_append]; exact h1
    txt := fun j hj => by
      rw [World.cell?_setCell_far _ _ _ _ (by have := h.htg2; simp; omega), World.cell?_of_block (w := wr.alloc ob) (far tg h.htg)]
      exact h'.txt j hj
    below := by
      refine Below.setCell ?_ (by simp) _
      exact h'.below.grown A.grew (by simp; omega) (fun k hk => by have := (h.own.lt k hk).1; omega)
    size := by simpa [World.setCell] using s6
    h1 := h.h1
    htg := h.htg
    htg2 := h.htg2 }
end Rd
end Go.Proofs.YtceahffmenbibaaGreatDoor
