/- Walk of lists. -/
import Derived.Test.YtceahffmenbibaaGreatDoorLawB
namespace Go.Proofs.YtceahffmenbibaaGreatDoor
namespace Rd
open Go Go.RowKit Go.Deep
set_option linter.unusedVariables false
set_option linter.unusedSimpArgs false

/-- the blocks of a list of lists: the outer one, and the inner ones from i on -/
def Rs (CB : Nat) (B : Nat → Nat) (C i c : Nat) : Prop := c = CB ∨ ∃ j, i ≤ j ∧ j < C ∧ c = B j

/-- a list of lists that came out, nothing of it held: nil, or made -/
structure Fresh (w : World) (H : Nat) (kv : Value) (ao : Option Addr) (CB : Nat) (B : Nat → Nat) (cl : List (List Int)) : Prop where
  shape : (ao = none ∧ cl = []) ∨ (ao = some ⟨CB, 0, none⟩ ∧ w.rowIs CB 43 cl.length (fun j => inV (B j) (cl.getD j [])))
  inner : ∀ j, j < cl.length → CB < B j ∧ w.rowIs (B j) 3 (cl.getD j []).length (intAt (cl.getD j []))
  incr : ∀ j j', j < j' → j' < cl.length → B j < B j'
  low : H < CB
  cblt : CB < w.heap.size
  apart : ∀ c, Rs CB B cl.length 0 c → some c ≠ kv.ownBlock

def St (H : Nat) (kv : Value) (CB : Nat) (B : Nat → Nat) (C k : Nat) : Prop := k = H ∨ some k = kv.ownBlock ∨ Rs CB B C 0 k

structure Mid1 (w wr : World) (H N : Nat) (kv kv' : Value) (es : List Ent) (ao : Option Addr) (CB : Nat) (B : Nat → Nat) (cl : List (List Int)) (i : Nat) : Prop where
  hold : Hold wr H (N + i) kv' es (Rs CB B cl.length i)
  outer : (ao = none ∧ cl = []) ∨ (ao = some ⟨CB, 0, none⟩ ∧ wr.rowIs CB 43 cl.length (fun j => inV (B j) (cl.getD j [])))
  inner : ∀ j, i ≤ j → j < cl.length → wr.rowIs (B j) 3 (cl.getD j []).length (intAt (cl.getD j []))
  chg : Chg w wr (St H kv CB B cl.length)
  at' : kv'.ownBlock = kv.ownBlock ∨ ∃ g, kv'.ownBlock = some g ∧ w.heap.size ≤ g

theorem Fresh.rlt {w : World} {H : Nat} {kv : Value} {ao : Option Addr} {CB : Nat} {B : Nat → Nat} {cl : List (List Int)} (h : Fresh w H kv ao CB B cl) : ∀ c, Rs CB B cl.length 0 c → c < w.heap.size ∧ H < c := by
  rintro c (rfl | ⟨j, _, hj, rfl⟩)
  · exact ⟨h.cblt, h.low⟩
  · have := h.inner j hj
    exact ⟨this.2.lt, by have := h.low; omega⟩

theorem Rs.mono {CB : Nat} {B : Nat → Nat} {C i i' c : Nat} (h : Rs CB B C i c) (hi : i' ≤ i) : Rs CB B C i' c := by
  rcases h with rfl | ⟨j, h1, h2, rfl⟩
  · exact .inl rfl
  · exact .inr ⟨j, by omega, h2, rfl⟩

theorem Mid1.ne {w wr : World} {H N : Nat} {kv kv' : Value} {es : List Ent} {ao : Option Addr} {CB : Nat} {B : Nat → Nat} {cl : List (List Int)} {i : Nat} (h : Mid1 w wr H N kv kv' es ao CB B cl i) (hf : Fresh w H kv ao CB B cl) :
    ∀ c, Rs CB B cl.length 0 c → some c ≠ kv'.ownBlock := fun c hc e => by
  rcases h.at' with e2 | ⟨g, e2, hg⟩
  · rw [e2] at e; exact hf.apart c hc e
  · rw [e2] at e; have := (hf.rlt c hc).1; simp at e; omega

theorem Mid1.next {w wr w' : World} {H N : Nat} {kv kv' kv2 : Value} {es es2 : List Ent} {ao : Option Addr} {CB : Nat} {B : Nat → Nat} {cl : List (List Int)} {i : Nat} (h : Mid1 w wr H N kv kv' es ao CB B cl i) (hf : Fresh w H kv ao CB B cl) (hi : i < cl.length)
    (hh : Hold w' H (N + i + 1) kv2 es2 (fun c => Rs CB B cl.length i c ∧ c ≠ B i)) (hc : Chg wr w' (Sc H kv' (B i))) (ha : kv2.ownBlock = kv'.ownBlock ∨ ∃ g, kv2.ownBlock = some g ∧ wr.heap.size ≤ g) :
    Mid1 w w' H N kv kv2 es2 ao CB B cl (i + 1) := by
  have hs := h.chg.size
  have keepb : ∀ c, Rs CB B cl.length 0 c → c ≠ B i → w'.heap[c]? = wr.heap[c]? := fun c hr hne => by
    refine hc.block c (by have := (hf.rlt c hr).1; omega) ?_
    rintro (rfl | e | e)
    · have := (hf.rlt _ hr).2; omega
    · exact h.ne hf c hr e
    · exact hne e
  have hCB : CB ≠ B i := by have := (hf.inner i hi).1; omega
  refine ⟨?_, ?_, fun j hj hjl => ?_, ?_, ?_⟩
  · refine (hh.keep (S := fun _ => False) (R' := Rs CB B cl.length (i + 1)) (Chg.refl _ _) (fun h => h) (fun k h => h.elim) ?_)
    rintro c hr _
    refine ⟨hr.mono (by omega), ?_⟩
    rcases hr with rfl | ⟨j, h1, h2, rfl⟩
    · exact hCB
    · have := hf.incr i j (by omega) h2; omega
  · rcases h.outer with e | ⟨e, hr⟩
    · exact .inl e
    · exact .inr ⟨e, hr.of_block (keepb CB (.inl rfl) hCB)⟩
  · have hne : B j ≠ B i := by have := hf.incr i j (by omega) hjl; omega
    exact (h.inner j (by omega) hjl).of_block (keepb (B j) (.inr ⟨j, Nat.zero_le _, hjl, rfl⟩) hne)
  · refine h.chg.trans hc ?_
    rintro x hx (rfl | e | rfl)
    · exact .inl rfl
    · rcases h.at' with e2 | ⟨g, e2, hg⟩
      · exact .inr (.inl (by rw [← e2]; exact e))
      · rw [e2] at e; simp at e; omega
    · exact .inr (.inr (.inr ⟨i, Nat.zero_le _, hi, rfl⟩))
  · rcases ha with e | ⟨g, e, hg⟩
    · rw [e]; exact h.at'
    · exact .inr ⟨g, e, by omega⟩

/-! ### the outer list, written full -/
def ownAt (B : Nat → Nat) (cl : List (List Int)) (u : Value) (k j : Nat) : Value := if j < k then u else inV (B j) (cl.getD j [])
def NewRowV (Bs : Nat) (w : World) (v : Value) (k : Nat) (u : Value) : Prop := ∃ g c, v = .slice (some ⟨g, 0, none⟩) k c ∧ Bs ≤ g ∧ ∀ j, j < k → w.cell? ⟨g, j, none⟩ = some u
theorem newRowV_of {w : World} {Bs n d : Nat} {v u : Value} {t : TypeId} (h : w.ownsRow Bs t 1 v (n + d) (List.replicate n u ++ List.replicate d u)) (hd : 0 < d) : NewRowV Bs w v (n + d) u := by
  have hc := h
  rcases h.2 with ⟨_, h0⟩ | ⟨g, cap, cur, rfl, hg, _⟩
  · omega
  · refine ⟨g, cap, rfl, hg, fun j hj => ?_⟩
    have := hc.cells (g := g) rfl j u (by rw [List.replicate_append_replicate, List.getElem?_replicate, if_pos hj])
    simpa [Addr.add_lit] using this
theorem NewRowV.later {Bs : Nat} {w w' : World} {v : Value} {k : Nat} {u : Value} (h : NewRowV Bs w v k u) (hb : Below w.heap.size w w') : NewRowV Bs w' v k u := by
  obtain ⟨g, c, h1, h2, h3⟩ := h
  refine ⟨g, c, h1, h2, fun j hj => ?_⟩
  have := h3 j hj
  rw [hb.cell (p := ⟨g, j, none⟩) (block_lt_of_cell this)]; exact this
theorem NewRowV.mono {Bs B' : Nat} {w : World} {v : Value} {k : Nat} {u : Value} (h : NewRowV Bs w v k u) (hB : B' ≤ Bs) : NewRowV B' w v k u := by
  obtain ⟨g, c, h1, h2, h3⟩ := h
  exact ⟨g, c, h1, by omega, h3⟩
def OldsV (w : World) (ao : Option Addr) (k : Nat) (u : Value) : Prop := ∀ c : Addr, ao = some c → ∀ j x, (List.replicate k u)[j]? = some x → w.cell? (c.add j) = some x
theorem OldsV.later {w w' : World} {ao : Option Addr} {k : Nat} {u : Value} (h : OldsV w ao k u) (hb : Below w.heap.size w w') : OldsV w' ao k u := fun c hc j x hj => by
  have := h c hc j x hj
  rw [hb.cell (block_lt_of_cell this)]; exact this
end Rd
end Go.Proofs.YtceahffmenbibaaGreatDoor
