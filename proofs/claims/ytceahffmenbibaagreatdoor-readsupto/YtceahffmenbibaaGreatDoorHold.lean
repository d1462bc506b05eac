/- The holds of the law: what each list reads as, and what may still be written. -/
import Derived.Test.YtceahffmenbibaaGreatDoorRmem2
namespace Go.Proofs.YtceahffmenbibaaGreatDoor
namespace Rd
open Go Go.RowKit Go.Deep
set_option linter.unusedVariables false
set_option linter.unusedSimpArgs false

/-- what an owner writes -/
def mkv (n : Nat) : Int := -1000000 - n

/-- only blocks of S may have turned -/
structure Chg (w w' : World) (S : Nat → Prop) : Prop where
  os : w'.os = w.os
  tape : w'.tape = w.tape
  output : w'.output = w.output
  size : w.heap.size ≤ w'.heap.size
  block : ∀ k, k < w.heap.size → ¬ S k → w'.heap[k]? = w.heap[k]?
theorem Chg.refl (w : World) (S : Nat → Prop) : Chg w w S := ⟨rfl, rfl, rfl, Nat.le_refl _, fun _ _ _ => rfl⟩
theorem Chg.trans {a b c : World} {S T : Nat → Prop} (h : Chg a b S) (k : Chg b c T) (hT : ∀ x, x < a.heap.size → T x → S x) : Chg a c S :=
  ⟨k.os.trans h.os, k.tape.trans h.tape, k.output.trans h.output, Nat.le_trans h.size k.size, fun i hi hs => (k.block i (Nat.lt_of_lt_of_le hi h.size) (fun ht => hs (hT i hi ht))).trans (h.block i hi hs)⟩
theorem Chg.mono {a b : World} {S T : Nat → Prop} (h : Chg a b S) (hT : ∀ x, S x → T x) : Chg a b T := ⟨h.os, h.tape, h.output, h.size, fun k hk ht => h.block k hk (fun hs => ht (hT k hs))⟩
theorem Chg.of_below {w w' : World} {S : Nat → Prop} (h : Below w.heap.size w w') : Chg w w' S := ⟨h.os, h.tape, h.output, h.size, fun k hk _ => h.block k hk⟩
theorem Chg.setCell (w : World) {S : Nat → Prop} (p : Addr) (v : Value) (hp : S p.block) : Chg w (w.setCell p v) S :=
  ⟨rfl, rfl, rfl, by simp [World.setCell], fun k _ hs => Below.heap_setCell _ _ _ _ (fun e => hs (e ▸ hp))⟩
theorem Chg.grown {w w' : World} {S : Nat → Prop} {row : Option Nat} (h : w.grownBy w' row) (hr : ∀ k, row = some k → S k) : Chg w w' S :=
  ⟨h.os, h.tape, h.output, h.size, fun k hk hs => h.block k hk (fun e => hs (hr k e.symm))⟩
theorem Chg.below {w w' : World} {S : Nat → Prop} {B : Nat} (h : Chg w w' S) (hB : B ≤ w.heap.size) (hS : ∀ k, S k → B ≤ k) : Below B w w' :=
  ⟨h.os, h.tape, h.output, h.size, fun k hk => h.block k (by omega) (fun hs => by have := hS k hs; omega)⟩

/-- a list of numbers, all m, in a block of X -/
def OkRow (w : World) (X : Nat → Prop) (u : Value) (m : Int) : Prop :=
  ∃ (a : Option Addr) (k c b : Nat), u = .slice a k c ∧ k ≤ 4000000 ∧ (0 < k → a = some ⟨b, 0, none⟩ ∧ X b) ∧ ∀ j, j < k → w.cell? ⟨b, j, none⟩ = some (.int .i64 m)
/-- a list of lists, each the one number m -/
def OkMany (w : World) (X : Nat → Prop) (v : Value) (m : Int) : Prop :=
  ∃ (a : Option Addr) (k c b : Nat), v = .slice a k c ∧ k ≤ 4000000 ∧ (0 < k → a = some ⟨b, 0, none⟩ ∧ X b) ∧
    ∀ j, j < k → ∃ g cc, w.cell? ⟨b, j, none⟩ = some (.slice (some ⟨g, 0, none⟩) 1 cc) ∧ X g ∧ w.cell? ⟨g, 0, none⟩ = some (.int .i64 m)
theorem okRow_nil (w : World) (X : Nat → Prop) (m : Int) : OkRow w X (.slice none 0 0) m := ⟨none, 0, 0, 0, rfl, by omega, fun h => by omega, fun j h => by omega⟩
theorem okMany_nil (w : World) (X : Nat → Prop) (m : Int) : OkMany w X (.slice none 0 0) m := ⟨none, 0, 0, 0, rfl, by omega, fun h => by omega, fun j h => by omega⟩

def Keeps (w w' : World) (X X' : Nat → Prop) : Prop := ∀ b, X b → b < w.heap.size → w'.heap[b]? = w.heap[b]? ∧ X' b
theorem Keeps.cell {w w' : World} {X X' : Nat → Prop} (h : Keeps w w' X X') {b j : Nat} {v : Value} (hX : X b) (hc : w.cell? ⟨b, j, none⟩ = some v) : w'.cell? ⟨b, j, none⟩ = some v ∧ X' b := by
  have := h b hX (block_lt_of_cell hc)
  exact ⟨by rw [World.cell?_of_block (w := w) (a := ⟨b, j, none⟩) this.1]; exact hc, this.2⟩
theorem OkRow.keep {w w' : World} {X X' : Nat → Prop} {u : Value} {m : Int} (h : OkRow w X u m) (hk : Keeps w w' X X') : OkRow w' X' u m := by
  obtain ⟨a, k, c, b, h1, h2, h3, h4⟩ := h
  refine ⟨a, k, c, b, h1, h2, fun h0 => ⟨(h3 h0).1, (hk.cell (h3 h0).2 (h4 0 h0)).2⟩, fun j hj => (hk.cell (h3 (by omega)).2 (h4 j hj)).1⟩
theorem OkMany.keep {w w' : World} {X X' : Nat → Prop} {u : Value} {m : Int} (h : OkMany w X u m) (hk : Keeps w w' X X') : OkMany w' X' u m := by
  obtain ⟨a, k, c, b, h1, h2, h3, h4⟩ := h
  refine ⟨a, k, c, b, h1, h2, fun h0 => ?_, fun j hj => ?_⟩
  · obtain ⟨g, cc, q1, q2, q3⟩ := h4 0 h0
    exact ⟨(h3 h0).1, (hk.cell (h3 h0).2 q1).2⟩
  · obtain ⟨g, cc, q1, q2, q3⟩ := h4 j hj
    exact ⟨g, cc, (hk.cell (h3 (by omega)).2 q1).1, (hk.cell q2 q3).2, (hk.cell q2 q3).1⟩

/-- an entry: its mark's number, the list, the list of lists -/
abbrev Ent : Type := Nat × Value × Value
def entCells (e : Ent) : List Value := [.int .i64 e.1, e.2.1, e.2.2, .slice none 0 0]
def OkEnt (w : World) (X : Nat → Prop) (e : Ent) : Prop := e.1 ≤ 4000000 ∧ OkRow w X e.2.1 (mkv e.1) ∧ OkMany w X e.2.2 (mkv e.1)
theorem OkEnt.keep {w w' : World} {X X' : Nat → Prop} {e : Ent} (h : OkEnt w X e) (hk : Keeps w w' X X') : OkEnt w' X' e := ⟨h.1, h.2.1.keep hk, h.2.2.keep hk⟩

/-- the blocks that the entries may lead to -/
def Fr (H : Nat) (kv : Value) (R : Nat → Prop) (b : Nat) : Prop := b ≠ H ∧ some b ≠ kv.ownBlock ∧ ¬ R b

structure Hold (w : World) (H N : Nat) (kv : Value) (es : List Ent) (R : Nat → Prop) : Prop where
  c0 : w.cell? ⟨H, 0, none⟩ = some (.int .i64 N)
  fz : ∀ j, w.frozen? ⟨H, j, none⟩ = false
  c1 : w.cell? ⟨H, 1, none⟩ = some kv
  own : w.ownsRow (H + 1) 102 4 kv es.length (es.flatMap entCells)
  ok : ∀ e ∈ es, OkEnt w (Fr H kv R) e
  len : es.length ≤ 4 * N

theorem Hold.lt {w : World} {H N : Nat} {kv : Value} {es : List Ent} {R : Nat → Prop} (h : Hold w H N kv es R) : H < w.heap.size := block_lt_of_cell h.c0
theorem Hold.rowNe {w : World} {H N : Nat} {kv : Value} {es : List Ent} {R : Nat → Prop} (h : Hold w H N kv es R) : ∀ g, kv.ownBlock = some g → H < g ∧ g < w.heap.size := fun g hg => by
  have := h.own.lt g hg; omega

/-- nothing of the hold has turned -/
theorem Hold.keep {w w' : World} {H N : Nat} {kv : Value} {es : List Ent} {R R' : Nat → Prop} {S : Nat → Prop} (h : Hold w H N kv es R) (hc : Chg w w' S) (hH : ¬ S H) (hS : ∀ k, S k → some k ≠ kv.ownBlock ∧ R k) (hR : ∀ k, R' k → k < w.heap.size → R k) : Hold w' H N kv es R' := by
  have bH := hc.block H h.lt hH
  refine ⟨?_, fun j => ?_, ?_, ?_, fun e he => (h.ok e he).keep fun b hb hlt => ⟨hc.block b hlt (fun hs => hb.2.2 (hS b hs).2), hb.1, hb.2.1, fun hr => hb.2.2 (hR b hr hlt)⟩, h.len⟩
  · rw [World.cell?_of_block (w := w) (a := ⟨H, 0, none⟩) bH]; exact h.c0
  · rw [World.frozen?_of_block (w := w) (a := ⟨H, j, none⟩) bH]; exact h.fz j
  · rw [World.cell?_of_block (w := w) (a := ⟨H, 1, none⟩) bH]; exact h.c1
  · obtain ⟨hl, hh⟩ := h.own
    refine ⟨hl, ?_⟩
    rcases hh with hh | ⟨g, cap, cur, e1, e2, e3, e4⟩
    · exact .inl hh
    · refine .inr ⟨g, cap, cur, e1, e2, ?_, e4⟩
      have hlt := (h.own.lt g (by rw [e1]; rfl)).2
      rw [hc.block g hlt (fun hs => (hS g hs).1 (by rw [e1]; rfl))]; exact e3
theorem Hold.later {w w' : World} {H N : Nat} {kv : Value} {es : List Ent} {R : Nat → Prop} (h : Hold w H N kv es R) (hb : Below w.heap.size w w') : Hold w' H N kv es R :=
  h.keep (S := fun _ => False) (Chg.of_below hb) (fun h => h) (fun k h => h.elim) (fun k h _ => h)
/-- into a list that is not held yet -/
theorem Hold.put {w : World} {H N : Nat} {kv : Value} {es : List Ent} {R : Nat → Prop} (h : Hold w H N kv es R) {b : Nat} (hb : b ≠ H) (hk : some b ≠ kv.ownBlock) (hR : R b) (j : Nat) (v : Value) : Hold (w.setCell ⟨b, j, none⟩ v) H N kv es R :=
  h.keep (S := fun k => k = b) (Chg.setCell w _ v rfl) (fun e => hb e.symm) (fun k e => by subst e; exact ⟨hk, hR⟩) (fun k h _ => h)
/-- the counter -/
theorem Hold.count {w : World} {H N : Nat} {kv : Value} {es : List Ent} {R : Nat → Prop} (h : Hold w H N kv es R) (N' : Nat) (hN : N ≤ N') : Hold (w.setCell ⟨H, 0, none⟩ (.int .i64 N')) H N' kv es R := by
  have hc : Chg w (w.setCell ⟨H, 0, none⟩ (.int .i64 N')) (fun k => k = H) := Chg.setCell w _ _ rfl
  have hn : ∀ g, kv.ownBlock = some g → g ≠ H := fun g hg => by have := h.rowNe g hg; omega
  refine ⟨?_, fun j => ?_, ?_, ?_, fun e he => (h.ok e he).keep fun b hb hlt => ⟨hc.block b hlt hb.1, hb⟩, by have := h.len; omega⟩
  · exact World.cell?_setCell_same _ _ _ h.c0
  · rw [World.frozen?_setCell]; exact h.fz j
  · rw [World.cell?_setCell_other _ _ _ _ (by simp)]; exact h.c1
  · refine h.own.kept (row := some H) ⟨rfl, rfl, rfl, by simp [World.setCell], fun k hk hne => hc.block k hk (fun e => hne (by rw [e]))⟩ ?_
    cases hv : kv.ownBlock with
    | none => exact .inl rfl
    | some g => exact .inr (by simp; exact hn g hv)

theorem own_shape4 {w : World} {B s : Nat} {v : Value} {n : Nat} {xs : List Value} {t : TypeId} (h : w.ownsRow B t s v n xs) : ∃ a c, v = .slice a n c := by
  rcases h.2 with ⟨rfl, h0⟩ | ⟨g, cap, cur, rfl, _⟩
  · exact ⟨none, 0, by rw [h0]⟩
  · exact ⟨_, cap, rfl⟩

/-- more entries -/
theorem Hold.push {w wd : World} {H N : Nat} {kv kv' : Value} {es news : List Ent} {R R' : Nat → Prop} {o : Obj} (h : Hold w H N kv es R) (hgrow : (w.alloc o).grownBy wd kv.ownBlock)
    (hown : wd.ownsRow (H + 1) 102 4 kv' (es ++ news).length ((es ++ news).flatMap entCells)) (hat : kv'.ownBlock = kv.ownBlock ∨ kv'.ownBlock = some (w.heap.size + 1))
    (hnews : ∀ e ∈ news, OkEnt w (Fr H kv R') e) (hR : ∀ c, R' c → R c) (hlen : (es ++ news).length ≤ 4 * N) : Hold (wd.setCell ⟨H, 1, none⟩ kv') H N kv' (es ++ news) R' := by
  have hlt := h.lt
  have hHk : some H ≠ kv.ownBlock := fun e => by have := h.rowNe H e.symm; omega
  have hHk' : some H ≠ kv'.ownBlock := fun e => by
    rcases hat with e2 | e2
    · rw [e2] at e; exact hHk e
    · rw [e2] at e; simp at e; omega
  have bk : ∀ b, b < w.heap.size → some b ≠ kv.ownBlock → wd.heap[b]? = w.heap[b]? := fun b hb hne => by
    rw [hgrow.block b (by simp; omega) hne]
    exact Below.heap_alloc _ _ _ hb
  have bk2 : ∀ b, b < w.heap.size → some b ≠ kv.ownBlock → b ≠ H → (wd.setCell ⟨H, 1, none⟩ kv').heap[b]? = w.heap[b]? := fun b hb hne hH => by
    rw [Below.heap_setCell _ _ _ _ hH]; exact bk b hb hne
  have fr : ∀ {X : Nat → Prop} b, Fr H kv X b → b < w.heap.size → some b ≠ kv'.ownBlock := fun b hb hlt' e => by
    rcases hat with e2 | e2
    · rw [e2] at e; exact hb.2.1 e
    · rw [e2] at e; simp at e; omega
  have bH := bk H hlt hHk
  have d0 : wd.cell? ⟨H, 0, none⟩ = some (.int .i64 N) := by rw [World.cell?_of_block (w := w) (a := ⟨H, 0, none⟩) bH]; exact h.c0
  have d1 : wd.cell? ⟨H, 1, none⟩ = some kv := by rw [World.cell?_of_block (w := w) (a := ⟨H, 1, none⟩) bH]; exact h.c1
  refine ⟨?_, fun j => ?_, World.cell?_setCell_same _ _ _ d1, ?_, fun e he => ?_, hlen⟩
  · rw [World.cell?_setCell_other _ _ _ _ (by simp)]; exact d0
  · rw [World.frozen?_setCell, World.frozen?_of_block (w := w) (a := ⟨H, j, none⟩) bH]; exact h.fz j
  · refine hown.kept (row := some H) ⟨rfl, rfl, rfl, by simp [World.setCell], fun k hk hne => Below.heap_setCell _ _ _ _ (fun e => hne (by rw [e]))⟩ ?_
    cases hv : kv'.ownBlock with
    | none => exact .inl rfl
    | some g => exact .inr (fun e => hHk' (by rw [hv]; exact e.symm))
  · rcases List.mem_append.1 he with he | he
    · exact (h.ok e he).keep fun b hb hlt' => ⟨bk2 b hlt' hb.2.1 hb.1, hb.1, fr b hb hlt', fun hr => hb.2.2 (hR b hr)⟩
    · exact (hnews e he).keep fun b hb hlt' => ⟨bk2 b hlt' hb.2.1 hb.1, hb.1, fr b hb hlt', hb.2.2⟩
end Rd
end Go.Proofs.YtceahffmenbibaaGreatDoor
