/- The program's store: what lies where. -/
import Derived.Test.YtceahffmenbibaaGreatDoorPmap
import Derived.Test.YtceahffmenbibaaGreatDoorCapp
import Derived.Test.YtceahffmenbibaaGreatDoorCref5
import Derived.Deep.RegionLaw
import Derived.Deep.RegionHeld3
namespace Go.Proofs.YtceahffmenbibaaGreatDoor
namespace Rd
open Go Go.RowKit Go.Deep
set_option linter.unusedVariables false
set_option linter.unusedSimpArgs false

structure Ent where
  set : Key
  watched : Key
  times : Nat
def entV (e : Ent) : List Value := [.int .u64 (e.set.1 : Int), .int .u64 (e.set.2 : Int), .int .u64 (e.watched.1 : Int), .int .u64 (e.watched.2 : Int), .int .i64 (e.times : Int)]
def entsV (es : List Ent) : List Value := es.flatMap entV
def natsV (xs : List Nat) : List Value := xs.map fun (n : Nat) => Value.int .i64 (n : Int)
def stoF (cv : Value) (mb : Nat) (gone : Int) (u : Key) (wv : Nat → Value) : Nat → Value
  | 0 => cv
  | 1 => .map (some mb)
  | 2 => .int .i64 gone
  | 3 => .int .u64 (u.1 : Int)
  | 4 => .int .u64 (u.2 : Int)
  | k + 5 => wv k
/-- where a set lies -/
def look (es : List Ent) (s : Key) : Option Nat := es.findIdx? (fun e => decide (e.set = s))
theorem entsV_len (es : List Ent) : (entsV es).length = es.length * 5 := by
  unfold entsV
  induction es with
  | nil => rfl
  | cons a r ih => rw [List.flatMap_cons, List.length_append, ih]; simp [entV]; omega
theorem entsV_get (es : List Ent) (i : Nat) (hi : i < es.length) (j : Nat) (hj : j < 5) : (entsV es)[i * 5 + j]? = (entV es[i])[j]? := by
  induction es generalizing i with
  | nil => simp at hi
  | cons a r ih =>
    have e : entsV (a :: r) = entV a ++ entsV r := rfl
    have l5 : (entV a).length = 5 := rfl
    rw [e]
    cases i with
    | zero => rw [List.getElem?_append_left (by omega)]; simp
    | succ i =>
      rw [List.getElem?_append_right (by omega), l5, show (i + 1) * 5 + j - 5 = i * 5 + j by omega]
      exact ih i (by simpa using hi)
theorem entsV_snoc (es : List Ent) (e : Ent) : entsV (es ++ [e]) = entsV es ++ entV e := by unfold entsV; rw [List.flatMap_append]; simp

structure Sto (B sb : Nat) (w : World) (cv : Value) (mb : Nat) (gone : Int) (u : Key) (wv : Nat → Value) (es : List Ent) (wl : Nat → List Nat) : Prop where
  row : w.rowIs sb 134 133 (stoF cv mb gone u wv)
  cls : w.ownsRow B 180 5 cv es.length (entsV es)
  map : MapIs w mb es.length (look es)
  wat : ∀ k, k < 128 → w.ownsRow B 3 1 (wv k) (wl k).length (natsV (wl k))
  apart : ∀ k k', k < 128 → k' < 128 → k ≠ k' → (wv k).ownBlock = none ∨ (wv k).ownBlock ≠ (wv k').ownBlock
  bsb : B ≤ sb
  bmb : B ≤ mb
variable {B sb mb : Nat} {w w' : World} {cv : Value} {gone : Int} {u : Key} {wv : Nat → Value} {es : List Ent} {wl : Nat → List Nat}

theorem Sto.later (h : Sto B sb w cv mb gone u wv es wl) (hb : Below w.heap.size w w') : Sto B sb w' cv mb gone u wv es wl where
  row := h.row.of_block (hb.block _ h.row.lt)
  cls := owns_later h.cls hb
  map := h.map.kept (hb.block _ h.map.lt)
  wat := fun k hk => owns_later (h.wat k hk) hb
  apart := h.apart
  bsb := h.bsb
  bmb := h.bmb
theorem Sto.bsize (h : Sto B sb w cv mb gone u wv es wl) : B ≤ w.heap.size := by have := h.row.lt; have := h.bsb; omega
/-- the clauses' block, and its cells -/
theorem Sto.ents (h : Sto B sb w cv mb gone u wv es wl) (i : Nat) (hi : i < es.length) : ∃ cb cap, cv = .slice (some ⟨cb, 0, none⟩) es.length cap ∧ B ≤ cb ∧ cb < w.heap.size ∧ cb ≠ sb ∧ es.length ≤ cap ∧ ∀ j, j < 5 → w.cell? ⟨cb, i * 5 + j, none⟩ = (entV es[i])[j]? ∧ w.frozen? ⟨cb, i * 5 + j, none⟩ = false := by
  have hc := h.cls
  rcases h.cls.2 with ⟨_, h0⟩ | ⟨g, cap, cur, e, hbg, hg, hn, _⟩
  · omega
  · refine ⟨g, cap, e, hbg, (hc.lt g (by rw [e]; rfl)).2, ?_, hn, fun j hj => ?_⟩
    · intro eg
      obtain ⟨c, hr, _⟩ := h.row
      rw [← eg, hg] at hr
      cases hr
    · rw [e] at hc
      refine ⟨?_, hc.frozenAt _⟩
      rw [hc.cellAt (i * 5 + j) (by have : i + 1 ≤ es.length := hi; have := Nat.mul_le_mul_right 5 this; omega), entsV_get es i hi j hj]
theorem Sto.head (h : Sto B sb w cv mb gone u wv es wl) (j : Nat) (hj : j < 133) : w.cell? ⟨sb, j, none⟩ = some (stoF cv mb gone u wv j) ∧ w.frozen? ⟨sb, j, none⟩ = false := ⟨h.row.cell hj, h.row.frozen j⟩

def withW (es : List Ent) (i : Nat) (k : Key) : List Ent := es.modify i (fun e => { e with watched := k })
def withT (es : List Ent) (i : Nat) (n : Nat) : List Ent := es.modify i (fun e => { e with times := n })
theorem entsV_cons (a : Ent) (r : List Ent) : entsV (a :: r) = entV a ++ entsV r := rfl
theorem entsV_withW (es : List Ent) (i : Nat) (hi : i < es.length) (k : Key) : entsV (withW es i k) = ((entsV es).set (i * 5 + 2) (.int .u64 (k.1 : Int))).set (i * 5 + 3) (.int .u64 (k.2 : Int)) := by
  unfold withW
  induction es generalizing i with
  | nil => simp at hi
  | cons a r ih =>
    cases i with
    | zero => rfl
    | succ i =>
      have l5 : (entV a).length = 5 := rfl
      rw [List.modify_succ_cons, entsV_cons, entsV_cons, ih i (by simpa using hi), List.set_append_right _ _ (by rw [l5]; omega), List.set_append_right _ _ (by rw [l5]; omega), l5]
      congr 2
      · congr 1; omega
      · omega
theorem entsV_withT (es : List Ent) (i : Nat) (hi : i < es.length) (n : Nat) : entsV (withT es i n) = (entsV es).set (i * 5 + 4) (.int .i64 (n : Int)) := by
  unfold withT
  induction es generalizing i with
  | nil => simp at hi
  | cons a r ih =>
    cases i with
    | zero => rfl
    | succ i =>
      have l5 : (entV a).length = 5 := rfl
      rw [List.modify_succ_cons, entsV_cons, entsV_cons, ih i (by simpa using hi), List.set_append_right _ _ (by rw [l5]; omega), l5]
      congr 2
      omega
theorem withW_len (es : List Ent) (i : Nat) (k : Key) : (withW es i k).length = es.length := by unfold withW; simp
theorem withT_len (es : List Ent) (i : Nat) (n : Nat) : (withT es i n).length = es.length := by unfold withT; simp
theorem withW_sets (es : List Ent) (i : Nat) (k : Key) : (withW es i k).map Ent.set = es.map Ent.set := by
  unfold withW
  refine List.ext_getElem? fun j => ?_
  rw [List.getElem?_map, List.getElem?_map, List.getElem?_modify]
  split
  · rename_i h; subst h; cases es[i]? <;> rfl
  · simp
theorem withT_sets (es : List Ent) (i : Nat) (n : Nat) : (withT es i n).map Ent.set = es.map Ent.set := by
  unfold withT
  refine List.ext_getElem? fun j => ?_
  rw [List.getElem?_map, List.getElem?_map, List.getElem?_modify]
  split
  · rename_i h; subst h; cases es[i]? <;> rfl
  · simp
theorem look_sets {es es' : List Ent} (h : es'.map Ent.set = es.map Ent.set) (s : Key) : look es' s = look es s := by
  have key : ∀ l : List Ent, look l s = (l.map Ent.set).findIdx? (fun k => decide (k = s)) := fun l => by
    unfold look; rw [List.findIdx?_map]; rfl
  rw [key, key, h]

/-- a store into the clauses -/
theorem Sto.intoCls {cb cap : Nat} {es' : List Ent} {ws : World} (h : Sto B sb w cv mb gone u wv es wl) (hcv : cv = .slice (some ⟨cb, 0, none⟩) es.length cap) (hlen : es'.length = es.length) (hsets : es'.map Ent.set = es.map Ent.set)
    (hown : ws.ownsRow B 180 5 cv es.length (entsV es')) (hblk : ∀ k, k ≠ cb → ws.heap[k]? = w.heap[k]?) : Sto B sb ws cv mb gone u wv es' wl := by
  obtain ⟨cur, hcb⟩ : ∃ cur, w.heap[cb]? = some (.cells cur 180 (0, 0)) := by
    rcases h.cls.2 with ⟨e, _⟩ | ⟨g, cap', cur, e, _, hg, _⟩
    · rw [hcv] at e; cases e
    · rw [hcv] at e; cases e; exact ⟨cur, hg⟩
  have nsb : sb ≠ cb := fun e => by
    obtain ⟨c, hr, _⟩ := h.row
    rw [e, hcb] at hr; cases hr
  have nmb : mb ≠ cb := fun e => h.map.not_cells (by rw [e]; exact hcb)
  exact {
    row := h.row.of_block (hblk _ nsb)
    cls := by rw [hlen]; exact hown
    map := by rw [hlen]; exact (h.map.kept (hblk _ nmb)).congr fun s _ => (look_sets hsets s).symm
    wat := fun k hk => by
      have hk' := h.wat k hk
      refine ⟨hk'.1, ?_⟩
      rcases hk'.2 with e | ⟨g, cap', cur', e, hb, hg, r⟩
      · exact .inl e
      · refine .inr ⟨g, cap', cur', e, hb, ?_, r⟩
        rw [hblk g (fun e2 => by rw [e2, hcb] at hg; cases hg)]; exact hg
    apart := h.apart
    bsb := h.bsb
    bmb := h.bmb }
/-- a store into the store's own cells, but the lists -/
theorem Sto.gone' (h : Sto B sb w cv mb gone u wv es wl) (g : Int) : Sto B sb (w.setCell ⟨sb, 2, none⟩ (.int .i64 g)) cv mb g u wv es wl where
  row := (h.row.set 2 _).congr fun i hi => by
    match i with
    | 0 => rfl
    | 1 => rfl
    | 2 => rfl
    | 3 => rfl
    | 4 => rfl
    | k + 5 => simp [stoF]
  cls := ownsRow_setCell_other h.cls (fun e => by
    rcases h.cls.2 with ⟨e2, _⟩ | ⟨g', cap', cur, e2, _, hg, _⟩
    · rw [e2] at e; cases e
    · rw [e2] at e; cases e
      obtain ⟨c, hr, _⟩ := h.row
      rw [hg] at hr; cases hr) _
  map := h.map.kept (Below.heap_setCell _ _ _ _ (fun e => by
    obtain ⟨c, hr, _⟩ := h.row
    exact h.map.not_cells (by rw [e]; exact hr)))
  wat := fun k hk => ownsRow_setCell_other (h.wat k hk) (fun e => by
    rcases (h.wat k hk).2 with ⟨e2, _⟩ | ⟨g', cap', cur, e2, _, hg, _⟩
    · rw [e2] at e; cases e
    · rw [e2] at e; cases e
      obtain ⟨c, hr, _⟩ := h.row
      rw [hg] at hr; cases hr) _
  apart := h.apart
  bsb := h.bsb
  bmb := h.bmb
theorem Sto.far_sb (h : Sto B sb w cv mb gone u wv es wl) : mb ≠ sb ∧ (∀ g, cv.ownBlock = some g → g ≠ sb) ∧ ∀ k, k < 128 → ∀ g, (wv k).ownBlock = some g → g ≠ sb := by
  obtain ⟨c, hr, _⟩ := h.row
  refine ⟨fun e => h.map.not_cells (by rw [e]; exact hr), fun g hg e => ?_, fun k hk g hg e => ?_⟩
  · rcases h.cls.2 with ⟨e2, _⟩ | ⟨g', cap', cur, e2, _, hg', _⟩
    · rw [e2] at hg; cases hg
    · rw [e2] at hg; cases hg; simp only at e; rw [e, hr] at hg'; cases hg'
  · rcases (h.wat k hk).2 with ⟨e2, _⟩ | ⟨g', cap', cur, e2, _, hg', _⟩
    · rw [e2] at hg; cases hg
    · rw [e2] at hg; cases hg; simp only at e; rw [e, hr] at hg'; cases hg'
theorem owns_block {w w' : World} {B e size n : Nat} {v : Value} {xs : List Value} (h : w.ownsRow B e size v n xs) (hb : ∀ g, v.ownBlock = some g → w'.heap[g]? = w.heap[g]?) : w'.ownsRow B e size v n xs := by
  refine ⟨h.1, ?_⟩
  rcases h.2 with e | ⟨g, cap, cur, e, h1, h2, r⟩
  · exact .inl e
  · exact .inr ⟨g, cap, cur, e, h1, by rw [hb g (by rw [e]; rfl)]; exact h2, r⟩
/-- the store's own cells anew -/
theorem Sto.reRow {ws : World} {g' : Int} {u' : Key} (h : Sto B sb w cv mb gone u wv es wl) (hrow : ws.rowIs sb 134 133 (stoF cv mb g' u' wv)) (hblk : ∀ k, k ≠ sb → ws.heap[k]? = w.heap[k]?) : Sto B sb ws cv mb g' u' wv es wl where
  row := hrow
  cls := owns_block h.cls fun g hg => hblk g (h.far_sb.2.1 g hg)
  map := h.map.kept (hblk _ h.far_sb.1)
  wat := fun k hk => owns_block (h.wat k hk) fun g hg => hblk g (h.far_sb.2.2 k hk g hg)
  apart := h.apart
  bsb := h.bsb
  bmb := h.bmb
/-- one more in a list: behind the append, and the store of its header -/
theorem Sto.pushW {w6 : World} {ob : Obj} {v' : Value} {p at' : Nat} (h : Sto B sb w cv mb gone u wv es wl) (hp : p < 128) (A : Appended (w.alloc ob) B 3 1 (wv p) (wl p).length (natsV (wl p)) 1 [.int .i64 (at' : Int)] v' w6) :
    Sto B sb (w6.setCell ⟨sb, 5 + p, none⟩ v') cv mb gone u (fun k => if k = p then v' else wv k) es (fun k => if k = p then wl p ++ [at'] else wl k) := by
  have h' := h.later ((Below.refl _ _).alloc (Nat.le_refl _) ob)
  have far : ∀ k, k < (w.alloc ob).heap.size → some k ≠ (wv p).ownBlock → w6.heap[k]? = (w.alloc ob).heap[k]? := A.grew.block
  have pint : ∀ g, (wv p).ownBlock = some g → ∃ cur, (w.alloc ob).heap[g]? = some (.cells cur 3 (0, 0)) := fun g hg => by
    rcases (h'.wat p hp).2 with ⟨e2, _⟩ | ⟨g', cap', cur, e2, _, hg', _⟩
    · rw [e2] at hg; cases hg
    · rw [e2] at hg; cases hg; exact ⟨cur, hg'⟩
  have row6 : w6.rowIs sb 134 133 (stoF cv mb gone u wv) := h'.row.of_block (far _ h'.row.lt (fun e => (h'.far_sb.2.2 p hp sb e.symm) rfl))
  have vne : ∀ g, v'.ownBlock = some g → g ≠ sb := fun g hg e => by
    rcases A.at' with e2 | e2
    · rw [e2] at hg; exact h'.far_sb.2.2 p hp g hg e
    · rw [e2] at hg; cases hg; have := h'.row.lt; omega
  have hcls : ∀ g, cv.ownBlock = some g → some g ≠ (wv p).ownBlock := fun g hg e => by
    obtain ⟨cur, hc⟩ := pint g e.symm
    rcases h'.cls.2 with ⟨e2, _⟩ | ⟨g', cap', cur', e2, _, hg', _⟩
    · rw [e2] at hg; cases hg
    · rw [e2] at hg; cases hg; rw [hc] at hg'; cases hg'
  have hmap : some mb ≠ (wv p).ownBlock := fun e => by
    obtain ⟨cur, hc⟩ := pint mb e.symm
    exact h'.map.not_cells hc
  exact {
    row := (row6.set (5 + p) _).congr fun i hi => by
      match i with
      | 0 => rw [if_neg (by omega)]; rfl
      | 1 => rw [if_neg (by omega)]; rfl
      | 2 => rw [if_neg (by omega)]; rfl
      | 3 => rw [if_neg (by omega)]; rfl
      | 4 => rw [if_neg (by omega)]; rfl
      | k + 5 =>
        by_cases e : k = p
        · subst e; simp [stoF, Nat.add_comm]
        · have : ¬ (k + 5 = 5 + p) := by omega
          simp [stoF, this, e]
    cls := ownsRow_setCell_other (owns_block h'.cls fun g hg => far g (h'.cls.lt g hg).2 (hcls g hg)) (fun e => h'.far_sb.2.1 sb e rfl) _
    map := (h'.map.kept (far _ h'.map.lt hmap)).kept (Below.heap_setCell _ _ _ _ h'.far_sb.1)
    wat := fun k hk => by
      by_cases e : k = p
      · subst e
        simp only [if_true]
        have := ownsRow_setCell_other A.own (a := ⟨sb, 5 + k, none⟩) (fun e => vne sb e rfl) v'
        unfold natsV at *
        rw [List.map_append, List.length_append]; exact this
      · simp only [e, if_false]
        refine ownsRow_setCell_other (owns_block (h'.wat k hk) fun g hg => far g ((h'.wat k hk).lt g hg).2 (fun e2 => ?_)) (fun e => h'.far_sb.2.2 k hk sb e rfl) _
        rcases h.apart k p hk hp e with e3 | e3
        · rw [e3] at hg; cases hg
        · exact e3 (by rw [hg, e2])
    apart := fun k k' hk hk' hne => by
      by_cases e : k = p
      · by_cases e' : k' = p
        · exact absurd (by rw [e, e']) hne
        · simp only [e, e', if_true, if_false]
          rcases A.at' with e2 | e2
          · rw [e2]; exact h.apart p k' hp hk' (fun x => e' x.symm)
          · right; rw [e2]; intro e3
            have := ((h'.wat k' hk').lt _ e3.symm).2
            omega
      · by_cases e' : k' = p
        · simp only [e, e', if_true, if_false]
          rcases A.at' with e2 | e2
          · rw [e2]; exact h.apart k p hk hp e
          · cases hg : (wv k).ownBlock with
            | none => exact .inl rfl
            | some g =>
              right; rw [e2]; intro e3
              have := ((h'.wat k hk).lt _ hg).2
              cases e3; omega
        · simp only [e, e', if_false]
          exact h.apart k k' hk hk' hne
    bsb := h.bsb
    bmb := h.bmb }
/-- new watched literals -/
theorem Sto.setW {cb cap i : Nat} (h : Sto B sb w (.slice (some ⟨cb, 0, none⟩) es.length cap) mb gone u wv es wl) (hi : i < es.length) (k : Key) :
    Sto B sb ((w.setCell ⟨cb, i * 5 + 2, none⟩ (.int .u64 (k.1 : Int))).setCell ⟨cb, i * 5 + 2 + 1, none⟩ (.int .u64 (k.2 : Int))) (.slice (some ⟨cb, 0, none⟩) es.length cap) mb gone u wv (withW es i k) wl := by
  refine h.intoCls rfl (withW_len es i k) (withW_sets es i k) ?_ (fun j hj => ?_)
  · rw [entsV_withW es i hi k]
    exact ((h.cls.stored (i * 5 + 2) _).1.stored (i * 5 + 3) _).1
  · rw [Below.heap_setCell _ _ _ _ hj, Below.heap_setCell _ _ _ _ hj]
theorem Sto.setT {cb cap i : Nat} (h : Sto B sb w (.slice (some ⟨cb, 0, none⟩) es.length cap) mb gone u wv es wl) (hi : i < es.length) (n : Nat) :
    Sto B sb (w.setCell ⟨cb, i * 5 + 4, none⟩ (.int .i64 (n : Int))) (.slice (some ⟨cb, 0, none⟩) es.length cap) mb gone u wv (withT es i n) wl := by
  refine h.intoCls rfl (withT_len es i n) (withT_sets es i n) ?_ (fun j hj => ?_)
  · rw [entsV_withT es i hi n]
    exact (h.cls.stored (i * 5 + 4) _).1
  · rw [Below.heap_setCell _ _ _ _ hj]
theorem Sto.headApp {w6 : World} {ob : Obj} {v' : Value} {p at' : Nat} (h : Sto B sb w cv mb gone u wv es wl) (hp : p < 128) (A : Appended (w.alloc ob) B 3 1 (wv p) (wl p).length (natsV (wl p)) 1 [.int .i64 (at' : Int)] v' w6) (j : Nat) (hj : j < 133) :
    w6.cell? ⟨sb, j, none⟩ = some (stoF cv mb gone u wv j) ∧ w6.frozen? ⟨sb, j, none⟩ = false := by
  have h' := h.later ((Below.refl _ _).alloc (Nat.le_refl _) ob)
  have row6 : w6.rowIs sb 134 133 (stoF cv mb gone u wv) := h'.row.of_block (A.grew.block _ h'.row.lt (fun e => (h'.far_sb.2.2 p hp sb e.symm) rfl))
  exact ⟨row6.cell hj, row6.frozen j⟩
theorem Sto.belowApp {w0 w6 : World} {ob : Obj} {v' : Value} {p at' : Nat} (h : Sto B sb w cv mb gone u wv es wl) (hp : p < 128) (A : Appended (w.alloc ob) B 3 1 (wv p) (wl p).length (natsV (wl p)) 1 [.int .i64 (at' : Int)] v' w6) (hb : Below B w0 w) (x : Value) (j : Nat) :
    Below B w0 (w6.setCell ⟨sb, j, none⟩ x) :=
  ((hb.alloc h.bsize ob).grown A.grew (by have := h.bsize; simp; omega) (fun k hk => ((h.wat p hp).lt k hk).1)).setCell h.bsb _
theorem look_snoc (es : List Ent) (e : Ent) (h : look es e.set = none) (s : Key) : look (es ++ [e]) s = if s = e.set then some es.length else look es s := by
  unfold look at *
  rw [List.findIdx?_append]
  by_cases hs : s = e.set
  · subst hs
    rw [h, if_pos rfl]
    simp [List.findIdx?_cons]
  · rw [if_neg hs]
    cases hf : es.findIdx? (fun x => decide (x.set = s)) with
    | some i => rfl
    | none =>
      have : ¬ e.set = s := fun x => hs x.symm
      simp [List.findIdx?_cons, this]
/-- one more clause: behind the map's update, the append, and the store of the header -/
theorem Sto.pushE {w1 w6 : World} {ob : Obj} {cv' : Value} {e : Ent} (h : Sto B sb w cv mb gone u wv es wl) (hn : look es e.set = none) (hg1 : w.grownBy w1 (some mb)) (hm1 : MapIs w1 mb (es.length + 1) (fun s => if s = e.set then some es.length else look es s))
    (A : Appended (w1.alloc ob) B 180 5 cv es.length (entsV es) 1 (entV e) cv' w6) : Sto B sb (w6.setCell ⟨sb, 0, none⟩ cv') cv' mb gone u wv (es ++ [e]) wl := by
  have hs1 := hg1.size
  have f1 : ∀ k, k < w.heap.size → k ≠ mb → (w1.alloc ob).heap[k]? = w.heap[k]? := fun k hk hne => by
    rw [Below.heap_alloc w1 ob k (by omega)]; exact hg1.block k hk (fun e => hne (Option.some.inj e))
  have hmlt := h.map.lt
  have hslt := h.row.lt
  have cvb : ∀ g, cv.ownBlock = some g → g < w.heap.size ∧ ∃ cur, w.heap[g]? = some (.cells cur 180 (0, 0)) := fun g hg => by
    refine ⟨(h.cls.lt g hg).2, ?_⟩
    rcases h.cls.2 with ⟨e2, _⟩ | ⟨g', cap', cur, e2, _, hg', _⟩
    · rw [e2] at hg; cases hg
    · rw [e2] at hg; cases hg; exact ⟨cur, hg'⟩
  have f6 : ∀ k, k < w.heap.size → k ≠ mb → (∀ cur, w.heap[k]? ≠ some (.cells cur 180 (0, 0))) → w6.heap[k]? = w.heap[k]? := fun k hk hne hc => by
    rw [A.grew.block k (by simp; omega) (fun e => by obtain ⟨_, cur, hx⟩ := cvb k e.symm; exact hc cur hx), f1 k hk hne]
  have row6 : w6.rowIs sb 134 133 (stoF cv mb gone u wv) := h.row.of_block (f6 sb hslt (fun e => h.far_sb.1 e.symm) (fun cur hx => by obtain ⟨c, hr, _⟩ := h.row; rw [hx] at hr; cases hr))
  have m6 : w6.heap[mb]? = w1.heap[mb]? := by
    rw [A.grew.block mb (by simp; omega) (fun e => by obtain ⟨_, cur, hx⟩ := cvb mb e.symm; exact h.map.not_cells hx), Below.heap_alloc w1 ob mb (by omega)]
  have vne : ∀ g, cv'.ownBlock = some g → g ≠ sb := fun g hg e => by
    rcases A.at' with e2 | e2
    · rw [e2] at hg; exact h.far_sb.2.1 g hg e
    · rw [e2] at hg; cases hg; simp at e; omega
  exact {
    row := (row6.set 0 _).congr fun i hi => by
      match i with
      | 0 => rfl
      | 1 => rfl
      | 2 => rfl
      | 3 => rfl
      | 4 => rfl
      | k + 5 => simp [stoF]
    cls := by
      have := ownsRow_setCell_other A.own (a := ⟨sb, 0, none⟩) (fun e => vne sb e rfl) cv'
      rw [List.length_append, entsV_snoc]; exact this
    map := by
      rw [List.length_append]
      refine ((hm1.kept m6).kept (Below.heap_setCell _ _ _ _ h.far_sb.1)).congr fun s hs => ?_
      exact (look_snoc es e hn s).symm
    wat := fun k hk => by
      refine ownsRow_setCell_other (owns_block (h.wat k hk) fun g hg => f6 g ((h.wat k hk).lt g hg).2 (fun e => ?_) (fun cur hx => ?_)) (fun e => h.far_sb.2.2 k hk sb e rfl) _
      · rcases (h.wat k hk).2 with ⟨e2, _⟩ | ⟨g', cap', cur, e2, _, hg', _⟩
        · rw [e2] at hg; cases hg
        · rw [e2] at hg; cases hg; exact h.map.not_cells (by rw [← e]; exact hg')
      · rcases (h.wat k hk).2 with ⟨e2, _⟩ | ⟨g', cap', cur, e2, _, hg', _⟩
        · rw [e2] at hg; cases hg
        · rw [e2] at hg; cases hg; simp only at hx; rw [hx] at hg'; cases hg'
    apart := h.apart
    bsb := h.bsb
    bmb := h.bmb }
theorem Sto.headE {w1 w6 : World} {ob : Obj} {cv' : Value} {e : Ent} (h : Sto B sb w cv mb gone u wv es wl) (hg1 : w.grownBy w1 (some mb))
    (A : Appended (w1.alloc ob) B 180 5 cv es.length (entsV es) 1 (entV e) cv' w6) : w6.cell? ⟨sb, 0, none⟩ = some cv ∧ w6.frozen? ⟨sb, 0, none⟩ = false := by
  have hs1 := hg1.size
  have hslt := h.row.lt
  have b6 : w6.heap[sb]? = w.heap[sb]? := by
    rw [A.grew.block sb (by simp; omega) (fun e => h.far_sb.2.1 sb e.symm rfl), Below.heap_alloc w1 ob sb (by omega)]
    exact hg1.block sb hslt (fun e => h.far_sb.1 (Option.some.inj e).symm)
  have := h.row.of_block b6
  exact ⟨this.cell (by omega), this.frozen 0⟩
theorem Sto.belowE {w0 w1 w6 : World} {ob : Obj} {cv' : Value} {e : Ent} (h : Sto B sb w cv mb gone u wv es wl) (hg1 : w.grownBy w1 (some mb))
    (A : Appended (w1.alloc ob) B 180 5 cv es.length (entsV es) 1 (entV e) cv' w6) (hb : Below B w0 w) (x : Value) : Below B w0 (w6.setCell ⟨sb, 0, none⟩ x) := by
  have h1 := h.bsize
  have h2 := hg1.size
  exact (((hb.grown hg1 h1 (fun k hk => by cases hk; exact h.bmb)).alloc (by omega) ob).grown A.grew (by simp; omega) (fun k hk => (h.cls.lt k hk).1)).setCell h.bsb _
/-! ### what the store's functions leave alone -/
/-- a row of another kind than the store's own -/
def Foreign (w : World) (k : Nat) : Prop := ∃ cur t, w.heap[k]? = some (.cells cur t (0, 0)) ∧ t ≠ 134 ∧ t ≠ 180 ∧ t ≠ 3
def Keeps (w w' : World) : Prop := ∀ k, Foreign w k → w'.heap[k]? = w.heap[k]?
theorem Foreign.lt {w : World} {k : Nat} (h : Foreign w k) : k < w.heap.size := by
  obtain ⟨c, t, e, _⟩ := h
  exact (Array.getElem?_eq_some_iff.1 e).1
theorem Keeps.refl (w : World) : Keeps w w := fun _ _ => rfl
theorem Keeps.trans {a b c : World} (h : Keeps a b) (k : Keeps b c) : Keeps a c := fun n hn => by
  have e := h n hn
  rw [k n (by obtain ⟨x, t, e1, e2⟩ := hn; exact ⟨x, t, by rw [e]; exact e1, e2⟩), e]
theorem Keeps.of_below {w w' : World} (h : Below w.heap.size w w') : Keeps w w' := fun k hk => h.block k hk.lt
theorem Keeps.cell {w w' : World} (h : Keeps w w') {b j : Nat} (hb : Foreign w b) : w'.cell? ⟨b, j, none⟩ = w.cell? ⟨b, j, none⟩ := World.cell?_of_block (a := ⟨b, j, none⟩) (h b hb)
theorem Keeps.foreign {w w' : World} (h : Keeps w w') {b : Nat} (hb : Foreign w b) : Foreign w' b := by
  have e := h b hb
  obtain ⟨x, t, e1, e2⟩ := hb
  exact ⟨x, t, by rw [e]; exact e1, e2⟩
theorem Sto.keeps_sb (h : Sto B sb w cv mb gone u wv es wl) (j : Nat) (x : Value) : Keeps w (w.setCell ⟨sb, j, none⟩ x) := fun k hk => Below.heap_setCell _ _ _ _ (fun e => by
  obtain ⟨c, hr, _⟩ := h.row
  obtain ⟨y, t, e1, e2, _⟩ := hk
  rw [e, hr] at e1; cases e1; exact e2 rfl)
theorem Sto.keeps_cb {cb n cap : Nat} (h : Sto B sb w (.slice (some ⟨cb, 0, none⟩) n cap) mb gone u wv es wl) (j : Nat) (x : Value) : Keeps w (w.setCell ⟨cb, j, none⟩ x) := fun k hk => Below.heap_setCell _ _ _ _ (fun e => by
  obtain ⟨y, t, e1, _, e3, _⟩ := hk
  rcases h.cls.2 with ⟨e2, _⟩ | ⟨g', cap', cur, e2, _, hg', _⟩
  · cases e2
  · cases e2; rw [e, hg'] at e1; cases e1; exact e3 rfl)
theorem Sto.keeps_app {w6 : World} {ob : Obj} {v' : Value} {p at' : Nat} (h : Sto B sb w cv mb gone u wv es wl) (hp : p < 128) (A : Appended (w.alloc ob) B 3 1 (wv p) (wl p).length (natsV (wl p)) 1 [.int .i64 (at' : Int)] v' w6) (x : Value) (j : Nat) :
    Keeps w (w6.setCell ⟨sb, j, none⟩ x) := fun k hk => by
  have hlt := hk.lt
  obtain ⟨c, hr, _⟩ := h.row
  have nsb : k ≠ sb := fun e => by obtain ⟨y, t, e1, e2, _⟩ := hk; rw [e, hr] at e1; cases e1; exact e2 rfl
  rw [Below.heap_setCell _ _ _ _ nsb, A.grew.block k (by simp; omega) (fun e => ?_), Below.heap_alloc w ob k hlt]
  obtain ⟨y, t, e1, _, _, e4⟩ := hk
  rcases (h.wat p hp).2 with ⟨e2, _⟩ | ⟨g', cap', cur, e2, _, hg', _⟩
  · rw [e2] at e; cases e
  · rw [e2] at e; cases e; rw [hg'] at e1; cases e1; exact e4 rfl
theorem Sto.keepsE {w1 w6 : World} {ob : Obj} {cv' : Value} {e : Ent} (h : Sto B sb w cv mb gone u wv es wl) (hg1 : w.grownBy w1 (some mb))
    (A : Appended (w1.alloc ob) B 180 5 cv es.length (entsV es) 1 (entV e) cv' w6) (x : Value) : Keeps w (w6.setCell ⟨sb, 0, none⟩ x) := fun k hk => by
  have hlt := hk.lt
  have hs1 := hg1.size
  obtain ⟨c, hr, _⟩ := h.row
  have nsb : k ≠ sb := fun e => by obtain ⟨y, t, e1, e2, _⟩ := hk; rw [e, hr] at e1; cases e1; exact e2 rfl
  have nmb : k ≠ mb := fun e => by obtain ⟨y, t, e1, _⟩ := hk; rw [e] at e1; exact h.map.not_cells e1
  rw [Below.heap_setCell _ _ _ _ nsb, A.grew.block k (by simp; omega) (fun e => ?_), Below.heap_alloc w1 ob k (by omega), hg1.block k hlt (fun e => nmb (Option.some.inj e))]
  obtain ⟨y, t, e1, _, e3, _⟩ := hk
  rcases h.cls.2 with ⟨e2, _⟩ | ⟨g', cap', cur, e2, _, hg', _⟩
  · rw [e2] at e; cases e
  · rw [e2] at e; cases e; rw [hg'] at e1; cases e1; exact e3 rfl
theorem foreign_new (w : World) (c : Array Value) (t : TypeId) (h : t ≠ 134 ∧ t ≠ 180 ∧ t ≠ 3) : Foreign (w.alloc (.cells c t)) w.heap.size := ⟨c, t, heap_alloc_new _ _, h⟩
theorem Sto.keeps_cb2 {cb n cap : Nat} (h : Sto B sb w (.slice (some ⟨cb, 0, none⟩) n cap) mb gone u wv es wl) (j j' : Nat) (x y : Value) : Keeps w ((w.setCell ⟨cb, j, none⟩ x).setCell ⟨cb, j', none⟩ y) := fun k hk => by
  have ne : k ≠ cb := fun e => by
    obtain ⟨y, t, e1, _, e3, _⟩ := hk
    rcases h.cls.2 with ⟨e2, _⟩ | ⟨g', cap', cur, e2, _, hg', _⟩
    · cases e2
    · cases e2; rw [e, hg'] at e1; cases e1; exact e3 rfl
  rw [Below.heap_setCell _ _ _ _ ne, Below.heap_setCell _ _ _ _ ne]
/-! ### clauses that lie elsewhere -/
/-- rows of a clause that are not the store's own stay as they are, and the store does not come to own them -/
def KeepE (cv cv' : Value) (w w' : World) : Prop := ∀ k cur, w.heap[k]? = some (.cells cur 180 (0, 0)) → cv.ownBlock ≠ some k → w'.heap[k]? = w.heap[k]? ∧ cv'.ownBlock ≠ some k
theorem KeepE.trans {c1 c2 c3 : Value} {a b c : World} (h : KeepE c1 c2 a b) (k : KeepE c2 c3 b c) : KeepE c1 c3 a c := fun n cur hn ho => by
  obtain ⟨e1, e2⟩ := h n cur hn ho
  obtain ⟨e3, e4⟩ := k n cur (by rw [e1]; exact hn) e2
  exact ⟨e3.trans e1, e4⟩
theorem KeepE.of_below {cv : Value} {w w' : World} (h : Below w.heap.size w w') : KeepE cv cv w w' := fun k cur hk ho => ⟨h.block k (Array.getElem?_eq_some_iff.1 hk).1, ho⟩
theorem Sto.keepE_cb2 {cb n cap : Nat} (h : Sto B sb w (.slice (some ⟨cb, 0, none⟩) n cap) mb gone u wv es wl) (j j' : Nat) (x y : Value) : KeepE (.slice (some ⟨cb, 0, none⟩) n cap) (.slice (some ⟨cb, 0, none⟩) n cap) w ((w.setCell ⟨cb, j, none⟩ x).setCell ⟨cb, j', none⟩ y) := fun k cur hk ho => by
  have ne : k ≠ cb := fun e => ho (by rw [e]; rfl)
  rw [Below.heap_setCell _ _ _ _ ne, Below.heap_setCell _ _ _ _ ne]
  exact ⟨rfl, ho⟩
theorem Sto.keepE_cb {cb n cap : Nat} (h : Sto B sb w (.slice (some ⟨cb, 0, none⟩) n cap) mb gone u wv es wl) (j : Nat) (x : Value) : KeepE (.slice (some ⟨cb, 0, none⟩) n cap) (.slice (some ⟨cb, 0, none⟩) n cap) w (w.setCell ⟨cb, j, none⟩ x) := fun k cur hk ho => by
  have ne : k ≠ cb := fun e => ho (by rw [e]; rfl)
  rw [Below.heap_setCell _ _ _ _ ne]
  exact ⟨rfl, ho⟩
theorem Sto.keepE_app {w6 : World} {ob : Obj} {v' : Value} {p at' : Nat} (h : Sto B sb w cv mb gone u wv es wl) (hp : p < 128) (A : Appended (w.alloc ob) B 3 1 (wv p) (wl p).length (natsV (wl p)) 1 [.int .i64 (at' : Int)] v' w6) (x : Value) (j : Nat) :
    KeepE cv cv w (w6.setCell ⟨sb, j, none⟩ x) := fun k cur hk ho => by
  have hlt := (Array.getElem?_eq_some_iff.1 hk).1
  obtain ⟨c, hr, _⟩ := h.row
  have nsb : k ≠ sb := fun e => by rw [e, hr] at hk; cases hk
  refine ⟨?_, ho⟩
  rw [Below.heap_setCell _ _ _ _ nsb, A.grew.block k (by simp; omega) (fun e => ?_), Below.heap_alloc w ob k hlt]
  rcases (h.wat p hp).2 with ⟨e2, _⟩ | ⟨g', cap', cur, e2, _, hg', _⟩
  · rw [e2] at e; cases e
  · rw [e2] at e; cases e; rw [hg'] at hk; cases hk
theorem Sto.keepE_E {w1 w6 : World} {ob : Obj} {cv' : Value} {e : Ent} (h : Sto B sb w cv mb gone u wv es wl) (hg1 : w.grownBy w1 (some mb))
    (A : Appended (w1.alloc ob) B 180 5 cv es.length (entsV es) 1 (entV e) cv' w6) (x : Value) : KeepE cv cv' w (w6.setCell ⟨sb, 0, none⟩ x) := fun k cur hk ho => by
  have hlt := (Array.getElem?_eq_some_iff.1 hk).1
  have hs1 := hg1.size
  obtain ⟨c, hr, _⟩ := h.row
  have nsb : k ≠ sb := fun e => by rw [e, hr] at hk; cases hk
  have nmb : k ≠ mb := fun e => by rw [e] at hk; exact h.map.not_cells hk
  refine ⟨?_, fun e => ?_⟩
  · rw [Below.heap_setCell _ _ _ _ nsb, A.grew.block k (by simp; omega) (fun e => ho (by first | exact e | exact e.symm)), Below.heap_alloc w1 ob k (by omega), hg1.block k hlt (fun e => nmb (Option.some.inj e))]
  · rcases A.at' with e2 | e2
    · rw [e2] at e; exact ho e
    · rw [e2] at e
      have := Option.some.inj e
      simp at this; omega
end Rd
end Go.Proofs.YtceahffmenbibaaGreatDoor
