/- The store's map: from sets of literals to places. -/
import Derived.Test.YtceahffmenbibaaGreatDoorCset2
import Derived.Maps.OwnSet
import Derived.Maps.Views
import Derived.DeepKeys4
namespace Go.Proofs.YtceahffmenbibaaGreatDoor
namespace Rd
open Go Go.RowKit Go.Maps
set_option linter.unusedVariables false
set_option linter.unusedSimpArgs false

theorem Tryz.laidOut' : laidOutB Tryz.prog = true := by kernel_rfl
theorem Tryz.rowKey : (84 : TypeId) < Tryz.prog.types.size := of_decide_eq_true (by kernel_rfl)
theorem Tryz.wideKey : (match Tryz.prog.underlying 84 with | some (.array _ _) | some (.struct _) => true | _ => false) = true := by rw [Tryz.underlying84]
theorem Tryz.ktAt : Tryz.prog.keyTypeAt 3 84 = true := by kernel_rfl
set_option maxRecDepth 1000000 in
theorem Tryz.lawKey : Keyed Tryz.prog 84 := Keyed.of_law (deep_law_laid Tryz.laidOut' (m := 3) (by omega) Tryz.rowKey Tryz.ktAt Tryz.wideKey)
theorem Tryz.cellsKey : Tryz.prog.cellsOf 84 = 2 := by kernel_rfl
theorem Tryz.zeroInt (w : World) : (zeroValue 3).run Tryz.prog w = .ok (.int .i64 0) w := by kernel_rfl
theorem Tryz.ktKey : Tryz.prog.keyType 84 = true := by kernel_rfl
theorem Tryz.cellsU64 : Tryz.prog.cellsOf 82 = 1 := by kernel_rfl
set_option maxRecDepth 1000000 in
theorem Tryz.typesPos : ∃ n, Tryz.prog.types.size = n + 1 := ⟨Tryz.prog.types.size - 1, (Nat.succ_pred_eq_of_pos (Nat.lt_of_le_of_lt (Nat.zero_le _) Tryz.rowKey)).symm⟩
/-- what a set reads as, as a key -/
def klOf (s : Key) : Lit := .string (keyBytes [.int .u64 (s.1 : Int), .int .u64 (s.2 : Int)])
theorem keyOf_two {P : Program} {k u n : Nat} {fs : Array Field} {f1 f2 : Field} (hu : P.underlying k = some (.struct fs)) (hfs : fs = #[f1, f2]) (hn : fs.all (fun f => f.name != "_") = true) (t1 : f1.type = u) (o1 : f1.offset = 0) (t2 : f2.type = u) (o2 : f2.offset = 1)
    (hk : P.keyType k = true) (hc : P.cellsOf k = 2) (hc1 : P.cellsOf u = 1) (hui : P.underlying u = some (.int .u64)) (hsz : P.types.size = n + 1) {a b : Int} (w1 : (Lit.int .u64 a).wf = true) (w2 : (Lit.int .u64 b).wf = true) :
    keyOf P k (.agg #[.int .u64 a, .int .u64 b]) = some (.string (keyBytes [.int .u64 a, .int .u64 b])) := by
  have hff : (Value.agg #[.int .u64 a, .int .u64 b]).formed P k = true := by simp [Value.formed, hu, hc]
  have k1 : ∀ x, (Lit.int .u64 x).wf = true → P.keyLits (n + 1) u [.int .u64 x] = some [.int .u64 x] := fun x hx => by simp [Program.keyLits, hui, hx]
  have k2 : P.keyLits (n + 1 + 1) k [.int .u64 a, .int .u64 b] = some [.int .u64 a, .int .u64 b] := by
    subst hfs
    conv => lhs; unfold Program.keyLits
    rw [hu]
    simp only [hc, hn, List.length_cons, List.length_nil, and_self, if_true]
    simp [t1, t2, o1, o2, hc1, k1 a w1, k1 b w2]
  unfold keyOf
  rw [hu]
  simp only [hk, hff, Bool.and_self, if_true, hsz]
  show Option.map _ (P.keyLits (n + 1 + 1) k [.int .u64 a, .int .u64 b]) = _
  rw [k2]; rfl
set_option maxRecDepth 1000000 in
theorem keyOf_key {s : Key} (hs : s.ok) : keyOf Tryz.prog 84 (keyV s) = some (klOf s) := by
  have w1 : (Lit.int .u64 (s.1 : Int)).wf = true := by
    have := hs.1; unfold wide at this
    simp [Lit.wf, IntKind.min, IntKind.max, IntKind.signed, IntKind.bits]; omega
  have w2 : (Lit.int .u64 (s.2 : Int)).wf = true := by
    have := hs.2; unfold wide at this
    simp [Lit.wf, IntKind.min, IntKind.max, IntKind.signed, IntKind.bits]; omega
  obtain ⟨n, hn⟩ := Tryz.typesPos
  exact keyOf_two Tryz.underlying84 rfl (by kernel_rfl) rfl rfl rfl rfl Tryz.ktKey Tryz.cellsKey Tryz.cellsU64 Tryz.underlying82 hn w1 w2
theorem klOf_inj {s t : Key} (hs : s.ok) (ht : t.ok) (h : klOf s = klOf t) : s = t := by
  have h1 := keyOf_key hs
  have h2 := keyOf_key ht
  rw [← h] at h2
  have := Tryz.lawKey.inj h1 h2
  unfold keyV at this
  simp at this
  obtain ⟨a, b⟩ := s; obtain ⟨c, d⟩ := t
  simp only at this
  have h1 : a = c := by have := this.1; omega
  have h2 : b = d := by have := this.2; omega
  rw [h1, h2]
theorem klOf_key {s : Key} (hs : s.ok) : WideAt.IsKeyLit (klOf s) := Tryz.lawKey.key (keyOf_key hs)

/-- block b is a map that tells where a set lies -/
def MapIs (w : World) (b n : Nat) (m : Key → Option Nat) : Prop := ∃ D : DataW Unit, w.ownsMap Tryz.prog 84 (plainElem Tryz.prog 3) b n D ∧ IsMap D ∧
  ∀ s : Key, s.ok → Maps.has D (klOf s) = (m s).isSome ∧ ∀ i, m s = some i → D.atKey (klOf s) (.lit (.int .i64 0)) = .lit (.int .i64 (i : Nat))
theorem mapIs_made (w : World) : MapIs (w.alloc (.map #[] 0)) w.heap.size 0 (fun _ => none) := by
  refine ⟨.map [], World.ownsMap_made _ _ _ _, ⟨[], rfl⟩, fun s hs => ⟨rfl, fun i hi => by cases hi⟩⟩
theorem MapIs.congr {w : World} {b n : Nat} {m m' : Key → Option Nat} (h : MapIs w b n m) (e : ∀ s, s.ok → m s = m' s) : MapIs w b n m' := by
  obtain ⟨D, h1, h2, h3⟩ := h
  exact ⟨D, h1, h2, fun s hs => by rw [← e s hs]; exact h3 s hs⟩
theorem MapIs.kept {w w' : World} {b n : Nat} {m : Key → Option Nat} (h : MapIs w b n m) (hb : w'.heap[b]? = w.heap[b]?) : MapIs w' b n m := by
  obtain ⟨D, ⟨es, cl, h0, h1⟩, h2⟩ := h
  exact ⟨D, ⟨es, cl, by rw [hb]; exact h0, h1⟩, h2⟩
theorem MapIs.lt {w : World} {b n : Nat} {m : Key → Option Nat} (h : MapIs w b n m) : b < w.heap.size := by
  obtain ⟨D, ⟨es, cl, h0, _⟩, _⟩ := h
  exact (Array.getElem?_eq_some_iff.1 h0).1
/-- a map is no row of cells -/
theorem MapIs.not_cells {w : World} {b n : Nat} {m : Key → Option Nat} (h : MapIs w b n m) {c : Array Value} {t : TypeId} {f : Nat × Nat} : w.heap[b]? ≠ some (.cells c t f) := by
  obtain ⟨D, ⟨es, cl, h0, _⟩, _⟩ := h
  rw [h0]; intro e; cases e
theorem MapIs.put {w w' : World} {b n i : Nat} {m : Key → Option Nat} {k : Key} (hk : k.ok) {D : DataW Unit} (hD : IsMap D) (h3 : ∀ s : Key, s.ok → Maps.has D (klOf s) = (m s).isSome ∧ ∀ i, m s = some i → D.atKey (klOf s) (.lit (.int .i64 0)) = .lit (.int .i64 (i : Nat)))
    (h : w'.ownsMap Tryz.prog 84 (plainElem Tryz.prog 3) b n (D.put (klOf k) (.lit (.int .i64 (i : Nat))))) : MapIs w' b n (fun s => if s = k then some i else m s) := by
  refine ⟨_, h, hD.put _ _, fun s hs => ?_⟩
  by_cases e : s = k
  · subst e
    simp only [if_true]
    refine ⟨by rw [has_put_same hD (klOf_key hs)]; rfl, fun j hj => ?_⟩
    cases hj
    exact atKey_put_same hD (klOf_key hs) _ _
  · simp only [e, if_false]
    have ne : klOf s ≠ klOf k := fun h => e (klOf_inj hs hk h)
    rw [has_put_other ne]
    refine ⟨(h3 s hs).1, fun j hj => ?_⟩
    rw [atKey_put_other ne]
    exact (h3 s hs).2 j hj
/-- the map's update, as the model runs it -/
theorem MapIs.update {w : World} {b n i : Nat} {m : Key → Option Nat} {k : Key} (h : MapIs w b n m) (hk : k.ok) (hn : n < maxLen) (hi : i ≤ 4294967296) : ∃ w', (Instr.mapUpdate 130 (.map (some b)) (keyV k) (.int .i64 (i : Nat))).run Tryz.prog w = .ok () w' ∧
    w.grownBy w' (some b) ∧ MapIs w' b (n + 1) (fun s => if s = k then some i else m s) := by
  obtain ⟨D, h1, h2, h3⟩ := h
  obtain ⟨w', hr, r1, r2⟩ := h1.update Tryz.lawKey Tryz.underlying130 hn (keyOf_key hk) (plainElem_int (H := Unit) Tryz.underlying3 (a := (i : Int)) (by simp [Lit.wf, IntKind.min, IntKind.max, IntKind.signed, IntKind.bits]; omega))
  exact ⟨_, hr, r2, MapIs.put (w := w) hk h2 h3 r1⟩
/-- the map asked, in whatever world that has it -/
theorem MapIs.lookup {w : World} {b n : Nat} {m : Key → Option Nat} {k : Key} (h : MapIs w b n m) (hk : k.ok) : ∃ c : Int, (∀ i, m k = some i → c = (i : Int)) ∧ ∀ w' : World, w'.heap[b]? = w.heap[b]? → (Instr.lookup 130 (.map (some b)) (keyV k) true).run Tryz.prog w' = .ok (.tuple #[.int .i64 c, .bool (m k).isSome]) w' := by
  obtain ⟨D, h1, h2, h3⟩ := h
  have hw0 : (Lit.int .i64 0).wf = true := by decide
  have key : ∀ w' : World, w'.heap[b]? = w.heap[b]? → ∃ c : Int, (Instr.lookup 130 (.map (some b)) (keyV k) true).run Tryz.prog w' = .ok (.tuple #[.int .i64 c, .bool (m k).isSome]) w' ∧ D.atKey (klOf k) (.lit (.int .i64 0)) = .lit (.int .i64 c) := by
    intro w' hb
    have h1' : w'.ownsMap Tryz.prog 84 (plainElem Tryz.prog 3) b n D := by
      obtain ⟨es, cl, e0, e1⟩ := h1
      exact ⟨es, cl, by rw [hb]; exact e0, e1⟩
    obtain ⟨v, ps, hrun, hv⟩ := h1'.look_ok Tryz.lawKey Tryz.underlying130 (Tryz.zeroInt w') (plainElem_int Tryz.underlying3 hw0) (keyOf_key hk)
    obtain ⟨c, rfl, hc, _⟩ := plainElem_int_inv Tryz.underlying3 hv
    exact ⟨c, by rw [hrun, (h3 k hk).1], congrArg Prod.fst hc⟩
  obtain ⟨c, _, hD⟩ := key w rfl
  refine ⟨c, fun i hi => ?_, fun w' hb => ?_⟩
  · have e1 := (h3 k hk).2 i hi
    rw [e1] at hD
    cases hD; rfl
  · obtain ⟨c', hr, hD'⟩ := key w' hb
    rw [hD] at hD'
    cases hD'
    exact hr
end Rd
end Go.Proofs.YtceahffmenbibaaGreatDoor
