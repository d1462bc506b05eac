/- Walk of still. -/
import Derived.Test.YtceahffmenbibaaGreatDoorLawD
namespace Go.Proofs.YtceahffmenbibaaGreatDoor
namespace Rd
open Go Go.RowKit Go.Deep
set_option linter.unusedVariables false
set_option linter.unusedSimpArgs false

theorem flat_get : ∀ (es : List Ent) (i r : Nat) (hi : i < es.length), r < 4 → (es.flatMap entCells)[i * 4 + r]? = (entCells es[i])[r]?
  | [], i, r, hi, _ => by simp at hi
  | e :: es, 0, r, _, hr => by
    simp only [List.flatMap_cons, List.getElem_cons_zero, Nat.zero_mul, Nat.zero_add]
    rw [List.getElem?_append_left (by simp [entCells]; omega)]
  | e :: es, i + 1, r, hi, hr => by
    simp only [List.flatMap_cons, List.getElem_cons_succ]
    rw [List.getElem?_append_right (by simp [entCells]; omega)]
    have := flat_get es i r (by simpa using hi) hr
    rw [← this]
    congr 1
    simp [entCells]; omega

theorem Hold.ent {w : World} {H N : Nat} {kv : Value} {es : List Ent} {R : Nat → Prop} (h : Hold w H N kv es R) {i : Nat} (hi : i < es.length) :
    ∃ g cap, kv = .slice (some ⟨g, 0, none⟩) es.length cap ∧ w.cell? ⟨g, i * 4, none⟩ = some (.int .i64 es[i].1) ∧ w.cell? ⟨g, i * 4 + 1, none⟩ = some es[i].2.1 ∧ w.cell? ⟨g, i * 4 + 2, none⟩ = some es[i].2.2 ∧ w.cell? ⟨g, i * 4 + 3, none⟩ = some (.slice none 0 0) := by
  have hc := h.own
  rcases h.own.2 with ⟨_, h0⟩ | ⟨g, cap, cur, hkv, _⟩
  · omega
  · refine ⟨g, cap, hkv, ?_⟩
    have key : ∀ r v, r < 4 → (entCells es[i])[r]? = some v → w.cell? ⟨g, i * 4 + r, none⟩ = some v := fun r v hr hv => by
      have := hc.cells (g := g) (by rw [hkv]; rfl) (i * 4 + r) v (by rw [flat_get es i r hi hr]; exact hv)
      simpa [Addr.add_lit] using this
    exact ⟨key 0 _ (by omega) rfl, key 1 _ (by omega) rfl, key 2 _ (by omega) rfl, key 3 _ (by omega) rfl⟩

theorem kcells {w0 wq : World} {c0 c1 c2 c3 : Value} {t : TypeId} (h : Below (w0.heap.size + 1) (w0.alloc (.cells #[c0, c1, c2, c3] t)) wq) :
    wq.cell? ⟨w0.heap.size, 0, none⟩ = some c0 ∧ wq.cell? ⟨w0.heap.size, 1, none⟩ = some c1 ∧ wq.cell? ⟨w0.heap.size, 2, none⟩ = some c2 ∧ wq.cell? ⟨w0.heap.size, 3, none⟩ = some c3 := by
  have key : ∀ j, wq.cell? ⟨w0.heap.size, j, none⟩ = (#[c0, c1, c2, c3] : Array Value)[j]? := fun j => by
    rw [h.cell (p := ⟨w0.heap.size, j, none⟩) (by show w0.heap.size < _; omega)]
    exact World.cell?_alloc_new _ _ _ _
  exact ⟨key 0, key 1, key 2, key 3⟩
theorem kold {w0 wq : World} {o : Obj} {a : Addr} {v : Value} (h : Below (w0.heap.size + 1) (w0.alloc o) wq) (hc : w0.cell? a = some v) : wq.cell? a = some v := by
  rw [h.cell (by have := block_lt_of_cell hc; omega)]
  exact cell_alloc_old hc

set_option maxHeartbeats 4000000 in
set_option maxRecDepth 100000 in
theorem still_any (H N : Nat) (kv : Value) (es : List Ent) (R : Nat → Prop) (w : World) (hH : Hold w H N kv es R) (hN : N ≤ 3000000) :
    Calls Tryz.prog 29 #[.pointer (some ⟨H, 0, none⟩)] w fun e w' => e = .returned (.bool true) ∧ Below w.heap.size w w' := by
  obtain ⟨ka, kc, hkv⟩ := own_shape4 hH.own
  have HH := hide hH
  have hel := hH.len
  clear hH
  go_enter Tryz.func29, Tryz.ntmps29
  go_wp2
  go_loopw [3] (fun i wr => ∃ k : Nat, k ≤ es.length ∧ i = .int .i64 k ∧ Hid (Below w.heap.size w wr)) (fun i _ => es.length - (intOf i).toNat)
  case atStart => exact ⟨0, Nat.zero_le _, rfl, Below.refl _ _⟩
  case round =>
    obtain ⟨k, hk, rfl, hb⟩ := hrel
    have Hr := (unhide HH).later (unhide hb)
    have c1 := Hr.c1
    rw [hkv] at c1
    have sb := (unhide hb).size
    by_cases hlt : k < es.length
    · obtain ⟨g, cap, e1, q0, q1, q2, q3⟩ := Hr.ent hlt
      obtain ⟨on, ol, om⟩ := Hr.ok es[k] (List.getElem_mem hlt)
      rw [hkv] at e1
      simp only [Value.slice.injEq] at e1
      obtain ⟨e1, _, e2⟩ := e1
      obtain ⟨n, hn⟩ : ∃ n, n = es[k].1 := ⟨_, rfl⟩
      obtain ⟨a1, k1, x1, b1, l1, l2, l3, l4⟩ := ol
      obtain ⟨a2, k2, x2, b2, m1, m2, m3, m4⟩ := om
      rw [l1] at q1
      rw [m1] at q2
      rw [← hn] at q0 on l4 m4
      rw [e1] at c1
      clear hn l1 m1 e2
      have L3 := hide l3
      have L4 := hide l4
      have M3 := hide m3
      have M4 := hide m4
      have E1 := hide e1
      clear l3 l4 m3 m4 Hr e1
      go_wp2
      have hw0 : ∃ x, x = wr := ⟨_, rfl⟩
      obtain ⟨w0, hw0⟩ := hw0
      subst hw0
      clear q0 q1 q2 q3 c1
      go_loopw [5] (fun j wq => ∃ p : Nat, p ≤ k1 ∧ j = .int .i64 p ∧ Hid (Below (w0.heap.size + 1) (w0.alloc (.cells #[.int .i64 n, .slice a1 k1 x1, .slice a2 k2 x2, .slice none 0 0] 102)) wq)) (fun j _ => k1 - (intOf j).toNat)
      case atStart => exact ⟨0, Nat.zero_le _, rfl, Below.refl _ _⟩
      case round =>
        obtain ⟨p, hp, rfl, hB⟩ := hrel
        obtain ⟨v0, v1, v2, v3⟩ := kcells (unhide hB)
        by_cases hpl : p < k1
        · obtain ⟨f1, f2⟩ := unhide L3 (by omega)
          subst f1
          have g1 : wr.cell? ⟨b1, p, none⟩ = some (.int .i64 (mkv n)) := kold (unhide hB) (unhide L4 p hpl)
          have hmm : (mkv n != mkv n) = false := by simp
          go_wp2
          go_quiet ((go_at_call 54; exact Calls.quiet_of_same (mark_any n _ on)))
          go_wp2
          go_roundw
          case rel => exact ⟨p + 1, by omega, by go_num, bel_drewN' (unhide hB) _⟩
          case measure => simp [intOf]; omega
        · go_wp2
          go_loopw [6] (fun j wq => ∃ p : Nat, p ≤ k2 ∧ j = .int .i64 p ∧ Hid (Below (w0.heap.size + 1) (w0.alloc (.cells #[.int .i64 n, .slice a1 k1 x1, .slice a2 k2 x2, .slice none 0 0] 102)) wq)) (fun j _ => k2 - (intOf j).toNat)
          case atStart => exact ⟨0, Nat.zero_le _, rfl, unhide hB⟩
          case round =>
            obtain ⟨p2, hp2, rfl, hB2⟩ := hrel
            obtain ⟨v0, v1, v2, v3⟩ := kcells (unhide hB2)
            by_cases hpl2 : p2 < k2
            · obtain ⟨f1, f2⟩ := unhide M3 (by omega)
              subst f1
              obtain ⟨gg, gc, u1, u2, u3⟩ := unhide M4 p2 hpl2
              have g1 : wr.cell? ⟨b2, p2, none⟩ = some (.slice (some ⟨gg, 0, none⟩) 1 gc) := kold (unhide hB2) u1
              have g2 : wr.cell? ⟨gg, 0, none⟩ = some (.int .i64 (mkv n)) := kold (unhide hB2) u3
              have hmm : (mkv n != mkv n) = false := by simp
              clear u1 u3
              go_wp2
              go_quiet ((go_at_call 54; exact Calls.quiet_of_same (mark_any n _ on)))
              go_wp2
              go_roundw
              case rel => exact ⟨p2 + 1, by omega, by go_num, bel_drewN' (unhide hB2) _⟩
              case measure => simp [intOf]; omega
            · go_wp2
              go_loopw [7] (fun j wq => j = .int .i64 0 ∧ Hid (Below (w0.heap.size + 1) (w0.alloc (.cells #[.int .i64 n, .slice a1 k1 x1, .slice a2 k2 x2, .slice none 0 0] 102)) wq)) (fun j _ => 0)
              case atStart => exact ⟨rfl, unhide hB2⟩
              case round =>
                obtain ⟨rfl, hB3⟩ := hrel
                obtain ⟨v0, v1, v2, v3⟩ := kcells (unhide hB3)
                have B9 : Hid (Below w.heap.size w wr) := ((unhide hb).alloc sb _).trans ((unhide hB3).mono (by omega))
                go_wp2
                go_roundw
                case rel => exact ⟨k + 1, by omega, by go_num, B9⟩
                case measure => simp [intOf]; omega
    · clear Hr
      go_wp2
      go_ret
      exact ⟨rfl, unhide hb⟩
end Rd
end Go.Proofs.YtceahffmenbibaaGreatDoor
