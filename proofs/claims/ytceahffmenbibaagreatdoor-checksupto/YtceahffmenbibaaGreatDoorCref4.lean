/- Walks of the document's opposites. -/
import Derived.Test.YtceahffmenbibaaGreatDoorCref3
import Derived.Outline
namespace Go.Proofs.YtceahffmenbibaaGreatDoor
namespace Rd
open Go Go.RowKit Go.Deep
set_option linter.unusedVariables false
set_option linter.unusedSimpArgs false

theorem opp_snoc (c : Cl) (but x : Int) : opp (c ++ [x]) but = opp c but ++ (if x = but then [] else [-x]) := by
  unfold opp
  rw [List.filter_append, List.map_append]
  congr 1
  by_cases h : x = but <;> simp [h]
theorem opp_len (c : Cl) (but : Int) : (opp c but).length ≤ c.length := by unfold opp; rw [List.length_map]; exact List.length_filter_le _ _
theorem in50_neg {l : Int} (h : In50 l) : In50 (-l) := by
  rcases h with h | h
  · right; omega
  · left; omega
theorem opp_in50 {c : Cl} (h : ∀ l ∈ c, In50 l) (but : Int) : ∀ l ∈ opp c but, In50 l := by
  intro l hl
  unfold opp at hl
  obtain ⟨x, hx, rfl⟩ := List.mem_map.1 hl
  exact in50_neg (h x (List.mem_filter.1 hx).1)

set_option maxHeartbeats 1000000 in
set_option maxRecDepth 100000 in
theorem opp_any (c : Cl) (but : Int) (u : Value) (w : World) (hu : RdRow w u c) (h50 : ∀ l ∈ c, In50 l) (hc : c.length ≤ 1048576) :
    Calls Tryz.prog 122 #[u, .int .i64 but] w fun e w' => Below w.heap.size w w' ∧ ∃ v, e = .returned v ∧ w'.ownsRow w.heap.size 3 1 v (opp c but).length (intsV (opp c but)) := by
  obtain ⟨ua, uc, ub, rfl, hua, hucell⟩ := hu
  have HU := hide hucell
  have HUA := hide hua
  have H50 := hide h50
  clear hucell hua h50
  obtain ⟨i0, hi, hz0, hz1, hz2⟩ := info_parts Tryz.infoInt'
  go_enter Tryz.func122, Tryz.ntmps122
  go_wp2
  go_loopw [5, 6] (fun o i wr => ∃ (k : Nat), k ≤ c.length ∧ i = .int .i64 k ∧ Hid (wr.ownsRow w.heap.size 3 1 o (opp (c.take k) but).length (intsV (opp (c.take k) but))) ∧ Hid (Below w.heap.size w wr)) (fun _ i _ => c.length - (intOf i).toNat)
  case atStart => exact ⟨0, Nat.zero_le _, rfl, World.ownsRow_nil _ _ _ _, Below.refl _ _⟩
  case round =>
    obtain ⟨k, hk, rfl, hown, hb⟩ := hrel
    by_cases hlt : k < c.length
    · have hcl := unhide HU k hlt
      have hx := unhide HUA (by omega)
      subst hx
      have hcl' : wr.cell? ⟨ub, k, none⟩ = some (.int .i64 (c.getD k 0)) := by rw [(unhide hb).cell (p := ⟨ub, k, none⟩) (block_lt_of_cell hcl)]; exact hcl
      have T : Hid (c.take (k + 1) = c.take k ++ [c.getD k 0]) := by
        unfold Hid; rw [List.take_succ_eq_append_getElem hlt]; simp [List.getD_eq_getElem?_getD, hlt]
      have hmem : Hid (c.getD k 0 ∈ c) := by unfold Hid; simp [List.getD_eq_getElem?_getD, hlt]
      have ol : (opp (c.take k) but).length ≤ k := Nat.le_trans (opp_len _ _) (by simp; omega)
      clear hcl
      generalize c.getD k 0 = x at hcl' T hmem
      have x50 : -50 ≤ x ∧ x ≤ 50 := by rcases unhide H50 x (unhide hmem) with h | h <;> omega
      obtain ⟨xl, xh⟩ := x50
      have sb := (unhide hb).size
      by_cases hxb : x = but
      · have O : Hid (opp (c.take (k + 1)) but = opp (c.take k) but) := by unfold Hid; rw [unhide T, opp_snoc, if_pos hxb, List.append_nil]
        rw [← unhide O] at hown
        have hb1 : (x != but) = false := by simpa using hxb
        clear hxb
        go_wp2
        go_roundw
        case rel => exact ⟨k + 1, by omega, by go_num, hown, hb⟩
        case measure => simp [intOf]; omega
      · have O : Hid (opp (c.take (k + 1)) but = opp (c.take k) but ++ [-x]) := by unfold Hid; rw [unhide T, opp_snoc, if_neg hxb]
        have hb1 : (x != but) = true := by simpa using hxb
        clear hxb
        go_wp2_with (at_builtin; refine wpList_append_own_at _ rfl _ _ 43 rfl w.heap.size 3 i0 (.int .i64 0) 1 8 Tryz.underlying43 hi hz0 hz1 hz2 rfl (by decide) _ _ _ rfl ((unhide hown).alloc _) ⟨wr.heap.size, 0, none⟩ 1 1 [_] rfl rfl (cell_one_new _ _ _) (by simp [Value.oneCell']) (by unfold maxLen; omega) (by omega) (by simp; omega) ?_)
        intro o' w6 hown' hgrow _ hat'
        have M : Hid (w6.ownsRow w.heap.size 3 1 o' (opp (c.take (k + 1)) but).length (intsV (opp (c.take (k + 1)) but))) := by
          unfold Hid; rw [unhide O]; simpa [intsV] using hown'
        have B3 : Hid (Below w.heap.size w w6) := ((unhide hb).alloc sb _).grown hgrow (by simp; omega) (fun k hk => ((unhide hown).lt k hk).1)
        clear hown' hgrow hat' hown
        go_wp2
        go_roundw
        case rel => exact ⟨k + 1, by omega, by go_num, M, B3⟩
        case measure => simp [intOf]; omega
    · have e : k = c.length := by omega
      subst e
      rw [List.take_of_length_le (Nat.le_refl _)] at hown
      go_wp2
      go_ret
      exact ⟨unhide hb, _, rfl, unhide hown⟩
end Rd
end Go.Proofs.YtceahffmenbibaaGreatDoor
