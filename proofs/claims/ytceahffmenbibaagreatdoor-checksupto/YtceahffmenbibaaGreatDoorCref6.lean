/- Walk of the document's without. -/
import Derived.Test.YtceahffmenbibaaGreatDoorCref5
import Derived.Outline
namespace Go.Proofs.YtceahffmenbibaaGreatDoor
namespace Rd
open Go Go.RowKit Go.Deep
set_option linter.unusedVariables false
set_option linter.unusedSimpArgs false

theorem rem_none : ∀ {L : List Cl} {c : Cl}, (∀ d ∈ L, sameB d c = false) → rem L c = none
  | [], c, _ => rfl
  | d :: r, c, h => by
    unfold rem
    rw [if_neg (by rw [h d (List.mem_cons_self ..)]; decide), rem_none (fun x hx => h x (List.mem_cons_of_mem _ hx))]; rfl
theorem rem_some : ∀ {L : List Cl} {c : Cl} (i : Nat), i < L.length → (∀ d ∈ L.take i, sameB d c = false) → sameB (L.getD i []) c = true → rem L c = some (L.take i ++ L.drop (i + 1))
  | [], c, i, hi, _, _ => by simp at hi
  | d :: r, c, 0, hi, _, h => by
    unfold rem
    rw [if_pos (by simpa using h)]; simp
  | d :: r, c, i + 1, hi, hn, h => by
    unfold rem
    rw [if_neg (by rw [hn d (by simp)]; decide), rem_some i (by simpa using hi) (fun x hx => hn x (by simp [hx])) (by simpa using h)]; simp
theorem takedrop_get {α : Type} {us : List α} {i j : Nat} {u : α} (h : (us.take i ++ us.drop (i + 1))[j]? = some u) (hi : i < us.length) : us[if j < i then j else j + 1]? = some u := by
  split
  · rename_i hj
    rw [List.getElem?_append_left (by simp; omega), List.getElem?_take, if_pos hj] at h; exact h
  · rename_i hj
    rw [List.getElem?_append_right (by simp; omega), List.getElem?_drop] at h
    simp only [List.length_take] at h
    rw [show min i us.length = i by omega] at h
    rw [← h]; congr 1; omega
theorem takedrop_getD {L : List Cl} {i j : Nat} (hi : i < L.length) : (L.take i ++ L.drop (i + 1)).getD j [] = L.getD (if j < i then j else j + 1) [] := by
  rw [List.getD_eq_getElem?_getD, List.getD_eq_getElem?_getD]
  split
  · rename_i hj
    rw [List.getElem?_append_left (by simp; omega), List.getElem?_take, if_pos hj]
  · rename_i hj
    rw [List.getElem?_append_right (by simp; omega), List.getElem?_drop]
    simp only [List.length_take]
    rw [show min i L.length = i by omega]
    congr 2; omega
theorem Tryz.infoInts'' : (Tryz.prog.info? 43).map (fun i => (i.zero, i.size, i.bytes)) = some (some (.slice none 0 0), 1, 24) := by kernel_rfl

set_option maxHeartbeats 4000000 in
set_option maxRecDepth 100000 in
theorem without_any' (B : Nat) (L : List Cl) (c : Cl) (v u : Value) (w : World) (hv : OwnL 43 3 B w v L) (hu : RdRow w u c) (hB : B ≤ w.heap.size) (hL : L.length ≤ 2097152) (hcl : c.length ≤ 1048576) (hc : ∀ c ∈ L, c.length ≤ 1048576) :
    Calls Tryz.prog 88 #[v, u] w fun e w' => Below w.heap.size w w' ∧ ((rem L c = none ∧ e = .returned (.tuple #[v, .bool false])) ∨ ∃ L' v', rem L c = some L' ∧ e = .returned (.tuple #[v', .bool true]) ∧ OwnL 43 3 B w' v' L') := by
  have HV := hide hv.lists
  obtain ⟨us, hR⟩ := hv
  obtain ⟨va, vc, vb, rfl, hvc, hva, hvcell⟩ := unhide HV
  have HVC := hide hvcell
  have HVA := hide hva
  have HU := hide hu
  have HLC := hide hc
  have HRM := hide hR
  obtain ⟨j0, hj, hy0, hy1, hy2⟩ := info_parts Tryz.infoInts''
  obtain ⟨ua, uc, ub, rfl, _⟩ := hu
  clear hvcell hva hc hR
  go_enter Tryz.func88, Tryz.ntmps88
  go_wp2
  go_loop [6] (fun i => ∃ (k : Nat), k ≤ L.length ∧ i = .int .i64 k ∧ Hid (∀ d ∈ L.take k, sameB d c = false)) (fun i => L.length - (intOf i).toNat)
  case atStart => exact ⟨0, Nat.zero_le _, rfl, by intro d hd; simp at hd⟩
  case round =>
    obtain ⟨k, hk, rfl, hno⟩ := hrel
    by_cases hlt : k < L.length
    · obtain ⟨uu, hcl', hrow⟩ := unhide HVC k hlt
      have hx := unhide HVA (by omega)
      subst hx
      have T : Hid (L.take (k + 1) = L.take k ++ [L.getD k []]) := by
        unfold Hid; rw [List.take_succ_eq_append_getElem hlt]; simp [List.getD_eq_getElem?_getD, hlt]
      have hmem : Hid (L.getD k [] ∈ L) := by unfold Hid; simp [List.getD_eq_getElem?_getD, hlt]
      have q := same_any (L.getD k []) c uu _ w (Nat.le_trans (unhide HLC _ (unhide hmem)) (by omega)) (by omega) hrow.rd (unhide HU)
      have RS := hide (rem_some (c := c) k hlt (unhide hno))
      generalize L.getD k [] = D at T hmem hrow q RS
      obtain ⟨ra, rc, rb, rfl, _⟩ := hrow
      go_wp2_with fail
      with_reducible refine q.mono ?_
      rintro e1 w1 ⟨rfl, rfl⟩
      clear q
      cases hs : sameB D c with
      | false =>
        have N : Hid (∀ d ∈ L.take (k + 1), sameB d c = false) := by
          intro d hd
          rw [unhide T] at hd
          rcases List.mem_append.1 hd with hd | hd
          · exact unhide hno d hd
          · simp at hd; rw [hd]; exact hs
        go_wp2
        go_round
        case rel => exact ⟨k + 1, by omega, by go_num, N⟩
        case measure => simp [intOf]; omega
      | true =>
        have RR := hide (unhide RS hs)
        have ul := (unhide HRM).len
        have oc : Hid (∀ x ∈ us, x.oneCell' = true) := by
          intro x hx
          obtain ⟨j, hj2, rfl⟩ := List.mem_iff_getElem.1 hx
          rcases ((unhide HRM).inner j _ (List.getElem?_eq_getElem hj2)).1.2 with ⟨e, _⟩ | ⟨g, cap, cur, e, _⟩ <;> rw [e] <;> rfl
        have CE : Hid (∀ w', Below w.heap.size w w' → ∀ j x, us[j]? = some x → w'.cell? ⟨vb, j, none⟩ = some x) := by
          intro w' hb j x hx
          have h1 := (unhide HRM).outer.cells (g := vb) rfl j x hx
          have h2 : w.cell? ⟨vb, j, none⟩ = some x := by simpa [Addr.add_lit] using h1
          rw [hb.cell (p := ⟨vb, j, none⟩) (block_lt_of_cell h2)]; exact h2
        have sr : Src (w.alloc (Obj.cells #[] 43)) (.slice (some ⟨vb, 0, none⟩) k vc) k (us.take k) := .inr ⟨⟨vb, 0, none⟩, vc, rfl, fun j x hx => by
          rw [List.getElem?_take] at hx
          split at hx
          · have := unhide CE (w.alloc (Obj.cells #[] 43)) ((Below.refl _ _).alloc (Nat.le_refl _) _) j x hx
            simpa [Addr.add_lit] using this
          · cases hx⟩
        have SR := hide sr
        have ln : (us.take k).length = k * 1 := by simp; omega
        clear sr
        go_wp2_with (at_builtin; refine wpList_append_any _ rfl _ _ 32 rfl w.heap.size 43 j0 (.slice none 0 0) 1 24 Tryz.underlying32 hj hy0 hy1 hy2 rfl (by decide) _ _ _ rfl (World.ownsRow_made w #[] 0 (Nat.le_refl _) (by decide) rfl) _ _ _ rfl (unhide SR) ln (fun x hx => unhide oc x (List.mem_of_mem_take hx)) (by unfold maxLen; omega) (by omega) (by simp) ?_)
        intro ov w6 A1
        have hb6 : Below w.heap.size w w6 := ((Below.refl _ _).alloc (Nat.le_refl _) _).grown A1.grew (by simp) (fun k hk => Nat.le_of_eq (Option.some.inj hk))
        have O6 : Hid (w6.ownsRow w.heap.size 43 1 ov k (us.take k)) := by have := A1.own; simp only [Nat.zero_add, List.nil_append] at this; exact this
        have HB6 := hide hb6
        have s6 := hb6.size
        clear A1 hb6 SR
        have sr2 : Src w6 (.slice (if vc = k + 1 then some ⟨vb, 0, none⟩ else some ⟨vb, k + 1, none⟩) (L.length - (k + 1)) (vc - (k + 1))) (L.length - (k + 1)) (us.drop (k + 1)) := by
          by_cases h : vc = k + 1
          · rw [if_pos h]
            exact .inr ⟨_, _, rfl, fun j x hx => by rw [List.getElem?_drop, List.getElem?_eq_none (by omega)] at hx; cases hx⟩
          · rw [if_neg h]
            refine .inr ⟨_, _, rfl, fun j x hx => ?_⟩
            rw [List.getElem?_drop] at hx
            have := unhide CE w6 (unhide HB6) (k + 1 + j) x hx
            unfold Addr.add
            split
            · rename_i h0; subst h0; exact this
            · exact this
        have SR2 := hide sr2
        have ln2 : (us.drop (k + 1)).length = (L.length - (k + 1)) * 1 := by simp; omega
        clear sr2
        go_wp2_with (at_builtin; refine wpList_append_any _ rfl _ _ 32 rfl w.heap.size 43 j0 (.slice none 0 0) 1 24 Tryz.underlying32 hj hy0 hy1 hy2 rfl (by decide) _ _ _ rfl (unhide O6) _ _ _ rfl (unhide SR2) ln2 (fun x hx => unhide oc x (List.mem_of_mem_drop hx)) (by unfold maxLen; omega) (by omega) s6 ?_)
        all_goals
          intro ov2 w7 A2
          have hb7 : Below w.heap.size w w7 := (unhide HB6).grown A2.grew s6 (fun k hk => ((unhide O6).lt k hk).1)
          have HB7 := hide hb7
          have O7 : Hid (OwnL 43 3 B w7 ov2 (L.take k ++ L.drop (k + 1))) := by
            refine ⟨us.take k ++ us.drop (k + 1), ?_, World.ownsRow_nil _ _ _ _, by simp [ul], fun j x hx => ?_⟩
            · have h1 := owns_le A2.own hB
              have e : (us.take k ++ us.drop (k + 1)).length = k + (L.length - (k + 1)) := by simp; omega
              rw [e]; exact h1
            · have hx' := takedrop_get hx (by omega)
              rw [takedrop_getD hlt]
              have h1 := (unhide HRM).inner _ x hx'
              refine ⟨owns_later h1.1 hb7, ?_⟩
              cases hu : x.ownBlock with
              | none => exact .inl rfl
              | some g => exact .inr (by simp [Value.ownBlock])
          clear A2 hb7 SR2
          go_wp2
          go_ret2
          exact ⟨unhide HB7, .inr ⟨_, _, unhide RR, rfl, unhide O7⟩⟩
    · have e : k = L.length := by omega
      subst e
      rw [List.take_of_length_le (Nat.le_refl _)] at hno
      have R := hide (rem_none (unhide hno))
      go_wp2
      go_ret2
      exact ⟨Below.refl _ _, .inl ⟨unhide R, rfl⟩⟩
end Rd
end Go.Proofs.YtceahffmenbibaaGreatDoor
