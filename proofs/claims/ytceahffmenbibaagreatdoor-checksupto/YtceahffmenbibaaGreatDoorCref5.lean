/- Walk of the document's Right. -/
import Derived.Test.YtceahffmenbibaaGreatDoorCref4
import Derived.Test.YtceahffmenbibaaGreatDoorCapp
import Derived.Deep.RegionHeld3
import Derived.Deep.RegionWith
import Derived.Outline
namespace Go.Proofs.YtceahffmenbibaaGreatDoor
namespace Rd
open Go Go.RowKit Go.Deep
set_option linter.unusedVariables false
set_option linter.unusedSimpArgs false

theorem owns_later {w w' : World} {B e size n : Nat} {v : Value} {xs : List Value} (h : w.ownsRow B e size v n xs) (hb : Below w.heap.size w w') : w'.ownsRow B e size v n xs := by
  have hg : w.grownBy w' none := ⟨hb.os, hb.tape, hb.output, hb.size, fun k hk _ => hb.block k hk⟩
  refine h.kept hg ?_
  cases hv : v.ownBlock with
  | none => exact .inl rfl
  | some g => exact .inr (by simp)
theorem src_own {w : World} {B e n : Nat} {v : Value} {xs : List Value} (h : w.ownsRow B e 1 v n xs) : Src w v n xs := by
  rcases h.2 with ⟨rfl, rfl⟩ | ⟨g, cap, cur, rfl, _⟩
  · left; exact ⟨rfl, rfl, List.eq_nil_of_length_eq_zero (by simpa using h.1)⟩
  · right; exact ⟨⟨g, 0, none⟩, cap, rfl, h.cells rfl⟩
set_option maxHeartbeats 4000000 in
set_option maxRecDepth 100000 in
theorem right_any (L : List Cl) (c : Cl) (v u : Value) (w : World) (hv : ListsC w v L) (hu : RowC w u c) (h50 : ∀ c ∈ L, ∀ l ∈ c, In50 l) (hc50 : ∀ l ∈ c, In50 l) (hL : L.length ≤ 2097152) (hcl : c.length ≤ 1048576) (hc : ∀ c ∈ L, c.length ≤ 1048576) :
    Calls Tryz.prog 89 #[v, u] w fun e w' => Below w.heap.size w w' ∧ Says e (RightP L c) := by
  have HV := hide hv
  have HU := hide hu
  obtain ⟨va, vc, vb, rfl, hvc, hva, hvcell⟩ := hv
  obtain ⟨ua, uc, ub, rfl, huc, hua, hucell⟩ := hu
  have HVC := hide hvcell
  have HUC := hide hucell
  have HVA := hide hva
  have HUA := hide hua
  have H50 := hide h50
  have HC50 := hide hc50
  have HLC := hide hc
  obtain ⟨i0, hi, hz0, hz1, hz2⟩ := info_parts Tryz.infoInt'
  have q1 := opp_any c 0 _ w (unhide HU).rd hc50 (by omega)
  clear hvcell hucell hva hua h50 hc50 hc
  have l1 := opp_len c 0
  go_enter Tryz.func89, Tryz.ntmps89
  go_wp2_with fail
  with_reducible refine q1.mono ?_
  rintro e1 w1 ⟨hb1, lv, rfl, hown⟩
  clear q1
  have HB1 := hide hb1
  have s1 := hb1.size
  obtain ⟨la, lc, lb, hlv, hlc, hla, hlcell⟩ := rowC_own hown
  subst hlv
  have HO := hide hown
  have q2 := conflict_any L (opp c 0) _ _ w1 ((unhide HV).later hb1) (rdRow_own hown) (unhide H50) (opp_in50 (unhide HC50) 0) hL (by omega) (fun c hc => Nat.le_trans (unhide HLC c hc) (by omega))
  have HLCell := hide hlcell
  have HLA := hide hla
  clear hb1 hown hlcell hla
  go_wp2_with fail
  with_reducible refine q2.mono ?_
  rintro e2 w2 ⟨hb2, b2, rfl, hR2⟩
  clear q2
  have HB2 : Hid (Below w.heap.size w w2) := (unhide HB1).trans (hb2.mono s1)
  have HB12 := hide hb2
  have s2 := hb2.size
  cases b2 with
  | true =>
    have R : Hid (RightP L c) := .inl (hR2.1 rfl)
    clear hb2 hR2
    go_wp2
    go_ret
    exact ⟨unhide HB2, true, rfl, fun _ => unhide R, fun _ => rfl⟩
  | false =>
    have NR : Hid (¬ Conf L (opp c 0)) := fun h => by have := hR2.2 h; cases this
    clear hb2 hR2
    by_cases hc0 : c.length = 0
    · have R : Hid (¬ RightP L c) := by
        rintro (h | ⟨l, r, e, _⟩)
        · exact unhide NR h
        · rw [e] at hc0; simp at hc0
      have t0 : ((c.length : Int) == 0) = true := by rw [beq_iff_eq]; omega
      go_wp2
      go_ret
      exact ⟨unhide HB2, false, rfl, (fun h => by cases h), fun h => absurd h (unhide R)⟩
    · have t0 : ((c.length : Int) == 0) = false := by rw [beq_eq_false_iff_ne]; omega
      go_wp2
      obtain ⟨l0, r0, hcr⟩ : ∃ l r, c = l :: r := by cases c with | nil => simp at hc0 | cons a b => exact ⟨a, b, rfl⟩
      have c0 : w.cell? ⟨ub, 0, none⟩ = some (.int .i64 l0) := by have := unhide HUC 0 (by omega); rw [this, hcr]; rfl
      have hx := unhide HUA (by omega)
      subst hx
      have l050 : -50 ≤ l0 ∧ l0 ≤ 50 := by rcases unhide HC50 l0 (by rw [hcr]; exact List.mem_cons_self ..) with h | h <;> omega
      obtain ⟨l0a, l0b⟩ := l050
      have lpos : 0 < (opp c 0).length := by
        rw [hcr]; unfold opp
        have : l0 ≠ 0 := in50_ne (unhide HC50 l0 (by rw [hcr]; exact List.mem_cons_self ..))
        simp [this]
      have hx := unhide HLA lpos
      subst hx
      have HCR := hide hcr
      have C0 := hide c0
      clear hcr c0
      go_loopw [7] (fun i wr => ∃ (k : Nat), k ≤ L.length ∧ i = .int .i64 k ∧ Hid (∀ D ∈ L.take k, -l0 ∈ D → Conf L (opp c 0 ++ opp D (-l0))) ∧ Hid (Below w2.heap.size w2 wr)) (fun i _ => L.length - (intOf i).toNat)
      case atStart => exact ⟨0, Nat.zero_le _, rfl, (by intro D hD; simp at hD), Below.refl _ _⟩
      case round =>
        obtain ⟨k, hk, rfl, hall, hb⟩ := hrel
        have HBW : Hid (Below w.heap.size w wr) := (unhide HB2).trans ((unhide hb).mono (by omega))
        by_cases hlt : k < L.length
        · obtain ⟨uu, hcl', hrow⟩ := unhide HVC k hlt
          have hx := unhide HVA (by omega)
          subst hx
          have T : Hid (L.take (k + 1) = L.take k ++ [L.getD k []]) := by
            unfold Hid; rw [List.take_succ_eq_append_getElem hlt]; simp [List.getD_eq_getElem?_getD, hlt]
          have hmem : Hid (L.getD k [] ∈ L) := by unfold Hid; simp [List.getD_eq_getElem?_getD, hlt]
          have hd : wr.cell? ⟨vb, k, none⟩ = some uu := by rw [(unhide HBW).cell (p := ⟨vb, k, none⟩) (block_lt_of_cell hcl')]; exact hcl'
          have hc0' : wr.cell? ⟨ub, 0, none⟩ = some (.int .i64 l0) := by rw [(unhide HBW).cell (p := ⟨ub, 0, none⟩) (block_lt_of_cell (unhide C0))]; exact unhide C0
          have hrow' := hrow.later (unhide HBW)
          generalize L.getD k [] = D at T hmem hrow hrow'
          have D50 := hide (unhide H50 D (unhide hmem))
          have DL := unhide HLC D (unhide hmem)
          have qh : Hid (∀ n, Calls Tryz.prog 124 #[uu, .int .i64 (-l0)] (wr.drewN n) fun e w' => e = .returned (.bool (hasL D (-l0))) ∧ w' = wr.drewN n) := fun n => (has_any D uu (-l0) (wr.drewN n) (by omega) hrow'.rd).mono fun e w' h => ⟨h.1, h.2.symm⟩
          have HR := hide hrow'
          obtain ⟨ra, rc, rb, rfl, _⟩ := hrow
          clear hcl' hrow'
          go_wp2
          go_quiet ((go_at_call 124; exact Calls.quiet_of_same (unhide qh _)))
          cases hin : hasL D (-l0) with
          | false =>
            have A1 : Hid (∀ D ∈ L.take (k + 1), -l0 ∈ D → Conf L (opp c 0 ++ opp D (-l0))) := by
              intro E hE hm
              rw [unhide T] at hE
              rcases List.mem_append.1 hE with hE | hE
              · exact unhide hall E hE hm
              · simp at hE; subst hE
                have := List.contains_iff_mem.2 hm
                unfold hasL at hin; rw [this] at hin; cases hin
            go_wp2
            go_roundw
            case rel => exact ⟨k + 1, by omega, by go_num, A1, bel_drewN' (unhide hb) _⟩
            case measure => simp [intOf]; omega
          | true =>
            have XB : Hid (Below w1.heap.size w1 ((wr.drewN nq).alloc (Obj.cells #[] 3))) := ((unhide HB12).trans (((bel_drewN' (unhide hb) nq).alloc (unhide hb).size _).mono s2))
            have sr : Src ((wr.drewN nq).alloc (Obj.cells #[] 3)) (.slice (some ⟨lb, 0, none⟩) (opp c 0).length lc) (opp c 0).length (intsV (opp c 0)) := .inr ⟨⟨lb, 0, none⟩, lc, rfl, fun j x hj => by
              have hc1 := (unhide HO).cells (g := lb) rfl j x hj
              rw [(unhide XB).cell (p := (⟨lb, 0, none⟩ : Addr).add j) (block_lt_of_cell hc1)]; exact hc1⟩
            have SR := hide sr
            clear sr
            have sbw := (unhide HBW).size
            have ln0 : (intsV (opp c 0)).length = (opp c 0).length * 1 := by simp [intsV]
            have KC : Hid (∀ w', Below wr.heap.size wr w' → w'.cell? ⟨vb, k, none⟩ = some (.slice ra D.length rc) ∧ w'.cell? ⟨ub, 0, none⟩ = some (.int .i64 l0)) := fun w' h =>
              ⟨by rw [h.cell (p := ⟨vb, k, none⟩) (block_lt_of_cell hd)]; exact hd, by rw [h.cell (p := ⟨ub, 0, none⟩) (block_lt_of_cell hc0')]; exact hc0'⟩
            go_wp2_with (at_builtin; refine wpList_append_any _ rfl _ _ 43 rfl wr.heap.size 3 i0 (.int .i64 0) 1 8 Tryz.underlying43 hi hz0 hz1 hz2 rfl (by decide) _ _ _ rfl (World.ownsRow_made (wr.drewN nq) #[] 0 (Nat.le_refl _) (by decide) rfl) _ _ _ rfl (unhide SR) ln0 (by simp [intsV, Value.oneCell']) (by unfold maxLen; omega) (by omega) (by simp) ?_)
            intro bv w6 A1
            have hb6 : Below wr.heap.size wr w6 := ((bel_drewN' (Below.refl _ _) nq).alloc (Nat.le_refl _) _).grown A1.grew (by simp) (fun k hk => Nat.le_of_eq (Option.some.inj hk))
            have HA1 := hide A1.own
            have HB6 := hide hb6
            have s6 := hb6.size
            obtain ⟨cd, cc⟩ := unhide KC w6 hb6
            clear A1 hb6 hd hc0'
            go_wp2
            have hwr : IntKind.i64.wrap (-l0) = -l0 := by rw [IntKind.wrap_i64]; omega
            have hpos : 0 < c.length := by omega
            have hne : ¬ c = [] := fun e => by rw [e] at hpos; simp at hpos
            have hne2 : ¬ c.length = 0 := by omega
            have hk0 : (0 : Int) ≤ (k : Int) := by omega
            have hk1 : (k : Int) < (L.length : Int) := by omega
            have RD6 : Hid (RdRow w6.drew (.slice ra D.length rc) D) := ((unhide HR).later (unhide HB6)).rd
            have B6d : Hid (Below wr.heap.size wr w6.drew) := (unhide HB6).drew
            have od := opp_len D (-l0)
            have OD : Hid (w6.drew.ownsRow wr.heap.size 3 1 bv (opp c 0).length (intsV (opp c 0))) := by
              have := unhide HA1; simp only [Nat.zero_add, List.nil_append] at this; exact this
            clear HA1
            go_region_held3 (fun w' => w'.cell? ⟨vb, k, none⟩ = some (.slice ra D.length rc) ∧ w'.cell? ⟨ub, 0, none⟩ = some (.int .i64 l0)) (first | go_keep | exact unhide KC _ (unhide B8) | exact unhide KC _ (unhide B7))
              (first
                | (go_at_call 122; refine (opp_any D (-l0) _ w6.drew (unhide RD6) (unhide D50) (by omega)).mono ?_; rintro e7 w7 ⟨hb7, v7, rfl, hown7⟩; have B7 : Hid (Below wr.heap.size wr w7) := (unhide B6d).trans (hb7.mono (unhide B6d).size); have O7 := hide hown7; have OB7 := hide (owns_later (unhide OD) hb7); have S7 := (unhide B7).size; clear hown7 hb7)
                | (refine step_append_any _ (by rfl) _ _ 43 (by rfl) wr.heap.size 3 i0 (.int .i64 0) 1 8 Tryz.underlying43 hi hz0 hz1 hz2 (by rfl) (by decide) bv (opp c 0).length (intsV (opp c 0)) (by rfl) (unhide OB7) v7 (opp D (-l0)).length (intsV (opp D (-l0))) (by rfl) (src_own (unhide O7)) (by simp [intsV]) (by simp [intsV, Value.oneCell']) (by unfold maxLen; omega) (by omega) S7 ?_; intro bv2 w8 A2; have B8 : Hid (Below wr.heap.size wr w8) := (unhide B7).grown A2.grew S7 (fun k hk => ((unhide OB7).lt k hk).1); have O8 := hide A2.own; clear A2))
            have HBW8 : Hid (Below w.heap.size w w8) := (unhide HBW).trans ((unhide B8).mono sbw)
            have ll : (opp c 0 ++ opp D (-l0)).length = (opp c 0).length + (opp D (-l0)).length := by simp
            have O9 : Hid (w8.ownsRow wr.heap.size 3 1 bv2 (opp c 0 ++ opp D (-l0)).length (intsV (opp c 0 ++ opp D (-l0)))) := by
              unfold Hid; rw [ll]; have := unhide O8; unfold intsV at *; rw [List.map_append]; exact this
            have q4 := conflict_any L (opp c 0 ++ opp D (-l0)) _ bv2 w8 ((unhide HV).later (unhide HBW8)) (rdRow_own (unhide O9)) (unhide H50)
              (fun l hl => (List.mem_append.1 hl).elim (fun h => opp_in50 (unhide HC50) 0 l h) (fun h => opp_in50 (unhide D50) _ l h)) hL (by omega) (fun c hc => Nat.le_trans (unhide HLC c hc) (by omega))
            clear cd cc hpos hne hne2 hk0 hk1
            go_wp2_with fail
            with_reducible refine q4.mono ?_
            rintro e9 w9 ⟨hb9, b9, rfl, hR9⟩
            clear q4
            have HB9 := hide (hb9.mono (unhide B8).size)
            clear hb9
            have B9 : Hid (Below w2.heap.size w2 w9) := (unhide hb).trans (((unhide B8).trans (unhide HB9)).mono (unhide hb).size)
            cases b9 with
            | false =>
              have R : Hid (¬ RightP L c) := by
                rintro (h | ⟨l, r, e, hA⟩)
                · exact unhide NR h
                · have e1 := unhide HCR
                  rw [e] at e1
                  simp only [List.cons.injEq] at e1
                  have := hR9.2 (by have := hA D (unhide hmem) (by rw [e1.1]; exact List.contains_iff_mem.1 hin); rw [e1.1] at this; exact this)
                  cases this
              clear hR9
              go_wp2
              go_ret
              exact ⟨(unhide HB2).trans ((unhide B9).mono (by omega)), false, rfl, (fun h => by cases h), fun h => absurd h (unhide R)⟩
            | true =>
              have A1 : Hid (∀ D ∈ L.take (k + 1), -l0 ∈ D → Conf L (opp c 0 ++ opp D (-l0))) := by
                intro E hE hm
                rw [unhide T] at hE
                rcases List.mem_append.1 hE with hE | hE
                · exact unhide hall E hE hm
                · simp at hE; subst hE; exact hR9.1 rfl
              clear hR9
              go_wp2
              go_roundw
              case rel => exact ⟨k + 1, by omega, by go_num, A1, B9⟩
              case measure => simp [intOf]; omega
        · have e : k = L.length := by omega
          subst e
          rw [List.take_of_length_le (Nat.le_refl _)] at hall
          have R : Hid (RightP L c) := .inr ⟨l0, r0, unhide HCR, unhide hall⟩
          go_wp2
          go_ret
          exact ⟨unhide HBW, true, rfl, fun _ => unhide R, fun _ => rfl⟩
end Rd
end Go.Proofs.YtceahffmenbibaaGreatDoor
