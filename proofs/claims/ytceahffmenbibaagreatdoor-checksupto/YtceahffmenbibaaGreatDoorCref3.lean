/- Walk of the document's Conflict. -/
import Derived.Test.YtceahffmenbibaaGreatDoorCmark
import Derived.Outline
namespace Go.Proofs.YtceahffmenbibaaGreatDoor
namespace Rd
open Go Go.RowKit Go.Deep
set_option linter.unusedVariables false
set_option linter.unusedSimpArgs false

/-- it answers whether -/
def Says (e : Ending) (p : Prop) : Prop := ∃ b, e = .returned (.bool b) ∧ (b = true ↔ p)
/-- how many marks of a block are neither -/
def noneAt (w : World) (b : Nat) : Nat := (List.range 51).countP (fun j => match w.cell? ⟨b, j, none⟩ with | some (.int .i64 n) => decide (n = 0) | _ => false)
theorem noneAt_eq {w : World} {b : Nat} {m : Mk} (h : MarkAt w b m) : noneAt w b = noneM m := by
  unfold noneAt noneM
  refine List.countP_congr fun j hj => ?_
  rw [h.cell (List.mem_range.1 hj)]
def moreN : Value → Nat
  | .bool true => 1
  | _ => 0
set_option maxHeartbeats 4000000 in
set_option maxRecDepth 100000 in
theorem conflict_any (L : List Cl) (ls : List Int) (v u : Value) (w : World) (hv : ListsC w v L) (hu : RdRow w u ls) (h50 : ∀ c ∈ L, ∀ l ∈ c, In50 l) (hs50 : ∀ l ∈ ls, In50 l) (hL : L.length ≤ 2097152) (hLs : ls.length ≤ 4194304) (hc : ∀ c ∈ L, c.length ≤ 1048576) :
    Calls Tryz.prog 123 #[v, u] w fun e w' => Below w.heap.size w w' ∧ Says e (Conf L ls) := by
  obtain ⟨va, vc, vb, rfl, hvc, hva, hvcell⟩ := hv
  obtain ⟨ua, uc, ub, rfl, hua, hucell⟩ := hu
  have HV := hide hvcell
  have HU := hide hucell
  have HVA := hide hva
  have HUA := hide hua
  have H50 := hide h50
  have HS50 := hide hs50
  have HLC := hide hc
  clear hvcell hucell hva hua h50 hs50 hc
  go_enter Tryz.func123, Tryz.ntmps123
  go_wp2
  obtain ⟨zs, hzs⟩ : ∃ zs : Array Value, zs = #[Value.int IntKind.i64 0, Value.int IntKind.i64 0, Value.int IntKind.i64 0, Value.int IntKind.i64 0, Value.int IntKind.i64 0, Value.int IntKind.i64 0, Value.int IntKind.i64 0, Value.int IntKind.i64 0, Value.int IntKind.i64 0, Value.int IntKind.i64 0, Value.int IntKind.i64 0, Value.int IntKind.i64 0, Value.int IntKind.i64 0, Value.int IntKind.i64 0, Value.int IntKind.i64 0, Value.int IntKind.i64 0, Value.int IntKind.i64 0, Value.int IntKind.i64 0, Value.int IntKind.i64 0, Value.int IntKind.i64 0, Value.int IntKind.i64 0, Value.int IntKind.i64 0, Value.int IntKind.i64 0, Value.int IntKind.i64 0, Value.int IntKind.i64 0, Value.int IntKind.i64 0, Value.int IntKind.i64 0, Value.int IntKind.i64 0, Value.int IntKind.i64 0, Value.int IntKind.i64 0, Value.int IntKind.i64 0, Value.int IntKind.i64 0, Value.int IntKind.i64 0, Value.int IntKind.i64 0, Value.int IntKind.i64 0, Value.int IntKind.i64 0, Value.int IntKind.i64 0, Value.int IntKind.i64 0, Value.int IntKind.i64 0, Value.int IntKind.i64 0, Value.int IntKind.i64 0, Value.int IntKind.i64 0, Value.int IntKind.i64 0, Value.int IntKind.i64 0, Value.int IntKind.i64 0, Value.int IntKind.i64 0, Value.int IntKind.i64 0, Value.int IntKind.i64 0, Value.int IntKind.i64 0, Value.int IntKind.i64 0, Value.int IntKind.i64 0] := ⟨_, rfl⟩
  rw [← hzs]
  have hz2 : zs = Array.replicate 51 (Value.int IntKind.i64 0) := by rw [hzs]; rfl
  clear hzs
  subst hz2
  obtain ⟨W, hW⟩ : ∃ W, W = w.alloc (Obj.cells (Array.replicate 51 (Value.int IntKind.i64 0)) 220) := ⟨_, rfl⟩
  have hm0 : MarkAt W w.heap.size (fun _ => 0) := by
    rw [hW]
    exact World.rowIs_alloc w (Array.replicate 51 (Value.int IntKind.i64 0)) 220 _ (fun i hi => by simp at hi; simp [hi])
  have hb0 : Below w.heap.size w W := by rw [hW]; exact (Below.refl _ _).alloc (Nat.le_refl _) _
  rw [← hW]
  have HM0 := hide hm0
  have HB0 := hide hb0
  clear hm0 hb0 hW
  go_loopw [6] (fun i wr => ∃ (k : Nat) (m : Mk), k ≤ ls.length ∧ i = .int .i64 k ∧ Hid (MarkAt wr w.heap.size m) ∧ Hid (MkOk m) ∧ Hid (∀ l ∈ ls.take k, Mp m l) ∧ Hid (Under L ls (Mp m)) ∧ Hid (Below w.heap.size w wr)) (fun i _ => ls.length - (intOf i).toNat)
  case atStart => exact ⟨0, fun _ => 0, Nat.zero_le _, rfl, HM0, ⟨rfl, fun _ => .inr (.inl rfl)⟩, by intro l hl; simp at hl, fun M' _ _ _ l hl => by unfold Mp markV at hl; split at hl <;> simp at hl, HB0⟩
  case round =>
    obtain ⟨k, m, hk, rfl, hm, ok, hin, hU, hb⟩ := hrel
    by_cases hlt : k < ls.length
    · have hcl := unhide HU k hlt
      have hx := unhide HUA (by omega)
      subst hx
      have hcl' : wr.cell? ⟨ub, k, none⟩ = some (.int .i64 (ls.getD k 0)) := by rw [(unhide hb).cell (p := ⟨ub, k, none⟩) (block_lt_of_cell hcl)]; exact hcl
      have T : Hid (ls.take (k + 1) = ls.take k ++ [ls.getD k 0]) := by
        unfold Hid; rw [List.take_succ_eq_append_getElem hlt]; simp [List.getD_eq_getElem?_getD, hlt]
      have hmem : Hid (ls.getD k 0 ∈ ls) := by unfold Hid; simp [List.getD_eq_getElem?_getD, hlt]
      clear hcl
      generalize ls.getD k 0 = x at hcl' T hmem
      have x50 := unhide HS50 x (unhide hmem)
      have q := set_any w.heap.size m x wr (unhide hm) (unhide ok) x50
      have X50 := hide x50
      clear x50
      go_wp2_with fail
      with_reducible refine q.mono ?_
      rintro e1 w1 (⟨h1, rfl, rfl⟩ | ⟨h1, rfl, o, vv, hw1, hm1⟩)
      · have C : Hid (Conf L ls) := (unhide hU).laid_clash (unhide hmem) (mp_neg_of (in50_ne (unhide X50)) h1)
        clear q h1
        go_wp2
        go_ret
        exact ⟨unhide hb, true, rfl, fun _ => unhide C, fun _ => rfl⟩
      · have B1 : Hid (Below w.heap.size w w1) := by unfold Hid; rw [hw1]; exact (unhide hb).setCell (Nat.le_refl _) _
        have S1 := mp_set (unhide X50) h1 (unhide ok)
        have U1 : Hid (Under L ls (Mp (markSet m x))) := ((unhide hU).laid (unhide hmem)).congr S1
        have I1 : Hid (∀ l ∈ ls.take (k + 1), Mp (markSet m x) l) := by
          intro l hl
          rw [unhide T] at hl
          rcases List.mem_append.1 hl with hl | hl
          · exact (S1 l).2 (.inl (unhide hin l hl))
          · simp at hl; exact (S1 l).2 (.inr hl)
        have O1 := hide (markSet_ok (unhide ok) (unhide X50))
        have M1 := hide hm1
        clear q h1 hw1 hm1 S1 hcl'
        go_wp2
        go_roundw
        case rel => exact ⟨k + 1, markSet m x, by omega, by go_num, M1, O1, I1, U1, B1⟩
        case measure => simp [intOf]; omega
    · have e : k = ls.length := by omega
      subst e
      rw [List.take_of_length_le (Nat.le_refl _)] at hin
      go_wp2
      go_loopw [8, 9] (fun mo _ wr => ∃ (m : Mk) (more : Bool), mo = .bool more ∧ Hid (MarkAt wr w.heap.size m) ∧ Hid (MkOk m) ∧ Hid (∀ l ∈ ls, Mp m l) ∧ Hid (Under L ls (Mp m)) ∧ Hid (more = false → Stable L (Mp m)) ∧ Hid (Below w.heap.size w wr)) (fun mo _ wr => noneAt wr w.heap.size + moreN mo)
      case atStart => exact ⟨m, true, rfl, hm, ok, hin, hU, (by intro h; cases h), hb⟩
      case round =>
        clear hm ok hin hU hb
        obtain ⟨m, more, rfl, hm, ok, hin, hU, hst, hb⟩ := hrel
        cases more with
        | false =>
          have C : Hid (¬ Conf L ls) := not_conf (mp_cons (unhide ok)) (unhide hin) (unhide hst rfl)
          go_wp2
          go_ret
          exact ⟨unhide hb, false, rfl, (fun h => by cases h), fun h => absurd h (unhide C)⟩
        | true =>
          have NM : noneAt wr w.heap.size = noneM m := noneAt_eq (unhide hm)
          go_wp2
          go_loopw [8, 9] (fun mo i wr2 => ∃ (k : Nat) (m2 : Mk) (more : Bool), k ≤ L.length ∧ mo = .bool more ∧ i = .int .i64 k ∧ Hid (MarkAt wr2 w.heap.size m2) ∧ Hid (MkOk m2) ∧ Hid (∀ l ∈ ls, Mp m2 l) ∧ Hid (Under L ls (Mp m2)) ∧
              Hid (more = false → m2 = m ∧ Stable (L.take k) (Mp m2)) ∧ Hid (more = true → noneM m2 < noneM m) ∧ Hid (Below w.heap.size w wr2)) (fun _ i _ => L.length - (intOf i).toNat)
          case atStart => exact ⟨0, m, false, Nat.zero_le _, rfl, rfl, hm, ok, hin, hU, fun _ => ⟨rfl, by intro c hc; simp at hc⟩, (by intro h; cases h), hb⟩
          case round =>
            clear hm ok hin hU hb hst
            obtain ⟨k, m2, more, hk, rfl, rfl, hm, ok, hin, hU, hst, hmo, hb⟩ := hrel
            by_cases hlt : k < L.length
            · obtain ⟨uu, hcl, hrow⟩ := unhide HV k hlt
              have hx := unhide HVA (by omega)
              subst hx
              have T : Hid (L.take (k + 1) = L.take k ++ [L.getD k []]) := by
                unfold Hid; rw [List.take_succ_eq_append_getElem hlt]; simp [List.getD_eq_getElem?_getD, hlt]
              have hmem : Hid (L.getD k [] ∈ L) := by unfold Hid; simp [List.getD_eq_getElem?_getD, hlt]
              have hcl' : wr.cell? ⟨vb, k, none⟩ = some uu := by rw [(unhide hb).cell (p := ⟨vb, k, none⟩) (block_lt_of_cell hcl)]; exact hcl
              have q := open_any w.heap.size m2 (L.getD k []) uu wr (unhide hm) (unhide ok) (unhide H50 _ (unhide hmem)) (unhide HLC _ (unhide hmem)) (hrow.later (unhide hb))
              generalize L.getD k [] = c at T hmem q hrow
              obtain ⟨ra, rc, rb, rfl, _⟩ := hrow
              have C50 := hide (unhide H50 c (unhide hmem))
              clear hcl
              go_wp2_with fail
              with_reducible refine q.mono ?_
              rintro e1 w1 ⟨⟨d, rfl⟩, hres⟩
              clear q
              rcases hres with ⟨hmet, rfl⟩ | ⟨n, one, hn, rfl, ho⟩
              · have S1 : Hid (more = false → m2 = m ∧ Stable (L.take (k + 1)) (Mp m2)) := by
                  intro e
                  obtain ⟨e1, e2⟩ := unhide hst e
                  refine ⟨e1, fun x hx => ?_⟩
                  rw [unhide T] at hx
                  rcases List.mem_append.1 hx with hx | hx
                  · exact e2 x hx
                  · simp at hx; rw [hx]; exact .inl hmet
                have B1 : Hid (Below w.heap.size w (wr.drewN d)) := bel_drewN' (unhide hb) d
                have M1 : Hid (MarkAt (wr.drewN d) w.heap.size m2) := unhide hm
                clear hmet hst
                go_wp2
                go_roundw
                case rel => exact ⟨k + 1, m2, more, by omega, rfl, by go_num, M1, ok, hin, hU, S1, hmo, B1⟩
                case measure => simp [intOf]; omega
              · have B1 : Hid (Below w.heap.size w (wr.drewN d)) := bel_drewN' (unhide hb) d
                have M1 : Hid (MarkAt (wr.drewN d) w.heap.size m2) := unhide hm
                have HO := hide ho
                clear ho
                rcases Nat.lt_or_ge n 1 with h0 | h1
                · have e0 : n = 0 := by omega
                  subst e0
                  have C : Hid (Conf L ls) := (unhide HO).conf (unhide hU) (unhide hmem) (unhide C50)
                  go_wp2
                  go_ret
                  exact ⟨unhide B1, true, rfl, fun _ => unhide C, fun _ => rfl⟩
                · rcases Nat.lt_or_ge n 2 with h2 | h2
                  · have e0 : n = 1 := by omega
                    subst e0
                    have O50 := unhide C50 one ((unhide HO).one rfl).1
                    have OV := ((unhide HO).one rfl).2.1
                    have U1 := hide ((unhide HO).force (unhide hU) (unhide hmem) (unhide C50) (unhide ok))
                    have I1 : Hid (∀ l ∈ ls, Mp (markSet m2 one) l) := fun l hl => (mp_set O50 (by rw [OV]; decide) (unhide ok) l).2 (.inl (unhide hin l hl))
                    have K1 := hide (markSet_ok (unhide ok) O50)
                    have N1 := noneM_set O50 OV
                    have N2 : Hid (noneM (markSet m2 one) < noneM m) := by
                      unfold Hid
                      cases hmr : more with
                      | true => have := unhide hmo hmr; omega
                      | false => rw [(unhide hst hmr).1] at N1 ⊢; exact N1
                    have q2 := set_any w.heap.size m2 one (wr.drewN d) (unhide M1) (unhide ok) O50
                    have HOV := hide OV
                    clear N1 OV O50
                    go_wp2_with fail
                    with_reducible refine q2.mono ?_
                    rintro e2 w2 (⟨h1', rfl, rfl⟩ | ⟨h1', rfl, o, vv, hw1, hm1⟩)
                    · exact absurd (unhide HOV) (by rw [h1']; decide)
                    · have B2 : Hid (Below w.heap.size w w2) := by unfold Hid; rw [hw1]; exact (unhide B1).setCell (Nat.le_refl _) _
                      have M2 := hide hm1
                      clear q2 h1' hw1 hm1
                      go_wp2
                      go_roundw
                      case rel => exact ⟨k + 1, markSet m2 one, true, by omega, rfl, by go_num, M2, K1, I1, U1, (by intro h; cases h), fun _ => unhide N2, B2⟩
                      case measure => simp [intOf]; omega
                  · have S1 : Hid (more = false → m2 = m ∧ Stable (L.take (k + 1)) (Mp m2)) := by
                      intro e
                      obtain ⟨e1, e2⟩ := unhide hst e
                      refine ⟨e1, fun x hx => ?_⟩
                      rw [unhide T] at hx
                      rcases List.mem_append.1 hx with hx | hx
                      · exact e2 x hx
                      · simp at hx; rw [hx]; exact .inr ((unhide HO).rest h2 (unhide C50))
                    have t0 : ((n : Int) == 0) = false := by simp; omega
                    have t1 : ((n : Int) == 1) = false := by simp; omega
                    clear hst
                    go_wp2
                    go_roundw
                    case rel => exact ⟨k + 1, m2, more, by omega, rfl, by go_num, M1, ok, hin, hU, S1, hmo, B1⟩
                    case measure => simp [intOf]; omega
            · have e : k = L.length := by omega
              subst e
              rw [List.take_of_length_le (Nat.le_refl _)] at hst
              have S1 : Hid (more = false → Stable L (Mp m2)) := fun h => (unhide hst h).2
              have NN : Hid (noneAt wr w.heap.size + moreN (.bool more) < noneM m + 1) := by
                unfold Hid
                rw [noneAt_eq (unhide hm)]
                cases hmr : more with
                | true => have := unhide hmo hmr; show noneM m2 + 1 < _; omega
                | false => rw [(unhide hst hmr).1]; show noneM m + 0 < _; omega
              have NH := hide NM
              clear NM hst hmo
              go_wp2
              go_roundw
              case rel => exact ⟨m2, more, rfl, hm, ok, hin, hU, S1, hb⟩
              case measure => rw [unhide NH]; exact unhide NN
end Rd
end Go.Proofs.YtceahffmenbibaaGreatDoor
