/- Walk of the document's Read. -/
import Derived.Test.YtceahffmenbibaaGreatDoorRref4
import Derived.Test.YtceahffmenbibaaGreatDoorRmem2
namespace Go.Proofs.YtceahffmenbibaaGreatDoor
namespace Rd
open Go Go.RowKit Go.Deep
set_option linter.unusedVariables false
set_option linter.unusedSimpArgs false

theorem Tryz.infoInt' : (Tryz.prog.info? 3).map (fun i => (i.zero, i.size, i.bytes)) = some (some (.int .i64 0), 1, 8) := by kernel_rfl
theorem Tryz.infoInts' : (Tryz.prog.info? 43).map (fun i => (i.zero, i.size, i.bytes)) = some (some (.slice none 0 0), 1, 24) := by kernel_rfl

theorem toksF_ne : ∀ (l w : Bs), ∀ t ∈ toksF w l, t ≠ []
  | [], w, t, h => by
    unfold toksF at h
    cases w with
    | nil => simp at h
    | cons a r => simp at h; rw [h]; simp
  | c :: r, w, t, h => by
    unfold toksF at h
    split at h
    · split at h
      · exact toksF_ne r [] t h
      · rename_i hw
        simp at h
        rcases h with rfl | h
        · intro e; subst e; simp at hw
        · exact toksF_ne r [] t h
    · exact toksF_ne r _ t h

theorem bsl_snoc {T : List ByteArray} {k : Nat} (h : k < T.length) : bsl (T.take (k + 1)) = bsl (T.take k) ++ [T[k].data.toList] := by
  rw [List.take_succ_eq_append_getElem h]; unfold bsl; rw [List.map_append]; rfl
theorem zeros_snoc' (T : List Bs) (t : Bs) : zeros (T ++ [t]) = zeros T + if zero t then 1 else 0 := by
  unfold zeros; rw [List.filter_append]; cases h : zero t <;> simp [h]
theorem lits_snoc' (T : List Bs) (t : Bs) : lits (T ++ [t]) = lits T + if zero t then 0 else 1 := by
  unfold lits; rw [List.filter_append]; cases h : zero t <;> simp [h]
theorem okAll_snoc' (v : Bs) (T : List Bs) (t : Bs) : okAll v (T ++ [t]) = (okAll v T && (zero t || litB v t)) := by
  unfold okAll; rw [List.all_append]; simp
theorem not_okAll' {v : Bs} {T : List ByteArray} {k : Nat} (hk : k < T.length) (h : (zero T[k].data.toList || litB v T[k].data.toList) = false) : okAll v (bsl T) = false := by
  rw [Bool.eq_false_iff]; intro ha
  have := List.all_eq_true.1 ha T[k].data.toList (by simp only [bsl, List.mem_map]; exact ⟨T[k], List.getElem_mem hk, rfl⟩)
  rw [h] at this; cases this
theorem clausesTo_lens (T : List Bs) : (clausesTo T).1.length ≤ T.length ∧ (clausesTo T).2.length ≤ T.length := by
  suffices h : ∀ (T : List Bs) (st : List (List Int) × List Int) (n : Nat), st.1.length ≤ n → st.2.length ≤ n → (T.foldl clsStep st).1.length ≤ n + T.length ∧ (T.foldl clsStep st).2.length ≤ n + T.length by
    have := h T ([], []) 0 (by simp) (by simp); simpa [clausesTo_fold] using this
  intro T
  induction T with
  | nil => intro st n h1 h2; simpa using ⟨h1, h2⟩
  | cons t r ih =>
    intro st n h1 h2
    simp only [List.foldl_cons, List.length_cons]
    have key : (clsStep st t).1.length ≤ n + 1 ∧ (clsStep st t).2.length ≤ n + 1 := by
      unfold clsStep; split <;> simp <;> omega
    have := ih (clsStep st t) (n + 1) key.1 key.2
    omega
theorem pline_num {l v c : Bs} (h : pline l = some (v, c)) : numB v = true := by
  unfold pline at h
  split at h
  · split at h
    · rename_i hc
      simp only [Bool.and_eq_true] at hc
      simp only [Option.some.injEq, Prod.mk.injEq] at h
      rw [← h.1]; exact hc.1.2
    · cases h
  · cases h
theorem headF_num : ∀ (f : Nat) {l v c r : Bs}, headF f l = some (v, c, r) → numB v = true
  | 0, l, v, c, r, h => by simp [headF] at h
  | f + 1, l, v, c, r, h => by
    unfold headF at h
    split at h
    · split at h
      · exact headF_num f h
      · obtain ⟨x, hx, e⟩ := Option.map_eq_some_iff.1 h
        simp only [Prod.mk.injEq] at e
        obtain ⟨x1, x2⟩ := x
        simp only at e
        rw [← e.1]
        exact pline_num hx
    · cases h

theorem size_pos_of {x : ByteArray} (h : x.data.toList ≠ []) : 0 < x.size := by
  rcases Nat.eq_zero_or_pos x.size with h0 | h0
  · exact absurd (List.eq_nil_of_length_eq_zero (by simpa using h0)) h
  · exact h0
theorem head_get {t : ByteArray} (h : 0 < t.size) : t.data.toList.head? = some t[0] := by
  rw [List.head?_eq_getElem?, List.getElem?_eq_getElem (by simpa using h)]; rfl
theorem strip_yes {t : ByteArray} (h : 0 < t.size) (hc : ((t[0].toNat : Int) == 45) = true) : (t.extract 1 t.size).data.toList = strip t.data.toList ∧ (∀ z, litVal t.data.toList = z ↔ -(value9 (t.extract 1 t.size).data.toList) = z) := by
  have e : t[0] = 45 := by rw [← UInt8.toNat_inj]; simp at hc; simp; omega
  have hh := head_get h
  rw [e] at hh
  have hs : strip t.data.toList = t.data.toList.tail := by unfold strip; rw [if_pos hh]
  have h1 : (t.extract 1 t.size).data.toList = strip t.data.toList := by
    rw [hs, extract_sub, sub, List.take_of_length_le (by simp), List.drop_one]
  refine ⟨h1, fun z => ?_⟩
  unfold litVal; rw [if_pos hh, h1]
theorem strip_no {t : ByteArray} (h : 0 < t.size) (hc : ((t[0].toNat : Int) == 45) = false) : t.data.toList = strip t.data.toList ∧ litVal t.data.toList = value9 t.data.toList := by
  have e : ¬ t[0] = 45 := by intro e; rw [e] at hc; simp at hc
  have hh := head_get h
  have hn : ¬ t.data.toList.head? = some 45 := by rw [hh]; simpa using e
  have hs : strip t.data.toList = t.data.toList := by unfold strip; rw [if_neg hn]
  exact ⟨hs.symm, by unfold litVal; rw [if_neg hn, hs]⟩

theorem digits50 (w : World) : Calls Tryz.prog 84 #[.int .i64 50] w fun e w' => ∃ x : ByteArray, e = .returned (.string x) ∧ Hid (x.data.toList = [53, 48]) ∧ Below w.heap.size w w' := by
  refine (digits_any 50 w (by omega)).mono ?_
  rintro e w' ⟨x, rfl, hx, hb⟩
  exact ⟨x, rfl, by unfold Hid; rw [unhide hx]; decide +kernel, hb⟩
theorem own_shape {w' : World} {B : Nat} {v : Value} {n : Nat} {xs : List Value} {t : TypeId} (h : w'.ownsRow B t 1 v n xs) : ∃ a c, v = .slice a n c := by
  rcases h.2 with ⟨rfl, h0⟩ | ⟨g, cap, cur, rfl, _⟩
  · exact ⟨none, 0, by rw [h0]⟩
  · exact ⟨_, cap, rfl⟩
theorem row_any {w' : World} {B : Nat} {v : Value} {P : List ByteArray} {t : TypeId} (h : w'.ownsRow B t 1 v P.length (strV P)) :
    ∃ la cap g, v = .slice la P.length cap ∧ (0 < P.length → la = some ⟨g, 0, none⟩ ∧ g < w'.heap.size) ∧ ∀ j (hj : j < P.length), w'.cell? ⟨g, j, none⟩ = some (.string P[j]) := by
  have hc := h
  rcases h.2 with ⟨rfl, h0⟩ | ⟨g, cap, cur, rfl, _⟩
  · exact ⟨none, 0, 0, by rw [h0], fun hh => by omega, fun j hj => by omega⟩
  · refine ⟨_, cap, g, rfl, fun _ => ⟨rfl, (hc.lt g rfl).2⟩, fun j hj => ?_⟩
    have := hc.cells (g := g) rfl j (.string P[j]) (by simp [strV, hj])
    simpa [Addr.add_lit] using this

set_option maxHeartbeats 4000000 in
set_option maxRecDepth 100000 in
theorem rread_any (s : ByteArray) (w : World) (hs : s.size ≤ maxLen) :
    Calls Tryz.prog 47 #[.string s] w fun e w' => Below w.heap.size w w' ∧
      ∃ u, e = .returned (.tuple #[.int .i64 (readB s.data.toList).1, u, .int .i64 (readB s.data.toList).2.2]) ∧ RdLists w' u (readB s.data.toList).2.1 ∧ OwnL 43 3 w.heap.size w' u (readB s.data.toList).2.1 := by
  unfold maxLen at hs
  by_cases h0 : 20000 < s.size
  · have E : Hid (readB s.data.toList = (0, [], 1)) := by unfold Hid readB; rw [if_pos (by simpa using h0)]
    go_enter Tryz.func47, Tryz.ntmps47
    go_wp2
    go_ret3
    exact ⟨Below.refl _ _, _, by rw [unhide E]; rfl, by rw [unhide E]; exact ⟨rdLists_nil _, ownL_nil _ _ _ _⟩⟩
  · have h0' : ¬ (20000 : Int) < (s.size : Int) := by omega
    have hs2 : s.size ≤ 20000 := by omega
    have R0 : Hid (readB s.data.toList = match headF (s.size + 1) s.data.toList with | none => (0, [], 2) | some (v, c, r) => body v c (toks r)) := by
      unfold Hid readB; rw [if_neg (by simpa using h0), show s.data.toList.length = s.size from by simp]; rfl
    obtain ⟨i0, hi, hz0, hz1, hz2⟩ := info_parts Tryz.infoInt'
    obtain ⟨j0, hj, hy0, hy1, hy2⟩ := info_parts Tryz.infoInts'
    go_enter Tryz.func47, Tryz.ntmps47
    go_wp2_with fail
    refine (head_any s w hs2).mono ?_
    rintro e w1 ⟨hb1, ⟨hh, rfl⟩ | ⟨v, c, at', hh, hat, hvs, hcs, rfl⟩⟩
    · have E : Hid (readB s.data.toList = (0, [], 2)) := by unfold Hid; rw [unhide R0, hh]
      have HB1 := hide hb1
      clear hh hb1 R0
      go_wp2
      go_ret3
      exact ⟨unhide HB1, _, by rw [unhide E]; rfl, by rw [unhide E]; exact ⟨rdLists_nil _, ownL_nil _ _ _ _⟩⟩
    · have R1 : Hid (readB s.data.toList = body v.data.toList c.data.toList (toks (s.data.toList.drop at'))) := by unfold Hid; rw [unhide R0, hh]
      have NV := hide (headF_num _ hh)
      have HB1 := hide hb1
      clear hh hb1 R0
      go_wp2_with fail
      refine (tokens_any (s.extract at' s.size) w1 (by simp; omega)).mono ?_
      rintro e w2 ⟨lv, T, rfl, hT, hown, hb2, hTn, hTs⟩
      have hT' : Hid (bsl T = toks (s.data.toList.drop at')) := by
        unfold Hid; rw [unhide hT, extract_sub, sub, List.take_of_length_le (by simp)]
      rw [← unhide hT'] at R1
      have TN : Hid (∀ j (h : j < T.length), 0 < T[j].size) := fun j h => by
        refine size_pos_of (toksF_ne (s.data.toList.drop at') [] _ ?_)
        show _ ∈ toks _
        rw [← unhide hT']
        simp only [bsl, List.mem_map]; exact ⟨_, List.getElem_mem h, rfl⟩
      clear hT hT'
      obtain ⟨la, cap, tg, rfl, hla, hcell⟩ := row_any (unhide hown)
      have HB2 : Hid (Below w.heap.size w w2) := (unhide HB1).trans (hb2.mono (unhide HB1).size)
      have s12 := (unhide HB2).size
      have HCe := hide hcell
      have HLa := hide hla
      clear hown hb2 hcell hla HB1
      go_wp2
      go_loopw [9, 10, 11, 12] (fun cv clv lt i wr => ∃ (k : Nat) (us : List Value), k ≤ T.length ∧ i = .int .i64 k ∧ lt = .int .i64 (lits (bsl (T.take k))) ∧ Hid (okAll v.data.toList (bsl (T.take k)) = true) ∧
          Hid (RMem 43 3 w2.heap.size wr cv clv us (clausesTo (bsl (T.take k))).1 (clausesTo (bsl (T.take k))).2) ∧ Hid (Below w2.heap.size w2 wr)) (fun _ _ _ i _ => T.length - (intOf i).toNat)
      case atStart => exact ⟨0, [], Nat.zero_le _, rfl, rfl, rfl, ⟨World.ownsRow_nil _ _ _ _, World.ownsRow_nil _ _ _ _, rfl, fun j u h => by simp at h⟩, Below.refl _ _⟩
      case round =>
        obtain ⟨k, us, hk, rfl, rfl, hok, hmem, hb⟩ := hrel
        have cl := clausesTo_lens (bsl (T.take k))
        have tl : (bsl (T.take k)).length = k := by simp [bsl]; omega
        have ll : lits (bsl (T.take k)) ≤ k := by have := List.length_filter_le (fun t => !zero t) (bsl (T.take k)); unfold lits; omega
        have sb := (unhide hb).size
        obtain ⟨cl1, cl2⟩ := cl
        rw [tl] at cl1 cl2
        clear tl
        have ul : us.length ≤ k := by rw [(unhide hmem).len]; omega
        obtain ⟨ca, cc, hclv⟩ := own_shape (unhide hmem).row
        subst hclv
        by_cases hlt : k < T.length
        · have ck : wr.cell? ⟨tg, k, none⟩ = some (.string T[k]) := by
            rw [(unhide hb).cell (p := ⟨tg, k, none⟩) (unhide HLa (by omega)).2]; exact unhide HCe k hlt
          have hla' := (unhide HLa (by omega)).1
          subst hla'
          have hsz := unhide hTs T[k] (List.getElem_mem hlt)
          have hpos := unhide TN k hlt
          have S := hide (bsl_snoc hlt)
          have NK : Hid ((zero T[k].data.toList || litB v.data.toList T[k].data.toList) = false → okAll v.data.toList (bsl T) = false) := fun h => not_okAll' hlt h
          obtain ⟨t, ht⟩ : ∃ t, t = T[k] := ⟨_, rfl⟩
          rw [← ht] at ck hsz S NK hpos
          clear ht
          cases c1 : (t.toList == [48]) with
          | true =>
            have Z : Hid (zero t.data.toList = true) := by unfold Hid zero; rw [← ByteArray.toList_eq]; exact c1
            go_wp2_with (at_builtin; refine wpList_append_own_at _ rfl _ _ 32 rfl w2.heap.size 43 j0 (.slice none 0 0) 1 24 Tryz.underlying32 hj hy0 hy1 hy2 rfl (by decide) _ _ _ rfl ((unhide hmem).outer.alloc _) ⟨wr.heap.size, 0, none⟩ 1 1 [.slice ca _ cc] rfl rfl (cell_one_new _ _ _) (by simp [Value.oneCell']) (by unfold maxLen; omega) (by omega) (by simp; omega) ?_)
            intro cv' w3 hown' hgrow _ hat
            have M : Hid (RMem 43 3 w2.heap.size w3 cv' (.slice none 0 0) (us ++ [.slice ca (clausesTo (bsl (T.take k))).2.length cc]) (clausesTo (bsl (T.take (k + 1)))).1 (clausesTo (bsl (T.take (k + 1)))).2) := by
              unfold Hid; rw [unhide S, clausesTo_snoc, unhide Z]
              exact (unhide hmem).zero (by decide) hown' hgrow
            have B3 : Hid (Below w2.heap.size w2 w3) := ((unhide hb).alloc sb _).grown hgrow (by simp; omega) (fun k hk => ((unhide hmem).outer.lt k hk).1)
            clear hown' hgrow hat
            go_wp2
            go_roundw
            case rel =>
              refine ⟨k + 1, _, by omega, by go_num, ?_, ?_, M, B3⟩
              · rw [unhide S, lits_snoc', unhide Z]; rfl
              · unfold Hid; rw [unhide S, okAll_snoc', unhide hok, unhide Z]; rfl
            case measure => simp [intOf]; omega
          | false =>
            have Z : Hid (zero t.data.toList = false) := by unfold Hid zero; rw [← ByteArray.toList_eq]; exact c1
            cases cm : ((t[0].toNat : Int) == 45) with
            | true =>
              obtain ⟨xs1, xv1⟩ := strip_yes hpos cm
              go_wp2_with fail
              obtain ⟨x, hx⟩ : ∃ x, x = t.extract 1 t.size := ⟨_, rfl⟩
              rw [← hx] at xs1 xv1 ⊢
              have xz : x.size ≤ 20000 := by rw [hx]; simp; omega
              have XS := hide xs1
              have XV : Hid (litVal t.data.toList = -(value9 x.data.toList)) := (xv1 _).2 rfl
              clear xs1 xv1 hx
              refine (number_any x _ (by unfold maxLen; omega)).mono ?_
              rintro e3 w3 ⟨rfl, rfl⟩
              cases n1 : numB x.data.toList with
              | false =>
                have NO := hide (unhide NK (by rw [unhide Z, litB, ← unhide XS, n1]; rfl))
                have E : Hid (readB s.data.toList = (0, [], 2)) := by unfold Hid; rw [unhide R1, body, unhide NO]; rfl
                go_wp2
                go_ret3
                exact ⟨(unhide HB2).trans ((unhide hb).mono s12), _, by rw [unhide E]; rfl, by rw [unhide E]; exact ⟨rdLists_nil _, ownL_nil _ _ _ _⟩⟩
              | true =>
                cases z1 : (x.toList == [48]) with
                | true =>
                  have NO := hide (unhide NK (by rw [unhide Z, litB, ← unhide XS, n1, ← ByteArray.toList_eq (bs := x), z1]; rfl))
                  have E : Hid (readB s.data.toList = (0, [], 2)) := by unfold Hid; rw [unhide R1, body, unhide NO]; rfl
                  go_wp2
                  go_ret3
                  exact ⟨(unhide HB2).trans ((unhide hb).mono s12), _, by rw [unhide E]; rfl, by rw [unhide E]; exact ⟨rdLists_nil _, ownL_nil _ _ _ _⟩⟩
                | false =>
                  have N1 := hide n1
                  clear n1
                  go_wp2_with fail
                  refine (above_any x v _ (by unfold maxLen; omega) (by unfold maxLen; omega)).mono ?_
                  rintro e4 w4 ⟨rfl, rfl⟩
                  cases a1 : above x.data.toList v.data.toList with
                  | true =>
                    have NO := hide (unhide NK (by rw [unhide Z, litB, ← unhide XS, unhide N1, ← ByteArray.toList_eq (bs := x), z1, ByteArray.toList_eq, a1]; rfl))
                    have E : Hid (readB s.data.toList = (0, [], 2)) := by unfold Hid; rw [unhide R1, body, unhide NO]; rfl
                    go_wp2
                    go_ret3
                    exact ⟨(unhide HB2).trans ((unhide hb).mono s12), _, by rw [unhide E]; rfl, by rw [unhide E]; exact ⟨rdLists_nil _, ownL_nil _ _ _ _⟩⟩
                  | false =>
                    have LT : Hid (litB v.data.toList t.data.toList = true) := by
                      unfold Hid; rw [litB, ← unhide XS, unhide N1, ← ByteArray.toList_eq (bs := x), z1, ByteArray.toList_eq, a1]; rfl
                    have dg := (numB_parts (unhide N1)).1
                    have vb := valTo_bd (x.data.toList.take 9) (List.all_eq_true.2 fun y hy => List.all_eq_true.1 dg y (List.mem_of_mem_take hy)) 9 (by simp; omega)
                    have vb' : 0 ≤ value9 x.data.toList ∧ value9 x.data.toList < 1000000000 := vb
                    have DG := hide dg
                    clear vb dg a1
                    go_wp2_with fail
                    refine (value_any x _ (unhide DG)).mono ?_
                    rintro e5 w5 ⟨rfl, rfl⟩
                    obtain ⟨n, hn⟩ : ∃ n, n = value9 x.data.toList := ⟨_, rfl⟩
                    rw [← hn] at vb' XV ⊢
                    clear hn
                    obtain ⟨vb1, vb2⟩ := vb'
                    go_wp2_with (at_builtin; refine wpList_append_own_at _ rfl _ _ 43 rfl w2.heap.size 3 i0 (.int .i64 0) 1 8 Tryz.underlying43 hi hz0 hz1 hz2 rfl (by decide) _ _ _ rfl ((unhide hmem).row.alloc _) ⟨w5.heap.size, 0, none⟩ 1 1 [_] rfl rfl (cell_one_new _ _ _) (by simp [Value.oneCell']) (by unfold maxLen; omega) (by omega) (by simp; omega) ?_)
                    intro clv' w6 hown' hgrow _ hat'
                    have M : Hid (RMem 43 3 w2.heap.size w6 u9 clv' us (clausesTo (bsl (T.take (k + 1)))).1 (clausesTo (bsl (T.take (k + 1)))).2) := by
                      unfold Hid; rw [unhide S, clausesTo_snoc, unhide Z, if_neg (by simp), unhide XV]
                      exact (unhide hmem).lit (by decide) hown' hgrow (by simpa using hat')
                    have B3 : Hid (Below w2.heap.size w2 w6) := ((unhide hb).alloc sb _).grown hgrow (by simp; omega) (fun k hk => ((unhide hmem).row.lt k hk).1)
                    clear hown' hgrow hat'
                    go_wp2
                    go_roundw
                    case rel =>
                      refine ⟨k + 1, _, by omega, by go_num, ?_, ?_, M, B3⟩
                      · rw [unhide S, lits_snoc', unhide Z]; rfl
                      · unfold Hid; rw [unhide S, okAll_snoc', unhide hok, unhide Z, unhide LT]; rfl
                    case measure => simp [intOf]; omega
            | false =>
              obtain ⟨xs1, xv1⟩ := strip_no hpos cm
              go_wp2_with fail
              have xz : t.size ≤ 20000 := by omega
              have XS := hide xs1
              have XV := hide xv1
              clear xs1 xv1
              refine (number_any t _ (by unfold maxLen; omega)).mono ?_
              rintro e3 w3 ⟨rfl, rfl⟩
              cases n1 : numB t.data.toList with
              | false =>
                have NO := hide (unhide NK (by rw [unhide Z, litB, ← unhide XS, n1]; rfl))
                have E : Hid (readB s.data.toList = (0, [], 2)) := by unfold Hid; rw [unhide R1, body, unhide NO]; rfl
                go_wp2
                go_ret3
                exact ⟨(unhide HB2).trans ((unhide hb).mono s12), _, by rw [unhide E]; rfl, by rw [unhide E]; exact ⟨rdLists_nil _, ownL_nil _ _ _ _⟩⟩
              | true =>
                have z1 := c1
                · have N1 := hide n1
                  clear n1
                  go_wp2_with fail
                  refine (above_any t v _ (by unfold maxLen; omega) (by unfold maxLen; omega)).mono ?_
                  rintro e4 w4 ⟨rfl, rfl⟩
                  cases a1 : above t.data.toList v.data.toList with
                  | true =>
                    have NO := hide (unhide NK (by rw [unhide Z, litB, ← unhide XS, unhide N1, ← ByteArray.toList_eq (bs := t), z1, ByteArray.toList_eq, a1]; rfl))
                    have E : Hid (readB s.data.toList = (0, [], 2)) := by unfold Hid; rw [unhide R1, body, unhide NO]; rfl
                    go_wp2
                    go_ret3
                    exact ⟨(unhide HB2).trans ((unhide hb).mono s12), _, by rw [unhide E]; rfl, by rw [unhide E]; exact ⟨rdLists_nil _, ownL_nil _ _ _ _⟩⟩
                  | false =>
                    have LT : Hid (litB v.data.toList t.data.toList = true) := by
                      unfold Hid; rw [litB, ← unhide XS, unhide N1, ← ByteArray.toList_eq (bs := t), z1, ByteArray.toList_eq, a1]; rfl
                    have dg := (numB_parts (unhide N1)).1
                    have vb := valTo_bd (t.data.toList.take 9) (List.all_eq_true.2 fun y hy => List.all_eq_true.1 dg y (List.mem_of_mem_take hy)) 9 (by simp; omega)
                    have vb' : 0 ≤ value9 t.data.toList ∧ value9 t.data.toList < 1000000000 := vb
                    have DG := hide dg
                    clear vb dg a1
                    go_wp2_with fail
                    refine (value_any t _ (unhide DG)).mono ?_
                    rintro e5 w5 ⟨rfl, rfl⟩
                    obtain ⟨n, hn⟩ : ∃ n, n = value9 t.data.toList := ⟨_, rfl⟩
                    rw [← hn] at vb' XV ⊢
                    clear hn
                    obtain ⟨vb1, vb2⟩ := vb'
                    go_wp2_with (at_builtin; refine wpList_append_own_at _ rfl _ _ 43 rfl w2.heap.size 3 i0 (.int .i64 0) 1 8 Tryz.underlying43 hi hz0 hz1 hz2 rfl (by decide) _ _ _ rfl ((unhide hmem).row.alloc _) ⟨w5.heap.size, 0, none⟩ 1 1 [_] rfl rfl (cell_one_new _ _ _) (by simp [Value.oneCell']) (by unfold maxLen; omega) (by omega) (by simp; omega) ?_)
                    intro clv' w6 hown' hgrow _ hat'
                    have M : Hid (RMem 43 3 w2.heap.size w6 u9 clv' us (clausesTo (bsl (T.take (k + 1)))).1 (clausesTo (bsl (T.take (k + 1)))).2) := by
                      unfold Hid; rw [unhide S, clausesTo_snoc, unhide Z, if_neg (by simp), unhide XV]
                      exact (unhide hmem).lit (by decide) hown' hgrow (by simpa using hat')
                    have B3 : Hid (Below w2.heap.size w2 w6) := ((unhide hb).alloc sb _).grown hgrow (by simp; omega) (fun k hk => ((unhide hmem).row.lt k hk).1)
                    clear hown' hgrow hat'
                    go_wp2
                    go_roundw
                    case rel =>
                      refine ⟨k + 1, _, by omega, by go_num, ?_, ?_, M, B3⟩
                      · rw [unhide S, lits_snoc', unhide Z]; rfl
                      · unfold Hid; rw [unhide S, okAll_snoc', unhide hok, unhide Z, unhide LT]; rfl
                    case measure => simp [intOf]; omega
        · have e1 : k = T.length := by omega
          subst e1
          rw [List.take_of_length_le (Nat.le_refl _)] at hok hmem cl1 cl2 ll ⊢
          have RD := hide (And.intro (unhide hmem).read ((unhide hmem).ownL.mono s12))
          have R2 : Hid (readB s.data.toList = if (clausesTo (bsl T)).2.isEmpty && Lib.decDigits (clausesTo (bsl T)).1.length == c.data.toList then (if above v.data.toList [53, 48] || decide (700 < lits (bsl T)) then (0, [], 1) else (value9 v.data.toList, (clausesTo (bsl T)).1, 0)) else (0, [], 2)) := by
            unfold Hid; rw [unhide R1, body, unhide hok]; rfl
          clear R1 hok
          have BW : Hid (Below w.heap.size w wr) := (unhide HB2).trans ((unhide hb).mono s12)
          obtain ⟨oa, oc, hocv⟩ := own_shape (unhide hmem).outer
          subst hocv
          rw [(unhide hmem).len] at RD ⊢
          clear hmem
          obtain ⟨cs, hcs'⟩ : ∃ cs, cs = (clausesTo (bsl T)).1 := ⟨_, rfl⟩
          obtain ⟨cur, hcur⟩ : ∃ cur, cur = (clausesTo (bsl T)).2 := ⟨_, rfl⟩
          rw [← hcs', ← hcur] at R2
          rw [← hcs'] at cl1 RD
          rw [← hcur] at cl2
          rw [← hcs', ← hcur]
          clear hcs' hcur
          by_cases hc0 : cur = []
          · subst hc0
            go_wp2_with fail
            refine (digits_any cs.length _ (by omega)).mono ?_
            rintro e3 w3 ⟨y, rfl, hy, hb3⟩
            have B3 : Hid (Below w.heap.size w w3) := (unhide BW).trans (hb3.mono (unhide BW).size)
            have RD3 := hide (And.intro ((unhide RD).1.later hb3) ((unhide RD).2.later hb3))
            clear hb3 RD
            cases c3 : (!y.toList == c.toList) with
            | true =>
              have E : Hid (readB s.data.toList = (0, [], 2)) := by
                unfold Hid; rw [unhide R2, ← unhide hy, ← ByteArray.toList_eq, ← ByteArray.toList_eq]
                simp only [Bool.not_eq_true'] at c3
                rw [c3]; rfl
              go_wp2
              go_ret3
              exact ⟨unhide B3, _, by rw [unhide E]; rfl, by rw [unhide E]; exact ⟨rdLists_nil _, ownL_nil _ _ _ _⟩⟩
            | false =>
              have R3 : Hid (readB s.data.toList = if above v.data.toList [53, 48] || decide (700 < lits (bsl T)) then (0, [], 1) else (value9 v.data.toList, cs, 0)) := by
                unfold Hid; rw [unhide R2, ← unhide hy, ← ByteArray.toList_eq, ← ByteArray.toList_eq]
                simp only [Bool.not_eq_false'] at c3
                rw [c3]; rfl
              clear R2
              go_wp2_with fail
              refine (digits50 _).mono ?_
              rintro e4 w4 ⟨y4, rfl, hy4, hb4⟩
              have B4 : Hid (Below w.heap.size w w4) := (unhide B3).trans (hb4.mono (unhide B3).size)
              have RD4 := hide (And.intro ((unhide RD3).1.later hb4) ((unhide RD3).2.later hb4))
              have y4z : y4.size ≤ 20000 := by
                have := congrArg List.length (unhide hy4); simp at this; omega
              clear hb4 RD3
              go_wp2_with fail
              refine (above_any v y4 _ (by unfold maxLen; omega) (by unfold maxLen; omega)).mono ?_
              rintro e5 w5 ⟨rfl, rfl⟩
              rw [unhide hy4]
              cases a5 : above v.data.toList [53, 48] with
              | true =>
                have E : Hid (readB s.data.toList = (0, [], 1)) := by unfold Hid; rw [unhide R3, a5]; rfl
                go_wp2
                go_ret3
                exact ⟨unhide B4, _, by rw [unhide E]; rfl, by rw [unhide E]; exact ⟨rdLists_nil _, ownL_nil _ _ _ _⟩⟩
              | false =>
                by_cases l7 : 700 < lits (bsl T)
                · have E : Hid (readB s.data.toList = (0, [], 1)) := by unfold Hid; rw [unhide R3, a5]; simp [l7]
                  go_wp2
                  go_ret3
                  exact ⟨unhide B4, _, by rw [unhide E]; rfl, by rw [unhide E]; exact ⟨rdLists_nil _, ownL_nil _ _ _ _⟩⟩
                · have E : Hid (readB s.data.toList = (value9 v.data.toList, cs, 0)) := by unfold Hid; rw [unhide R3, a5]; simp [l7]
                  clear R3 a5
                  go_wp2_with fail
                  refine (value_any v _ (numB_parts (unhide NV)).1).mono ?_
                  rintro e6 w6 ⟨rfl, rfl⟩
                  go_wp2
                  go_ret3
                  exact ⟨unhide B4, _, by rw [unhide E]; rfl, by rw [unhide E]; exact unhide RD4⟩
          · have hcl : 0 < cur.length := by cases cur <;> simp at hc0 ⊢
            have E : Hid (readB s.data.toList = (0, [], 2)) := by
              unfold Hid; rw [unhide R2]
              have : cur.isEmpty = false := by simpa using hc0
              rw [this]; rfl
            go_wp2
            go_ret3
            exact ⟨unhide BW, _, by rw [unhide E]; rfl, by rw [unhide E]; exact ⟨rdLists_nil _, ownL_nil _ _ _ _⟩⟩
end Rd
end Go.Proofs.YtceahffmenbibaaGreatDoor
