/- Walk of the document's line. -/
import Derived.Test.YtceahffmenbibaaGreatDoorCref7
import Derived.Test.YtceahffmenbibaaGreatDoorCset
import Derived.Deep.RegionLaw

namespace Go.Proofs.YtceahffmenbibaaGreatDoor
namespace Rd
open Go Go.RowKit Go.Deep
set_option linter.unusedVariables false
set_option linter.unusedSimpArgs false

theorem bsl_split {Q : List ByteArray} {m : Nat} (h : Q.length = m + 1) : bsl Q = bsl (Q.take m) ++ [(Q[m]'(by omega)).data.toList] := by
  have h1 : Q = Q.take m ++ [Q[m]'(by omega)] := by
    rw [← List.take_succ_eq_append_getElem (by omega), List.take_of_length_le (by omega)]
  conv => lhs; rw [h1]
  unfold bsl; rw [List.map_append]; rfl
theorem all_snoc' (f : Bs → Bool) (Q : List ByteArray) (k : Nat) (hk : k < Q.length) : (bsl (Q.take (k + 1))).all f = ((bsl (Q.take k)).all f && f Q[k].data.toList) := by
  rw [bsl_snoc hk, List.all_append]; simp
theorem map_snoc' (Q : List ByteArray) (k : Nat) (hk : k < Q.length) : (bsl (Q.take (k + 1))).map litVal = (bsl (Q.take k)).map litVal ++ [litVal Q[k].data.toList] := by
  rw [bsl_snoc hk, List.map_append]; rfl
theorem all_not' (f : Bs → Bool) (Q : List ByteArray) (m k : Nat) (hm : m ≤ Q.length) (hk : k < m) (h : f (Q[k]'(by omega)).data.toList = false) : (bsl (Q.take m)).all f = false := by
  rw [Bool.eq_false_iff]; intro ha
  have hmem : (Q[k]'(by omega)).data.toList ∈ bsl (Q.take m) := by
    simp only [bsl, List.mem_map]
    exact ⟨_, List.mem_take_iff_getElem.2 ⟨k, by omega, rfl⟩, rfl⟩
  rw [List.all_eq_true.1 ha _ hmem] at h; cases h

theorem rowIs_two (w : World) (x y : Value) (t : TypeId) : (w.alloc (.cells #[x, y] t)).rowIs w.heap.size t 2 (pairF x y) :=
  ⟨_, blk_alloc_new _ _, rfl, fun i hi => by match i, hi with | 0, _ => rfl | 1, _ => rfl⟩
theorem rowIs_two' (w : World) (o : Obj) (x y : Value) (t : TypeId) : ((w.alloc o).alloc (.cells #[x, y] t)).rowIs (w.heap.size + 1) t 2 (pairF x y) := by
  have := rowIs_two (w.alloc o) x y t
  simpa using this

/-- what a line comes to -/
def LineRet (V : Nat) (s : ByteArray) (w w' : World) (e : Ending) : Prop :=
  (lineB (Lib.decDigits V) s.data.toList = none ∧ ∃ g a n c, e = .returned (.tuple #[.agg #[.bool g, .slice a n c], .bool false])) ∨
  ∃ g c u, lineB (Lib.decDigits V) s.data.toList = some (g, c) ∧ e = .returned (.tuple #[.agg #[.bool g, u], .bool true]) ∧ c.length ≤ s.size ∧ w'.ownsRow w.heap.size 3 1 u c.length (intsV c)

/-- the loop's relation -/
def LRel (H H1 tg o m V : Nat) (Q : List ByteArray) (w : World) (g : Bool) (i : Value) (wr : World) : Prop :=
  ∃ (k : Nat) (u : Value), k ≤ m ∧ i = .int .i64 k ∧ Hid (LineSt H H1 tg o Q w g u ((bsl (Q.take k)).map litVal) wr) ∧ Hid ((bsl (Q.take k)).all (litB (Lib.decDigits V)) = true)
theorem ret_int' {a b : Int} (h : a = b) : Value.int .i64 a = .int .i64 b := by rw [h]

set_option maxHeartbeats 4000000 in
set_option maxRecDepth 100000 in
theorem line_any (s : ByteArray) (V : Nat) (w : World) (hs : s.size ≤ 1048576) (hV : V ≤ 50) :
    Calls Tryz.prog 87 #[.string s, .int .i64 V] w fun e w' => Below w.heap.size w w' ∧ LineRet V s w w' e := by
  obtain ⟨i0, hi, hz0, hz1, hz2⟩ := info_parts Tryz.infoInt'
  go_enter Tryz.func87, Tryz.ntmps87
  go_wp2_with fail
  refine (split_any 32 s _ hs).mono ?_
  rintro e1 w1 ⟨lv, P, rfl, hP, hown, hb1, hPs⟩
  have hne : P.length ≠ 0 := by
    have := splitB_ne 32 s.data.toList
    rw [← unhide hP] at this; simpa [bsl] using this
  have hpl : P.length ≤ s.size + 1 := by
    have h1 : (bsl P).length = P.length := by simp [bsl]
    rw [← h1, unhide hP]; unfold splitB
    have := splitTo_len 32 s.data.toList
    simp at this ⊢; exact this
  obtain ⟨la, cap, tg, rfl, hla, hcell⟩ := row_any (unhide hown)
  obtain ⟨hla1, hla2⟩ := hla (by omega)
  subst hla1
  have tgl := ((unhide hown).lt tg rfl).1
  have hcap : P.length ≤ cap := by
    rcases (unhide hown).2 with ⟨e, _⟩ | ⟨g', cap', cur, e, _, _, hn, _⟩
    · cases e
    · cases e; exact hn
  have ST : Hid (LineSt w.heap.size w1.heap.size tg 0 P w false (.slice none 0 0) [] w1) := {
    res := (((rowIs_two w (.bool false) (.slice none 0 0) 148).alloc _).of_block (hb1.block _ (by simp; omega)))
    out := (rowIs_two' w _ (.bool false) (.slice none 0 0) 148).of_block (hb1.block _ (by simp))
    own := World.ownsRow_nil _ _ _ _
    txt := fun j hj => by rw [Nat.zero_add]; exact hcell j hj
    below := (below2 (Below.refl _ _) (Nat.le_refl _) _ _).trans (hb1.mono (by simp; omega))
    size := Nat.le_refl _
    h1 := by have := hb1.size; simp at this; omega
    htg := hla2
    htg2 := by simp at tgl; omega }
  have hP0 : 0 < P.length := by omega
  have c0 := hcell 0 hP0
  have HD : Hid (bsl P = (P[0]'hP0).data.toList :: bsl (P.drop 1)) := by
    unfold Hid
    have : P = P[0]'hP0 :: P.drop 1 := by cases P with | nil => simp at hne | cons a b => simp
    conv => lhs; rw [this]
    rfl
  have LP : Hid (∀ x ∈ P, x.size ≤ 1048576) := fun x hx => Nat.le_trans (unhide hPs x hx) hs
  clear hown hb1 hla hcell hPs hla2 tgl
  obtain ⟨p0, hp0⟩ : ∃ p0, p0 = P[0]'hP0 := ⟨_, rfl⟩
  rw [← hp0] at c0 HD
  clear hp0
  cases hd : (p0.toList == [100]) with
  | false =>
    have LB : Hid (lineB (Lib.decDigits V) s.data.toList = (litsF (Lib.decDigits V) (bsl P)).map fun c => (false, c)) := by
      unfold Hid lineB
      rw [← unhide hP, unhide HD, if_neg]
      intro e
      simp only [List.head?_cons, Option.some.injEq] at e
      rw [ByteArray.toList_eq, e] at hd; simp at hd
    clear hP HD
    obtain ⟨m, hm⟩ : ∃ m, P.length = m + 1 := ⟨P.length - 1, by omega⟩
    have cl := (unhide ST).txt m (by omega)
    rw [Nat.zero_add] at cl
    have r0 := (unhide ST).res.cell (i := 0) (by omega)
    have r1 := (unhide ST).res.cell (i := 1) (by omega)
    have f0 := (unhide ST).res.frozen 0
    have f1 := (unhide ST).res.frozen 1
    have o0 := (unhide ST).out.cell (i := 0) (by omega)
    have o1 := (unhide ST).out.cell (i := 1) (by omega)
    unfold pairF at r0 r1 o0 o1
    simp only [if_true, show ¬ (1 = 0) by decide, if_false] at r0 r1 o0 o1
    have LS := hide (bsl_split hm)
    have hml : m < P.length := by omega
    generalize hz : P[m]'hml = z at cl LS
    clear hz
    cases hzr : (z.toList == [48]) with
    | false =>
      have LN : Hid (lineB (Lib.decDigits V) s.data.toList = none) := by
        unfold Hid; rw [unhide LB, unhide LS, litsF_last]
        have : zero z.data.toList = false := by unfold zero; rw [← ByteArray.toList_eq]; exact hzr
        rw [this]; rfl
      have hzr' : (!z.toList == [48]) = true := by rw [hzr]; rfl
      go_wp2
      all_goals
        refine bodyPost_ret (v := .tuple #[.agg #[.bool false, .slice none 0 0], .bool false]) (by simp [results, Tryz.results87, go_sem, r0, r1]) rfl ⟨?_, .inl ⟨unhide LN, _, _, _, _, rfl⟩⟩
        exact (((unhide ST).below.setCell (by simp) _).setCell (by simp) _)
    | true =>
      have LL : Hid (lineB (Lib.decDigits V) s.data.toList = if (bsl (P.take m)).all (litB (Lib.decDigits V)) then some (false, (bsl (P.take m)).map litVal) else none) := by
        unfold Hid; rw [unhide LB, unhide LS, litsF_last]
        have : zero z.data.toList = true := by unfold zero; rw [← ByteArray.toList_eq]; exact hzr
        rw [this]
        cases (bsl (P.take m)).all (litB (Lib.decDigits V)) <;> rfl
      have hzr' : (!z.toList == [48]) = false := by rw [hzr]; rfl
      clear LB LS
      have hm0 : (((m : Int) + 1) == 0) = false := by rw [beq_eq_false_iff_ne]; omega
      go_wp2
      go_loopw [8] (fun i wr => LRel w.heap.size w1.heap.size tg 0 m V P w false i wr) (fun i _ => m - (intOf i).toNat)
      case atStart => exact ⟨0, _, Nat.zero_le _, rfl, ST, rfl⟩
      case round =>
        obtain ⟨k, u, hk, rfl, hst, hal⟩ := hrel
        have xl : ((bsl (P.take k)).map litVal).length = k := by simp [bsl]; omega
        obtain ⟨ua, uc, hush⟩ : ∃ a c, u = .slice a k c := by
          obtain ⟨a, c, e⟩ := own_shape (unhide hst).own
          rw [xl] at e; exact ⟨a, c, e⟩
        subst hush
        have r0 := (unhide hst).res.cell (i := 0) (by omega)
        have r1 := (unhide hst).res.cell (i := 1) (by omega)
        have f0 := (unhide hst).res.frozen 0
        have f1 := (unhide hst).res.frozen 1
        have o0 := (unhide hst).out.cell (i := 0) (by omega)
        have o1 := (unhide hst).out.cell (i := 1) (by omega)
        have g1 := (unhide hst).out.frozen 1
        unfold pairF at r0 r1 o0 o1
        simp only [if_true, show ¬ (1 = 0) by decide, if_false] at r0 r1 o0 o1
        have sz := (unhide hst).size
        have hh1 := (unhide hst).h1
        by_cases hlt : k < m
        · have hkq : k < P.length := by omega
          have ct := (unhide hst).txt k hkq
          have AS := hide (all_snoc' (litB (Lib.decDigits V)) P k hkq)
          have MS := hide (map_snoc' P k hkq)
          have AN := hide (all_not' (litB (Lib.decDigits V)) P m k (by omega) hlt)
          have tz : (P[k]'hkq).size ≤ 1048576 := unhide LP _ (List.getElem_mem hkq)
          generalize P[k]'hkq = t at ct AS MS AN tz
          try rw [Nat.zero_add] at ct
          by_cases t0 : t.size = 0
          · have N0 := numB_none t0
            have TN : Hid (lineB (Lib.decDigits V) s.data.toList = none) := by
              unfold Hid; rw [unhide LL, unhide AN]
              · rfl
              · unfold litB
                have e : t.data.toList = [] := List.eq_nil_of_length_eq_zero (by simpa using t0)
                rw [e]; rfl
            have t0' : ¬ (0 : Int) < (t.size : Int) := by omega
            go_wp2_with fail
            refine (number_any t _ (by unfold maxLen; omega)).mono ?_
            rintro e3 w3 ⟨rfl, rfl⟩
            rw [N0]
            go_wp2
            refine bodyPost_ret (v := .tuple #[.agg #[.bool false, .slice ua k uc], .bool false]) (by simp [results, Tryz.results87, go_sem, r0, r1]) rfl ⟨?_, .inl ⟨unhide TN, _, _, _, _, rfl⟩⟩
            exact (((unhide hst).below.setCell (by simp) _).setCell (by simp) _)
          · have hpos : 0 < t.size := by omega
            cases cm : ((t[0].toNat : Int) == 45) with
            | true =>
              obtain ⟨xs1, xv1⟩ := strip_yes hpos cm
              go_wp2_with fail
              have xz : (t.extract 1 t.size).size ≤ 1048576 := by simp; omega
              obtain ⟨x, hx⟩ : ∃ x, x = t.extract 1 t.size := ⟨_, rfl⟩
              rw [← hx] at xs1 xv1 xz ⊢
              clear hx
              have XS := hide xs1
              have XV := hide xv1
              clear xs1 xv1
              refine (number_any x _ (by unfold maxLen; omega)).mono ?_
              rintro e3 w3 ⟨rfl, rfl⟩
              have LR : Hid (∀ b1 b2 b3, numB x.data.toList = b1 → zero x.data.toList = b2 → above x.data.toList (Lib.decDigits V) = b3 → litB (Lib.decDigits V) t.data.toList = (b1 && !b2 && !b3)) := by
                intro b1 b2 b3 h1 h2 h3
                unfold litB; rw [← unhide XS, h1, h3]; unfold zero at h2; rw [h2]
              cases n1 : numB x.data.toList with
              | false =>
                have TN : Hid (lineB (Lib.decDigits V) s.data.toList = none) := by
                  unfold Hid; rw [unhide LL, unhide AN (by rw [unhide LR _ _ _ n1 rfl rfl]; rfl)]; rfl
                go_wp2
                refine bodyPost_ret (v := .tuple #[.agg #[.bool false, .slice ua k uc], .bool false]) (by simp [results, Tryz.results87, go_sem, r0, r1]) rfl ⟨?_, .inl ⟨unhide TN, _, _, _, _, rfl⟩⟩
                exact (((unhide hst).below.setCell (by simp) _).setCell (by simp) _)
              | true =>
                cases z1 : (x.toList == [48]) with
                | true =>
                  have TN : Hid (lineB (Lib.decDigits V) s.data.toList = none) := by
                    unfold Hid; rw [unhide LL, unhide AN (by rw [unhide LR _ true _ n1 (by unfold zero; rw [← ByteArray.toList_eq]; exact z1) rfl]; rfl)]; rfl
                  have N1 := hide n1
                  clear n1
                  go_wp2
                  refine bodyPost_ret (v := .tuple #[.agg #[.bool false, .slice ua k uc], .bool false]) (by simp [results, Tryz.results87, go_sem, r0, r1]) rfl ⟨?_, .inl ⟨unhide TN, _, _, _, _, rfl⟩⟩
                  exact (((unhide hst).below.setCell (by simp) _).setCell (by simp) _)
                | false =>
                  have N1 := hide n1
                  have Z1 : Hid (zero x.data.toList = false) := by unfold Hid zero; rw [← ByteArray.toList_eq]; exact z1
                  clear n1
                  go_wp2_with fail
                  refine (digits_any V _ (by omega)).mono ?_
                  rintro e4 w4 ⟨dv, rfl, hdv, hb4⟩
                  have hst4 := hide ((unhide hst).later hb4)
                  have dz : dv.size ≤ 1048576 := by
                    have := congrArg List.length (unhide hdv); have := dd_len V (by omega); simp at *; omega
                  clear hst hb4 r0 r1 f0 f1 o0 o1 g1 ct
                  have r0 := (unhide hst4).res.cell (i := 0) (by omega)
                  have r1 := (unhide hst4).res.cell (i := 1) (by omega)
                  have f0 := (unhide hst4).res.frozen 0
                  have f1 := (unhide hst4).res.frozen 1
                  have o0 := (unhide hst4).out.cell (i := 0) (by omega)
                  have o1 := (unhide hst4).out.cell (i := 1) (by omega)
                  have g1 := (unhide hst4).out.frozen 1
                  unfold pairF at r0 r1 o0 o1
                  simp only [if_true, show ¬ (1 = 0) by decide, if_false] at r0 r1 o0 o1
                  have sz4 := (unhide hst4).size
                  go_wp2_with fail
                  refine (above_any x dv _ (by unfold maxLen; omega) (by unfold maxLen; omega)).mono ?_
                  rintro e5 w5 ⟨rfl, rfl⟩
                  rw [unhide hdv]
                  cases a1 : above x.data.toList (Lib.decDigits V) with
                  | true =>
                    have TN : Hid (lineB (Lib.decDigits V) s.data.toList = none) := by
                      unfold Hid; rw [unhide LL, unhide AN (by rw [unhide LR _ _ true (unhide N1) rfl a1]; simp)]; rfl
                    go_wp2
                    refine bodyPost_ret (v := .tuple #[.agg #[.bool false, .slice ua k uc], .bool false]) (by simp [results, Tryz.results87, go_sem, r0, r1]) rfl ⟨?_, .inl ⟨unhide TN, _, _, _, _, rfl⟩⟩
                    exact (((unhide hst4).below.setCell (by simp) _).setCell (by simp) _)
                  | false =>
                    have LT : Hid (litB (Lib.decDigits V) t.data.toList = true) := by unfold Hid; rw [unhide LR _ _ _ (unhide N1) (unhide Z1) a1]; rfl
                    have A2 : Hid ((bsl (P.take (k + 1))).all (litB (Lib.decDigits V)) = true) := by unfold Hid; rw [unhide AS, unhide hal, unhide LT]; rfl
                    have vb := lit_strip hV (unhide LT)
                    rw [← unhide XS] at vb
                    have DG := hide (numB_parts (unhide N1)).1
                    have VQ : Hid (∀ W, Calls Tryz.prog 83 #[.string x] W fun e w' => e = .returned (.int .i64 (value9 x.data.toList)) ∧ w' = W) := fun W => value_any x W (unhide DG)
                    obtain ⟨n, hn⟩ : ∃ n, n = value9 x.data.toList := ⟨_, rfl⟩
                    rw [← hn] at vb VQ XV
                    obtain ⟨vb1, vb2, _⟩ := vb
                    have M2 : Hid ((bsl (P.take (k + 1))).map litVal = (bsl (P.take k)).map litVal ++ [-n]) := by unfold Hid; rw [unhide MS, (unhide XV _).2 rfl]
                    clear hn a1 AS MS AN LR
                    generalize (bsl (P.take k)).map litVal = ys at hst4 M2 xl
                    go_wp2
                    have hne1 : (Value.slice ua k uc).ownBlock ≠ some (w.heap.size + 1) := fun e => by have := ((unhide hst4).own.lt _ e).1; omega
                    have hwr : IntKind.i64.wrap (-n) = -n := by rw [IntKind.wrap_i64]; omega
                    have std : Hid (LineSt w.heap.size w1.heap.size tg 0 P w false (.slice ua k uc) ys w5.drew) := (unhide hst4).later (Below.refl _ _).drew
                    have hb5 : w.heap.size + 1 < w5.heap.size := by omega
                    have hsz6 : w.heap.size + 1 < (w5.drew.alloc (Obj.cells #[.int .i64 (-n)] 3)).heap.size := by simp; omega
                    have o1d : w5.drew.cell? ⟨w.heap.size + 1, 1, none⟩ = some (.slice ua k uc) := o1
                    go_region_law
                      (first
                        | (refine step_append_any _ (by rfl) _ _ 43 (by rfl) w1.heap.size 3 i0 (.int .i64 0) 1 8 Tryz.underlying43 hi hz0 hz1 hz2 (by rfl) (by decide) (.slice ua k uc) ys.length (intsV ys) (by rfl) ((unhide std).own.alloc (Obj.cells #[.int .i64 (-n)] 3)) (.slice (some ⟨w5.heap.size, 0, none⟩) 1 1) 1 [.int .i64 (-n)] (by rfl) (.inr ⟨⟨w5.heap.size, 0, none⟩, 1, rfl, (cell_one_new w5.drew _ _)⟩) (by rfl) (by simp [Value.oneCell']) (by unfold maxLen; omega) (by omega) (by simp; omega) ?_; intro v6 w6 A6; have L6 := hide ((unhide std).put (ob := Obj.cells #[.int .i64 (-n)] 3) A6); obtain ⟨va6, vc6, hv6⟩ := own_shape A6.own; rw [xl] at hv6; subst hv6; have far6 := A6.grew.block (w.heap.size + 1) hsz6 (fun e => hne1 e.symm); have K6 : w6.cell? ⟨w.heap.size + 1, 1, none⟩ = some (.slice ua k uc) := (by rw [World.cell?_of_block (a := ⟨w.heap.size + 1, 1, none⟩) far6]; exact ((unhide std).out.alloc _).cell (i := 1) (by omega)); have K7 : w6.frozen? ⟨w.heap.size + 1, 1, none⟩ = false := (by rw [World.frozen?_of_block (a := ⟨w.heap.size + 1, 1, none⟩) far6]; exact ((unhide std).out.alloc _).frozen 1); clear A6 far6)
                        | (go_simp; go_at_call 83; refine (unhide VQ _).mono ?_; rintro e7 w7 ⟨rfl, rfl⟩))
                    all_goals
                      rw [← unhide M2] at L6
                      go_wp2
                      go_roundw
                      case rel => exact ⟨k + 1, _, by omega, ret_int' (by omega), L6, A2⟩
                      case measure => simp [intOf]; omega
            | false =>
              obtain ⟨xs1, xv1⟩ := strip_no hpos cm
              go_wp2_with fail
              have xz := tz
              have XS := hide xs1
              have XV := hide xv1
              clear xs1 xv1
              refine (number_any t _ (by unfold maxLen; omega)).mono ?_
              rintro e3 w3 ⟨rfl, rfl⟩
              have LR : Hid (∀ b1 b2 b3, numB t.data.toList = b1 → zero t.data.toList = b2 → above t.data.toList (Lib.decDigits V) = b3 → litB (Lib.decDigits V) t.data.toList = (b1 && !b2 && !b3)) := by
                intro b1 b2 b3 h1 h2 h3
                unfold litB; rw [← unhide XS, h1, h3]; unfold zero at h2; rw [h2]
              cases n1 : numB t.data.toList with
              | false =>
                have TN : Hid (lineB (Lib.decDigits V) s.data.toList = none) := by
                  unfold Hid; rw [unhide LL, unhide AN (by rw [unhide LR _ _ _ n1 rfl rfl]; rfl)]; rfl
                go_wp2
                refine bodyPost_ret (v := .tuple #[.agg #[.bool false, .slice ua k uc], .bool false]) (by simp [results, Tryz.results87, go_sem, r0, r1]) rfl ⟨?_, .inl ⟨unhide TN, _, _, _, _, rfl⟩⟩
                exact (((unhide hst).below.setCell (by simp) _).setCell (by simp) _)
              | true =>
                cases z1 : (t.toList == [48]) with
                | true =>
                  have TN : Hid (lineB (Lib.decDigits V) s.data.toList = none) := by
                    unfold Hid; rw [unhide LL, unhide AN (by rw [unhide LR _ true _ n1 (by unfold zero; rw [← ByteArray.toList_eq]; exact z1) rfl]; rfl)]; rfl
                  have N1 := hide n1
                  clear n1
                  go_wp2
                  refine bodyPost_ret (v := .tuple #[.agg #[.bool false, .slice ua k uc], .bool false]) (by simp [results, Tryz.results87, go_sem, r0, r1]) rfl ⟨?_, .inl ⟨unhide TN, _, _, _, _, rfl⟩⟩
                  exact (((unhide hst).below.setCell (by simp) _).setCell (by simp) _)
                | false =>
                  have N1 := hide n1
                  have Z1 : Hid (zero t.data.toList = false) := by unfold Hid zero; rw [← ByteArray.toList_eq]; exact z1
                  clear n1
                  go_wp2_with fail
                  refine (digits_any V _ (by omega)).mono ?_
                  rintro e4 w4 ⟨dv, rfl, hdv, hb4⟩
                  have hst4 := hide ((unhide hst).later hb4)
                  have dz : dv.size ≤ 1048576 := by
                    have := congrArg List.length (unhide hdv); have := dd_len V (by omega); simp at *; omega
                  clear hst hb4 r0 r1 f0 f1 o0 o1 g1 ct
                  have r0 := (unhide hst4).res.cell (i := 0) (by omega)
                  have r1 := (unhide hst4).res.cell (i := 1) (by omega)
                  have f0 := (unhide hst4).res.frozen 0
                  have f1 := (unhide hst4).res.frozen 1
                  have o0 := (unhide hst4).out.cell (i := 0) (by omega)
                  have o1 := (unhide hst4).out.cell (i := 1) (by omega)
                  have g1 := (unhide hst4).out.frozen 1
                  unfold pairF at r0 r1 o0 o1
                  simp only [if_true, show ¬ (1 = 0) by decide, if_false] at r0 r1 o0 o1
                  have sz4 := (unhide hst4).size
                  go_wp2_with fail
                  refine (above_any t dv _ (by unfold maxLen; omega) (by unfold maxLen; omega)).mono ?_
                  rintro e5 w5 ⟨rfl, rfl⟩
                  rw [unhide hdv]
                  cases a1 : above t.data.toList (Lib.decDigits V) with
                  | true =>
                    have TN : Hid (lineB (Lib.decDigits V) s.data.toList = none) := by
                      unfold Hid; rw [unhide LL, unhide AN (by rw [unhide LR _ _ true (unhide N1) rfl a1]; simp)]; rfl
                    go_wp2
                    refine bodyPost_ret (v := .tuple #[.agg #[.bool false, .slice ua k uc], .bool false]) (by simp [results, Tryz.results87, go_sem, r0, r1]) rfl ⟨?_, .inl ⟨unhide TN, _, _, _, _, rfl⟩⟩
                    exact (((unhide hst4).below.setCell (by simp) _).setCell (by simp) _)
                  | false =>
                    have LT : Hid (litB (Lib.decDigits V) t.data.toList = true) := by unfold Hid; rw [unhide LR _ _ _ (unhide N1) (unhide Z1) a1]; rfl
                    have A2 : Hid ((bsl (P.take (k + 1))).all (litB (Lib.decDigits V)) = true) := by unfold Hid; rw [unhide AS, unhide hal, unhide LT]; rfl
                    have vb := lit_strip hV (unhide LT)
                    rw [← unhide XS] at vb
                    have DG := hide (numB_parts (unhide N1)).1
                    have VQ : Hid (∀ W, Calls Tryz.prog 83 #[.string t] W fun e w' => e = .returned (.int .i64 (value9 t.data.toList)) ∧ w' = W) := fun W => value_any t W (unhide DG)
                    obtain ⟨n, hn⟩ : ∃ n, n = value9 t.data.toList := ⟨_, rfl⟩
                    rw [← hn] at vb VQ XV
                    obtain ⟨vb1, vb2, _⟩ := vb
                    have M2 : Hid ((bsl (P.take (k + 1))).map litVal = (bsl (P.take k)).map litVal ++ [n]) := by unfold Hid; rw [unhide MS, unhide XV]
                    clear hn a1 AS MS AN LR
                    generalize (bsl (P.take k)).map litVal = ys at hst4 M2 xl
                    go_wp2
                    have hne1 : (Value.slice ua k uc).ownBlock ≠ some (w.heap.size + 1) := fun e => by have := ((unhide hst4).own.lt _ e).1; omega
                    have hwr : IntKind.i64.wrap (n) = n := by rw [IntKind.wrap_i64]; omega
                    have std : Hid (LineSt w.heap.size w1.heap.size tg 0 P w false (.slice ua k uc) ys w5.drew) := (unhide hst4).later (Below.refl _ _).drew
                    have hb5 : w.heap.size + 1 < w5.heap.size := by omega
                    have hsz6 : w.heap.size + 1 < (w5.drew.alloc (Obj.cells #[.int .i64 (n)] 3)).heap.size := by simp; omega
                    have o1d : w5.drew.cell? ⟨w.heap.size + 1, 1, none⟩ = some (.slice ua k uc) := o1
                    go_region_law
                      (first
                        | (refine step_append_any _ (by rfl) _ _ 43 (by rfl) w1.heap.size 3 i0 (.int .i64 0) 1 8 Tryz.underlying43 hi hz0 hz1 hz2 (by rfl) (by decide) (.slice ua k uc) ys.length (intsV ys) (by rfl) ((unhide std).own.alloc (Obj.cells #[.int .i64 (n)] 3)) (.slice (some ⟨w5.heap.size, 0, none⟩) 1 1) 1 [.int .i64 (n)] (by rfl) (.inr ⟨⟨w5.heap.size, 0, none⟩, 1, rfl, (cell_one_new w5.drew _ _)⟩) (by rfl) (by simp [Value.oneCell']) (by unfold maxLen; omega) (by omega) (by simp; omega) ?_; intro v6 w6 A6; have L6 := hide ((unhide std).put (ob := Obj.cells #[.int .i64 (n)] 3) A6); obtain ⟨va6, vc6, hv6⟩ := own_shape A6.own; rw [xl] at hv6; subst hv6; have far6 := A6.grew.block (w.heap.size + 1) hsz6 (fun e => hne1 e.symm); have K6 : w6.cell? ⟨w.heap.size + 1, 1, none⟩ = some (.slice ua k uc) := (by rw [World.cell?_of_block (a := ⟨w.heap.size + 1, 1, none⟩) far6]; exact ((unhide std).out.alloc _).cell (i := 1) (by omega)); have K7 : w6.frozen? ⟨w.heap.size + 1, 1, none⟩ = false := (by rw [World.frozen?_of_block (a := ⟨w.heap.size + 1, 1, none⟩) far6]; exact ((unhide std).out.alloc _).frozen 1); clear A6 far6)
                        | (go_simp; go_at_call 83; refine (unhide VQ _).mono ?_; rintro e7 w7 ⟨rfl, rfl⟩))
                    all_goals
                      rw [← unhide M2] at L6
                      go_wp2
                      go_roundw
                      case rel => exact ⟨k + 1, _, by omega, ret_int' (by omega), L6, A2⟩
                      case measure => simp [intOf]; omega
        · have e : k = m := by omega
          subst e
          have LE : Hid (lineB (Lib.decDigits V) s.data.toList = some (false, (bsl (P.take k)).map litVal)) := by unfold Hid; rw [unhide LL, unhide hal]; rfl
          have BE : Hid (Below w.heap.size w ((wr.setCell ⟨w.heap.size, 0, none⟩ (.bool false)).setCell ⟨w.heap.size, 1, none⟩ (.slice ua k uc))) := (((unhide hst).below.setCell (by simp) _).setCell (by simp) _)
          have OE : Hid (((wr.setCell ⟨w.heap.size, 0, none⟩ (.bool false)).setCell ⟨w.heap.size, 1, none⟩ (.slice ua k uc)).ownsRow w.heap.size 3 1 (.slice ua k uc) ((bsl (P.take k)).map litVal).length (intsV ((bsl (P.take k)).map litVal))) :=
            owns_le (ownsRow_setCell_below (ownsRow_setCell_below (unhide hst).own (by simp; omega) _) (by simp; omega) _) (by omega)
          go_wp2
          refine bodyPost_ret (v := .tuple #[.agg #[.bool false, .slice ua k uc], .bool true]) (by simp [results, Tryz.results87, go_sem, r0, r1]) rfl ⟨unhide BE, .inr ⟨_, _, _, unhide LE, rfl, ?_, unhide OE⟩⟩
          rw [xl]; omega
  | true =>
    by_cases h1 : P.length = 1
    · have LB : Hid (lineB (Lib.decDigits V) s.data.toList = none) := by
        unfold Hid lineB
        have e : bsl (P.drop 1) = [] := by rw [List.drop_eq_nil_of_le (by omega)]; rfl
        rw [← unhide hP, unhide HD, if_pos, e]
        · rfl
        · simp only [List.head?_cons, Option.some.injEq]; rw [← ByteArray.toList_eq]; simpa using hd
      rw [h1] at hcap
      rw [h1]
      have r0 := (unhide ST).res.cell (i := 0) (by omega)
      have r1 := (unhide ST).res.cell (i := 1) (by omega)
      have f0 := (unhide ST).res.frozen 0
      have f1 := (unhide ST).res.frozen 1
      have o0 := (unhide ST).out.cell (i := 0) (by omega)
      have o1 := (unhide ST).out.cell (i := 1) (by omega)
      have g0 := (unhide ST).out.frozen 0
      have g1 := (unhide ST).out.frozen 1
      unfold pairF at r0 r1 o0 o1
      simp only [if_true, show ¬ (1 = 0) by decide, if_false] at r0 r1 o0 o1
      go_wp2
      all_goals
        refine bodyPost_ret (v := .tuple #[.agg #[.bool true, .slice none 0 0], .bool false]) (by simp [results, Tryz.results87, go_sem, r0, r1]) rfl ⟨?_, .inl ⟨unhide LB, _, _, _, _, rfl⟩⟩
        exact ((((unhide ST).below.setCell (by simp) _).setCell (by simp) _).setCell (by simp) _)
    · obtain ⟨Q, hQ⟩ : ∃ Q, Q = P.drop 1 := ⟨_, rfl⟩
      obtain ⟨m, hm⟩ : ∃ m, Q.length = m + 1 := ⟨P.length - 2, by rw [hQ]; simp; omega⟩
      have hPl : P.length = m + 2 := by rw [hQ] at hm; simp at hm; omega
      have LB : Hid (lineB (Lib.decDigits V) s.data.toList = (litsF (Lib.decDigits V) (bsl Q)).map fun c => (true, c)) := by
        unfold Hid lineB
        rw [← unhide hP, unhide HD, if_pos, hQ]
        · rfl
        · simp only [List.head?_cons, Option.some.injEq]; rw [← ByteArray.toList_eq]; simpa using hd
      have QG : Hid (∀ j (hj : j < Q.length) (hj2 : 1 + j < P.length), Q[j] = P[1 + j]) := by
        intro j hj hj2; subst hQ; simp [Nat.add_comm]
      have QM : Hid (∀ x ∈ Q, x ∈ P) := by intro x hx; rw [hQ] at hx; exact List.mem_of_mem_drop hx
      have ST' : Hid (LineSt w.heap.size w1.heap.size tg 1 Q w true (.slice none 0 0) [] (w1.setCell ⟨w.heap.size + 1, 0, none⟩ (.bool true))) := by
        have h := (unhide ST).gone
        have tx : ∀ j (hj : j < Q.length), (w1.setCell ⟨w.heap.size + 1, 0, none⟩ (.bool true)).cell? ⟨tg, 1 + j, none⟩ = some (.string Q[j]) := by
          intro j hj
          have := h.txt (1 + j) (by omega)
          rw [Nat.zero_add] at this
          rw [this, unhide QG j hj (by omega)]
        exact { res := h.res, out := h.out, own := h.own, txt := tx, below := h.below, size := h.size, h1 := h.h1, htg := h.htg, htg2 := h.htg2 }
      have g0 := (unhide ST).out.frozen 0
      have oo0 := (unhide ST).out.cell (i := 0) (by omega)
      unfold pairF at oo0
      simp only [if_true] at oo0
      have hcap1 : ¬ cap = 1 := by omega
      rw [hPl] at hcap
      rw [hPl]
      go_upto_region 6 with fail
      obtain ⟨W, hW⟩ : ∃ W, W = w1.setCell ⟨w.heap.size + 1, 0, none⟩ (.bool true) := ⟨_, rfl⟩
      rw [← hW] at ST' ⊢
      have STW := ST'
      clear hP HD QG ST hQ oo0 g0 c0 ST' hW
      have cl := (unhide STW).txt m (by omega)
      have r0 := (unhide STW).res.cell (i := 0) (by omega)
      have r1 := (unhide STW).res.cell (i := 1) (by omega)
      have f0 := (unhide STW).res.frozen 0
      have f1 := (unhide STW).res.frozen 1
      have o0 := (unhide STW).out.cell (i := 0) (by omega)
      have o1 := (unhide STW).out.cell (i := 1) (by omega)
      unfold pairF at r0 r1 o0 o1
      simp only [if_true, show ¬ (1 = 0) by decide, if_false] at r0 r1 o0 o1
      have LS := hide (bsl_split hm)
      have hml : m < Q.length := by omega
      generalize hz : Q[m]'hml = z at cl LS
      clear hz
      cases hzr : (z.toList == [48]) with
      | false =>
        have LN : Hid (lineB (Lib.decDigits V) s.data.toList = none) := by
          unfold Hid; rw [unhide LB, unhide LS, litsF_last]
          have : zero z.data.toList = false := by unfold zero; rw [← ByteArray.toList_eq]; exact hzr
          rw [this]; rfl
        have hzr' : (!z.toList == [48]) = true := by rw [hzr]; rfl
        go_wp2
        all_goals
          refine bodyPost_ret (v := .tuple #[.agg #[.bool true, .slice none 0 0], .bool false]) (by simp [results, Tryz.results87, go_sem, r0, r1]) rfl ⟨?_, .inl ⟨unhide LN, _, _, _, _, rfl⟩⟩
          exact (((unhide STW).below.setCell (by simp) _).setCell (by simp) _)
      | true =>
        have LL : Hid (lineB (Lib.decDigits V) s.data.toList = if (bsl (Q.take m)).all (litB (Lib.decDigits V)) then some (true, (bsl (Q.take m)).map litVal) else none) := by
          unfold Hid; rw [unhide LB, unhide LS, litsF_last]
          have : zero z.data.toList = true := by unfold zero; rw [← ByteArray.toList_eq]; exact hzr
          rw [this]
          cases (bsl (Q.take m)).all (litB (Lib.decDigits V)) <;> rfl
        have hzr' : (!z.toList == [48]) = false := by rw [hzr]; rfl
        clear LB LS
        have hm0 : (((m : Int) + 1) == 0) = false := by rw [beq_eq_false_iff_ne]; omega
        go_wp2
        go_loopw [8] (fun i wr => LRel w.heap.size w1.heap.size tg 1 m V Q w true i wr) (fun i _ => m - (intOf i).toNat)
        case atStart => exact ⟨0, _, Nat.zero_le _, rfl, STW, rfl⟩
        case round =>
          obtain ⟨k, u, hk, rfl, hst, hal⟩ := hrel
          have xl : ((bsl (Q.take k)).map litVal).length = k := by simp [bsl]; omega
          obtain ⟨ua, uc, hush⟩ : ∃ a c, u = .slice a k c := by
            obtain ⟨a, c, e⟩ := own_shape (unhide hst).own
            rw [xl] at e; exact ⟨a, c, e⟩
          subst hush
          have r0 := (unhide hst).res.cell (i := 0) (by omega)
          have r1 := (unhide hst).res.cell (i := 1) (by omega)
          have f0 := (unhide hst).res.frozen 0
          have f1 := (unhide hst).res.frozen 1
          have o0 := (unhide hst).out.cell (i := 0) (by omega)
          have o1 := (unhide hst).out.cell (i := 1) (by omega)
          have g1 := (unhide hst).out.frozen 1
          unfold pairF at r0 r1 o0 o1
          simp only [if_true, show ¬ (1 = 0) by decide, if_false] at r0 r1 o0 o1
          have sz := (unhide hst).size
          have hh1 := (unhide hst).h1
          by_cases hlt : k < m
          · have hkq : k < Q.length := by omega
            have ct := (unhide hst).txt k hkq
            have AS := hide (all_snoc' (litB (Lib.decDigits V)) Q k hkq)
            have MS := hide (map_snoc' Q k hkq)
            have AN := hide (all_not' (litB (Lib.decDigits V)) Q m k (by omega) hlt)
            have tz : (Q[k]'hkq).size ≤ 1048576 := unhide LP _ (unhide QM _ (List.getElem_mem hkq))
            generalize Q[k]'hkq = t at ct AS MS AN tz
            try rw [Nat.zero_add] at ct
            by_cases t0 : t.size = 0
            · have N0 := numB_none t0
              have TN : Hid (lineB (Lib.decDigits V) s.data.toList = none) := by
                unfold Hid; rw [unhide LL, unhide AN]
                · rfl
                · unfold litB
                  have e : t.data.toList = [] := List.eq_nil_of_length_eq_zero (by simpa using t0)
                  rw [e]; rfl
              have t0' : ¬ (0 : Int) < (t.size : Int) := by omega
              go_wp2_with fail
              refine (number_any t _ (by unfold maxLen; omega)).mono ?_
              rintro e3 w3 ⟨rfl, rfl⟩
              rw [N0]
              go_wp2
              refine bodyPost_ret (v := .tuple #[.agg #[.bool true, .slice ua k uc], .bool false]) (by simp [results, Tryz.results87, go_sem, r0, r1]) rfl ⟨?_, .inl ⟨unhide TN, _, _, _, _, rfl⟩⟩
              exact (((unhide hst).below.setCell (by simp) _).setCell (by simp) _)
            · have hpos : 0 < t.size := by omega
              cases cm : ((t[0].toNat : Int) == 45) with
              | true =>
                obtain ⟨xs1, xv1⟩ := strip_yes hpos cm
                go_wp2_with fail
                have xz : (t.extract 1 t.size).size ≤ 1048576 := by simp; omega
                obtain ⟨x, hx⟩ : ∃ x, x = t.extract 1 t.size := ⟨_, rfl⟩
                rw [← hx] at xs1 xv1 xz ⊢
                clear hx
                have XS := hide xs1
                have XV := hide xv1
                clear xs1 xv1
                refine (number_any x _ (by unfold maxLen; omega)).mono ?_
                rintro e3 w3 ⟨rfl, rfl⟩
                have LR : Hid (∀ b1 b2 b3, numB x.data.toList = b1 → zero x.data.toList = b2 → above x.data.toList (Lib.decDigits V) = b3 → litB (Lib.decDigits V) t.data.toList = (b1 && !b2 && !b3)) := by
                  intro b1 b2 b3 h1 h2 h3
                  unfold litB; rw [← unhide XS, h1, h3]; unfold zero at h2; rw [h2]
                cases n1 : numB x.data.toList with
                | false =>
                  have TN : Hid (lineB (Lib.decDigits V) s.data.toList = none) := by
                    unfold Hid; rw [unhide LL, unhide AN (by rw [unhide LR _ _ _ n1 rfl rfl]; rfl)]; rfl
                  go_wp2
                  refine bodyPost_ret (v := .tuple #[.agg #[.bool true, .slice ua k uc], .bool false]) (by simp [results, Tryz.results87, go_sem, r0, r1]) rfl ⟨?_, .inl ⟨unhide TN, _, _, _, _, rfl⟩⟩
                  exact (((unhide hst).below.setCell (by simp) _).setCell (by simp) _)
                | true =>
                  cases z1 : (x.toList == [48]) with
                  | true =>
                    have TN : Hid (lineB (Lib.decDigits V) s.data.toList = none) := by
                      unfold Hid; rw [unhide LL, unhide AN (by rw [unhide LR _ true _ n1 (by unfold zero; rw [← ByteArray.toList_eq]; exact z1) rfl]; rfl)]; rfl
                    have N1 := hide n1
                    clear n1
                    go_wp2
                    refine bodyPost_ret (v := .tuple #[.agg #[.bool true, .slice ua k uc], .bool false]) (by simp [results, Tryz.results87, go_sem, r0, r1]) rfl ⟨?_, .inl ⟨unhide TN, _, _, _, _, rfl⟩⟩
                    exact (((unhide hst).below.setCell (by simp) _).setCell (by simp) _)
                  | false =>
                    have N1 := hide n1
                    have Z1 : Hid (zero x.data.toList = false) := by unfold Hid zero; rw [← ByteArray.toList_eq]; exact z1
                    clear n1
                    go_wp2_with fail
                    refine (digits_any V _ (by omega)).mono ?_
                    rintro e4 w4 ⟨dv, rfl, hdv, hb4⟩
                    have hst4 := hide ((unhide hst).later hb4)
                    have dz : dv.size ≤ 1048576 := by
                      have := congrArg List.length (unhide hdv); have := dd_len V (by omega); simp at *; omega
                    clear hst hb4 r0 r1 f0 f1 o0 o1 g1 ct
                    have r0 := (unhide hst4).res.cell (i := 0) (by omega)
                    have r1 := (unhide hst4).res.cell (i := 1) (by omega)
                    have f0 := (unhide hst4).res.frozen 0
                    have f1 := (unhide hst4).res.frozen 1
                    have o0 := (unhide hst4).out.cell (i := 0) (by omega)
                    have o1 := (unhide hst4).out.cell (i := 1) (by omega)
                    have g1 := (unhide hst4).out.frozen 1
                    unfold pairF at r0 r1 o0 o1
                    simp only [if_true, show ¬ (1 = 0) by decide, if_false] at r0 r1 o0 o1
                    have sz4 := (unhide hst4).size
                    go_wp2_with fail
                    refine (above_any x dv _ (by unfold maxLen; omega) (by unfold maxLen; omega)).mono ?_
                    rintro e5 w5 ⟨rfl, rfl⟩
                    rw [unhide hdv]
                    cases a1 : above x.data.toList (Lib.decDigits V) with
                    | true =>
                      have TN : Hid (lineB (Lib.decDigits V) s.data.toList = none) := by
                        unfold Hid; rw [unhide LL, unhide AN (by rw [unhide LR _ _ true (unhide N1) rfl a1]; simp)]; rfl
                      go_wp2
                      refine bodyPost_ret (v := .tuple #[.agg #[.bool true, .slice ua k uc], .bool false]) (by simp [results, Tryz.results87, go_sem, r0, r1]) rfl ⟨?_, .inl ⟨unhide TN, _, _, _, _, rfl⟩⟩
                      exact (((unhide hst4).below.setCell (by simp) _).setCell (by simp) _)
                    | false =>
                      have LT : Hid (litB (Lib.decDigits V) t.data.toList = true) := by unfold Hid; rw [unhide LR _ _ _ (unhide N1) (unhide Z1) a1]; rfl
                      have A2 : Hid ((bsl (Q.take (k + 1))).all (litB (Lib.decDigits V)) = true) := by unfold Hid; rw [unhide AS, unhide hal, unhide LT]; rfl
                      have vb := lit_strip hV (unhide LT)
                      rw [← unhide XS] at vb
                      have DG := hide (numB_parts (unhide N1)).1
                      have VQ : Hid (∀ W, Calls Tryz.prog 83 #[.string x] W fun e w' => e = .returned (.int .i64 (value9 x.data.toList)) ∧ w' = W) := fun W => value_any x W (unhide DG)
                      obtain ⟨n, hn⟩ : ∃ n, n = value9 x.data.toList := ⟨_, rfl⟩
                      rw [← hn] at vb VQ XV
                      obtain ⟨vb1, vb2, _⟩ := vb
                      have M2 : Hid ((bsl (Q.take (k + 1))).map litVal = (bsl (Q.take k)).map litVal ++ [-n]) := by unfold Hid; rw [unhide MS, (unhide XV _).2 rfl]
                      clear hn a1 AS MS AN LR
                      generalize (bsl (Q.take k)).map litVal = ys at hst4 M2 xl
                      go_wp2
                      have hne1 : (Value.slice ua k uc).ownBlock ≠ some (w.heap.size + 1) := fun e => by have := ((unhide hst4).own.lt _ e).1; omega
                      have hwr : IntKind.i64.wrap (-n) = -n := by rw [IntKind.wrap_i64]; omega
                      have std : Hid (LineSt w.heap.size w1.heap.size tg 1 Q w true (.slice ua k uc) ys w5.drew) := (unhide hst4).later (Below.refl _ _).drew
                      have hb5 : w.heap.size + 1 < w5.heap.size := by omega
                      have hsz6 : w.heap.size + 1 < (w5.drew.alloc (Obj.cells #[.int .i64 (-n)] 3)).heap.size := by simp; omega
                      have o1d : w5.drew.cell? ⟨w.heap.size + 1, 1, none⟩ = some (.slice ua k uc) := o1
                      go_region_law
                        (first
                          | (refine step_append_any _ (by rfl) _ _ 43 (by rfl) w1.heap.size 3 i0 (.int .i64 0) 1 8 Tryz.underlying43 hi hz0 hz1 hz2 (by rfl) (by decide) (.slice ua k uc) ys.length (intsV ys) (by rfl) ((unhide std).own.alloc (Obj.cells #[.int .i64 (-n)] 3)) (.slice (some ⟨w5.heap.size, 0, none⟩) 1 1) 1 [.int .i64 (-n)] (by rfl) (.inr ⟨⟨w5.heap.size, 0, none⟩, 1, rfl, (cell_one_new w5.drew _ _)⟩) (by rfl) (by simp [Value.oneCell']) (by unfold maxLen; omega) (by omega) (by simp; omega) ?_; intro v6 w6 A6; have L6 := hide ((unhide std).put (ob := Obj.cells #[.int .i64 (-n)] 3) A6); obtain ⟨va6, vc6, hv6⟩ := own_shape A6.own; rw [xl] at hv6; subst hv6; have far6 := A6.grew.block (w.heap.size + 1) hsz6 (fun e => hne1 e.symm); have K6 : w6.cell? ⟨w.heap.size + 1, 1, none⟩ = some (.slice ua k uc) := (by rw [World.cell?_of_block (a := ⟨w.heap.size + 1, 1, none⟩) far6]; exact ((unhide std).out.alloc _).cell (i := 1) (by omega)); have K7 : w6.frozen? ⟨w.heap.size + 1, 1, none⟩ = false := (by rw [World.frozen?_of_block (a := ⟨w.heap.size + 1, 1, none⟩) far6]; exact ((unhide std).out.alloc _).frozen 1); clear A6 far6)
                          | (go_simp; go_at_call 83; refine (unhide VQ _).mono ?_; rintro e7 w7 ⟨rfl, rfl⟩))
                      all_goals
                        rw [← unhide M2] at L6
                        go_wp2
                        go_roundw
                        case rel => exact ⟨k + 1, _, by omega, ret_int' (by omega), L6, A2⟩
                        case measure => simp [intOf]; omega
              | false =>
                obtain ⟨xs1, xv1⟩ := strip_no hpos cm
                go_wp2_with fail
                have xz := tz
                have XS := hide xs1
                have XV := hide xv1
                clear xs1 xv1
                refine (number_any t _ (by unfold maxLen; omega)).mono ?_
                rintro e3 w3 ⟨rfl, rfl⟩
                have LR : Hid (∀ b1 b2 b3, numB t.data.toList = b1 → zero t.data.toList = b2 → above t.data.toList (Lib.decDigits V) = b3 → litB (Lib.decDigits V) t.data.toList = (b1 && !b2 && !b3)) := by
                  intro b1 b2 b3 h1 h2 h3
                  unfold litB; rw [← unhide XS, h1, h3]; unfold zero at h2; rw [h2]
                cases n1 : numB t.data.toList with
                | false =>
                  have TN : Hid (lineB (Lib.decDigits V) s.data.toList = none) := by
                    unfold Hid; rw [unhide LL, unhide AN (by rw [unhide LR _ _ _ n1 rfl rfl]; rfl)]; rfl
                  go_wp2
                  refine bodyPost_ret (v := .tuple #[.agg #[.bool true, .slice ua k uc], .bool false]) (by simp [results, Tryz.results87, go_sem, r0, r1]) rfl ⟨?_, .inl ⟨unhide TN, _, _, _, _, rfl⟩⟩
                  exact (((unhide hst).below.setCell (by simp) _).setCell (by simp) _)
                | true =>
                  cases z1 : (t.toList == [48]) with
                  | true =>
                    have TN : Hid (lineB (Lib.decDigits V) s.data.toList = none) := by
                      unfold Hid; rw [unhide LL, unhide AN (by rw [unhide LR _ true _ n1 (by unfold zero; rw [← ByteArray.toList_eq]; exact z1) rfl]; rfl)]; rfl
                    have N1 := hide n1
                    clear n1
                    go_wp2
                    refine bodyPost_ret (v := .tuple #[.agg #[.bool true, .slice ua k uc], .bool false]) (by simp [results, Tryz.results87, go_sem, r0, r1]) rfl ⟨?_, .inl ⟨unhide TN, _, _, _, _, rfl⟩⟩
                    exact (((unhide hst).below.setCell (by simp) _).setCell (by simp) _)
                  | false =>
                    have N1 := hide n1
                    have Z1 : Hid (zero t.data.toList = false) := by unfold Hid zero; rw [← ByteArray.toList_eq]; exact z1
                    clear n1
                    go_wp2_with fail
                    refine (digits_any V _ (by omega)).mono ?_
                    rintro e4 w4 ⟨dv, rfl, hdv, hb4⟩
                    have hst4 := hide ((unhide hst).later hb4)
                    have dz : dv.size ≤ 1048576 := by
                      have := congrArg List.length (unhide hdv); have := dd_len V (by omega); simp at *; omega
                    clear hst hb4 r0 r1 f0 f1 o0 o1 g1 ct
                    have r0 := (unhide hst4).res.cell (i := 0) (by omega)
                    have r1 := (unhide hst4).res.cell (i := 1) (by omega)
                    have f0 := (unhide hst4).res.frozen 0
                    have f1 := (unhide hst4).res.frozen 1
                    have o0 := (unhide hst4).out.cell (i := 0) (by omega)
                    have o1 := (unhide hst4).out.cell (i := 1) (by omega)
                    have g1 := (unhide hst4).out.frozen 1
                    unfold pairF at r0 r1 o0 o1
                    simp only [if_true, show ¬ (1 = 0) by decide, if_false] at r0 r1 o0 o1
                    have sz4 := (unhide hst4).size
                    go_wp2_with fail
                    refine (above_any t dv _ (by unfold maxLen; omega) (by unfold maxLen; omega)).mono ?_
                    rintro e5 w5 ⟨rfl, rfl⟩
                    rw [unhide hdv]
                    cases a1 : above t.data.toList (Lib.decDigits V) with
                    | true =>
                      have TN : Hid (lineB (Lib.decDigits V) s.data.toList = none) := by
                        unfold Hid; rw [unhide LL, unhide AN (by rw [unhide LR _ _ true (unhide N1) rfl a1]; simp)]; rfl
                      go_wp2
                      refine bodyPost_ret (v := .tuple #[.agg #[.bool true, .slice ua k uc], .bool false]) (by simp [results, Tryz.results87, go_sem, r0, r1]) rfl ⟨?_, .inl ⟨unhide TN, _, _, _, _, rfl⟩⟩
                      exact (((unhide hst4).below.setCell (by simp) _).setCell (by simp) _)
                    | false =>
                      have LT : Hid (litB (Lib.decDigits V) t.data.toList = true) := by unfold Hid; rw [unhide LR _ _ _ (unhide N1) (unhide Z1) a1]; rfl
                      have A2 : Hid ((bsl (Q.take (k + 1))).all (litB (Lib.decDigits V)) = true) := by unfold Hid; rw [unhide AS, unhide hal, unhide LT]; rfl
                      have vb := lit_strip hV (unhide LT)
                      rw [← unhide XS] at vb
                      have DG := hide (numB_parts (unhide N1)).1
                      have VQ : Hid (∀ W, Calls Tryz.prog 83 #[.string t] W fun e w' => e = .returned (.int .i64 (value9 t.data.toList)) ∧ w' = W) := fun W => value_any t W (unhide DG)
                      obtain ⟨n, hn⟩ : ∃ n, n = value9 t.data.toList := ⟨_, rfl⟩
                      rw [← hn] at vb VQ XV
                      obtain ⟨vb1, vb2, _⟩ := vb
                      have M2 : Hid ((bsl (Q.take (k + 1))).map litVal = (bsl (Q.take k)).map litVal ++ [n]) := by unfold Hid; rw [unhide MS, unhide XV]
                      clear hn a1 AS MS AN LR
                      generalize (bsl (Q.take k)).map litVal = ys at hst4 M2 xl
                      go_wp2
                      have hne1 : (Value.slice ua k uc).ownBlock ≠ some (w.heap.size + 1) := fun e => by have := ((unhide hst4).own.lt _ e).1; omega
                      have hwr : IntKind.i64.wrap (n) = n := by rw [IntKind.wrap_i64]; omega
                      have std : Hid (LineSt w.heap.size w1.heap.size tg 1 Q w true (.slice ua k uc) ys w5.drew) := (unhide hst4).later (Below.refl _ _).drew
                      have hb5 : w.heap.size + 1 < w5.heap.size := by omega
                      have hsz6 : w.heap.size + 1 < (w5.drew.alloc (Obj.cells #[.int .i64 (n)] 3)).heap.size := by simp; omega
                      have o1d : w5.drew.cell? ⟨w.heap.size + 1, 1, none⟩ = some (.slice ua k uc) := o1
                      go_region_law
                        (first
                          | (refine step_append_any _ (by rfl) _ _ 43 (by rfl) w1.heap.size 3 i0 (.int .i64 0) 1 8 Tryz.underlying43 hi hz0 hz1 hz2 (by rfl) (by decide) (.slice ua k uc) ys.length (intsV ys) (by rfl) ((unhide std).own.alloc (Obj.cells #[.int .i64 (n)] 3)) (.slice (some ⟨w5.heap.size, 0, none⟩) 1 1) 1 [.int .i64 (n)] (by rfl) (.inr ⟨⟨w5.heap.size, 0, none⟩, 1, rfl, (cell_one_new w5.drew _ _)⟩) (by rfl) (by simp [Value.oneCell']) (by unfold maxLen; omega) (by omega) (by simp; omega) ?_; intro v6 w6 A6; have L6 := hide ((unhide std).put (ob := Obj.cells #[.int .i64 (n)] 3) A6); obtain ⟨va6, vc6, hv6⟩ := own_shape A6.own; rw [xl] at hv6; subst hv6; have far6 := A6.grew.block (w.heap.size + 1) hsz6 (fun e => hne1 e.symm); have K6 : w6.cell? ⟨w.heap.size + 1, 1, none⟩ = some (.slice ua k uc) := (by rw [World.cell?_of_block (a := ⟨w.heap.size + 1, 1, none⟩) far6]; exact ((unhide std).out.alloc _).cell (i := 1) (by omega)); have K7 : w6.frozen? ⟨w.heap.size + 1, 1, none⟩ = false := (by rw [World.frozen?_of_block (a := ⟨w.heap.size + 1, 1, none⟩) far6]; exact ((unhide std).out.alloc _).frozen 1); clear A6 far6)
                          | (go_simp; go_at_call 83; refine (unhide VQ _).mono ?_; rintro e7 w7 ⟨rfl, rfl⟩))
                      all_goals
                        rw [← unhide M2] at L6
                        go_wp2
                        go_roundw
                        case rel => exact ⟨k + 1, _, by omega, ret_int' (by omega), L6, A2⟩
                        case measure => simp [intOf]; omega
          · have e : k = m := by omega
            subst e
            have LE : Hid (lineB (Lib.decDigits V) s.data.toList = some (true, (bsl (Q.take k)).map litVal)) := by unfold Hid; rw [unhide LL, unhide hal]; rfl
            have BE : Hid (Below w.heap.size w ((wr.setCell ⟨w.heap.size, 0, none⟩ (.bool true)).setCell ⟨w.heap.size, 1, none⟩ (.slice ua k uc))) := (((unhide hst).below.setCell (by simp) _).setCell (by simp) _)
            have OE : Hid (((wr.setCell ⟨w.heap.size, 0, none⟩ (.bool true)).setCell ⟨w.heap.size, 1, none⟩ (.slice ua k uc)).ownsRow w.heap.size 3 1 (.slice ua k uc) ((bsl (Q.take k)).map litVal).length (intsV ((bsl (Q.take k)).map litVal))) :=
              owns_le (ownsRow_setCell_below (ownsRow_setCell_below (unhide hst).own (by simp; omega) _) (by simp; omega) _) (by omega)
            go_wp2
            refine bodyPost_ret (v := .tuple #[.agg #[.bool true, .slice ua k uc], .bool true]) (by simp [results, Tryz.results87, go_sem, r0, r1]) rfl ⟨unhide BE, .inr ⟨_, _, _, unhide LE, rfl, ?_, unhide OE⟩⟩
            rw [xl]; omega
end Rd
end Go.Proofs.YtceahffmenbibaaGreatDoor
