/- Cref9, Cref10. -/
import Derived.Test.YtceahffmenbibaaGreatDoorCref6
import Derived.Test.YtceahffmenbibaaGreatDoorCline
import Derived.Test.YtceahffmenbibaaGreatDoorCref8
import Derived.Outline
namespace Go.Proofs.YtceahffmenbibaaGreatDoor
namespace Rd
open Go Go.RowKit Go.Deep
set_option linter.unusedVariables false
set_option linter.unusedSimpArgs false

/-- V, in digits -/
def one_v (d : Nat) : Bool := (Lib.decDigits d == [UInt8.ofNat (48 + d)]) && decide (value9 [UInt8.ofNat (48 + d)] = (d : Int))
theorem one_v_all : ((List.range 10).all one_v) = true := by decide +kernel
def two_v (d e : Nat) : Bool := !numB [UInt8.ofNat (48 + d), UInt8.ofNat (48 + e)] || above [UInt8.ofNat (48 + d), UInt8.ofNat (48 + e)] [53, 48] || ((Lib.decDigits (10 * d + e) == [UInt8.ofNat (48 + d), UInt8.ofNat (48 + e)]) && decide (value9 [UInt8.ofNat (48 + d), UInt8.ofNat (48 + e)] = ((10 * d + e : Nat) : Int)) && decide (10 * d + e ≤ 50))
theorem two_v_all : ((List.range 10).all fun d => (List.range 10).all fun e => two_v d e) = true := by decide +kernel
theorem vars50 {v : Bs} (h : numB v = true) (ha : above v [53, 48] = false) : ∃ V : Nat, V ≤ 50 ∧ v = Lib.decDigits V ∧ value9 v = (V : Int) := by
  have hl := not_above_len ha
  obtain ⟨hd, hne⟩ := numB_parts h
  match v, hl with
  | [], _ => exact absurd rfl hne
  | [a], _ =>
    obtain ⟨d, hd1, rfl⟩ := dig_cases (by simpa using hd)
    have := List.all_eq_true.1 one_v_all d (List.mem_range.2 hd1)
    unfold one_v at this
    simp only [Bool.and_eq_true, beq_iff_eq, decide_eq_true_eq] at this
    exact ⟨d, by omega, this.1.symm, this.2⟩
  | [a, b], _ =>
    simp only [List.all_cons, List.all_nil, Bool.and_true, Bool.and_eq_true] at hd
    obtain ⟨d, hd1, rfl⟩ := dig_cases hd.1
    obtain ⟨e, he1, rfl⟩ := dig_cases hd.2
    have := List.all_eq_true.1 (List.all_eq_true.1 two_v_all d (List.mem_range.2 hd1)) e (List.mem_range.2 he1)
    unfold two_v at this
    rw [h, ha] at this
    simp only [Bool.not_true, Bool.false_or, Bool.and_eq_true, beq_iff_eq, decide_eq_true_eq] at this
    exact ⟨10 * d + e, this.2, this.1.1.symm, this.1.2⟩
  | a :: b :: c :: r, hl => simp at hl
theorem clausesTo_mem (v : Bs) (T : List Bs) (h : okAll v T = true) : ∀ (st : List (List Int) × List Int), (∀ c ∈ st.1, ∀ l ∈ c, ∃ t, litB v t = true ∧ l = litVal t) → (∀ l ∈ st.2, ∃ t, litB v t = true ∧ l = litVal t) →
    (∀ c ∈ (T.foldl clsStep st).1, ∀ l ∈ c, ∃ t, litB v t = true ∧ l = litVal t) ∧ (∀ l ∈ (T.foldl clsStep st).2, ∃ t, litB v t = true ∧ l = litVal t) := by
  induction T with
  | nil => intro st h1 h2; exact ⟨h1, h2⟩
  | cons t r ih =>
    intro st h1 h2
    simp only [okAll, List.all_cons, Bool.and_eq_true] at h
    refine ih h.2 (clsStep st t) ?_ ?_
    · intro c hc
      unfold clsStep at hc
      split at hc
      · rcases List.mem_append.1 hc with hc | hc
        · exact h1 c hc
        · simp at hc; rw [hc]; exact h2
      · exact h1 c hc
    · intro l hl
      unfold clsStep at hl
      split at hl
      · simp at hl
      · rename_i hz
        rcases List.mem_append.1 hl with hl | hl
        · exact h2 l hl
        · simp at hl
          have := h.1
          simp only [Bool.not_eq_true] at hz
          rw [hz, Bool.false_or] at this
          exact ⟨t, this, hl⟩
theorem lens_le (T : List Bs) : ∀ (st : List (List Int) × List Int) (n : Nat), (∀ c ∈ st.1, c.length ≤ n) → st.2.length ≤ n → (∀ c ∈ (T.foldl clsStep st).1, c.length ≤ n + T.length) ∧ (T.foldl clsStep st).2.length ≤ n + T.length := by
  induction T with
  | nil => intro st n h1 h2; exact ⟨h1, h2⟩
  | cons t r ih =>
    intro st n h1 h2
    have key : (∀ c ∈ (clsStep st t).1, c.length ≤ n + 1) ∧ (clsStep st t).2.length ≤ n + 1 := by
      unfold clsStep
      split
      · refine ⟨fun c hc => ?_, by simp⟩
        rcases List.mem_append.1 hc with hc | hc
        · have := h1 c hc; omega
        · simp at hc; rw [hc]; omega
      · exact ⟨fun c hc => by have := h1 c hc; omega, by simp; omega⟩
    have := ih (clsStep st t) (n + 1) key.1 key.2
    simp only [List.foldl_cons, List.length_cons]
    exact ⟨fun c hc => by have := this.1 c hc; omega, by have := this.2; omega⟩
theorem toksF_len : ∀ (l w : Bs), (toksF w l).length ≤ l.length + 1
  | [], w => by unfold toksF; split <;> simp
  | c :: r, w => by
    unfold toksF
    have := toksF_len r
    split
    · split
      · have := this []; simp; omega
      · have := this []; simp; omega
    · have := this (w ++ [c]); simp; omega
theorem headF_len : ∀ (f : Nat) {l v c r : Bs}, headF f l = some (v, c, r) → r.length ≤ l.length
  | 0, l, v, c, r, h => by simp [headF] at h
  | f + 1, l, v, c, r, h => by
    unfold headF at h
    split at h
    · split at h
      · have := headF_len f h
        have h2 : (rest l).length ≤ l.length := by unfold rest; simp
        omega
      · obtain ⟨x, hx, e⟩ := Option.map_eq_some_iff.1 h
        simp only [Prod.mk.injEq] at e
        rw [← e.2.2]; unfold rest; simp
    · cases h
/-- what Read tells, where it tells no error -/
theorem readB_ok {s : Bs} (h : (readB s).2.2 = 0) : ∃ V : Nat, V ≤ 50 ∧ (readB s).1 = (V : Int) ∧ (∀ c ∈ (readB s).2.1, ∀ l ∈ c, In50 l) ∧ (readB s).2.1.length ≤ 20001 ∧ ∀ c ∈ (readB s).2.1, c.length ≤ 20001 := by
  unfold readB at h ⊢
  split at h
  · simp at h
  · rename_i hs
    rw [if_neg hs]
    split at h
    · simp at h
    · rename_i v c r hh
      have hv := headF_num _ hh
      have hr := headF_len _ hh
      unfold body at h ⊢
      split at h
      · rename_i ho
        rw [if_pos ho]
        split at h
        · rename_i hc
          rw [if_pos hc]
          split at h
          · simp at h
          · rename_i ha
            rw [if_neg ha]
            simp only [Bool.or_eq_true, not_or, Bool.not_eq_true] at ha
            obtain ⟨V, hV, e1, e2⟩ := vars50 hv ha.1
            have tl : (toks r).length ≤ 20001 := by have := toksF_len r []; unfold toks; omega
            have cl := (clausesTo_lens (toks r)).1
            refine ⟨V, hV, e2, ?_, Nat.le_trans cl tl, ?_⟩
            · intro d hd l hl
              obtain ⟨t, ht, rfl⟩ := (clausesTo_mem v (toks r) ho ([], []) (by simp) (by simp)).1 d hd l hl
              rw [e1] at ht
              exact lit50 hV ht
            · intro d hd
              have := (lens_le (toks r) ([], []) 0 (by simp) (by simp)).1 d hd
              omega
        · simp at h
      · simp at h
/-- what Check answers -/
def Checked (s proof : Bs) (res : Int × Int) : Prop :=
  if (readB s).2.2 = 0 then ∃ n f : Nat, res = ((n : Int), (f : Int)) ∧ chk (Lib.decDigits (readB s).1.toNat) (readB s).2.1 (splitB 10 proof) 0 (n, f) else res = (0, (readB s).2.2)
theorem checked_inj {s proof : Bs} {a b : Int × Int} (h1 : Checked s proof a) (h2 : Checked s proof b) : a = b := by
  unfold Checked at h1 h2
  split at h1
  · rename_i h
    rw [if_pos h] at h2
    obtain ⟨n, f, rfl, c1⟩ := h1
    obtain ⟨n', f', rfl, c2⟩ := h2
    have := chk_inj _ _ _ _ _ _ c1 c2
    simp only [Prod.mk.injEq] at this
    rw [this.1, this.2]
  · rename_i h
    rw [if_neg h] at h2
    rw [h1, h2]
theorem OwnL.add {te ti B : Nat} {w w' : World} {cv cv' u : Value} {us : List Value} {L : List Cl} {c : Cl} (hne : te ≠ ti) (h : RMem te ti B w cv (.slice none 0 0) us L []) (hu : w.ownsRow B ti 1 u c.length (intsV c))
    (A : Appended w B te 1 cv us.length us 1 [u] cv' w') : OwnL te ti B w' cv' (L ++ [c]) := by
  refine ⟨us ++ [u], by simpa using A.own, World.ownsRow_nil _ _ _ _, by simp [h.len], fun j x hx => ?_⟩
  have keep : ∀ {n v xs}, w.ownsRow B ti 1 v n xs → w'.ownsRow B ti 1 v n xs := fun {n v xs} ho => ho.kept A.grew (own_ne ho h.outer (fun e => hne e.symm))
  have nn : x.ownBlock = none ∨ x.ownBlock ≠ (Value.slice none 0 0).ownBlock := by
    cases hu : x.ownBlock with
    | none => exact .inl rfl
    | some g => exact .inr (by simp [Value.ownBlock])
  refine ⟨?_, nn⟩
  by_cases hj : j < us.length
  · rw [List.getElem?_append_left hj] at hx
    have hc : (L ++ [c]).getD j [] = L.getD j [] := by
      simp only [List.getD_eq_getElem?_getD]
      rw [List.getElem?_append_left (by rw [← h.len]; exact hj)]
    rw [hc]
    exact keep (h.inner j x hx).1
  · have e : j = us.length := by
      have := (List.getElem?_eq_some_iff.1 hx).1
      simp at this; omega
    subst e
    simp at hx
    subst hx
    have hc : (L ++ [c]).getD us.length [] = c := by
      simp only [List.getD_eq_getElem?_getD]
      rw [h.len, List.getElem?_append_right (Nat.le_refl _)]; simp
    rw [hc]
    exact keep hu
end Rd
end Go.Proofs.YtceahffmenbibaaGreatDoor

namespace Go.Proofs.YtceahffmenbibaaGreatDoor
namespace Rd
open Go Go.RowKit Go.Deep
set_option linter.unusedVariables false
set_option linter.unusedSimpArgs false

/-- the loop's relation: k lines ahead, the clauses there -/
structure CSt (H tg cap : Nat) (P : List ByteArray) (w : World) (cv : Value) (L : List Cl) (wr : World) : Prop where
  own : OwnL 43 3 H wr cv L
  txt : wr.ownsRow H 9 1 (.slice (some ⟨tg, 0, none⟩) P.length cap) P.length (strV P)
  in50 : ∀ c ∈ L, ∀ l ∈ c, In50 l
  lens : ∀ c ∈ L, c.length ≤ 1048576
  below : Below H w wr
  size : H ≤ wr.heap.size
def CRel (H tg cap V : Nat) (P : List ByteArray) (w : World) (L0 : List Cl) (cv i : Value) (wr : World) : Prop :=
  ∃ (k : Nat) (L : List Cl), k < P.length ∧ i = .int .i64 k ∧ Hid (CSt H tg cap P w cv L wr) ∧ L.length ≤ 20001 + k ∧ Hid (∀ res, chk (Lib.decDigits V) L (bsl (P.drop k)) k res → chk (Lib.decDigits V) L0 (bsl P) 0 res)
theorem CSt.later {H tg cap : Nat} {P : List ByteArray} {w wr wr' : World} {cv : Value} {L : List Cl} (h : CSt H tg cap P w cv L wr) (hb : Below wr.heap.size wr wr') : CSt H tg cap P w cv L wr' :=
  ⟨h.own.later hb, owns_later h.txt hb, h.in50, h.lens, h.below.trans (hb.mono h.size), Nat.le_trans h.size hb.size⟩
theorem CSt.cell {H tg cap : Nat} {P : List ByteArray} {w wr : World} {cv : Value} {L : List Cl} (h : CSt H tg cap P w cv L wr) (j : Nat) (hj : j < P.length) : wr.cell? ⟨tg, j, none⟩ = some (.string P[j]) := by
  have := h.txt.cells (g := tg) rfl j (.string P[j]) (by simp [strV, hj])
  simpa [Addr.add_lit] using this
theorem bsl_drop {P : List ByteArray} {k : Nat} (h : k < P.length) : bsl (P.drop k) = P[k].data.toList :: bsl (P.drop (k + 1)) := by
  rw [List.drop_eq_getElem_cons h]; rfl
/-- what Check returns -/
def CheckRet (s proof : ByteArray) (e : Ending) : Prop := ∃ n f, e = .returned (.tuple #[.int .i64 n, .int .i64 f]) ∧ Checked s.data.toList proof.data.toList (n, f)
theorem chk_last {v : Bs} {L : List Cl} {P : List ByteArray} {k : Nat} (h : k + 1 = P.length) (res : Nat × Nat) : chk v L (bsl (P.drop k)) k res ↔ (if (P[k]'(by omega)).size = 0 then res = (k, 5) else res = (k + 1, 3)) := by
  rw [bsl_drop (by omega), List.drop_eq_nil_of_le (by omega)]
  unfold chk
  simp only [bsl, List.map_nil, List.isEmpty_nil, if_true]
  have : (P[k]'(by omega)).data.toList.isEmpty = decide ((P[k]'(by omega)).size = 0) := by
    generalize P[k]'(by omega) = x
    rw [Bool.eq_iff_iff, List.isEmpty_iff_length_eq_zero, decide_eq_true_eq, Array.length_toList]
    exact Iff.rfl
  rw [this]
  simp
theorem chk_line {v : Bs} {L : List Cl} {P : List ByteArray} {k : Nat} (h : k + 1 < P.length) (res : Nat × Nat) : chk v L (bsl (P.drop k)) k res = (match lineB v (P[k]'(by omega)).data.toList with
      | none => res = (k + 1, 3)
      | some (true, c) => (match rem L c with
          | none => res = (k + 1, 4)
          | some L' => chk v L' (bsl (P.drop (k + 1))) (k + 1) res)
      | some (false, c) => (¬ RightP L c → res = (k + 1, 4)) ∧ (RightP L c → if c.isEmpty then res = (k + 1, 0) else chk v (L ++ [c]) (bsl (P.drop (k + 1))) (k + 1) res)) := by
  rw [bsl_drop (by omega)]
  have : (bsl (P.drop (k + 1))).isEmpty = false := by
    rw [bsl_drop h]; rfl
  conv => lhs; unfold chk
  rw [this, if_neg (by decide)]
  rfl
theorem rem_mem : ∀ {L : List Cl} {c : Cl} {L' : List Cl}, rem L c = some L' → (∀ d ∈ L', d ∈ L) ∧ L'.length ≤ L.length
  | [], c, L', h => by simp [rem] at h
  | d :: r, c, L', h => by
    unfold rem at h
    split at h
    · cases h; exact ⟨fun x hx => List.mem_cons_of_mem _ hx, by simp⟩
    · obtain ⟨M, hM, rfl⟩ := Option.map_eq_some_iff.1 h
      obtain ⟨h1, h2⟩ := rem_mem hM
      refine ⟨fun x hx => ?_, by simp; omega⟩
      rcases List.mem_cons.1 hx with rfl | hx
      · exact List.mem_cons_self ..
      · exact List.mem_cons_of_mem _ (h1 x hx)

set_option maxHeartbeats 4000000 in
set_option maxRecDepth 100000 in
theorem rcheck_any (s proof : ByteArray) (w : World) (hs : s.size ≤ maxLen) (hp : proof.size ≤ 1048576) :
    Calls Tryz.prog 50 #[.string s, .string proof] w fun e w' => Below w.heap.size w w' ∧ CheckRet s proof e := by
  obtain ⟨j0, hj, hy0, hy1, hy2⟩ := info_parts Tryz.infoInts''
  go_enter Tryz.func50, Tryz.ntmps50
  go_wp2_with fail
  refine (rread_any s w hs).mono ?_
  rintro e1 w1 ⟨hb1, u1, rfl, _, hown⟩
  have CK : Hid (∀ n f, Checked s.data.toList proof.data.toList (n, f) ↔ (if (readB s.data.toList).2.2 = 0 then ∃ a b : Nat, (n, f) = ((a : Int), (b : Int)) ∧ chk (Lib.decDigits (readB s.data.toList).1.toNat) (readB s.data.toList).2.1 (splitB 10 proof.data.toList) 0 (a, b) else (n, f) = (0, (readB s.data.toList).2.2))) := fun n f => Iff.rfl
  have RO := hide (readB_ok (s := s.data.toList))
  have HO := hide hown
  have HB1 := hide hb1
  have s1 := hb1.size
  clear hown hb1
  generalize readB s.data.toList = r at CK RO HO
  obtain ⟨r1, L0, rf⟩ := r
  simp only at CK RO HO ⊢
  by_cases he : rf = 0
  · subst he
    obtain ⟨V, hV, e1, h50, hL0, hlen⟩ := unhide RO rfl
    subst e1
    have CK2 : Hid (∀ a b : Nat, chk (Lib.decDigits V) L0 (splitB 10 proof.data.toList) 0 (a, b) → Checked s.data.toList proof.data.toList ((a : Int), (b : Int))) := by
      intro a b h
      rw [unhide CK, if_pos rfl]
      exact ⟨a, b, rfl, h⟩
    obtain ⟨ca, cc, hcsh⟩ : ∃ a c, u1 = .slice a L0.length c := by
      obtain ⟨us, hR⟩ := unhide HO
      obtain ⟨a, c, e⟩ := own_shape hR.outer
      rw [hR.len] at e; exact ⟨a, c, e⟩
    subst hcsh
    have H50 := hide h50
    have HLN := hide hlen
    clear CK RO h50 hlen
    go_wp2_with fail
    refine (split_any 10 proof w1 hp).mono ?_
    rintro e2 w2 ⟨lv, P, rfl, hP, hown2, hb2, hPs⟩
    have hne : P.length ≠ 0 := by
      have := splitB_ne 10 proof.data.toList
      rw [← unhide hP] at this; simpa [bsl] using this
    have hpl : P.length ≤ proof.size + 1 := by
      have h1 : (bsl P).length = P.length := by simp [bsl]
      rw [← h1, unhide hP]; unfold splitB
      have := splitTo_len 10 proof.data.toList
      simp at this ⊢; exact this
    obtain ⟨la, cap, tg, rfl, hla, hcell⟩ := row_any (unhide hown2)
    obtain ⟨hla1, hla2⟩ := hla (by omega)
    subst hla1
    rw [← unhide hP] at CK2
    have ST : Hid (CSt w.heap.size tg cap P w (.slice ca L0.length cc) L0 w2) := ⟨(unhide HO).later hb2, owns_le (unhide hown2) s1, unhide H50, fun c hc => Nat.le_trans (unhide HLN c hc) (by omega), (unhide HB1).trans (hb2.mono s1), Nat.le_trans s1 hb2.size⟩
    have PS : Hid (∀ j (hj : j < P.length), P[j].size ≤ 1048576) := fun j hj => Nat.le_trans (unhide hPs _ (List.getElem_mem hj)) hp
    clear hP hown2 hb2 hPs hcell hla hla2 HO HB1 H50 HLN
    go_wp2
    go_loopw [7, 10] (fun cv i wr => CRel w.heap.size tg cap V P w L0 cv i wr) (fun _ i _ => P.length - (intOf i).toNat)
    case atStart => exact ⟨0, L0, by omega, rfl, ST, by omega, fun res h => h⟩
    case round =>
      clear ST
      obtain ⟨k, L, hk, rfl, hst, hLl, hchk⟩ := hrel
      have ct := (unhide hst).cell k hk
      have pz := unhide PS k hk
      have sz := (unhide hst).size
      by_cases hlast : k + 1 = P.length
      · have CL := hide (fun res => chk_last (v := Lib.decDigits V) (L := L) hlast res)
        have hl1 : ((k : Int) == (P.length : Int) - 1) = true := by rw [beq_iff_eq]; omega
        generalize P[k]'hk = p at ct pz CL
        by_cases p0 : p.size = 0
        · have R : Hid (Checked s.data.toList proof.data.toList ((k : Int), 5)) := unhide CK2 k 5 (unhide hchk _ ((unhide CL _).2 (by rw [if_pos p0])))
          have pe : p.toList.isEmpty = true := isEmpty_of p0
          go_wp2
          go_ret2
          exact ⟨(unhide hst).below, _, _, rfl, unhide R⟩
        · have R : Hid (Checked s.data.toList proof.data.toList (((k + 1 : Nat) : Int), 3)) := unhide CK2 (k + 1) 3 (unhide hchk _ ((unhide CL _).2 (by rw [if_neg p0])))
          have pe : p.toList.isEmpty = false := notEmpty_of p0
          have q := line_any p V wr pz hV
          go_wp2_with fail
          with_reducible refine q.mono ?_
          rintro e3 w3 ⟨hb3, hr⟩
          have HB3 : Hid (Below w.heap.size w w3) := (unhide hst).below.trans (hb3.mono sz)
          have s3 := hb3.size
          clear q hb3
          rcases hr with ⟨_, g, xa, xn, xc, rfl⟩ | ⟨g, c, u, _, rfl, _, ho⟩
          · go_wp2
            go_ret2
            exact ⟨(unhide HB3).alloc (by omega) _, _, _, rfl, unhide R⟩
          · obtain ⟨xa, xc, hsh⟩ := own_shape ho
            subst hsh
            clear ho
            go_wp2
            go_ret2
            exact ⟨(unhide HB3).alloc (by omega) _, _, _, rfl, unhide R⟩
      · have hk2 : k + 1 < P.length := by omega
        have CL := hide (fun res => chk_line (v := Lib.decDigits V) (L := L) hk2 res)
        have hl1 : ((k : Int) == (P.length : Int) - 1) = false := by rw [beq_eq_false_iff_ne]; omega
        generalize P[k]'hk = p at ct pz CL
        have q := line_any p V wr pz hV
        obtain ⟨ca', cc', hcsh⟩ : ∃ a c, u7 = .slice a L.length c := by
          obtain ⟨us, hR⟩ := (unhide hst).own
          obtain ⟨a, c, e⟩ := own_shape hR.outer
          rw [hR.len] at e; exact ⟨a, c, e⟩
        subst hcsh
        go_wp2_with fail
        with_reducible refine q.mono ?_
        rintro e3 w3 ⟨hb3, hr⟩
        have hst3 := hide ((unhide hst).later hb3)
        have s3 := hb3.size
        have h3b := hb3
        have HB3w := hide hb3
        clear q hb3 hst ct h3b
        have B3 := hide (unhide hst3).below
        rcases hr with ⟨hl, g, xa, xn, xc, rfl⟩ | ⟨g, c, u, hl, rfl, hcl, ho⟩
        · have R : Hid (Checked s.data.toList proof.data.toList (((k + 1 : Nat) : Int), 3)) := unhide CK2 (k + 1) 3 (unhide hchk _ (by rw [unhide CL, hl]))
          clear hl
          go_wp2
          go_ret2
          exact ⟨(unhide B3).alloc (by omega) _, _, _, rfl, unhide R⟩
        · obtain ⟨xa, xc, hsh⟩ := own_shape ho
          subst hsh
          have hcl2 : c.length ≤ 1048576 := by omega
          have C50 := hide (lineB50 hV hl)
          have HL := hide hl
          have st4 := fun o => (unhide hst3).later ((Below.refl _ _).alloc (Nat.le_refl _) o)
          have ho4 := fun o => owns_le ((ho.alloc o)) sz
          have RC := fun o => rowC_own (ho.alloc o)
          have HST4 := hide st4
          have HO4 := hide ho4
          have HRC := hide RC
          clear hl st4 ho4 RC ho
          cases g with
          | true =>
            have q4 := fun o => without_any' w.heap.size L c (.slice ca' L.length cc') (.slice xa c.length xc) (w3.alloc o) (unhide HST4 o).own (unhide HRC o).rd (by simp; omega) (by omega) hcl2 (unhide HST4 o).lens
            go_wp2_with fail
            with_reducible refine (q4 _).mono ?_
            rintro e5 w5 ⟨hb5, hr5⟩
            clear q4
            have st5 := (unhide HST4 _).later hb5
            have HS5 := hide st5
            have B5 := hide st5.below
            have cx0 : w5.cell? ⟨w3.heap.size, 0, none⟩ = some (.bool true) := by rw [hb5.cell (p := ⟨w3.heap.size, 0, none⟩) (by simp)]; simp
            clear hb5 st5
            rcases hr5 with ⟨hr5, rfl⟩ | ⟨L', v', hr5, rfl, ho5⟩
            · have R : Hid (Checked s.data.toList proof.data.toList (((k + 1 : Nat) : Int), 4)) := unhide CK2 (k + 1) 4 (unhide hchk _ (by rw [unhide CL, unhide HL]; simp only [hr5]))
              clear hr5
              go_wp2
              go_ret2
              exact ⟨unhide B5, _, _, rfl, unhide R⟩
            · have hc' : Hid (∀ res, chk (Lib.decDigits V) L' (bsl (P.drop (k + 1))) (k + 1) res → chk (Lib.decDigits V) L0 (bsl P) 0 res) := fun res h => unhide hchk res (by rw [unhide CL, unhide HL]; simp only [hr5]; exact h)
              obtain ⟨m1, m2⟩ := rem_mem hr5
              have S6 : Hid (CSt w.heap.size tg cap P w v' L' w5) := ⟨ho5, (unhide HS5).txt, fun d hd => (unhide HS5).in50 d (m1 d hd), fun d hd => (unhide HS5).lens d (m1 d hd), unhide B5, (unhide HS5).size⟩
              clear hr5 ho5 m1
              go_wp2
              go_roundw
              case rel => exact ⟨k + 1, L', hk2, ret_int' (by omega), S6, by omega, hc'⟩
              case measure => simp [intOf]; omega
          | false =>
            have q4 := fun o => right_any L c (.slice ca' L.length cc') (.slice xa c.length xc) (w3.alloc o) (unhide HST4 o).own.lists (unhide HRC o) (unhide HST4 o).in50 (unhide C50) (by omega) hcl2 (unhide HST4 o).lens
            go_wp2_with fail
            with_reducible refine (q4 _).mono ?_
            rintro e5 w5 ⟨hb5, b5, rfl, hR5⟩
            clear q4
            have st5 := (unhide HST4 _).later hb5
            have HS5 := hide st5
            have B5 := hide st5.below
            have s5 := st5.size
            have cx0 : w5.cell? ⟨w3.heap.size, 0, none⟩ = some (.bool false) := by rw [hb5.cell (p := ⟨w3.heap.size, 0, none⟩) (by simp)]; simp
            have cx1 : w5.cell? ⟨w3.heap.size, 1, none⟩ = some (.slice xa c.length xc) := by rw [hb5.cell (p := ⟨w3.heap.size, 1, none⟩) (by simp)]; simp
            have o5 := owns_later (unhide HO4 _) hb5
            have HO5 := hide o5
            have XB : Hid (w5.heap[w3.heap.size]? = some (.cells #[.bool false, .slice xa c.length xc] 148 (0, 0))) := by unfold Hid; rw [hb5.block _ (by simp)]; exact heap_alloc_new _ _
            obtain ⟨us, hR⟩ := st5.own
            have ul := hR.len
            have hw3 : w3.heap.size < w5.heap.size := by have := hb5.size; simp at this; omega
            have HR := hide hR
            clear hb5 st5 o5 hR
            go_wp2_with (at_builtin; refine wpList_append_any _ rfl _ _ 32 rfl w.heap.size 43 j0 (.slice none 0 0) 1 24 Tryz.underlying32 hj hy0 hy1 hy2 rfl (by decide) _ us.length us rfl ((unhide HR).outer.alloc _) _ 1 [.slice xa c.length xc] rfl (.inr ⟨⟨w5.heap.size, 0, none⟩, 1, rfl, cell_one_new _ _ _⟩) rfl (by simp [Value.oneCell']) (by unfold maxLen; omega) (by omega) (by simp; omega) ?_)
            intro cv6 w6 A6
            have ad6 := OwnL.add (te := 43) (ti := 3) (c := c) (by decide) ((unhide HR).later ((Below.refl _ _).alloc (Nat.le_refl _) _)) ((unhide HO5).alloc _) (show Appended _ _ _ _ _ us.length us _ _ _ _ by rw [ul]; exact A6)
            have tx6 := ((unhide HS5).txt.alloc _).kept A6.grew (own_ne (unhide HS5).txt (unhide HR).outer (by decide))
            have b6 := ((unhide B5).alloc s5 _).grown A6.grew (by simp; omega) (fun n hn => ((unhide HR).outer.lt n hn).1)
            have blk6 : w6.heap[w3.heap.size]? = w5.heap[w3.heap.size]? := by
              rw [A6.grew.block _ (by simp; omega) ?_]
              · exact Below.heap_alloc w5 _ _ hw3
              · intro e
                rcases (unhide HR).outer.2 with ⟨e3, _⟩ | ⟨g, cp, cur, e3, _, e4, _⟩
                · rw [e3] at e; simp [Value.ownBlock] at e
                · rw [e3] at e
                  simp only [Value.ownBlock, Option.some.injEq] at e
                  rw [← e, unhide XB] at e4
                  simp at e4
            have cy0 : w6.cell? ⟨w3.heap.size, 0, none⟩ = some (.bool false) := by rw [World.cell?_of_block (a := ⟨w3.heap.size, 0, none⟩) blk6]; exact cx0
            have cy1 : w6.cell? ⟨w3.heap.size, 1, none⟩ = some (.slice xa c.length xc) := by rw [World.cell?_of_block (a := ⟨w3.heap.size, 1, none⟩) blk6]; exact cx1
            have S6 : Hid (CSt w.heap.size tg cap P w cv6 (L ++ [c]) w6) := ⟨ad6, tx6, fun d hd => by
              rcases List.mem_append.1 hd with hd | hd
              · exact (unhide HS5).in50 d hd
              · simp at hd; rw [hd]; exact unhide C50, fun d hd => by
              rcases List.mem_append.1 hd with hd | hd
              · exact (unhide HS5).lens d hd
              · simp at hd; rw [hd]; exact hcl2, b6, by have := A6.grew.size; simp at this; omega⟩
            have HB6 := hide b6
            clear ad6 tx6 b6 blk6 A6 cx0 cx1
            cases b5 with
            | false =>
              have R : Hid (Checked s.data.toList proof.data.toList (((k + 1 : Nat) : Int), 4)) := unhide CK2 (k + 1) 4 (unhide hchk _ (by
                rw [unhide CL, unhide HL]
                exact ⟨fun _ => rfl, fun h => by have := hR5.2 h; cases this⟩))
              clear hR5
              go_wp2
              go_ret2
              exact ⟨unhide HB6, _, _, rfl, unhide R⟩
            | true =>
              have HR5 := hide (hR5.1 rfl)
              clear hR5
              by_cases hc0 : c.length = 0
              · have t0 : ((c.length : Int) == 0) = true := by rw [beq_iff_eq]; omega
                have R : Hid (Checked s.data.toList proof.data.toList (((k + 1 : Nat) : Int), 0)) := unhide CK2 (k + 1) 0 (unhide hchk _ (by
                  rw [unhide CL, unhide HL]
                  exact ⟨fun h => absurd (unhide HR5) h, fun _ => by rw [if_pos (by rw [List.isEmpty_iff_length_eq_zero]; exact hc0)]⟩))
                go_wp2
                go_ret2
                exact ⟨unhide HB6, _, _, rfl, unhide R⟩
              · have t0 : ((c.length : Int) == 0) = false := by rw [beq_eq_false_iff_ne]; omega
                have hc' : Hid (∀ res, chk (Lib.decDigits V) (L ++ [c]) (bsl (P.drop (k + 1))) (k + 1) res → chk (Lib.decDigits V) L0 (bsl P) 0 res) := fun res h => unhide hchk res (by
                  rw [unhide CL, unhide HL]
                  exact ⟨fun h => absurd (unhide HR5) h, fun _ => by rw [if_neg (by rw [List.isEmpty_iff_length_eq_zero]; exact hc0)]; exact h⟩)
                have ll : (L ++ [c]).length ≤ 20001 + (k + 1) := by simp; omega
                clear hc0
                go_wp2
                go_roundw
                case rel => exact ⟨k + 1, L ++ [c], hk2, ret_int' (by omega), S6, ll, hc'⟩
                case measure => simp [intOf]; omega
  · have hb : (rf != 0) = true := by simpa using he
    have C : Hid (Checked s.data.toList proof.data.toList (0, rf)) := by unfold Hid; rw [unhide CK, if_neg he]
    clear RO HO CK
    go_wp2
    go_ret2
    exact ⟨unhide HB1, _, _, rfl, unhide C⟩
end Rd
end Go.Proofs.YtceahffmenbibaaGreatDoor
