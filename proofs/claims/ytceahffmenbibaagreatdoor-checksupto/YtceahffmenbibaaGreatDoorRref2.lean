/- Walk of the document's tokens. -/
import Derived.Test.YtceahffmenbibaaGreatDoorRref1
import Derived.Test.YtceahffmenbibaaGreatDoorRprog1
namespace Go.Proofs.YtceahffmenbibaaGreatDoor
namespace Rd
open Go Go.RowKit
set_option linter.unusedVariables false
set_option linter.unusedSimpArgs false

theorem toksTo_len (l : Bs) : (toksTo l).1.length ≤ l.length ∧ (toksTo l).2.length ≤ l.length ∧ (∀ t ∈ (toksTo l).1, t.length ≤ l.length) := by
  suffices h : ∀ (l : Bs) (st : List Bs × Bs) (n : Nat), st.1.length ≤ n → st.2.length ≤ n → (∀ t ∈ st.1, t.length ≤ n) →
      (l.foldl tokStep st).1.length ≤ n + l.length ∧ (l.foldl tokStep st).2.length ≤ n + l.length ∧ (∀ t ∈ (l.foldl tokStep st).1, t.length ≤ n + l.length) by
    have := h l ([], []) 0 (by simp) (by simp) (by simp); simpa [toksTo] using this
  intro l
  induction l with
  | nil => intro st n h1 h2 h3; simpa using ⟨h1, h2, h3⟩
  | cons c r ih =>
    intro st n h1 h2 h3
    simp only [List.foldl_cons, List.length_cons]
    have key : (tokStep st c).1.length ≤ n + 1 ∧ (tokStep st c).2.length ≤ n + 1 ∧ ∀ t ∈ (tokStep st c).1, t.length ≤ n + 1 := by
      unfold tokStep
      split
      · split
        · exact ⟨by simp; omega, by simp, fun t ht => by have := h3 t ht; omega⟩
        · refine ⟨by simp; omega, by simp, fun t ht => ?_⟩
          simp at ht
          rcases ht with ht | rfl
          · have := h3 t ht; omega
          · omega
      · exact ⟨by simp; omega, by simp; omega, fun t ht => by have := h3 t ht; omega⟩
    have := ih (tokStep st c) (n + 1) key.1 key.2.1 key.2.2
    refine ⟨by omega, by omega, fun t ht => by have := this.2.2 t ht; omega⟩

def TokAt (s : ByteArray) (k : Nat) (P : List ByteArray) (wd : ByteArray) : Prop := toksTo (s.data.toList.take k) = (bsl P, wd.data.toList)
theorem TokAt.len {s : ByteArray} {k : Nat} {P : List ByteArray} {wd : ByteArray} (h : TokAt s k P wd) (hk : k ≤ s.size) : P.length ≤ k ∧ wd.size ≤ k ∧ ∀ x ∈ P, x.size ≤ k := by
  have := toksTo_len (s.data.toList.take k)
  rw [h] at this
  have hl : (s.data.toList.take k).length = k := by simp; omega
  rw [hl] at this
  refine ⟨by simpa [bsl] using this.1, by simpa using this.2.1, fun x hx => ?_⟩
  have := this.2.2 x.data.toList (by simp only [bsl, List.mem_map]; exact ⟨x, hx, rfl⟩)
  simpa using this
theorem append_list (a b : ByteArray) : (a ++ b).data.toList = a.data.toList ++ b.data.toList := by
  simp
theorem TokAt.more {s : ByteArray} {k : Nat} {P : List ByteArray} {wd : ByteArray} (h : TokAt s k P wd) (hk : k < s.size) (hg : gap s[k] = false) : TokAt s (k + 1) P (wd ++ s.extract k (k + 1)) := by
  unfold TokAt at *
  rw [take_snoc s k hk, toksTo_snoc, h]
  unfold tokStep
  rw [hg, if_neg (by simp), append_list, extract_sub, sub_succ (Nat.le_refl _) hk]
  simp [sub]
theorem TokAt.gapE {s : ByteArray} {k : Nat} {P : List ByteArray} {wd : ByteArray} (h : TokAt s k P wd) (hk : k < s.size) (hg : gap s[k] = true) (h0 : wd.size = 0) : TokAt s (k + 1) P ⟨#[]⟩ := by
  unfold TokAt at *
  have e : wd.data.toList = [] := List.eq_nil_of_length_eq_zero (by simpa using h0)
  rw [take_snoc s k hk, toksTo_snoc, h, e]
  unfold tokStep
  rw [hg]; simp
theorem TokAt.gapW {s : ByteArray} {k : Nat} {P : List ByteArray} {wd : ByteArray} (h : TokAt s k P wd) (hk : k < s.size) (hg : gap s[k] = true) (h0 : ¬ wd.size = 0) : TokAt s (k + 1) (P ++ [wd]) ⟨#[]⟩ := by
  unfold TokAt at *
  have e : wd.data.toList.isEmpty = false := by
    rw [Bool.eq_false_iff]; intro h'; apply h0
    have := congrArg List.length (List.isEmpty_iff.1 h'); simpa using this
  rw [take_snoc s k hk, toksTo_snoc, h]
  unfold tokStep
  rw [hg, if_pos rfl]
  simp only [e]
  simp [bsl]
theorem TokAt.done {s : ByteArray} {k : Nat} {P : List ByteArray} {wd : ByteArray} (h : TokAt s k P wd) (hk : ¬ k < s.size) : toks s.data.toList = if wd.size = 0 then bsl P else bsl (P ++ [wd]) := by
  unfold TokAt at h
  rw [take_all s hk] at h
  rw [← toks_eq, h]
  unfold close
  by_cases h0 : wd.size = 0
  · have e : wd.data.toList = [] := List.eq_nil_of_length_eq_zero (by simpa using h0)
    rw [if_pos h0]; simp [e]
  · have e : wd.data.toList.isEmpty = false := by
      rw [Bool.eq_false_iff]; intro h'; apply h0
      have := congrArg List.length (List.isEmpty_iff.1 h'); simpa using this
    rw [if_neg h0]; simp only [e]; simp [bsl]

theorem gap_no {c : UInt8} (h : gap c = false) : ((c.toNat : Int) != 32) = true ∧ ((c.toNat : Int) != 9) = true ∧ ((c.toNat : Int) != 10) = true := by
  unfold gap at h
  simp [← UInt8.toNat_inj] at h
  simp
  omega
theorem gap_yes {c : UInt8} (h : gap c = true) : ((c.toNat : Int) != 32) = false ∨ (((c.toNat : Int) != 32) = true ∧ ((c.toNat : Int) != 9) = false) ∨ (((c.toNat : Int) != 32) = true ∧ ((c.toNat : Int) != 9) = true ∧ ((c.toNat : Int) != 10) = false) := by
  unfold gap at h
  simp [← UInt8.toNat_inj] at h
  simp
  omega

set_option maxHeartbeats 2000000 in
theorem tokens_any (s : ByteArray) (w : World) (hs : s.size ≤ 20000) :
    Calls Tryz.prog 80 #[.string s] w fun e w' => ∃ (v : Value) (P : List ByteArray), e = .returned v ∧ Hid (bsl P = toks s.data.toList) ∧ Hid (w'.ownsRow w.heap.size 9 1 v P.length (strV P)) ∧ Below w.heap.size w w' ∧
      P.length ≤ 20000 ∧ Hid (∀ x ∈ P, x.size ≤ 20000) := by
  obtain ⟨i0, hi, hz0, hz1, hz2⟩ := info_parts Tryz.infoStr
  go_enter Tryz.func80, Tryz.ntmps80
  go_wp2
  go_loopw [3, 4, 5] (fun v f i wr => ∃ (k : Nat) (wd : ByteArray) (P : List ByteArray), k ≤ s.size ∧ i = .int .i64 k ∧ f = .string wd ∧ Hid (TokAt s k P wd) ∧ wr.ownsRow w.heap.size 9 1 v P.length (strV P) ∧ Below w.heap.size w wr) (fun _ _ i _ => s.size - (intOf i).toNat)
  case atStart => exact ⟨0, ⟨#[]⟩, [], Nat.zero_le _, rfl, rfl, by unfold Hid TokAt; simp [toksTo, bsl], World.ownsRow_nil _ _ _ _, Below.refl _ _⟩
  case round =>
    obtain ⟨k, wd, P, hk, rfl, rfl, hsp, hown, hb⟩ := hrel
    obtain ⟨pl, wl, pll⟩ := (unhide hsp).len hk
    have PLL := hide pll
    clear pll
    have hbs := hb.size
    by_cases hlt : k < s.size
    · by_cases hg : gap s[k] = true
      · by_cases h0 : wd.size = 0
        · have he := isEmpty_of h0
          have N := hide ((unhide hsp).gapE hlt hg h0)
          have R1 := hide hown
          have R2 := hide hb
          clear hown hb h0
          rcases gap_yes hg with d1 | ⟨d1, d2⟩ | ⟨d1, d2, d3⟩
          all_goals
            clear hg
            go_wp2
            go_roundw
            case rel => exact ⟨k + 1, ⟨#[]⟩, P, by omega, by go_num, rfl, N, unhide R1, unhide R2⟩
            case measure => simp [intOf]; omega
        · have he := notEmpty_of h0
          have N := hide ((unhide hsp).gapW hlt hg h0)
          clear h0
          rcases gap_yes hg with d1 | ⟨d1, d2⟩ | ⟨d1, d2, d3⟩
          all_goals
            clear hg
            go_wp2_with (at_builtin; refine wpList_append_own _ rfl _ _ 70 rfl w.heap.size 9 i0 (.string ⟨#[]⟩) 1 16 Tryz.underlying70 hi hz0 hz1 hz2 rfl (by decide) _ _ _ rfl (hown.alloc _) ⟨wr.heap.size, 0, none⟩ 1 1 [.string wd] rfl rfl (cell_one_new _ _ _) (by simp [Value.oneCell']) (by unfold maxLen; omega) (by omega) (by simp; omega) ?_)
            intro v' w1 hown' hgrow _
            have R1 : Hid (w1.ownsRow w.heap.size 9 1 v' (P ++ [wd]).length (strV (P ++ [wd]))) := by
              unfold Hid strV at *; simpa using hown'
            have R2 : Hid (Below w.heap.size w w1) := (hb.alloc hbs _).grown hgrow (by simp; omega) (fun k hk => (hown.lt k hk).1)
            clear hown' hgrow hown hb
            go_wp2
            go_roundw
            case rel => exact ⟨k + 1, ⟨#[]⟩, P ++ [wd], by omega, by go_num, rfl, N, unhide R1, unhide R2⟩
            case measure => simp [intOf]; omega
      · have hg' : gap s[k] = false := by simpa using hg
        have N := hide ((unhide hsp).more hlt hg')
        have R1 := hide hown
        have R2 := hide hb
        obtain ⟨d1, d2, d3⟩ := gap_no hg'
        clear hown hb hg hg'
        go_wp2
        go_roundw
        case rel => exact ⟨k + 1, wd ++ s.extract k (k + 1), P, by omega, by go_num, rfl, N, unhide R1, unhide R2⟩
        case measure => simp [intOf]; omega
    · have D := hide ((unhide hsp).done hlt)
      by_cases h0 : wd.size = 0
      · have he := isEmpty_of h0
        have N : Hid (bsl P = toks s.data.toList) := by unfold Hid; rw [unhide D, if_pos h0]
        have R1 := hide hown
        have R2 := hide hb
        clear hown hb h0 D
        go_wp2
        go_ret
        exact ⟨_, P, rfl, N, R1, unhide R2, by omega, fun x hx => by have := unhide PLL x hx; omega⟩
      · have he := notEmpty_of h0
        have N : Hid (bsl (P ++ [wd]) = toks s.data.toList) := by unfold Hid; rw [unhide D, if_neg h0]
        have wp : 1 ≤ wd.size := by omega
        have T0 : Hid ((toks s.data.toList).length ≤ s.size) := by unfold Hid; have := (toks_len s.data.toList).1; simpa using this
        clear h0 D
        go_wp2_with (at_builtin; refine wpList_append_own _ rfl _ _ 70 rfl w.heap.size 9 i0 (.string ⟨#[]⟩) 1 16 Tryz.underlying70 hi hz0 hz1 hz2 rfl (by decide) _ _ _ rfl (hown.alloc _) ⟨wr.heap.size, 0, none⟩ 1 1 [.string wd] rfl rfl (cell_one_new _ _ _) (by simp [Value.oneCell']) (by unfold maxLen; omega) (by omega) (by simp; omega) ?_)
        intro v' w1 hown' hgrow _
        have R1 : Hid (w1.ownsRow w.heap.size 9 1 v' (P ++ [wd]).length (strV (P ++ [wd]))) := by
          unfold Hid strV at *; simpa using hown'
        have R2 : Hid (Below w.heap.size w w1) := (hb.alloc hbs _).grown hgrow (by simp; omega) (fun k hk => (hown.lt k hk).1)
        clear hown' hgrow hown hb
        go_wp2
        go_ret
        refine ⟨_, P ++ [wd], rfl, N, R1, unhide R2, ?_, fun x hx => ?_⟩
        · have := unhide T0
          rw [← unhide N] at this
          simp [bsl] at this ⊢
          omega
        · simp at hx
          rcases hx with hx | rfl
          · have := unhide PLL x hx; omega
          · omega
end Rd
end Go.Proofs.YtceahffmenbibaaGreatDoor
