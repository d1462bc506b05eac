/- Walks of the program's parser: the problem's line, numbers, tokens. -/
import Derived.Test.YtceahffmenbibaaGreatDoorRprog2
namespace Go.Proofs.YtceahffmenbibaaGreatDoor
namespace Rd
open Go Go.RowKit Go.Proofs
set_option linter.unusedVariables false
set_option linter.unusedSimpArgs false

abbrev pcnf : Bs := [112, 32, 99, 110, 102, 32]
def cutP (l : Bs) : Option (Bs × Bs × Bs) :=
  if ended l && Lib.hasPrefix (line l) pcnf && (Lib.cut (Lib.trimPrefix (line l) pcnf) [32]).2.2 && numB (Lib.cut (Lib.trimPrefix (line l) pcnf) [32]).1 && numB (Lib.cut (Lib.trimPrefix (line l) pcnf) [32]).2.1
  then some ((Lib.cut (Lib.trimPrefix (line l) pcnf) [32]).1, (Lib.cut (Lib.trimPrefix (line l) pcnf) [32]).2.1, rest l) else none

theorem cut_len1 (l sep : Bs) : (Lib.cut l sep).1.length ≤ l.length := by unfold Lib.cut; split <;> simp; omega
theorem cut_len2 (l sep : Bs) : (Lib.cut l sep).2.1.length ≤ l.length := by unfold Lib.cut; split <;> simp
theorem trim_len (l p : Bs) : (Lib.trimPrefix l p).length ≤ l.length := by unfold Lib.trimPrefix; split <;> simp

theorem cutP_isSome {l y t a b : Bs} (hy : y = if ended l then line l else l) (ht : t = Lib.trimPrefix y pcnf) (ha : a = (Lib.cut t [32]).1) (hb : b = (Lib.cut t [32]).2.1) :
    (cutP l).isSome = (ended l && Lib.hasPrefix y pcnf && (Lib.cut t [32]).2.2 && numB a && numB b) := by
  unfold cutP
  cases e1 : ended l with
  | false => rfl
  | true =>
    rw [e1, if_pos rfl] at hy
    subst hy ht ha hb
    cases (true && Lib.hasPrefix (line l) pcnf && (Lib.cut (Lib.trimPrefix (line l) pcnf) [32]).2.2 && numB (Lib.cut (Lib.trimPrefix (line l) pcnf) [32]).1 && numB (Lib.cut (Lib.trimPrefix (line l) pcnf) [32]).2.1) <;> rfl
theorem cutP_parts {l y z t a b : Bs} (hy : y = if ended l then line l else l) (hz : z = if ended l then rest l else []) (ht : t = Lib.trimPrefix y pcnf) (ha : a = (Lib.cut t [32]).1) (hb : b = (Lib.cut t [32]).2.1) :
    ∀ o, cutP l = some o → o = (a, b, z) := by
  intro o ho
  unfold cutP at ho
  cases e1 : ended l with
  | false => rw [e1] at ho; simp at ho
  | true =>
    rw [e1, if_pos rfl] at hy hz
    subst hy hz ht ha hb
    split at ho
    · exact (Option.some.inj ho).symm
    · cases ho

set_option maxHeartbeats 1000000 in
theorem cutProblem_any (s : ByteArray) (m : Int) (w : World) (hs : s.size ≤ 20000) (hm : w.cell? ⟨0, 0, none⟩ = some (.int .i64 m)) :
    Calls Tryz.prog 61 #[.string s] w fun e w' => (∃ n, w' = w.drewN n) ∧ ∃ a b z : ByteArray, e = .returned (.tuple #[.string a, .string b, .string z, .bool (cutP s.data.toList).isSome]) ∧
      (∀ o, cutP s.data.toList = some o → o = (a.data.toList, b.data.toList, z.data.toList)) ∧ a.size ≤ 20000 ∧ b.size ≤ 20000 ∧ z.size ≤ 20000 := by
  go_enter Tryz.func61, Tryz.ntmps61
  go_wp2_with fail
  refine (cut_nl s m _ hs hm).mono ?_
  rintro e w1 ⟨y, z, rfl, hy, hz, n1, rfl⟩
  have hys : y.size ≤ 20000 := by
    rw [len_of (unhide hy)]; split
    · have := line_len s.data.toList; simp at this; omega
    · simpa using hs
  have hzs : z.size ≤ 20000 := by
    rw [len_of (unhide hz)]; split
    · simp [rest]; omega
    · simp
  go_wp2_with fail
  refine (Tryz.strings_CutPrefix y _ _).mono ?_
  rintro e w2 ⟨rfl, rfl⟩
  obtain ⟨t, ht⟩ : ∃ t : ByteArray, t = ⟨(Lib.trimPrefix y.data.toList (⟨#[112, 32, 99, 110, 102, 32]⟩ : ByteArray).data.toList).toArray⟩ := ⟨_, rfl⟩
  rw [← ht]
  have HT : Hid (t.data.toList = Lib.trimPrefix y.data.toList pcnf) := by unfold Hid; rw [ht]
  clear ht
  have hts : t.size ≤ 20000 := by rw [len_of (unhide HT)]; have := trim_len y.data.toList pcnf; simp at this; omega
  cases c2 : Lib.hasPrefix y.data.toList (⟨#[112, 32, 99, 110, 102, 32]⟩ : ByteArray).data.toList
  all_goals
    have C2 := hide c2
    clear c2
    go_wp2_with fail
    refine (Tryz.strings_Cut t _ m _ (by omega) (by exact hm)).mono ?_
    rintro e w3 ⟨rfl, n3, rfl⟩
    obtain ⟨a, ha⟩ : ∃ a : ByteArray, a = ⟨(Lib.cut t.data.toList (⟨#[32]⟩ : ByteArray).data.toList).1.toArray⟩ := ⟨_, rfl⟩
    obtain ⟨b, hb⟩ : ∃ b : ByteArray, b = ⟨(Lib.cut t.data.toList (⟨#[32]⟩ : ByteArray).data.toList).2.1.toArray⟩ := ⟨_, rfl⟩
    rw [← ha, ← hb]
    have HA : Hid (a.data.toList = (Lib.cut t.data.toList [32]).1) := by unfold Hid; rw [ha]
    have HB : Hid (b.data.toList = (Lib.cut t.data.toList [32]).2.1) := by unfold Hid; rw [hb]
    clear ha hb
    have has : a.size ≤ 20000 := by rw [len_of (unhide HA)]; have := cut_len1 t.data.toList [32]; simp at this; omega
    have hbs : b.size ≤ 20000 := by rw [len_of (unhide HB)]; have := cut_len2 t.data.toList [32]; simp at this; omega
    cases c3 : (Lib.cut t.data.toList (⟨#[32]⟩ : ByteArray).data.toList).2.2
    all_goals
      have C3 := hide c3
      clear c3
      cases c1 : ended s.data.toList
      all_goals
        have C1 := hide c1
        clear c1
        cases c4 : numB a.data.toList
        all_goals
          have C4 := hide c4
          clear c4
          cases c5 : numB b.data.toList
          all_goals
            have C5 := hide c5
            clear c5
            go_wp2_with (first | (go_at_call_of 105 (Value.string a); refine (isNumber_any a _ (by unfold maxLen; omega)).mono ?_; rintro e w4 ⟨rfl, rfl⟩; rw [unhide C4]) | (go_at_call_of 105 (Value.string b); refine (isNumber_any b _ (by unfold maxLen; omega)).mono ?_; rintro e w5 ⟨rfl, rfl⟩; rw [unhide C5]))
            have EQ := cutP_isSome (unhide hy) (unhide HT) (unhide HA) (unhide HB)
            rw [unhide C1, show Lib.hasPrefix y.data.toList pcnf = _ from unhide C2, show (Lib.cut t.data.toList [32]).2.2 = _ from unhide C3, unhide C4, unhide C5] at EQ
            refine bodyPost_ret (v := .tuple #[.string a, .string b, .string z, .bool (cutP s.data.toList).isSome]) (by rw [EQ]; simp [results, Tryz.results61, go_sem]) rfl ⟨⟨_, rfl⟩, a, b, z, rfl, cutP_parts (unhide hy) (unhide hz) (unhide HT) (unhide HA) (unhide HB), has, hbs, hzs⟩
end Rd
end Go.Proofs.YtceahffmenbibaaGreatDoor
