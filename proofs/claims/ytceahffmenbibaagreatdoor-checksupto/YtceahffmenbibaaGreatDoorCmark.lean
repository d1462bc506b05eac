/- The marks, in plain words. -/
import Derived.Test.YtceahffmenbibaaGreatDoorCref2
import Derived.Test.YtceahffmenbibaaGreatDoorCbits
namespace Go.Proofs.YtceahffmenbibaaGreatDoor
namespace Rd
open Go Go.RowKit Go.Deep
set_option linter.unusedVariables false
set_option linter.unusedSimpArgs false

def Mp (m : Mk) : Int → Prop := fun l => markV m l = 1
theorem markV_neg (m : Mk) {l : Int} (h : l ≠ 0) : markV m (-l) = -(markV m l) := by
  unfold markV
  rcases Int.lt_trichotomy l 0 with h1 | h1 | h1
  · rw [if_neg (by omega), if_pos h1, Int.neg_neg]
  · exact absurd h1 h
  · rw [if_pos (by omega), if_neg (by omega), Int.neg_neg]
theorem in50_ne {l : Int} (h : In50 l) : l ≠ 0 := by rcases h with h | h <;> omega
theorem in50_lit {l : Int} (h : In50 l) : IsLit l := by
  rcases h with h | h
  · left; omega
  · right; omega
theorem mp_neg_of {m : Mk} {l : Int} (h0 : l ≠ 0) (h : markV m l = -1) : Mp m (-l) := by unfold Mp; rw [markV_neg m h0, h]; rfl
theorem not_mp_neg {m : Mk} {l : Int} (h0 : l ≠ 0) (h : markV m l = 0) : ¬ Mp m (-l) := by unfold Mp; rw [markV_neg m h0, h]; decide
theorem mp_cons {m : Mk} (ok : MkOk m) : Cons (Mp m) := by
  intro l h1 h2
  unfold Mp at h1 h2
  by_cases h0 : l = 0
  · subst h0; unfold markV at h1; simp at h1; rw [ok.1] at h1; cases h1
  · rw [markV_neg m h0, h1] at h2; cases h2
theorem markSet_ok {m : Mk} (ok : MkOk m) {l : Int} (h : In50 l) : MkOk (markSet m l) := by
  constructor
  · unfold markSet
    rcases h with h | h
    · rw [if_neg (by omega), if_neg (by omega)]; exact ok.1
    · rw [if_pos (by omega), if_neg (by omega)]; exact ok.1
  · intro j
    unfold markSet
    split
    · split
      · left; rfl
      · exact ok.2 j
    · split
      · right; right; rfl
      · exact ok.2 j
theorem mp_set {m : Mk} {l : Int} (h : In50 l) (hv : markV m l ≠ -1) (ok : MkOk m) (x : Int) : Mp (markSet m l) x ↔ (Mp m x ∨ x = l) := by
  have ws := markV_ways ok l
  have h0 := in50_ne h
  unfold Mp
  by_cases e : x = l
  · subst e
    simp only [or_true, iff_true]
    unfold markV markSet
    rcases h with h | h
    · rw [if_neg (by omega), if_neg (by omega), if_pos rfl]
    · rw [if_pos (by omega), if_pos (by omega), if_pos rfl]; rfl
  · simp only [e, or_false]
    by_cases e2 : x = -l
    · subst e2
      have h1 : markV m (-l) ≠ 1 := by rw [markV_neg m h0]; omega
      have h2 : markV (markSet m l) (-l) = -1 := by
        unfold markV markSet
        rcases h with h | h
        · rw [if_pos (by omega), if_neg (by omega), Int.neg_neg, if_pos rfl]
        · rw [if_neg (by omega), if_pos (by omega), if_pos rfl]
      rw [h2]
      simp [h1]
    · have : markV (markSet m l) x = markV m x := by
        unfold markV markSet
        rcases h with h | h
        · have e1 : ¬ l < 0 := by omega
          simp only [e1, if_false]
          split
          · rw [if_neg (by omega)]
          · rw [if_neg (by omega)]
        · have e1 : l < 0 := by omega
          simp only [e1, if_true]
          split
          · rw [if_neg (by omega)]
          · rw [if_neg (by omega)]
      rw [this]
def noneM (m : Mk) : Nat := (List.range 51).countP (fun j => decide (m j = 0))
theorem countP_lt {α : Type} {p q : α → Bool} : ∀ {l : List α}, (∀ x ∈ l, p x = true → q x = true) → (∃ x ∈ l, q x = true ∧ p x = false) → l.countP p < l.countP q
  | [], _, ⟨x, hx, _⟩ => by simp at hx
  | a :: l, h, ⟨x, hx, h1, h2⟩ => by
    have hle : l.countP p ≤ l.countP q := List.countP_mono_left fun y hy hp => h y (List.mem_cons_of_mem _ hy) hp
    rcases List.mem_cons.1 hx with rfl | hx
    · rw [List.countP_cons_of_neg (by simp [h2]), List.countP_cons_of_pos h1]; omega
    · have ih := countP_lt (l := l) (fun y hy => h y (List.mem_cons_of_mem _ hy)) ⟨x, hx, h1, h2⟩
      have ha := h a (List.mem_cons_self ..)
      rw [List.countP_cons, List.countP_cons]
      cases hp : p a with
      | true => rw [ha hp]; simp; exact ih
      | false => simp; omega
theorem noneM_set {m : Mk} {l : Int} (h : In50 l) (hv : markV m l = 0) : noneM (markSet m l) < noneM m := by
  have key : ∃ j, j < 51 ∧ m j = 0 ∧ markSet m l j ≠ 0 := by
    unfold markV at hv
    unfold markSet
    rcases h with h | h
    · rw [if_neg (by omega)] at hv
      exact ⟨l.toNat, by omega, hv, by rw [if_neg (by omega), if_pos rfl]; decide⟩
    · rw [if_pos (by omega)] at hv
      exact ⟨(-l).toNat, by omega, by omega, by rw [if_pos (by omega), if_pos rfl]; decide⟩
  obtain ⟨j, hj, h1, h2⟩ := key
  refine countP_lt (fun x _ hp => ?_) ⟨j, List.mem_range.2 hj, by simpa using h1, by simpa using h2⟩
  simp only [decide_eq_true_eq] at hp ⊢
  unfold markSet at hp
  split at hp
  · split at hp
    · cases hp
    · exact hp
  · split at hp
    · cases hp
    · exact hp
theorem Under.congr {L : List Cl} {ls : List Int} {M N : Int → Prop} (h : Under L ls M) (e : ∀ x, N x ↔ M x) : Under L ls N := fun M' a b c l hl => h M' a b c l ((e l).1 hl)
theorem Under.laid {L : List Cl} {ls : List Int} {M : Int → Prop} (h : Under L ls M) {l : Int} (hl : l ∈ ls) : Under L ls (fun x => M x ∨ x = l) := fun M' a b c x hx => by
  rcases hx with hx | rfl
  · exact h M' a b c x hx
  · exact b _ hl
theorem Under.laid_clash {L : List Cl} {ls : List Int} {M : Int → Prop} (h : Under L ls M) {l : Int} (hl : l ∈ ls) (hm : M (-l)) : Conf L ls := fun M' a b c => a l (b l hl) (h M' a b c _ hm)

/-- what a clause's look tells -/
theorem OpenAt.conf {L : List Cl} {ls : List Int} {m : Mk} {c : Cl} {one : Int} (h : OpenAt m c 0 one) (hU : Under L ls (Mp m)) (hc : c ∈ L) (h50 : ∀ l ∈ c, In50 l) : Conf L ls :=
  hU.conf hc fun x hx => mp_neg_of (in50_ne (h50 x hx)) (h.none rfl x hx)
theorem OpenAt.force {L : List Cl} {ls : List Int} {m : Mk} {c : Cl} {one : Int} (h : OpenAt m c 1 one) (hU : Under L ls (Mp m)) (hc : c ∈ L) (h50 : ∀ l ∈ c, In50 l) (ok : MkOk m) : Under L ls (Mp (markSet m one)) := by
  obtain ⟨h1, h2, h3⟩ := h.one rfl
  refine (hU.force hc (l := one) fun x hx hne => mp_neg_of (in50_ne (h50 x hx)) (h3 x hx hne)).congr fun x => ?_
  exact mp_set (h50 one h1) (by rw [h2]; decide) ok x
theorem OpenAt.rest {m : Mk} {c : Cl} {n : Nat} {one : Int} (h : OpenAt m c n one) (hn : 2 ≤ n) (h50 : ∀ l ∈ c, In50 l) : Two (Mp m) c := by
  obtain ⟨a, ha, b, hb, hab, h1, h2⟩ := h.two hn
  exact ⟨a, ha, b, hb, hab, not_mp_neg (in50_ne (h50 a ha)) h1, not_mp_neg (in50_ne (h50 b hb)) h2⟩

/-- a list of lists that can be read and cut -/
def ListsC (w : World) (v : Value) (cl : List (List Int)) : Prop := ∃ (a : Option Addr) (c b : Nat), v = .slice a cl.length c ∧ cl.length ≤ c ∧ (0 < cl.length → a = some ⟨b, 0, none⟩) ∧ ∀ i, i < cl.length → ∃ u, w.cell? ⟨b, i, none⟩ = some u ∧ RowC w u (cl.getD i [])
theorem RowC.later {w w' : World} {u : Value} {xs : List Int} (h : RowC w u xs) (hb : Below w.heap.size w w') : RowC w' u xs := by
  obtain ⟨a, c, b, h1, h2, h3, h4⟩ := h
  refine ⟨a, c, b, h1, h2, h3, fun j hj => ?_⟩
  have := h4 j hj
  rw [hb.cell (p := ⟨b, j, none⟩) (block_lt_of_cell this)]; exact this
theorem ListsC.later {w w' : World} {v : Value} {cl : List (List Int)} (h : ListsC w v cl) (hb : Below w.heap.size w w') : ListsC w' v cl := by
  obtain ⟨a, c, b, h1, h2, h3, h4⟩ := h
  refine ⟨a, c, b, h1, h2, h3, fun i hi => ?_⟩
  obtain ⟨u, h5, h6⟩ := h4 i hi
  exact ⟨u, by rw [hb.cell (p := ⟨b, i, none⟩) (block_lt_of_cell h5)]; exact h5, h6.later hb⟩
theorem OwnL.lists {te ti B : Nat} {w : World} {v : Value} {cl : List (List Int)} (h : OwnL te ti B w v cl) : ListsC w v cl := by
  obtain ⟨us, h⟩ := h
  have hl := h.len
  have hc := h.outer
  rcases h.outer.2 with ⟨rfl, h0⟩ | ⟨g, cap, cur', rfl, _, _, hn, _⟩
  · exact ⟨none, 0, 0, by rw [← hl, h0], by omega, fun hh => by omega, fun j hj => by omega⟩
  · refine ⟨some ⟨g, 0, none⟩, cap, g, by rw [hl], by omega, fun _ => rfl, fun i hi => ?_⟩
    have hi' : i < us.length := by omega
    refine ⟨us[i], ?_, rowC_own (h.inner i us[i] (List.getElem?_eq_getElem hi')).1⟩
    have := hc.cells (g := g) rfl i us[i] (List.getElem?_eq_getElem hi')
    simpa [Addr.add_lit] using this
end Rd
end Go.Proofs.YtceahffmenbibaaGreatDoor
