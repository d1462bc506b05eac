/- Plog, Pfal, Pmov, Pwst, Pfst, Pfrd, Pcpy. -/
import Derived.Test.YtceahffmenbibaaGreatDoorPsto
import Derived.Test.YtceahffmenbibaaGreatDoorCmark
import Derived.Test.YtceahffmenbibaaGreatDoorPset
import Derived.Laws.CopyOwn
namespace Go.Proofs.YtceahffmenbibaaGreatDoor
namespace Rd
set_option linter.unusedVariables false
set_option linter.unusedSimpArgs false

def StableE (es : List Ent) (M : Int → Prop) : Prop := ∀ e ∈ es, 0 < e.times → (∃ l, e.set.has l = true ∧ M l) ∨ ∃ a b, a ≠ b ∧ e.set.has a = true ∧ e.set.has b = true ∧ ¬ M (-a) ∧ ¬ M (-b)
def sigs (es : List Ent) : List (Key × Nat) := es.map fun e => (e.set, e.times)
def HasP (k : Key) (M : Int → Prop) : Prop := ∀ l, k.has l = true → M l
theorem stableE_sigs {es es' : List Ent} (h : sigs es' = sigs es) {M : Int → Prop} : StableE es M ↔ StableE es' M := by
  have key : ∀ (a b : List Ent), sigs a = sigs b → StableE a M → StableE b M := fun a b hab ha e he ht => by
    have hm : (e.set, e.times) ∈ sigs a := by rw [hab]; exact List.mem_map.2 ⟨e, he, rfl⟩
    obtain ⟨e', he', heq⟩ := List.mem_map.1 hm
    simp only [Prod.mk.injEq] at heq
    have := ha e' he' (by rw [heq.2]; exact ht)
    rw [heq.1] at this; exact this
  exact ⟨key es es' h.symm, key es' es h⟩
theorem sigs_get {es es' : List Ent} (h : sigs es' = sigs es) {j : Nat} (hj : j < es.length) (hj' : j < es'.length) : (es'[j]).set = (es[j]).set ∧ (es'[j]).times = (es[j]).times := by
  have h1 : (sigs es')[j]? = (sigs es)[j]? := by rw [h]
  unfold sigs at h1
  rw [List.getElem?_map, List.getElem?_map, List.getElem?_eq_getElem hj, List.getElem?_eq_getElem hj'] at h1
  simpa using h1
theorem sigs_len {es es' : List Ent} (h : sigs es' = sigs es) : es'.length = es.length := by
  have := congrArg List.length h; simpa [sigs] using this

/-- no literal with its opposite -/
def NoClash (k : Key) : Prop := ∀ l, k.has l = true → k.has (-l) = false
theorem clashB_no {k : Key} : clashB k = false ↔ NoClash k := by
  rw [← Bool.not_eq_true, clashB_iff]
  constructor
  · intro h l hl
    cases e : k.has (-l) with
    | false => rfl
    | true => exact absurd ⟨l, hl, e⟩ h
  · rintro h ⟨l, h1, h2⟩
    rw [h l h1] at h2; cases h2
theorem noClash_cons {k : Key} (h : NoClash k) : Cons (fun l => k.has l = true) := fun l h1 h2 => by
  have h2' : k.has (-l) = true := h2
  rw [h l h1] at h2'; cases h2'

/-- what going through the clauses that watch a literal comes to -/
structure FalsPost (es es' : List Ent) (lit : Int) (down forced : Key) (conflict : Bool) : Prop where
  same : sigs es' = sigs es
  old : ∀ j (h : j < es.length) (h' : j < es'.length) l, (es'[j]).watched.has l = true → (es[j]).watched.has l = true ∨ down.has (-l) = false
  sound : ∀ M, Cons M → HasP down M → StableE es M → HasP forced M ∧ conflict = false
  kept : conflict = false → ∀ j (h' : j < es'.length), 0 < (es'[j]).times → (es'[j]).watched.has lit = true → ∃ l, (es'[j]).set.has l = true ∧ (down.un forced).has l = true
  cons : NoClash down → NoClash (down.un forced)
  fresh : ∀ l, forced.has l = true → down.has l = false
  fok : forced.ok
/-- each clause of two or more that is there watches two of its literals -/
def WTwo (es : List Ent) : Prop := ∀ j (h : j < es.length), 2 ≤ (es[j]).set.size → ∃ a b, a ≠ b ∧ (es[j]).set.has a = true ∧ (es[j]).set.has b = true ∧ (es[j]).watched.has a = true ∧ (es[j]).watched.has b = true
/-- nothing is to be done for what is down already -/
def Rest (es : List Ent) (D : Key) : Prop := ∀ j (h : j < es.length), 0 < (es[j]).times → 2 ≤ (es[j]).set.size → (∃ l, (es[j]).set.has l = true ∧ D.has l = true) ∨ ∀ l, (es[j]).watched.has l = true → D.has (-l) = false
theorem rest_empty (es : List Ent) : Rest es (0, 0) := fun j h _ _ => .inr fun l _ => has_empty _
/-- spreading as it goes: es0, what was laid down at first; now -/
structure Spr (es0 : List Ent) (base : Key) (es : List Ent) (down pending : Key) : Prop where
  same : sigs es = sigs es0
  sub : ∀ l, pending.has l = true → down.has l = true
  inc : ∀ l, base.has l = true → down.has l = true
  under : ∀ M, Cons M → HasP base M → StableE es0 M → HasP down M
  watch : ∀ j (h : j < es.length), 0 < (es[j]).times → 2 ≤ (es[j]).set.size → (∃ l, (es[j]).set.has l = true ∧ down.has l = true) ∨ ∀ l, (es[j]).watched.has l = true → down.has (-l) = true → pending.has (-l) = true
  nocl : NoClash down
  dok : down.ok
  pok : pending.ok

theorem Spr.start {es : List Ent} {down0 laid : Key} (hr : Rest es down0) (hd : down0.ok) (hl : laid.ok) (hc : NoClash (down0.un laid)) : Spr es (down0.un laid) es (down0.un laid) (laid.wo down0) where
  same := rfl
  sub := fun l h => by rw [has_wo, Bool.and_eq_true] at h; rw [has_un, h.1, Bool.or_true]
  inc := fun l h => h
  under := fun M _ h _ => h
  watch := fun j h ht hs => by
    rcases hr j h ht hs with ⟨l, h1, h2⟩ | h1
    · exact .inl ⟨l, h1, by rw [has_un, h2]; rfl⟩
    · refine .inr fun l hl hd => ?_
      rw [has_un, h1 l hl, Bool.false_or] at hd
      rw [has_wo, hd, h1 l hl]; rfl
  nocl := hc
  dok := un_ok hd hl
  pok := wo_ok hl _
/-- one literal more -/
theorem Spr.step {es0 es es' : List Ent} {base down pending forced : Key} {p : Int} (h : Spr es0 base es down pending) (hp : pending.has p = true) (hp0 : p ≠ 0) (F : FalsPost es es' (-p) down forced false) :
    Spr es0 base es' (down.un forced) ((pending.wo (single p)).un forced) where
  same := F.same.trans h.same
  sub := fun l hl => by
    rw [has_un, Bool.or_eq_true] at hl
    rw [has_un, Bool.or_eq_true]
    rcases hl with hl | hl
    · rw [has_wo, Bool.and_eq_true] at hl; exact .inl (h.sub l hl.1)
    · exact .inr hl
  inc := fun l hl => by rw [has_un, h.inc l hl]; rfl
  under := fun M hM hb hs l hl => by
    rw [has_un, Bool.or_eq_true] at hl
    have hd := h.under M hM hb hs
    rcases hl with hl | hl
    · exact hd l hl
    · exact (F.sound M hM hd ((stableE_sigs h.same.symm).2 hs |> fun x => x)).1 l hl
  watch := fun j hj ht hs => by
    have hj0 : j < es.length := by rw [← sigs_len F.same]; exact hj
    obtain ⟨e1, e2⟩ := sigs_get F.same hj0 hj
    by_cases hm : ∃ l, (es'[j]).set.has l = true ∧ (down.un forced).has l = true
    · exact .inl hm
    · refine .inr fun l hl hd => ?_
      rw [has_un, Bool.or_eq_true] at hd ⊢
      rcases hd with hd | hd
      · -- l was false ahead
        left
        rcases F.old j hj0 hj l hl with ho | ho
        · rcases h.watch j hj0 (by rw [← e2]; exact ht) (by rw [← e1]; exact hs) with ⟨x, x1, x2⟩ | hw
          · exact absurd ⟨x, by rw [e1]; exact x1, by rw [has_un, x2]; rfl⟩ hm
          · have hpd := hw l ho hd
            rw [has_wo, hpd, has_single hp0]
            have : ¬ (-l = p) := fun e => by
              have e' : l = -p := by omega
              rw [e'] at hl
              exact hm (F.kept rfl j hj ht hl)
            simp [this]
        · rw [ho] at hd; cases hd
      · exact .inr hd
  nocl := F.cons h.nocl
  dok := un_ok h.dok F.fok
  pok := un_ok (wo_ok h.pok _) F.fok
/-- what is at rest for what was down ahead stays so -/
theorem rest_step {es es' : List Ent} {D down forced : Key} {lit : Int} {b : Bool} (hr : Rest es D) (hD : ∀ l, D.has l = true → down.has l = true) (F : FalsPost es es' lit down forced b) : Rest es' D := fun j hj ht hs => by
  have hj0 : j < es.length := by rw [← sigs_len F.same]; exact hj
  obtain ⟨e1, e2⟩ := sigs_get F.same hj0 hj
  rcases hr j hj0 (by rw [← e2]; exact ht) (by rw [← e1]; exact hs) with ⟨l, h1, h2⟩ | hw
  · exact .inl ⟨l, by rw [e1]; exact h1, h2⟩
  · refine .inr fun l hl => ?_
    rcases F.old j hj0 hj l hl with ho | ho
    · exact hw l ho
    · cases e : D.has (-l) with
      | false => rfl
      | true => rw [hD _ e] at ho; cases ho
/-- a conflict -/
theorem Spr.conflict {es0 es es' : List Ent} {base down pending forced : Key} {lit : Int} (h : Spr es0 base es down pending) (F : FalsPost es es' lit down forced true) : ∀ M, Cons M → HasP base M → ¬ StableE es0 M := fun M hM hb hs => by
  have := (F.sound M hM (h.under M hM hb hs) ((stableE_sigs h.same.symm).2 hs |> fun x => x)).2
  cases this
/-- the end -/
theorem Spr.finish {es0 es : List Ent} {base down : Key} (h : Spr es0 base es down (0, 0)) (hw : WTwo es) (hok : ∀ e ∈ es, e.set.ok) (hu : ∀ e ∈ es, 0 < e.times → e.set.size = 1 → ∃ l, e.set.has l = true ∧ down.has l = true) (h0 : ∀ e ∈ es, 0 < e.times → e.set.size ≠ 0) : StableE es0 (fun l => down.has l = true) := by
  refine (stableE_sigs h.same).2 fun e he ht => ?_
  obtain ⟨j, hj, rfl⟩ := List.mem_iff_getElem.1 he
  rcases Nat.lt_or_ge (es[j]).set.size 2 with h2 | h2
  · have key : ∀ n : Nat, n < 2 → n ≠ 0 → n = 1 := fun n a b => by omega
    exact .inl (hu _ he ht (key _ h2 (h0 _ he ht)))
  · rcases h.watch j hj ht h2 with hm | hn
    · exact .inl hm
    · obtain ⟨a, b, hab, ha, hb, wa, wb⟩ := hw j hj h2
      refine .inr ⟨a, b, hab, ha, hb, fun hd => ?_, fun hd => ?_⟩
      · have := hn a wa hd; rw [has_empty] at this; cases this
      · have := hn b wb hd; rw [has_empty] at this; cases this
/-- the clauses there, as the document has them -/
structure Rep (es : List Ent) (L : List Cl) : Prop where
  ofE : ∀ e ∈ es, 0 < e.times → ∃ c ∈ L, setOf c = e.set
  from' : ∀ c ∈ L, ∃ e ∈ es, 0 < e.times ∧ e.set = setOf c
  lits : ∀ c ∈ L, ∀ l ∈ c, In50 l
theorem Rep.has {es : List Ent} {L : List Cl} (h : Rep es L) {c : Cl} (hc : c ∈ L) (l : Int) : (setOf c).has l = true ↔ l ∈ c := by
  rw [has_setOf (fun x hx => in50_ne (h.lits c hc x hx))]; simp
theorem Rep.stable {es : List Ent} {L : List Cl} (h : Rep es L) (M : Int → Prop) : StableE es M ↔ Stable L M := by
  constructor
  · intro hs c hc
    obtain ⟨e, he, ht, hset⟩ := h.from' c hc
    rcases hs e he ht with ⟨l, h1, h2⟩ | ⟨a, b, hab, h1, h2, h3, h4⟩
    · rw [hset, h.has hc] at h1; exact .inl ⟨l, h1, h2⟩
    · rw [hset, h.has hc] at h1 h2; exact .inr ⟨a, h1, b, h2, hab, h3, h4⟩
  · intro hs e he ht
    obtain ⟨c, hc, hset⟩ := h.ofE e he ht
    rcases hs c hc with ⟨l, h1, h2⟩ | ⟨a, h1, b, h2, hab, h3, h4⟩
    · exact .inl ⟨l, by rw [← hset, h.has hc]; exact h1, h2⟩
    · exact .inr ⟨a, b, hab, by rw [← hset, h.has hc]; exact h1, by rw [← hset, h.has hc]; exact h2, h3, h4⟩
theorem Rep.conf {es : List Ent} {L : List Cl} (h : Rep es L) (ls : List Int) : Conf L ls ↔ ∀ M, Cons M → (∀ l ∈ ls, M l) → ¬ StableE es M := by
  unfold Conf
  constructor
  · intro hc M hM hl hs; exact hc M hM hl ((h.stable M).1 hs)
  · intro hc M hM hl hs; exact hc M hM hl ((h.stable M).2 hs)
end Rd
end Go.Proofs.YtceahffmenbibaaGreatDoor

namespace Go.Proofs.YtceahffmenbibaaGreatDoor
namespace Rd
set_option linter.unusedVariables false
set_option linter.unusedSimpArgs false

structure WInv (es : List Ent) (wl : Nat → List Nat) : Prop where
  two : ∀ j (h : j < es.length), 2 ≤ (es[j]).set.size → ∃ a b, a ≠ b ∧ IsLit a ∧ IsLit b ∧ (es[j]).set.has a = true ∧ (es[j]).set.has b = true ∧ (es[j]).watched = (single a).un (single b) ∧ j ∈ wl (place a) ∧ j ∈ wl (place b)
  one : ∀ j (h : j < es.length), ¬ 2 ≤ (es[j]).set.size → (es[j]).watched = (0, 0)
  lists : ∀ k, k < 128 → ∀ j ∈ wl k, ∃ h : j < es.length, 2 ≤ (es[j]).set.size ∧ ∃ l, IsLit l ∧ place l = k ∧ (es[j]).watched.has l = true
  nodup : ∀ k, k < 128 → (wl k).Nodup
  ok : ∀ e ∈ es, e.set.ok
theorem WInv.wtwo {es : List Ent} {wl : Nat → List Nat} (h : WInv es wl) : WTwo es := fun j hj hs => by
  obtain ⟨a, b, hab, ia, ib, ha, hb, hw, _⟩ := h.two j hj hs
  exact ⟨a, b, hab, ha, hb, by rw [hw, has_un, has_single (isLit_ne ia)]; simp, by rw [hw, has_un, has_single (isLit_ne ib)]; simp⟩
/-- a clause in a literal's list watches it, and one other -/
theorem WInv.pair {es : List Ent} {wl : Nat → List Nat} (h : WInv es wl) {lit : Int} (il : IsLit lit) {j : Nat} (hj : j ∈ wl (place lit)) : ∃ (hl : j < es.length) (b : Int), 2 ≤ (es[j]).set.size ∧ b ≠ lit ∧ IsLit b ∧ (es[j]).set.has lit = true ∧ (es[j]).set.has b = true ∧ (es[j]).watched = (single lit).un (single b) ∧ j ∈ wl (place b) := by
  obtain ⟨hl, hs, l, i1, hp, hw⟩ := h.lists _ (place_lt il) j hj
  have e := place_inj i1 il hp
  subst e
  obtain ⟨a, b, hab, ia, ib, ha, hb, hwe, ja, jb⟩ := h.two j hl hs
  rw [hwe, has_un, has_single (isLit_ne ia), has_single (isLit_ne ib)] at hw
  simp only [Bool.or_eq_true, decide_eq_true_eq] at hw
  rcases hw with e | e
  · subst e; exact ⟨hl, b, hs, fun e => hab e.symm, ib, ha, hb, hwe, jb⟩
  · subst e
    refine ⟨hl, a, hs, hab, ia, hb, ha, ?_, ja⟩
    rw [hwe]; exact key_ext fun x => by rw [has_un, has_un, Bool.or_comm]
/-- as the loop goes: lit has become false; the first i of its list are done, kl of them are kept -/
structure FInv (es0 : List Ent) (lit : Int) (down0 : Key) (orig : List Nat) (i : Nat) (es : List Ent) (wl : Nat → List Nat) (kl : List Nat) (forced : Key) : Prop where
  same : sigs es = sigs es0
  winv : WInv es (fun k => if k = place lit then kl ++ orig.drop i else wl k)
  old : ∀ j (h0 : j < es0.length) (h : j < es.length) l, (es[j]).watched.has l = true → (es0[j]).watched.has l = true ∨ down0.has (-l) = false
  sound : ∀ M, Cons M → HasP down0 M → StableE es0 M → HasP forced M
  kept : ∀ j ∈ kl, ∀ h : j < es.length, 0 < (es[j]).times → ∃ l, (es[j]).set.has l = true ∧ (down0.un forced).has l = true
  cons : NoClash down0 → NoClash (down0.un forced)
  fresh : ∀ l, forced.has l = true → down0.has l = false
  fok : forced.ok
  klen : kl.length ≤ i
  ilen : i ≤ orig.length
variable {es0 es : List Ent} {lit : Int} {down0 forced : Key} {orig kl : List Nat} {i : Nat} {wl : Nat → List Nat}

theorem FInv.start (h : WInv es0 wl) : FInv es0 lit down0 (wl (place lit)) 0 es0 wl [] (0, 0) where
  same := rfl
  winv := by
    have e : (fun k => if k = place lit then [] ++ (wl (place lit)).drop 0 else wl k) = wl := by
      funext k; split
      · rename_i e; rw [e]; rfl
      · rfl
    rw [e]; exact h
  old := fun j h0 h l hl => .inl hl
  sound := fun M _ _ _ l hl => by rw [has_empty] at hl; cases hl
  kept := fun j hj => by simp at hj
  cons := fun h => by
    have : down0.un (0, 0) = down0 := key_ext fun x => by rw [has_un, has_empty, Bool.or_false]
    rw [this]; exact h
  fresh := fun l hl => by rw [has_empty] at hl; cases hl
  fok := empty_ok
  klen := Nat.zero_le _
  ilen := Nat.zero_le _
theorem drop_at {orig : List Nat} {i : Nat} (hi : i < orig.length) : orig.drop i = orig[i] :: orig.drop (i + 1) := List.drop_eq_getElem_cons hi
theorem FInv.keepWinv (h : FInv es0 lit down0 orig i es wl kl forced) (hi : i < orig.length) : WInv es (fun k => if k = place lit then (kl ++ [orig[i]]) ++ orig.drop (i + 1) else wl k) := by
  have e : (kl ++ [orig[i]]) ++ orig.drop (i + 1) = kl ++ orig.drop i := by rw [drop_at hi]; simp
  rw [e]; exact h.winv
/-- a clause that is gone, or met: it stays in the list -/
theorem FInv.skip (h : FInv es0 lit down0 orig i es wl kl forced) (hi : i < orig.length) (hm : ∀ hj : orig[i] < es.length, 0 < (es[orig[i]]).times → ∃ l, (es[orig[i]]).set.has l = true ∧ (down0.un forced).has l = true) : FInv es0 lit down0 orig (i + 1) es wl (kl ++ [orig[i]]) forced where
  same := h.same
  winv := h.keepWinv hi
  old := h.old
  sound := h.sound
  kept := fun j hj hl ht => by
    rcases List.mem_append.1 hj with hj | hj
    · exact h.kept j hj hl ht
    · simp at hj; subst hj; exact hm hl ht
  cons := h.cons
  fresh := h.fresh
  fok := h.fok
  klen := by have := h.klen; simp; omega
  ilen := hi
/-- what is left of a clause: its literals that are not false -/
theorem free_has (s d : Key) (l : Int) : (s.wo d.op).has l = (s.has l && !d.has (-l)) := by rw [has_wo, has_op]
theorem stable_at (hs : sigs es = sigs es0) {M : Int → Prop} (hst : StableE es0 M) {j : Nat} (hj : j < es.length) (ht : 0 < (es[j]).times) : (∃ l, (es[j]).set.has l = true ∧ M l) ∨ ∃ a b, a ≠ b ∧ (es[j]).set.has a = true ∧ (es[j]).set.has b = true ∧ ¬ M (-a) ∧ ¬ M (-b) :=
  (stableE_sigs hs).1 hst _ (List.getElem_mem hj) ht
/-- one literal is left: it is made true -/
theorem FInv.unit (h : FInv es0 lit down0 orig i es wl kl forced) (hi : i < orig.length) (hj : orig[i] < es.length) (ht : 0 < (es[orig[i]]).times) {l : Int} (il : IsLit l) (hf : (es[orig[i]]).set.wo (down0.un forced).op = single l) (hn : ¬ ∃ x, (es[orig[i]]).set.has x = true ∧ (down0.un forced).has x = true) :
    FInv es0 lit down0 orig (i + 1) es wl (kl ++ [orig[i]]) (forced.un (single l)) := by
  have fr : ∀ x, ((es[orig[i]]).set.has x && !(down0.un forced).has (-x)) = decide (x = l) := fun x => by rw [← free_has, hf, has_single (isLit_ne il)]
  have hl := fr l
  simp only [decide_true, Bool.and_eq_true, Bool.not_eq_true'] at hl
  have hnd : (down0.un forced).has l = false := by
    cases e : (down0.un forced).has l with
    | false => rfl
    | true => exact absurd ⟨l, hl.1, e⟩ hn
  have un3 : down0.un (forced.un (single l)) = (down0.un forced).un (single l) := key_ext fun x => by simp only [has_un, Bool.or_assoc]
  exact {
    same := h.same
    winv := h.keepWinv hi
    old := h.old
    sound := fun M hM hd hst x hx => by
      rw [has_un, Bool.or_eq_true] at hx
      have hF := h.sound M hM hd hst
      rcases hx with hx | hx
      · exact hF x hx
      · rw [has_single (isLit_ne il)] at hx
        have ex : x = l := of_decide_eq_true hx
        subst ex
        have hD : HasP (down0.un forced) M := fun y hy => by
          rw [has_un, Bool.or_eq_true] at hy
          rcases hy with hy | hy
          · exact hd y hy
          · exact hF y hy
        have fl : ∀ y, (es[orig[i]]).set.has y = true → y ≠ x → M (-y) := fun y hy hne => by
          have := fr y
          rw [hy, Bool.true_and, show decide (y = x) = false from by simpa using hne] at this
          simp only [Bool.not_eq_false'] at this
          exact hD _ this
        rcases stable_at h.same hst hj ht with ⟨y, h1, h2⟩ | ⟨a, b, hab, ha, hb, na, nb⟩
        · by_cases e : y = x
          · rw [← e]; exact h2
          · exact absurd (fl y h1 e) (fun h3 => hM y h2 h3)
        · exfalso
          by_cases e : a = x
          · exact nb (fl b hb (fun e2 => hab (by rw [e, e2])))
          · exact na (fl a ha e)
    kept := fun j hjk hl' ht' => by
      rw [un3]
      rcases List.mem_append.1 hjk with hjk | hjk
      · obtain ⟨y, h1, h2⟩ := h.kept j hjk hl' ht'
        exact ⟨y, h1, by rw [has_un, h2]; rfl⟩
      · simp at hjk; subst hjk
        exact ⟨l, hl.1, by rw [has_un, has_single (isLit_ne il)]; simp⟩
    cons := fun hc x hx => by
      have hcc := h.cons hc
      rw [un3] at hx ⊢
      rw [has_un, Bool.or_eq_true] at hx
      rw [has_un, Bool.or_eq_false_iff]
      rcases hx with hx | hx
      · refine ⟨hcc x hx, ?_⟩
        rw [has_single (isLit_ne il)]
        simp only [decide_eq_false_iff_not]
        intro e
        have e' : x = -l := by omega
        rw [e', hl.2] at hx; cases hx
      · rw [has_single (isLit_ne il)] at hx
        have ex : x = l := of_decide_eq_true hx
        subst ex
        refine ⟨hl.2, ?_⟩
        rw [has_single (isLit_ne il)]
        have := isLit_ne il
        simp; omega
    fresh := fun x hx => by
      rw [has_un, Bool.or_eq_true] at hx
      rcases hx with hx | hx
      · exact h.fresh x hx
      · rw [has_single (isLit_ne il)] at hx
        have ex : x = l := of_decide_eq_true hx
        subst ex
        rw [has_un, Bool.or_eq_false_iff] at hnd
        exact hnd.1
    fok := un_ok h.fok (single_ok il)
    klen := by have := h.klen; simp; omega
    ilen := hi }
/-- none is left: a conflict -/
theorem FInv.confl (h : FInv es0 lit down0 orig i es wl kl forced) (hi : i < orig.length) (hj : orig[i] < es.length) (ht : 0 < (es[orig[i]]).times) (hf : (es[orig[i]]).set.wo (down0.un forced).op = (0, 0)) : FalsPost es0 es lit down0 forced true where
  same := h.same
  old := h.old
  sound := fun M hM hd hst => by
    exfalso
    have hF := h.sound M hM hd hst
    have hD : HasP (down0.un forced) M := fun y hy => by
      rw [has_un, Bool.or_eq_true] at hy
      rcases hy with hy | hy
      · exact hd y hy
      · exact hF y hy
    have fl : ∀ y, (es[orig[i]]).set.has y = true → M (-y) := fun y hy => by
      have := free_has (es[orig[i]]).set (down0.un forced) y
      rw [hf, has_empty, hy, Bool.true_and] at this
      have h2 : (down0.un forced).has (-y) = true := by simpa using this.symm
      exact hD _ h2
    rcases stable_at h.same hst hj ht with ⟨y, h1, h2⟩ | ⟨a, b, hab, ha, hb, na, nb⟩
    · exact hM y h2 (fl y h1)
    · exact na (fl a ha)
  kept := fun e => by cases e
  cons := h.cons
  fresh := h.fresh
  fok := h.fok
/-- the end of the list -/
theorem FInv.done (h : FInv es0 lit down0 orig orig.length es wl kl forced) (il : IsLit lit) : FalsPost es0 es lit down0 forced false ∧ WInv es (fun k => if k = place lit then kl else wl k) := by
  have e : kl ++ orig.drop orig.length = kl := by simp
  have hw := h.winv
  rw [e] at hw
  refine ⟨{
    same := h.same
    old := h.old
    sound := fun M hM hd hst => ⟨h.sound M hM hd hst, rfl⟩
    kept := fun _ j hj ht hwl => by
      have hs : 2 ≤ (es[j]).set.size := by
        rcases Nat.lt_or_ge (es[j]).set.size 2 with hlt | hge
        · rw [hw.one j hj (Nat.not_le.2 hlt), has_empty] at hwl; cases hwl
        · exact hge
      obtain ⟨a, b, hab, ia, ib, _, _, hwe, ja, jb⟩ := hw.two j hj hs
      rw [hwe, has_un, has_single (isLit_ne ia), has_single (isLit_ne ib)] at hwl
      simp only [Bool.or_eq_true, decide_eq_true_eq] at hwl
      have hjk : j ∈ kl := by
        rcases hwl with e | e
        · subst e; simpa using ja
        · subst e; simpa using jb
      exact h.kept j hjk hj ht
    cons := h.cons
    fresh := h.fresh
    fok := h.fok }, hw⟩
end Rd
end Go.Proofs.YtceahffmenbibaaGreatDoor

namespace Go.Proofs.YtceahffmenbibaaGreatDoor
namespace Rd
set_option linter.unusedVariables false
set_option linter.unusedSimpArgs false

theorem withW_at (es : List Ent) (i : Nat) (k : Key) (j : Nat) (h : j < (withW es i k).length) (h0 : j < es.length) : (withW es i k)[j] = if i = j then { es[j] with watched := k } else es[j] := by
  simp only [withW, List.getElem_modify]
theorem withW_self (es : List Ent) (i : Nat) (k : Key) (h : i < (withW es i k).length) (h0 : i < es.length) : (withW es i k)[i] = { es[i] with watched := k } := by
  rw [withW_at es i k i h h0, if_pos rfl]
theorem withW_other (es : List Ent) (i : Nat) (k : Key) (j : Nat) (hne : j ≠ i) (h : j < (withW es i k).length) (h0 : j < es.length) : (withW es i k)[j] = es[j] := by
  rw [withW_at es i k j h h0, if_neg (fun e => hne e.symm)]
theorem withW_twice (es : List Ent) (i : Nat) (k k' : Key) : withW (withW es i k) i k' = withW es i k' := by
  refine List.ext_getElem (by simp [withW_len]) fun j h1 h2 => ?_
  have h3 : j < (withW es i k).length := by rw [withW_len] at h1; exact h1
  have h4 : j < es.length := by rw [withW_len] at h3; exact h3
  rw [withW_at _ _ _ _ h1 h3, withW_at _ _ _ _ h2 h4, withW_at _ _ _ _ h3 h4]
  split <;> rfl
theorem withW_sigs (es : List Ent) (i : Nat) (k : Key) : sigs (withW es i k) = sigs es := by
  refine List.ext_getElem (by simp [sigs, withW_len]) fun j h1 h2 => ?_
  have h4 : j < es.length := by simpa [sigs] using h2
  have h3 : j < (withW es i k).length := by rw [withW_len]; exact h4
  simp only [sigs, List.getElem_map]
  rw [withW_at _ _ _ _ h3 h4]
  split <;> rfl
theorem withW_set (es : List Ent) (i : Nat) (k : Key) (j : Nat) (h : j < (withW es i k).length) (h0 : j < es.length) : ((withW es i k)[j]).set = (es[j]).set ∧ ((withW es i k)[j]).times = (es[j]).times := by
  rw [withW_at _ _ _ _ h h0]; split <;> exact ⟨rfl, rfl⟩

variable {es0 es : List Ent} {lit : Int} {down0 forced : Key} {orig kl : List Nat} {i : Nat} {wl : Nat → List Nat}

theorem FInv.nd (h : FInv es0 lit down0 orig i es wl kl forced) (il : IsLit lit) (hi : i < orig.length) : (kl ++ orig[i] :: orig.drop (i + 1)).Nodup := by
  have := h.winv.nodup _ (place_lt il)
  simp only [if_true] at this
  rw [drop_at hi] at this; exact this
theorem FInv.notin (h : FInv es0 lit down0 orig i es wl kl forced) (il : IsLit lit) (hi : i < orig.length) : orig[i] ∉ kl ++ orig.drop (i + 1) := by
  have := h.nd il hi
  rw [List.nodup_append] at this
  obtain ⟨_, h2, h3⟩ := this
  rw [List.nodup_cons] at h2
  intro hm
  rcases List.mem_append.1 hm with hm | hm
  · exact h3 _ hm _ (List.mem_cons_self ..) rfl
  · exact h2.1 hm
theorem FInv.pair (h : FInv es0 lit down0 orig i es wl kl forced) (il : IsLit lit) (hi : i < orig.length) : ∃ (hl : orig[i] < es.length) (b : Int), 2 ≤ (es[orig[i]]).set.size ∧ b ≠ lit ∧ IsLit b ∧ (es[orig[i]]).set.has lit = true ∧ (es[orig[i]]).set.has b = true ∧ (es[orig[i]]).watched = (single lit).un (single b) ∧ orig[i] ∈ wl (place b) := by
  obtain ⟨hl, b, h1, h2, h3, h4, h5, h6, h7⟩ := h.winv.pair il (j := orig[i]) (by
    show orig[i] ∈ (if place lit = place lit then kl ++ orig.drop i else wl (place lit))
    rw [if_pos rfl, drop_at hi]; exact List.mem_append_right _ (List.mem_cons_self ..))
  have : place b ≠ place lit := fun e => h2 (place_inj h3 il e)
  rw [if_neg this] at h7
  exact ⟨hl, b, h1, h2, h3, h4, h5, h6, h7⟩
/-- the list of lit loses the clause, the list of c gains it -/
theorem FInv.move (h : FInv es0 lit down0 orig i es wl kl forced) (hi : i < orig.length) (il : IsLit lit) {c : Int} (ic : IsLit c) (hj : orig[i] < es.length) (hsc : (es[orig[i]]).set.has c = true) (hcl : c ≠ lit) (hcw : (es[orig[i]]).watched.has c = false) (hnc : (down0.un forced).has (-c) = false) :
    FInv es0 lit down0 orig (i + 1) (withW es orig[i] (((es[orig[i]]).watched.wo (single lit)).un (single c))) (fun k => if k = place c then wl k ++ [orig[i]] else wl k) kl forced := by
  obtain ⟨_, b, hs2, hbl, ib, hlit, hb, hwe, hjb⟩ := h.pair il hi
  have hni := h.notin il hi
  have hnd := h.nd il hi
  have hcb : c ≠ b := fun e => by
    rw [hwe, has_un, has_single (isLit_ne il), has_single (isLit_ne ib), e] at hcw; simp at hcw
  have hw' : ((es[orig[i]]).watched.wo (single lit)).un (single c) = (single b).un (single c) := key_ext fun x => by
    rw [has_un, has_un, has_wo, hwe, has_un, has_single (isLit_ne il), has_single (isLit_ne ib)]
    by_cases e1 : x = lit
    · subst e1
      have e2 : ¬ x = b := fun e => hbl e.symm
      simp [e2]
    · simp [e1]
  rw [hw']
  have pl : place b ≠ place lit := fun e => hbl (place_inj ib il e)
  have pcl : place c ≠ place lit := fun e => hcl (place_inj ic il e)
  have len : ∀ {j}, j < (withW es orig[i] ((single b).un (single c))).length → j < es.length := fun h => by rwa [withW_len] at h
  have hW : ∀ k, k ≠ place lit → ∀ x, x ∈ wl k → x ∈ (if k = place lit then kl ++ orig.drop (i + 1) else if k = place c then wl k ++ [orig[i]] else wl k) := fun k hk x hx => by
    rw [if_neg hk]; split
    · exact List.mem_append_left _ hx
    · exact hx
  have hO : ∀ k x, x ≠ orig[i] → x ∈ (if k = place lit then kl ++ orig.drop i else wl k) → x ∈ (if k = place lit then kl ++ orig.drop (i + 1) else if k = place c then wl k ++ [orig[i]] else wl k) := fun k x hne hx => by
    by_cases e : k = place lit
    · rw [if_pos e] at hx ⊢
      rw [drop_at hi] at hx
      rcases List.mem_append.1 hx with hx | hx
      · exact List.mem_append_left _ hx
      · rcases List.mem_cons.1 hx with hx | hx
        · exact absurd hx hne
        · exact List.mem_append_right _ hx
    · rw [if_neg e] at hx; exact hW k e x hx
  exact {
    same := by rw [withW_sigs]; exact h.same
    winv := {
      two := fun j hl hs => by
        have hl0 := len hl
        obtain ⟨es1, es2⟩ := withW_set es orig[i] ((single b).un (single c)) j hl hl0
        rw [es1] at hs ⊢
        by_cases e : j = orig[i]
        · subst e
          refine ⟨b, c, fun e => hcb e.symm, ib, ic, hb, hsc, by rw [withW_self _ _ _ hl hl0], hW _ pl _ hjb, ?_⟩
          show _ ∈ (if place c = place lit then kl ++ orig.drop (i + 1) else if place c = place c then wl (place c) ++ [orig[i]] else wl (place c))
          rw [if_neg pcl, if_pos rfl]; simp
        · obtain ⟨a, b', hab, ia, ib', ha, hb', hwa, ja, jb⟩ := h.winv.two j hl0 hs
          exact ⟨a, b', hab, ia, ib', ha, hb', by rw [withW_other _ _ _ _ e hl hl0]; exact hwa, hO _ _ e ja, hO _ _ e jb⟩
      one := fun j hl hs => by
        have hl0 := len hl
        rw [(withW_set es orig[i] ((single b).un (single c)) j hl hl0).1] at hs
        by_cases e : j = orig[i]
        · subst e; exact absurd hs2 hs
        · rw [withW_other _ _ _ _ e hl hl0]; exact h.winv.one j hl0 hs
      lists := fun k hk j hjm => by
        have hjm : j ∈ (if k = place lit then kl ++ orig.drop (i + 1) else if k = place c then wl k ++ [orig[i]] else wl k) := hjm
        by_cases e : k = place lit
        · rw [if_pos e] at hjm
          have hne : j ≠ orig[i] := fun e => hni (e ▸ hjm)
          obtain ⟨hl0, hs, l, i1, i2, i3⟩ := h.winv.lists k hk j (by
            show j ∈ (if k = place lit then kl ++ orig.drop i else wl k)
            rw [if_pos e, drop_at hi]
            rcases List.mem_append.1 hjm with hx | hx
            · exact List.mem_append_left _ hx
            · exact List.mem_append_right _ (List.mem_cons_of_mem _ hx))
          have hl : j < (withW es orig[i] ((single b).un (single c))).length := by rw [withW_len]; exact hl0
          exact ⟨hl, by rw [withW_other _ _ _ _ hne hl hl0]; exact hs, l, i1, i2, by rw [withW_other _ _ _ _ hne hl hl0]; exact i3⟩
        · rw [if_neg e] at hjm
          by_cases ej : j = orig[i]
          · subst ej
            have hl : orig[i] < (withW es orig[i] ((single b).un (single c))).length := by rw [withW_len]; exact hj
            refine ⟨hl, by rw [withW_self _ _ _ hl hj]; exact hs2, ?_⟩
            by_cases ec : k = place c
            · exact ⟨c, ic, ec.symm, by rw [withW_self _ _ _ hl hj]; show ((single b).un (single c)).has c = true; rw [has_un, has_single (isLit_ne ic)]; simp⟩
            · rw [if_neg ec] at hjm
              obtain ⟨_, _, l, i1, i2, i3⟩ := h.winv.lists k hk _ (by
                show orig[i] ∈ (if k = place lit then kl ++ orig.drop i else wl k)
                rw [if_neg e]; exact hjm)
              rw [hwe, has_un, has_single (isLit_ne il), has_single (isLit_ne ib)] at i3
              simp only [Bool.or_eq_true, decide_eq_true_eq] at i3
              rcases i3 with i3 | i3
              · exact absurd (by rw [← i2, i3]) e
              · exact ⟨b, ib, by rw [← i3]; exact i2, by rw [withW_self _ _ _ hl hj]; show ((single b).un (single c)).has b = true; rw [has_un, has_single (isLit_ne ib)]; simp⟩
          · have hjw : j ∈ wl k := by
              split at hjm
              · rcases List.mem_append.1 hjm with hx | hx
                · exact hx
                · simp at hx; exact absurd hx ej
              · exact hjm
            obtain ⟨hl0, hs, l, i1, i2, i3⟩ := h.winv.lists k hk j (by
              show j ∈ (if k = place lit then kl ++ orig.drop i else wl k)
              rw [if_neg e]; exact hjw)
            have hl : j < (withW es orig[i] ((single b).un (single c))).length := by rw [withW_len]; exact hl0
            exact ⟨hl, by rw [withW_other _ _ _ _ ej hl hl0]; exact hs, l, i1, i2, by rw [withW_other _ _ _ _ ej hl hl0]; exact i3⟩
      nodup := fun k hk => by
        show (if k = place lit then kl ++ orig.drop (i + 1) else if k = place c then wl k ++ [orig[i]] else wl k).Nodup
        have hn := h.winv.nodup k hk
        by_cases e : k = place lit
        · rw [if_pos e]
          exact hnd.sublist ((List.Sublist.refl kl).append (List.sublist_cons_self _ _))
        · rw [if_neg e]
          have hn : (if k = place lit then kl ++ orig.drop i else wl k).Nodup := hn
          rw [if_neg e] at hn
          split
          · rename_i ec
            refine List.nodup_append.2 ⟨hn, by simp, fun x hx y hy => ?_⟩
            simp at hy; subst hy
            intro exy
            rw [exy] at hx
            obtain ⟨_, _, l, i1, i2, i3⟩ := h.winv.lists k hk orig[i] (by
              show orig[i] ∈ (if k = place lit then kl ++ orig.drop i else wl k)
              rw [if_neg e]; exact hx)
            have : l = c := place_inj i1 ic (i2.trans ec)
            rw [this] at i3
            first | (rw [hcw] at i3; cases i3) | (simp [hcw] at i3)
          · exact hn
      ok := fun e he => by
        obtain ⟨j, hl, rfl⟩ := List.getElem_of_mem he
        rw [(withW_set es orig[i] _ j hl (len hl)).1]
        exact h.winv.ok _ (List.getElem_mem _) }
    old := fun j h0 hl l hlw => by
      have hl0 := len hl
      by_cases e : j = orig[i]
      · subst e
        rw [withW_self _ _ _ hl hl0] at hlw
        have hlw : ((single b).un (single c)).has l = true := hlw
        rw [has_un, has_single (isLit_ne ib), has_single (isLit_ne ic)] at hlw
        simp only [Bool.or_eq_true, decide_eq_true_eq] at hlw
        rcases hlw with e | e
        · exact h.old _ h0 hl0 l (by rw [hwe, has_un, has_single (isLit_ne ib), e]; simp)
        · subst e
          rw [has_un, Bool.or_eq_false_iff] at hnc
          exact .inr hnc.1
      · rw [withW_other _ _ _ _ e hl hl0] at hlw
        exact h.old _ h0 hl0 l hlw
    sound := h.sound
    kept := fun j hjk hl ht => by
      have hl0 := len hl
      obtain ⟨e1, e2⟩ := withW_set es orig[i] ((single b).un (single c)) j hl hl0
      rw [e1]; rw [e2] at ht
      exact h.kept j hjk hl0 ht
    cons := h.cons
    fresh := h.fresh
    fok := h.fok
    klen := Nat.le_succ_of_le h.klen
    ilen := hi }
end Rd
end Go.Proofs.YtceahffmenbibaaGreatDoor

namespace Go.Proofs.YtceahffmenbibaaGreatDoor
namespace Rd
open Go Go.RowKit Go.Deep
set_option linter.unusedVariables false
set_option linter.unusedSimpArgs false
variable {B sb mb : Nat} {w w' : World} {cv : Value} {gone : Int} {u : Key} {wv : Nat → Value} {es : List Ent} {wl : Nat → List Nat}

theorem natsV_set (xs : List Nat) (i a : Nat) : natsV (xs.set i a) = (natsV xs).set i (.int .i64 (a : Int)) := by unfold natsV; rw [List.map_set]
theorem natsV_len (xs : List Nat) : (natsV xs).length = xs.length := by unfold natsV; simp
theorem Sto.wlt (h : Sto B sb w cv mb gone u wv es wl) {p gb n cap : Nat} (hp : p < 128) (hv : wv p = .slice (some ⟨gb, 0, none⟩) n cap) : ∃ cur, w.heap[gb]? = some (.cells cur 3 (0, 0)) ∧ B ≤ gb ∧ n = (wl p).length ∧ n ≤ cap := by
  rcases (h.wat p hp).2 with ⟨e, _⟩ | ⟨g, cap', cur, e, hb, hg, hn, _⟩
  · rw [hv] at e; cases e
  · rw [hv] at e; cases e; exact ⟨cur, hg, hb, rfl, hn⟩
theorem Sto.farW (h : Sto B sb w cv mb gone u wv es wl) {p gb n cap : Nat} (hp : p < 128) (hv : wv p = .slice (some ⟨gb, 0, none⟩) n cap) : sb ≠ gb ∧ mb ≠ gb ∧ (∀ g, cv.ownBlock = some g → g ≠ gb) ∧ ∀ k, k < 128 → k ≠ p → ∀ g, (wv k).ownBlock = some g → g ≠ gb := by
  obtain ⟨cur, hg, _⟩ := h.wlt hp hv
  refine ⟨fun e => ?_, fun e => h.map.not_cells (by rw [e]; exact hg), fun g hcg e => ?_, fun k hk hne g hkg e => ?_⟩
  · obtain ⟨c, hr, _⟩ := h.row
    rw [e, hg] at hr; cases hr
  · rcases h.cls.2 with ⟨e2, _⟩ | ⟨g', cap', cur', e2, _, hg', _⟩
    · rw [e2] at hcg; cases hcg
    · rw [e2] at hcg; cases hcg; simp only at e; rw [e, hg] at hg'; cases hg'
  · rcases h.apart k p hk hp hne with e3 | e3
    · rw [e3] at hkg; cases hkg
    · exact e3 (by rw [hkg, hv, e]; rfl)
/-- a list's cells anew -/
theorem Sto.intoWat {p gb n cap : Nat} {xs : List Nat} {ws : World} (h : Sto B sb w cv mb gone u wv es wl) (hp : p < 128) (hv : wv p = .slice (some ⟨gb, 0, none⟩) n cap)
    (hown : ws.ownsRow B 3 1 (wv p) xs.length (natsV xs)) (hblk : ∀ k, k ≠ gb → ws.heap[k]? = w.heap[k]?) : Sto B sb ws cv mb gone u wv es (fun k => if k = p then xs else wl k) := by
  obtain ⟨f1, f2, f3, f4⟩ := h.farW hp hv
  exact {
    row := h.row.of_block (hblk _ f1)
    cls := owns_block h.cls fun g hg => hblk g (f3 g hg)
    map := h.map.kept (hblk _ f2)
    wat := fun k hk => by
      by_cases e : k = p
      · subst e; simp only [if_true]; exact hown
      · simp only [e, if_false]
        exact owns_block (h.wat k hk) fun g hg => hblk g (f4 k hk e g hg)
    apart := h.apart
    bsb := h.bsb
    bmb := h.bmb }
/-- one of a list anew -/
theorem Sto.setL {p gb n cap i a : Nat} (h : Sto B sb w cv mb gone u wv es wl) (hp : p < 128) (hv : wv p = .slice (some ⟨gb, 0, none⟩) n cap) :
    Sto B sb (w.setCell ⟨gb, i, none⟩ (.int .i64 (a : Int))) cv mb gone u wv es (fun k => if k = p then (wl p).set i a else wl k) := by
  refine h.intoWat hp hv ?_ (fun k hk => Below.heap_setCell _ _ _ _ hk)
  rw [natsV_set, List.length_set]
  have hw := h.wat p hp
  obtain ⟨_, _, _, hn, _⟩ := h.wlt hp hv
  rw [hv, hn] at hw ⊢
  exact (hw.stored i _).1
theorem Sto.keepsL {p gb n cap : Nat} (h : Sto B sb w cv mb gone u wv es wl) (hp : p < 128) (hv : wv p = .slice (some ⟨gb, 0, none⟩) n cap) (i : Nat) (x : Value) : Keeps w (w.setCell ⟨gb, i, none⟩ x) := fun k hk => Below.heap_setCell _ _ _ _ (fun e => by
  obtain ⟨cur, hg, _⟩ := h.wlt hp hv
  obtain ⟨c, t, ht, _, _, h3⟩ := hk
  simp only at e
  rw [e, hg] at ht; cases ht; exact h3 rfl)
theorem natsV_take (xs : List Nat) (i : Nat) : natsV (xs.take i) = (natsV xs).take i := by unfold natsV; rw [List.map_take]
theorem owns_take {w : World} {B e : Nat} {a : Option Addr} {n k cap : Nat} {xs : List Value} (h : w.ownsRow B e 1 (.slice a n cap) n xs) (hk : k ≤ n) : w.ownsRow B e 1 (.slice a k cap) k (xs.take k) := by
  have hl := h.1
  refine ⟨by rw [List.length_take, hl]; omega, ?_⟩
  rcases h.2 with ⟨e2, h0⟩ | ⟨g, cap', cur, e2, hb, hg, hn, hm, hs, ht⟩
  · cases e2
    have : k = 0 := by omega
    subst this; exact .inl ⟨rfl, rfl⟩
  · cases e2
    refine .inr ⟨g, cap, cur, rfl, hb, hg, by omega, hm, hs, ?_⟩
    rw [← ht, List.take_take]; congr 1; omega
/-- a shorter header -/
theorem Sto.cutL {p n cap k0 : Nat} {a : Option Addr} (h : Sto B sb w cv mb gone u wv es wl) (hp : p < 128) (hv : wv p = .slice a n cap) (hk : k0 ≤ (wl p).length) :
    Sto B sb (w.setCell ⟨sb, 5 + p, none⟩ (.slice a k0 cap)) cv mb gone u (fun k => if k = p then .slice a k0 cap else wv k) es (fun k => if k = p then (wl p).take k0 else wl k) := by
  have hw := h.wat p hp
  have hn : n = (wl p).length := by
    obtain ⟨a', c', e⟩ := own_shape hw
    rw [hv] at e; cases e; rfl
  have own : w.ownsRow B 3 1 (.slice a k0 cap) k0 (natsV ((wl p).take k0)) := by
    rw [natsV_take]
    rw [hv, hn] at hw
    exact owns_take hw hk
  have blk : (Value.slice a k0 cap).ownBlock = (wv p).ownBlock := by rw [hv]; cases a <;> rfl
  have hl : ((wl p).take k0).length = k0 := by rw [List.length_take]; omega
  exact {
    row := (h.row.set (5 + p) _).congr fun i hi => by
      match i with
      | 0 => rw [if_neg (by omega)]; rfl
      | 1 => rw [if_neg (by omega)]; rfl
      | 2 => rw [if_neg (by omega)]; rfl
      | 3 => rw [if_neg (by omega)]; rfl
      | 4 => rw [if_neg (by omega)]; rfl
      | k + 5 =>
        by_cases e : k = p
        · subst e; simp [stoF, Nat.add_comm]
        · have : ¬ (k + 5 = 5 + p) := by omega
          simp [stoF, this, e]
    cls := ownsRow_setCell_other h.cls (fun e => h.far_sb.2.1 sb e rfl) _
    map := h.map.kept (Below.heap_setCell _ _ _ _ h.far_sb.1)
    wat := fun k hk' => by
      by_cases e : k = p
      · subst e
        simp only [if_true]
        rw [hl]
        exact ownsRow_setCell_other own (fun e => h.far_sb.2.2 k hk' sb (by rw [← blk]; exact e) rfl) _
      · simp only [e, if_false]
        exact ownsRow_setCell_other (h.wat k hk') (fun e => h.far_sb.2.2 k hk' sb e rfl) _
    apart := fun k k' hk hk' hne => by
      have e1 : ∀ x, (if x = p then Value.slice a k0 cap else wv x).ownBlock = (wv x).ownBlock := fun x => by
        split
        · rename_i e; rw [e]; exact blk
        · rfl
      rw [e1, e1]
      exact h.apart k k' hk hk' hne
    bsb := h.bsb
    bmb := h.bmb }
/-- the list as it lies in memory while it is gone through: the kept ones, and what was there behind them -/
def mix (kl orig : List Nat) : List Nat := kl ++ orig.drop kl.length
theorem mix_nil (orig : List Nat) : mix [] orig = orig := rfl
theorem mix_len {kl orig : List Nat} (h : kl.length ≤ orig.length) : (mix kl orig).length = orig.length := by unfold mix; simp; omega
theorem mix_at {kl orig : List Nat} {i : Nat} (h : kl.length ≤ i) (hi : i < orig.length) (hm : i < (mix kl orig).length) : (mix kl orig)[i] = orig[i] := by
  simp only [mix]
  rw [List.getElem_append_right h, List.getElem_drop]
  congr 1; omega
theorem mix_set {kl orig : List Nat} {a : Nat} (h : kl.length < orig.length) : (mix kl orig).set kl.length a = mix (kl ++ [a]) orig := by
  unfold mix
  rw [List.set_append_right _ _ (Nat.le_refl _), Nat.sub_self, drop_at h, List.set_cons_zero]
  simp
theorem mix_take {kl orig : List Nat} : (mix kl orig).take kl.length = kl := by unfold mix; simp
end Rd
end Go.Proofs.YtceahffmenbibaaGreatDoor

namespace Go.Proofs.YtceahffmenbibaaGreatDoor
namespace Rd
open Go Go.RowKit Go.Deep
set_option linter.unusedVariables false
set_option linter.unusedSimpArgs false
variable {B sb mb : Nat} {w wr ws : World} {cv : Value} {gone : Int} {u : Key} {wv wv' : Nat → Value} {es es' : List Ent} {wl wl' : Nat → List Nat} {L D F : Key}

structure FalMem (B sb : Nat) (w : World) (L D F : Key) (cv : Value) (mb : Nat) (gone : Int) (u : Key) (wv : Nat → Value) (es : List Ent) (wl : Nat → List Nat) (wr : World) : Prop where
  lrow : wr.rowIs w.heap.size 84 2 (keyF L)
  drow : wr.rowIs (w.heap.size + 1) 84 2 (keyF D)
  frow : wr.rowIs (w.heap.size + 2) 84 2 (keyF F)
  sto : Sto B sb wr cv mb gone u wv es wl
  below : Below B w wr
  keeps : Keeps w wr
  hs : w.heap.size + 3 ≤ wr.heap.size
  tab : Tab B wr
  bw : B ≤ w.heap.size
theorem row_foreign {b n : Nat} {f : Nat → Value} (h : wr.rowIs b 84 n f) : Foreign wr b := by
  obtain ⟨c, hr, _⟩ := h
  exact ⟨c, _, hr, by decide⟩
/-- the store has been worked on, with foreign blocks kept -/
theorem FalMem.step (h : FalMem B sb w L D F cv mb gone u wv es wl wr) (S : Sto B sb ws cv mb gone u wv' es' wl') (k : Keeps wr ws) (b : Below B wr ws) : FalMem B sb w L D F cv mb gone u wv' es' wl' ws where
  lrow := h.lrow.of_block (k _ (row_foreign h.lrow))
  drow := h.drow.of_block (k _ (row_foreign h.drow))
  frow := h.frow.of_block (k _ (row_foreign h.frow))
  sto := S
  below := h.below.trans b
  keeps := h.keeps.trans k
  hs := Nat.le_trans h.hs b.size
  tab := h.tab.later b
  bw := h.bw
theorem FalMem.later (h : FalMem B sb w L D F cv mb gone u wv es wl wr) (hb : Below wr.heap.size wr ws) : FalMem B sb w L D F cv mb gone u wv es wl ws :=
  h.step (h.sto.later hb) (Keeps.of_below hb) (hb.mono h.sto.bsize)
theorem sto_foreign {b n : Nat} {f : Nat → Value} (h : Sto B sb wr cv mb gone u wv es wl) (hb : wr.rowIs b 84 n f) (hbl : ∀ k, k ≠ b → ws.heap[k]? = wr.heap[k]?) : Sto B sb ws cv mb gone u wv es wl := by
  obtain ⟨c, hr, _⟩ := hb
  have ne : ∀ g cur t, wr.heap[g]? = some (.cells cur t (0, 0)) → t ≠ 84 → g ≠ b := fun g cur t hg ht e => by rw [e, hr] at hg; cases hg; exact ht rfl
  exact {
    row := h.row.of_block (hbl _ (by obtain ⟨c2, hr2, _⟩ := h.row; exact ne _ _ _ hr2 (by decide)))
    cls := owns_block h.cls fun g hg => hbl g (by
      rcases h.cls.2 with ⟨e2, _⟩ | ⟨g', cap', cur, e2, _, hg', _⟩
      · rw [e2] at hg; cases hg
      · rw [e2] at hg; cases hg; exact ne _ _ _ hg' (by decide))
    map := h.map.kept (hbl _ (fun e => h.map.not_cells (by rw [e]; exact hr)))
    wat := fun k hk => owns_block (h.wat k hk) fun g hg => hbl g (by
      rcases (h.wat k hk).2 with ⟨e2, _⟩ | ⟨g', cap', cur, e2, _, hg', _⟩
      · rw [e2] at hg; cases hg
      · rw [e2] at hg; cases hg; exact ne _ _ _ hg' (by decide))
    apart := h.apart
    bsb := h.bsb
    bmb := h.bmb }
theorem keyF_set {b : Nat} {s t : Key} (h : wr.rowIs b 84 2 (keyF s)) : ((wr.setCell ⟨b, 0, none⟩ (.int .u64 (t.1 : Int))).setCell ⟨b, 1, none⟩ (.int .u64 (t.2 : Int))).rowIs b 84 2 (keyF t) :=
  ((h.set 0 _).set 1 _).congr fun i hi => by
    match i, hi with
    | 0, _ => rfl
    | 1, _ => rfl
theorem two_other {b : Nat} {x y : Value} : ∀ k, k ≠ b → ((wr.setCell ⟨b, 0, none⟩ x).setCell ⟨b, 1, none⟩ y).heap[k]? = wr.heap[k]? := fun k hk => by
  rw [Below.heap_setCell _ _ _ _ (by simpa using hk), Below.heap_setCell _ _ _ _ (by simpa using hk)]
theorem keeps_new {b : Nat} {x y : Value} (h : Keeps w wr) (hb : w.heap.size ≤ b) : Keeps w ((wr.setCell ⟨b, 0, none⟩ x).setCell ⟨b, 1, none⟩ y) := fun k hk => by
  rw [two_other k (by have := hk.lt; omega)]; exact h k hk
theorem FalMem.putF (h : FalMem B sb w L D F cv mb gone u wv es wl wr) (t : Key) : FalMem B sb w L D t cv mb gone u wv es wl ((wr.setCell ⟨w.heap.size + 2, 0, none⟩ (.int .u64 (t.1 : Int))).setCell ⟨w.heap.size + 2, 1, none⟩ (.int .u64 (t.2 : Int))) where
  lrow := h.lrow.of_block (two_other _ (by omega))
  drow := h.drow.of_block (two_other _ (by omega))
  frow := keyF_set h.frow
  sto := sto_foreign h.sto h.frow two_other
  below := (h.below.setCell (by have := h.bw; simp; omega) _).setCell (by have := h.bw; simp; omega) _
  keeps := keeps_new h.keeps (by omega)
  hs := by have := h.hs; simp [World.setCell]; omega
  tab := h.tab.later (((Below.refl _ _).setCell (by have := h.bw; simp; omega) _).setCell (by have := h.bw; simp; omega) _)
  bw := h.bw
theorem FalMem.putD (h : FalMem B sb w L D F cv mb gone u wv es wl wr) (t : Key) : FalMem B sb w L t F cv mb gone u wv es wl ((wr.setCell ⟨w.heap.size + 1, 0, none⟩ (.int .u64 (t.1 : Int))).setCell ⟨w.heap.size + 1, 1, none⟩ (.int .u64 (t.2 : Int))) where
  lrow := h.lrow.of_block (two_other _ (by omega))
  drow := keyF_set h.drow
  frow := h.frow.of_block (two_other _ (by omega))
  sto := sto_foreign h.sto h.drow two_other
  below := (h.below.setCell (by have := h.bw; simp; omega) _).setCell (by have := h.bw; simp; omega) _
  keeps := keeps_new h.keeps (by omega)
  hs := by have := h.hs; simp [World.setCell]; omega
  tab := h.tab.later (((Below.refl _ _).setCell (by have := h.bw; simp; omega) _).setCell (by have := h.bw; simp; omega) _)
  bw := h.bw
/-- the state at the head of the loop -/
structure FalSt (B sb : Nat) (w : World) (lit : Int) (down0 : Key) (cv : Value) (mb : Nat) (gone : Int) (u : Key) (es0 : List Ent) (orig : List Nat) (V : Value) (i : Nat) (kl : List Nat) (F : Key) (wv : Nat → Value) (es : List Ent) (wl : Nat → List Nat) (wr : World) : Prop where
  mem : FalMem B sb w (single lit) (down0.un F) F cv mb gone u wv es (fun k => if k = place lit then mix kl orig else wl k) wr
  hv : wv (place lit) = V
  finv : FInv es0 lit down0 orig i es wl kl F
def FalRel (B sb : Nat) (w : World) (lit : Int) (down0 : Key) (cv : Value) (mb : Nat) (gone : Int) (u : Key) (es0 : List Ent) (orig : List Nat) (V : Value) (k10 i25 : Value) (wr : World) : Prop :=
  ∃ (i : Nat) (kl : List Nat) (F : Key) (wv : Nat → Value) (es : List Ent) (wl : Nat → List Nat), k10 = .int .i64 kl.length ∧ i25 = .int .i64 i ∧ Hid (FalSt B sb w lit down0 cv mb gone u es0 orig V i kl F wv es wl wr)
/-- what falsify answers -/
def FalRet (B sb : Nat) (w : World) (lit : Int) (down0 : Key) (cv : Value) (mb : Nat) (gone : Int) (u : Key) (es0 : List Ent) (e : Ending) (w' : World) : Prop :=
  ∃ (F : Key) (c : Bool) (wv : Nat → Value) (es : List Ent) (wl : Nat → List Nat), e = .returned (.tuple #[keyV F, .bool c]) ∧ Below B w w' ∧ Keeps w w' ∧ Sto B sb w' cv mb gone u wv es wl ∧ FalsPost es0 es lit down0 F c ∧ WInv es wl
theorem FalSt.start {lit : Int} {down0 : Key} (hM : FalMem B sb w (single lit) down0 (0, 0) cv mb gone u wv es wl wr) (hw : WInv es wl) : FalSt B sb w lit down0 cv mb gone u es (wl (place lit)) (wv (place lit)) 0 [] (0, 0) wv es wl wr where
  mem := by
    have e1 : (fun k => if k = place lit then mix [] (wl (place lit)) else wl k) = wl := by
      funext k; rw [mix_nil]; split
      · rename_i e; rw [e]
      · rfl
    have e2 : down0.un (0, 0) = down0 := key_ext fun x => by rw [has_un, has_empty, Bool.or_false]
    rw [e1, e2]; exact hM
  hv := rfl
  finv := FInv.start hw
end Rd
end Go.Proofs.YtceahffmenbibaaGreatDoor

namespace Go.Proofs.YtceahffmenbibaaGreatDoor
namespace Rd
open Go Go.RowKit Go.Deep
set_option linter.unusedVariables false
set_option linter.unusedSimpArgs false
variable {B sb mb : Nat} {w wr ws : World} {cv V : Value} {gone : Int} {u : Key} {wv wv' : Nat → Value} {es0 es es' : List Ent} {wl wl' : Nat → List Nat} {L D F F' down0 : Key} {lit : Int} {orig kl : List Nat} {i : Nat}

theorem nodup_le : ∀ (n : Nat) (l : List Nat), l.Nodup → (∀ x ∈ l, x < n) → l.length ≤ n
  | 0, l, _, h => by
    cases l with
    | nil => exact Nat.le_refl _
    | cons a r => exact absurd (h a (List.mem_cons_self ..)) (Nat.not_lt_zero _)
  | n + 1, l, hd, h => by
    have h1 := nodup_le n (l.erase n) (hd.erase n) (fun x hx => by
      have := h x (List.mem_of_mem_erase hx)
      have : x ≠ n := fun e => by subst e; exact hd.not_mem_erase hx
      omega)
    by_cases hm : n ∈ l
    · rw [List.length_erase_of_mem hm] at h1; omega
    · rw [List.erase_of_not_mem hm] at h1; omega
theorem WInv.len (h : WInv es wl) {k : Nat} (hk : k < 128) : (wl k).length ≤ es.length := nodup_le _ _ (h.nodup k hk) fun x hx => (h.lists k hk x hx).1
/-- the clause stays in the list -/
theorem FalSt.keep {gb n cap : Nat} (hM : FalMem B sb w (single lit) (down0.un F) F cv mb gone u wv es (fun k => if k = place lit then mix kl orig else wl k) ws) (hv : wv (place lit) = .slice (some ⟨gb, 0, none⟩) n cap) (il : IsLit lit) (hi : i < orig.length) (hk : kl.length ≤ i)
    (hF : FInv es0 lit down0 orig (i + 1) es wl (kl ++ [orig[i]]) F) : FalSt B sb w lit down0 cv mb gone u es0 orig (.slice (some ⟨gb, 0, none⟩) n cap) (i + 1) (kl ++ [orig[i]]) F wv es wl (ws.setCell ⟨gb, kl.length, none⟩ (.int .i64 (orig[i] : Nat))) where
  mem := by
    have S := hM.sto.setL (i := kl.length) (a := orig[i]) (place_lt il) hv
    have e : (fun k => if k = place lit then ((fun k => if k = place lit then mix kl orig else wl k) (place lit)).set kl.length orig[i] else (fun k => if k = place lit then mix kl orig else wl k) k) = fun k => if k = place lit then mix (kl ++ [orig[i]]) orig else wl k := by
      funext k
      by_cases e : k = place lit
      · simp only [e, if_true]; exact mix_set (by omega)
      · simp only [e, if_false]
    rw [e] at S
    obtain ⟨_, _, hb, _⟩ := hM.sto.wlt (place_lt il) hv
    exact hM.step S (hM.sto.keepsL (place_lt il) hv _ _) ((Below.refl _ _).setCell hb _)
  hv := hv
  finv := hF
/-- the clause goes over to another list -/
theorem FalSt.over {j : Nat} {c : Int} {k1 : Key} (hM : FalMem B sb w (single lit) (down0.un F) F cv mb gone u wv' (withW (withW es j k1) j (k1.un (single c))) (fun k => if k = place c then (if place c = place lit then mix kl orig else wl (place c)) ++ [j] else if k = place lit then mix kl orig else wl k) ws)
    (hv : wv' (place lit) = V) (il : IsLit lit) (ic : IsLit c) (hcl : c ≠ lit)
    (hF : FInv es0 lit down0 orig (i + 1) (withW es j (k1.un (single c))) (fun k => if k = place c then wl k ++ [j] else wl k) kl F) :
    FalSt B sb w lit down0 cv mb gone u es0 orig V (i + 1) kl F wv' (withW es j (k1.un (single c))) (fun k => if k = place c then wl k ++ [j] else wl k) ws where
  mem := by
    have pcl : place c ≠ place lit := fun e => hcl (place_inj ic il e)
    have e : (fun k => if k = place c then (if place c = place lit then mix kl orig else wl (place c)) ++ [j] else if k = place lit then mix kl orig else wl k) = fun k => if k = place lit then mix kl orig else if k = place c then wl k ++ [j] else wl k := by
      funext k
      by_cases e : k = place c
      · simp only [e, if_true, pcl, if_false]
      · simp only [e, if_false]
    rw [withW_twice, e] at hM
    exact hM
  hv := hv
  finv := hF
/-- the list's end -/
theorem FalSt.out {a : Option Addr} {n cap : Nat} (h : FalSt B sb w lit down0 cv mb gone u es0 orig (.slice a n cap) orig.length kl F wv es wl wr) (il : IsLit lit) :
    FalRet B sb w lit down0 cv mb gone u es0 (.returned (.tuple #[keyV F, .bool false])) (wr.setCell ⟨sb, 5 + place lit, none⟩ (.slice a kl.length cap)) ∧ FalMem B sb w (single lit) (down0.un F) F cv mb gone u (fun k => if k = place lit then .slice a kl.length cap else wv k) es (fun k => if k = place lit then kl else wl k) (wr.setCell ⟨sb, 5 + place lit, none⟩ (.slice a kl.length cap)) := by
  have S := h.mem.sto.cutL (k0 := kl.length) (place_lt il) h.hv (by simp [mix])
  have e : (fun k => if k = place lit then ((fun k => if k = place lit then mix kl orig else wl k) (place lit)).take kl.length else (fun k => if k = place lit then mix kl orig else wl k) k) = fun k => if k = place lit then kl else wl k := by
    funext k
    by_cases e : k = place lit
    · simp only [e, if_true]; exact mix_take
    · simp only [e, if_false]
  rw [e] at S
  have M := h.mem.step S (h.mem.sto.keeps_sb _ _) ((Below.refl _ _).setCell h.mem.sto.bsb _)
  obtain ⟨f1, f2⟩ := h.finv.done il
  exact ⟨⟨F, false, _, es, _, rfl, M.below, M.keeps, M.sto, f1, f2⟩, M⟩
/-- a conflict: what is left of the list goes up, and the header is cut -/
theorem FalMem.confl {gb n cap : Nat} (hM : FalMem B sb w (single lit) (down0.un F) F cv mb gone u wv es (fun k => if k = place lit then kl ++ orig.drop i ++ orig.drop (kl.length + (orig.length - i)) else wl k) ws) (hv : wv (place lit) = .slice (some ⟨gb, 0, none⟩) n cap) (il : IsLit lit)
    (hw : WInv es (fun k => if k = place lit then kl ++ orig.drop i else wl k)) (hF : FalsPost es0 es lit down0 F true) :
    FalRet B sb w lit down0 cv mb gone u es0 (.returned (.tuple #[keyV F, .bool true])) (ws.setCell ⟨sb, 5 + place lit, none⟩ (.slice (some ⟨gb, 0, none⟩) (kl.length + (orig.length - i)) cap)) ∧ FalMem B sb w (single lit) (down0.un F) F cv mb gone u (fun k => if k = place lit then .slice (some ⟨gb, 0, none⟩) (kl.length + (orig.length - i)) cap else wv k) es (fun k => if k = place lit then kl ++ orig.drop i else wl k) (ws.setCell ⟨sb, 5 + place lit, none⟩ (.slice (some ⟨gb, 0, none⟩) (kl.length + (orig.length - i)) cap)) := by
  have S := hM.sto.cutL (k0 := kl.length + (orig.length - i)) (place_lt il) hv (by simp)
  have e : (fun k => if k = place lit then ((fun k => if k = place lit then kl ++ orig.drop i ++ orig.drop (kl.length + (orig.length - i)) else wl k) (place lit)).take (kl.length + (orig.length - i)) else (fun k => if k = place lit then kl ++ orig.drop i ++ orig.drop (kl.length + (orig.length - i)) else wl k) k) = fun k => if k = place lit then kl ++ orig.drop i else wl k := by
    funext k
    by_cases e : k = place lit
    · simp only [e, if_true]
      rw [List.take_append_of_le_length (by simp), List.take_of_length_le (by simp)]
    · simp only [e, if_false]
  rw [e] at S
  have M := hM.step S (hM.sto.keeps_sb _ _) ((Below.refl _ _).setCell hM.sto.bsb _)
  exact ⟨⟨F, true, _, es, _, rfl, M.below, M.keeps, M.sto, hF, hw⟩, M⟩
end Rd
end Go.Proofs.YtceahffmenbibaaGreatDoor

namespace Go.Proofs.YtceahffmenbibaaGreatDoor
namespace Rd
open Go Go.RowKit Go.Deep
set_option linter.unusedVariables false
set_option linter.unusedSimpArgs false

theorem step_copy_one {P : Program} {ops : Array Oper} {o : Oper} {a : Act} {w : World} {K : Act → World → Prop} {Q : Exit → Act → World → Prop} {E : Prop} (hgd : o.guard = none) (d s : Operand) (dT sT : TypeId)
    (ho : o.op = .call { callee := .builtin .copy, args := #[d, s], argTypes := #[dT, sT] }) (elem : TypeId) (hu : P.underlying dT = some (.slice elem)) (hsz : (P.info? elem).map (·.size) = some 1)
    (g off : Nat) (ad : Addr) (dLen dCap sLen sCap : Nat) (hd : a.eval d = .slice (some ⟨g, off, none⟩) dLen dCap) (hs : a.eval s = .slice (some ad) sLen sCap)
    (cur : Array Value) (t : TypeId) (hg : w.heap[g]? = some (.cells cur t (0, 0))) (cs : List Value) (hn : cs.length = Nat.min sLen dLen)
    (hsrc : ∀ j v, cs[j]? = some v → w.cell? (ad.add j) = some v) (hfit : off + cs.length ≤ cur.size) (h1 : ∀ v ∈ cs, v.oneCell' = true) (B : Nat) (hBg : B ≤ g)
    (h : ∀ w', Hid (w'.heap[g]? = some (.cells (splice cur.toList off cs).toArray t (0, 0))) → Hid (∀ k, k ≠ g → w'.heap[k]? = w.heap[k]?) → Hid (Below B w w') → K (a.put o.dst (goInt cs.length)) w') :
    if Region.wanted o (yielded ops a.tmps) = true then Oper.wp P o a w K Q else E := by
  have hw : Region.wanted o (yielded ops a.tmps) = true := by simp [Region.wanted, hgd]
  rw [if_pos hw]
  have hrun := run_copy_row (P := P) w dT sT o.type elem g off dLen dCap ad sLen sCap cur t cs hu hsz hg hn hsrc hfit h1
  unfold Oper.wp
  simp [execOp, ho, resolve, invoke, builtin, hd, hs, hrun, Result.andThen]
  exact h _ (show _ = _ by simpa [splice] using setRow_heap w g _ _ t _ hg) (fun k hk => setRow_other w g k _ (fun e => hk (by first | exact e | exact e.symm))) (below_setRow (Below.refl _ _) hBg _)
theorem splice_take {kl orig : List Nat} {i : Nat} {cur : List Value} (hk : kl.length ≤ i) (hi : i ≤ orig.length) (hc : cur.take orig.length = natsV (mix kl orig)) :
    (splice cur kl.length (natsV (orig.drop i))).take orig.length = natsV (kl ++ orig.drop i ++ orig.drop (kl.length + (orig.length - i))) := by
  have hl : (natsV (orig.drop i)).length = orig.length - i := by rw [natsV_len]; simp
  have hcl : orig.length ≤ cur.length := by
    have := congrArg List.length hc
    rw [natsV_len, mix_len (by omega), List.length_take] at this; omega
  have h1 : cur.take kl.length = natsV kl := by
    have : cur.take kl.length = (cur.take orig.length).take kl.length := by rw [List.take_take]; congr 1; omega
    rw [this, hc, ← natsV_take, mix_take]
  have h2 : (cur.drop (kl.length + (orig.length - i))).take (orig.length - (kl.length + (orig.length - i))) = natsV (orig.drop (kl.length + (orig.length - i))) := by
    have : (cur.drop (kl.length + (orig.length - i))).take (orig.length - (kl.length + (orig.length - i))) = (cur.take orig.length).drop (kl.length + (orig.length - i)) := by rw [List.drop_take]
    rw [this, hc]
    unfold natsV mix
    rw [← List.map_drop, List.drop_append, List.drop_of_length_le (by omega), List.nil_append, List.drop_drop]
    congr 2; omega
  unfold splice
  rw [hl, h1, ← List.append_assoc, List.take_append, List.take_of_length_le (by rw [List.length_append, natsV_len, hl]; omega), List.length_append, natsV_len, hl, h2]
  unfold natsV
  rw [List.map_append, List.map_append]
variable {B sb mb : Nat} {w wr ws : World} {cv V : Value} {gone : Int} {u : Key} {wv wv' : Nat → Value} {es0 es es' : List Ent} {wl wl' : Nat → List Nat} {L D F F' down0 : Key} {lit : Int} {orig kl : List Nat} {i : Nat}
theorem FalMem.copied {gb n cap : Nat} {cur : Array Value} (hM : FalMem B sb w L D F cv mb gone u wv es (fun k => if k = place lit then mix kl orig else wl k) wr) (hv : wv (place lit) = .slice (some ⟨gb, 0, none⟩) n cap) (il : IsLit lit) (hk : kl.length ≤ i) (hi : i ≤ orig.length)
    (hg : wr.heap[gb]? = some (.cells cur 3 (0, 0))) (h' : ws.heap[gb]? = some (.cells (splice cur.toList kl.length (natsV (orig.drop i))).toArray 3 (0, 0))) (ho : ∀ k, k ≠ gb → ws.heap[k]? = wr.heap[k]?) (hb : Below B wr ws) :
    FalMem B sb w L D F cv mb gone u wv es (fun k => if k = place lit then kl ++ orig.drop i ++ orig.drop (kl.length + (orig.length - i)) else wl k) ws := by
  have hw := hM.sto.wat (place lit) (place_lt il)
  simp only [if_true] at hw
  have hlen : (kl ++ orig.drop i ++ orig.drop (kl.length + (orig.length - i))).length = orig.length := by simp; omega
  have own : ws.ownsRow B 3 1 (wv (place lit)) (kl ++ orig.drop i ++ orig.drop (kl.length + (orig.length - i))).length (natsV (kl ++ orig.drop i ++ orig.drop (kl.length + (orig.length - i)))) := by
    rw [mix_len (by omega)] at hw
    rw [hlen]
    refine ⟨by rw [natsV_len, hlen]; omega, ?_⟩
    rcases hw.2 with ⟨e, _⟩ | ⟨g, cap', cur', e, hb', hg', hn, hm, hs, ht⟩
    · rw [hv] at e; cases e
    · have e2 := e
      rw [hv] at e2
      obtain ⟨q1, q2, q3⟩ := Value.slice.inj e2
      have q4 : g = gb := by have := Option.some.inj q1; exact (congrArg Addr.block this).symm
      subst q4
      rw [hg] at hg'
      have q5 : cur = cur' := by cases hg'; rfl
      subst q5
      simp only [Nat.mul_one] at hs ht ⊢
      refine .inr ⟨g, cap', _, e, hb', h', hn, hm, ?_, ?_⟩
      · have : (natsV (orig.drop i)).length = orig.length - i := by rw [natsV_len]; simp
        simp only [List.size_toArray]
        rw [length_splice _ _ _ (by rw [this]; simp; omega)]; simp; omega
      · simp only [Nat.mul_one]
        exact splice_take hk hi ht
  have S := hM.sto.intoWat (place_lt il) hv own ho
  have e : (fun k => if k = place lit then kl ++ orig.drop i ++ orig.drop (kl.length + (orig.length - i)) else (fun k => if k = place lit then mix kl orig else wl k) k) = fun k => if k = place lit then kl ++ orig.drop i ++ orig.drop (kl.length + (orig.length - i)) else wl k := by
    funext k
    by_cases e : k = place lit
    · simp only [e, if_true]
    · simp only [e, if_false]
  rw [e] at S
  refine hM.step S (fun k hk => ho k (fun e => ?_)) hb
  obtain ⟨c, t, ht, _, _, h3⟩ := hk
  rw [e, hg] at ht; cases ht; exact h3 rfl
theorem copy_src {kl orig : List Nat} {i gb cap B : Nat} {w : World} (gw : w.ownsRow B 3 1 (.slice (some ⟨gb, 0, none⟩) orig.length cap) orig.length (natsV (mix kl orig))) (hk : kl.length ≤ i) :
    ∀ j v, (natsV (orig.drop i))[j]? = some v → w.cell? (Addr.add ⟨gb, i, none⟩ j) = some v := fun x v hx => by
  have hx2 : x < (natsV (orig.drop i)).length := by
    rcases Nat.lt_or_ge x (natsV (orig.drop i)).length with h | h
    · exact h
    · rw [List.getElem?_eq_none h] at hx; cases hx
  rw [natsV_len, List.length_drop] at hx2
  have hc := gw.cellAt (i + x) (by omega)
  have ea : Addr.add ⟨gb, i, none⟩ x = ⟨gb, i + x, none⟩ := by simp [Addr.add]
  rw [ea, hc, ← hx]
  unfold natsV mix
  rw [List.getElem?_map, List.getElem?_map, List.getElem?_append_right (by omega), List.getElem?_drop, List.getElem?_drop]
  congr 2; omega
theorem copy_fit {xs : List Value} {n gb cap B : Nat} {w : World} {cur : Array Value} (gw : w.ownsRow B 3 1 (.slice (some ⟨gb, 0, none⟩) n cap) n xs) (hg : w.heap[gb]? = some (.cells cur 3 (0, 0))) : n ≤ cur.size := by
  rcases gw.2 with ⟨e, _⟩ | ⟨g, cap', cur', e, _, hg', hn', _, hs', _⟩
  · cases e
  · cases e
    rw [hg] at hg'; cases hg'; omega
theorem nats_one (xs : List Nat) : ∀ v ∈ natsV xs, v.oneCell' = true := fun v hv => by
  unfold natsV at hv
  obtain ⟨x, _, rfl⟩ := List.mem_map.1 hv
  rfl
end Rd
end Go.Proofs.YtceahffmenbibaaGreatDoor
