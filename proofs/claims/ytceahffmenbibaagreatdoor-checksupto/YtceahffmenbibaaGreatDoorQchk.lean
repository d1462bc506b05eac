/- Qlog, Qsto, Qchk. -/
import Derived.Test.YtceahffmenbibaaGreatDoorPcpy
import Derived.Test.YtceahffmenbibaaGreatDoorPhas
import Derived.Test.YtceahffmenbibaaGreatDoorReq
namespace Go.Proofs.YtceahffmenbibaaGreatDoor
namespace Rd
set_option linter.unusedVariables false
set_option linter.unusedSimpArgs false

/-! ### how long spreading goes on -/
def allLits : List Int := (List.range 64).map (fun (k : Nat) => (k : Int) + 1) ++ (List.range 64).map (fun (k : Nat) => -((k : Int) + 1))
theorem mem_allLits {l : Int} (h : IsLit l) : l ∈ allLits := by
  unfold allLits
  rw [List.mem_append, List.mem_map, List.mem_map]
  rcases h with h | h
  · exact .inl ⟨l.toNat - 1, List.mem_range.2 (by omega), by omega⟩
  · exact .inr ⟨(-l).toNat - 1, List.mem_range.2 (by omega), by omega⟩
def sprM (down pending : Key) : Nat := allLits.countP (fun l => !down.has l || pending.has l)
theorem sprM_lt {down pending forced : Key} {p : Int} (ip : IsLit p) (hp : pending.has p = true) (hd : down.has p = true) (hf : ∀ l, forced.has l = true → down.has l = false) :
    sprM (down.un forced) ((pending.wo (single p)).un forced) < sprM down pending := by
  unfold sprM
  refine countP_lt (fun x _ hx => ?_) ⟨p, mem_allLits ip, by rw [hp, Bool.or_true], ?_⟩
  · simp only [has_un, has_wo, Bool.or_eq_true, Bool.not_eq_true', Bool.and_eq_true, Bool.or_eq_false_iff] at hx ⊢
    rcases hx with h | h | h
    · exact .inl h.1
    · exact .inr h.1
    · exact .inl (hf x h)
  · have e : forced.has p = false := by
      cases e : forced.has p with
      | false => rfl
      | true => rw [hf p e] at hd; cases hd
    simp only [has_un, has_wo, hp, hd, e, has_single (isLit_ne ip)]
    simp

/-! ### what spreading gives -/
structure SprPost (es es' : List Ent) (down0 laid d : Key) (c : Bool) : Prop where
  same : sigs es' = sigs es
  rest : ∀ D, (∀ l, D.has l = true → (down0.un laid).has l = true) → Rest es D → Rest es' D
  conf : c = true → ∀ M, Cons M → HasP (down0.un laid) M → ¬ StableE es M
  spr : c = false → Spr es (down0.un laid) es' d (0, 0)
theorem SprPost.clash {es : List Ent} {down0 laid d : Key} (h : clashB (down0.un laid) = true) : SprPost es es down0 laid d true where
  same := rfl
  rest := fun D _ h => h
  conf := fun _ M hM hb hs => by
    obtain ⟨l, h1, h2⟩ := (clashB_iff _).1 h
    exact hM l (hb l h1) (hb _ h2)
  spr := fun h => by cases h
theorem Spr.rest {es0 es : List Ent} {base down : Key} (h : Spr es0 base es down (0, 0)) : Rest es down := fun j hj ht hs => by
  rcases h.watch j hj ht hs with hm | hw
  · exact .inl hm
  · refine .inr fun l hl => ?_
    cases e : down.has (-l) with
    | false => rfl
    | true => have := hw l hl e; rw [has_empty] at this; cases this
/-- on the way -/
structure SprAt (es0 es : List Ent) (wl : Nat → List Nat) (down0 laid down pending : Key) : Prop where
  spr : Spr es0 (down0.un laid) es down pending
  winv : WInv es wl
  rest : ∀ D, (∀ l, D.has l = true → (down0.un laid).has l = true) → Rest es0 D → Rest es D
theorem SprAt.start {es : List Ent} {wl : Nat → List Nat} {down0 laid : Key} (hr : Rest es down0) (hW : WInv es wl) (hd : down0.ok) (hl : laid.ok) (hc : clashB (down0.un laid) = false) : SprAt es es wl down0 laid (down0.un laid) (laid.wo down0) :=
  ⟨Spr.start hr hd hl (clashB_no.1 hc), hW, fun D _ h => h⟩
theorem SprAt.step {es0 es es' : List Ent} {wl wl' : Nat → List Nat} {down0 laid down pending forced : Key} {p : Int} (h : SprAt es0 es wl down0 laid down pending) (hp : pending.has p = true) (hp0 : p ≠ 0) (F : FalsPost es es' (-p) down forced false) (hW : WInv es' wl') :
    SprAt es0 es' wl' down0 laid (down.un forced) ((pending.wo (single p)).un forced) :=
  ⟨h.spr.step hp hp0 F, hW, fun D hD hr => rest_step (h.rest D hD hr) (fun l hl => h.spr.inc l (hD l hl)) F⟩
theorem SprAt.confl {es0 es es' : List Ent} {wl : Nat → List Nat} {down0 laid down pending forced d : Key} {lit : Int} (h : SprAt es0 es wl down0 laid down pending) (F : FalsPost es es' lit down forced true) :
    SprPost es0 es' down0 laid d true where
  same := F.same.trans h.spr.same
  rest := fun D hD hr => rest_step (h.rest D hD hr) (fun l hl => h.spr.inc l (hD l hl)) F
  conf := fun _ => h.spr.conflict F
  spr := fun h => by cases h
theorem SprAt.done {es0 es : List Ent} {wl : Nat → List Nat} {down0 laid down : Key} (h : SprAt es0 es wl down0 laid down (0, 0)) : SprPost es0 es down0 laid down false where
  same := h.spr.same
  rest := h.rest
  conf := fun h => by cases h
  spr := fun _ => h.spr

/-! ### the units, the empty clause -/
structure Units (es : List Ent) (u : Key) : Prop where
  ok : u.ok
  iff : ∀ l, IsLit l → (u.has l = true ↔ ∃ e ∈ es, 0 < e.times ∧ e.set = single l)
def NoEmpty (es : List Ent) : Prop := ∀ e ∈ es, 0 < e.times → e.set ≠ (0, 0)
theorem units_in {es : List Ent} {u : Key} (h : Units es u) {M : Int → Prop} (hs : StableE es M) : HasP u M := fun l hl => by
  have il := Key.has_lit h.ok hl
  obtain ⟨e, he, ht, hset⟩ := (h.iff l il).1 hl
  rcases hs e he ht with ⟨x, h1, h2⟩ | ⟨a, b, hab, h1, h2, _, _⟩
  · rw [hset, has_single (isLit_ne il)] at h1
    rw [of_decide_eq_true h1] at h2; exact h2
  · rw [hset, has_single (isLit_ne il)] at h1 h2
    exact absurd ((of_decide_eq_true h1).trans (of_decide_eq_true h2).symm) hab
theorem sigs_mem {es es' : List Ent} (h : sigs es' = sigs es) {e : Ent} (he : e ∈ es') : ∃ e0 ∈ es, e0.set = e.set ∧ e0.times = e.times := by
  have hm : (e.set, e.times) ∈ sigs es := by rw [← h]; exact List.mem_map.2 ⟨e, he, rfl⟩
  obtain ⟨e', he', heq⟩ := List.mem_map.1 hm
  simp only [Prod.mk.injEq] at heq
  exact ⟨e', he', heq⟩
/-- no conflict: what is down is at rest -/
theorem SprPost.stable {es es' : List Ent} {wl' : Nat → List Nat} {down0 laid d u : Key} (P : SprPost es es' down0 laid d false) (hW : WInv es' wl') (hU : Units es u) (hn : NoEmpty es) (hu : ∀ l, u.has l = true → (down0.un laid).has l = true) :
    StableE es (fun l => d.has l = true) := by
  have S := P.spr rfl
  refine S.finish hW.wtwo hW.ok (fun e he ht hs => ?_) (fun e he ht hs => ?_)
  · obtain ⟨e0, he0, h1, h2⟩ := sigs_mem P.same he
    obtain ⟨l, il, hl⟩ := size_one (hW.ok e he) hs
    refine ⟨l, by rw [hl, has_single (isLit_ne il)]; simp, S.inc l (hu l ((hU.iff l il).2 ⟨e0, he0, by rw [h2]; exact ht, by rw [h1, hl]⟩))⟩
  · obtain ⟨e0, he0, h1, h2⟩ := sigs_mem P.same he
    exact hn e0 he0 (by rw [h2]; exact ht) (by rw [h1]; exact size_zero (hW.ok e he) hs)
theorem SprPost.iff {es es' : List Ent} {wl' : Nat → List Nat} {down0 laid d u : Key} {c : Bool} (P : SprPost es es' down0 laid d c) (hW : WInv es' wl') (hU : Units es u) (hn : NoEmpty es) (hu : ∀ l, u.has l = true → (down0.un laid).has l = true) :
    c = true ↔ ∀ M, Cons M → HasP (down0.un laid) M → ¬ StableE es M := by
  refine ⟨P.conf, fun h => ?_⟩
  cases c with
  | true => rfl
  | false =>
    have S := P.spr rfl
    exact absurd (P.stable hW hU hn hu) (h _ (noClash_cons S.nocl) (fun l hl => S.inc l hl))

/-! ### right additions -/
theorem mem_opp {c : Cl} {but x : Int} : x ∈ opp c but ↔ -x ∈ c ∧ -x ≠ but := by
  unfold opp
  rw [List.mem_map]
  constructor
  · rintro ⟨y, hy, rfl⟩
    rw [List.mem_filter] at hy
    simp only [Int.neg_neg]
    exact ⟨hy.1, by have := hy.2; simpa using this⟩
  · rintro ⟨h1, h2⟩
    exact ⟨-x, List.mem_filter.2 ⟨h1, by simpa using h2⟩, by omega⟩
theorem has_opSet {c : Cl} (hc : ∀ l ∈ c, In50 l) (x : Int) : (setOf c).op.has x = true ↔ x ∈ opp c 0 := by
  rw [has_op, has_setOf (fun l hl => in50_ne (hc l hl)), decide_eq_true_eq, mem_opp]
  exact ⟨fun h => ⟨h, in50_ne (hc _ h)⟩, fun h => h.1⟩
theorem has_opSet' {D : Cl} (hD : ∀ l ∈ D, In50 l) {l : Int} (hl : l ≠ 0) (x : Int) : ((setOf D).wo (single (-l))).op.has x = true ↔ x ∈ opp D (-l) := by
  rw [has_op, has_wo, has_setOf (fun l hl => in50_ne (hD l hl)), has_single (by omega), mem_opp]
  simp
theorem rup_iff {es es' : List Ent} {wl' : Nat → List Nat} {L : List Cl} {u d : Key} {b : Bool} {c : Cl} (R : Rep es L) (hc : ∀ l ∈ c, In50 l) (P : SprPost es es' (0, 0) (u.un (setOf c).op) d b) (hW : WInv es' wl') (hU : Units es u) (hn : NoEmpty es) :
    b = true ↔ Conf L (opp c 0) := by
  rw [P.iff hW hU hn (fun l hl => by rw [has_un, has_un, hl]; simp), R.conf]
  constructor
  · intro h M hM hl hs
    refine h M hM (fun l hb => ?_) hs
    rw [has_un, has_empty, Bool.false_or, has_un, Bool.or_eq_true] at hb
    rcases hb with hb | hb
    · exact units_in hU hs l hb
    · exact hl l ((has_opSet hc l).1 hb)
  · intro h M hM hb hs
    exact h M hM (fun l hl => hb l (by rw [has_un, has_un, (has_opSet hc l).2 hl]; simp)) hs
/-- one clause with the opposite of the first literal -/
theorem rat_iff {es es' : List Ent} {L : List Cl} {u d : Key} {c D : Cl} {l : Int} (R : Rep es L) (hc : ∀ l ∈ c, In50 l) (hl : l ≠ 0) (P : SprPost es es' (0, 0) (u.un (setOf c).op) d false) (hU : Units es u) (hD : D ∈ L) :
    (∀ M, Cons M → HasP (d.un ((setOf D).wo (single (-l))).op) M → ¬ StableE es M) ↔ Conf L (opp c 0 ++ opp D (-l)) := by
  have S := P.spr rfl
  have hD50 := R.lits D hD
  rw [R.conf]
  constructor
  · intro h M hM hls hs
    refine h M hM (fun x hx => ?_) hs
    rw [has_un, Bool.or_eq_true] at hx
    rcases hx with hx | hx
    · refine S.under M hM (fun y hy => ?_) hs x hx
      rw [has_un, has_empty, Bool.false_or, has_un, Bool.or_eq_true] at hy
      rcases hy with hy | hy
      · exact units_in hU hs y hy
      · exact hls y (List.mem_append_left _ ((has_opSet hc y).1 hy))
    · exact hls x (List.mem_append_right _ ((has_opSet' hD50 hl x).1 hx))
  · intro h M hM hb hs
    refine h M hM (fun x hx => hb x ?_) hs
    rw [has_un, Bool.or_eq_true]
    rcases List.mem_append.1 hx with hx | hx
    · exact .inl (S.inc x (by rw [has_un, has_un, (has_opSet hc x).2 hx]; simp))
    · exact .inr ((has_opSet' hD50 hl x).2 hx)
/-- an entry that has the opposite of the first literal comes to a conflict -/
def RatOk (es : List Ent) (d : Key) (l : Int) (e : Ent) : Prop := 0 < e.times → e.set.has (-l) = true → ∀ M, Cons M → HasP (d.un (e.set.wo (single (-l))).op) M → ¬ StableE es M
theorem rat_all {es es' : List Ent} {L : List Cl} {u d : Key} {c : Cl} {l : Int} (R : Rep es L) (hc : ∀ l ∈ c, In50 l) (hl : l ≠ 0) (P : SprPost es es' (0, 0) (u.un (setOf c).op) d false) (hU : Units es u) :
    (∀ e ∈ es, RatOk es d l e) ↔ ∀ D ∈ L, -l ∈ D → Conf L (opp c 0 ++ opp D (-l)) := by
  constructor
  · intro h D hD hm
    obtain ⟨e, he, ht, hs⟩ := R.from' D hD
    rw [← rat_iff R hc hl P hU hD, ← hs]
    exact h e he ht (by rw [hs, R.has hD]; exact hm)
  · intro h e he ht hm
    obtain ⟨D, hD, hs⟩ := R.ofE e he ht
    rw [← hs] at hm ⊢
    rw [R.has hD] at hm
    exact (rat_iff R hc hl P hU hD).2 (h D hD hm)
theorem conf_empty {es : List Ent} {L : List Cl} (R : Rep es L) (h : ¬ NoEmpty es) (ls : List Int) : Conf L ls := by
  rw [R.conf]
  intro M _ _ hs
  refine h fun e he ht h0 => ?_
  rcases hs e he ht with ⟨x, h1, _⟩ | ⟨a, b, _, h1, _⟩
  · rw [h0, has_empty] at h1; cases h1
  · rw [h0, has_empty] at h1; cases h1
end Rd
end Go.Proofs.YtceahffmenbibaaGreatDoor

namespace Go.Proofs.YtceahffmenbibaaGreatDoor
namespace Rd
set_option linter.unusedVariables false
set_option linter.unusedSimpArgs false

theorem look_none {es : List Ent} {s : Key} : look es s = none ↔ ∀ e ∈ es, e.set ≠ s := by
  unfold look
  rw [List.findIdx?_eq_none_iff]
  constructor
  · intro h e he; have := h e he; simpa using this
  · intro h e he; simpa using h e he
structure SInv (es : List Ent) (wl : Nat → List Nat) (u : Key) (L : List Cl) : Prop where
  winv : WInv es wl
  dist : (es.map Ent.set).Nodup
  cnt : ∀ e ∈ es, e.times = L.countP (fun d => decide (setOf d = e.set))
  all : ∀ d ∈ L, ∃ e ∈ es, e.set = setOf d
  lits : ∀ c ∈ L, ∀ l ∈ c, In50 l
  units : Units es u
variable {es es' : List Ent} {wl wl' : Nat → List Nat} {u : Key} {L : List Cl} {c : Cl}

theorem SInv.rep (h : SInv es wl u L) : Rep es L where
  ofE := fun e he ht => by
    rw [h.cnt e he] at ht
    obtain ⟨d, hd, hs⟩ := List.countP_pos_iff.1 ht
    exact ⟨d, hd, of_decide_eq_true hs⟩
  from' := fun d hd => by
    obtain ⟨e, he, hs⟩ := h.all d hd
    refine ⟨e, he, ?_, hs⟩
    rw [h.cnt e he]
    exact List.countP_pos_iff.2 ⟨d, hd, by rw [hs]; simp⟩
  lits := h.lits
theorem units_sigs (h : sigs es' = sigs es) (hU : Units es u) : Units es' u := ⟨hU.ok, fun l il => by
  rw [hU.iff l il]
  constructor
  · rintro ⟨e, he, h1, h2⟩
    obtain ⟨e', he', e1, e2⟩ := sigs_mem h.symm he
    exact ⟨e', he', by rw [e2]; exact h1, by rw [e1]; exact h2⟩
  · rintro ⟨e, he, h1, h2⟩
    obtain ⟨e', he', e1, e2⟩ := sigs_mem h he
    exact ⟨e', he', by rw [e2]; exact h1, by rw [e1]; exact h2⟩⟩
theorem sets_sigs (es : List Ent) : es.map Ent.set = (sigs es).map Prod.fst := by unfold sigs; rw [List.map_map]; rfl
theorem SInv.same (h : SInv es wl u L) (hs : sigs es' = sigs es) (hW : WInv es' wl') : SInv es' wl' u L where
  winv := hW
  dist := by rw [sets_sigs, hs, ← sets_sigs]; exact h.dist
  cnt := fun e he => by
    obtain ⟨e', he', e1, e2⟩ := sigs_mem hs he
    rw [← e2, ← e1]; exact h.cnt e' he'
  all := fun d hd => by
    obtain ⟨e, he, h1⟩ := h.all d hd
    obtain ⟨e', he', e1, e2⟩ := sigs_mem hs.symm he
    exact ⟨e', he', by rw [e1]; exact h1⟩
  lits := h.lits
  units := units_sigs hs h.units
/-! ### where a set lies -/
theorem dist_at (h : (es.map Ent.set).Nodup) {i j : Nat} (hi : i < es.length) (hj : j < es.length) (e : (es[i]).set = (es[j]).set) : i = j := by
  have h1 : (es.map Ent.set)[i]'(by simpa using hi) = (es.map Ent.set)[j]'(by simpa using hj) := by simpa using e
  exact (List.getElem_inj h).1 h1
theorem look_at (h : (es.map Ent.set).Nodup) {i : Nat} (hi : i < es.length) : look es (es[i]).set = some i := by
  cases e : look es (es[i]).set with
  | none => exact absurd rfl (look_none.1 e _ (List.getElem_mem hi))
  | some j =>
    obtain ⟨hj, hs⟩ := look_some e
    rw [dist_at h hj hi hs]
theorem there_iff (h : (es.map Ent.set).Nodup) (s : Key) : there es s = true ↔ ∃ e ∈ es, 0 < e.times ∧ e.set = s := by
  unfold there
  constructor
  · intro ht
    cases e : look es s with
    | none => rw [e] at ht; cases ht
    | some i =>
      rw [e] at ht
      obtain ⟨hi, hs⟩ := look_some e
      simp only [List.getElem?_eq_getElem hi] at ht
      exact ⟨_, List.getElem_mem hi, of_decide_eq_true ht, hs⟩
  · rintro ⟨e, he, ht, hs⟩
    obtain ⟨i, hi, rfl⟩ := List.mem_iff_getElem.1 he
    rw [← hs, look_at h hi]
    simp only [List.getElem?_eq_getElem hi]
    exact decide_eq_true ht
theorem there_empty (h : (es.map Ent.set).Nodup) : there es (0, 0) = false ↔ NoEmpty es := by
  rw [← Bool.not_eq_true, there_iff h]
  constructor
  · intro hn e he ht h0; exact hn ⟨e, he, ht, h0⟩
  · rintro hn ⟨e, he, ht, h0⟩; exact hn e he ht h0

/-! ### a clause that is new -/
theorem bL_spec {s : Key} (hs : s.ok) (h : 2 ≤ s.size) : IsLit (aL s) ∧ IsLit (bL s) ∧ aL s ≠ bL s ∧ s.has (aL s) = true ∧ s.has (bL s) = true := by
  have h0 : s ≠ (0, 0) := by
    obtain ⟨a, b, _, ha, _⟩ := size_two hs h
    exact (nonempty_iff s).2 ⟨a, ha⟩
  obtain ⟨_, p2, p3⟩ := oneL_spec hs h0
  obtain ⟨_, q2, q3⟩ := oneL_spec (wo_ok hs _) (size_two_wo hs h (isLit_ne p3))
  rw [has_wo, Bool.and_eq_true, Bool.not_eq_true', has_single (isLit_ne p3)] at q2
  exact ⟨p3, q3, fun e => by have := q2.2; unfold aL bL at e; rw [← e] at this; simp at this, p2, q2.1⟩
theorem enterW_at {wl : Nat → List Nat} {s : Key} {n : Nat} (hs : s.ok) (h : 2 ≤ s.size) (k : Nat) : enterW wl s n k = if k = place (aL s) ∨ k = place (bL s) then wl k ++ [n] else wl k := by
  obtain ⟨ia, ib, hab, _, _⟩ := bL_spec hs h
  have hp : place (bL s) ≠ place (aL s) := fun e => hab (place_inj ia ib e.symm)
  unfold enterW
  rw [if_pos h]
  simp only [hp, if_false]
  by_cases h1 : k = place (bL s)
  · rw [if_pos h1, if_pos (.inr h1), h1]
  · rw [if_neg h1]
    by_cases h2 : k = place (aL s)
    · rw [if_pos h2, if_pos (.inl h2), h2]
    · rw [if_neg h2, if_neg (by rintro (h | h); exact h2 h; exact h1 h)]
theorem enterE_set (s : Key) : (enterE s).set = s := by unfold enterE; dsimp only
theorem WInv.enterG (h : WInv es wl) {s : Key} {E : Ent} (hs : s.ok) (hE1 : E.set = s) (hE2 : E.watched = (enterE s).watched) : WInv (es ++ [E]) (enterW wl s es.length) := by
  have get : ∀ j (hj : j < (es ++ [E]).length), (∃ h0 : j < es.length, (es ++ [E])[j] = es[j]) ∨ (j = es.length ∧ (es ++ [E])[j] = E) := fun j hj => by
    rcases Nat.lt_or_ge j es.length with h0 | h0
    · exact .inl ⟨h0, List.getElem_append_left h0⟩
    · have : j = es.length := by simp at hj; omega
      subst this
      exact .inr ⟨rfl, by simp⟩
  have sub : ∀ k x, x ∈ wl k → x ∈ enterW wl s es.length k := fun k x hx => by
    by_cases hz : 2 ≤ s.size
    · rw [enterW_at hs hz]; split
      · exact List.mem_append_left _ hx
      · exact hx
    · unfold enterW; rw [if_neg hz]; exact hx
  exact {
    two := fun j hj hz => by
      rcases get j hj with ⟨h0, e⟩ | ⟨rfl, e⟩
      · rw [e] at hz ⊢
        obtain ⟨a, b, h1, h2, h3, h4, h5, h6, h7, h8⟩ := h.two j h0 hz
        exact ⟨a, b, h1, h2, h3, h4, h5, h6, sub _ _ h7, sub _ _ h8⟩
      · rw [e] at hz ⊢
        have hz' : 2 ≤ s.size := by rw [hE1] at hz; exact hz
        obtain ⟨ia, ib, hab, ha, hb⟩ := bL_spec hs hz'
        refine ⟨aL s, bL s, hab, ia, ib, by rw [hE1]; exact ha, by rw [hE1]; exact hb, ?_, ?_, ?_⟩
        · rw [hE2]
          unfold enterE; simp only [if_pos hz']
        · rw [enterW_at hs hz', if_pos (.inl rfl)]; simp
        · rw [enterW_at hs hz', if_pos (.inr rfl)]; simp
    one := fun j hj hz => by
      rcases get j hj with ⟨h0, e⟩ | ⟨rfl, e⟩
      · rw [e] at hz ⊢; exact h.one j h0 hz
      · rw [e] at hz ⊢
        have hz' : ¬ 2 ≤ s.size := by rw [hE1] at hz; exact hz
        rw [hE2]
        unfold enterE; simp only [if_neg hz']
    lists := fun k hk j hj => by
      have old : j ∈ wl k → ∃ h : j < (es ++ [E]).length, 2 ≤ ((es ++ [E])[j]).set.size ∧ ∃ l, IsLit l ∧ place l = k ∧ ((es ++ [E])[j]).watched.has l = true := fun hj => by
        obtain ⟨h0, h1, l, h2, h3, h4⟩ := h.lists k hk j hj
        refine ⟨by simp; omega, ?_⟩
        rw [List.getElem_append_left h0]
        exact ⟨h1, l, h2, h3, h4⟩
      by_cases hz : 2 ≤ s.size
      · rw [enterW_at hs hz] at hj
        split at hj
        · rename_i hk'
          rcases List.mem_append.1 hj with hj | hj
          · exact old hj
          · obtain rfl : j = es.length := by simpa using hj
            obtain ⟨ia, ib, hab, ha, hb⟩ := bL_spec hs hz
            refine ⟨by simp, ?_⟩
            rw [show (es ++ [E])[es.length]'(by simp) = E by simp]
            refine ⟨by rw [hE1]; exact hz, ?_⟩
            have hw : E.watched = (single (aL s)).un (single (bL s)) := by
              rw [hE2]
              unfold enterE; simp only [if_pos hz]
            rcases hk' with e | e
            · exact ⟨aL s, ia, e.symm, by rw [hw, has_un, has_single (isLit_ne ia)]; simp⟩
            · exact ⟨bL s, ib, e.symm, by rw [hw, has_un, has_single (isLit_ne ib)]; simp⟩
        · exact old hj
      · unfold enterW at hj; rw [if_neg hz] at hj; exact old hj
    nodup := fun k hk => by
      by_cases hz : 2 ≤ s.size
      · rw [enterW_at hs hz]
        split
        · rw [List.nodup_append]
          refine ⟨h.nodup k hk, by simp, fun a ha b hb e => ?_⟩
          obtain ⟨h0, _⟩ := h.lists k hk a ha
          have : b = es.length := by simpa using hb
          omega
        · exact h.nodup k hk
      · unfold enterW; rw [if_neg hz]; exact h.nodup k hk
    ok := fun e he => by
      rcases List.mem_append.1 he with he | he
      · exact h.ok e he
      · obtain rfl : e = E := by simpa using he
        rw [hE1]; exact hs }
theorem WInv.enter (h : WInv es wl) {s : Key} (hs : s.ok) (t : Nat) : WInv (es ++ [{ enterE s with times := t }]) (enterW wl s es.length) := by
  refine h.enterG hs ?_ ?_
  · dsimp only; exact enterE_set s
  · dsimp only
theorem nodup_snoc {s : Key} (h : (es.map Ent.set).Nodup) (hn : look es s = none) (t : Nat) : ((es ++ [{ enterE s with times := t }]).map Ent.set).Nodup := by
  rw [List.map_append, List.nodup_append]
  refine ⟨h, by simp, fun a ha b hb e => ?_⟩
  obtain ⟨x, hx, rfl⟩ := List.mem_map.1 ha
  have : b = s := by simpa [enterE] using hb
  exact look_none.1 hn x hx (by rw [e, this])
theorem mod_at (es : List Ent) (i : Nat) (f : Ent → Ent) {e : Ent} (he : e ∈ es.modify i f) : (∃ j, ∃ hj : j < es.length, j ≠ i ∧ e = es[j]) ∨ ∃ hi : i < es.length, e = f es[i] := by
  obtain ⟨j, hj, rfl⟩ := List.mem_iff_getElem.1 he
  rw [List.length_modify] at hj
  rw [List.getElem_modify]
  split
  · rename_i h; subst h; exact .inr ⟨hj, rfl⟩
  · rename_i h; exact .inl ⟨j, hj, fun e => h e.symm, rfl⟩
theorem mem_mod_other (es : List Ent) (i : Nat) (f : Ent → Ent) {j : Nat} (hj : j < es.length) (hne : j ≠ i) : es[j] ∈ es.modify i f := by
  refine List.mem_iff_getElem.2 ⟨j, by rw [List.length_modify]; exact hj, ?_⟩
  rw [List.getElem_modify, if_neg (fun e => hne e.symm)]
theorem mem_mod_self (es : List Ent) (i : Nat) (f : Ent → Ent) (hi : i < es.length) : f es[i] ∈ es.modify i f := by
  refine List.mem_iff_getElem.2 ⟨i, by rw [List.length_modify]; exact hi, ?_⟩
  rw [List.getElem_modify, if_pos rfl]
/-- only how often a clause is there has turned -/
theorem WInv.times (h : WInv es wl) (hl : es'.length = es.length) (hg : ∀ j (h : j < es.length) (h' : j < es'.length), (es'[j]).set = (es[j]).set ∧ (es'[j]).watched = (es[j]).watched) : WInv es' wl where
  two := fun j hj hz => by
    obtain ⟨e1, e2⟩ := hg j (by omega) hj
    rw [e1] at hz ⊢; rw [e2]
    exact h.two j (by omega) hz
  one := fun j hj hz => by
    obtain ⟨e1, e2⟩ := hg j (by omega) hj
    rw [e1] at hz; rw [e2]
    exact h.one j (by omega) hz
  lists := fun k hk j hj => by
    obtain ⟨h0, h1, h2⟩ := h.lists k hk j hj
    obtain ⟨e1, e2⟩ := hg j h0 (by omega)
    exact ⟨by omega, by rw [e1]; exact h1, by rw [e2]; exact h2⟩
  nodup := h.nodup
  ok := fun e he => by
    obtain ⟨j, hj, rfl⟩ := List.mem_iff_getElem.1 he
    rw [(hg j (by omega) hj).1]
    exact h.ok _ (List.getElem_mem _)
theorem WInv.modT (h : WInv es wl) (i : Nat) (f : Nat → Nat) : WInv (es.modify i (fun e => { e with times := f e.times })) wl := by
  refine h.times (by simp) fun j h0 h' => ?_
  rw [List.getElem_modify]
  split <;> exact ⟨rfl, rfl⟩
theorem dist_modT (i : Nat) (f : Nat → Nat) : (es.modify i (fun e => { e with times := f e.times })).map Ent.set = es.map Ent.set := by
  refine List.ext_getElem? fun j => ?_
  rw [List.getElem?_map, List.getElem?_map, List.getElem?_modify]
  split <;> cases es[j]? <;> rfl
theorem setOf_lit (hc : ∀ l ∈ c, In50 l) : (setOf c).ok := setOf_ok fun l hl => in50_lit (hc l hl)
theorem cnt_snoc (L : List Cl) (c : Cl) (s : Key) : (L ++ [c]).countP (fun d => decide (setOf d = s)) = L.countP (fun d => decide (setOf d = s)) + (if setOf c = s then 1 else 0) := by
  rw [List.countP_append]
  congr 1
  by_cases h : setOf c = s <;> simp [h]
theorem single_size {l : Int} (h : IsLit l) : (single l).size = 1 := by
  rcases Nat.lt_trichotomy (single l).size 1 with h1 | h1 | h1
  · have := size_zero (single_ok h) (by omega)
    have h2 : (single l).has l = true := by rw [has_single (isLit_ne h)]; simp
    rw [this, has_empty] at h2; cases h2
  · exact h1
  · obtain ⟨a, b, hab, ha, hb⟩ := size_two (single_ok h) h1
    rw [has_single (isLit_ne h)] at ha hb
    exact absurd ((of_decide_eq_true ha).trans (of_decide_eq_true hb).symm) hab
theorem single_inj' {a b : Int} (ha : IsLit a) (hb : IsLit b) (h : single a = single b) : a = b := by
  have h2 : (single a).has a = true := by rw [has_single (isLit_ne ha)]; simp
  rw [h, has_single (isLit_ne hb)] at h2
  exact of_decide_eq_true h2
/-- one clause more -/
theorem SInv.add (h : SInv es wl u L) (hc : ∀ l ∈ c, In50 l) : SInv (addE es (setOf c)) (addW es wl (setOf c)) (if (setOf c).size = 1 then u.un (setOf c) else u) (L ++ [c]) := by
  have sok := setOf_lit hc
  have lits' : ∀ d ∈ L ++ [c], ∀ l ∈ d, In50 l := fun d hd => by
    rcases List.mem_append.1 hd with hd | hd
    · exact h.lits d hd
    · obtain rfl : d = c := by simpa using hd
      exact hc
  -- the units: entries that are there turn by the new one alone
  have un : ∀ es2 : List Ent, (∀ s, (∃ e ∈ es2, 0 < e.times ∧ e.set = s) ↔ (∃ e ∈ es, 0 < e.times ∧ e.set = s) ∨ s = setOf c) → Units es2 (if (setOf c).size = 1 then u.un (setOf c) else u) := fun es2 hx => by
    refine ⟨?_, fun l il => ?_⟩
    · split
      · exact un_ok h.units.ok sok
      · exact h.units.ok
    · rw [hx, ← h.units.iff l il]
      split
      · rename_i h1
        obtain ⟨m, im, hm⟩ := size_one sok h1
        rw [has_un, Bool.or_eq_true]
        constructor
        · rintro (h2 | h2)
          · exact .inl h2
          · rw [hm, has_single (isLit_ne im)] at h2
            rw [of_decide_eq_true h2]; exact .inr hm.symm
        · rintro (h2 | h2)
          · exact .inl h2
          · exact .inr (by rw [← h2, has_single (isLit_ne il)]; simp)
      · rename_i h1
        constructor
        · exact .inl
        · rintro (h2 | h2)
          · exact h2
          · exact absurd (by rw [← h2]; exact single_size il) h1
  cases hl : look es (setOf c) with
  | none =>
    have e1 : addE es (setOf c) = es ++ [{ enterE (setOf c) with times := 1 }] := by unfold addE; rw [hl]
    have e2 : addW es wl (setOf c) = enterW wl (setOf c) es.length := by unfold addW; rw [hl]
    rw [e1, e2]
    have hno := look_none.1 hl
    exact {
      winv := h.winv.enter sok 1
      dist := nodup_snoc h.dist hl 1
      cnt := fun e he => by
        rw [cnt_snoc]
        rcases List.mem_append.1 he with he | he
        · rw [if_neg (fun h => hno e he h.symm), h.cnt e he]; rfl
        · obtain rfl : e = _ := by simpa using he
          show 1 = L.countP (fun d => decide (setOf d = setOf c)) + (if setOf c = setOf c then 1 else 0)
          rw [if_pos rfl]
          have : L.countP (fun d => decide (setOf d = setOf c)) = 0 := by
            rw [List.countP_eq_zero]
            intro d hd hs
            obtain ⟨e, he, h1⟩ := h.all d hd
            exact hno e he (h1.trans (of_decide_eq_true hs))
          omega
      all := fun d hd => by
        rcases List.mem_append.1 hd with hd | hd
        · obtain ⟨e, he, h1⟩ := h.all d hd
          exact ⟨e, List.mem_append_left _ he, h1⟩
        · obtain rfl : d = c := by simpa using hd
          exact ⟨_, List.mem_append_right _ (List.mem_singleton.2 rfl), rfl⟩
      lits := lits'
      units := un _ fun s => by
        constructor
        · rintro ⟨e, he, ht, hs⟩
          rcases List.mem_append.1 he with he | he
          · exact .inl ⟨e, he, ht, hs⟩
          · obtain rfl : e = _ := by simpa using he
            exact .inr hs.symm
        · rintro (⟨e, he, ht, hs⟩ | rfl)
          · exact ⟨e, List.mem_append_left _ he, ht, hs⟩
          · exact ⟨_, List.mem_append_right _ (List.mem_singleton.2 rfl), Nat.one_pos, rfl⟩ }
  | some i =>
    have e1 : addE es (setOf c) = es.modify i (fun e => { e with times := e.times + 1 }) := by unfold addE; rw [hl]
    have e2 : addW es wl (setOf c) = wl := by unfold addW; rw [hl]
    rw [e1, e2]
    obtain ⟨hi, hs⟩ := look_some hl
    exact {
      winv := h.winv.modT i (· + 1)
      dist := by rw [dist_modT i (· + 1)]; exact h.dist
      cnt := fun e he => by
        rw [cnt_snoc]
        rcases mod_at es i _ he with ⟨j, hj, hne, rfl⟩ | ⟨_, rfl⟩
        · rw [if_neg (fun h2 => hne (dist_at h.dist hj hi (by rw [hs]; exact h2.symm))), h.cnt _ (List.getElem_mem hj)]; rfl
        · show (es[i]).times + 1 = L.countP (fun d => decide (setOf d = (es[i]).set)) + (if setOf c = (es[i]).set then 1 else 0)
          rw [if_pos hs.symm, h.cnt _ (List.getElem_mem hi)]
      all := fun d hd => by
        have key : ∀ s, (∃ e ∈ es, e.set = s) → ∃ e ∈ es.modify i (fun e => { e with times := e.times + 1 }), e.set = s := by
          rintro s ⟨e, he, h1⟩
          obtain ⟨j, hj, rfl⟩ := List.mem_iff_getElem.1 he
          by_cases e : j = i
          · subst e; exact ⟨_, mem_mod_self es j _ hj, h1⟩
          · exact ⟨_, mem_mod_other es i _ hj e, h1⟩
        rcases List.mem_append.1 hd with hd | hd
        · exact key _ (h.all d hd)
        · obtain rfl : d = c := by simpa using hd
          exact key _ ⟨_, List.getElem_mem hi, hs⟩
      lits := lits'
      units := un _ fun s => by
        constructor
        · rintro ⟨e, he, ht, h1⟩
          rcases mod_at es i _ he with ⟨j, hj, hne, rfl⟩ | ⟨_, rfl⟩
          · exact .inl ⟨_, List.getElem_mem hj, ht, h1⟩
          · exact .inr (by rw [← h1]; exact hs)
        · rintro (⟨e, he, ht, h1⟩ | rfl)
          · obtain ⟨j, hj, rfl⟩ := List.mem_iff_getElem.1 he
            by_cases e : j = i
            · subst e; exact ⟨_, mem_mod_self es j _ hj, Nat.succ_pos _, h1⟩
            · exact ⟨_, mem_mod_other es i _ hj e, ht, h1⟩
          · exact ⟨_, mem_mod_self es i _ hi, Nat.succ_pos _, hs⟩ }

/-! ### one clause less -/
theorem sameB_iff {d : Cl} (hd : ∀ l ∈ d, In50 l) (hc : ∀ l ∈ c, In50 l) : sameB d c = true ↔ setOf d = setOf c := by
  have h1 := has_setOf (fun l hl => in50_ne (hd l hl))
  have h2 := has_setOf (fun l hl => in50_ne (hc l hl))
  unfold sameB
  rw [Bool.and_eq_true, List.all_eq_true, List.all_eq_true]
  constructor
  · rintro ⟨a, b⟩
    refine key_ext fun x => ?_
    rw [h1, h2]
    apply decide_eq_decide.2
    exact ⟨fun hx => by have := a x hx; simpa using this, fun hx => by have := b x hx; simpa using this⟩
  · intro h
    have key : ∀ x, x ∈ d ↔ x ∈ c := fun x => by
      have : decide (x ∈ d) = decide (x ∈ c) := by rw [← h1, ← h2, h]
      simpa using this
    exact ⟨fun x hx => by simpa using (key x).1 hx, fun x hx => by simpa using (key x).2 hx⟩
theorem remC_none : ∀ {L : List Cl} (hL : ∀ d ∈ L, ∀ l ∈ d, In50 l) (hc : ∀ l ∈ c, In50 l), rem L c = none ↔ ∀ d ∈ L, setOf d ≠ setOf c
  | [], _, _ => by simp [rem]
  | d :: r, hL, hc => by
    have hd := hL d (List.mem_cons_self ..)
    have ih := remC_none (L := r) (fun d hd => hL d (List.mem_cons_of_mem _ hd)) hc
    unfold rem
    by_cases h : sameB d c = true
    · rw [if_pos h]
      simp only [List.mem_cons, reduceCtorEq, false_iff]
      intro hx
      exact hx d (.inl rfl) ((sameB_iff hd hc).1 h)
    · rw [if_neg h, Option.map_eq_none_iff, ih]
      constructor
      · intro hx e he
        rcases List.mem_cons.1 he with rfl | he
        · exact fun e => h ((sameB_iff hd hc).2 e)
        · exact hx e he
      · intro hx e he; exact hx e (List.mem_cons_of_mem _ he)
theorem rem_cnt : ∀ {L L' : List Cl} (hL : ∀ d ∈ L, ∀ l ∈ d, In50 l) (hc : ∀ l ∈ c, In50 l), rem L c = some L' → ∀ s, L.countP (fun d => decide (setOf d = s)) = L'.countP (fun d => decide (setOf d = s)) + (if setOf c = s then 1 else 0)
  | [], L', _, _, h => by simp [rem] at h
  | d :: r, L', hL, hc, h => by
    have hd := hL d (List.mem_cons_self ..)
    have ih := @rem_cnt r
    unfold rem at h
    intro s
    by_cases hs : sameB d c = true
    · rw [if_pos hs] at h
      obtain rfl := Option.some.inj h
      have e := (sameB_iff hd hc).1 hs
      rw [List.countP_cons, e]
      congr 1
      by_cases h2 : setOf c = s <;> simp [h2]
    · rw [if_neg hs] at h
      obtain ⟨r', hr, rfl⟩ := Option.map_eq_some_iff.1 h
      have := ih (fun d hd => hL d (List.mem_cons_of_mem _ hd)) hc hr s
      rw [List.countP_cons, List.countP_cons, this]
      omega
theorem rem_sub : ∀ {L L' : List Cl}, rem L c = some L' → ∀ d ∈ L', d ∈ L
  | [], L', h => by simp [rem] at h
  | d :: r, L', h => by
    unfold rem at h
    split at h
    · obtain rfl := Option.some.inj h
      exact fun x hx => List.mem_cons_of_mem _ hx
    · obtain ⟨r', hr, rfl⟩ := Option.map_eq_some_iff.1 h
      intro x hx
      rcases List.mem_cons.1 hx with rfl | hx
      · exact List.mem_cons_self ..
      · exact List.mem_cons_of_mem _ (rem_sub hr x hx)
theorem SInv.rem_none (h : SInv es wl u L) (hc : ∀ l ∈ c, In50 l) : rem L c = none ↔ there es (setOf c) = false := by
  rw [remC_none h.lits hc, ← Bool.not_eq_true, there_iff h.dist]
  constructor
  · rintro hx ⟨e, he, ht, hs⟩
    obtain ⟨d, hd, h1⟩ := h.rep.ofE e he ht
    exact hx d hd (h1.trans hs)
  · intro hx d hd hs
    obtain ⟨e, he, ht, h1⟩ := h.rep.from' d hd
    exact hx ⟨e, he, ht, h1.trans hs⟩
/-- what is left when a clause is taken away at i -/
theorem SInv.rem (h : SInv es wl u L) (hc : ∀ l ∈ c, In50 l) {L' : List Cl} (hr : rem L c = some L') {i : Nat} (hi : i < es.length) (hs : (es[i]).set = setOf c) :
    SInv (es.modify i (fun e => { e with times := e.times - 1 })) wl (if (es[i]).times = 1 ∧ (setOf c).size = 1 then u.wo (setOf c) else u) L' := by
  have sok := setOf_lit hc
  have hcn := rem_cnt h.lits hc hr
  have hti : (es[i]).times = L'.countP (fun d => decide (setOf d = setOf c)) + 1 := by
    rw [h.cnt _ (List.getElem_mem hi), hs, hcn, if_pos rfl]
  -- which sets are there
  have key : ∀ s, (∃ e ∈ es.modify i (fun e => { e with times := e.times - 1 }), 0 < e.times ∧ e.set = s) ↔ (∃ e ∈ es, 0 < e.times ∧ e.set = s) ∧ ((es[i]).times = 1 → s ≠ setOf c) := fun s => by
    constructor
    · rintro ⟨e, he, ht, h1⟩
      rcases mod_at es i _ he with ⟨j, hj, hne, rfl⟩ | ⟨_, rfl⟩
      · exact ⟨⟨_, List.getElem_mem hj, ht, h1⟩, fun _ e => hne (dist_at h.dist hj hi (by rw [h1, e, hs]))⟩
      · simp only at ht h1
        exact ⟨⟨_, List.getElem_mem hi, by omega, h1⟩, fun e => by omega⟩
    · rintro ⟨⟨e, he, ht, h1⟩, h2⟩
      obtain ⟨j, hj, rfl⟩ := List.mem_iff_getElem.1 he
      by_cases e : j = i
      · subst e
        refine ⟨_, mem_mod_self es j _ hj, ?_, h1⟩
        simp only
        rcases Nat.lt_or_ge 1 (es[j]).times with h3 | h3
        · omega
        · exact absurd (h1.symm.trans hs) (h2 (by omega))
      · exact ⟨_, mem_mod_other es i _ hj e, ht, h1⟩
  exact {
    winv := h.winv.modT i (· - 1)
    dist := by rw [dist_modT i (· - 1)]; exact h.dist
    cnt := fun e he => by
      rcases mod_at es i _ he with ⟨j, hj, hne, rfl⟩ | ⟨_, rfl⟩
      · rw [h.cnt _ (List.getElem_mem hj), hcn, if_neg (fun h2 => hne (dist_at h.dist hj hi (by rw [hs]; exact h2.symm)))]; rfl
      · show (es[i]).times - 1 = L'.countP (fun d => decide (setOf d = (es[i]).set))
        rw [hti, hs]; omega
    all := fun d hd => by
      obtain ⟨e, he, h1⟩ := h.all d (rem_sub hr d hd)
      obtain ⟨j, hj, rfl⟩ := List.mem_iff_getElem.1 he
      by_cases e : j = i
      · subst e; exact ⟨_, mem_mod_self es j _ hj, h1⟩
      · exact ⟨_, mem_mod_other es i _ hj e, h1⟩
    lits := fun d hd => h.lits d (rem_sub hr d hd)
    units := by
      refine ⟨?_, fun l il => ?_⟩
      · split
        · exact wo_ok h.units.ok _
        · exact h.units.ok
      · rw [key, ← h.units.iff l il]
        split
        · rename_i h1
          obtain ⟨m, im, hm⟩ := size_one sok h1.2
          rw [has_wo, Bool.and_eq_true, Bool.not_eq_true', hm, has_single (isLit_ne im)]
          refine and_congr_right fun _ => ?_
          constructor
          · intro h2 _ h3
            have := single_inj' il im h3
            rw [this] at h2; simp at h2
          · intro h2
            have := h2 h1.1
            exact decide_eq_false fun e => this (by rw [e])
        · rename_i h1
          constructor
          · intro h2
            refine ⟨h2, fun h3 h4 => h1 ⟨h3, by rw [← h4]; exact single_size il⟩⟩
          · exact fun h2 => h2.1 }

/-! ### the store made anew -/
theorem sigs_snoc (es : List Ent) (e : Ent) : sigs (es ++ [e]) = sigs es ++ [(e.set, e.times)] := by unfold sigs; simp
theorem mem_sigs {e : Ent} (he : e ∈ es) : (e.set, e.times) ∈ sigs es := List.mem_map.2 ⟨e, he, rfl⟩
theorem of_sigs {p : Key × Nat} (hp : p ∈ sigs es) : ∃ e ∈ es, e.set = p.1 ∧ e.times = p.2 := by
  obtain ⟨e, he, rfl⟩ := List.mem_map.1 hp
  exact ⟨e, he, rfl, rfl⟩
theorem SInv.anew (h : SInv es wl u L) (hs : sigs es' = (sigs es).filter (fun p => decide (0 < p.2))) (hW : WInv es' wl') : SInv es' wl' u L := by
  have old : ∀ e ∈ es', ∃ e0 ∈ es, e0.set = e.set ∧ e0.times = e.times ∧ 0 < e.times := fun e he => by
    have := mem_sigs he
    rw [hs, List.mem_filter] at this
    obtain ⟨e0, he0, h1, h2⟩ := of_sigs this.1
    exact ⟨e0, he0, h1, h2, of_decide_eq_true this.2⟩
  have new : ∀ e ∈ es, 0 < e.times → ∃ e0 ∈ es', e0.set = e.set ∧ e0.times = e.times := fun e he ht => by
    have : (e.set, e.times) ∈ sigs es' := by rw [hs, List.mem_filter]; exact ⟨mem_sigs he, decide_eq_true ht⟩
    exact of_sigs this
  exact {
    winv := hW
    dist := by
      rw [sets_sigs, hs]
      have : ((sigs es).filter (fun p => decide (0 < p.2))).Sublist (sigs es) := List.filter_sublist
      refine (this.map Prod.fst).nodup ?_
      rw [← sets_sigs]; exact h.dist
    cnt := fun e he => by
      obtain ⟨e0, he0, h1, h2, _⟩ := old e he
      rw [← h2, ← h1]; exact h.cnt e0 he0
    all := fun d hd => by
      obtain ⟨e, he, ht, h1⟩ := h.rep.from' d hd
      obtain ⟨e0, he0, h2, _⟩ := new e he ht
      exact ⟨e0, he0, h2.trans h1⟩
    lits := h.lits
    units := ⟨h.units.ok, fun l il => by
      rw [h.units.iff l il]
      constructor
      · rintro ⟨e, he, h1, h2⟩
        obtain ⟨e0, he0, h3, h4⟩ := new e he h1
        exact ⟨e0, he0, by rw [h4]; exact h1, h3.trans h2⟩
      · rintro ⟨e, he, h1, h2⟩
        obtain ⟨e0, he0, h3, h4, h5⟩ := old e he
        exact ⟨e0, he0, by rw [h4]; exact h5, h3.trans h2⟩⟩ }
theorem WInv.empty : WInv [] (fun _ => []) where
  two := fun j h => by simp at h
  one := fun j h => by simp at h
  lists := fun k _ j hj => by simp at hj
  nodup := fun _ _ => List.nodup_nil
  ok := fun e he => by simp at he
theorem SInv.empty : SInv [] (fun _ => []) (0, 0) [] where
  winv := WInv.empty
  dist := List.nodup_nil
  cnt := fun e he => by simp at he
  all := fun d hd => by simp at hd
  lits := fun c hc => by simp at hc
  units := ⟨empty_ok, fun l _ => by rw [has_empty]; simp⟩
end Rd
end Go.Proofs.YtceahffmenbibaaGreatDoor

namespace Go.Proofs.YtceahffmenbibaaGreatDoor
namespace Rd
set_option linter.unusedVariables false
set_option linter.unusedSimpArgs false
variable {v : Bs} {L L' : List Cl} {k : Nat} {r : Bs} {c : Cl} {res : Nat × Nat}

theorem chk_nothing : chk v L (splitR 10 []) k (k, 5) := by
  rw [splitR_upto]
  have : hasB 10 [] = false := by decide
  rw [this]
  unfold chk; simp
theorem chk_open (h0 : r ≠ []) (h : hasB 10 r = false) : chk v L (splitR 10 r) k (k + 1, 3) := by
  rw [splitR_upto, h]
  unfold chk
  cases r with
  | nil => exact absurd rfl h0
  | cons a b => simp
theorem chk_eq (h : hasB 10 r = true) : chk v L (splitR 10 r) k res = (match lineB v (upto 10 r) with
      | none => res = (k + 1, 3)
      | some (true, c) => (match rem L c with
          | none => res = (k + 1, 4)
          | some L' => chk v L' (splitR 10 (r.drop ((upto 10 r).length + 1))) (k + 1) res)
      | some (false, c) => (¬ RightP L c → res = (k + 1, 4)) ∧ (RightP L c → if c.isEmpty then res = (k + 1, 0) else chk v (L ++ [c]) (splitR 10 (r.drop ((upto 10 r).length + 1))) (k + 1) res)) := by
  rw [splitR_upto, h, if_pos rfl]
  obtain ⟨a, b, e⟩ := splitR_ne 10 (r.drop ((upto 10 r).length + 1))
  rw [e]
  conv => lhs; unfold chk
  simp only [List.isEmpty_cons, Bool.false_eq_true, if_false]
  rfl
theorem chk_form (h : hasB 10 r = true) (hl : lineB v (upto 10 r) = none) : chk v L (splitR 10 r) k (k + 1, 3) := by
  rw [chk_eq h, hl]
theorem chk_gone (h : hasB 10 r = true) (hl : lineB v (upto 10 r) = some (true, c)) (hr : rem L c = none) : chk v L (splitR 10 r) k (k + 1, 4) := by
  rw [chk_eq h, hl]; simp only [hr]
theorem chk_del (h : hasB 10 r = true) (hl : lineB v (upto 10 r) = some (true, c)) (hr : rem L c = some L') : chk v L (splitR 10 r) k res ↔ chk v L' (splitR 10 (r.drop ((upto 10 r).length + 1))) (k + 1) res := by
  rw [chk_eq h, hl]; simp only [hr]
theorem chk_wrong (h : hasB 10 r = true) (hl : lineB v (upto 10 r) = some (false, c)) (hr : ¬ RightP L c) : chk v L (splitR 10 r) k (k + 1, 4) := by
  rw [chk_eq h, hl]; exact ⟨fun _ => rfl, fun h => absurd h hr⟩
theorem chk_end (h : hasB 10 r = true) (hl : lineB v (upto 10 r) = some (false, [])) (hr : RightP L []) : chk v L (splitR 10 r) k (k + 1, 0) := by
  rw [chk_eq h, hl]; exact ⟨fun h => absurd hr h, fun _ => by simp⟩
theorem chk_add (h : hasB 10 r = true) (hl : lineB v (upto 10 r) = some (false, c)) (hr : RightP L c) (hc : c ≠ []) : chk v L (splitR 10 r) k res ↔ chk v (L ++ [c]) (splitR 10 (r.drop ((upto 10 r).length + 1))) (k + 1) res := by
  rw [chk_eq h, hl]
  have : c.isEmpty = false := by cases c with
    | nil => exact absurd rfl hc
    | cons a b => rfl
  simp only [this, Bool.false_eq_true, if_false]
  exact ⟨fun h => h.2 hr, fun h => ⟨fun h2 => absurd hr h2, fun _ => h⟩⟩
theorem rightP_of {es es' : List Ent} {u d : Key} {l : Int} (R : Rep es L) (hc : ∀ x ∈ c, In50 x) (hl : ∃ r, c = l :: r) (P : SprPost es es' (0, 0) (u.un (setOf c).op) d false) (hU : Units es u) (hn : ¬ Conf L (opp c 0)) : RightP L c ↔ ∀ e ∈ es, RatOk es d l e := by
  obtain ⟨r, rfl⟩ := hl
  rw [rat_all R hc (in50_ne (hc l (List.mem_cons_self ..))) P hU]
  constructor
  · rintro (h | ⟨l', r', e, h⟩)
    · exact absurd h hn
    · obtain ⟨rfl, rfl⟩ := List.cons.inj e
      exact h
  · exact fun h => .inr ⟨l, r, rfl, h⟩
theorem rightP_nil (hn : ¬ Conf L (opp [] 0)) : ¬ RightP L [] := by
  rintro (h | ⟨l, r, e, _⟩)
  · exact hn h
  · cases e
end Rd
end Go.Proofs.YtceahffmenbibaaGreatDoor
