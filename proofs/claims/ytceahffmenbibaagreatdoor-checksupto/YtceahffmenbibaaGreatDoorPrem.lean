/- Ptid, Prem. -/
import Derived.Test.YtceahffmenbibaaGreatDoorPrbo
import Derived.Laws.Tables
import Derived.Deep.CutRange
namespace Go.Proofs.YtceahffmenbibaaGreatDoor
namespace Rd
open Go Go.RowKit Go.Deep
set_option linter.unusedVariables false
set_option linter.unusedSimpArgs false
attribute [local go_sem ↓] Go.wp_at_zero Go.wp_at_succ

/-! ### a store that is new -/
theorem Tryz.zeroSto : Tryz.zeroCells134.toList = [.slice none 0 0, .map none, .int .i64 0, .int .u64 0, .int .u64 0] ++ List.replicate 128 (.slice none 0 0) := by kernel_rfl
def newRow (mb : Nat) (u : Key) : List Value := [.slice none 0 0, .map (some mb), .int .i64 0, .int .u64 (u.1 : Int), .int .u64 (u.2 : Int)] ++ List.replicate 128 (.slice none 0 0)
theorem newRow_at (mb : Nat) (u : Key) (i : Nat) (hi : i < 133) : (newRow mb u)[i]? = some (stoF (.slice none 0 0) mb 0 u (fun _ => .slice none 0 0) i) := by
  unfold newRow
  match i, hi with
  | 0, _ => rfl
  | 1, _ => rfl
  | 2, _ => rfl
  | 3, _ => rfl
  | 4, _ => rfl
  | k + 5, h =>
    rw [List.getElem?_append_right (by simp)]
    simp only [List.length_cons, List.length_nil, Nat.reduceAdd, Nat.add_sub_cancel]
    rw [List.getElem?_replicate, if_pos (by omega)]
    rfl
theorem newRow_len (mb : Nat) (u : Key) : (newRow mb u).length = 133 := by unfold newRow; simp
theorem newRow_one (mb : Nat) (u : Key) : ∀ v ∈ newRow mb u, v.oneCell' = true := fun v hv => by
  unfold newRow at hv
  rcases List.mem_append.1 hv with h | h
  · simp only [List.mem_cons, List.not_mem_nil, or_false] at h
    rcases h with rfl | rfl | rfl | rfl | rfl <;> rfl
  · rw [(List.mem_replicate.1 h).2]; rfl
theorem Sto.fresh {B fs mb : Nat} {w : World} {u : Key} (hr : w.heap[fs]? = some (.cells (newRow mb u).toArray 134 (0, 0))) (hm : MapIs w mb 0 (fun _ => none)) (hB : B ≤ fs) (hBm : B ≤ mb) : Sto B fs w (.slice none 0 0) mb 0 u (fun _ => .slice none 0 0) [] (fun _ => []) where
  row := ⟨_, hr, by simp [newRow_len], fun i hi => by simpa using newRow_at mb u i hi⟩
  cls := World.ownsRow_nil _ _ _ _
  map := hm.congr fun s _ => rfl
  wat := fun k _ => World.ownsRow_nil _ _ _ _
  apart := fun k k' _ _ _ => .inl rfl
  bsb := hB
  bmb := hBm
theorem newRow_set (mb : Nat) (u : Key) : (((Tryz.zeroCells134.toList.set 1 (.map (some mb))).set 3 (.int .u64 (u.1 : Int))).set 4 (.int .u64 (u.2 : Int))) = newRow mb u := by
  rw [Tryz.zeroSto]; rfl
theorem zeroSto_size : Tryz.zeroCells134.size = 133 := by
  rw [← Array.length_toList, Tryz.zeroSto]; rfl
/-- the store anew, in plain words -/
def TidyPost (es es' : List Ent) (wl' : Nat → List Nat) : Prop := sigs es' = (sigs es).filter (fun p => decide (0 < p.2)) ∧ WInv es' wl'
theorem owns_base {w : World} {B H e size n : Nat} {v : Value} {xs : List Value} (h : w.ownsRow H e size v n xs) (hB : B ≤ H) : w.ownsRow B e size v n xs := by
  refine ⟨h.1, ?_⟩
  rcases h.2 with h2 | ⟨g, cap, cur, e1, hb, r⟩
  · exact .inl h2
  · exact .inr ⟨g, cap, cur, e1, Nat.le_trans hB hb, r⟩
/-- the new store's row is laid over the old one's -/
theorem Sto.moved {B H fs sb mbf : Nat} {wr : World} {cvf : Value} {u : Key} {wvf : Nat → Value} {ef : List Ent} {wlf : Nat → List Nat} {cf co : Array Value} (h : Sto H fs wr cvf mbf 0 u wvf ef wlf) (hf : wr.heap[fs]? = some (.cells cf 134 (0, 0))) (ho : wr.heap[sb]? = some (.cells co 134 (0, 0))) (hsb : sb < H) (hB : B ≤ sb) :
    Sto B sb (wr.setRow sb cf) cvf mbf 0 u wvf ef wlf where
  row := by
    obtain ⟨c, hr, hs, ha⟩ := h.row
    rw [hf] at hr
    have e : cf = c := by cases hr; rfl
    subst e
    exact ⟨cf, setRow_heap _ _ _ _ _ _ ho, hs, ha⟩
  cls := owns_base (owns_block h.cls fun g hg => setRow_other _ _ _ _ (by have := (h.cls.lt g hg).1; omega)) (by omega)
  map := h.map.kept (setRow_other _ _ _ _ (by have := h.bmb; omega))
  wat := fun k hk => owns_base (owns_block (h.wat k hk) fun g hg => setRow_other _ _ _ _ (by have := ((h.wat k hk).lt g hg).1; omega)) (by omega)
  apart := h.apart
  bsb := hB
  bmb := by have := h.bmb; omega
theorem keeps_row {sb : Nat} {wr : World} {cf co : Array Value} (ho : wr.heap[sb]? = some (.cells co 134 (0, 0))) : Keeps wr (wr.setRow sb cf) := fun k hk => setRow_other _ _ _ _ (fun e => by
  obtain ⟨x, t, e1, e2, _⟩ := hk
  first
    | (rw [e, ho] at e1; cases e1; exact e2 rfl)
    | (rw [← e, ho] at e1; cases e1; exact e2 rfl))
/-- as the loop goes: the old store lies as it did, the new one holds the first i that are there -/
structure TidSt (H fs mbf : Nat) (wd : World) (u : Key) (es : List Ent) (i : Nat) (cvf : Value) (wvf : Nat → Value) (ef : List Ent) (wlf : Nat → List Nat) (wr : World) : Prop where
  below : Below H wd wr
  keeps : Keeps wd wr
  sto : Sto H fs wr cvf mbf 0 u wvf ef wlf
  tab : Tab H wr
  sig : sigs ef = (sigs (es.take i)).filter (fun p => decide (0 < p.2))
  winv : WInv ef wlf
def TidRel (H fs mbf : Nat) (wd : World) (u : Key) (es : List Ent) (i29 : Value) (wr : World) : Prop :=
  ∃ (i : Nat) (cvf : Value) (wvf : Nat → Value) (ef : List Ent) (wlf : Nat → List Nat), i29 = .int .i64 i ∧ i ≤ es.length ∧ Hid (TidSt H fs mbf wd u es i cvf wvf ef wlf wr)
theorem take_sigs {es : List Ent} {i : Nat} (hi : i < es.length) : sigs (es.take (i + 1)) = sigs (es.take i) ++ [((es[i]).set, (es[i]).times)] := by
  rw [List.take_add_one, List.getElem?_eq_getElem hi, Option.toList_some, sigs_snoc]
theorem tid_skip {H fs mbf : Nat} {wd wr : World} {u : Key} {es : List Ent} {i : Nat} {cvf : Value} {wvf : Nat → Value} {ef : List Ent} {wlf : Nat → List Nat} (h : TidSt H fs mbf wd u es i cvf wvf ef wlf wr) (hi : i < es.length) (ht : (es[i]).times = 0) {ws : World} (hb : Below wr.heap.size wr ws) :
    TidSt H fs mbf wd u es (i + 1) cvf wvf ef wlf ws where
  below := h.below.trans (hb.mono h.sto.bsize)
  keeps := h.keeps.trans (Keeps.of_below hb)
  sto := h.sto.later hb
  tab := h.tab.later (hb.mono h.sto.bsize)
  sig := by
    rw [take_sigs hi, List.filter_append, h.sig, ht]
    simp
  winv := h.winv
theorem tid_put {H fs mbf : Nat} {wd ws : World} {u : Key} {es : List Ent} {i : Nat} {cvf : Value} {wvf : Nat → Value} {ef : List Ent} {wlf' : Nat → List Nat} (hsig : sigs ef = (sigs (es.take i)).filter (fun p => decide (0 < p.2))) (hi : i < es.length) (ht : 0 < (es[i]).times)
    (hw : WInv (ef ++ [{ enterE (es[i]).set with times := (es[i]).times }]) wlf') (b : Below H wd ws) (k : Keeps wd ws) (S : Sto H fs ws cvf mbf 0 u wvf (ef ++ [{ enterE (es[i]).set with times := (es[i]).times }]) wlf') (T : Tab H ws) :
    TidSt H fs mbf wd u es (i + 1) cvf wvf (ef ++ [{ enterE (es[i]).set with times := (es[i]).times }]) wlf' ws where
  below := b
  keeps := k
  sto := S
  tab := T
  sig := by
    rw [take_sigs hi, List.filter_append, sigs_snoc, hsig]
    congr 1
    simp [ht, enterE]
  winv := hw
theorem tid_none {es ef : List Ent} {i : Nat} (hsig : sigs ef = (sigs (es.take i)).filter (fun p => decide (0 < p.2))) (hi : i < es.length) (hd : (es.map Ent.set).Nodup) : look ef (es[i]).set = none := by
  rw [look_none]
  intro e he hs
  have := mem_sigs he
  rw [hsig, List.mem_filter] at this
  obtain ⟨e0, he0, h1, _⟩ := of_sigs this.1
  obtain ⟨j, hj, rfl⟩ := List.mem_iff_getElem.1 he0
  rw [List.length_take] at hj
  rw [List.getElem_take] at h1
  have := dist_at hd (i := j) (j := i) (by omega) hi (h1.trans hs)
  omega
theorem tid_len {es ef : List Ent} {i : Nat} (hsig : sigs ef = (sigs (es.take i)).filter (fun p => decide (0 < p.2))) : ef.length ≤ es.length := by
  have h1 := congrArg List.length hsig
  have h2 : ((sigs (es.take i)).filter (fun p => decide (0 < p.2))).length ≤ (sigs (es.take i)).length := List.length_filter_le _ _
  unfold sigs at h1 h2
  simp only [List.length_map] at h1 h2
  have : (es.take i).length ≤ es.length := by rw [List.length_take]; omega
  omega
set_option maxHeartbeats 1000000 in
set_option maxRecDepth 100000 in
theorem tidy_any {B sb mb : Nat} {cv : Value} {gone : Int} {u : Key} {wv : Nat → Value} {es : List Ent} {wl : Nat → List Nat} (w : World) (hlen : es.length ≤ 1048576) (hg : -4194304 ≤ gone ∧ gone ≤ 4194304)
    (hS : Sto B sb w cv mb gone u wv es wl) (hT : Tab B w) (hW : WInv es wl) (hd : (es.map Ent.set).Nodup) (hu : u.ok) :
    Calls Tryz.prog 115 #[.pointer (some ⟨sb, 0, none⟩)] w fun e w' => e = .returned (.tuple #[]) ∧ Below B w w' ∧ Keeps w w' ∧
      ∃ (cv' : Value) (mb' : Nat) (gone' : Int) (wv' : Nat → Value) (es' : List Ent) (wl' : Nat → List Nat), Sto B sb w' cv' mb' gone' u wv' es' wl' ∧ ((gone' = gone ∧ sigs es' = sigs es ∧ WInv es' wl') ∨ (gone' = 0 ∧ TidyPost es es' wl')) := by
  obtain ⟨a, cap, hsh⟩ := own_shape5 hS.cls
  subst hsh
  have HS := hide hS
  have HT := hide hT
  have HW := hide hW
  have HD := hide hd
  have HLEN := hide hlen
  have y0 := (hS.head 0 (by omega)).1
  have y2 := (hS.head 2 (by omega)).1
  have y3 := (hS.head 3 (by omega)).1
  have y4 := (hS.head 4 (by omega)).1
  unfold stoF at y0 y2 y3 y4
  have dv : Int.tdiv (es.length : Int) 2 = ((es.length / 2 : Nat) : Int) := by
    rw [Int.tdiv_eq_ediv_of_nonneg (by omega)]; omega
  clear hS hT hW hd
  go_enter Tryz.func115, Tryz.ntmps115
  by_cases hfew : gone ≤ 100 + ((es.length / 2 : Nat) : Int)
  · go_wp2_with fail
    go_quiet (fail)
    have DW : Hid (Below w.heap.size w (w.drewN nq)) := bel_drewN' (Below.refl _ _) _
    go_wp2
    refine @bodyPost_ret _ _ _ _ _ (.tuple #[]) ?_ ?_ ?_
    · simp [results, Tryz.results115, go_sem]
    · rfl
    exact ⟨rfl, (unhide DW).mono (unhide HS).bsize, Keeps.of_below (unhide DW), _, _, _, _, _, _, (unhide HS).later (unhide DW), .inl ⟨rfl, rfl, unhide HW⟩⟩
  · go_wp2_with fail
    go_quiet (fail)
    have DW : Hid (Below w.heap.size w (w.drewN nq)) := bel_drewN' (Below.refl _ _) _
    have HSD := hide ((unhide HS).later (unhide DW))
    generalize w.drewN nq = wd at DW HSD ⊢
    have y0 := ((unhide HSD).head 0 (by omega)).1
    have y3 := ((unhide HSD).head 3 (by omega)).1
    have y4 := ((unhide HSD).head 4 (by omega)).1
    unfold stoF at y0 y3 y4
    have hsb := (unhide HSD).row.lt
    have ns : ¬ (sb = wd.heap.size) := by omega
    have ns2 : ¬ (wd.heap.size = sb) := by omega
    have hmm := @run_makeMap Tryz.prog
    have hst : (storeCells ⟨wd.heap.size + 1, 0, none⟩ (((Tryz.zeroCells134.toList.set 1 (.map (some wd.heap.size))).set 3 (.int .u64 (u.1 : Int))).set 4 (.int .u64 (u.2 : Int)))).run Tryz.prog ((wd.alloc (.map #[] 0)).alloc (.cells Tryz.zeroCells134 134)) = .ok () (((wd.alloc (.map #[] 0)).alloc (.cells Tryz.zeroCells134 134)).setRow (wd.heap.size + 1) (newRow wd.heap.size u).toArray) := by
      rw [newRow_set]
      have := run_storeCells_from (P := Tryz.prog) (wd.heap.size + 1) 134 (newRow wd.heap.size u) 0 Tryz.zeroCells134 ((wd.alloc (.map #[] 0)).alloc (.cells Tryz.zeroCells134 134)) (by have := heap_alloc_new (wd.alloc (.map #[] 0)) (.cells Tryz.zeroCells134 134); simpa using this) (by rw [newRow_len, zeroSto_size]) (newRow_one _ _)
      simpa using this
    go_upto_region 2 with fail
    have hX : ((wd.alloc (.map #[] 0)).alloc (.cells Tryz.zeroCells134 134)).heap[wd.heap.size + 1]? = some (.cells Tryz.zeroCells134 134 (0, 0)) := by have := heap_alloc_new (wd.alloc (.map #[] 0)) (.cells Tryz.zeroCells134 134); simpa using this
    obtain ⟨Y, hY⟩ : ∃ Y, Y = ((wd.alloc (.map #[] 0)).alloc (.cells Tryz.zeroCells134 134)).setRow (wd.heap.size + 1) (newRow wd.heap.size u).toArray := ⟨_, rfl⟩
    have BY : Hid (Below wd.heap.size wd Y) := by
      unfold Hid; rw [hY]
      exact below_setRow (((Below.refl _ _).alloc (Nat.le_refl _) _).alloc (by simp) _) (by omega) _
    have SY : Hid (Sto wd.heap.size (wd.heap.size + 1) Y (.slice none 0 0) wd.heap.size 0 u (fun _ => .slice none 0 0) [] (fun _ => [])) := by
      unfold Hid
      refine Sto.fresh ?_ ?_ (by omega) (Nat.le_refl _)
      · rw [hY]; exact setRow_heap _ _ _ _ _ _ hX
      · rw [hY]
        refine (mapIs_made wd).kept ?_
        rw [setRow_other _ _ _ _ (by omega), Below.heap_alloc _ _ _ (by simp)]
    rw [← hY]
    clear hY hX hst hmm
    have y0 := ((unhide BY).cell (p := ⟨sb, 0, none⟩) hsb).trans y0
    have T0 : Hid (TidSt wd.heap.size (wd.heap.size + 1) wd.heap.size wd u es 0 (.slice none 0 0) (fun _ => .slice none 0 0) [] (fun _ => []) Y) :=
      ⟨unhide BY, Keeps.of_below (unhide BY), unhide SY, by
        have t1 := (unhide HT).later ((unhide DW).mono (unhide HS).bsize)
        have t2 := t1.later ((unhide BY).mono (unhide HSD).bsize)
        exact ⟨t2.1, by have := t2.2; have := (unhide HSD).bsize; omega⟩, by simp [sigs], WInv.empty⟩
    clear SY BY
    go_wp2
    go_loopw [29] (fun i wr => TidRel wd.heap.size (wd.heap.size + 1) wd.heap.size wd u es i wr) (fun i _ => es.length - (intOf i).toNat)
    case atStart => exact ⟨0, _, _, _, _, rfl, Nat.zero_le _, T0⟩
    case round =>
      clear T0 y0
      obtain ⟨i, cvf, wvf, ef, wlf, rfl, hil, T⟩ := hrel
      have HSR := hide ((unhide HSD).later (unhide T).below)
      by_cases hlt : i < es.length
      · obtain ⟨cb, cap', hcv, hcb1, hcb2, hcb3, hcap, hcells⟩ := (unhide HSR).ents i hlt
        obtain ⟨q1, q2, q3⟩ := Value.slice.inj hcv
        subst q1 q3
        clear q2 hcv
        have c0 := (hcells 0 (by omega)).1
        have c1 := (hcells 1 (by omega)).1
        have c2 := (hcells 2 (by omega)).1
        have c3 := (hcells 3 (by omega)).1
        have c4 := (hcells 4 (by omega)).1
        simp only [entV, List.getElem?_cons_succ, List.getElem?_cons_zero] at c0 c1 c2 c3 c4
        have c0 : wr.cell? ⟨cb, i * 5, none⟩ = some (.int .u64 ((es[i]).set.1 : Int)) := c0
        have sok : (es[i]).set.ok := (unhide HW).ok _ (List.getElem_mem _)
        have NON := hide (tid_none (unhide T).sig hlt (unhide HD))
        have PUT : Hid (∀ (ws : World) (cv2 : Value) (wv2 : Nat → Value), 0 < (es[i]).times → Below wd.heap.size wr ws → Keeps wr ws → Sto wd.heap.size (wd.heap.size + 1) ws cv2 wd.heap.size 0 u wv2 (ef ++ [{ enterE (es[i]).set with times := (es[i]).times }]) (enterW wlf (es[i]).set ef.length) → TidSt wd.heap.size (wd.heap.size + 1) wd.heap.size wd u es (i + 1) cv2 wv2 (ef ++ [{ enterE (es[i]).set with times := (es[i]).times }]) (enterW wlf (es[i]).set ef.length) ws) := fun ws cv2 wv2 h1 h2 h3 h4 =>
          tid_put (unhide T).sig hlt h1 ((unhide T).winv.enter sok _) ((unhide T).below.trans h2) ((unhide T).keeps.trans h3) h4 ((unhide T).tab.later h2)
        have SKP : Hid (∀ ws, (es[i]).times = 0 → Below wr.heap.size wr ws → TidSt wd.heap.size (wd.heap.size + 1) wd.heap.size wd u es (i + 1) cvf wvf ef wlf ws) := fun ws h1 h2 => tid_skip (unhide T) hlt h1 h2
        have eflen : ef.length ≤ es.length := tid_len (unhide T).sig
        generalize (es[i]).set = s at *
        generalize (es[i]).watched = wk at *
        generalize (es[i]).times = t at *
        clear hcells
        have ii0 : (0 : Int) ≤ (i : Int) := by omega
        have ii1 : (i : Int) < (es.length : Int) := by omega
        go_upto_region 5 with fail
        have BX : Hid (Below wr.heap.size wr (wr.alloc (.cells #[.int .u64 (s.1 : Int), .int .u64 (s.2 : Int), .int .u64 (wk.1 : Int), .int .u64 (wk.2 : Int), .int .i64 (t : Int)] 180))) := (Below.refl _ _).alloc (Nat.le_refl _) _
        obtain ⟨X, hX⟩ : ∃ X, X = wr.alloc (.cells #[.int .u64 (s.1 : Int), .int .u64 (s.2 : Int), .int .u64 (wk.1 : Int), .int .u64 (wk.2 : Int), .int .i64 (t : Int)] 180) := ⟨_, rfl⟩
        have kx : X.heap[wr.heap.size]? = some (.cells #[.int .u64 (s.1 : Int), .int .u64 (s.2 : Int), .int .u64 (wk.1 : Int), .int .u64 (wk.2 : Int), .int .i64 (t : Int)] 180 (0, 0)) := by rw [hX]; exact heap_alloc_new _ _
        have k0 : X.cell? ⟨wr.heap.size, 0, none⟩ = some (.int .u64 (s.1 : Int)) := by rw [hX]; simp
        have k1 : X.cell? ⟨wr.heap.size, 1, none⟩ = some (.int .u64 (s.2 : Int)) := by rw [hX]; simp
        have k4 : X.cell? ⟨wr.heap.size, 4, none⟩ = some (.int .i64 (t : Int)) := by rw [hX]; simp
        rw [← hX] at BX ⊢
        clear hX c0 c1 c2 c3 c4
        by_cases ht : t = 0
        · subst ht
          have NX := hide (unhide SKP X rfl (unhide BX))
          go_wp2
          go_roundw
          case rel => exact ⟨i + 1, _, _, _, _, ret_int' (by omega), by omega, NX⟩
          case measure => simp [intOf]; omega
        · have tp : (0 : Int) < (t : Int) := by omega
          have SX := hide ((unhide T).sto.later (unhide BX))
          have TX := hide ((unhide T).tab.later ((unhide BX).mono (unhide T).sto.bsize))
          have QE := hide (enter_any2 s X sok (unhide NON) (Nat.le_trans eflen (unhide HLEN)) (fun k hk => Nat.le_trans ((unhide T).winv.len hk) (by have := unhide HLEN; omega)) (unhide SX) (unhide TX))
          unfold keyV at QE
          have KK : Hid (cvf.ownBlock ≠ some wr.heap.size) := fun e => by have := ((unhide T).sto.cls.lt _ e).2; omega
          go_upto_region 6 with fail
          go_wp2_with fail
          with_reducible refine (unhide QE).mono ?_
          rintro e6 w6 ⟨rfl, hb6, hk6, cv6, wv6, hE6, hS6⟩
          simp only []
          have k6 : w6.cell? ⟨wr.heap.size, 4, none⟩ = some (.int .i64 (t : Int)) := (World.cell?_of_block (a := ⟨wr.heap.size, 4, none⟩) (hE6 _ _ kx (unhide KK)).1).trans k4
          have gx : ef.length < (ef ++ [enterE s]).length := by simp
          obtain ⟨cb6, cap6, hcv6, _, _, _, hcap6, hcells6⟩ := hS6.ents ef.length gx
          subst hcv6
          have f4 := (hcells6 4 (by omega)).1
          have f5 := (hcells6 4 (by omega)).2
          rw [show (ef ++ [enterE s])[ef.length]'gx = enterE s by simp] at f4
          simp only [entV, List.getElem?_cons_succ, List.getElem?_cons_zero] at f4
          have f0 : w6.cell? ⟨wd.heap.size + 1, 0, none⟩ = some (.slice (some ⟨cb6, 0, none⟩) (ef ++ [enterE s]).length cap6) := (hS6.head 0 (by omega)).1
          have e9 : withT (ef ++ [enterE s]) ef.length t = ef ++ [{ enterE s with times := t }] := by unfold withT; rw [modify_last]
          have S9 := hS6.setT gx t
          rw [e9] at S9
          have K9 : Keeps wr (w6.setCell ⟨cb6, ef.length * 5 + 4, none⟩ (.int .i64 (t : Int))) := ((Keeps.of_below (unhide BX)).trans hk6).trans (hS6.keeps_cb _ _)
          have B9 : Below wd.heap.size wr (w6.setCell ⟨cb6, ef.length * 5 + 4, none⟩ (.int .i64 (t : Int))) := (((unhide BX).mono (unhide T).sto.bsize).trans hb6).setCell (by rcases hS6.cls.2 with ⟨e2, _⟩ | ⟨g', c', cur, e2, hb', _⟩ <;> cases e2; exact hb') _
          have NX := hide (unhide PUT _ _ _ (by omega) B9 K9 S9)
          have glen : (ef ++ [enterE s]).length = ef.length + 1 := by simp
          rw [glen] at f0 hcap6
          rw [show (enterE s).times = 0 from rfl] at f4
          have jj0 : (0 : Int) ≤ (ef.length : Int) := by omega
          have jj1 : (ef.length : Int) < ((ef.length + 1 : Nat) : Int) := by omega
          clear hS6 hk6 hb6 hE6 hcells6 S9 K9 B9 e9 QE SX TX k0 k1 k4 kx gx glen PUT SKP
          go_wp2
          go_roundw
          case rel => exact ⟨i + 1, _, _, _, _, ret_int' (by omega), by omega, NX⟩
          case measure => simp [intOf]; omega
      · have ei : i = es.length := by omega
        subst ei
        obtain ⟨cf, hcf, hcs, hca⟩ := (unhide T).sto.row
        obtain ⟨co, hco, hos, _⟩ := (unhide HSR).row
        have h1c : cf.all (·.oneCell') = true := by
          rw [Array.all_eq_true_iff_forall_mem]
          intro v hv
          obtain ⟨k, hk, e⟩ := Array.mem_iff_getElem.1 hv
          have := hca k (by omega)
          rw [Array.getElem?_eq_getElem hk, e] at this
          rw [Option.some.inj this]
          match k with
          | 0 =>
            obtain ⟨x, y, e2⟩ := own_shape5 (unhide T).sto.cls
            show cvf.oneCell' = true
            rw [e2]; rfl
          | 1 => rfl
          | 2 => rfl
          | 3 => rfl
          | 4 => rfl
          | n + 5 =>
            obtain ⟨x, y, e2⟩ := own_shape5 ((unhide T).sto.wat n (by omega))
            show (wvf n).oneCell' = true
            rw [e2]; rfl
        have inf : (Tryz.prog.info? 134).map (·.size) = some cf.size := by rw [hcs]; kernel_rfl
        have HB : B ≤ wd.heap.size := (unhide HSD).bsize
        have SN : Hid (Sto B sb (wr.setRow sb cf) cvf wd.heap.size 0 u wvf ef wlf) := (unhide T).sto.moved hcf hco hsb (unhide HSD).bsb
        have BN : Hid (Below B w (wr.setRow sb cf)) := below_setRow (((unhide DW).mono (unhide HS).bsize).trans ((unhide T).below.mono HB)) (unhide HSD).bsb _
        have KN : Hid (Keeps w (wr.setRow sb cf)) := ((Keeps.of_below (unhide DW)).trans (unhide T).keeps).trans (keeps_row hco)
        have TP : Hid (TidyPost es ef wlf) := ⟨by have := (unhide T).sig; rw [List.take_length] at this; exact this, (unhide T).winv⟩
        have sz : co.size = cf.size := by rw [hos, hcs]
        clear hca hcs hos
        go_upto_region 9 with fail
        go_wp2_with (first
          | (refine wpList_load_row rfl 134 _ rfl (wd.heap.size + 1) rfl 134 cf (0, 0) _ hcf Tryz.underlying134 rfl inf ?_)
          | (refine wpList_store_row rfl 134 _ _ rfl sb cf rfl rfl 134 co hco inf sz h1c ?_))
        go_end0
        exact ⟨rfl, unhide BN, unhide KN, _, _, _, _, _, _, unhide SN, .inr ⟨rfl, unhide TP⟩⟩
end Rd
end Go.Proofs.YtceahffmenbibaaGreatDoor

namespace Go.Proofs.YtceahffmenbibaaGreatDoor
namespace Rd
open Go Go.RowKit Go.Deep
set_option linter.unusedVariables false
set_option linter.unusedSimpArgs false
attribute [local go_sem ↓] Go.wp_at_zero Go.wp_at_succ

def RemRet (B sb : Nat) (w : World) (L : List Cl) (c : Cl) (n : Nat) (gone : Int) (e : Ending) (w' : World) : Prop := Below B w w' ∧ Keeps w w' ∧
  ((rem L c = none ∧ e = .returned (.bool false) ∧ ∃ (cv : Value) (mb : Nat) (gone' : Int) (u : Key) (wv : Nat → Value) (es : List Ent) (wl : Nat → List Nat), Sto B sb w' cv mb gone' u wv es wl ∧ SInv es wl u L ∧ es.length ≤ n ∧ gone' = gone) ∨
   ∃ L', rem L c = some L' ∧ e = .returned (.bool true) ∧ ∃ (cv : Value) (mb : Nat) (gone' : Int) (u : Key) (wv : Nat → Value) (es : List Ent) (wl : Nat → List Nat), Sto B sb w' cv mb gone' u wv es wl ∧ SInv es wl u L' ∧ es.length ≤ n ∧ (gone' = gone ∨ gone' = gone + 1 ∨ gone' = 0))
theorem filter_len {es es' : List Ent} (h : sigs es' = (sigs es).filter (fun p => decide (0 < p.2))) : es'.length ≤ es.length := by
  have h1 := congrArg List.length h
  have h2 : ((sigs es).filter (fun p => decide (0 < p.2))).length ≤ (sigs es).length := List.length_filter_le _ _
  unfold sigs at h1 h2
  simp only [List.length_map] at h1 h2
  omega
theorem rem_end {es es' : List Ent} {wl wl' : Nat → List Nat} {u : Key} {L : List Cl} {gone gone' : Int} (h : SInv es wl u L) (hd : (gone' = gone + 1 ∧ sigs es' = sigs es ∧ WInv es' wl') ∨ (gone' = 0 ∧ TidyPost es es' wl')) :
    SInv es' wl' u L ∧ es'.length ≤ es.length ∧ (gone' = gone ∨ gone' = gone + 1 ∨ gone' = 0) := by
  rcases hd with ⟨h1, h2, h3⟩ | ⟨h1, h2, h3⟩
  · exact ⟨h.same h2 h3, by rw [sigs_len h2]; exact Nat.le_refl _, .inr (.inl h1)⟩
  · exact ⟨h.anew h2 h3, filter_len h2, .inr (.inr h1)⟩
theorem withT_pred {es : List Ent} {i t : Nat} (hi : i < es.length) (ht : (es[i]).times = t + 1) : withT es i t = es.modify i (fun e => { e with times := e.times - 1 }) := by
  unfold withT
  refine List.ext_getElem? fun j => ?_
  rw [List.getElem?_modify, List.getElem?_modify]
  split
  · rename_i h; subst h; rw [List.getElem?_eq_getElem hi]; simp [ht]
  · rfl
theorem withT_self (es : List Ent) (i n : Nat) (h : i < (withT es i n).length) (h0 : i < es.length) : (withT es i n)[i] = { es[i] with times := n } := by
  simp [withT, List.getElem_modify]
theorem there_look {es : List Ent} {s : Key} {i : Nat} (h : look es s = some i) (hi : i < es.length) : there es s = decide (0 < (es[i]).times) := by
  unfold there; rw [h]; simp only [List.getElem?_eq_getElem hi]
set_option maxHeartbeats 4000000 in
set_option maxRecDepth 100000 in
theorem remove_any {B sb mb : Nat} {cv : Value} {gone : Int} {u : Key} {wv : Nat → Value} {es : List Ent} {wl : Nat → List Nat} {L : List Cl} (c : Cl) (w : World) (hc : ∀ l ∈ c, In50 l) (hlen : es.length ≤ 1048576) (hgone : -4194303 ≤ gone ∧ gone ≤ 4194303)
    (hS : Sto B sb w cv mb gone u wv es wl) (hT : Tab B w) (hI : SInv es wl u L) (hLn : L.length ≤ 4194304) :
    Calls Tryz.prog 76 #[.pointer (some ⟨sb, 0, none⟩), keyV (setOf c)] w fun e w' => RemRet B sb w L c es.length gone e w' := by
  have HI := hide hI
  have HC := hide hc
  have sok := setOf_lit hc
  have uok := hI.units.ok
  obtain ⟨gl, gh⟩ := hgone
  have R0 := hide hS
  have HTW := hide hT
  obtain ⟨cc, hcc, hrun⟩ := hS.map.lookup sok
  have HRN := hide (hI.rem_none hc)
  have HRS : Hid (∀ L' i (hi : i < es.length), rem L c = some L' → (es[i]).set = setOf c → SInv (es.modify i (fun e => { e with times := e.times - 1 })) wl (if (es[i]).times = 1 ∧ (setOf c).size = 1 then u.wo (setOf c) else u) L') := fun L' i hi h1 h2 => hI.rem hc h1 hi h2
  have TMB : Hid (∀ e ∈ es, e.times ≤ 4194304) := fun e he => by rw [hI.cnt e he]; exact Nat.le_trans List.countP_le_length hLn
  obtain ⟨s, hs⟩ : ∃ s, setOf c = s := ⟨_, rfl⟩
  rw [hs] at sok hcc hrun HRN HRS ⊢
  unfold keyV at hrun ⊢
  have HRUN := hide hrun
  clear hS hT hI hc hrun hs
  go_enter Tryz.func76, Tryz.ntmps76
  go_upto_region 1 with fail
  obtain ⟨W, hWd⟩ : ∃ W, W = w.alloc (Obj.cells #[Value.int IntKind.u64 (s.1 : Int), Value.int IntKind.u64 (s.2 : Int)] 84) := ⟨_, rfl⟩
  have BW : Hid (Below w.heap.size w W) := by rw [hWd]; exact (Below.refl _ _).alloc (Nat.le_refl _) _
  have RA : Hid (W.rowIs w.heap.size 84 2 (keyF s)) := by rw [hWd]; exact rowIs_two w _ _ _
  rw [← hWd]
  clear hWd
  have M0 : Hid (StoMem B sb W cv mb gone u wv es wl W) := StoMem.start ((unhide R0).later (unhide BW)) ((unhide HTW).later ((unhide BW).mono (unhide R0).bsize))
  have BW2 : Hid (Below B w W) := (unhide BW).mono (unhide R0).bsize
  have KW2 : Hid (Keeps w W) := Keeps.of_below (unhide BW)
  have hlk : ∀ n, (Instr.lookup 130 (.map (some mb)) (.agg #[.int .u64 (s.1 : Int), .int .u64 (s.2 : Int)]) true).run Tryz.prog (W.drewN n) = .ok (.tuple #[.int .i64 cc, .bool (look es s).isSome]) (W.drewN n) := fun n => unhide HRUN (W.drewN n) ((unhide BW).block mb (unhide R0).map.lt)
  clear R0 HTW BW HRUN
  obtain ⟨x0, x1, _, _⟩ := row_facts RA
  have y0 := ((unhide M0).sto.head 0 (by omega)).1
  have y1 := ((unhide M0).sto.head 1 (by omega)).1
  unfold stoF at y0 y1
  rcases hl : look es s with _ | i
  · have NO : Hid (rem L c = none) := (unhide HRN).2 (by unfold there; rw [hl])
    rw [hl] at hlk
    go_quiet (fail)
    have MD := hide ((unhide M0).later (bel_drewN' (Below.refl _ W) nq))
    go_wp2
    go_ret
    exact ⟨(unhide BW2).trans (unhide MD).below, (unhide KW2).trans (unhide MD).keeps, .inl ⟨unhide NO, rfl, _, _, _, _, _, _, _, (unhide MD).sto, unhide HI, Nat.le_refl _, rfl⟩⟩
  · obtain ⟨hi, hsi⟩ := look_some hl
    have hci := hcc i hl
    subst hci
    have TH := hide (there_look hl hi)
    rw [hl] at hlk
    obtain ⟨cb, cap, hcv, hcb1, hcb2, hcb3, hcap, hcells⟩ := (unhide M0).sto.ents i hi
    subst hcv
    have c4 := (hcells 4 (by omega)).1
    have f4 := (hcells 4 (by omega)).2
    simp only [entV, List.getElem?_cons_succ, List.getElem?_cons_zero] at c4
    have i0 : (0 : Int) ≤ (i : Int) := by omega
    have i1 : (i : Int) < (es.length : Int) := by omega
    have HRI : Hid (∀ L', rem L c = some L' → SInv (es.modify i (fun e => { e with times := e.times - 1 })) wl (if (es[i]).times = 1 ∧ s.size = 1 then u.wo s else u) L') := fun L' h => unhide HRS L' i hi h hsi
    have PRD : Hid (∀ t, (es[i]).times = t + 1 → withT es i t = es.modify i (fun e => { e with times := e.times - 1 })) := fun t ht => withT_pred hi ht
    have tb : (es[i]).times ≤ 4194304 := unhide TMB _ (List.getElem_mem hi)
    have SETT : Hid (∀ V n, StoMem B sb W (.slice (some ⟨cb, 0, none⟩) es.length cap) mb gone u wv es wl V → StoMem B sb W (.slice (some ⟨cb, 0, none⟩) es.length cap) mb gone u wv (withT es i n) wl (V.setCell ⟨cb, i * 5 + 4, none⟩ (.int .i64 (n : Int)))) := fun V n h => h.step (h.sto.setT hi n) (h.sto.keeps_cb _ _) ((Below.refl _ _).setCell hcb1 _)
    clear hcells hl hcc HRS
    rcases ht : (es[i]).times with _ | t
    · have NO : Hid (rem L c = none) := (unhide HRN).2 (by rw [unhide TH, ht]; rfl)
      rw [ht] at c4
      go_quiet (fail)
      have MD := hide ((unhide M0).later (bel_drewN' (Below.refl _ W) nq))
      go_wp2
      go_ret
      exact ⟨(unhide BW2).trans (unhide MD).below, (unhide KW2).trans (unhide MD).keeps, .inl ⟨unhide NO, rfl, _, _, _, _, _, _, _, (unhide MD).sto, unhide HI, Nat.le_refl _, rfl⟩⟩
    · obtain ⟨L', hR⟩ : ∃ L', rem L c = some L' := by
        cases e : rem L c with
        | some L' => exact ⟨L', rfl⟩
        | none =>
          have := (unhide HRN).1 e
          rw [unhide TH, ht] at this
          simp at this
      have HR := hide hR
      have SR0 := unhide HRI L' hR
      rw [← unhide PRD t ht, ht] at SR0
      have SRH := hide SR0
      rw [ht] at c4 tb
      have tpb : ((t + 1 : Nat) : Int) - 1 = (t : Int) := by omega
      have tnz : (((t + 1 : Nat) : Int) == 0) = false := by simp; omega
      clear SR0 hR ht HRI PRD TH HRN TMB
      go_quiet (fail)
      have MD := hide ((unhide M0).later (bel_drewN' (Below.refl _ W) nq))
      have d4 : (W.drewN nq).cell? ⟨cb, i * 5 + 4, none⟩ = some (.int .i64 ((t + 1 : Nat) : Int)) := c4
      have e4 : (W.drewN nq).frozen? ⟨cb, i * 5 + 4, none⟩ = false := f4
      have z0 : (W.drewN nq).cell? ⟨sb, 0, none⟩ = some (.slice (some ⟨cb, 0, none⟩) es.length cap) := y0
      generalize W.drewN nq = V0 at MD d4 e4 z0 ⊢
      have M1 := hide (unhide SETT V0 t (unhide MD))
      have wi : i < (withT es i t).length := by rw [withT_len]; exact hi
      clear c4 f4 y0 y1 x0 x1 hlk M0 SETT
      go_upto_region 5 with fail
      generalize hV1 : V0.setCell ⟨cb, i * 5 + 4, none⟩ (.int .i64 (t : Int)) = V1 at M1 ⊢
      clear hV1 d4 e4 z0 MD
      obtain ⟨cb', cap', hcv', _, _, _, _, hcells'⟩ := (unhide M1).sto.ents i wi
      have ecb : cb = cb' := by have := (Value.slice.inj hcv').1; exact congrArg Addr.block (Option.some.inj this)
      have r4 := (hcells' 4 (by omega)).1
      rw [← ecb, withT_self es i t wi hi] at r4
      simp only [entV, List.getElem?_cons_succ, List.getElem?_cons_zero] at r4
      have z0 := ((unhide M1).sto.head 0 (by omega)).1
      unfold stoF at z0
      clear hcv' hcells' ecb
      by_cases t0 : t = 0
      · subst t0
        obtain ⟨x0, x1, _, _⟩ := row_facts ((unhide M1).row (unhide RA))
        have lx := (unhide ((unhide M1).row (unhide RA))).lt
        have QS := hide (fun V => size_any s V sok)
        unfold keyV at QS
        obtain ⟨nz, hnz⟩ : ∃ n : Nat, s.size = n := ⟨_, rfl⟩
        rw [hnz] at QS SRH
        simp only [Nat.zero_add, true_and] at SRH
        go_upto_region 7 with fail
        go_wp2_with fail
        with_reducible refine (unhide QS _).mono ?_
        rintro e6 w6 ⟨rfl, hb6⟩
        simp only []
        have M6 := hide ((unhide M1).later hb6)
        have a0 := (hb6.cell (p := ⟨w.heap.size, 0, none⟩) lx).trans x0
        have a1 := (hb6.cell (p := ⟨w.heap.size, 1, none⟩) lx).trans x1
        have l6 : w.heap.size < w6.heap.size := by have := hb6.size; omega
        clear hb6 x0 x1 lx QS r4 z0 M1 hnz
        by_cases n1 : nz = 1
        · subst n1
          have SR : Hid (SInv (withT es i 0) wl (u.wo s) L') := by have := unhide SRH; rw [if_pos rfl] at this; exact this
          have QW := hide (fun V => without_any u s V uok sok)
          unfold keyV at QW
          have b3 := ((unhide M6).sto.head 3 (by omega)).1
          have b4 := ((unhide M6).sto.head 4 (by omega)).1
          have q3 := ((unhide M6).sto.head 3 (by omega)).2
          have q4 := ((unhide M6).sto.head 4 (by omega)).2
          unfold stoF at b3 b4
          have s6 := (unhide M6).sto.row.lt
          generalize hu2 : u.wo s = u2 at QW SR
          go_upto_region 8 with fail
          go_cut [] from 7 (fun wx => Hid (StoMem B sb W (.slice (some ⟨cb, 0, none⟩) es.length cap) mb gone u2 wv (withT es i 0) wl wx))
          case first =>
            go_region_with (go_at_call 114; refine (unhide QW _).mono ?_; rintro e7 w7 ⟨rfl, hb7⟩; have B7 : Hid (Below w6.heap.size w6 w7) := (by first | exact hb7 | exact (Below.refl _ _).drew.trans hb7); have M7 := hide ((unhide M6).later (unhide B7)); have r3 := ((unhide M7).sto.head 3 (by omega)).1; have r4 := ((unhide M7).sto.head 4 (by omega)).1; have r5 := ((unhide M7).sto.head 3 (by omega)).2; have r6 := ((unhide M7).sto.head 4 (by omega)).2; unfold stoF at r3 r4; clear hb7; simp only [])
            all_goals
              go_wp2_with fail
              go_meet
              first
                | exact (unhide M7).step ((unhide M7).sto.setU u2) ((unhide M7).sto.keeps_sb2 _ _ _ _) (((Below.refl _ _).setCell (unhide M7).sto.bsb _).setCell (unhide M7).sto.bsb _)
                | exact ((unhide M7).later (Below.refl _ _).drew).step (((unhide M7).later (Below.refl _ _).drew).sto.setU u2) (((unhide M7).later (Below.refl _ _).drew).sto.keeps_sb2 _ _ _ _) (((Below.refl _ _).setCell (unhide M7).sto.bsb _).setCell (unhide M7).sto.bsb _)
          case rest =>
            have MV : Hid (StoMem B sb W (.slice (some ⟨cb, 0, none⟩) es.length cap) mb gone u2 wv (withT es i 0) wl wc) := hcut
            clear hcut M6 b3 b4 q3 q4 a0 a1
            have g0 := ((unhide MV).sto.head 2 (by omega)).1
            have g1 := ((unhide MV).sto.head 2 (by omega)).2
            unfold stoF at g0
            have MG := hide ((unhide MV).step ((unhide MV).sto.gone' (gone + 1)) ((unhide MV).sto.keeps_sb 2 (.int .i64 (gone + 1))) ((Below.refl _ _).setCell (unhide MV).sto.bsb _))
            have QT := hide (tidy_any (wc.setCell ⟨sb, 2, none⟩ (.int .i64 (gone + 1))) (by rw [withT_len]; exact hlen) (by omega) (unhide MG).sto (unhide MG).tab (unhide SR).winv (unhide SR).dist (unhide SR).units.ok)
            go_upto_region 10 with fail
            go_wp2_with fail
            with_reducible refine (unhide QT).mono ?_
            rintro e9 w9 ⟨rfl, hb9, hk9, cv9, mb9, gone9, wv9, es9, wl9, hS9, hd9⟩
            simp only []
            have M9 := hide ((unhide MG).step hS9 hk9 hb9)
            have R9 := hide (rem_end (unhide SR) hd9)
            clear hS9 hk9 hb9 hd9 QT g0 g1 MG
            go_wp2
            go_ret
            exact ⟨(unhide BW2).trans (unhide M9).below, (unhide KW2).trans (unhide M9).keeps, .inr ⟨L', unhide HR, rfl, _, _, _, _, _, _, _, (unhide M9).sto, (unhide R9).1, by have := (unhide R9).2.1; rw [withT_len] at this; exact this, (unhide R9).2.2⟩⟩
        · have SR : Hid (SInv (withT es i 0) wl u L') := by have := unhide SRH; rw [if_neg n1] at this; exact this
          have MV := M6
          have nb : ((nz : Int) == 1) = false := by simp; omega
          go_upto_region 9 with fail
          have g0 := ((unhide MV).sto.head 2 (by omega)).1
          have g1 := ((unhide MV).sto.head 2 (by omega)).2
          unfold stoF at g0
          have MG := hide ((unhide MV).step ((unhide MV).sto.gone' (gone + 1)) ((unhide MV).sto.keeps_sb 2 (.int .i64 (gone + 1))) ((Below.refl _ _).setCell (unhide MV).sto.bsb _))
          have QT := hide (tidy_any (w6.setCell ⟨sb, 2, none⟩ (.int .i64 (gone + 1))) (by rw [withT_len]; exact hlen) (by omega) (unhide MG).sto (unhide MG).tab (unhide SR).winv (unhide SR).dist (unhide SR).units.ok)
          go_upto_region 10 with fail
          go_wp2_with fail
          with_reducible refine (unhide QT).mono ?_
          rintro e9 w9 ⟨rfl, hb9, hk9, cv9, mb9, gone9, wv9, es9, wl9, hS9, hd9⟩
          simp only []
          have M9 := hide ((unhide MG).step hS9 hk9 hb9)
          have R9 := hide (rem_end (unhide SR) hd9)
          clear hS9 hk9 hb9 hd9 QT g0 g1 MG
          go_wp2
          go_ret
          exact ⟨(unhide BW2).trans (unhide M9).below, (unhide KW2).trans (unhide M9).keeps, .inr ⟨L', unhide HR, rfl, _, _, _, _, _, _, _, (unhide M9).sto, (unhide R9).1, by have := (unhide R9).2.1; rw [withT_len] at this; exact this, (unhide R9).2.2⟩⟩
      · have tp : (0 : Int) < (t : Int) := by omega
        have SR : Hid (SInv (withT es i t) wl u L') := by have := unhide SRH; rw [if_neg (by omega)] at this; exact this
        go_wp2
        go_ret
        exact ⟨(unhide BW2).trans (unhide M1).below, (unhide KW2).trans (unhide M1).keeps, .inr ⟨L', unhide HR, rfl, _, _, _, _, _, _, _, (unhide M1).sto, unhide SR, by rw [withT_len]; exact Nat.le_refl _, .inl rfl⟩⟩
end Rd
end Go.Proofs.YtceahffmenbibaaGreatDoor
