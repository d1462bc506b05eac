/- Walk of the store's add. -/
import Derived.Test.YtceahffmenbibaaGreatDoorPent
import Derived.Outline
namespace Go.Proofs.YtceahffmenbibaaGreatDoor
namespace Rd
open Go Go.RowKit Go.Deep Go.Maps
set_option linter.unusedVariables false
set_option linter.unusedSimpArgs false
attribute [local go_sem ↓] Go.wp_at_zero Go.wp_at_succ

theorem look_some {es : List Ent} {s : Key} {i : Nat} (h : look es s = some i) : ∃ hi : i < es.length, (es[i]).set = s := by
  unfold look at h
  obtain ⟨hi, h2, _⟩ := List.findIdx?_eq_some_iff_getElem.1 h
  exact ⟨hi, by simpa using h2⟩
theorem Sto.setU {B sb mb : Nat} {w : World} {cv : Value} {gone : Int} {u : Key} {wv : Nat → Value} {es : List Ent} {wl : Nat → List Nat} (h : Sto B sb w cv mb gone u wv es wl) (k : Key) : Sto B sb ((w.setCell ⟨sb, 3, none⟩ (.int .u64 (k.1 : Int))).setCell ⟨sb, 4, none⟩ (.int .u64 (k.2 : Int))) cv mb gone k wv es wl :=
  h.reRow (((h.row.set 3 _).set 4 _).congr fun i hi => by
    match i with
    | 0 => rfl
    | 1 => rfl
    | 2 => rfl
    | 3 => rfl
    | 4 => rfl
    | n + 5 => simp [stoF]) (fun n hn => by rw [Below.heap_setCell _ _ _ _ hn, Below.heap_setCell _ _ _ _ hn])
theorem Sto.keeps_sb2 {B sb mb : Nat} {w : World} {cv : Value} {gone : Int} {u : Key} {wv : Nat → Value} {es : List Ent} {wl : Nat → List Nat} (h : Sto B sb w cv mb gone u wv es wl) (j j' : Nat) (x y : Value) : Keeps w ((w.setCell ⟨sb, j, none⟩ x).setCell ⟨sb, j', none⟩ y) := fun k hk => by
  have ne : k ≠ sb := fun e => by
    obtain ⟨c, hr, _⟩ := h.row
    obtain ⟨y, t, e1, e2, _⟩ := hk
    rw [e, hr] at e1; cases e1; exact e2 rfl
  rw [Below.heap_setCell _ _ _ _ ne, Below.heap_setCell _ _ _ _ ne]
def addE (es : List Ent) (s : Key) : List Ent := match look es s with
  | none => es ++ [{ enterE s with times := 1 }]
  | some i => es.modify i (fun e => { e with times := e.times + 1 })
def addW (es : List Ent) (wl : Nat → List Nat) (s : Key) : Nat → List Nat := match look es s with
  | none => enterW wl s es.length
  | some _ => wl
def AddPost (B sb mb : Nat) (gone : Int) (u : Key) (es : List Ent) (wl : Nat → List Nat) (s : Key) (w w' : World) : Prop :=
  Below B w w' ∧ Keeps w w' ∧ ∃ cv' wv' g', (g' = gone ∨ g' = gone - 1) ∧ Sto B sb w' cv' mb g' (if s.size = 1 then u.un s else u) wv' (addE es s) (addW es wl s)
theorem withT_succ (es : List Ent) (i : Nat) (hi : i < es.length) : withT es i ((es[i]).times + 1) = es.modify i (fun e => { e with times := e.times + 1 }) := by
  unfold withT
  refine List.ext_getElem? fun j => ?_
  rw [List.getElem?_modify, List.getElem?_modify]
  split
  · rename_i h; subst h; rw [List.getElem?_eq_getElem hi]; rfl
  · rfl
set_option maxHeartbeats 1000000 in
set_option maxRecDepth 100000 in
theorem add_any {B sb mb : Nat} {cv : Value} {gone : Int} {u : Key} {wv : Nat → Value} {es : List Ent} {wl : Nat → List Nat} (s : Key) (w : World) (hs : s.ok) (hu : u.ok) (hlen : es.length ≤ 1048576) (hwl : ∀ k, k < 128 → (wl k).length ≤ 2097152) (hgone : -4194304 ≤ gone ∧ gone ≤ 4194304) (htim : ∀ e ∈ es, e.times ≤ 4194304)
    (hS : Sto B sb w cv mb gone u wv es wl) (hT : Tab B w) :
    Calls Tryz.prog 68 #[.pointer (some ⟨sb, 0, none⟩), keyV s] w fun e w' => e = .returned (.tuple #[]) ∧ AddPost B sb mb gone u es wl s w w' := by
  have h0 := (hS.head 0 (by omega)).1
  have h1 := (hS.head 1 (by omega)).1
  unfold stoF at h0 h1
  have HS := hide hS
  have HT := hide hT
  have hsb : sb < w.heap.size := (unhide HS).row.lt
  have hne : ¬ sb = w.heap.size := by omega
  have hne2 : ¬ w.heap.size = sb := by omega
  clear hS hT
  obtain ⟨c, hc, hrun⟩ := (unhide HS).map.lookup hs
  unfold keyV at hrun ⊢
  have HRUN := hide hrun
  clear hrun
  go_enter Tryz.func68, Tryz.ntmps68
  go_wp2_with fail
  obtain ⟨W, hW⟩ : ∃ W, W = w.alloc (Obj.cells #[Value.int IntKind.u64 (s.1 : Int), Value.int IntKind.u64 (s.2 : Int)] 84) := ⟨_, rfl⟩
  have hbW : Below w.heap.size w W := by rw [hW]; exact (Below.refl _ _).alloc (Nat.le_refl _) _
  have x0 : W.cell? ⟨w.heap.size, 0, none⟩ = some (.int .u64 (s.1 : Int)) := by rw [hW]; simp
  have x1 : W.cell? ⟨w.heap.size, 1, none⟩ = some (.int .u64 (s.2 : Int)) := by rw [hW]; simp
  have xb : W.heap[w.heap.size]? = some (.cells #[.int .u64 (s.1 : Int), .int .u64 (s.2 : Int)] 84 (0, 0)) := by rw [hW]; exact heap_alloc_new _ _
  have FX : Hid (Foreign W w.heap.size) := ⟨_, _, xb, by decide⟩
  have y0 := (hbW.cell (p := ⟨sb, 0, none⟩) hsb).trans h0
  have y1 := (hbW.cell (p := ⟨sb, 1, none⟩) hsb).trans h1
  rw [← hW]
  have HSW := hide ((unhide HS).later hbW)
  have KW := hide (Keeps.of_below hbW)
  have HBW : Hid (Below B w W) := hbW.mono (unhide HS).bsize
  have hlk : ∀ n, (Instr.lookup 130 (.map (some mb)) (.agg #[.int .u64 (s.1 : Int), .int .u64 (s.2 : Int)]) true).run Tryz.prog (W.drewN n) = .ok (.tuple #[.int .i64 c, .bool (look es s).isSome]) (W.drewN n) := fun n => unhide HRUN (W.drewN n) (hbW.block mb (unhide HS).map.lt)
  clear hW hbW h0 h1 hne hne2 HRUN xb
  have HWL := hide hwl
  have HTM := hide htim
  have ltW : w.heap.size < W.heap.size := block_lt_of_cell x0
  obtain ⟨gl, gh⟩ := hgone
  have goalT : ∀ (X : World) (cvX : Value) (wvX : Nat → Value) (gX : Int) (esX : List Ent) (wlX : Nat → List Nat) (jX : Nat), True := fun _ _ _ _ _ _ _ => trivial
  clear goalT
  rcases hl : look es s with _ | i
  · rw [hl] at hlk hc
    have QE := hide (fun W' (h : Sto B sb W' cv mb gone u wv es wl) (hT : Tab B W') => enter_any s W' hs hl hlen hwl h hT)
    unfold keyV at QE
    obtain ⟨esX, hesX⟩ : ∃ x, x = es ++ [enterE s] := ⟨_, rfl⟩
    obtain ⟨wlX, hwlX⟩ : ∃ x, x = enterW wl s es.length := ⟨_, rfl⟩
    obtain ⟨jX, hj0⟩ : ∃ j, j = es.length := ⟨_, rfl⟩
    have lX : jX < esX.length := by rw [hesX, hj0]; simp
    have RX : Hid (withT esX jX ((esX[jX]'lX).times + 1) = addE es s ∧ wlX = addW es wl s) := by
      refine ⟨?_, by unfold addW; rw [hl]; exact hwlX⟩
      rw [withT_succ, hesX, hj0, modify_last]; unfold addE; rw [hl]; unfold enterE; rfl
    have tX : (esX[jX]'lX).times ≤ 4194304 := by subst hesX hj0; simp [enterE]
    obtain ⟨gX, hg0⟩ : ∃ g, g = gone := ⟨_, rfl⟩
    have GX : Hid (gX = gone ∨ gX = gone - 1) := .inl hg0
    clear hl hc hwl htim y0 HS
    go_quiet (fail)
    go_wp2_with fail
    refine (unhide QE _ ((unhide HSW).later (bel_drewN' (Below.refl _ _) _)) ((unhide HT).later (bel_drewN' (unhide HBW) _))).mono ?_
    rintro e5 X ⟨rfl, b5, k5, cvX, wvX, S5⟩
    rw [← hesX, ← hwlX, ← hg0] at S5
    have SX := hide S5
    have BX : Hid (Below B w X) := (bel_drewN' (unhide HBW) _).trans b5
    have k5' : Keeps W X := (Keeps.of_below (bel_drewN' (Below.refl _ W) _)).trans k5
    have KX : Hid (Keeps w X) := (unhide KW).trans k5'
    have z0 := (k5'.cell (j := 0) (unhide FX)).trans x0
    have z1 := (k5'.cell (j := 1) (unhide FX)).trans x1
    have FXX := hide (k5'.foreign (unhide FX))
    obtain ⟨cb, cap, hcv, hcb1, hcb2, hcb3, hcap, hcells⟩ := (unhide SX).ents jX lX
    have lenX : esX.length ≤ 2097152 := by rw [hesX]; simp; omega
    simp only []
    rw [← hj0]
    clear b5 k5 k5' S5 x0 x1 y1 hlk FX HSW HBW KW QE hesX hwlX hg0 hj0
    subst hcv
    have y0 := ((unhide SX).head 0 (by omega)).1
    have y3 := ((unhide SX).head 3 (by omega)).1
    have y4 := ((unhide SX).head 4 (by omega)).1
    have g3 := ((unhide SX).head 3 (by omega)).2
    have g4 := ((unhide SX).head 4 (by omega)).2
    unfold stoF at y0 y3 y4
    have c4 := (hcells 4 (by omega)).1
    have f4 := (hcells 4 (by omega)).2
    simp only [entV, List.getElem?_cons_succ, List.getElem?_cons_zero] at c4
    have S1 := hide ((unhide SX).setT lX ((esX[jX]'lX).times + 1))
    rw [(unhide RX).1, (unhide RX).2] at S1
    generalize (esX[jX]'lX).times = tm at c4 tX S1
    have hsX : sb < X.heap.size := (unhide SX).row.lt
    have hwX : w.heap.size < X.heap.size := block_lt_of_cell z0
    have ncb : ¬ cb = w.heap.size := fun e => by
      obtain ⟨y, t, e1, _, e3, _⟩ := unhide FXX
      rcases (unhide SX).cls.2 with ⟨e2, _⟩ | ⟨g', cap', cur, e2, _, hg', _⟩
      · cases e2
      · cases e2; rw [e, e1] at hg'; cases hg'; exact e3 rfl
    have jx0 : (0 : Int) ≤ (jX : Int) := by omega
    have jx1 : (jX : Int) < (esX.length : Int) := by omega
    clear hcells
    have B1 : Hid (Below B w (X.setCell ⟨cb, jX * 5 + 4, none⟩ (.int .i64 ((tm : Int) + 1)))) := (unhide BX).setCell hcb1 _
    have K1 : Hid (Keeps w (X.setCell ⟨cb, jX * 5 + 4, none⟩ (.int .i64 ((tm : Int) + 1)))) := (unhide KX).trans ((unhide SX).keeps_cb _ _)
    rw [show ((tm + 1 : Nat) : Int) = (tm : Int) + 1 by omega] at S1
    have w0 : (X.setCell ⟨cb, jX * 5 + 4, none⟩ (.int .i64 ((tm : Int) + 1))).cell? ⟨w.heap.size, 0, none⟩ = some (.int .u64 (s.1 : Int)) := by rw [World.cell?_setCell_far _ _ _ _ (by simpa using ncb)]; exact z0
    have w1 : (X.setCell ⟨cb, jX * 5 + 4, none⟩ (.int .i64 ((tm : Int) + 1))).cell? ⟨w.heap.size, 1, none⟩ = some (.int .u64 (s.2 : Int)) := by rw [World.cell?_setCell_far _ _ _ _ (by simpa using ncb)]; exact z1
    go_wp2_with fail
    refine (size_any s _ hs).mono ?_
    obtain ⟨Y, hY⟩ : ∃ Y, Y = X.setCell ⟨cb, jX * 5 + 4, none⟩ (.int .i64 ((tm : Int) + 1)) := ⟨_, rfl⟩
    rw [← hY] at S1 B1 K1 w0 w1 ⊢
    rintro e6 w6 ⟨rfl, hb6⟩
    have S6 := hide ((unhide S1).later hb6)
    have B6 : Hid (Below B w w6) := (unhide B1).trans (hb6.mono (unhide S1).bsize)
    have K6 : Hid (Keeps w w6) := (unhide K1).trans (Keeps.of_below hb6)
    have a0 := (hb6.cell (p := ⟨w.heap.size, 0, none⟩) (block_lt_of_cell w0)).trans w0
    have a1 := (hb6.cell (p := ⟨w.heap.size, 1, none⟩) (block_lt_of_cell w1)).trans w1
    have b3 := ((unhide S6).head 3 (by omega)).1
    have b4 := ((unhide S6).head 4 (by omega)).1
    have q3 := ((unhide S6).head 3 (by omega)).2
    have q4 := ((unhide S6).head 4 (by omega)).2
    unfold stoF at b3 b4
    clear hY hb6 w0 w1 z0 z1 y0 y3 y4 g3 g4 c4 f4 S1 B1 K1 SX BX KX RX FXX ncb hsX hwX jx0 jx1 lX
    obtain ⟨nz, hnz⟩ : ∃ n, n = s.size := ⟨_, rfl⟩
    rw [← hnz]
    simp only []
    by_cases h1 : nz = 1
    · have UP : Hid ((if s.size = 1 then u.un s else u) = u.un s) := by unfold Hid; rw [if_pos (by omega)]
      have qu := hide (fun W' => union_any u s W' hu hs)
      unfold keyV at qu
      have hx6 : w.heap.size < w6.heap.size := block_lt_of_cell a0
      have hs6 : sb < w6.heap.size := (unhide S6).row.lt
      subst h1
      clear hnz
      go_wp2
      go_region_with (go_at_call 75; refine (unhide qu _).mono ?_; rintro e7 w7 ⟨rfl, hb7⟩; have B7 : Hid (Below w6.heap.size w6 w7) := (Below.refl _ _).drew.trans hb7; have k3 := ((unhide B7).cell (p := ⟨sb, 3, none⟩) hs6).trans b3; have k4 := ((unhide B7).cell (p := ⟨sb, 4, none⟩) hs6).trans b4; have r3 := ((unhide B7).frozen (p := ⟨sb, 3, none⟩) hs6).trans q3; have r4 := ((unhide B7).frozen (p := ⟨sb, 4, none⟩) hs6).trans q4; clear hb7)
      all_goals
        have S7 := (unhide S6).later (unhide B7)
        have S8 := hide (S7.setU (u.un s))
        have B8 : Hid (Below B w ((w7.setCell ⟨sb, 3, none⟩ (.int .u64 ((u.un s).1 : Int))).setCell ⟨sb, 4, none⟩ (.int .u64 ((u.un s).2 : Int)))) := (((unhide B6).trans ((unhide B7).mono (unhide S6).bsize)).setCell S7.bsb _).setCell S7.bsb _
        have K8 : Hid (Keeps w ((w7.setCell ⟨sb, 3, none⟩ (.int .u64 ((u.un s).1 : Int))).setCell ⟨sb, 4, none⟩ (.int .u64 ((u.un s).2 : Int)))) := ((unhide K6).trans (Keeps.of_below (unhide B7))).trans (S7.keeps_sb2 _ _ _ _)
        clear S7
        go_wp2
        go_end0
        exact ⟨rfl, unhide B8, unhide K8, _, _, _, unhide GX, by rw [unhide UP]; exact unhide S8⟩
    · have UP : Hid ((if s.size = 1 then u.un s else u) = u) := by unfold Hid; rw [if_neg (by omega)]
      have hb : ((nz : Int) == 1) = false := by rw [beq_eq_false_iff_ne]; omega
      clear hnz h1
      go_wp2
      go_end0
      exact ⟨rfl, unhide B6, unhide K6, _, _, _, unhide GX, by rw [unhide UP]; exact unhide S6⟩
  · obtain ⟨hi, hset⟩ := look_some hl
    have hci := hc i hl
    subst hci
    rw [hl] at hlk
    obtain ⟨esX, hesX⟩ : ∃ x, x = es := ⟨_, rfl⟩
    obtain ⟨wlX, hwlX⟩ : ∃ x, x = wl := ⟨_, rfl⟩
    obtain ⟨jX, hj0⟩ : ∃ j, j = i := ⟨_, rfl⟩
    have lX : jX < esX.length := by rw [hesX, hj0]; exact hi
    have RX : Hid (withT esX jX ((esX[jX]'lX).times + 1) = addE es s ∧ wlX = addW es wl s) := by
      refine ⟨?_, by unfold addW; rw [hl]; exact hwlX⟩
      rw [withT_succ, hesX, hj0]; unfold addE; rw [hl]
    have tX : (esX[jX]'lX).times ≤ 4194304 := unhide HTM _ (by rw [← hesX]; exact List.getElem_mem lX)
    have lenX : esX.length ≤ 2097152 := by rw [hesX]; omega
    have SW := unhide HSW
    rw [← hesX, ← hwlX] at SW
    have HS2 := hide SW
    obtain ⟨cb0, cap0, hcv0, _, hcb02, hcb03, _, hcells0⟩ := SW.ents jX lX
    have t4 := (hcells0 4 (by omega)).1
    simp only [entV, List.getElem?_cons_succ, List.getElem?_cons_zero] at t4
    have t2 := (SW.head 2 (by omega)).1
    have q2 := (SW.head 2 (by omega)).2
    unfold stoF at t2
    subst hcv0
    rw [← hj0] at hlk
    have jx0 : (0 : Int) ≤ (jX : Int) := by omega
    have jx1 : (jX : Int) < (esX.length : Int) := by omega

    have hsW : sb < W.heap.size := SW.row.lt
    have jx2 : jX < es.length := by omega
    have jx3 : (jX : Int) < (es.length : Int) := by omega
    clear hl hc hwl htim HS SW hcells0 hj0
    obtain ⟨t0, ht0⟩ : ∃ t, t = (esX[jX]'lX).times := ⟨_, rfl⟩
    rw [← ht0] at t4
    clear ht0
    by_cases tz : t0 = 0
    · have tzb : ((t0 : Int) == 0) = true := by rw [beq_iff_eq]; omega
      go_quiet (fail)
      go_upto_region 6 with fail
      have SD := (unhide HS2).later (bel_drewN' (Below.refl _ W) nq)
      have KD : Keeps W (W.drewN nq) := Keeps.of_below (bel_drewN' (Below.refl _ W) _)
      obtain ⟨X, hX⟩ : ∃ X, X = (W.drewN nq).setCell ⟨sb, 2, none⟩ (.int .i64 (gone - 1)) := ⟨_, rfl⟩
      obtain ⟨gX, hg0⟩ : ∃ g, g = gone - 1 := ⟨_, rfl⟩
      rw [← hX]
      have GX : Hid (gX = gone ∨ gX = gone - 1) := .inr hg0
      have SX : Hid (Sto B sb X (.slice (some ⟨cb0, 0, none⟩) esX.length cap0) mb gX u wv esX wlX) := by unfold Hid; rw [hX, hg0]; exact SD.gone' _
      have BX : Hid (Below B w X) := by unfold Hid; rw [hX]; exact (bel_drewN' (unhide HBW) nq).setCell SD.bsb _
      have kX : Keeps W X := by rw [hX]; exact KD.trans (SD.keeps_sb _ _)
      have KX : Hid (Keeps w X) := (unhide KW).trans kX
      have z0 := (kX.cell (j := 0) (unhide FX)).trans x0
      have z1 := (kX.cell (j := 1) (unhide FX)).trans x1
      have FXX := hide (kX.foreign (unhide FX))
      obtain ⟨cb, cap, hcv, hcb1, hcb2, hcb3, hcap, hcells⟩ := (unhide SX).ents jX lX
      clear SD KD hX kX x0 x1 y1 hlk FX HSW HBW KW hg0 tz tzb t4 t2 q2 y0 HS2 hcb02 hcb03
      subst hesX hwlX
      cases hcv
      have y0 := ((unhide SX).head 0 (by omega)).1
      have y3 := ((unhide SX).head 3 (by omega)).1
      have y4 := ((unhide SX).head 4 (by omega)).1
      have g3 := ((unhide SX).head 3 (by omega)).2
      have g4 := ((unhide SX).head 4 (by omega)).2
      unfold stoF at y0 y3 y4
      have c4 := (hcells 4 (by omega)).1
      have f4 := (hcells 4 (by omega)).2
      simp only [entV, List.getElem?_cons_succ, List.getElem?_cons_zero] at c4
      have S1 := hide ((unhide SX).setT lX ((esX[jX]'lX).times + 1))
      rw [(unhide RX).1, (unhide RX).2] at S1
      generalize (esX[jX]'lX).times = tm at c4 tX S1
      have hsX : sb < X.heap.size := (unhide SX).row.lt
      have hwX : w.heap.size < X.heap.size := block_lt_of_cell z0
      have ncb : ¬ cb0 = w.heap.size := fun e => by
        obtain ⟨y, t, e1, _, e3, _⟩ := unhide FXX
        rcases (unhide SX).cls.2 with ⟨e2, _⟩ | ⟨g', cap0', cur, e2, _, hg', _⟩
        · cases e2
        · cases e2; rw [e, e1] at hg'; cases hg'; exact e3 rfl
      have jx0 : (0 : Int) ≤ (jX : Int) := by omega
      have jx1 : (jX : Int) < (esX.length : Int) := by omega
      clear hcells
      have B1 : Hid (Below B w (X.setCell ⟨cb0, jX * 5 + 4, none⟩ (.int .i64 ((tm : Int) + 1)))) := (unhide BX).setCell hcb1 _
      have K1 : Hid (Keeps w (X.setCell ⟨cb0, jX * 5 + 4, none⟩ (.int .i64 ((tm : Int) + 1)))) := (unhide KX).trans ((unhide SX).keeps_cb _ _)
      rw [show ((tm + 1 : Nat) : Int) = (tm : Int) + 1 by omega] at S1
      have w0 : (X.setCell ⟨cb0, jX * 5 + 4, none⟩ (.int .i64 ((tm : Int) + 1))).cell? ⟨w.heap.size, 0, none⟩ = some (.int .u64 (s.1 : Int)) := by rw [World.cell?_setCell_far _ _ _ _ (by simpa using ncb)]; exact z0
      have w1 : (X.setCell ⟨cb0, jX * 5 + 4, none⟩ (.int .i64 ((tm : Int) + 1))).cell? ⟨w.heap.size, 1, none⟩ = some (.int .u64 (s.2 : Int)) := by rw [World.cell?_setCell_far _ _ _ _ (by simpa using ncb)]; exact z1
      go_wp2_with fail
      refine (size_any s _ hs).mono ?_
      obtain ⟨Y, hY⟩ : ∃ Y, Y = X.setCell ⟨cb0, jX * 5 + 4, none⟩ (.int .i64 ((tm : Int) + 1)) := ⟨_, rfl⟩
      rw [← hY] at S1 B1 K1 w0 w1 ⊢
      rintro e6 w6 ⟨rfl, hb6⟩
      have S6 := hide ((unhide S1).later hb6)
      have B6 : Hid (Below B w w6) := (unhide B1).trans (hb6.mono (unhide S1).bsize)
      have K6 : Hid (Keeps w w6) := (unhide K1).trans (Keeps.of_below hb6)
      have a0 := (hb6.cell (p := ⟨w.heap.size, 0, none⟩) (block_lt_of_cell w0)).trans w0
      have a1 := (hb6.cell (p := ⟨w.heap.size, 1, none⟩) (block_lt_of_cell w1)).trans w1
      have b3 := ((unhide S6).head 3 (by omega)).1
      have b4 := ((unhide S6).head 4 (by omega)).1
      have q3 := ((unhide S6).head 3 (by omega)).2
      have q4 := ((unhide S6).head 4 (by omega)).2
      unfold stoF at b3 b4
      clear hY hb6 w0 w1 z0 z1 y0 y3 y4 g3 g4 c4 f4 S1 B1 K1 SX BX KX RX FXX ncb hsX hwX jx0 jx1 lX
      obtain ⟨nz, hnz⟩ : ∃ n, n = s.size := ⟨_, rfl⟩
      rw [← hnz]
      simp only []
      by_cases h1 : nz = 1
      · have UP : Hid ((if s.size = 1 then u.un s else u) = u.un s) := by unfold Hid; rw [if_pos (by omega)]
        have qu := hide (fun W' => union_any u s W' hu hs)
        unfold keyV at qu
        have hx6 : w.heap.size < w6.heap.size := block_lt_of_cell a0
        have hs6 : sb < w6.heap.size := (unhide S6).row.lt
        subst h1
        clear hnz
        go_wp2
        go_region_with (go_at_call 75; refine (unhide qu _).mono ?_; rintro e7 w7 ⟨rfl, hb7⟩; have B7 : Hid (Below w6.heap.size w6 w7) := (Below.refl _ _).drew.trans hb7; have k3 := ((unhide B7).cell (p := ⟨sb, 3, none⟩) hs6).trans b3; have k4 := ((unhide B7).cell (p := ⟨sb, 4, none⟩) hs6).trans b4; have r3 := ((unhide B7).frozen (p := ⟨sb, 3, none⟩) hs6).trans q3; have r4 := ((unhide B7).frozen (p := ⟨sb, 4, none⟩) hs6).trans q4; clear hb7)
        all_goals
          have S7 := (unhide S6).later (unhide B7)
          have S8 := hide (S7.setU (u.un s))
          have B8 : Hid (Below B w ((w7.setCell ⟨sb, 3, none⟩ (.int .u64 ((u.un s).1 : Int))).setCell ⟨sb, 4, none⟩ (.int .u64 ((u.un s).2 : Int)))) := (((unhide B6).trans ((unhide B7).mono (unhide S6).bsize)).setCell S7.bsb _).setCell S7.bsb _
          have K8 : Hid (Keeps w ((w7.setCell ⟨sb, 3, none⟩ (.int .u64 ((u.un s).1 : Int))).setCell ⟨sb, 4, none⟩ (.int .u64 ((u.un s).2 : Int)))) := ((unhide K6).trans (Keeps.of_below (unhide B7))).trans (S7.keeps_sb2 _ _ _ _)
          clear S7
          go_wp2
          go_end0
          exact ⟨rfl, unhide B8, unhide K8, _, _, _, unhide GX, by rw [unhide UP]; exact unhide S8⟩
      · have UP : Hid ((if s.size = 1 then u.un s else u) = u) := by unfold Hid; rw [if_neg (by omega)]
        have hb : ((nz : Int) == 1) = false := by rw [beq_eq_false_iff_ne]; omega
        clear hnz h1
        go_wp2
        go_end0
        exact ⟨rfl, unhide B6, unhide K6, _, _, _, unhide GX, by rw [unhide UP]; exact unhide S6⟩
    · have tzb : ((t0 : Int) == 0) = false := by rw [beq_eq_false_iff_ne]; omega
      go_quiet (fail)
      go_upto_region 6 with fail
      have SD := (unhide HS2).later (bel_drewN' (Below.refl _ W) nq)
      have KD : Keeps W (W.drewN nq) := Keeps.of_below (bel_drewN' (Below.refl _ W) _)
      obtain ⟨X, hX⟩ : ∃ X, X = W.drewN nq := ⟨_, rfl⟩
      obtain ⟨gX, hg0⟩ : ∃ g, g = gone := ⟨_, rfl⟩
      rw [← hX]
      have GX : Hid (gX = gone ∨ gX = gone - 1) := .inl hg0
      have SX : Hid (Sto B sb X (.slice (some ⟨cb0, 0, none⟩) esX.length cap0) mb gX u wv esX wlX) := by unfold Hid; rw [hX, hg0]; exact SD
      have BX : Hid (Below B w X) := by unfold Hid; rw [hX]; exact bel_drewN' (unhide HBW) nq
      have kX : Keeps W X := by rw [hX]; exact KD
      have KX : Hid (Keeps w X) := (unhide KW).trans kX
      have z0 := (kX.cell (j := 0) (unhide FX)).trans x0
      have z1 := (kX.cell (j := 1) (unhide FX)).trans x1
      have FXX := hide (kX.foreign (unhide FX))
      obtain ⟨cb, cap, hcv, hcb1, hcb2, hcb3, hcap, hcells⟩ := (unhide SX).ents jX lX
      clear SD KD hX kX x0 x1 y1 hlk FX HSW HBW KW hg0 tz tzb t4 t2 q2 y0 HS2 hcb02 hcb03
      subst hesX hwlX
      cases hcv
      have y0 := ((unhide SX).head 0 (by omega)).1
      have y3 := ((unhide SX).head 3 (by omega)).1
      have y4 := ((unhide SX).head 4 (by omega)).1
      have g3 := ((unhide SX).head 3 (by omega)).2
      have g4 := ((unhide SX).head 4 (by omega)).2
      unfold stoF at y0 y3 y4
      have c4 := (hcells 4 (by omega)).1
      have f4 := (hcells 4 (by omega)).2
      simp only [entV, List.getElem?_cons_succ, List.getElem?_cons_zero] at c4
      have S1 := hide ((unhide SX).setT lX ((esX[jX]'lX).times + 1))
      rw [(unhide RX).1, (unhide RX).2] at S1
      generalize (esX[jX]'lX).times = tm at c4 tX S1
      have hsX : sb < X.heap.size := (unhide SX).row.lt
      have hwX : w.heap.size < X.heap.size := block_lt_of_cell z0
      have ncb : ¬ cb0 = w.heap.size := fun e => by
        obtain ⟨y, t, e1, _, e3, _⟩ := unhide FXX
        rcases (unhide SX).cls.2 with ⟨e2, _⟩ | ⟨g', cap0', cur, e2, _, hg', _⟩
        · cases e2
        · cases e2; rw [e, e1] at hg'; cases hg'; exact e3 rfl
      have jx0 : (0 : Int) ≤ (jX : Int) := by omega
      have jx1 : (jX : Int) < (esX.length : Int) := by omega
      clear hcells
      have B1 : Hid (Below B w (X.setCell ⟨cb0, jX * 5 + 4, none⟩ (.int .i64 ((tm : Int) + 1)))) := (unhide BX).setCell hcb1 _
      have K1 : Hid (Keeps w (X.setCell ⟨cb0, jX * 5 + 4, none⟩ (.int .i64 ((tm : Int) + 1)))) := (unhide KX).trans ((unhide SX).keeps_cb _ _)
      rw [show ((tm + 1 : Nat) : Int) = (tm : Int) + 1 by omega] at S1
      have w0 : (X.setCell ⟨cb0, jX * 5 + 4, none⟩ (.int .i64 ((tm : Int) + 1))).cell? ⟨w.heap.size, 0, none⟩ = some (.int .u64 (s.1 : Int)) := by rw [World.cell?_setCell_far _ _ _ _ (by simpa using ncb)]; exact z0
      have w1 : (X.setCell ⟨cb0, jX * 5 + 4, none⟩ (.int .i64 ((tm : Int) + 1))).cell? ⟨w.heap.size, 1, none⟩ = some (.int .u64 (s.2 : Int)) := by rw [World.cell?_setCell_far _ _ _ _ (by simpa using ncb)]; exact z1
      go_wp2_with fail
      refine (size_any s _ hs).mono ?_
      obtain ⟨Y, hY⟩ : ∃ Y, Y = X.setCell ⟨cb0, jX * 5 + 4, none⟩ (.int .i64 ((tm : Int) + 1)) := ⟨_, rfl⟩
      rw [← hY] at S1 B1 K1 w0 w1 ⊢
      rintro e6 w6 ⟨rfl, hb6⟩
      have S6 := hide ((unhide S1).later hb6)
      have B6 : Hid (Below B w w6) := (unhide B1).trans (hb6.mono (unhide S1).bsize)
      have K6 : Hid (Keeps w w6) := (unhide K1).trans (Keeps.of_below hb6)
      have a0 := (hb6.cell (p := ⟨w.heap.size, 0, none⟩) (block_lt_of_cell w0)).trans w0
      have a1 := (hb6.cell (p := ⟨w.heap.size, 1, none⟩) (block_lt_of_cell w1)).trans w1
      have b3 := ((unhide S6).head 3 (by omega)).1
      have b4 := ((unhide S6).head 4 (by omega)).1
      have q3 := ((unhide S6).head 3 (by omega)).2
      have q4 := ((unhide S6).head 4 (by omega)).2
      unfold stoF at b3 b4
      clear hY hb6 w0 w1 z0 z1 y0 y3 y4 g3 g4 c4 f4 S1 B1 K1 SX BX KX RX FXX ncb hsX hwX jx0 jx1 lX
      obtain ⟨nz, hnz⟩ : ∃ n, n = s.size := ⟨_, rfl⟩
      rw [← hnz]
      simp only []
      by_cases h1 : nz = 1
      · have UP : Hid ((if s.size = 1 then u.un s else u) = u.un s) := by unfold Hid; rw [if_pos (by omega)]
        have qu := hide (fun W' => union_any u s W' hu hs)
        unfold keyV at qu
        have hx6 : w.heap.size < w6.heap.size := block_lt_of_cell a0
        have hs6 : sb < w6.heap.size := (unhide S6).row.lt
        subst h1
        clear hnz
        go_wp2
        go_region_with (go_at_call 75; refine (unhide qu _).mono ?_; rintro e7 w7 ⟨rfl, hb7⟩; have B7 : Hid (Below w6.heap.size w6 w7) := (Below.refl _ _).drew.trans hb7; have k3 := ((unhide B7).cell (p := ⟨sb, 3, none⟩) hs6).trans b3; have k4 := ((unhide B7).cell (p := ⟨sb, 4, none⟩) hs6).trans b4; have r3 := ((unhide B7).frozen (p := ⟨sb, 3, none⟩) hs6).trans q3; have r4 := ((unhide B7).frozen (p := ⟨sb, 4, none⟩) hs6).trans q4; clear hb7)
        all_goals
          have S7 := (unhide S6).later (unhide B7)
          have S8 := hide (S7.setU (u.un s))
          have B8 : Hid (Below B w ((w7.setCell ⟨sb, 3, none⟩ (.int .u64 ((u.un s).1 : Int))).setCell ⟨sb, 4, none⟩ (.int .u64 ((u.un s).2 : Int)))) := (((unhide B6).trans ((unhide B7).mono (unhide S6).bsize)).setCell S7.bsb _).setCell S7.bsb _
          have K8 : Hid (Keeps w ((w7.setCell ⟨sb, 3, none⟩ (.int .u64 ((u.un s).1 : Int))).setCell ⟨sb, 4, none⟩ (.int .u64 ((u.un s).2 : Int)))) := ((unhide K6).trans (Keeps.of_below (unhide B7))).trans (S7.keeps_sb2 _ _ _ _)
          clear S7
          go_wp2
          go_end0
          exact ⟨rfl, unhide B8, unhide K8, _, _, _, unhide GX, by rw [unhide UP]; exact unhide S8⟩
      · have UP : Hid ((if s.size = 1 then u.un s else u) = u) := by unfold Hid; rw [if_neg (by omega)]
        have hb : ((nz : Int) == 1) = false := by rw [beq_eq_false_iff_ne]; omega
        clear hnz h1
        go_wp2
        go_end0
        exact ⟨rfl, unhide B6, unhide K6, _, _, _, unhide GX, by rw [unhide UP]; exact unhide S6⟩
end Rd
end Go.Proofs.YtceahffmenbibaaGreatDoor
