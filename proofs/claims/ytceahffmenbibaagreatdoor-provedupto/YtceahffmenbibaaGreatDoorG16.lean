/- Pwat. -/
import Derived.Test.YtceahffmenbibaaGreatDoorG14
import Derived.Deep.DrawnRows
import Derived.Deep.Cut
import Derived.Outline
set_option linter.unusedVariables false
set_option linter.unusedSimpArgs false
namespace Go.Proofs.YtceahffmenbibaaGreatDoor
namespace Rd
open Go Go.RowKit Go.Deep
attribute [local go_sem ↓] Go.wp_at_zero Go.wp_at_succ
def Tab (B:Nat) (w:World):Prop:=TabAt 5 Lib.deBruijn64tab w∧5 < B
theorem Tab.later {B:Nat} {w w':World} (h:Tab B w) (hb:Below B w w'):Tab B w':=
 ⟨fun j hj=>by rw [hb.cell (p:=⟨_,j,none⟩) h.2];exact h.1 j hj,h.2⟩
set_option maxHeartbeats 4000000 in
set_option maxRecDepth 100000 in
theorem watch_any3 {B sb mb:Nat} {cv:Value} {gone:Int} {u:Key} {wv:Nat→Value} {es:List Ent} {wl:Nat→List Nat} (i:Nat) (l:Int) (w:World) (hl:IsLit l) (hi:i < es.length) (hk:(es[i]).watched.ok) (hlen:es.length ≤ 2097152) (hwl:(wl (place l)).length ≤ 4194304)
  (hS:Sto B sb w cv mb gone u wv es wl) (hT:Tab B w):
  Calls Tryz.prog 159 #[.pointer (some ⟨sb,0,none⟩),.int .i64 i,keyV (single l)] w fun e w'=>e=.returned (.tuple #[])∧Below B w w'∧Keeps w w'∧KeepE cv cv w w'∧
   ∃ wv',(∀ k,k ≠ place l→wv' k=wv k)∧Sto B sb w' cv mb gone u wv' (withW es i ((es[i]).watched.un (single l))) (fun k=>if k=place l then wl (place l) ++ [i] else wl k):=by
 obtain ⟨cb,cap,hcv,hcb1,hcb2,hcb3,hcap,hcells⟩:=hS.ents i hi
 obtain ⟨i0,hii,hz0,hz1,hz2⟩:=info_parts Tryz.infoInt'
 have h0:=(hS.head 0 (by omega)).1
 subst hcv
 have c2:=(hcells 2 (by omega)).1
 have c3:=(hcells 3 (by omega)).1
 have f2:=(hcells 2 (by omega)).2
 have f3:=(hcells 3 (by omega)).2
 unfold stoF at h0
 simp only [entV,List.getElem?_cons_succ,List.getElem?_cons_zero] at c2 c3
 have HS:=hide hS
 have HT:=hide hT
 have lit:=single_ok hl
 have qu:=fun W=>union_any (es[i]).watched (single l) W hk lit
 unfold keyV at qu ⊢
 generalize hku:(es[i]).watched.un (single l)=nk at qu ⊢
 generalize hkw:(es[i]).watched=wk at c2 c3 qu
 have plt:=place_lt hl
 have QP:Hid (∀ W,Tab B W→Calls Tryz.prog 199 #[keyV (single l)] W fun e w'=>e=.returned (.int .i64 (place l:Nat))∧Below W.heap.size W w'):=fun W h=>place_any l W hl h.1
 unfold keyV at QP
 generalize single l=sl at qu QP ⊢
 generalize place l=pl at QP hwl plt ⊢
 clear hcells hS hT hku hkw lit
 go_enter Tryz.func159,Tryz.ntmps159
 go_wp2
 obtain ⟨W,hW⟩:∃ W,W=w.alloc (Obj.cells #[Value.int IntKind.u64 (sl.1:Int),Value.int IntKind.u64 (sl.2:Int)] 84):=⟨_,rfl⟩
 have hbW:Below w.heap.size w W:=by rw [hW];exact (Below.refl _ _).alloc (Nat.le_refl _) _
 have sW:W.heap.size=w.heap.size + 1:=by rw [hW];simp
 have x0:W.cell? ⟨w.heap.size,0,none⟩=some (.int .u64 (sl.1:Int)):=by rw [hW];simp
 have x1:W.cell? ⟨w.heap.size,1,none⟩=some (.int .u64 (sl.2:Int)):=by rw [hW];simp
 have hsb:sb < w.heap.size:=(unhide HS).row.lt
 have y0:W.cell? ⟨sb,0,none⟩=some (.slice (some ⟨cb,0,none⟩) es.length cap):=by rw [hbW.cell (p:=⟨sb,0,none⟩) hsb];exact h0
 have y2:=(hbW.cell (p:=⟨cb,i * 5 + 2,none⟩) hcb2).trans c2
 have y3:=(hbW.cell (p:=⟨cb,i * 5 + 3,none⟩) hcb2).trans c3
 have z2:=(hbW.frozen (p:=⟨cb,i * 5 + 2,none⟩) hcb2).trans f2
 have z3:=(hbW.frozen (p:=⟨cb,i * 5 + 3,none⟩) hcb2).trans f3
 rw [← hW]
 have HSW:=hide ((unhide HS).later hbW)
 have KW:=hide (Keeps.of_below hbW)
 have EW:=hide (KeepE.of_below (cv:=.slice (some ⟨cb,0,none⟩) es.length cap) hbW)
 have HBW:Hid (Below B w W):=hbW.mono (unhide HS).bsize
 have HTW:Hid (Tab B W):=(unhide HT).later (unhide HBW)
 clear hW hbW h0 c2 c3 f2 f3 HS
 have ii0:(0:Int) ≤ (i:Int):=by omega
 have ii1:(i:Int) < (es.length:Int):=by omega
 have KS:Hid (∀ w',Below W.heap.size W w'→(w'.cell? ⟨sb,0,none⟩=some (.slice (some ⟨cb,0,none⟩) es.length cap)∧w'.cell? ⟨w.heap.size,0,none⟩=some (.int .u64 (sl.1:Int))∧w'.cell? ⟨w.heap.size,1,none⟩=some (.int .u64 (sl.2:Int)))∧
   w'.cell? ⟨cb,i * 5 + 2,none⟩=some (.int .u64 (wk.1:Int))∧w'.cell? ⟨cb,i * 5 + 3,none⟩=some (.int .u64 (wk.2:Int))∧w'.frozen? ⟨cb,i * 5 + 2,none⟩=false∧w'.frozen? ⟨cb,i * 5 + 3,none⟩=false):=fun w' h=>
  ⟨⟨(h.cell (p:=⟨sb,0,none⟩) (by simp;omega)).trans y0,(h.cell (p:=⟨w.heap.size,0,none⟩) (by simp;omega)).trans x0,(h.cell (p:=⟨w.heap.size,1,none⟩) (by simp;omega)).trans x1⟩,
   (h.cell (p:=⟨cb,i * 5 + 2,none⟩) (by simp;omega)).trans y2,(h.cell (p:=⟨cb,i * 5 + 3,none⟩) (by simp;omega)).trans y3,(h.frozen (p:=⟨cb,i * 5 + 2,none⟩) (by simp;omega)).trans z2,(h.frozen (p:=⟨cb,i * 5 + 3,none⟩) (by simp;omega)).trans z3⟩
 go_cut [] from 7 (fun wx=>∃ w7,Hid (Below W.heap.size W w7)∧wx=(w7.setCell ⟨cb,i * 5 + 2,none⟩ (.int .u64 (nk.1:Int))).setCell ⟨cb,i * 5 + 2 + 1,none⟩ (.int .u64 (nk.2:Int)))
 case first=>
  go_region_with (go_at_call 75;refine (qu _).mono ?_;rintro e7 w7 ⟨rfl,hb7⟩;have B7:Hid (Below W.heap.size W w7):=(Below.refl _ _).drew.trans hb7;obtain ⟨⟨k0,_⟩,k2,k3,k4,k5⟩:=unhide KS w7 (unhide B7);clear hb7)
  all_goals
   go_wp2_with fail
   go_meet
   exact ⟨_,B7,rfl⟩
 case rest=>
  obtain ⟨w7,B7,hwc⟩:=hcut
  have S7:=(unhide HSW).later (unhide B7)
  have SC:=S7.setW hi nk
  have KC:Hid (Keeps w wc):=by unfold Hid;rw [hwc];exact ((unhide KW).trans (Keeps.of_below (unhide B7))).trans (S7.keeps_cb2 _ _ _ _)
  have EC:Hid (KeepE (.slice (some ⟨cb,0,none⟩) es.length cap) (.slice (some ⟨cb,0,none⟩) es.length cap) w wc):=by unfold Hid;rw [hwc];exact ((unhide EW).trans (KeepE.of_below (unhide B7))).trans (S7.keepE_cb2 _ _ _ _)
  have BC:Below B w wc:=by rw [hwc];exact (((unhide HBW).trans ((unhide B7).mono (unhide HSW).bsize)).setCell hcb1 _).setCell hcb1 _
  rw [← hwc] at SC
  have xc:∀ j,j < 2→wc.cell? ⟨w.heap.size,j,none⟩=W.cell? ⟨w.heap.size,j,none⟩:=fun j hj=>by
   rw [hwc,World.cell?_setCell_far _ _ _ _ (by simp;omega),World.cell?_setCell_far _ _ _ _ (by simp;omega)]
   exact (unhide B7).cell (p:=⟨w.heap.size,j,none⟩) (by simp;omega)
  have v0:=(xc 0 (by omega)).trans x0
  have v1:=(xc 1 (by omega)).trans x1
  have HSC:=hide SC
  have HBC:=hide BC
  have HTC:Hid (Tab B wc):=(unhide HT).later BC
  have qp:=unhide QP wc (unhide HTC)
  clear hwc S7 SC BC xc KS y0 y2 y3 z2 z3 x0 x1 B7 HSW HBW HTW qu
  go_wp2_with fail
  with_reducible refine qp.mono ?_
  rintro e8 w8 ⟨rfl,hb8⟩
  have S8:=(unhide HSC).later hb8
  have K8:Hid (Keeps w w8.drew):=((unhide KC).trans (Keeps.of_below hb8)).trans (Keeps.of_below (Below.refl _ _).drew)
  have E8:Hid (KeepE (.slice (some ⟨cb,0,none⟩) es.length cap) (.slice (some ⟨cb,0,none⟩) es.length cap) w w8.drew):=((unhide EC).trans (KeepE.of_below hb8)).trans (KeepE.of_below (Below.refl _ _).drew)
  have B8:Hid (Below B w w8):=(unhide HBC).trans (hb8.mono (unhide HSC).bsize)
  obtain ⟨wa,wcap,hwsh⟩:=own_shape (S8.wat pl plt)
  have hd:=S8.head (5 + pl) (by omega)
  rw [show stoF (.slice (some ⟨cb,0,none⟩) es.length cap) mb gone u wv (5 + pl)=wv pl by rw [Nat.add_comm];rfl,hwsh] at hd
  obtain ⟨hd1,hd2⟩:=hd
  have HS8:=hide S8
  have sb8:=S8.bsize
  have hsb8:=S8.row.lt
  clear qp hb8 S8
  have SD:Hid (Sto B sb w8.drew (.slice (some ⟨cb,0,none⟩) es.length cap) mb gone u wv (withW es i nk) wl):=(unhide HS8).later (Below.refl _ _).drew
  have OD:Hid (w8.drew.ownsRow B 3 1 (.slice wa (wl pl).length wcap) (wl pl).length (natsV (wl pl))):=by have:=(unhide SD).wat pl plt;rw [hwsh] at this;exact this
  have BD:Hid (Below B w w8.drew):=(unhide B8).drew
  have HWS:=hide hwsh
  have nl:(wl pl).length ≤ 4194304:=hwl
  have pi0:(0:Int) ≤ (pl:Int):=by omega
  have pi1:(pl:Int) < 128:=by omega
  clear hwsh
  go_wp2
  go_region_law
   (refine step_append_any _ (by rfl) _ _ 43 (by rfl) B 3 i0 (.int .i64 0) 1 8 Tryz.underlying43 hii hz0 hz1 hz2 (by rfl) (by decide) (.slice wa (wl pl).length wcap) (wl pl).length (natsV (wl pl)) (by rfl) ((unhide OD).alloc (Obj.cells #[.int .i64 (i:Int)] 3)) (.slice (some ⟨w8.heap.size,0,none⟩) 1 1) 1 [.int .i64 (i:Int)] (by rfl) (.inr ⟨⟨w8.heap.size,0,none⟩,1,rfl,(cell_one_new w8.drew _ _)⟩) (by rfl) (by simp [Value.oneCell']) (by unfold maxLen;omega) (by omega) (by simp;omega) ?_;intro v6 w6 A6;have A7:Appended (w8.drew.alloc (Obj.cells #[.int .i64 (i:Int)] 3)) B 3 1 (wv pl) (wl pl).length (natsV (wl pl)) 1 [.int .i64 (i:Int)] v6 w6:=(by rw [unhide HWS];exact A6);have S6:=hide ((unhide SD).pushW plt A7);have B6:=hide ((unhide SD).belowApp plt A7 (unhide BD) v6 (5 + pl));have KE:=hide ((unhide K8).trans ((unhide SD).keeps_app plt A7 v6 (5 + pl)));have EE:=hide ((unhide E8).trans ((unhide SD).keepE_app plt A7 v6 (5 + pl)));have K6:=((unhide SD).headApp plt A7 (5 + pl) (by omega)).1;have K7:=((unhide SD).headApp plt A7 (5 + pl) (by omega)).2;obtain ⟨va6,vc6,hv6⟩:=own_shape A6.own;subst hv6;clear A6 A7)
  all_goals
   go_wp2
   go_end0
   exact ⟨rfl,unhide B6,unhide KE,unhide EE,_,fun k hk=>if_neg hk,unhide S6⟩
theorem watch_any2 {B sb mb:Nat} {cv:Value} {gone:Int} {u:Key} {wv:Nat→Value} {es:List Ent} {wl:Nat→List Nat} (i:Nat) (l:Int) (w:World) (hl:IsLit l) (hi:i < es.length) (hk:(es[i]).watched.ok) (hlen:es.length ≤ 2097152) (hwl:(wl (place l)).length ≤ 4194304)
  (hS:Sto B sb w cv mb gone u wv es wl) (hT:Tab B w):
  Calls Tryz.prog 159 #[.pointer (some ⟨sb,0,none⟩),.int .i64 i,keyV (single l)] w fun e w'=>e=.returned (.tuple #[])∧Below B w w'∧Keeps w w'∧
   ∃ wv',(∀ k,k ≠ place l→wv' k=wv k)∧Sto B sb w' cv mb gone u wv' (withW es i ((es[i]).watched.un (single l))) (fun k=>if k=place l then wl (place l) ++ [i] else wl k):=by
 with_reducible refine (watch_any3 i l w hl hi hk hlen hwl hS hT).mono ?_
 rintro e w' ⟨h1,h2,h3,_,wv',h5,h4⟩
 exact ⟨h1,h2,h3,wv',h5,h4⟩
theorem watch_anyE {B sb mb:Nat} {cv:Value} {gone:Int} {u:Key} {wv:Nat→Value} {es:List Ent} {wl:Nat→List Nat} (i:Nat) (l:Int) (w:World) (hl:IsLit l) (hi:i < es.length) (hk:(es[i]).watched.ok) (hlen:es.length ≤ 2097152) (hwl:(wl (place l)).length ≤ 4194304)
  (hS:Sto B sb w cv mb gone u wv es wl) (hT:Tab B w):
  Calls Tryz.prog 159 #[.pointer (some ⟨sb,0,none⟩),.int .i64 i,keyV (single l)] w fun e w'=>e=.returned (.tuple #[])∧Below B w w'∧Keeps w w'∧KeepE cv cv w w'∧
   ∃ wv',Sto B sb w' cv mb gone u wv' (withW es i ((es[i]).watched.un (single l))) (fun k=>if k=place l then wl (place l) ++ [i] else wl k):=by
 with_reducible refine (watch_any3 i l w hl hi hk hlen hwl hS hT).mono ?_
 rintro e w' ⟨h1,h2,h3,h6,wv',_,h4⟩
 exact ⟨h1,h2,h3,h6,wv',h4⟩
theorem watch_any {B sb mb:Nat} {cv:Value} {gone:Int} {u:Key} {wv:Nat→Value} {es:List Ent} {wl:Nat→List Nat} (i:Nat) (l:Int) (w:World) (hl:IsLit l) (hi:i < es.length) (hk:(es[i]).watched.ok) (hlen:es.length ≤ 2097152) (hwl:(wl (place l)).length ≤ 4194304)
  (hS:Sto B sb w cv mb gone u wv es wl) (hT:Tab B w):
  Calls Tryz.prog 159 #[.pointer (some ⟨sb,0,none⟩),.int .i64 i,keyV (single l)] w fun e w'=>e=.returned (.tuple #[])∧Below B w w'∧Keeps w w'∧
   ∃ wv',Sto B sb w' cv mb gone u wv' (withW es i ((es[i]).watched.un (single l))) (fun k=>if k=place l then wl (place l) ++ [i] else wl k):=by
 with_reducible refine (watch_any2 i l w hl hi hk hlen hwl hS hT).mono ?_
 rintro e w' ⟨h1,h2,h3,wv',_,h4⟩
 exact ⟨h1,h2,h3,wv',h4⟩
end Rd
end Go.Proofs.YtceahffmenbibaaGreatDoor
