/- Pwat. -/
import Derived.Test.YtceahffmenbibaaGreatDoorG14
import Derived.Deep.DrawnRows
import Derived.Deep.Cut
import Derived.Outline
set_option linter.unusedVariables false
set_option linter.unusedSimpArgs false
set_option maxHeartbeats 4000000
set_option maxRecDepth 100000
namespace Go.Proofs.YtceahffmenbibaaGreatDoor
namespace Rd
section
open Go Go.RowKit Go.Deep
attribute [local go_sem ↓] Go.wp_at_zero Go.wp_at_succ
def nL (B:Nat) (w:World):Prop:=TabAt 5 Lib.deBruijn64tab w/\5 < B
theorem nL.later {B:Nat} {w w':World} (h:nL B w) (hb:Below B w w'):nL B w':=
 ⟨fun j hj=>by rw [hb.cell (p:=⟨_,j,none⟩) h.2];exact h.1 j hj,h.2⟩
theorem FZ {B sb mb:Nat} {cv:Value} {gone:Int} {u:Key} {wv:Nat->Value} {es:List aX} {wl:Nat->List Nat} (i:Nat) (l:Int) (w:World) (hl:dB l) (hi:i < es.length) (hk:(es[i]).watched.ok) (hlen:es.length <= 549755813888) (hwl:(wl (place l)).length <= 1099511627776)
  (hS:di B sb w cv mb gone u wv es wl) (hT:nL B w):
  Calls Tryz.prog 159 #[.pointer (some ⟨sb,0,none⟩),.int .i64 i,aK (single l)] w fun e w'=>e=.returned (.tuple #[])/\Below B w w'/\aA w w'/\eF cv cv w w'/\
   ∃ wv',(∀ k,k ≠ place l->wv' k=wv k)/\di B sb w' cv mb gone u wv' (kC es i ((es[i]).watched.un (single l))) (fun k=>if k=place l then wl (place l) ++ [i] else wl k):=by
 obtain ⟨cb,cap,hcv,Ee,GU,WX,hcap,hcells⟩:=hS.Le i hi;obtain ⟨i0,hii,hz0,hz1,hz2⟩:=info_parts Tryz.D7;have h0:=(hS.head 0 (by omega)).1
 subst hcv;have c2:=(hcells 2 (by omega)).1
 have c3:=(hcells 3 (by omega)).1
 have f2:=(hcells 2 (by omega)).2
 have f3:=(hcells 3 (by omega)).2
 unfold gT at h0;simp only [lV,List.getElem?_cons_succ,List.getElem?_cons_zero] at c2 c3;have HS:=hide hS;have HT:=hide hT;have lit:=gy hl;have qu:=fun W=>gu (es[i]).watched (single l) W hk lit
 unfold aK at qu ⊢;generalize hku:(es[i]).watched.un (single l)=nk at qu ⊢;generalize hkw:(es[i]).watched=wk at c2 c3 qu;have Iz:=lL hl;have QP:Hid (∀ W,nL B W->Calls Tryz.prog 199 #[aK (single l)] W fun e w'=>e=.returned (.int .i64 (place l:Nat))/\Below W.heap.size W w'):=fun W h=>zy l W hl h.1
 unfold aK at QP;generalize single l=sl at qu QP ⊢;generalize place l=pl at QP hwl Iz ⊢;clear hcells hS hT hku hkw lit;go_enter Tryz.func159,Tryz.ntmps159
 go_wp2;obtain ⟨W,hW⟩:∃ W,W=w.alloc (Obj.cells #[Value.int IntKind.u64 (sl.1:Int),Value.int IntKind.u64 (sl.2:Int)] 84):=⟨_,rfl⟩
 have hbW:Below w.heap.size w W:=by rw [hW];exact (Below.refl _ _).alloc (Nat.le_refl _) _
 have sW:W.heap.size=w.heap.size + 1:=by rw [hW];simp
 have x0:W.cell? ⟨w.heap.size,0,none⟩=some (.int .u64 (sl.1:Int)):=by rw [hW];simp
 have x1:W.cell? ⟨w.heap.size,1,none⟩=some (.int .u64 (sl.2:Int)):=by rw [hW];simp
 have hsb:sb < w.heap.size:=HS.out.row.lt;have y0:W.cell? ⟨sb,0,none⟩=some (.slice (some ⟨cb,0,none⟩) es.length cap):=by rw [hbW.cell (p:=⟨sb,0,none⟩) hsb];exact h0
 have y2:=(hbW.cell (p:=⟨cb,i * 5 + 2,none⟩) GU).trans c2;have y3:=(hbW.cell (p:=⟨cb,i * 5 + 3,none⟩) GU).trans c3;have z2:=(hbW.frozen (p:=⟨cb,i * 5 + 2,none⟩) GU).trans f2;have z3:=(hbW.frozen (p:=⟨cb,i * 5 + 3,none⟩) GU).trans f3;rw [<- hW];have FQ:=hide (HS.out.later hbW);have KW:=hide (aA.of_below hbW);have EW:=hide (eF.of_below (cv:=.slice (some ⟨cb,0,none⟩) es.length cap) hbW);have LU:Hid (Below B w W):=hbW.mono HS.out.bsize;have HTW:Hid (nL B W):=HT.out.later LU.out;clear hW hbW h0 c2 c3 f2 f3 HS;have ii0:(0:Int) <= (i:Int):=by omega
 have ii1:(i:Int) < (es.length:Int):=by omega
 have KS:Hid (∀ w',Below W.heap.size W w'->(w'.cell? ⟨sb,0,none⟩=some (.slice (some ⟨cb,0,none⟩) es.length cap)/\w'.cell? ⟨w.heap.size,0,none⟩=some (.int .u64 (sl.1:Int))/\w'.cell? ⟨w.heap.size,1,none⟩=some (.int .u64 (sl.2:Int)))/\
   w'.cell? ⟨cb,i * 5 + 2,none⟩=some (.int .u64 (wk.1:Int))/\w'.cell? ⟨cb,i * 5 + 3,none⟩=some (.int .u64 (wk.2:Int))/\w'.frozen? ⟨cb,i * 5 + 2,none⟩=false/\w'.frozen? ⟨cb,i * 5 + 3,none⟩=false):=fun w' h=>
  ⟨⟨(h.cell (p:=⟨sb,0,none⟩) (by simp;omega)).trans y0,(h.cell (p:=⟨w.heap.size,0,none⟩) (by simp;omega)).trans x0,(h.cell (p:=⟨w.heap.size,1,none⟩) (by simp;omega)).trans x1⟩,
   (h.cell (p:=⟨cb,i * 5 + 2,none⟩) (by simp;omega)).trans y2,(h.cell (p:=⟨cb,i * 5 + 3,none⟩) (by simp;omega)).trans y3,(h.frozen (p:=⟨cb,i * 5 + 2,none⟩) (by simp;omega)).trans z2,(h.frozen (p:=⟨cb,i * 5 + 3,none⟩) (by simp;omega)).trans z3⟩
 go_cut [] from 7 (fun wx=>∃ w7,Hid (Below W.heap.size W w7)/\wx=(w7.setCell ⟨cb,i * 5 + 2,none⟩ (.int .u64 (nk.1:Int))).setCell ⟨cb,i * 5 + 2 + 1,none⟩ (.int .u64 (nk.2:Int)))
 case first=>
  go_region_with (go_at_call 75;refine (qu _).mono ?_;rintro e7 w7 ⟨rfl,ku⟩;have B7:Hid (Below W.heap.size W w7):=(Below.refl _ _).drew.trans ku;obtain ⟨⟨k0,_⟩,k2,k3,k4,k5⟩:=KS.out w7 B7.out;clear ku)
  all_goals
   go_wp2_with fail
   go_meet;exact ⟨_,B7,rfl⟩
 case rest=>
  obtain ⟨w7,B7,hwc⟩:=hcut;have S7:=FQ.out.later B7.out;have SC:=S7.setW hi nk;have KC:Hid (aA w wc):=by unfold Hid;rw [hwc];exact (KW.out.trans (aA.of_below B7.out)).trans (S7.KH _ _ _ _)
  have EC:Hid (eF (.slice (some ⟨cb,0,none⟩) es.length cap) (.slice (some ⟨cb,0,none⟩) es.length cap) w wc):=by unfold Hid;rw [hwc];exact (EW.out.trans (eF.of_below B7.out)).trans (S7.KJ _ _ _ _)
  have BC:Below B w wc:=by rw [hwc];exact ((LU.out.trans (B7.out.mono FQ.out.bsize)).setCell Ee _).setCell Ee _
  rw [<- hwc] at SC;have xc:∀ j,j < 2->wc.cell? ⟨w.heap.size,j,none⟩=W.cell? ⟨w.heap.size,j,none⟩:=fun j hj=>by
   rw [hwc,World.cell?_setCell_far _ _ _ _ (by simp;omega),World.cell?_setCell_far _ _ _ _ (by simp;omega)]
   exact B7.out.cell (p:=⟨w.heap.size,j,none⟩) (by simp;omega)
  have v0:=(xc 0 (by omega)).trans x0
  have v1:=(xc 1 (by omega)).trans x1
  have HSC:=hide SC;have HBC:=hide BC;have HTC:Hid (nL B wc):=HT.out.later BC;have qp:=QP.out wc HTC.out;clear hwc S7 SC BC xc KS y0 y2 y3 z2 z3 x0 x1 B7 FQ LU HTW qu;go_wp2_with fail
  with_reducible refine qp.mono ?_
  rintro e8 w8 ⟨rfl,p8⟩;have S8:=HSC.out.later p8;have K8:Hid (aA w w8.drew):=(KC.out.trans (aA.of_below p8)).trans (aA.of_below (Below.refl _ _).drew);have E8:Hid (eF (.slice (some ⟨cb,0,none⟩) es.length cap) (.slice (some ⟨cb,0,none⟩) es.length cap) w w8.drew):=(EC.out.trans (eF.of_below p8)).trans (eF.of_below (Below.refl _ _).drew);have B8:Hid (Below B w w8):=HBC.out.trans (p8.mono HSC.out.bsize);obtain ⟨wa,yh,Bl⟩:=aH (S8.nO pl Iz);have hd:=S8.head (5 + pl) (by omega)
  rw [show gT (.slice (some ⟨cb,0,none⟩) es.length cap) mb gone u wv (5 + pl)=wv pl by rw [Nat.add_comm];rfl,Bl] at hd
  obtain ⟨hd1,hd2⟩:=hd;have HS8:=hide S8;have sb8:=S8.bsize;have hsb8:=S8.row.lt;clear qp p8 S8;have SD:Hid (di B sb w8.drew (.slice (some ⟨cb,0,none⟩) es.length cap) mb gone u wv (kC es i nk) wl):=HS8.out.later (Below.refl _ _).drew;have OD:Hid (w8.drew.ownsRow B 3 1 (.slice wa (wl pl).length yh) (wl pl).length (kM (wl pl))):=by have:=SD.out.nO pl Iz;rw [Bl] at this;exact this
  have BD:Hid (Below B w w8.drew):=B8.out.drew;have HWS:=hide Bl;have nl:(wl pl).length <= 1099511627776:=hwl;have XU:(0:Int) <= (pl:Int):=by omega
  have pi1:(pl:Int) < 128:=by omega
  clear Bl;go_wp2;go_region_law
   (refine dR _ (by rfl) _ _ 43 (by rfl) B 3 i0 (.int .i64 0) 1 8 Tryz.underlying43 hii hz0 hz1 hz2 (by rfl) (by decide) (.slice wa (wl pl).length yh) (wl pl).length (kM (wl pl)) (by rfl) (OD.out.alloc (Obj.cells #[.int .i64 (i:Int)] 3)) (.slice (some ⟨w8.heap.size,0,none⟩) 1 1) 1 [.int .i64 (i:Int)] (by rfl) (.inr ⟨⟨w8.heap.size,0,none⟩,1,rfl,(cell_one_new w8.drew _ _)⟩) (by rfl) (by simp [Value.oneCell']) (by unfold maxLen;omega) (by omega) (by simp;omega) ?_;intro v6 w6 A6;have A7:aB (w8.drew.alloc (Obj.cells #[.int .i64 (i:Int)] 3)) B 3 1 (wv pl) (wl pl).length (kM (wl pl)) 1 [.int .i64 (i:Int)] v6 w6:=(by rw [HWS.out];exact A6);have S6:=hide (SD.out.Iy Iz A7);have B6:=hide (SD.out.jY Iz A7 BD.out v6 (5 + pl));have KE:=hide (K8.out.trans (SD.out.KI Iz A7 v6 (5 + pl)));have EE:=hide (E8.out.trans (SD.out.KL Iz A7 v6 (5 + pl)));have K6:=(SD.out.gM Iz A7 (5 + pl) (by omega)).1;have K7:=(SD.out.gM Iz A7 (5 + pl) (by omega)).2;obtain ⟨qL,qK,hv6⟩:=aH A6.own;subst hv6;clear A6 A7)
  all_goals
   go_wp2;go_end0
   exact ⟨rfl,B6.out,KE.out,EE.out,_,fun k hk=>if_neg hk,S6.out⟩
theorem vL {B sb mb:Nat} {cv:Value} {gone:Int} {u:Key} {wv:Nat->Value} {es:List aX} {wl:Nat->List Nat} (i:Nat) (l:Int) (w:World) (hl:dB l) (hi:i < es.length) (hk:(es[i]).watched.ok) (hlen:es.length <= 549755813888) (hwl:(wl (place l)).length <= 1099511627776)
  (hS:di B sb w cv mb gone u wv es wl) (hT:nL B w):
  Calls Tryz.prog 159 #[.pointer (some ⟨sb,0,none⟩),.int .i64 i,aK (single l)] w fun e w'=>e=.returned (.tuple #[])/\Below B w w'/\aA w w'/\eF cv cv w w'/\
   ∃ wv',di B sb w' cv mb gone u wv' (kC es i ((es[i]).watched.un (single l))) (fun k=>if k=place l then wl (place l) ++ [i] else wl k):=by
 with_reducible refine (FZ i l w hl hi hk hlen hwl hS hT).mono ?_
 rintro e w' ⟨h1,h2,h3,h6,wv',_,h4⟩;exact ⟨h1,h2,h3,h6,wv',h4⟩
end
end Rd
end Go.Proofs.YtceahffmenbibaaGreatDoor
