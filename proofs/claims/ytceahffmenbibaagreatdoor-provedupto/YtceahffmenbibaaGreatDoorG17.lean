/- Pent Padd Phas Cref7 Cref8. -/
import Derived.Test.YtceahffmenbibaaGreatDoorG16
import Derived.Outline
import Derived.Deep.Cut
import Derived.Test.YtceahffmenbibaaGreatDoorG13
import Derived.Deep.RegionLaw
set_option linter.unusedVariables false
set_option linter.unusedSimpArgs false
namespace Go.Proofs.YtceahffmenbibaaGreatDoor
namespace Rd
open Go Go.RowKit Go.Deep Go.Maps
attribute [local go_sem ↓] Go.wp_at_zero Go.wp_at_succ
theorem Tryz.infoClause:(Tryz.prog.info? 180).map (fun i=>(i.zero,i.size,i.bytes))=some (some (.agg #[.int .u64 0,.int .u64 0,.int .u64 0,.int .u64 0,.int .i64 0]),5,40):=by kernel_rfl
theorem own_shape5 {w':World} {B:Nat} {v:Value} {n:Nat} {xs:List Value} {t:TypeId} {k:Nat} (h:w'.ownsRow B t k v n xs):∃ a c,v=.slice a n c:=by
 rcases h.2 with ⟨rfl,h0⟩ | ⟨g,cap,cur,rfl,_⟩
 ·exact ⟨none,0,by rw [h0]⟩
 ·exact ⟨_,cap,rfl⟩
theorem modify_last {α:Type} (l:List α) (a:α) (f:α→α):(l ++ [a]).modify l.length f=l ++ [f a]:=by
 induction l with
 | nil=>rfl
 | cons x r ih=>rw [List.cons_append,List.length_cons,List.modify_succ_cons,ih];rfl
theorem un_empty (s:Key):Key.un (0,0) s=s:=by unfold Key.un;simp
def aL (s:Key):Int:=s.oneL
def bL (s:Key):Int:=(s.wo (single s.oneL)).oneL
def enterE (s:Key):Ent:=⟨s,if 2 ≤ s.size then (single (aL s)).un (single (bL s)) else (0,0),0⟩
def enterW (wl:Nat→List Nat) (s:Key) (n:Nat):Nat→List Nat:=if 2 ≤ s.size then (fun k=>if k=place (bL s) then (if place (bL s)=place (aL s) then wl (place (aL s)) ++ [n] else wl (place (bL s))) ++ [n] else if k=place (aL s) then wl (place (aL s)) ++ [n] else wl k) else wl
def EnterPost2 (B sb:Nat) (cv:Value) (mb:Nat) (gone:Int) (u:Key) (es:List Ent) (wl:Nat→List Nat) (s:Key) (w w':World):Prop:=
 Below B w w'∧Keeps w w'∧∃ cv' wv',KeepE cv cv' w w'∧Sto B sb w' cv' mb gone u wv' (es ++ [enterE s]) (enterW wl s es.length)
def EnterPost (B sb mb:Nat) (gone:Int) (u:Key) (es:List Ent) (wl:Nat→List Nat) (s:Key) (w w':World):Prop:=
 Below B w w'∧Keeps w w'∧∃ cv' wv',Sto B sb w' cv' mb gone u wv' (es ++ [enterE s]) (enterW wl s es.length)
set_option maxHeartbeats 1000000 in
set_option maxRecDepth 100000 in
theorem enter_any2 {B sb mb:Nat} {cv:Value} {gone:Int} {u:Key} {wv:Nat→Value} {es:List Ent} {wl:Nat→List Nat} (s:Key) (w:World) (hs:s.ok) (hn:look es s=none) (hlen:es.length ≤ 1048576) (hwl:∀ k,k < 128→(wl k).length ≤ 2097152)
  (hS:Sto B sb w cv mb gone u wv es wl) (hT:Tab B w):
  Calls Tryz.prog 109 #[.pointer (some ⟨sb,0,none⟩),keyV s] w fun e w'=>e=.returned (.int .i64 (es.length:Nat))∧EnterPost2 B sb cv mb gone u es wl s w w':=by
 have h0:=(hS.head 0 (by omega)).1
 have h1:=(hS.head 1 (by omega)).1
 have fz0:=(hS.head 0 (by omega)).2
 unfold stoF at h0 h1
 obtain ⟨ca,ccap,hcsh⟩:∃ a c,cv=.slice a es.length c:=by
  rcases hS.cls.2 with ⟨e,h⟩ | ⟨g,cap,cur,e,_⟩
  ·exact ⟨none,0,by rw [e,h]⟩
  ·exact ⟨_,_,e⟩
 subst hcsh
 have HS:=hide hS
 have HT:=hide hT
 clear hS hT
 have hsb:sb < w.heap.size:=(unhide HS).row.lt
 have hne:¬ sb=w.heap.size:=by omega
 have hne2:¬ w.heap.size=sb:=by omega
 unfold keyV
 go_enter Tryz.func109,Tryz.ntmps109
 go_wp2
 obtain ⟨W,hW⟩:∃ W,W=w.alloc (Obj.cells #[Value.int IntKind.u64 (s.1:Int),Value.int IntKind.u64 (s.2:Int)] 84):=⟨_,rfl⟩
 have hbW:Below w.heap.size w W:=by rw [hW];exact (Below.refl _ _).alloc (Nat.le_refl _) _
 have sW:W.heap.size=w.heap.size + 1:=by rw [hW];simp
 have x0:W.cell? ⟨w.heap.size,0,none⟩=some (.int .u64 (s.1:Int)):=by rw [hW];simp
 have x1:W.cell? ⟨w.heap.size,1,none⟩=some (.int .u64 (s.2:Int)):=by rw [hW];simp
 have xb:W.heap[w.heap.size]? = some (.cells #[.int .u64 (s.1:Int),.int .u64 (s.2:Int)] 84 (0,0)):=by rw [hW];exact heap_alloc_new _ _
 have y0:=(hbW.cell (p:=⟨sb,0,none⟩) hsb).trans h0
 have y1:=(hbW.cell (p:=⟨sb,1,none⟩) hsb).trans h1
 rw [← hW]
 have HSW:=hide ((unhide HS).later hbW)
 have KW:=hide (Keeps.of_below hbW)
 have EW:=hide (KeepE.of_below (cv:=.slice ca es.length ccap) hbW)
 have HBW:Hid (Below B w W):=hbW.mono (unhide HS).bsize
 clear hW hbW h0 h1 fz0 hne hne2
 have HSD:Hid (Sto B sb W.drew (.slice ca es.length ccap) mb gone u wv es wl):=(unhide HSW).later (Below.refl _ _).drew
 obtain ⟨w1,hrun,hg1,hm1⟩:=(unhide HSD).map.update (i:=es.length) hs (by unfold maxLen;omega) (by omega)
 unfold keyV at hrun
 have HG1:=hide hg1
 have HM1:=hide hm1
 have mlt:mb < W.heap.size:=(unhide HSW).map.lt
 have msb:=(unhide HSW).far_sb.1
 have mx:mb ≠ w.heap.size:=fun e=>(unhide HSW).map.not_cells (by rw [e];exact xb)
 have s1:W.heap.size ≤ w1.heap.size:=hg1.size
 have v0:w1.cell? ⟨w.heap.size,0,none⟩=some (.int .u64 (s.1:Int)):=by rw [World.cell?_of_block (w:=W) (hg1.block w.heap.size (by show w.heap.size < W.heap.size;omega) (fun e=>mx (Option.some.inj e).symm))];exact x0
 have v1:w1.cell? ⟨w.heap.size,1,none⟩=some (.int .u64 (s.2:Int)):=by rw [World.cell?_of_block (w:=W) (hg1.block w.heap.size (by show w.heap.size < W.heap.size;omega) (fun e=>mx (Option.some.inj e).symm))];exact x1
 have t0:w1.cell? ⟨sb,0,none⟩=some (.slice ca es.length ccap):=by rw [World.cell?_of_block (w:=W) (hg1.block sb (by show sb < W.heap.size;omega) (fun e=>msb (Option.some.inj e).symm))];exact y0
 clear hg1 hm1
 go_cut [] from 12 (fun wx=>wx=w1)
 case first=>
  go_region
  all_goals
   go_wp2_with fail
   go_meet
   rfl
 case rest=>
  rw [hcut]
  clear hcut
  obtain ⟨c0,hc,hzz0,hzz1,hzz2⟩:=info_parts Tryz.infoClause
  have O1:Hid (w1.drew.ownsRow B 180 5 (.slice ca es.length ccap) es.length (entsV es)):=owns_block (unhide HSD).cls fun g hg=>(unhide HG1).block g ((unhide HSD).cls.lt g hg).2 (fun e=>by
   rcases (unhide HSD).cls.2 with ⟨e2,_⟩ | ⟨g',cap',cur,e2,_,hg',_⟩
   ·rw [e2] at hg;cases hg
   ·rw [e2] at hg;cases hg;exact (unhide HSD).map.not_cells (by rw [← (Option.some.inj e)];exact hg'))
  have G1:Hid (W.drew.grownBy w1.drew (some mb)):=⟨(unhide HG1).os,(unhide HG1).tape,(unhide HG1).output,(unhide HG1).size,(unhide HG1).block⟩
  have M1:Hid (MapIs w1.drew mb (es.length + 1) (fun t=>if t=(⟨s,(0,0),0⟩:Ent).set then some es.length else look es t)):=(unhide HM1).kept rfl
  have BWD:Hid (Below B w W.drew):=(unhide HBW).drew
  have bs1:B ≤ w1.heap.size:=by have:=(unhide HSW).bsize;omega
  have hw1x:w.heap.size < w1.heap.size:=by omega
  have hw1s:sb < w1.heap.size:=by omega
  clear HG1 HM1 hrun
  go_wp2
  go_cut [] from 12 (fun wx=>∃ cv',Hid (Sto B sb wx cv' mb gone u wv (es ++ [⟨s,(0,0),0⟩]) wl)∧Hid (Below B w wx)∧Hid (Keeps W wx)∧Hid (KeepE (.slice ca es.length ccap) cv' W wx))
  case first=>
   go_region_law
    (refine step_append_any _ (by rfl) _ _ 131 (by rfl) B 180 c0 _ 5 40 Tryz.underlying131 hc hzz0 hzz1 hzz2 (by rfl) (by decide) (.slice ca es.length ccap) es.length (entsV es) (by rfl) ((unhide O1).alloc (Obj.cells #[.int .u64 (s.1:Int),.int .u64 (s.2:Int),.int .u64 0,.int .u64 0,.int .i64 0] 180)) (.slice (some ⟨w1.heap.size,0,none⟩) 1 1) 1 [.int .u64 (s.1:Int),.int .u64 (s.2:Int),.int .u64 0,.int .u64 0,.int .i64 0] (by rfl) (.inr ⟨⟨w1.heap.size,0,none⟩,1,rfl,World.news_of_block (cs:=#[.int .u64 (s.1:Int),.int .u64 (s.2:Int),.int .u64 0,.int .u64 0,.int .i64 0]) (t:=180) (fr:=(0,0)) (heap_alloc_new w1.drew _)⟩) (by rfl) (by simp [Value.oneCell']) (by unfold maxLen;omega) (by omega) (by simp;omega) ?_;intro cv6 w6 A6;have S6:=hide ((unhide HSD).pushE (e:=⟨s,(0,0),0⟩) hn (unhide G1) (unhide M1) A6);have B6:=hide ((unhide HSD).belowE (e:=⟨s,(0,0),0⟩) (unhide G1) A6 (unhide BWD) cv6);have K6:=((unhide HSD).headE (e:=⟨s,(0,0),0⟩) (unhide G1) A6).1;have K7:=((unhide HSD).headE (e:=⟨s,(0,0),0⟩) (unhide G1) A6).2;have C6:=hide ((Keeps.of_below (Below.refl W.heap.size W).drew).trans ((unhide HSD).keepsE (e:=⟨s,(0,0),0⟩) (unhide G1) A6 cv6));have E6:=hide ((KeepE.of_below (Below.refl W.heap.size W).drew).trans ((unhide HSD).keepE_E (e:=⟨s,(0,0),0⟩) (unhide G1) A6 cv6));obtain ⟨va6,vc6,hv6⟩:=own_shape5 A6.own;subst hv6;clear A6)
   all_goals
    go_wp2_with fail
    go_meet
    exact ⟨_,S6,B6,C6,E6⟩
  case rest=>
   obtain ⟨cv6,S6,B6,C6,E6⟩:=hcut
   have EC:=hide ((unhide EW).trans (unhide E6))
   have FX:Hid (Foreign W w.heap.size):=⟨_,_,xb,by decide⟩
   have c0':=((unhide C6).cell (j:=0) (unhide FX)).trans x0
   have c1':=((unhide C6).cell (j:=1) (unhide FX)).trans x1
   have FC:=hide ((unhide C6).foreign (unhide FX))
   have KC:Hid (Keeps w wc):=(unhide KW).trans (unhide C6)
   have HWL:=hide hwl
   clear G1 M1 O1 HSD HSW BWD v0 v1 t0 x0 x1 xb y0 y1 C6 FX sW mlt msb mx s1 bs1 hw1x hw1s hwl hn
   go_wp2_with fail
   refine (size_any s _ hs).mono ?_
   rintro e7 w7 ⟨rfl,hb7⟩
   have S7:=hide ((unhide S6).later hb7)
   have B7:Hid (Below B w w7):=(unhide B6).trans (hb7.mono (unhide S6).bsize)
   have K7:Hid (Keeps w w7):=(unhide KC).trans (Keeps.of_below hb7)
   have E7:=hide ((unhide EC).trans (KeepE.of_below hb7))
   have d0:=(hb7.cell (p:=⟨w.heap.size,0,none⟩) (block_lt_of_cell c0')).trans c0'
   have d1:=(hb7.cell (p:=⟨w.heap.size,1,none⟩) (block_lt_of_cell c1')).trans c1'
   have F7:=hide ((Keeps.of_below hb7).foreign (unhide FC))
   have lt7:w.heap.size < w7.heap.size:=block_lt_of_cell d0
   clear hb7 c0' c1' FC KC
   obtain ⟨nz,hnz⟩:∃ n,n=s.size:=⟨_,rfl⟩
   rw [← hnz]
   by_cases hsz:2 ≤ s.size
   ·have hs0:s ≠ (0,0):=fun e=>by rw [e,size_of_empty] at hsz;omega
    obtain ⟨p1,p2,p3⟩:=oneL_spec hs hs0
    have hb0:s.wo (single s.oneL) ≠ (0,0):=size_two_wo hs hsz (isLit_ne p3)
    have wok:=wo_ok hs (single s.oneL)
    obtain ⟨r1,r2,r3⟩:=oneL_spec wok hb0
    have q1:=fun W=>one_any s W hs hs0
    have q2:=fun W=>without_any s (single s.oneL) W hs (single_ok p3)
    have q3:=fun W=>one_any (s.wo (single s.oneL)) W wok hb0
    rw [p1] at q1
    rw [r1] at q3
    have E1:Hid (enterE s=⟨s,(single s.oneL).un (single (s.wo (single s.oneL)).oneL),0⟩):=by unfold Hid enterE aL bL;rw [if_pos hsz]
    have E2:Hid (enterW wl s es.length=fun k=>if k=place (bL s) then (if place (bL s)=place (aL s) then wl (place (aL s)) ++ [es.length] else wl (place (bL s))) ++ [es.length] else if k=place (aL s) then wl (place (aL s)) ++ [es.length] else wl k):=by unfold Hid enterW;rw [if_pos hsz]
    have hszi:(2:Int) ≤ (nz:Int):=by omega
    have W1:Hid (∀ cv wv w (h:Sto B sb w cv mb gone u wv (es ++ [(⟨s,(0,0),0⟩:Ent)]) wl) (hT:Tab B w),Calls Tryz.prog 159 #[.pointer (some ⟨sb,0,none⟩),.int .i64 (es.length:Nat),keyV (single s.oneL)] w fun e w'=>e=.returned (.tuple #[])∧Below B w w'∧Keeps w w'∧KeepE cv cv w w'∧
      ∃ wv',Sto B sb w' cv mb gone u wv' (es ++ [(⟨s,single s.oneL,0⟩:Ent)]) (fun k=>if k=place s.oneL then wl (place s.oneL) ++ [es.length] else wl k)):=by
     intro cv wv w h hT
     have gx:es.length < (es ++ [(⟨s,(0,0),0⟩:Ent)]).length:=by simp
     have ge:(es ++ [(⟨s,(0,0),0⟩:Ent)])[es.length]'gx=⟨s,(0,0),0⟩:=by simp
     refine (watch_anyE es.length s.oneL w p3 gx (by rw [ge];exact empty_ok) (by simp;omega) (Nat.le_trans (unhide HWL _ (place_lt p3)) (by omega)) h hT).mono ?_
     rintro e w' ⟨h1,h2,h3,h6,wv',h4⟩
     refine ⟨h1,h2,h3,h6,wv',?_⟩
     have e:withW (es ++ [(⟨s,(0,0),0⟩:Ent)]) es.length (((es ++ [(⟨s,(0,0),0⟩:Ent)])[es.length]'gx).watched.un (single s.oneL))=es ++ [(⟨s,single s.oneL,0⟩:Ent)]:=by
      rw [ge];unfold withW
      rw [modify_last,un_empty]
     rw [e] at h4;exact h4
    have Q1:=hide q1
    have Q2:=hide q2
    have Q3:=hide q3
    have P3:=hide p3
    have R3:=hide r3
    unfold keyV at Q1 Q2 Q3 W1
    clear q1 q2 q3 p1 p2 p3 r1 r2 r3 hb0 hs0 wok hsz hnz
    go_wp2_with fail
    refine (unhide Q1 _).mono ?_
    rintro e8 w8 ⟨rfl,hb8⟩
    have S8:=hide ((unhide S7).later hb8)
    have B8:Hid (Below B w w8):=(unhide B7).trans (hb8.mono (unhide S7).bsize)
    have K8:Hid (Keeps w w8):=(unhide K7).trans (Keeps.of_below hb8)
    have E8:=hide ((unhide E7).trans (KeepE.of_below hb8))
    have f0:=(hb8.cell (p:=⟨w.heap.size,0,none⟩) lt7).trans d0
    have f1:=(hb8.cell (p:=⟨w.heap.size,1,none⟩) lt7).trans d1
    have F8:=hide ((Keeps.of_below hb8).foreign (unhide F7))
    have lt8:w.heap.size < w8.heap.size:=block_lt_of_cell f0
    clear hb8 d0 d1 F7 S7 B7 K7
    have W2:Hid (∀ cv wv w (h:Sto B sb w cv mb gone u wv (es ++ [(⟨s,single s.oneL,0⟩:Ent)]) (fun k=>if k=place s.oneL then wl (place s.oneL) ++ [es.length] else wl k)) (hT:Tab B w),Calls Tryz.prog 159 #[.pointer (some ⟨sb,0,none⟩),.int .i64 (es.length:Nat),keyV (single (s.wo (single s.oneL)).oneL)] w fun e w'=>e=.returned (.tuple #[])∧Below B w w'∧Keeps w w'∧
      ∃ cv' wv',KeepE cv cv' w w'∧Sto B sb w' cv' mb gone u wv' (es ++ [enterE s]) (enterW wl s es.length)):=by
     intro cv wv w h hT
     have gx:es.length < (es ++ [(⟨s,single s.oneL,0⟩:Ent)]).length:=by simp
     have ge:(es ++ [(⟨s,single s.oneL,0⟩:Ent)])[es.length]'gx=⟨s,single s.oneL,0⟩:=by simp
     have bnd:(if place (s.wo (single s.oneL)).oneL=place s.oneL then wl (place s.oneL) ++ [es.length] else wl (place (s.wo (single s.oneL)).oneL)).length ≤ 4194304:=by
      split
      ·have:=unhide HWL _ (place_lt (unhide P3));simp;omega
      ·have:=unhide HWL _ (place_lt (unhide R3));omega
     refine (watch_anyE es.length (s.wo (single s.oneL)).oneL w (unhide R3) gx (by rw [ge];exact single_ok (unhide P3)) (by simp;omega) bnd h hT).mono ?_
     rintro e w' ⟨h1,h2,h3,h6,wv',h4⟩
     refine ⟨h1,h2,h3,cv,wv',h6,?_⟩
     have e:withW (es ++ [(⟨s,single s.oneL,0⟩:Ent)]) es.length (((es ++ [(⟨s,single s.oneL,0⟩:Ent)])[es.length]'gx).watched.un (single (s.wo (single s.oneL)).oneL))=es ++ [enterE s]:=by
      rw [ge];unfold withW
      rw [modify_last,unhide E1]
     rw [e] at h4
     rw [unhide E2];exact h4
    unfold keyV at W2
    generalize single s.oneL=sa at *
    generalize s.wo sa=so at *
    generalize single so.oneL=sc at *
    have HH:=hide (And.intro (unhide E1) (unhide E2))
    clear E1 E2 HH
    simp only []
    go_wp2_with fail
    refine (unhide W1 _ _ _ ((unhide S8).later ((Below.refl _ _).alloc (Nat.le_refl _) _)) ((unhide HT).later ((unhide B8).alloc (unhide S8).bsize _))).mono ?_
    rintro e9 w9 ⟨rfl,hb9,hk9,hE9,wv9,S9⟩
    have E9:=hide (((unhide E8).trans (KeepE.of_below ((Below.refl _ w8).alloc (Nat.le_refl _) _))).trans hE9)
    clear hE9
    have HS9:=hide S9
    have B9:Hid (Below B w w9):=((unhide B8).alloc (unhide S8).bsize _).trans hb9
    have k9:=(Keeps.of_below ((Below.refl _ w8).alloc (Nat.le_refl _) _)).trans hk9
    have K9:Hid (Keeps w w9):=(unhide K8).trans k9
    have h0:=(k9.cell (j:=0) (unhide F8)).trans f0
    have h1:=(k9.cell (j:=1) (unhide F8)).trans f1
    have fn:=foreign_new w8 #[Value.int IntKind.u64 (sa.1:Int),Value.int IntKind.u64 (sa.2:Int)] 84 (by decide)
    have j0:w9.cell? ⟨w8.heap.size,0,none⟩=some (.int .u64 (sa.1:Int)):=by rw [hk9.cell (j:=0) fn];simp
    have j1:w9.cell? ⟨w8.heap.size,1,none⟩=some (.int .u64 (sa.2:Int)):=by rw [hk9.cell (j:=1) fn];simp
    clear S9 hb9 hk9 k9 fn f0 f1
    simp only []
    go_wp2_with fail
    refine (unhide Q2 _).mono ?_
    rintro e10 w10 ⟨rfl,hb10⟩
    have S10:=hide ((unhide HS9).later hb10)
    have B10:Hid (Below B w w10):=(unhide B9).trans (hb10.mono (unhide HS9).bsize)
    have K10:Hid (Keeps w w10):=(unhide K9).trans (Keeps.of_below hb10)
    have E10:=hide ((unhide E9).trans (KeepE.of_below hb10))
    clear hb10 h0 h1 j0 j1
    simp only []
    go_wp2_with fail
    refine (unhide Q3 _).mono ?_
    rintro e11 w11 ⟨rfl,hb11⟩
    have S11:=hide ((unhide S10).later hb11)
    have B11:Hid (Below B w w11):=(unhide B10).trans (hb11.mono (unhide S10).bsize)
    have K11:Hid (Keeps w w11):=(unhide K10).trans (Keeps.of_below hb11)
    have E11:=hide ((unhide E10).trans (KeepE.of_below hb11))
    clear hb11
    simp only []
    go_wp2_with fail
    refine (unhide W2 _ _ _ (unhide S11) ((unhide HT).later (unhide B11))).mono ?_
    rintro e12 w12 ⟨rfl,hb12,hk12,cv12,wv12,hE12,S12⟩
    have E12:=hide ((unhide E11).trans hE12)
    clear hE12
    have BE:=hide ((unhide B11).trans hb12)
    have KE:=hide ((unhide K11).trans hk12)
    have SE:=hide S12
    clear hb12 hk12 S12
    simp only []
    go_wp2
    go_ret
    exact ⟨rfl,unhide BE,unhide KE,_,_,unhide E12,unhide SE⟩
   ·have hszi:¬ (2:Int) ≤ (nz:Int):=by omega
    have e1:Hid (enterE s=⟨s,(0,0),0⟩):=by unfold Hid enterE;rw [if_neg hsz]
    have e2:Hid (enterW wl s es.length=wl):=by unfold Hid enterW;rw [if_neg hsz]
    clear hsz hs hnz
    simp only []
    go_wp2
    go_ret
    exact ⟨rfl,unhide B7,unhide K7,_,_,unhide E7,by rw [unhide e1,unhide e2];exact unhide S7⟩
theorem enter_any {B sb mb:Nat} {cv:Value} {gone:Int} {u:Key} {wv:Nat→Value} {es:List Ent} {wl:Nat→List Nat} (s:Key) (w:World) (hs:s.ok) (hn:look es s=none) (hlen:es.length ≤ 1048576) (hwl:∀ k,k < 128→(wl k).length ≤ 2097152)
  (hS:Sto B sb w cv mb gone u wv es wl) (hT:Tab B w):
  Calls Tryz.prog 109 #[.pointer (some ⟨sb,0,none⟩),keyV s] w fun e w'=>e=.returned (.int .i64 (es.length:Nat))∧EnterPost B sb mb gone u es wl s w w':=by
 with_reducible refine (enter_any2 s w hs hn hlen hwl hS hT).mono ?_
 rintro e w' ⟨h1,h2,h3,cv',wv',_,h4⟩
 exact ⟨h1,h2,h3,cv',wv',h4⟩
end Rd
end Go.Proofs.YtceahffmenbibaaGreatDoor
namespace Go.Proofs.YtceahffmenbibaaGreatDoor
namespace Rd
open Go Go.RowKit Go.Deep Go.Maps
attribute [local go_sem ↓] Go.wp_at_zero Go.wp_at_succ
theorem look_some {es:List Ent} {s:Key} {i:Nat} (h:look es s=some i):∃ hi:i < es.length,(es[i]).set=s:=by
 unfold look at h
 obtain ⟨hi,h2,_⟩:=List.findIdx?_eq_some_iff_getElem.1 h
 exact ⟨hi,by simpa using h2⟩
theorem Sto.setU {B sb mb:Nat} {w:World} {cv:Value} {gone:Int} {u:Key} {wv:Nat→Value} {es:List Ent} {wl:Nat→List Nat} (h:Sto B sb w cv mb gone u wv es wl) (k:Key):Sto B sb ((w.setCell ⟨sb,3,none⟩ (.int .u64 (k.1:Int))).setCell ⟨sb,4,none⟩ (.int .u64 (k.2:Int))) cv mb gone k wv es wl:=
 h.reRow (((h.row.set 3 _).set 4 _).congr fun i hi=>by
  match i with
  | 0=>rfl
  | 1=>rfl
  | 2=>rfl
  | 3=>rfl
  | 4=>rfl
  | n + 5=>simp [stoF]) (fun n hn=>by rw [Below.heap_setCell _ _ _ _ hn,Below.heap_setCell _ _ _ _ hn])
theorem Sto.keeps_sb2 {B sb mb:Nat} {w:World} {cv:Value} {gone:Int} {u:Key} {wv:Nat→Value} {es:List Ent} {wl:Nat→List Nat} (h:Sto B sb w cv mb gone u wv es wl) (j j':Nat) (x y:Value):Keeps w ((w.setCell ⟨sb,j,none⟩ x).setCell ⟨sb,j',none⟩ y):=fun k hk=>by
 have ne:k ≠ sb:=fun e=>by
  obtain ⟨c,hr,_⟩:=h.row
  obtain ⟨y,t,e1,e2,_⟩:=hk
  rw [e,hr] at e1;cases e1;exact e2 rfl
 rw [Below.heap_setCell _ _ _ _ ne,Below.heap_setCell _ _ _ _ ne]
def addE (es:List Ent) (s:Key):List Ent:=match look es s with
 | none=>es ++ [{ enterE s with times:=1 }]
 | some i=>es.modify i (fun e=>{ e with times:=e.times + 1 })
def addW (es:List Ent) (wl:Nat→List Nat) (s:Key):Nat→List Nat:=match look es s with
 | none=>enterW wl s es.length
 | some _=>wl
def AddPost (B sb mb:Nat) (gone:Int) (u:Key) (es:List Ent) (wl:Nat→List Nat) (s:Key) (w w':World):Prop:=
 Below B w w'∧Keeps w w'∧∃ cv' wv' g',(g'=gone∨g'=gone - 1)∧Sto B sb w' cv' mb g' (if s.size=1 then u.un s else u) wv' (addE es s) (addW es wl s)
theorem withT_succ (es:List Ent) (i:Nat) (hi:i < es.length):withT es i ((es[i]).times + 1)=es.modify i (fun e=>{ e with times:=e.times + 1 }):=by
 unfold withT
 refine List.ext_getElem? fun j=>?_
 rw [List.getElem?_modify,List.getElem?_modify]
 split
 ·rename_i h;subst h;rw [List.getElem?_eq_getElem hi];rfl
 ·rfl
set_option maxHeartbeats 1000000 in
set_option maxRecDepth 100000 in
theorem add_any {B sb mb:Nat} {cv:Value} {gone:Int} {u:Key} {wv:Nat→Value} {es:List Ent} {wl:Nat→List Nat} (s:Key) (w:World) (hs:s.ok) (hu:u.ok) (hlen:es.length ≤ 1048576) (hwl:∀ k,k < 128→(wl k).length ≤ 2097152) (hgone:-4194304 ≤ gone∧gone ≤ 4194304) (htim:∀ e ∈ es,e.times ≤ 4194304)
  (hS:Sto B sb w cv mb gone u wv es wl) (hT:Tab B w):
  Calls Tryz.prog 68 #[.pointer (some ⟨sb,0,none⟩),keyV s] w fun e w'=>e=.returned (.tuple #[])∧AddPost B sb mb gone u es wl s w w':=by
 have h0:=(hS.head 0 (by omega)).1
 have h1:=(hS.head 1 (by omega)).1
 unfold stoF at h0 h1
 have HS:=hide hS
 have HT:=hide hT
 have hsb:sb < w.heap.size:=(unhide HS).row.lt
 have hne:¬ sb=w.heap.size:=by omega
 have hne2:¬ w.heap.size=sb:=by omega
 clear hS hT
 obtain ⟨c,hc,hrun⟩:=(unhide HS).map.lookup hs
 unfold keyV at hrun ⊢
 have HRUN:=hide hrun
 clear hrun
 go_enter Tryz.func68,Tryz.ntmps68
 go_wp2_with fail
 obtain ⟨W,hW⟩:∃ W,W=w.alloc (Obj.cells #[Value.int IntKind.u64 (s.1:Int),Value.int IntKind.u64 (s.2:Int)] 84):=⟨_,rfl⟩
 have hbW:Below w.heap.size w W:=by rw [hW];exact (Below.refl _ _).alloc (Nat.le_refl _) _
 have x0:W.cell? ⟨w.heap.size,0,none⟩=some (.int .u64 (s.1:Int)):=by rw [hW];simp
 have x1:W.cell? ⟨w.heap.size,1,none⟩=some (.int .u64 (s.2:Int)):=by rw [hW];simp
 have xb:W.heap[w.heap.size]? = some (.cells #[.int .u64 (s.1:Int),.int .u64 (s.2:Int)] 84 (0,0)):=by rw [hW];exact heap_alloc_new _ _
 have FX:Hid (Foreign W w.heap.size):=⟨_,_,xb,by decide⟩
 have y0:=(hbW.cell (p:=⟨sb,0,none⟩) hsb).trans h0
 have y1:=(hbW.cell (p:=⟨sb,1,none⟩) hsb).trans h1
 rw [← hW]
 have HSW:=hide ((unhide HS).later hbW)
 have KW:=hide (Keeps.of_below hbW)
 have HBW:Hid (Below B w W):=hbW.mono (unhide HS).bsize
 have hlk:∀ n,(Instr.lookup 130 (.map (some mb)) (.agg #[.int .u64 (s.1:Int),.int .u64 (s.2:Int)]) true).run Tryz.prog (W.drewN n)=.ok (.tuple #[.int .i64 c,.bool (look es s).isSome]) (W.drewN n):=fun n=>unhide HRUN (W.drewN n) (hbW.block mb (unhide HS).map.lt)
 clear hW hbW h0 h1 hne hne2 HRUN xb
 have HWL:=hide hwl
 have HTM:=hide htim
 have ltW:w.heap.size < W.heap.size:=block_lt_of_cell x0
 obtain ⟨gl,gh⟩:=hgone
 have goalT:∀ (X:World) (cvX:Value) (wvX:Nat→Value) (gX:Int) (esX:List Ent) (wlX:Nat→List Nat) (jX:Nat),True:=fun _ _ _ _ _ _ _=>trivial
 clear goalT
 rcases hl:look es s with _ | i
 ·rw [hl] at hlk hc
  have QE:=hide (fun W' (h:Sto B sb W' cv mb gone u wv es wl) (hT:Tab B W')=>enter_any s W' hs hl hlen hwl h hT)
  unfold keyV at QE
  obtain ⟨esX,hesX⟩:∃ x,x=es ++ [enterE s]:=⟨_,rfl⟩
  obtain ⟨wlX,hwlX⟩:∃ x,x=enterW wl s es.length:=⟨_,rfl⟩
  obtain ⟨jX,hj0⟩:∃ j,j=es.length:=⟨_,rfl⟩
  have lX:jX < esX.length:=by rw [hesX,hj0];simp
  have RX:Hid (withT esX jX ((esX[jX]'lX).times + 1)=addE es s∧wlX=addW es wl s):=by
   refine ⟨?_,by unfold addW;rw [hl];exact hwlX⟩
   rw [withT_succ,hesX,hj0,modify_last];unfold addE;rw [hl];unfold enterE;rfl
  have tX:(esX[jX]'lX).times ≤ 4194304:=by subst hesX hj0;simp [enterE]
  obtain ⟨gX,hg0⟩:∃ g,g=gone:=⟨_,rfl⟩
  have GX:Hid (gX=gone∨gX=gone - 1):=.inl hg0
  clear hl hc hwl htim y0 HS
  go_quiet (fail)
  go_wp2_with fail
  refine (unhide QE _ ((unhide HSW).later (bel_drewN' (Below.refl _ _) _)) ((unhide HT).later (bel_drewN' (unhide HBW) _))).mono ?_
  rintro e5 X ⟨rfl,b5,k5,cvX,wvX,S5⟩
  rw [← hesX,← hwlX,← hg0] at S5
  have SX:=hide S5
  have BX:Hid (Below B w X):=(bel_drewN' (unhide HBW) _).trans b5
  have k5':Keeps W X:=(Keeps.of_below (bel_drewN' (Below.refl _ W) _)).trans k5
  have KX:Hid (Keeps w X):=(unhide KW).trans k5'
  have z0:=(k5'.cell (j:=0) (unhide FX)).trans x0
  have z1:=(k5'.cell (j:=1) (unhide FX)).trans x1
  have FXX:=hide (k5'.foreign (unhide FX))
  obtain ⟨cb,cap,hcv,hcb1,hcb2,hcb3,hcap,hcells⟩:=(unhide SX).ents jX lX
  have lenX:esX.length ≤ 2097152:=by rw [hesX];simp;omega
  simp only []
  rw [← hj0]
  clear b5 k5 k5' S5 x0 x1 y1 hlk FX HSW HBW KW QE hesX hwlX hg0 hj0
  subst hcv
  have y0:=((unhide SX).head 0 (by omega)).1
  have y3:=((unhide SX).head 3 (by omega)).1
  have y4:=((unhide SX).head 4 (by omega)).1
  have g3:=((unhide SX).head 3 (by omega)).2
  have g4:=((unhide SX).head 4 (by omega)).2
  unfold stoF at y0 y3 y4
  have c4:=(hcells 4 (by omega)).1
  have f4:=(hcells 4 (by omega)).2
  simp only [entV,List.getElem?_cons_succ,List.getElem?_cons_zero] at c4
  have S1:=hide ((unhide SX).setT lX ((esX[jX]'lX).times + 1))
  rw [(unhide RX).1,(unhide RX).2] at S1
  generalize (esX[jX]'lX).times=tm at c4 tX S1
  have hsX:sb < X.heap.size:=(unhide SX).row.lt
  have hwX:w.heap.size < X.heap.size:=block_lt_of_cell z0
  have ncb:¬ cb=w.heap.size:=fun e=>by
   obtain ⟨y,t,e1,_,e3,_⟩:=unhide FXX
   rcases (unhide SX).cls.2 with ⟨e2,_⟩ | ⟨g',cap',cur,e2,_,hg',_⟩
   ·cases e2
   ·cases e2;rw [e,e1] at hg';cases hg';exact e3 rfl
  have jx0:(0:Int) ≤ (jX:Int):=by omega
  have jx1:(jX:Int) < (esX.length:Int):=by omega
  clear hcells
  have B1:Hid (Below B w (X.setCell ⟨cb,jX * 5 + 4,none⟩ (.int .i64 ((tm:Int) + 1)))):=(unhide BX).setCell hcb1 _
  have K1:Hid (Keeps w (X.setCell ⟨cb,jX * 5 + 4,none⟩ (.int .i64 ((tm:Int) + 1)))):=(unhide KX).trans ((unhide SX).keeps_cb _ _)
  rw [show ((tm + 1:Nat):Int)=(tm:Int) + 1 by omega] at S1
  have w0:(X.setCell ⟨cb,jX * 5 + 4,none⟩ (.int .i64 ((tm:Int) + 1))).cell? ⟨w.heap.size,0,none⟩=some (.int .u64 (s.1:Int)):=by rw [World.cell?_setCell_far _ _ _ _ (by simpa using ncb)];exact z0
  have w1:(X.setCell ⟨cb,jX * 5 + 4,none⟩ (.int .i64 ((tm:Int) + 1))).cell? ⟨w.heap.size,1,none⟩=some (.int .u64 (s.2:Int)):=by rw [World.cell?_setCell_far _ _ _ _ (by simpa using ncb)];exact z1
  go_wp2_with fail
  refine (size_any s _ hs).mono ?_
  obtain ⟨Y,hY⟩:∃ Y,Y=X.setCell ⟨cb,jX * 5 + 4,none⟩ (.int .i64 ((tm:Int) + 1)):=⟨_,rfl⟩
  rw [← hY] at S1 B1 K1 w0 w1 ⊢
  rintro e6 w6 ⟨rfl,hb6⟩
  have S6:=hide ((unhide S1).later hb6)
  have B6:Hid (Below B w w6):=(unhide B1).trans (hb6.mono (unhide S1).bsize)
  have K6:Hid (Keeps w w6):=(unhide K1).trans (Keeps.of_below hb6)
  have a0:=(hb6.cell (p:=⟨w.heap.size,0,none⟩) (block_lt_of_cell w0)).trans w0
  have a1:=(hb6.cell (p:=⟨w.heap.size,1,none⟩) (block_lt_of_cell w1)).trans w1
  have b3:=((unhide S6).head 3 (by omega)).1
  have b4:=((unhide S6).head 4 (by omega)).1
  have q3:=((unhide S6).head 3 (by omega)).2
  have q4:=((unhide S6).head 4 (by omega)).2
  unfold stoF at b3 b4
  clear hY hb6 w0 w1 z0 z1 y0 y3 y4 g3 g4 c4 f4 S1 B1 K1 SX BX KX RX FXX ncb hsX hwX jx0 jx1 lX
  obtain ⟨nz,hnz⟩:∃ n,n=s.size:=⟨_,rfl⟩
  rw [← hnz]
  simp only []
  by_cases h1:nz=1
  ·have UP:Hid ((if s.size=1 then u.un s else u)=u.un s):=by unfold Hid;rw [if_pos (by omega)]
   have qu:=hide (fun W'=>union_any u s W' hu hs)
   unfold keyV at qu
   have hx6:w.heap.size < w6.heap.size:=block_lt_of_cell a0
   have hs6:sb < w6.heap.size:=(unhide S6).row.lt
   subst h1
   clear hnz
   go_wp2
   go_region_with (go_at_call 75;refine (unhide qu _).mono ?_;rintro e7 w7 ⟨rfl,hb7⟩;have B7:Hid (Below w6.heap.size w6 w7):=(Below.refl _ _).drew.trans hb7;have k3:=((unhide B7).cell (p:=⟨sb,3,none⟩) hs6).trans b3;have k4:=((unhide B7).cell (p:=⟨sb,4,none⟩) hs6).trans b4;have r3:=((unhide B7).frozen (p:=⟨sb,3,none⟩) hs6).trans q3;have r4:=((unhide B7).frozen (p:=⟨sb,4,none⟩) hs6).trans q4;clear hb7)
   all_goals
    have S7:=(unhide S6).later (unhide B7)
    have S8:=hide (S7.setU (u.un s))
    have B8:Hid (Below B w ((w7.setCell ⟨sb,3,none⟩ (.int .u64 ((u.un s).1:Int))).setCell ⟨sb,4,none⟩ (.int .u64 ((u.un s).2:Int)))):=(((unhide B6).trans ((unhide B7).mono (unhide S6).bsize)).setCell S7.bsb _).setCell S7.bsb _
    have K8:Hid (Keeps w ((w7.setCell ⟨sb,3,none⟩ (.int .u64 ((u.un s).1:Int))).setCell ⟨sb,4,none⟩ (.int .u64 ((u.un s).2:Int)))):=((unhide K6).trans (Keeps.of_below (unhide B7))).trans (S7.keeps_sb2 _ _ _ _)
    clear S7
    go_wp2
    go_end0
    exact ⟨rfl,unhide B8,unhide K8,_,_,_,unhide GX,by rw [unhide UP];exact unhide S8⟩
  ·have UP:Hid ((if s.size=1 then u.un s else u)=u):=by unfold Hid;rw [if_neg (by omega)]
   have hb:((nz:Int) == 1)=false:=by rw [beq_eq_false_iff_ne];omega
   clear hnz h1
   go_wp2
   go_end0
   exact ⟨rfl,unhide B6,unhide K6,_,_,_,unhide GX,by rw [unhide UP];exact unhide S6⟩
 ·obtain ⟨hi,hset⟩:=look_some hl
  have hci:=hc i hl
  subst hci
  rw [hl] at hlk
  obtain ⟨esX,hesX⟩:∃ x,x=es:=⟨_,rfl⟩
  obtain ⟨wlX,hwlX⟩:∃ x,x=wl:=⟨_,rfl⟩
  obtain ⟨jX,hj0⟩:∃ j,j=i:=⟨_,rfl⟩
  have lX:jX < esX.length:=by rw [hesX,hj0];exact hi
  have RX:Hid (withT esX jX ((esX[jX]'lX).times + 1)=addE es s∧wlX=addW es wl s):=by
   refine ⟨?_,by unfold addW;rw [hl];exact hwlX⟩
   rw [withT_succ,hesX,hj0];unfold addE;rw [hl]
  have tX:(esX[jX]'lX).times ≤ 4194304:=unhide HTM _ (by rw [← hesX];exact List.getElem_mem lX)
  have lenX:esX.length ≤ 2097152:=by rw [hesX];omega
  have SW:=unhide HSW
  rw [← hesX,← hwlX] at SW
  have HS2:=hide SW
  obtain ⟨cb0,cap0,hcv0,_,hcb02,hcb03,_,hcells0⟩:=SW.ents jX lX
  have t4:=(hcells0 4 (by omega)).1
  simp only [entV,List.getElem?_cons_succ,List.getElem?_cons_zero] at t4
  have t2:=(SW.head 2 (by omega)).1
  have q2:=(SW.head 2 (by omega)).2
  unfold stoF at t2
  subst hcv0
  rw [← hj0] at hlk
  have jx0:(0:Int) ≤ (jX:Int):=by omega
  have jx1:(jX:Int) < (esX.length:Int):=by omega
  have hsW:sb < W.heap.size:=SW.row.lt
  have jx2:jX < es.length:=by omega
  have jx3:(jX:Int) < (es.length:Int):=by omega
  clear hl hc hwl htim HS SW hcells0 hj0
  obtain ⟨t0,ht0⟩:∃ t,t=(esX[jX]'lX).times:=⟨_,rfl⟩
  rw [← ht0] at t4
  clear ht0
  by_cases tz:t0=0
  ·have tzb:((t0:Int) == 0)=true:=by rw [beq_iff_eq];omega
   go_quiet (fail)
   go_upto_region 6 with fail
   have SD:=(unhide HS2).later (bel_drewN' (Below.refl _ W) nq)
   have KD:Keeps W (W.drewN nq):=Keeps.of_below (bel_drewN' (Below.refl _ W) _)
   obtain ⟨X,hX⟩:∃ X,X=(W.drewN nq).setCell ⟨sb,2,none⟩ (.int .i64 (gone - 1)):=⟨_,rfl⟩
   obtain ⟨gX,hg0⟩:∃ g,g=gone - 1:=⟨_,rfl⟩
   rw [← hX]
   have GX:Hid (gX=gone∨gX=gone - 1):=.inr hg0
   have SX:Hid (Sto B sb X (.slice (some ⟨cb0,0,none⟩) esX.length cap0) mb gX u wv esX wlX):=by unfold Hid;rw [hX,hg0];exact SD.gone' _
   have BX:Hid (Below B w X):=by unfold Hid;rw [hX];exact (bel_drewN' (unhide HBW) nq).setCell SD.bsb _
   have kX:Keeps W X:=by rw [hX];exact KD.trans (SD.keeps_sb _ _)
   have KX:Hid (Keeps w X):=(unhide KW).trans kX
   have z0:=(kX.cell (j:=0) (unhide FX)).trans x0
   have z1:=(kX.cell (j:=1) (unhide FX)).trans x1
   have FXX:=hide (kX.foreign (unhide FX))
   obtain ⟨cb,cap,hcv,hcb1,hcb2,hcb3,hcap,hcells⟩:=(unhide SX).ents jX lX
   clear SD KD hX kX x0 x1 y1 hlk FX HSW HBW KW hg0 tz tzb t4 t2 q2 y0 HS2 hcb02 hcb03
   subst hesX hwlX
   cases hcv
   have y0:=((unhide SX).head 0 (by omega)).1
   have y3:=((unhide SX).head 3 (by omega)).1
   have y4:=((unhide SX).head 4 (by omega)).1
   have g3:=((unhide SX).head 3 (by omega)).2
   have g4:=((unhide SX).head 4 (by omega)).2
   unfold stoF at y0 y3 y4
   have c4:=(hcells 4 (by omega)).1
   have f4:=(hcells 4 (by omega)).2
   simp only [entV,List.getElem?_cons_succ,List.getElem?_cons_zero] at c4
   have S1:=hide ((unhide SX).setT lX ((esX[jX]'lX).times + 1))
   rw [(unhide RX).1,(unhide RX).2] at S1
   generalize (esX[jX]'lX).times=tm at c4 tX S1
   have hsX:sb < X.heap.size:=(unhide SX).row.lt
   have hwX:w.heap.size < X.heap.size:=block_lt_of_cell z0
   have ncb:¬ cb0=w.heap.size:=fun e=>by
    obtain ⟨y,t,e1,_,e3,_⟩:=unhide FXX
    rcases (unhide SX).cls.2 with ⟨e2,_⟩ | ⟨g',cap0',cur,e2,_,hg',_⟩
    ·cases e2
    ·cases e2;rw [e,e1] at hg';cases hg';exact e3 rfl
   have jx0:(0:Int) ≤ (jX:Int):=by omega
   have jx1:(jX:Int) < (esX.length:Int):=by omega
   clear hcells
   have B1:Hid (Below B w (X.setCell ⟨cb0,jX * 5 + 4,none⟩ (.int .i64 ((tm:Int) + 1)))):=(unhide BX).setCell hcb1 _
   have K1:Hid (Keeps w (X.setCell ⟨cb0,jX * 5 + 4,none⟩ (.int .i64 ((tm:Int) + 1)))):=(unhide KX).trans ((unhide SX).keeps_cb _ _)
   rw [show ((tm + 1:Nat):Int)=(tm:Int) + 1 by omega] at S1
   have w0:(X.setCell ⟨cb0,jX * 5 + 4,none⟩ (.int .i64 ((tm:Int) + 1))).cell? ⟨w.heap.size,0,none⟩=some (.int .u64 (s.1:Int)):=by rw [World.cell?_setCell_far _ _ _ _ (by simpa using ncb)];exact z0
   have w1:(X.setCell ⟨cb0,jX * 5 + 4,none⟩ (.int .i64 ((tm:Int) + 1))).cell? ⟨w.heap.size,1,none⟩=some (.int .u64 (s.2:Int)):=by rw [World.cell?_setCell_far _ _ _ _ (by simpa using ncb)];exact z1
   go_wp2_with fail
   refine (size_any s _ hs).mono ?_
   obtain ⟨Y,hY⟩:∃ Y,Y=X.setCell ⟨cb0,jX * 5 + 4,none⟩ (.int .i64 ((tm:Int) + 1)):=⟨_,rfl⟩
   rw [← hY] at S1 B1 K1 w0 w1 ⊢
   rintro e6 w6 ⟨rfl,hb6⟩
   have S6:=hide ((unhide S1).later hb6)
   have B6:Hid (Below B w w6):=(unhide B1).trans (hb6.mono (unhide S1).bsize)
   have K6:Hid (Keeps w w6):=(unhide K1).trans (Keeps.of_below hb6)
   have a0:=(hb6.cell (p:=⟨w.heap.size,0,none⟩) (block_lt_of_cell w0)).trans w0
   have a1:=(hb6.cell (p:=⟨w.heap.size,1,none⟩) (block_lt_of_cell w1)).trans w1
   have b3:=((unhide S6).head 3 (by omega)).1
   have b4:=((unhide S6).head 4 (by omega)).1
   have q3:=((unhide S6).head 3 (by omega)).2
   have q4:=((unhide S6).head 4 (by omega)).2
   unfold stoF at b3 b4
   clear hY hb6 w0 w1 z0 z1 y0 y3 y4 g3 g4 c4 f4 S1 B1 K1 SX BX KX RX FXX ncb hsX hwX jx0 jx1 lX
   obtain ⟨nz,hnz⟩:∃ n,n=s.size:=⟨_,rfl⟩
   rw [← hnz]
   simp only []
   by_cases h1:nz=1
   ·have UP:Hid ((if s.size=1 then u.un s else u)=u.un s):=by unfold Hid;rw [if_pos (by omega)]
    have qu:=hide (fun W'=>union_any u s W' hu hs)
    unfold keyV at qu
    have hx6:w.heap.size < w6.heap.size:=block_lt_of_cell a0
    have hs6:sb < w6.heap.size:=(unhide S6).row.lt
    subst h1
    clear hnz
    go_wp2
    go_region_with (go_at_call 75;refine (unhide qu _).mono ?_;rintro e7 w7 ⟨rfl,hb7⟩;have B7:Hid (Below w6.heap.size w6 w7):=(Below.refl _ _).drew.trans hb7;have k3:=((unhide B7).cell (p:=⟨sb,3,none⟩) hs6).trans b3;have k4:=((unhide B7).cell (p:=⟨sb,4,none⟩) hs6).trans b4;have r3:=((unhide B7).frozen (p:=⟨sb,3,none⟩) hs6).trans q3;have r4:=((unhide B7).frozen (p:=⟨sb,4,none⟩) hs6).trans q4;clear hb7)
    all_goals
     have S7:=(unhide S6).later (unhide B7)
     have S8:=hide (S7.setU (u.un s))
     have B8:Hid (Below B w ((w7.setCell ⟨sb,3,none⟩ (.int .u64 ((u.un s).1:Int))).setCell ⟨sb,4,none⟩ (.int .u64 ((u.un s).2:Int)))):=(((unhide B6).trans ((unhide B7).mono (unhide S6).bsize)).setCell S7.bsb _).setCell S7.bsb _
     have K8:Hid (Keeps w ((w7.setCell ⟨sb,3,none⟩ (.int .u64 ((u.un s).1:Int))).setCell ⟨sb,4,none⟩ (.int .u64 ((u.un s).2:Int)))):=((unhide K6).trans (Keeps.of_below (unhide B7))).trans (S7.keeps_sb2 _ _ _ _)
     clear S7
     go_wp2
     go_end0
     exact ⟨rfl,unhide B8,unhide K8,_,_,_,unhide GX,by rw [unhide UP];exact unhide S8⟩
   ·have UP:Hid ((if s.size=1 then u.un s else u)=u):=by unfold Hid;rw [if_neg (by omega)]
    have hb:((nz:Int) == 1)=false:=by rw [beq_eq_false_iff_ne];omega
    clear hnz h1
    go_wp2
    go_end0
    exact ⟨rfl,unhide B6,unhide K6,_,_,_,unhide GX,by rw [unhide UP];exact unhide S6⟩
  ·have tzb:((t0:Int) == 0)=false:=by rw [beq_eq_false_iff_ne];omega
   go_quiet (fail)
   go_upto_region 6 with fail
   have SD:=(unhide HS2).later (bel_drewN' (Below.refl _ W) nq)
   have KD:Keeps W (W.drewN nq):=Keeps.of_below (bel_drewN' (Below.refl _ W) _)
   obtain ⟨X,hX⟩:∃ X,X=W.drewN nq:=⟨_,rfl⟩
   obtain ⟨gX,hg0⟩:∃ g,g=gone:=⟨_,rfl⟩
   rw [← hX]
   have GX:Hid (gX=gone∨gX=gone - 1):=.inl hg0
   have SX:Hid (Sto B sb X (.slice (some ⟨cb0,0,none⟩) esX.length cap0) mb gX u wv esX wlX):=by unfold Hid;rw [hX,hg0];exact SD
   have BX:Hid (Below B w X):=by unfold Hid;rw [hX];exact bel_drewN' (unhide HBW) nq
   have kX:Keeps W X:=by rw [hX];exact KD
   have KX:Hid (Keeps w X):=(unhide KW).trans kX
   have z0:=(kX.cell (j:=0) (unhide FX)).trans x0
   have z1:=(kX.cell (j:=1) (unhide FX)).trans x1
   have FXX:=hide (kX.foreign (unhide FX))
   obtain ⟨cb,cap,hcv,hcb1,hcb2,hcb3,hcap,hcells⟩:=(unhide SX).ents jX lX
   clear SD KD hX kX x0 x1 y1 hlk FX HSW HBW KW hg0 tz tzb t4 t2 q2 y0 HS2 hcb02 hcb03
   subst hesX hwlX
   cases hcv
   have y0:=((unhide SX).head 0 (by omega)).1
   have y3:=((unhide SX).head 3 (by omega)).1
   have y4:=((unhide SX).head 4 (by omega)).1
   have g3:=((unhide SX).head 3 (by omega)).2
   have g4:=((unhide SX).head 4 (by omega)).2
   unfold stoF at y0 y3 y4
   have c4:=(hcells 4 (by omega)).1
   have f4:=(hcells 4 (by omega)).2
   simp only [entV,List.getElem?_cons_succ,List.getElem?_cons_zero] at c4
   have S1:=hide ((unhide SX).setT lX ((esX[jX]'lX).times + 1))
   rw [(unhide RX).1,(unhide RX).2] at S1
   generalize (esX[jX]'lX).times=tm at c4 tX S1
   have hsX:sb < X.heap.size:=(unhide SX).row.lt
   have hwX:w.heap.size < X.heap.size:=block_lt_of_cell z0
   have ncb:¬ cb0=w.heap.size:=fun e=>by
    obtain ⟨y,t,e1,_,e3,_⟩:=unhide FXX
    rcases (unhide SX).cls.2 with ⟨e2,_⟩ | ⟨g',cap0',cur,e2,_,hg',_⟩
    ·cases e2
    ·cases e2;rw [e,e1] at hg';cases hg';exact e3 rfl
   have jx0:(0:Int) ≤ (jX:Int):=by omega
   have jx1:(jX:Int) < (esX.length:Int):=by omega
   clear hcells
   have B1:Hid (Below B w (X.setCell ⟨cb0,jX * 5 + 4,none⟩ (.int .i64 ((tm:Int) + 1)))):=(unhide BX).setCell hcb1 _
   have K1:Hid (Keeps w (X.setCell ⟨cb0,jX * 5 + 4,none⟩ (.int .i64 ((tm:Int) + 1)))):=(unhide KX).trans ((unhide SX).keeps_cb _ _)
   rw [show ((tm + 1:Nat):Int)=(tm:Int) + 1 by omega] at S1
   have w0:(X.setCell ⟨cb0,jX * 5 + 4,none⟩ (.int .i64 ((tm:Int) + 1))).cell? ⟨w.heap.size,0,none⟩=some (.int .u64 (s.1:Int)):=by rw [World.cell?_setCell_far _ _ _ _ (by simpa using ncb)];exact z0
   have w1:(X.setCell ⟨cb0,jX * 5 + 4,none⟩ (.int .i64 ((tm:Int) + 1))).cell? ⟨w.heap.size,1,none⟩=some (.int .u64 (s.2:Int)):=by rw [World.cell?_setCell_far _ _ _ _ (by simpa using ncb)];exact z1
   go_wp2_with fail
   refine (size_any s _ hs).mono ?_
   obtain ⟨Y,hY⟩:∃ Y,Y=X.setCell ⟨cb0,jX * 5 + 4,none⟩ (.int .i64 ((tm:Int) + 1)):=⟨_,rfl⟩
   rw [← hY] at S1 B1 K1 w0 w1 ⊢
   rintro e6 w6 ⟨rfl,hb6⟩
   have S6:=hide ((unhide S1).later hb6)
   have B6:Hid (Below B w w6):=(unhide B1).trans (hb6.mono (unhide S1).bsize)
   have K6:Hid (Keeps w w6):=(unhide K1).trans (Keeps.of_below hb6)
   have a0:=(hb6.cell (p:=⟨w.heap.size,0,none⟩) (block_lt_of_cell w0)).trans w0
   have a1:=(hb6.cell (p:=⟨w.heap.size,1,none⟩) (block_lt_of_cell w1)).trans w1
   have b3:=((unhide S6).head 3 (by omega)).1
   have b4:=((unhide S6).head 4 (by omega)).1
   have q3:=((unhide S6).head 3 (by omega)).2
   have q4:=((unhide S6).head 4 (by omega)).2
   unfold stoF at b3 b4
   clear hY hb6 w0 w1 z0 z1 y0 y3 y4 g3 g4 c4 f4 S1 B1 K1 SX BX KX RX FXX ncb hsX hwX jx0 jx1 lX
   obtain ⟨nz,hnz⟩:∃ n,n=s.size:=⟨_,rfl⟩
   rw [← hnz]
   simp only []
   by_cases h1:nz=1
   ·have UP:Hid ((if s.size=1 then u.un s else u)=u.un s):=by unfold Hid;rw [if_pos (by omega)]
    have qu:=hide (fun W'=>union_any u s W' hu hs)
    unfold keyV at qu
    have hx6:w.heap.size < w6.heap.size:=block_lt_of_cell a0
    have hs6:sb < w6.heap.size:=(unhide S6).row.lt
    subst h1
    clear hnz
    go_wp2
    go_region_with (go_at_call 75;refine (unhide qu _).mono ?_;rintro e7 w7 ⟨rfl,hb7⟩;have B7:Hid (Below w6.heap.size w6 w7):=(Below.refl _ _).drew.trans hb7;have k3:=((unhide B7).cell (p:=⟨sb,3,none⟩) hs6).trans b3;have k4:=((unhide B7).cell (p:=⟨sb,4,none⟩) hs6).trans b4;have r3:=((unhide B7).frozen (p:=⟨sb,3,none⟩) hs6).trans q3;have r4:=((unhide B7).frozen (p:=⟨sb,4,none⟩) hs6).trans q4;clear hb7)
    all_goals
     have S7:=(unhide S6).later (unhide B7)
     have S8:=hide (S7.setU (u.un s))
     have B8:Hid (Below B w ((w7.setCell ⟨sb,3,none⟩ (.int .u64 ((u.un s).1:Int))).setCell ⟨sb,4,none⟩ (.int .u64 ((u.un s).2:Int)))):=(((unhide B6).trans ((unhide B7).mono (unhide S6).bsize)).setCell S7.bsb _).setCell S7.bsb _
     have K8:Hid (Keeps w ((w7.setCell ⟨sb,3,none⟩ (.int .u64 ((u.un s).1:Int))).setCell ⟨sb,4,none⟩ (.int .u64 ((u.un s).2:Int)))):=((unhide K6).trans (Keeps.of_below (unhide B7))).trans (S7.keeps_sb2 _ _ _ _)
     clear S7
     go_wp2
     go_end0
     exact ⟨rfl,unhide B8,unhide K8,_,_,_,unhide GX,by rw [unhide UP];exact unhide S8⟩
   ·have UP:Hid ((if s.size=1 then u.un s else u)=u):=by unfold Hid;rw [if_neg (by omega)]
    have hb:((nz:Int) == 1)=false:=by rw [beq_eq_false_iff_ne];omega
    clear hnz h1
    go_wp2
    go_end0
    exact ⟨rfl,unhide B6,unhide K6,_,_,_,unhide GX,by rw [unhide UP];exact unhide S6⟩
end Rd
end Go.Proofs.YtceahffmenbibaaGreatDoor
namespace Go.Proofs.YtceahffmenbibaaGreatDoor
namespace Rd
open Go Go.RowKit Go.Deep Go.Maps
attribute [local go_sem ↓] Go.wp_at_zero Go.wp_at_succ
def there (es:List Ent) (s:Key):Bool:=match look es s with
 | none=>false
 | some i=>match es[i]? with
  | none=>false
  | some e=>decide (0 < e.times)
set_option maxHeartbeats 1000000 in
set_option maxRecDepth 100000 in
theorem hasEmpty_any {B sb mb:Nat} {cv:Value} {gone:Int} {u:Key} {wv:Nat→Value} {es:List Ent} {wl:Nat→List Nat} (w:World) (hlen:es.length ≤ 2097152)
  (hS:Sto B sb w cv mb gone u wv es wl):
  Calls Tryz.prog 116 #[.pointer (some ⟨sb,0,none⟩)] w fun e w'=>e=.returned (.bool (there es (0,0)))∧Below w.heap.size w w':=by
 have h0:=(hS.head 0 (by omega)).1
 have h1:=(hS.head 1 (by omega)).1
 unfold stoF at h0 h1
 obtain ⟨c,hc,hrun⟩:=hS.map.lookup (k:=(0,0)) empty_ok
 unfold keyV at hrun
 have hlk:(Instr.lookup 130 (.map (some mb)) (.agg #[.int .u64 0,.int .u64 0]) true).run Tryz.prog w=.ok (.tuple #[.int .i64 c,.bool (look es (0,0)).isSome]) w:=hrun w rfl
 have HS:=hide hS
 clear hrun hS
 rcases hl:look es (0,0) with _ | i
 ·have E:Hid (there es (0,0)=false):=by unfold Hid there;rw [hl]
  rw [hl] at hlk
  clear hl hc
  go_enter Tryz.func116,Tryz.ntmps116
  go_wp2
  go_ret
  exact ⟨ret_bool (unhide E).symm,Below.refl _ _⟩
 ·obtain ⟨hi,_⟩:=look_some hl
  have hci:=hc i hl
  subst hci
  obtain ⟨cb,cap,hcv,_,_,_,_,hcells⟩:=(unhide HS).ents i hi
  subst hcv
  have c4:=(hcells 4 (by omega)).1
  simp only [entV,List.getElem?_cons_succ,List.getElem?_cons_zero] at c4
  have E:Hid (there es (0,0)=decide (0 < (es[i]).times)):=by unfold Hid there;rw [hl];simp only [List.getElem?_eq_getElem hi]
  rw [hl] at hlk
  have i0:(0:Int) ≤ (i:Int):=by omega
  have i1:(i:Int) < (es.length:Int):=by omega
  generalize (es[i]).times=tm at c4 E
  clear hl hc hcells
  go_enter Tryz.func116,Tryz.ntmps116
  go_wp2
  go_ret
  exact ⟨ret_bool (by rw [unhide E]),Below.refl _ _⟩
end Rd
end Go.Proofs.YtceahffmenbibaaGreatDoor
namespace Go.Proofs.YtceahffmenbibaaGreatDoor
namespace Rd
open Go Go.RowKit Go.Deep
def pairF (x y:Value) (j:Nat):Value:=if j=0 then x else y
end Rd
end Go.Proofs.YtceahffmenbibaaGreatDoor
namespace Go.Proofs.YtceahffmenbibaaGreatDoor
namespace Rd
open Go Go.RowKit Go.Deep
theorem rowIs_two (w:World) (x y:Value) (t:TypeId):(w.alloc (.cells #[x,y] t)).rowIs w.heap.size t 2 (pairF x y):=
 ⟨_,blk_alloc_new _ _,rfl,fun i hi=>by match i,hi with | 0,_=>rfl | 1,_=>rfl⟩
theorem rowIs_two' (w:World) (o:Obj) (x y:Value) (t:TypeId):((w.alloc o).alloc (.cells #[x,y] t)).rowIs (w.heap.size + 1) t 2 (pairF x y):=by
 have:=rowIs_two (w.alloc o) x y t
 simpa using this
theorem ret_int' {a b:Int} (h:a=b):Value.int .i64 a=.int .i64 b:=by rw [h]
end Rd
end Go.Proofs.YtceahffmenbibaaGreatDoor
