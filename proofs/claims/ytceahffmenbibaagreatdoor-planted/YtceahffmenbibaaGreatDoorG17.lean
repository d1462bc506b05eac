/- Pent Padd Phas Cref7 Cref8. -/
import Derived.Test.YtceahffmenbibaaGreatDoorG16
import Derived.Outline
import Derived.Deep.Cut
import Derived.Test.YtceahffmenbibaaGreatDoorG13
import Derived.Deep.RegionLaw
set_option linter.unusedVariables false
set_option linter.unusedSimpArgs false
set_option maxHeartbeats 1000000
set_option maxRecDepth 100000
namespace Go.Proofs.YtceahffmenbibaaGreatDoor
namespace Rd
section
open Go Go.RowKit Go.Deep Go.Maps
attribute [local go_sem ↓] Go.wp_at_zero Go.wp_at_succ
theorem Tryz.GQ:(Tryz.prog.info? 180).map (fun i=>(i.zero,i.size,i.bytes))=some (some (.agg #[.int .u64 0,.int .u64 0,.int .u64 0,.int .u64 0,.int .i64 0]),5,40):=by kernel_rfl
theorem Gt {w':World} {B:Nat} {v:Value} {n:Nat} {xs:List Value} {t:TypeId} {k:Nat} (h:w'.ownsRow B t k v n xs):∃ a c,v=.slice a n c:=by
 rcases h.2 with ⟨rfl,h0⟩ | ⟨g,cap,cur,rfl,_⟩
 ·exact ⟨none,0,by rw [h0]⟩
 ·exact ⟨_,cap,rfl⟩
theorem modify_last {α:Type} (l:List α) (a:α) (f:α->α):(l ++ [a]).modify l.length f=l ++ [f a]:=by
 induction l with
 | nil=>rfl
 | cons x r ih=>rw [List.cons_append,List.length_cons,List.modify_succ_cons,ih];rfl
theorem Mw (s:Key):Key.un (0,0) s=s:=by unfold Key.un;simp
def aL (s:Key):Int:=s.dW
def bL (s:Key):Int:=(s.wo (single s.dW)).dW
def dO (s:Key):aX:=⟨s,if 2 <= s.size then (single (aL s)).un (single (bL s)) else (0,0),0⟩
def fH (wl:Nat->List Nat) (s:Key) (n:Nat):Nat->List Nat:=if 2 <= s.size then (fun k=>if k=place (bL s) then (if place (bL s)=place (aL s) then wl (place (aL s)) ++ [n] else wl (place (bL s))) ++ [n] else if k=place (aL s) then wl (place (aL s)) ++ [n] else wl k) else wl
def Im (B sb:Nat) (cv:Value) (mb:Nat) (gone:Int) (u:Key) (es:List aX) (wl:Nat->List Nat) (s:Key) (w w':World):Prop:=
 Below B w w'/\aA w w'/\∃ cv' wv',eF cv cv' w w'/\di B sb w' cv' mb gone u wv' (es ++ [dO s]) (fH wl s es.length)
def LZ (B sb mb:Nat) (gone:Int) (u:Key) (es:List aX) (wl:Nat->List Nat) (s:Key) (w w':World):Prop:=
 Below B w w'/\aA w w'/\∃ cv' wv',di B sb w' cv' mb gone u wv' (es ++ [dO s]) (fH wl s es.length)
theorem Hf {B sb mb:Nat} {cv:Value} {gone:Int} {u:Key} {wv:Nat->Value} {es:List aX} {wl:Nat->List Nat} (s:Key) (w:World) (hs:s.ok) (hn:look es s=none) (hlen:es.length <= 274877906944) (hwl:∀ k,k < 128->(wl k).length <= 549755813888)
  (hS:di B sb w cv mb gone u wv es wl) (hT:nL B w):
  Calls Tryz.prog 109 #[.pointer (some ⟨sb,0,none⟩),aK s] w fun e w'=>e=.returned (.int .i64 (es.length:Nat))/\Im B sb cv mb gone u es wl s w w':=by
 have h0:=(hS.head 0 (by omega)).1
 have h1:=(hS.head 1 (by omega)).1
 have fz0:=(hS.head 0 (by omega)).2
 unfold gT at h0 h1;obtain ⟨ca,Lx,hcsh⟩:∃ a c,cv=.slice a es.length c:=by
  rcases hS.cls.2 with ⟨e,h⟩ | ⟨g,cap,cur,e,_⟩
  ·exact ⟨none,0,by rw [e,h]⟩
  ·exact ⟨_,_,e⟩
 subst hcsh;have HS:=hide hS;have HT:=hide hT;clear hS hT;have hsb:sb < w.heap.size:=HS.out.row.lt;have hne:¬ sb=w.heap.size:=by omega
 have hne2:¬ w.heap.size=sb:=by omega
 unfold aK;go_enter Tryz.func109,Tryz.ntmps109
 go_wp2;obtain ⟨W,hW⟩:∃ W,W=w.alloc (Obj.cells #[Value.int IntKind.u64 (s.1:Int),Value.int IntKind.u64 (s.2:Int)] 84):=⟨_,rfl⟩
 have hbW:Below w.heap.size w W:=by rw [hW];exact (Below.refl _ _).alloc (Nat.le_refl _) _
 have sW:W.heap.size=w.heap.size + 1:=by rw [hW];simp
 have x0:W.cell? ⟨w.heap.size,0,none⟩=some (.int .u64 (s.1:Int)):=by rw [hW];simp
 have x1:W.cell? ⟨w.heap.size,1,none⟩=some (.int .u64 (s.2:Int)):=by rw [hW];simp
 have xb:W.heap[w.heap.size]? = some (.cells #[.int .u64 (s.1:Int),.int .u64 (s.2:Int)] 84 (0,0)):=by rw [hW];exact heap_alloc_new _ _
 have y0:=(hbW.cell (p:=⟨sb,0,none⟩) hsb).trans h0;have y1:=(hbW.cell (p:=⟨sb,1,none⟩) hsb).trans h1;rw [<- hW];have FQ:=hide (HS.out.later hbW);have KW:=hide (aA.of_below hbW);have EW:=hide (eF.of_below (cv:=.slice ca es.length Lx) hbW);have LU:Hid (Below B w W):=hbW.mono HS.out.bsize;clear hW hbW h0 h1 fz0 hne hne2;have Mh:Hid (di B sb W.drew (.slice ca es.length Lx) mb gone u wv es wl):=FQ.out.later (Below.refl _ _).drew;obtain ⟨w1,hrun,hg1,hm1⟩:=Mh.out.map.update (i:=es.length) hs (by unfold maxLen;omega) (by omega)
 unfold aK at hrun;have XG:=hide hg1;have BN:=hide hm1;have mlt:mb < W.heap.size:=FQ.out.map.lt;have msb:=FQ.out.eT.1;have mx:mb ≠ w.heap.size:=fun e=>FQ.out.map.eO (by rw [e];exact xb)
 have s1:W.heap.size <= w1.heap.size:=hg1.size;have v0:w1.cell? ⟨w.heap.size,0,none⟩=some (.int .u64 (s.1:Int)):=by rw [World.cell?_of_block (w:=W) (hg1.block w.heap.size (by show w.heap.size < W.heap.size;omega) (fun e=>mx (Option.some.inj e).symm))];exact x0
 have v1:w1.cell? ⟨w.heap.size,1,none⟩=some (.int .u64 (s.2:Int)):=by rw [World.cell?_of_block (w:=W) (hg1.block w.heap.size (by show w.heap.size < W.heap.size;omega) (fun e=>mx (Option.some.inj e).symm))];exact x1
 have t0:w1.cell? ⟨sb,0,none⟩=some (.slice ca es.length Lx):=by rw [World.cell?_of_block (w:=W) (hg1.block sb (by show sb < W.heap.size;omega) (fun e=>msb (Option.some.inj e).symm))];exact y0
 clear hg1 hm1;go_cut [] from 12 (fun wx=>wx=w1)
 case first=>
  go_region
  all_goals
   go_wp2_with fail
   go_meet;rfl
 case rest=>
  rw [hcut];clear hcut;obtain ⟨c0,hc,hzz0,hzz1,hzz2⟩:=info_parts Tryz.GQ;have O1:Hid (w1.drew.ownsRow B 180 5 (.slice ca es.length Lx) es.length (gJ es)):=fP Mh.out.cls fun g hg=>XG.out.block g (Mh.out.cls.lt g hg).2 (fun e=>by
   rcases Mh.out.cls.2 with ⟨e2,_⟩ | ⟨g',cap',cur,e2,_,hg',_⟩
   ·rw [e2] at hg;cases hg
   ·rw [e2] at hg;cases hg;exact Mh.out.map.eO (by rw [<- (Option.some.inj e)];exact hg'))
  have G1:Hid (W.drew.grownBy w1.drew (some mb)):=⟨XG.out.os,XG.out.tape,XG.out.output,XG.out.size,XG.out.block⟩;have M1:Hid (gm w1.drew mb (es.length + 1) (fun t=>if t=(⟨s,(0,0),0⟩:aX).set then some es.length else look es t)):=BN.out.kept rfl
  have BWD:Hid (Below B w W.drew):=LU.out.drew;have bs1:B <= w1.heap.size:=by have:=FQ.out.bsize;omega
  have hw1x:w.heap.size < w1.heap.size:=by omega
  have hw1s:sb < w1.heap.size:=by omega
  clear XG BN hrun;go_wp2;go_cut [] from 12 (fun wx=>∃ cv',Hid (di B sb wx cv' mb gone u wv (es ++ [⟨s,(0,0),0⟩]) wl)/\Hid (Below B w wx)/\Hid (aA W wx)/\Hid (eF (.slice ca es.length Lx) cv' W wx))
  case first=>
   go_region_law
    (refine dR _ (by rfl) _ _ 131 (by rfl) B 180 c0 _ 5 40 Tryz.underlying131 hc hzz0 hzz1 hzz2 (by rfl) (by decide) (.slice ca es.length Lx) es.length (gJ es) (by rfl) (O1.out.alloc (Obj.cells #[.int .u64 (s.1:Int),.int .u64 (s.2:Int),.int .u64 0,.int .u64 0,.int .i64 0] 180)) (.slice (some ⟨w1.heap.size,0,none⟩) 1 1) 1 [.int .u64 (s.1:Int),.int .u64 (s.2:Int),.int .u64 0,.int .u64 0,.int .i64 0] (by rfl) (.inr ⟨⟨w1.heap.size,0,none⟩,1,rfl,World.news_of_block (cs:=#[.int .u64 (s.1:Int),.int .u64 (s.2:Int),.int .u64 0,.int .u64 0,.int .i64 0]) (t:=180) (fr:=(0,0)) (heap_alloc_new w1.drew _)⟩) (by rfl) (by simp [Value.oneCell']) (by unfold maxLen;omega) (by omega) (by simp;omega) ?_;intro cv6 w6 A6;have S6:=hide (Mh.out.YL (e:=⟨s,(0,0),0⟩) hn G1.out M1.out A6);have B6:=hide (Mh.out.Xl (e:=⟨s,(0,0),0⟩) G1.out A6 BWD.out cv6);have K6:=(Mh.out.U7 (e:=⟨s,(0,0),0⟩) G1.out A6).1;have K7:=(Mh.out.U7 (e:=⟨s,(0,0),0⟩) G1.out A6).2;have C6:=hide ((aA.of_below (Below.refl W.heap.size W).drew).trans (Mh.out.Wv (e:=⟨s,(0,0),0⟩) G1.out A6 cv6));have E6:=hide ((eF.of_below (Below.refl W.heap.size W).drew).trans (Mh.out.TL (e:=⟨s,(0,0),0⟩) G1.out A6 cv6));obtain ⟨qL,qK,hv6⟩:=Gt A6.own;subst hv6;clear A6)
   all_goals
    go_wp2_with fail
    go_meet;exact ⟨_,S6,B6,C6,E6⟩
  case rest=>
   obtain ⟨cv6,S6,B6,C6,E6⟩:=hcut;have EC:=hide (EW.out.trans E6.out);have FX:Hid (iE W w.heap.size):=⟨_,_,xb,by decide⟩
   have c0':=(C6.out.cell (j:=0) FX.out).trans x0;have c1':=(C6.out.cell (j:=1) FX.out).trans x1;have FC:=hide (C6.out.pF FX.out);have KC:Hid (aA w wc):=KW.out.trans C6.out;have HWL:=hide hwl;clear G1 M1 O1 Mh FQ BWD v0 v1 t0 x0 x1 xb y0 y1 C6 FX sW mlt msb mx s1 bs1 hw1x hw1s hwl hn;go_wp2_with fail
   refine (gZ s _ hs).mono ?_;rintro e7 w7 ⟨rfl,ku⟩;have S7:=hide (S6.out.later ku);have B7:Hid (Below B w w7):=B6.out.trans (ku.mono S6.out.bsize);have K7:Hid (aA w w7):=KC.out.trans (aA.of_below ku);have E7:=hide (EC.out.trans (eF.of_below ku));have d0:=(ku.cell (p:=⟨w.heap.size,0,none⟩) (block_lt_of_cell c0')).trans c0';have d1:=(ku.cell (p:=⟨w.heap.size,1,none⟩) (block_lt_of_cell c1')).trans c1';have F7:=hide ((aA.of_below ku).pF FC.out);have lt7:w.heap.size < w7.heap.size:=block_lt_of_cell d0;clear ku c0' c1' FC KC;obtain ⟨nz,hnz⟩:∃ n,n=s.size:=⟨_,rfl⟩;rw [<- hnz];by_cases hsz:2 <= s.size
   ·have hs0:s ≠ (0,0):=fun e=>by rw [e,pU] at hsz;omega
    obtain ⟨p1,p2,p3⟩:=lM hs hs0;have hb0:s.wo (single s.dW) ≠ (0,0):=uq hs hsz (bX p3);have wok:=Cg hs (single s.dW);obtain ⟨r1,r2,r3⟩:=lM wok hb0;have q1:=fun W=>AO s W hs hs0
    have q2:=fun W=>nM s (single s.dW) W hs (gy p3)
    have q3:=fun W=>AO (s.wo (single s.dW)) W wok hb0
    rw [p1] at q1;rw [r1] at q3;have E1:Hid (dO s=⟨s,(single s.dW).un (single (s.wo (single s.dW)).dW),0⟩):=by unfold Hid dO aL bL;rw [if_pos hsz]
    have E2:Hid (fH wl s es.length=fun k=>if k=place (bL s) then (if place (bL s)=place (aL s) then wl (place (aL s)) ++ [es.length] else wl (place (bL s))) ++ [es.length] else if k=place (aL s) then wl (place (aL s)) ++ [es.length] else wl k):=by unfold Hid fH;rw [if_pos hsz]
    have hszi:(2:Int) <= (nz:Int):=by omega
    have W1:Hid (∀ cv wv w (h:di B sb w cv mb gone u wv (es ++ [(⟨s,(0,0),0⟩:aX)]) wl) (hT:nL B w),Calls Tryz.prog 159 #[.pointer (some ⟨sb,0,none⟩),.int .i64 (es.length:Nat),aK (single s.dW)] w fun e w'=>e=.returned (.tuple #[])/\Below B w w'/\aA w w'/\eF cv cv w w'/\
      ∃ wv',di B sb w' cv mb gone u wv' (es ++ [(⟨s,single s.dW,0⟩:aX)]) (fun k=>if k=place s.dW then wl (place s.dW) ++ [es.length] else wl k)):=by
     intro cv wv w h hT;have gx:es.length < (es ++ [(⟨s,(0,0),0⟩:aX)]).length:=by simp
     have ge:(es ++ [(⟨s,(0,0),0⟩:aX)])[es.length]'gx=⟨s,(0,0),0⟩:=by simp
     refine (vL es.length s.dW w p3 gx (by rw [ge];exact iU) (by simp;omega) (Nat.le_trans (HWL.out _ (lL p3)) (by omega)) h hT).mono ?_
     rintro e w' ⟨h1,h2,h3,h6,wv',h4⟩;refine ⟨h1,h2,h3,h6,wv',?_⟩;have e:kC (es ++ [(⟨s,(0,0),0⟩:aX)]) es.length (((es ++ [(⟨s,(0,0),0⟩:aX)])[es.length]'gx).watched.un (single s.dW))=es ++ [(⟨s,single s.dW,0⟩:aX)]:=by
      rw [ge];unfold kC;rw [modify_last,Mw]
     rw [e] at h4;exact h4
    have Q1:=hide q1;have Q2:=hide q2;have Q3:=hide q3;have P3:=hide p3;have R3:=hide r3;unfold aK at Q1 Q2 Q3 W1;clear q1 q2 q3 p1 p2 p3 r1 r2 r3 hb0 hs0 wok hsz hnz;go_wp2_with fail
    refine (Q1.out _).mono ?_;rintro e8 w8 ⟨rfl,p8⟩;have S8:=hide (S7.out.later p8);have B8:Hid (Below B w w8):=B7.out.trans (p8.mono S7.out.bsize);have K8:Hid (aA w w8):=K7.out.trans (aA.of_below p8);have E8:=hide (E7.out.trans (eF.of_below p8));have f0:=(p8.cell (p:=⟨w.heap.size,0,none⟩) lt7).trans d0;have f1:=(p8.cell (p:=⟨w.heap.size,1,none⟩) lt7).trans d1;have F8:=hide ((aA.of_below p8).pF F7.out);have lt8:w.heap.size < w8.heap.size:=block_lt_of_cell f0;clear p8 d0 d1 F7 S7 B7 K7;have W2:Hid (∀ cv wv w (h:di B sb w cv mb gone u wv (es ++ [(⟨s,single s.dW,0⟩:aX)]) (fun k=>if k=place s.dW then wl (place s.dW) ++ [es.length] else wl k)) (hT:nL B w),Calls Tryz.prog 159 #[.pointer (some ⟨sb,0,none⟩),.int .i64 (es.length:Nat),aK (single (s.wo (single s.dW)).dW)] w fun e w'=>e=.returned (.tuple #[])/\Below B w w'/\aA w w'/\
      ∃ cv' wv',eF cv cv' w w'/\di B sb w' cv' mb gone u wv' (es ++ [dO s]) (fH wl s es.length)):=by
     intro cv wv w h hT;have gx:es.length < (es ++ [(⟨s,single s.dW,0⟩:aX)]).length:=by simp
     have ge:(es ++ [(⟨s,single s.dW,0⟩:aX)])[es.length]'gx=⟨s,single s.dW,0⟩:=by simp
     have bnd:(if place (s.wo (single s.dW)).dW=place s.dW then wl (place s.dW) ++ [es.length] else wl (place (s.wo (single s.dW)).dW)).length <= 1099511627776:=by
      split
      ·have:=HWL.out _ (lL P3.out);simp;omega
      ·have:=HWL.out _ (lL R3.out);omega
     refine (vL es.length (s.wo (single s.dW)).dW w R3.out gx (by rw [ge];exact gy P3.out) (by simp;omega) bnd h hT).mono ?_
     rintro e w' ⟨h1,h2,h3,h6,wv',h4⟩;refine ⟨h1,h2,h3,cv,wv',h6,?_⟩;have e:kC (es ++ [(⟨s,single s.dW,0⟩:aX)]) es.length (((es ++ [(⟨s,single s.dW,0⟩:aX)])[es.length]'gx).watched.un (single (s.wo (single s.dW)).dW))=es ++ [dO s]:=by
      rw [ge];unfold kC;rw [modify_last,E1.out]
     rw [e] at h4;rw [E2.out];exact h4
    unfold aK at W2;generalize single s.dW=sa at *
    generalize s.wo sa=so at *
    generalize single so.dW=sc at *
    have HH:=hide (And.intro E1.out E2.out);clear E1 E2 HH;simp only [];go_wp2_with fail
    refine (W1.out _ _ _ (S8.out.later ((Below.refl _ _).alloc (Nat.le_refl _) _)) (HT.out.later (B8.out.alloc S8.out.bsize _))).mono ?_;rintro e9 w9 ⟨rfl,L6,hk9,hE9,wv9,S9⟩;have E9:=hide ((E8.out.trans (eF.of_below ((Below.refl _ w8).alloc (Nat.le_refl _) _))).trans hE9);clear hE9;have HS9:=hide S9;have B9:Hid (Below B w w9):=(B8.out.alloc S8.out.bsize _).trans L6;have k9:=(aA.of_below ((Below.refl _ w8).alloc (Nat.le_refl _) _)).trans hk9;have K9:Hid (aA w w9):=K8.out.trans k9;have h0:=(k9.cell (j:=0) F8.out).trans f0;have h1:=(k9.cell (j:=1) F8.out).trans f1;have fn:=oz w8 #[Value.int IntKind.u64 (sa.1:Int),Value.int IntKind.u64 (sa.2:Int)] 84 (by decide)
    have j0:w9.cell? ⟨w8.heap.size,0,none⟩=some (.int .u64 (sa.1:Int)):=by rw [hk9.cell (j:=0) fn];simp
    have j1:w9.cell? ⟨w8.heap.size,1,none⟩=some (.int .u64 (sa.2:Int)):=by rw [hk9.cell (j:=1) fn];simp
    clear S9 L6 hk9 k9 fn f0 f1;simp only [];go_wp2_with fail
    refine (Q2.out _).mono ?_;rintro e10 w10 ⟨rfl,OT⟩;have Z0:=hide (HS9.out.later OT);have B10:Hid (Below B w w10):=B9.out.trans (OT.mono HS9.out.bsize);have K10:Hid (aA w w10):=K9.out.trans (aA.of_below OT);have E10:=hide (E9.out.trans (eF.of_below OT));clear OT h0 h1 j0 j1;simp only [];go_wp2_with fail
    refine (Q3.out _).mono ?_;rintro e11 w11 ⟨rfl,OQ⟩;have S11:=hide (Z0.out.later OQ);have B11:Hid (Below B w w11):=B10.out.trans (OQ.mono Z0.out.bsize);have K11:Hid (aA w w11):=K10.out.trans (aA.of_below OQ);have E11:=hide (E10.out.trans (eF.of_below OQ));clear OQ;simp only [];go_wp2_with fail
    refine (W2.out _ _ _ S11.out (HT.out.later B11.out)).mono ?_;rintro e12 w12 ⟨rfl,ZA,Zr,cv12,wv12,ZF,ZZ⟩;have E12:=hide (E11.out.trans ZF);clear ZF;have BE:=hide (B11.out.trans ZA);have KE:=hide (K11.out.trans Zr);have SE:=hide ZZ;clear ZA Zr ZZ;simp only [];go_wp2;go_ret;exact ⟨rfl,BE.out,KE.out,_,_,E12.out,SE.out⟩
   ·have hszi:¬ (2:Int) <= (nz:Int):=by omega
    have e1:Hid (dO s=⟨s,(0,0),0⟩):=by unfold Hid dO;rw [if_neg hsz]
    have e2:Hid (fH wl s es.length=wl):=by unfold Hid fH;rw [if_neg hsz]
    clear hsz hs hnz;simp only [];go_wp2;go_ret;exact ⟨rfl,B7.out,K7.out,_,_,E7.out,by rw [e1.out,e2.out];exact S7.out⟩
theorem Lf {B sb mb:Nat} {cv:Value} {gone:Int} {u:Key} {wv:Nat->Value} {es:List aX} {wl:Nat->List Nat} (s:Key) (w:World) (hs:s.ok) (hn:look es s=none) (hlen:es.length <= 274877906944) (hwl:∀ k,k < 128->(wl k).length <= 549755813888)
  (hS:di B sb w cv mb gone u wv es wl) (hT:nL B w):
  Calls Tryz.prog 109 #[.pointer (some ⟨sb,0,none⟩),aK s] w fun e w'=>e=.returned (.int .i64 (es.length:Nat))/\LZ B sb mb gone u es wl s w w':=by
 with_reducible refine (Hf s w hs hn hlen hwl hS hT).mono ?_
 rintro e w' ⟨h1,h2,h3,cv',wv',_,h4⟩;exact ⟨h1,h2,h3,cv',wv',h4⟩
end
section
open Go Go.RowKit Go.Deep Go.Maps
attribute [local go_sem ↓] Go.wp_at_zero Go.wp_at_succ
theorem jF {es:List aX} {s:Key} {i:Nat} (h:look es s=some i):∃ hi:i < es.length,(es[i]).set=s:=by
 unfold look at h;obtain ⟨hi,h2,_⟩:=List.findIdx?_eq_some_iff_getElem.1 h;exact ⟨hi,by simpa using h2⟩
theorem di.VK {B sb mb:Nat} {w:World} {cv:Value} {gone:Int} {u:Key} {wv:Nat->Value} {es:List aX} {wl:Nat->List Nat} (h:di B sb w cv mb gone u wv es wl) (k:Key):di B sb ((w.setCell ⟨sb,3,none⟩ (.int .u64 (k.1:Int))).setCell ⟨sb,4,none⟩ (.int .u64 (k.2:Int))) cv mb gone k wv es wl:=
 h.YA (((h.row.set 3 _).set 4 _).congr fun i hi=>by
  match i with
  | 0=>rfl
  | 1=>rfl
  | 2=>rfl
  | 3=>rfl
  | 4=>rfl
  | n + 5=>simp [gT]) (fun n hn=>by rw [Below.heap_setCell _ _ _ _ hn,Below.heap_setCell _ _ _ _ hn])
theorem di.sO {B sb mb:Nat} {w:World} {cv:Value} {gone:Int} {u:Key} {wv:Nat->Value} {es:List aX} {wl:Nat->List Nat} (h:di B sb w cv mb gone u wv es wl) (j j':Nat) (x y:Value):aA w ((w.setCell ⟨sb,j,none⟩ x).setCell ⟨sb,j',none⟩ y):=fun k hk=>by
 have ne:k ≠ sb:=fun e=>by
  obtain ⟨c,hr,_⟩:=h.row;obtain ⟨y,t,e1,e2,_⟩:=hk;rw [e,hr] at e1;cases e1;exact e2 rfl
 rw [Below.heap_setCell _ _ _ _ ne,Below.heap_setCell _ _ _ _ ne]
def rU (es:List aX) (s:Key):List aX:=match look es s with
 | none=>es ++ [{ dO s with times:=1 }]
 | some i=>es.modify i (fun e=>{ e with times:=e.times + 1 })
def yM (es:List aX) (wl:Nat->List Nat) (s:Key):Nat->List Nat:=match look es s with
 | none=>fH wl s es.length
 | some _=>wl
def UG (B sb mb:Nat) (gone:Int) (u:Key) (es:List aX) (wl:Nat->List Nat) (s:Key) (w w':World):Prop:=
 Below B w w'/\aA w w'/\∃ cv' wv' g',(g'=gone\/g'=gone - 1)/\di B sb w' cv' mb g' (if s.size=1 then u.un s else u) wv' (rU es s) (yM es wl s)
theorem vI (es:List aX) (i:Nat) (hi:i < es.length):nN es i ((es[i]).times + 1)=es.modify i (fun e=>{ e with times:=e.times + 1 }):=by
 unfold nN;refine List.ext_getElem? fun j=>?_
 rw [List.getElem?_modify,List.getElem?_modify];split
 ·rename_i h;subst h;rw [List.getElem?_eq_getElem hi];rfl
 ·rfl
theorem vz {B sb mb:Nat} {cv:Value} {gone:Int} {u:Key} {wv:Nat->Value} {es:List aX} {wl:Nat->List Nat} (s:Key) (w:World) (hs:s.ok) (hu:u.ok) (hlen:es.length <= 274877906944) (hwl:∀ k,k < 128->(wl k).length <= 549755813888) (I4:-1099511627776 <= gone/\gone <= 1099511627776) (WA:∀ e ∈ es,e.times <= 1099511627776)
  (hS:di B sb w cv mb gone u wv es wl) (hT:nL B w):
  Calls Tryz.prog 68 #[.pointer (some ⟨sb,0,none⟩),aK s] w fun e w'=>e=.returned (.tuple #[])/\UG B sb mb gone u es wl s w w':=by
 have h0:=(hS.head 0 (by omega)).1
 have h1:=(hS.head 1 (by omega)).1
 unfold gT at h0 h1;have HS:=hide hS;have HT:=hide hT;have hsb:sb < w.heap.size:=HS.out.row.lt;have hne:¬ sb=w.heap.size:=by omega
 have hne2:¬ w.heap.size=sb:=by omega
 clear hS hT;obtain ⟨c,hc,hrun⟩:=HS.out.map.lookup hs;unfold aK at hrun ⊢;have HRUN:=hide hrun;clear hrun;go_enter Tryz.func68,Tryz.ntmps68
 go_wp2_with fail
 obtain ⟨W,hW⟩:∃ W,W=w.alloc (Obj.cells #[Value.int IntKind.u64 (s.1:Int),Value.int IntKind.u64 (s.2:Int)] 84):=⟨_,rfl⟩;have hbW:Below w.heap.size w W:=by rw [hW];exact (Below.refl _ _).alloc (Nat.le_refl _) _
 have x0:W.cell? ⟨w.heap.size,0,none⟩=some (.int .u64 (s.1:Int)):=by rw [hW];simp
 have x1:W.cell? ⟨w.heap.size,1,none⟩=some (.int .u64 (s.2:Int)):=by rw [hW];simp
 have xb:W.heap[w.heap.size]? = some (.cells #[.int .u64 (s.1:Int),.int .u64 (s.2:Int)] 84 (0,0)):=by rw [hW];exact heap_alloc_new _ _
 have FX:Hid (iE W w.heap.size):=⟨_,_,xb,by decide⟩
 have y0:=(hbW.cell (p:=⟨sb,0,none⟩) hsb).trans h0;have y1:=(hbW.cell (p:=⟨sb,1,none⟩) hsb).trans h1;rw [<- hW];have FQ:=hide (HS.out.later hbW);have KW:=hide (aA.of_below hbW);have LU:Hid (Below B w W):=hbW.mono HS.out.bsize;have hlk:∀ n,(Instr.lookup 130 (.map (some mb)) (.agg #[.int .u64 (s.1:Int),.int .u64 (s.2:Int)]) true).run Tryz.prog (W.drewN n)=.ok (.tuple #[.int .i64 c,.bool (look es s).isSome]) (W.drewN n):=fun n=>HRUN.out (W.drewN n) (hbW.block mb HS.out.map.lt)
 clear hW hbW h0 h1 hne hne2 HRUN xb;have HWL:=hide hwl;have HTM:=hide WA;have ltW:w.heap.size < W.heap.size:=block_lt_of_cell x0;obtain ⟨gl,gh⟩:=I4;have ZH:∀ (X:World) (cvX:Value) (wvX:Nat->Value) (gX:Int) (sZ:List aX) (XP:Nat->List Nat) (jX:Nat),True:=fun _ _ _ _ _ _ _=>trivial
 clear ZH
 rcases hl:look es s with _ | i
 ·rw [hl] at hlk hc;have QE:=hide (fun W' (h:di B sb W' cv mb gone u wv es wl) (hT:nL B W')=>Lf s W' hs hl hlen hwl h hT)
  unfold aK at QE;obtain ⟨sZ,rH⟩:∃ x,x=es ++ [dO s]:=⟨_,rfl⟩;obtain ⟨XP,Ea⟩:∃ x,x=fH wl s es.length:=⟨_,rfl⟩;obtain ⟨jX,hj0⟩:∃ j,j=es.length:=⟨_,rfl⟩;have lX:jX < sZ.length:=by rw [rH,hj0];simp
  have RX:Hid (nN sZ jX ((sZ[jX]'lX).times + 1)=rU es s/\XP=yM es wl s):=by
   refine ⟨?_,by unfold yM;rw [hl];exact Ea⟩
   rw [vI,rH,hj0,modify_last];unfold rU;rw [hl];unfold dO;rfl
  have tX:(sZ[jX]'lX).times <= 1099511627776:=by subst rH hj0;simp [dO]
  obtain ⟨gX,hg0⟩:∃ g,g=gone:=⟨_,rfl⟩;have GX:Hid (gX=gone\/gX=gone - 1):=.inl hg0;clear hl hc hwl WA y0 HS;go_quiet (fail)
  go_wp2_with fail
  refine (QE.out _ (FQ.out.later (dK (Below.refl _ _) _)) (HT.out.later (dK LU.out _))).mono ?_;rintro e5 X ⟨rfl,b5,k5,cvX,wvX,S5⟩;rw [<- rH,<- Ea,<- hg0] at S5;have SX:=hide S5;have BX:Hid (Below B w X):=(dK LU.out _).trans b5;have Y9:aA W X:=(aA.of_below (dK (Below.refl _ W) _)).trans k5;have KX:Hid (aA w X):=KW.out.trans Y9;have z0:=(Y9.cell (j:=0) FX.out).trans x0;have z1:=(Y9.cell (j:=1) FX.out).trans x1;have Vr:=hide (Y9.pF FX.out);obtain ⟨cb,cap,hcv,Ee,GU,WX,hcap,hcells⟩:=SX.out.Le jX lX;have lenX:sZ.length <= 549755813888:=by rw [rH];simp;omega
  simp only [];rw [<- hj0];clear b5 k5 Y9 S5 x0 x1 y1 hlk FX FQ LU KW QE rH Ea hg0 hj0;subst hcv;have y0:=(SX.out.head 0 (by omega)).1
  have y3:=(SX.out.head 3 (by omega)).1
  have y4:=(SX.out.head 4 (by omega)).1
  have g3:=(SX.out.head 3 (by omega)).2
  have g4:=(SX.out.head 4 (by omega)).2
  unfold gT at y0 y3 y4;have c4:=(hcells 4 (by omega)).1
  have f4:=(hcells 4 (by omega)).2
  simp only [lV,List.getElem?_cons_succ,List.getElem?_cons_zero] at c4;have S1:=hide (SX.out.VM lX ((sZ[jX]'lX).times + 1));rw [RX.out.1,RX.out.2] at S1;generalize (sZ[jX]'lX).times=tm at c4 tX S1;have Zg:sb < X.heap.size:=SX.out.row.lt;have Zc:w.heap.size < X.heap.size:=block_lt_of_cell z0;have NS:¬ cb=w.heap.size:=fun e=>by
   obtain ⟨y,t,e1,_,e3,_⟩:=Vr.out
   rcases SX.out.cls.2 with ⟨e2,_⟩ | ⟨g',cap',cur,e2,_,hg',_⟩
   ·cases e2
   ·cases e2;rw [e,e1] at hg';cases hg';exact e3 rfl
  have X5:(0:Int) <= (jX:Int):=by omega
  have XZ:(jX:Int) < (sZ.length:Int):=by omega
  clear hcells;have B1:Hid (Below B w (X.setCell ⟨cb,jX * 5 + 4,none⟩ (.int .i64 ((tm:Int) + 1)))):=BX.out.setCell Ee _;have K1:Hid (aA w (X.setCell ⟨cb,jX * 5 + 4,none⟩ (.int .i64 ((tm:Int) + 1)))):=KX.out.trans (SX.out.wQ _ _);rw [show ((tm + 1:Nat):Int)=(tm:Int) + 1 by omega] at S1
  have w0:(X.setCell ⟨cb,jX * 5 + 4,none⟩ (.int .i64 ((tm:Int) + 1))).cell? ⟨w.heap.size,0,none⟩=some (.int .u64 (s.1:Int)):=by rw [World.cell?_setCell_far _ _ _ _ (by simpa using NS)];exact z0
  have w1:(X.setCell ⟨cb,jX * 5 + 4,none⟩ (.int .i64 ((tm:Int) + 1))).cell? ⟨w.heap.size,1,none⟩=some (.int .u64 (s.2:Int)):=by rw [World.cell?_setCell_far _ _ _ _ (by simpa using NS)];exact z1
  go_wp2_with fail
  refine (gZ s _ hs).mono ?_;obtain ⟨Y,hY⟩:∃ Y,Y=X.setCell ⟨cb,jX * 5 + 4,none⟩ (.int .i64 ((tm:Int) + 1)):=⟨_,rfl⟩;rw [<- hY] at S1 B1 K1 w0 w1 ⊢;rintro e6 w6 ⟨rfl,hb6⟩;have S6:=hide (S1.out.later hb6);have B6:Hid (Below B w w6):=B1.out.trans (hb6.mono S1.out.bsize);have K6:Hid (aA w w6):=K1.out.trans (aA.of_below hb6);have a0:=(hb6.cell (p:=⟨w.heap.size,0,none⟩) (block_lt_of_cell w0)).trans w0;have a1:=(hb6.cell (p:=⟨w.heap.size,1,none⟩) (block_lt_of_cell w1)).trans w1;have b3:=(S6.out.head 3 (by omega)).1
  have b4:=(S6.out.head 4 (by omega)).1
  have q3:=(S6.out.head 3 (by omega)).2
  have q4:=(S6.out.head 4 (by omega)).2
  unfold gT at b3 b4;clear hY hb6 w0 w1 z0 z1 y0 y3 y4 g3 g4 c4 f4 S1 B1 K1 SX BX KX RX Vr NS Zg Zc X5 XZ lX;obtain ⟨nz,hnz⟩:∃ n,n=s.size:=⟨_,rfl⟩;rw [<- hnz];simp only [];by_cases h1:nz=1
  ·have UP:Hid ((if s.size=1 then u.un s else u)=u.un s):=by unfold Hid;rw [if_pos (by omega)]
   have qu:=hide (fun W'=>gu u s W' hu hs)
   unfold aK at qu;have hx6:w.heap.size < w6.heap.size:=block_lt_of_cell a0;have hs6:sb < w6.heap.size:=S6.out.row.lt;subst h1;clear hnz;go_wp2;go_region_with (go_at_call 75;refine (qu.out _).mono ?_;rintro e7 w7 ⟨rfl,ku⟩;have B7:Hid (Below w6.heap.size w6 w7):=(Below.refl _ _).drew.trans ku;have k3:=(B7.out.cell (p:=⟨sb,3,none⟩) hs6).trans b3;have k4:=(B7.out.cell (p:=⟨sb,4,none⟩) hs6).trans b4;have r3:=(B7.out.frozen (p:=⟨sb,3,none⟩) hs6).trans q3;have r4:=(B7.out.frozen (p:=⟨sb,4,none⟩) hs6).trans q4;clear ku)
   all_goals
    have S7:=S6.out.later B7.out;have S8:=hide (S7.VK (u.un s));have B8:Hid (Below B w ((w7.setCell ⟨sb,3,none⟩ (.int .u64 ((u.un s).1:Int))).setCell ⟨sb,4,none⟩ (.int .u64 ((u.un s).2:Int)))):=((B6.out.trans (B7.out.mono S6.out.bsize)).setCell S7.fZ _).setCell S7.fZ _;have K8:Hid (aA w ((w7.setCell ⟨sb,3,none⟩ (.int .u64 ((u.un s).1:Int))).setCell ⟨sb,4,none⟩ (.int .u64 ((u.un s).2:Int)))):=(K6.out.trans (aA.of_below B7.out)).trans (S7.sO _ _ _ _);clear S7;go_wp2;go_end0;exact ⟨rfl,B8.out,K8.out,_,_,_,GX.out,by rw [UP.out];exact S8.out⟩
  ·have UP:Hid ((if s.size=1 then u.un s else u)=u):=by unfold Hid;rw [if_neg (by omega)]
   have hb:((nz:Int) == 1)=false:=by rw [beq_eq_false_iff_ne];omega
   clear hnz h1;go_wp2;go_end0;exact ⟨rfl,B6.out,K6.out,_,_,_,GX.out,by rw [UP.out];exact S6.out⟩
 ·obtain ⟨hi,hset⟩:=jF hl;have hci:=hc i hl;subst hci;rw [hl] at hlk;obtain ⟨sZ,rH⟩:∃ x,x=es:=⟨_,rfl⟩;obtain ⟨XP,Ea⟩:∃ x,x=wl:=⟨_,rfl⟩;obtain ⟨jX,hj0⟩:∃ j,j=i:=⟨_,rfl⟩;have lX:jX < sZ.length:=by rw [rH,hj0];exact hi
  have RX:Hid (nN sZ jX ((sZ[jX]'lX).times + 1)=rU es s/\XP=yM es wl s):=by
   refine ⟨?_,by unfold yM;rw [hl];exact Ea⟩
   rw [vI,rH,hj0];unfold rU;rw [hl]
  have tX:(sZ[jX]'lX).times <= 1099511627776:=HTM.out _ (by rw [<- rH];exact List.getElem_mem lX)
  have lenX:sZ.length <= 549755813888:=by rw [rH];omega
  have SW:=FQ.out;rw [<- rH,<- Ea] at SW;have HS2:=hide SW;obtain ⟨Jj,cap0,hcv0,_,U9,U8,_,hcells0⟩:=SW.Le jX lX;have t4:=(hcells0 4 (by omega)).1
  simp only [lV,List.getElem?_cons_succ,List.getElem?_cons_zero] at t4;have t2:=(SW.head 2 (by omega)).1
  have q2:=(SW.head 2 (by omega)).2
  unfold gT at t2;subst hcv0;rw [<- hj0] at hlk;have X5:(0:Int) <= (jX:Int):=by omega
  have XZ:(jX:Int) < (sZ.length:Int):=by omega
  have hsW:sb < W.heap.size:=SW.row.lt;have jx2:jX < es.length:=by omega
  have jx3:(jX:Int) < (es.length:Int):=by omega
  clear hl hc hwl WA HS SW hcells0 hj0;obtain ⟨t0,ht0⟩:∃ t,t=(sZ[jX]'lX).times:=⟨_,rfl⟩;rw [<- ht0] at t4;clear ht0;by_cases tz:t0=0
  ·have tzb:((t0:Int) == 0)=true:=by rw [beq_iff_eq];omega
   go_quiet (fail)
   go_upto_region 6 with fail
   have SD:=HS2.out.later (dK (Below.refl _ W) nq);have KD:aA W (W.drewN nq):=aA.of_below (dK (Below.refl _ W) _);obtain ⟨X,hX⟩:∃ X,X=(W.drewN nq).setCell ⟨sb,2,none⟩ (.int .i64 (gone - 1)):=⟨_,rfl⟩;obtain ⟨gX,hg0⟩:∃ g,g=gone - 1:=⟨_,rfl⟩;rw [<- hX];have GX:Hid (gX=gone\/gX=gone - 1):=.inr hg0;have SX:Hid (di B sb X (.slice (some ⟨Jj,0,none⟩) sZ.length cap0) mb gX u wv sZ XP):=by unfold Hid;rw [hX,hg0];exact SD.gB _
   have BX:Hid (Below B w X):=by unfold Hid;rw [hX];exact (dK LU.out nq).setCell SD.fZ _
   have kX:aA W X:=by rw [hX];exact KD.trans (SD.DZ _ _)
   have KX:Hid (aA w X):=KW.out.trans kX;have z0:=(kX.cell (j:=0) FX.out).trans x0;have z1:=(kX.cell (j:=1) FX.out).trans x1;have Vr:=hide (kX.pF FX.out);obtain ⟨cb,cap,hcv,Ee,GU,WX,hcap,hcells⟩:=SX.out.Le jX lX;clear SD KD hX kX x0 x1 y1 hlk FX FQ LU KW hg0 tz tzb t4 t2 q2 y0 HS2 U9 U8;subst rH Ea;cases hcv
   have y0:=(SX.out.head 0 (by omega)).1
   have y3:=(SX.out.head 3 (by omega)).1
   have y4:=(SX.out.head 4 (by omega)).1
   have g3:=(SX.out.head 3 (by omega)).2
   have g4:=(SX.out.head 4 (by omega)).2
   unfold gT at y0 y3 y4;have c4:=(hcells 4 (by omega)).1
   have f4:=(hcells 4 (by omega)).2
   simp only [lV,List.getElem?_cons_succ,List.getElem?_cons_zero] at c4;have S1:=hide (SX.out.VM lX ((sZ[jX]'lX).times + 1));rw [RX.out.1,RX.out.2] at S1;generalize (sZ[jX]'lX).times=tm at c4 tX S1;have Zg:sb < X.heap.size:=SX.out.row.lt;have Zc:w.heap.size < X.heap.size:=block_lt_of_cell z0;have NS:¬ Jj=w.heap.size:=fun e=>by
    obtain ⟨y,t,e1,_,e3,_⟩:=Vr.out
    rcases SX.out.cls.2 with ⟨e2,_⟩ | ⟨g',ZR,cur,e2,_,hg',_⟩
    ·cases e2
    ·cases e2;rw [e,e1] at hg';cases hg';exact e3 rfl
   have X5:(0:Int) <= (jX:Int):=by omega
   have XZ:(jX:Int) < (sZ.length:Int):=by omega
   clear hcells;have B1:Hid (Below B w (X.setCell ⟨Jj,jX * 5 + 4,none⟩ (.int .i64 ((tm:Int) + 1)))):=BX.out.setCell Ee _;have K1:Hid (aA w (X.setCell ⟨Jj,jX * 5 + 4,none⟩ (.int .i64 ((tm:Int) + 1)))):=KX.out.trans (SX.out.wQ _ _);rw [show ((tm + 1:Nat):Int)=(tm:Int) + 1 by omega] at S1
   have w0:(X.setCell ⟨Jj,jX * 5 + 4,none⟩ (.int .i64 ((tm:Int) + 1))).cell? ⟨w.heap.size,0,none⟩=some (.int .u64 (s.1:Int)):=by rw [World.cell?_setCell_far _ _ _ _ (by simpa using NS)];exact z0
   have w1:(X.setCell ⟨Jj,jX * 5 + 4,none⟩ (.int .i64 ((tm:Int) + 1))).cell? ⟨w.heap.size,1,none⟩=some (.int .u64 (s.2:Int)):=by rw [World.cell?_setCell_far _ _ _ _ (by simpa using NS)];exact z1
   go_wp2_with fail
   refine (gZ s _ hs).mono ?_;obtain ⟨Y,hY⟩:∃ Y,Y=X.setCell ⟨Jj,jX * 5 + 4,none⟩ (.int .i64 ((tm:Int) + 1)):=⟨_,rfl⟩;rw [<- hY] at S1 B1 K1 w0 w1 ⊢;rintro e6 w6 ⟨rfl,hb6⟩;have S6:=hide (S1.out.later hb6);have B6:Hid (Below B w w6):=B1.out.trans (hb6.mono S1.out.bsize);have K6:Hid (aA w w6):=K1.out.trans (aA.of_below hb6);have a0:=(hb6.cell (p:=⟨w.heap.size,0,none⟩) (block_lt_of_cell w0)).trans w0;have a1:=(hb6.cell (p:=⟨w.heap.size,1,none⟩) (block_lt_of_cell w1)).trans w1;have b3:=(S6.out.head 3 (by omega)).1
   have b4:=(S6.out.head 4 (by omega)).1
   have q3:=(S6.out.head 3 (by omega)).2
   have q4:=(S6.out.head 4 (by omega)).2
   unfold gT at b3 b4;clear hY hb6 w0 w1 z0 z1 y0 y3 y4 g3 g4 c4 f4 S1 B1 K1 SX BX KX RX Vr NS Zg Zc X5 XZ lX;obtain ⟨nz,hnz⟩:∃ n,n=s.size:=⟨_,rfl⟩;rw [<- hnz];simp only [];by_cases h1:nz=1
   ·have UP:Hid ((if s.size=1 then u.un s else u)=u.un s):=by unfold Hid;rw [if_pos (by omega)]
    have qu:=hide (fun W'=>gu u s W' hu hs)
    unfold aK at qu;have hx6:w.heap.size < w6.heap.size:=block_lt_of_cell a0;have hs6:sb < w6.heap.size:=S6.out.row.lt;subst h1;clear hnz;go_wp2;go_region_with (go_at_call 75;refine (qu.out _).mono ?_;rintro e7 w7 ⟨rfl,ku⟩;have B7:Hid (Below w6.heap.size w6 w7):=(Below.refl _ _).drew.trans ku;have k3:=(B7.out.cell (p:=⟨sb,3,none⟩) hs6).trans b3;have k4:=(B7.out.cell (p:=⟨sb,4,none⟩) hs6).trans b4;have r3:=(B7.out.frozen (p:=⟨sb,3,none⟩) hs6).trans q3;have r4:=(B7.out.frozen (p:=⟨sb,4,none⟩) hs6).trans q4;clear ku)
    all_goals
     have S7:=S6.out.later B7.out;have S8:=hide (S7.VK (u.un s));have B8:Hid (Below B w ((w7.setCell ⟨sb,3,none⟩ (.int .u64 ((u.un s).1:Int))).setCell ⟨sb,4,none⟩ (.int .u64 ((u.un s).2:Int)))):=((B6.out.trans (B7.out.mono S6.out.bsize)).setCell S7.fZ _).setCell S7.fZ _;have K8:Hid (aA w ((w7.setCell ⟨sb,3,none⟩ (.int .u64 ((u.un s).1:Int))).setCell ⟨sb,4,none⟩ (.int .u64 ((u.un s).2:Int)))):=(K6.out.trans (aA.of_below B7.out)).trans (S7.sO _ _ _ _);clear S7;go_wp2;go_end0;exact ⟨rfl,B8.out,K8.out,_,_,_,GX.out,by rw [UP.out];exact S8.out⟩
   ·have UP:Hid ((if s.size=1 then u.un s else u)=u):=by unfold Hid;rw [if_neg (by omega)]
    have hb:((nz:Int) == 1)=false:=by rw [beq_eq_false_iff_ne];omega
    clear hnz h1;go_wp2;go_end0;exact ⟨rfl,B6.out,K6.out,_,_,_,GX.out,by rw [UP.out];exact S6.out⟩
  ·have tzb:((t0:Int) == 0)=false:=by rw [beq_eq_false_iff_ne];omega
   go_quiet (fail)
   go_upto_region 6 with fail
   have SD:=HS2.out.later (dK (Below.refl _ W) nq);have KD:aA W (W.drewN nq):=aA.of_below (dK (Below.refl _ W) _);obtain ⟨X,hX⟩:∃ X,X=W.drewN nq:=⟨_,rfl⟩;obtain ⟨gX,hg0⟩:∃ g,g=gone:=⟨_,rfl⟩;rw [<- hX];have GX:Hid (gX=gone\/gX=gone - 1):=.inl hg0;have SX:Hid (di B sb X (.slice (some ⟨Jj,0,none⟩) sZ.length cap0) mb gX u wv sZ XP):=by unfold Hid;rw [hX,hg0];exact SD
   have BX:Hid (Below B w X):=by unfold Hid;rw [hX];exact dK LU.out nq
   have kX:aA W X:=by rw [hX];exact KD
   have KX:Hid (aA w X):=KW.out.trans kX;have z0:=(kX.cell (j:=0) FX.out).trans x0;have z1:=(kX.cell (j:=1) FX.out).trans x1;have Vr:=hide (kX.pF FX.out);obtain ⟨cb,cap,hcv,Ee,GU,WX,hcap,hcells⟩:=SX.out.Le jX lX;clear SD KD hX kX x0 x1 y1 hlk FX FQ LU KW hg0 tz tzb t4 t2 q2 y0 HS2 U9 U8;subst rH Ea;cases hcv
   have y0:=(SX.out.head 0 (by omega)).1
   have y3:=(SX.out.head 3 (by omega)).1
   have y4:=(SX.out.head 4 (by omega)).1
   have g3:=(SX.out.head 3 (by omega)).2
   have g4:=(SX.out.head 4 (by omega)).2
   unfold gT at y0 y3 y4;have c4:=(hcells 4 (by omega)).1
   have f4:=(hcells 4 (by omega)).2
   simp only [lV,List.getElem?_cons_succ,List.getElem?_cons_zero] at c4;have S1:=hide (SX.out.VM lX ((sZ[jX]'lX).times + 1));rw [RX.out.1,RX.out.2] at S1;generalize (sZ[jX]'lX).times=tm at c4 tX S1;have Zg:sb < X.heap.size:=SX.out.row.lt;have Zc:w.heap.size < X.heap.size:=block_lt_of_cell z0;have NS:¬ Jj=w.heap.size:=fun e=>by
    obtain ⟨y,t,e1,_,e3,_⟩:=Vr.out
    rcases SX.out.cls.2 with ⟨e2,_⟩ | ⟨g',ZR,cur,e2,_,hg',_⟩
    ·cases e2
    ·cases e2;rw [e,e1] at hg';cases hg';exact e3 rfl
   have X5:(0:Int) <= (jX:Int):=by omega
   have XZ:(jX:Int) < (sZ.length:Int):=by omega
   clear hcells;have B1:Hid (Below B w (X.setCell ⟨Jj,jX * 5 + 4,none⟩ (.int .i64 ((tm:Int) + 1)))):=BX.out.setCell Ee _;have K1:Hid (aA w (X.setCell ⟨Jj,jX * 5 + 4,none⟩ (.int .i64 ((tm:Int) + 1)))):=KX.out.trans (SX.out.wQ _ _);rw [show ((tm + 1:Nat):Int)=(tm:Int) + 1 by omega] at S1
   have w0:(X.setCell ⟨Jj,jX * 5 + 4,none⟩ (.int .i64 ((tm:Int) + 1))).cell? ⟨w.heap.size,0,none⟩=some (.int .u64 (s.1:Int)):=by rw [World.cell?_setCell_far _ _ _ _ (by simpa using NS)];exact z0
   have w1:(X.setCell ⟨Jj,jX * 5 + 4,none⟩ (.int .i64 ((tm:Int) + 1))).cell? ⟨w.heap.size,1,none⟩=some (.int .u64 (s.2:Int)):=by rw [World.cell?_setCell_far _ _ _ _ (by simpa using NS)];exact z1
   go_wp2_with fail
   refine (gZ s _ hs).mono ?_;obtain ⟨Y,hY⟩:∃ Y,Y=X.setCell ⟨Jj,jX * 5 + 4,none⟩ (.int .i64 ((tm:Int) + 1)):=⟨_,rfl⟩;rw [<- hY] at S1 B1 K1 w0 w1 ⊢;rintro e6 w6 ⟨rfl,hb6⟩;have S6:=hide (S1.out.later hb6);have B6:Hid (Below B w w6):=B1.out.trans (hb6.mono S1.out.bsize);have K6:Hid (aA w w6):=K1.out.trans (aA.of_below hb6);have a0:=(hb6.cell (p:=⟨w.heap.size,0,none⟩) (block_lt_of_cell w0)).trans w0;have a1:=(hb6.cell (p:=⟨w.heap.size,1,none⟩) (block_lt_of_cell w1)).trans w1;have b3:=(S6.out.head 3 (by omega)).1
   have b4:=(S6.out.head 4 (by omega)).1
   have q3:=(S6.out.head 3 (by omega)).2
   have q4:=(S6.out.head 4 (by omega)).2
   unfold gT at b3 b4;clear hY hb6 w0 w1 z0 z1 y0 y3 y4 g3 g4 c4 f4 S1 B1 K1 SX BX KX RX Vr NS Zg Zc X5 XZ lX;obtain ⟨nz,hnz⟩:∃ n,n=s.size:=⟨_,rfl⟩;rw [<- hnz];simp only [];by_cases h1:nz=1
   ·have UP:Hid ((if s.size=1 then u.un s else u)=u.un s):=by unfold Hid;rw [if_pos (by omega)]
    have qu:=hide (fun W'=>gu u s W' hu hs)
    unfold aK at qu;have hx6:w.heap.size < w6.heap.size:=block_lt_of_cell a0;have hs6:sb < w6.heap.size:=S6.out.row.lt;subst h1;clear hnz;go_wp2;go_region_with (go_at_call 75;refine (qu.out _).mono ?_;rintro e7 w7 ⟨rfl,ku⟩;have B7:Hid (Below w6.heap.size w6 w7):=(Below.refl _ _).drew.trans ku;have k3:=(B7.out.cell (p:=⟨sb,3,none⟩) hs6).trans b3;have k4:=(B7.out.cell (p:=⟨sb,4,none⟩) hs6).trans b4;have r3:=(B7.out.frozen (p:=⟨sb,3,none⟩) hs6).trans q3;have r4:=(B7.out.frozen (p:=⟨sb,4,none⟩) hs6).trans q4;clear ku)
    all_goals
     have S7:=S6.out.later B7.out;have S8:=hide (S7.VK (u.un s));have B8:Hid (Below B w ((w7.setCell ⟨sb,3,none⟩ (.int .u64 ((u.un s).1:Int))).setCell ⟨sb,4,none⟩ (.int .u64 ((u.un s).2:Int)))):=((B6.out.trans (B7.out.mono S6.out.bsize)).setCell S7.fZ _).setCell S7.fZ _;have K8:Hid (aA w ((w7.setCell ⟨sb,3,none⟩ (.int .u64 ((u.un s).1:Int))).setCell ⟨sb,4,none⟩ (.int .u64 ((u.un s).2:Int)))):=(K6.out.trans (aA.of_below B7.out)).trans (S7.sO _ _ _ _);clear S7;go_wp2;go_end0;exact ⟨rfl,B8.out,K8.out,_,_,_,GX.out,by rw [UP.out];exact S8.out⟩
   ·have UP:Hid ((if s.size=1 then u.un s else u)=u):=by unfold Hid;rw [if_neg (by omega)]
    have hb:((nz:Int) == 1)=false:=by rw [beq_eq_false_iff_ne];omega
    clear hnz h1;go_wp2;go_end0;exact ⟨rfl,B6.out,K6.out,_,_,_,GX.out,by rw [UP.out];exact S6.out⟩
end
section
open Go Go.RowKit Go.Deep Go.Maps
attribute [local go_sem ↓] Go.wp_at_zero Go.wp_at_succ
def there (es:List aX) (s:Key):Bool:=match look es s with
 | none=>false
 | some i=>match es[i]? with
  | none=>false
  | some e=>decide (0 < e.times)
theorem Bo {B sb mb:Nat} {cv:Value} {gone:Int} {u:Key} {wv:Nat->Value} {es:List aX} {wl:Nat->List Nat} (w:World) (hlen:es.length <= 549755813888)
  (hS:di B sb w cv mb gone u wv es wl):
  Calls Tryz.prog 116 #[.pointer (some ⟨sb,0,none⟩)] w fun e w'=>e=.returned (.bool (there es (0,0)))/\Below w.heap.size w w':=by
 have h0:=(hS.head 0 (by omega)).1
 have h1:=(hS.head 1 (by omega)).1
 unfold gT at h0 h1;obtain ⟨c,hc,hrun⟩:=hS.map.lookup (k:=(0,0)) iU;unfold aK at hrun;have hlk:(Instr.lookup 130 (.map (some mb)) (.agg #[.int .u64 0,.int .u64 0]) true).run Tryz.prog w=.ok (.tuple #[.int .i64 c,.bool (look es (0,0)).isSome]) w:=hrun w rfl;have HS:=hide hS;clear hrun hS
 rcases hl:look es (0,0) with _ | i
 ·have E:Hid (there es (0,0)=false):=by unfold Hid there;rw [hl]
  rw [hl] at hlk;clear hl hc;go_enter Tryz.func116,Tryz.ntmps116
  go_wp2;go_ret
  exact ⟨bZ E.out.symm,Below.refl _ _⟩
 ·obtain ⟨hi,_⟩:=jF hl;have hci:=hc i hl;subst hci;obtain ⟨cb,cap,hcv,_,_,_,_,hcells⟩:=HS.out.Le i hi;subst hcv;have c4:=(hcells 4 (by omega)).1
  simp only [lV,List.getElem?_cons_succ,List.getElem?_cons_zero] at c4;have E:Hid (there es (0,0)=decide (0 < (es[i]).times)):=by unfold Hid there;rw [hl];simp only [List.getElem?_eq_getElem hi]
  rw [hl] at hlk;have i0:(0:Int) <= (i:Int):=by omega
  have i1:(i:Int) < (es.length:Int):=by omega
  generalize (es[i]).times=tm at c4 E;clear hl hc hcells;go_enter Tryz.func116,Tryz.ntmps116
  go_wp2;go_ret
  exact ⟨bZ (by rw [E.out]),Below.refl _ _⟩
end
section
open Go Go.RowKit Go.Deep
def vY (x y:Value) (j:Nat):Value:=if j=0 then x else y
end
section
open Go Go.RowKit Go.Deep
theorem dS (w:World) (x y:Value) (t:TypeId):(w.alloc (.cells #[x,y] t)).rowIs w.heap.size t 2 (vY x y):=
 ⟨_,blk_alloc_new _ _,rfl,fun i hi=>by match i,hi with | 0,_=>rfl | 1,_=>rfl⟩
theorem mr (w:World) (o:Obj) (x y:Value) (t:TypeId):((w.alloc o).alloc (.cells #[x,y] t)).rowIs (w.heap.size + 1) t 2 (vY x y):=by
 have:=dS (w.alloc o) x y t;simpa using this
theorem CO {a b:Int} (h:a=b):Value.int .i64 a=.int .i64 b:=by rw [h]
end
end Rd
end Go.Proofs.YtceahffmenbibaaGreatDoor
