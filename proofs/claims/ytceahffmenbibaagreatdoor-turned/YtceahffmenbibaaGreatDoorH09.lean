/- Pent Padd Phas Cref7 Cref8 Pset Pfst Pfrd Pcpy. -/
import Derived.Test.YtceahffmenbibaaGreatDoorH08
set_option linter.unusedVariables false
set_option linter.unusedSimpArgs false
set_option maxHeartbeats 1000000
set_option maxRecDepth 100000
namespace Go.Proofs.YtceahffmenbibaaGreatDoor
namespace Rd
section
open Go Go.RowKit Go.Deep Go.Maps
section
attribute [local go_sem ↓] Go.wp_at_zero Go.wp_at_succ
theorem Tryz.I9:(Tryz.prog.info? 180).map (fun i=>(i.zero,i.size,i.bytes))=some (some (.agg #[.int .u64 0,.int .u64 0,.int .u64 0,.int .u64 0,.int .i64 0]),5,40):=by kernel_rfl
theorem pR {w':World} {B:Nat} {v:Value} {n:Nat} {d:List Value} {t:TypeId} {k:Nat} (h:w'.ownsRow B t k v n d):∃ a c,v=.slice a n c:=by
 rcases h.2 with ⟨rfl,e⟩ | ⟨g,b,f,rfl,_⟩
 ·exact ⟨none,0,by rw [e]⟩
 ·exact ⟨_,b,rfl⟩
theorem modify_last {α:Type} (l:List α) (a:α) (f:α->α):(l ++ [a]).modify l.length f=l ++ [f a]:=by
 induction l with
 | nil=>rfl
 | cons x r ih=>rw [List.cons_append,List.length_cons,List.modify_succ_cons,ih];rfl
theorem NK (s:Key):Key.un (0,0) s=s:=by unfold Key.un;simp
def aL (s:Key):Int:=s.gV
def bL (s:Key):Int:=(s.wo (single s.gV)).gV
def eG (s:Key):dN:=⟨s,if 2 <= s.size then (single (aL s)).un (single (bL s)) else (0,0),0⟩
def iO (wl:Nat->List Nat) (s:Key) (n:Nat):Nat->List Nat:=if 2 <= s.size then (fun k=>if k=place (bL s) then (if place (bL s)=place (aL s) then wl (place (aL s)) ++ [n] else wl (place (bL s))) ++ [n] else if k=place (aL s) then wl (place (aL s)) ++ [n] else wl k) else wl
def JL (B sb:Nat) (cv:Value) (mb:Nat) (gone:Int) (u:Key) (es:List dN) (wl:Nat->List Nat) (s:Key) (w w':World):Prop:=
 Below B w w'/\dm w w'/\∃ cv' wv',iJ cv cv' w w'/\fu B sb w' cv' mb gone u wv' (es ++ [eG s]) (iO wl s es.length)
def Ns (B sb mb:Nat) (gone:Int) (u:Key) (es:List dN) (wl:Nat->List Nat) (s:Key) (w w':World):Prop:=
 Below B w w'/\dm w w'/\∃ cv' wv',fu B sb w' cv' mb gone u wv' (es ++ [eG s]) (iO wl s es.length)
theorem yZ {B sb mb:Nat} {cv:Value} {gone:Int} {u:Key} {wv:Nat->Value} {es:List dN} {wl:Nat->List Nat} (s:Key) (w:World) (K:s.ok) (hn:look es s=none) (aU:es.length <= 1500000000000) (ak:∀ k,k < 128->(wl k).length <= 1600000000000)
  (hS:fu B sb w cv mb gone u wv es wl) (P:nT B w):
  Calls Tryz.prog 109 #[.pointer (some ⟨sb,0,none⟩),dC s] w fun e y=>e=.returned (.int .i64 (es.length:Nat))/\JL B sb cv mb gone u es wl s w y:=by
 have h0:=(hS.head 0 (by omega)).1;have H:=(hS.head 1 (by omega)).1;have aG:=(hS.head 0 (by omega)).2;unfold iU at h0 H;obtain ⟨ca,d,ar⟩:∃ a c,cv=.slice a es.length c:=by
  rcases hS.cls.2 with ⟨e,h⟩ | ⟨g,a5,aH,e,_⟩
  ·exact ⟨none,0,by rw [e,h]⟩
  ·exact ⟨_,_,e⟩
 subst ar;have HS:=hide hS;have HT:=hide P;clear hS P;have ao:sb < w.heap.size:=HS.out.row.lt;have aE:¬ sb=w.heap.size:=by omega
 have ap:¬ w.heap.size=sb:=by omega
 unfold dC;go_enter Tryz.func109,Tryz.ntmps109
 go_wp2;obtain ⟨W,Y⟩:∃ W,W=w.alloc (.cells #[.int .u64 (s.1:Int),.int .u64 (s.2:Int)] 84):=⟨_,rfl⟩
 have r:Below w.heap.size w W:=by rw [Y];exact bR.alloc lr _
 have sW:W.heap.size=w.heap.size + 1:=by rw [Y];simp
 have x0:W.cell? ⟨w.heap.size,0,none⟩=some (.int .u64 (s.1:Int)):=by rw [Y];simp
 have x1:W.cell? ⟨w.heap.size,1,none⟩=some (.int .u64 (s.2:Int)):=by rw [Y];simp
 have xb:W.heap[w.heap.size]? = some (.cells #[.int .u64 (s.1:Int),.int .u64 (s.2:Int)] 84 (0,0)):=by rw [Y];exact heap_alloc_new _ _
 have y0:=(r.cell (p:=⟨sb,0,none⟩) ao).trans h0;have y1:=(r.cell (p:=⟨sb,1,none⟩) ao).trans H;rw [<- Y];have C:=hide (HS.out.later r);have KW:=hide (dm.of_below r);have EW:=hide (iJ.of_below (cv:=.slice ca es.length d) r);have aO:Hid (Below B w W):=r.mono HS.out.bsize;clear Y r h0 H aG aE ap;have b:Hid (fu B sb W.drew (.slice ca es.length d) mb gone u wv es wl):=C.out.later bR.drew;obtain ⟨x,M,z,aq⟩:=b.out.map.update (i:=es.length) K (by unfold maxLen;omega) (by omega);unfold dC at M;have v:=hide z;have az:=hide aq;have aC:mb < W.heap.size:=C.out.map.lt;have af:=C.out.iN.1;have mx:mb ≠ w.heap.size:=fun e=>C.out.map.iq (by rw [e];exact xb)
 have s1:W.heap.size <= x.heap.size:=z.size;have v0:x.cell? ⟨w.heap.size,0,none⟩=some (.int .u64 (s.1:Int)):=by rw [World.cell?_of_block (w:=W) (z.block w.heap.size (by show w.heap.size < W.heap.size;omega) (fun e=>mx (Option.some.inj e).symm))];exact x0
 have v1:x.cell? ⟨w.heap.size,1,none⟩=some (.int .u64 (s.2:Int)):=by rw [World.cell?_of_block (w:=W) (z.block w.heap.size (by show w.heap.size < W.heap.size;omega) (fun e=>mx (Option.some.inj e).symm))];exact x1
 have t0:x.cell? ⟨sb,0,none⟩=some (.slice ca es.length d):=by rw [World.cell?_of_block (w:=W) (z.block sb (by show sb < W.heap.size;omega) (fun e=>af (Option.some.inj e).symm))];exact y0
 clear z aq;go_cut [] from 12 (fun wx=>wx=x)
 case first=>
  go_region
  all_goals
   go_wp2_with fail
   go_meet;rfl
 case rest=>
  rw [hcut];clear hcut;obtain ⟨c0,hc,aj,ai,ah⟩:=info_parts Tryz.I9;have O1:Hid (x.drew.ownsRow B 180 5 (.slice ca es.length d) es.length (jO es)):=gu b.out.cls fun g hg=>v.out.block g (b.out.cls.lt g hg).2 (fun e=>by
   rcases b.out.cls.2 with ⟨e2,_⟩ | ⟨g',aW,aH,e2,_,aF,_⟩
   ·rw [e2] at hg;cases hg
   ·rw [e2] at hg;cases hg;exact b.out.map.iq (by rw [<- (Option.some.inj e)];exact aF))
  have G1:Hid (W.drew.grownBy x.drew (some mb)):=⟨v.out.os,v.out.tape,v.out.output,v.out.size,v.out.block⟩;have M1:Hid (jB x.drew mb (es.length + 1) (fun t=>if t=(⟨s,(0,0),0⟩:dN).set then some es.length else look es t)):=az.out.kept rfl;have aA:Hid (Below B w W.drew):=aO.out.drew;have aI:B <= x.heap.size:=by have:=C.out.bsize;omega
  have al:w.heap.size < x.heap.size:=by omega
  have am:sb < x.heap.size:=by omega
  clear v az M;go_wp2;go_cut [] from 12 (fun wx=>∃ E,Hid (fu B sb wx E mb gone u wv (es ++ [⟨s,(0,0),0⟩]) wl)/\Hid (Below B w wx)/\Hid (dm W wx)/\Hid (iJ (.slice ca es.length d) E W wx))
  case first=>
   go_region_law
    (refine ik _ (by rfl) _ _ 131 (by rfl) B 180 c0 _ 5 40 Tryz.underlying131 hc aj ai ah (by rfl) (by decide) (.slice ca es.length d) es.length (jO es) (by rfl) (O1.out.alloc (.cells #[.int .u64 (s.1:Int),.int .u64 (s.2:Int),.int .u64 0,.int .u64 0,.int .i64 0] 180)) (.slice (some ⟨x.heap.size,0,none⟩) 1 1) 1 [.int .u64 (s.1:Int),.int .u64 (s.2:Int),.int .u64 0,.int .u64 0,.int .i64 0] (by rfl) (.inr ⟨⟨x.heap.size,0,none⟩,1,rfl,World.news_of_block (cs:=#[.int .u64 (s.1:Int),.int .u64 (s.2:Int),.int .u64 0,.int .u64 0,.int .i64 0]) (t:=180) (fr:=(0,0)) (heap_alloc_new x.drew _)⟩) (by rfl) (by simp [Value.oneCell']) (by unfold maxLen;omega) (by omega) (by simp;omega) ?_;intro I w6 R;have S6:=hide (b.out.Xq (e:=⟨s,(0,0),0⟩) hn G1.out M1.out R);have B6:=hide (b.out.Wp (e:=⟨s,(0,0),0⟩) G1.out R aA.out I);have K6:=(b.out.U9 (e:=⟨s,(0,0),0⟩) G1.out R).1;have K7:=(b.out.U9 (e:=⟨s,(0,0),0⟩) G1.out R).2;have C6:=hide ((dm.of_below (Below.refl W.heap.size W).drew).trans (b.out.V9 (e:=⟨s,(0,0),0⟩) G1.out R I));have E6:=hide ((iJ.of_below (Below.refl W.heap.size W).drew).trans (b.out.Um (e:=⟨s,(0,0),0⟩) G1.out R I));obtain ⟨a0,aZ,aD⟩:=pR R.own;subst aD;clear R)
   all_goals
    go_wp2_with fail
    go_meet;exact ⟨_,S6,B6,C6,E6⟩
  case rest=>
   obtain ⟨I,S6,B6,C6,E6⟩:=hcut;have EC:=hide (EW.out.trans E6.out);have FX:Hid (kP W w.heap.size):=⟨_,_,xb,by decide⟩;have ab:=(C6.out.cell (j:=0) FX.out).trans x0;have aa:=(C6.out.cell (j:=1) FX.out).trans x1;have FC:=hide (C6.out.rV FX.out);have KC:Hid (dm w wc):=KW.out.trans C6.out;have ac:=hide ak;clear G1 M1 O1 b C aA v0 v1 t0 x0 x1 xb y0 y1 C6 FX sW aC af mx s1 aI al am ak hn;go_wp2_with fail
   refine (jq s _ K).mono ?_;rintro e7 w7 ⟨rfl,m⟩;have S7:=hide (S6.out.later m);have B7:Hid (Below B w w7):=B6.out.trans (m.mono S6.out.bsize);have K7:Hid (dm w w7):=KC.out.trans (dm.of_below m);have E7:=hide (EC.out.trans (iJ.of_below m));have d0:=(m.cell (p:=⟨w.heap.size,0,none⟩) (block_lt_of_cell ab)).trans ab;have d1:=(m.cell (p:=⟨w.heap.size,1,none⟩) (block_lt_of_cell aa)).trans aa;have F7:=hide ((dm.of_below m).rV FC.out);have ag:w.heap.size < w7.heap.size:=block_lt_of_cell d0;clear m ab aa FC KC;obtain ⟨nz,U⟩:∃ n,n=s.size:=⟨_,rfl⟩;rw [<- U];by_cases f:2 <= s.size
   ·have S:s ≠ (0,0):=fun e=>by rw [e,sF] at f;omega
    obtain ⟨p1,p2,p3⟩:=mW K S;have X:s.wo (single s.gV) ≠ (0,0):=qG K f (dD p3);have UY:=sD K (single s.gV);obtain ⟨r1,r2,r3⟩:=mW UY X;have q1:=fun W=>xy s W K S
    have q2:=fun W=>jm s (single s.gV) W K (fP p3)
    have q3:=fun W=>xy (s.wo (single s.gV)) W UY X
    rw [p1] at q1;rw [r1] at q3;have E1:Hid (eG s=⟨s,(single s.gV).un (single (s.wo (single s.gV)).gV),0⟩):=by unfold Hid eG aL bL;rw [if_pos f]
    have E2:Hid (iO wl s es.length=fun k=>if k=place (bL s) then (if place (bL s)=place (aL s) then wl (place (aL s)) ++ [es.length] else wl (place (bL s))) ++ [es.length] else if k=place (aL s) then wl (place (aL s)) ++ [es.length] else wl k):=by unfold Hid iO;rw [if_pos f]
    have an:(2:Int) <= (nz:Int):=by omega
    have W1:Hid (∀ cv wv w (h:fu B sb w cv mb gone u wv (es ++ [(⟨s,(0,0),0⟩:dN)]) wl) (P:nT B w),Calls Tryz.prog 159 #[.pointer (some ⟨sb,0,none⟩),.int .i64 (es.length:Nat),dC (single s.gV)] w fun e y=>e=.returned (.tuple #[])/\Below B w y/\dm w y/\iJ cv cv w y/\
      ∃ wv',fu B sb y cv mb gone u wv' (es ++ [(⟨s,single s.gV,0⟩:dN)]) (fun k=>if k=place s.gV then wl (place s.gV) ++ [es.length] else wl k)):=by
     intro cv wv w h P;have Z:es.length < (es ++ [(⟨s,(0,0),0⟩:dN)]).length:=by simp
     have ge:(es ++ [(⟨s,(0,0),0⟩:dN)])[es.length]'Z=⟨s,(0,0),0⟩:=by simp
     refine (xO es.length s.gV w p3 Z (by rw [ge];exact kN) (by simp;omega) (Nat.le_trans (ac.out _ (gN p3)) (by omega)) h P).mono ?_;rintro e y ⟨H,h2,h3,h6,wv',h4⟩;refine ⟨H,h2,h3,h6,wv',?_⟩;have e:eZ (es ++ [(⟨s,(0,0),0⟩:dN)]) es.length (((es ++ [(⟨s,(0,0),0⟩:dN)])[es.length]'Z).watched.un (single s.gV))=es ++ [(⟨s,single s.gV,0⟩:dN)]:=by
      rw [ge];unfold eZ;rw [modify_last,NK]
     rw [e] at h4;exact h4
    have Q1:=hide q1;have Q2:=hide q2;have Q3:=hide q3;have P3:=hide p3;have R3:=hide r3;unfold dC at Q1 Q2 Q3 W1;clear q1 q2 q3 p1 p2 p3 r1 r2 r3 X S UY f U;go_wp2_with fail
    refine (Q1.out _).mono ?_;rintro e8 J ⟨rfl,l⟩;have S8:=hide (S7.out.later l);have B8:Hid (Below B w J):=B7.out.trans (l.mono S7.out.bsize);have K8:Hid (dm w J):=K7.out.trans (dm.of_below l);have E8:=hide (E7.out.trans (iJ.of_below l));have f0:=(l.cell (p:=⟨w.heap.size,0,none⟩) ag).trans d0;have f1:=(l.cell (p:=⟨w.heap.size,1,none⟩) ag).trans d1;have F8:=hide ((dm.of_below l).rV F7.out);have a1:w.heap.size < J.heap.size:=block_lt_of_cell f0;clear l d0 d1 F7 S7 B7 K7;have W2:Hid (∀ cv wv w (h:fu B sb w cv mb gone u wv (es ++ [(⟨s,single s.gV,0⟩:dN)]) (fun k=>if k=place s.gV then wl (place s.gV) ++ [es.length] else wl k)) (P:nT B w),Calls Tryz.prog 159 #[.pointer (some ⟨sb,0,none⟩),.int .i64 (es.length:Nat),dC (single (s.wo (single s.gV)).gV)] w fun e y=>e=.returned (.tuple #[])/\Below B w y/\dm w y/\
      ∃ E wv',iJ cv E w y/\fu B sb y E mb gone u wv' (es ++ [eG s]) (iO wl s es.length)):=by
     intro cv wv w h P;have Z:es.length < (es ++ [(⟨s,single s.gV,0⟩:dN)]).length:=by simp
     have ge:(es ++ [(⟨s,single s.gV,0⟩:dN)])[es.length]'Z=⟨s,single s.gV,0⟩:=by simp
     have aJ:(if place (s.wo (single s.gV)).gV=place s.gV then wl (place s.gV) ++ [es.length] else wl (place (s.wo (single s.gV)).gV)).length <= 1700000000000:=by
      split
      ·have:=ac.out _ (gN P3.out);simp;omega
      ·have:=ac.out _ (gN R3.out);omega
     refine (xO es.length (s.wo (single s.gV)).gV w R3.out Z (by rw [ge];exact fP P3.out) (by simp;omega) aJ h P).mono ?_;rintro e y ⟨H,h2,h3,h6,wv',h4⟩;refine ⟨H,h2,h3,cv,wv',h6,?_⟩;have e:eZ (es ++ [(⟨s,single s.gV,0⟩:dN)]) es.length (((es ++ [(⟨s,single s.gV,0⟩:dN)])[es.length]'Z).watched.un (single (s.wo (single s.gV)).gV))=es ++ [eG s]:=by
      rw [ge];unfold eZ;rw [modify_last,E1.out]
     rw [e] at h4;rw [E2.out];exact h4
    unfold dC at W2;generalize single s.gV=sa at *
    generalize s.wo sa=so at *
    generalize single so.gV=sc at *
    have HH:=hide (And.intro E1.out E2.out);clear E1 E2 HH;simp only [];go_wp2_with fail
    refine (W1.out _ _ _ (S8.out.later (bR.alloc lr _)) (HT.out.later (B8.out.alloc S8.out.bsize _))).mono ?_;rintro e9 w9 ⟨rfl,au,G,av,aX,S9⟩;have E9:=hide ((E8.out.trans (iJ.of_below ((Below.refl _ J).alloc lr _))).trans av);clear av;have ay:=hide S9;have B9:Hid (Below B w w9):=(B8.out.alloc S8.out.bsize _).trans au;have k9:=(dm.of_below ((Below.refl _ J).alloc lr _)).trans G;have K9:Hid (dm w w9):=K8.out.trans k9;have h0:=(k9.cell (j:=0) F8.out).trans f0;have H:=(k9.cell (j:=1) F8.out).trans f1;have fn:=qQ J #[Value.int IntKind.u64 (sa.1:Int),Value.int IntKind.u64 (sa.2:Int)] 84 (by decide);have j0:w9.cell? ⟨J.heap.size,0,none⟩=some (.int .u64 (sa.1:Int)):=by rw [G.cell (j:=0) fn];simp
    have j1:w9.cell? ⟨J.heap.size,1,none⟩=some (.int .u64 (sa.2:Int)):=by rw [G.cell (j:=1) fn];simp
    clear S9 au G k9 fn f0 f1;simp only [];go_wp2_with fail
    refine (Q2.out _).mono ?_;rintro a4 ae ⟨rfl,q⟩;have ax:=hide (ay.out.later q);have aS:Hid (Below B w ae):=B9.out.trans (q.mono ay.out.bsize);have aN:Hid (dm w ae):=K9.out.trans (dm.of_below q);have aR:=hide (E9.out.trans (iJ.of_below q));clear q h0 H j0 j1;simp only [];go_wp2_with fail
    refine (Q3.out _).mono ?_;rintro a3 ad ⟨rfl,o⟩;have aK:=hide (ax.out.later o);have aB:Hid (Below B w ad):=aS.out.trans (o.mono ax.out.bsize);have aM:Hid (dm w ad):=aN.out.trans (dm.of_below o);have aQ:=hide (aR.out.trans (iJ.of_below o));clear o;simp only [];go_wp2_with fail
    refine (W2.out _ _ _ aK.out (HT.out.later aB.out)).mono ?_;rintro a2 aY ⟨rfl,O,N,aV,aT,Q,aw⟩;have aP:=hide (aQ.out.trans Q);clear Q;have BE:=hide (aB.out.trans O);have KE:=hide (aM.out.trans N);have SE:=hide aw;clear O N aw;simp only [];go_wp2;go_ret;exact ⟨rfl,BE.out,KE.out,_,_,aP.out,SE.out⟩
   ·have an:¬ (2:Int) <= (nz:Int):=by omega
    have e1:Hid (eG s=⟨s,(0,0),0⟩):=by unfold Hid eG;rw [if_neg f]
    have e2:Hid (iO wl s es.length=wl):=by unfold Hid iO;rw [if_neg f]
    clear f K U;simp only [];go_wp2;go_ret;exact ⟨rfl,B7.out,K7.out,_,_,E7.out,by rw [e1.out,e2.out];exact S7.out⟩
theorem MQ {B sb mb:Nat} {cv:Value} {gone:Int} {u:Key} {wv:Nat->Value} {es:List dN} {wl:Nat->List Nat} (s:Key) (w:World) (f:s.ok) (g:look es s=none) (a:es.length <= 1500000000000) (b:∀ k,k < 128->(wl k).length <= 1600000000000)
  (j:fu B sb w cv mb gone u wv es wl) (h:nT B w):
  Calls Tryz.prog 109 #[.pointer (some ⟨sb,0,none⟩),dC s] w fun e d=>e=.returned (.int .i64 (es.length:Nat))/\Ns B sb mb gone u es wl s w d:=by
 with_reducible refine (yZ s w f g a b j h).mono ?_
 rintro e d ⟨o,n,m,c,wv',_,l⟩;exact ⟨o,n,m,c,wv',l⟩
end
section
attribute [local go_sem ↓] Go.wp_at_zero Go.wp_at_succ
theorem mY {es:List dN} {s:Key} {i:Nat} (h:look es s=some i):∃ a:i < es.length,(es[i]).set=s:=by
 unfold look at h;obtain ⟨a,b,_⟩:=List.findIdx?_eq_some_iff_getElem.1 h;exact ⟨a,by simpa using b⟩
theorem fu.Oj {B sb mb:Nat} {w:World} {cv:Value} {gone:Int} {u:Key} {wv:Nat->Value} {es:List dN} {wl:Nat->List Nat} (h:fu B sb w cv mb gone u wv es wl) (k:Key):fu B sb ((w.setCell ⟨sb,3,none⟩ (.int .u64 (k.1:Int))).setCell ⟨sb,4,none⟩ (.int .u64 (k.2:Int))) cv mb gone k wv es wl:=
 h.Xn (((h.row.set 3 _).set 4 _).congr fun i b=>by
  match i with
  | 0=>rfl
  | 1=>rfl
  | 2=>rfl
  | 3=>rfl
  | 4=>rfl
  | n + 5=>simp [iU]) (fun n a=>by rw [Below.heap_setCell _ _ _ _ a,Below.heap_setCell _ _ _ _ a])
theorem fu.pg {B sb mb:Nat} {w:World} {cv:Value} {gone:Int} {u:Key} {wv:Nat->Value} {es:List dN} {wl:Nat->List Nat} (h:fu B sb w cv mb gone u wv es wl) (j d:Nat) (x y:Value):dm w ((w.setCell ⟨sb,j,none⟩ x).setCell ⟨sb,d,none⟩ y):=fun k g=>by
 have a:k ≠ sb:=fun e=>by
  obtain ⟨c,f,_⟩:=h.row;obtain ⟨y,t,b,l,_⟩:=g;rw [e,f] at b;cases b;exact l rfl
 rw [Below.heap_setCell _ _ _ _ a,Below.heap_setCell _ _ _ _ a]
def xm (es:List dN) (s:Key):List dN:=match look es s with
 | none=>es ++ [{ eG s with times:=1 }]
 | some i=>es.modify i (fun e=>{ e with times:=e.times + 1 })
def Ap (es:List dN) (wl:Nat->List Nat) (s:Key):Nat->List Nat:=match look es s with
 | none=>iO wl s es.length
 | some _=>wl
def UW (B sb mb:Nat) (gone:Int) (u:Key) (es:List dN) (wl:Nat->List Nat) (s:Key) (w w':World):Prop:=
 Below B w w'/\dm w w'/\∃ cv' wv' g',(g'=gone\/g'=gone - 1)/\fu B sb w' cv' mb g' (if s.size=1 then u.un s else u) wv' (xm es s) (Ap es wl s)
theorem xL (es:List dN) (i:Nat) (hi:i < es.length):iT es i ((es[i]).times + 1)=es.modify i (fun e=>{ e with times:=e.times + 1 }):=by
 unfold iT;refine List.ext_getElem? fun j=>?_
 rw [List.getElem?_modify,List.getElem?_modify];split
 ·rename_i h;subst h;rw [List.getElem?_eq_getElem hi];rfl
 ·rfl
theorem xC {B sb mb:Nat} {cv:Value} {gone:Int} {u:Key} {wv:Nat->Value} {es:List dN} {wl:Nat->List Nat} (s:Key) (w:World) (hs:s.ok) (hu:u.ok) (aF:es.length <= 1500000000000) (an:∀ k,k < 128->(wl k).length <= 1600000000000) (ax:-1700000000000 <= gone/\gone <= 1700000000000) (ag:∀ e ∈ es,e.times <= 1700000000000)
  (hS:fu B sb w cv mb gone u wv es wl) (hT:nT B w):
  Calls Tryz.prog 68 #[.pointer (some ⟨sb,0,none⟩),dC s] w fun e w'=>e=.returned (.tuple #[])/\UW B sb mb gone u es wl s w w':=by
 have h0:=(hS.head 0 (by omega)).1;have h1:=(hS.head 1 (by omega)).1;unfold iU at h0 h1;have HS:=hide hS;have HT:=hide hT;have aD:sb < w.heap.size:=HS.out.row.lt;have aK:¬ sb=w.heap.size:=by omega
 have aE:¬ w.heap.size=sb:=by omega
 clear hS hT;obtain ⟨c,hc,ai⟩:=HS.out.map.lookup hs;unfold dC at ai ⊢;have av:=hide ai;clear ai;go_enter Tryz.func68,Tryz.ntmps68
 go_wp2_with fail
 obtain ⟨W,hW⟩:∃ W,W=w.alloc (.cells #[.int .u64 (s.1:Int),.int .u64 (s.2:Int)] 84):=⟨_,rfl⟩;have U:Below w.heap.size w W:=by rw [hW];exact bR.alloc lr _
 have x0:W.cell? ⟨w.heap.size,0,none⟩=some (.int .u64 (s.1:Int)):=by rw [hW];simp
 have x1:W.cell? ⟨w.heap.size,1,none⟩=some (.int .u64 (s.2:Int)):=by rw [hW];simp
 have xb:W.heap[w.heap.size]? = some (.cells #[.int .u64 (s.1:Int),.int .u64 (s.2:Int)] 84 (0,0)):=by rw [hW];exact heap_alloc_new _ _
 have FX:Hid (kP W w.heap.size):=⟨_,_,xb,by decide⟩;have y0:=(U.cell (p:=⟨sb,0,none⟩) aD).trans h0;have y1:=(U.cell (p:=⟨sb,1,none⟩) aD).trans h1;rw [<- hW];have am:=hide (HS.out.later U);have KW:=hide (dm.of_below U);have Z:Hid (Below B w W):=U.mono HS.out.bsize;have ad:∀ n,(Instr.lookup 130 (.map (some mb)) (.agg #[.int .u64 (s.1:Int),.int .u64 (s.2:Int)]) true).run Tryz.prog (W.drewN n)=.ok (.tuple #[.int .i64 c,.bool (look es s).isSome]) (W.drewN n):=fun n=>av.out (W.drewN n) (U.block mb HS.out.map.lt)
 clear hW U h0 h1 aK aE av xb;have aU:=hide an;have aN:=hide ag;have aQ:w.heap.size < W.heap.size:=block_lt_of_cell x0;obtain ⟨gl,gh⟩:=ax;have ay:∀ (X:World) (aM:Value) (aJ:Nat->Value) (gX:Int) (b:List dN) (aa:Nat->List Nat) (d:Nat),True:=fun _ _ _ _ _ _ _=>trivial
 clear ay
 rcases hl:look es s with _ | i
 ·rw [hl] at ad hc;have QE:=hide (fun W' (h:fu B sb W' cv mb gone u wv es wl) (hT:nT B W')=>MQ s W' hs hl aF an h hT);unfold dC at QE;obtain ⟨b,f⟩:∃ x,x=es ++ [eG s]:=⟨_,rfl⟩;obtain ⟨aa,r⟩:∃ x,x=iO wl s es.length:=⟨_,rfl⟩;obtain ⟨d,K⟩:∃ j,j=es.length:=⟨_,rfl⟩;have E:d < b.length:=by rw [f,K];simp
  have RX:Hid (iT b d ((b[d]'E).times + 1)=xm es s/\aa=Ap es wl s):=by
   refine ⟨?_,by unfold Ap;rw [hl];exact r⟩;rw [xL,f,K,modify_last];unfold xm;rw [hl];unfold eG;rfl
  have tX:(b[d]'E).times <= 1700000000000:=by subst f K;simp [eG]
  obtain ⟨gX,H⟩:∃ g,g=gone:=⟨_,rfl⟩;have GX:Hid (gX=gone\/gX=gone - 1):=.inl H;clear hl hc an ag y0 HS;go_quiet (fail)
  go_wp2_with fail
  refine (QE.out _ (am.out.later (dX bR _)) (HT.out.later (dX Z.out _))).mono ?_;rintro e5 X ⟨rfl,b5,k5,aM,aJ,S5⟩;rw [<- f,<- r,<- H] at S5;have m:=hide S5;have BX:Hid (Below B w X):=(dX Z.out _).trans b5;have ae:dm W X:=(dm.of_below (dX (Below.refl _ W) _)).trans k5;have KX:Hid (dm w X):=KW.out.trans ae;have z0:=(ae.cell (j:=0) FX.out).trans x0;have z1:=(ae.cell (j:=1) FX.out).trans x1;have S:=hide (ae.rV FX.out);obtain ⟨cb,aI,aj,P,aq,ap,ar,a⟩:=m.out.wY d E;have aA:b.length <= 1600000000000:=by rw [f];simp;omega
  simp only [];rw [<- K];clear b5 k5 ae S5 x0 x1 y1 ad FX am Z KW QE f r H K;subst aj;have y0:=(m.out.head 0 (by omega)).1;have y3:=(m.out.head 3 (by omega)).1;have y4:=(m.out.head 4 (by omega)).1;have g3:=(m.out.head 3 (by omega)).2;have g4:=(m.out.head 4 (by omega)).2;unfold iU at y0 y3 y4;have c4:=(a 4 (by omega)).1;have f4:=(a 4 (by omega)).2;simp only [lQ,List.getElem?_cons_succ,List.getElem?_cons_zero] at c4;have I:=hide (m.out.Ol E ((b[d]'E).times + 1));rw [RX.out.1,RX.out.2] at I;generalize (b[d]'E).times=z at c4 tX I;have ah:sb < X.heap.size:=m.out.row.lt;have af:w.heap.size < X.heap.size:=block_lt_of_cell z0;have C:¬ cb=w.heap.size:=fun e=>by
   obtain ⟨y,t,e1,_,e3,_⟩:=S.out
   rcases m.out.cls.2 with ⟨e2,_⟩ | ⟨g',aP,aH,e2,_,N,_⟩
   ·cases e2
   ·cases e2;rw [e,e1] at N;cases N;exact e3 rfl
  have ac:(0:Int) <= (d:Int):=by omega
  have ab:(d:Int) < (b.length:Int):=by omega
  clear a;have B1:Hid (Below B w (X.setCell ⟨cb,d * 5 + 4,none⟩ (.int .i64 ((z:Int) + 1)))):=BX.out.setCell P _;have K1:Hid (dm w (X.setCell ⟨cb,d * 5 + 4,none⟩ (.int .i64 ((z:Int) + 1)))):=KX.out.trans (m.out.qO _ _);rw [show ((z + 1:Nat):Int)=(z:Int) + 1 by omega] at I;have w0:(X.setCell ⟨cb,d * 5 + 4,none⟩ (.int .i64 ((z:Int) + 1))).cell? ⟨w.heap.size,0,none⟩=some (.int .u64 (s.1:Int)):=by rw [World.cell?_setCell_far _ _ _ _ (by simpa using C)];exact z0
  have w1:(X.setCell ⟨cb,d * 5 + 4,none⟩ (.int .i64 ((z:Int) + 1))).cell? ⟨w.heap.size,1,none⟩=some (.int .u64 (s.2:Int)):=by rw [World.cell?_setCell_far _ _ _ _ (by simpa using C)];exact z1
  go_wp2_with fail
  refine (jq s _ hs).mono ?_;obtain ⟨Y,hY⟩:∃ Y,Y=X.setCell ⟨cb,d * 5 + 4,none⟩ (.int .i64 ((z:Int) + 1)):=⟨_,rfl⟩;rw [<- hY] at I B1 K1 w0 w1 ⊢;rintro e6 M ⟨rfl,l⟩;have v:=hide (I.out.later l);have B6:Hid (Below B w M):=B1.out.trans (l.mono I.out.bsize);have K6:Hid (dm w M):=K1.out.trans (dm.of_below l);have a0:=(l.cell (p:=⟨w.heap.size,0,none⟩) (block_lt_of_cell w0)).trans w0;have a1:=(l.cell (p:=⟨w.heap.size,1,none⟩) (block_lt_of_cell w1)).trans w1;have b3:=(v.out.head 3 (by omega)).1;have b4:=(v.out.head 4 (by omega)).1;have q3:=(v.out.head 3 (by omega)).2;have q4:=(v.out.head 4 (by omega)).2;unfold iU at b3 b4;clear hY l w0 w1 z0 z1 y0 y3 y4 g3 g4 c4 f4 I B1 K1 m BX KX RX S C ah af ac ab E;obtain ⟨nz,G⟩:∃ n,n=s.size:=⟨_,rfl⟩;rw [<- G];simp only [];by_cases h1:nz=1
  ·have UP:Hid ((if s.size=1 then u.un s else u)=u.un s):=by unfold Hid;rw [if_pos (by omega)]
   have qu:=hide (fun W'=>ig u s W' hu hs);unfold dC at qu;have aB:w.heap.size < M.heap.size:=block_lt_of_cell a0;have o:sb < M.heap.size:=v.out.row.lt;subst h1;clear G;go_wp2;go_region_with (go_at_call 75;refine (qu.out _).mono ?_;rintro e7 w7 ⟨rfl,Q⟩;have J:Hid (Below M.heap.size M w7):=bR.drew.trans Q;have k3:=(J.out.cell (p:=⟨sb,3,none⟩) o).trans b3;have k4:=(J.out.cell (p:=⟨sb,4,none⟩) o).trans b4;have r3:=(J.out.frozen (p:=⟨sb,3,none⟩) o).trans q3;have r4:=(J.out.frozen (p:=⟨sb,4,none⟩) o).trans q4;clear Q)
   all_goals
    have R:=v.out.later J.out;have S8:=hide (R.Oj (u.un s));have B8:Hid (Below B w ((w7.setCell ⟨sb,3,none⟩ (.int .u64 ((u.un s).1:Int))).setCell ⟨sb,4,none⟩ (.int .u64 ((u.un s).2:Int)))):=((B6.out.trans (J.out.mono v.out.bsize)).setCell R.jf _).setCell R.jf _;have K8:Hid (dm w ((w7.setCell ⟨sb,3,none⟩ (.int .u64 ((u.un s).1:Int))).setCell ⟨sb,4,none⟩ (.int .u64 ((u.un s).2:Int)))):=(K6.out.trans (dm.of_below J.out)).trans (R.pg _ _ _ _);clear R;go_wp2;go_end0;exact ⟨rfl,B8.out,K8.out,_,_,_,GX.out,by rw [UP.out];exact S8.out⟩
  ·have UP:Hid ((if s.size=1 then u.un s else u)=u):=by unfold Hid;rw [if_neg (by omega)]
   have hb:((nz:Int) == 1)=false:=by rw [beq_eq_false_iff_ne];omega
   clear G h1;go_wp2;go_end0;exact ⟨rfl,B6.out,K6.out,_,_,_,GX.out,by rw [UP.out];exact v.out⟩
 ·obtain ⟨hi,aO⟩:=mY hl;have aL:=hc i hl;subst aL;rw [hl] at ad;obtain ⟨b,f⟩:∃ x,x=es:=⟨_,rfl⟩;obtain ⟨aa,r⟩:∃ x,x=wl:=⟨_,rfl⟩;obtain ⟨d,K⟩:∃ j,j=i:=⟨_,rfl⟩;have E:d < b.length:=by rw [f,K];exact hi
  have RX:Hid (iT b d ((b[d]'E).times + 1)=xm es s/\aa=Ap es wl s):=by
   refine ⟨?_,by unfold Ap;rw [hl];exact r⟩;rw [xL,f,K];unfold xm;rw [hl]
  have tX:(b[d]'E).times <= 1700000000000:=aN.out _ (by rw [<- f];exact List.getElem_mem E);have aA:b.length <= 1600000000000:=by rw [f];omega
  have SW:=am.out;rw [<- f,<- r] at SW;have ao:=hide SW;obtain ⟨q,au,aG,_,al,ak,_,O⟩:=SW.wY d E;have t4:=(O 4 (by omega)).1;simp only [lQ,List.getElem?_cons_succ,List.getElem?_cons_zero] at t4;have t2:=(SW.head 2 (by omega)).1;have q2:=(SW.head 2 (by omega)).2;unfold iU at t2;subst aG;rw [<- K] at ad;have ac:(0:Int) <= (d:Int):=by omega
  have ab:(d:Int) < (b.length:Int):=by omega
  have aT:sb < W.heap.size:=SW.row.lt;have aS:d < es.length:=by omega
  have aR:(d:Int) < (es.length:Int):=by omega
  clear hl hc an ag HS SW O K;obtain ⟨t0,aC⟩:∃ t,t=(b[d]'E).times:=⟨_,rfl⟩;rw [<- aC] at t4;clear aC;by_cases tz:t0=0
  ·have aw:((t0:Int) == 0)=true:=by rw [beq_iff_eq];omega
   go_quiet (fail)
   go_upto_region 6 with fail
   have SD:=ao.out.later (dX (Below.refl _ W) nq);have KD:dm W (W.drewN nq):=dm.of_below (dX (Below.refl _ W) _);obtain ⟨X,hX⟩:∃ X,X=(W.drewN nq).setCell ⟨sb,2,none⟩ (.int .i64 (gone - 1)):=⟨_,rfl⟩;obtain ⟨gX,H⟩:∃ g,g=gone - 1:=⟨_,rfl⟩;rw [<- hX];have GX:Hid (gX=gone\/gX=gone - 1):=.inr H;have m:Hid (fu B sb X (.slice (some ⟨q,0,none⟩) b.length au) mb gX u wv b aa):=by unfold Hid;rw [hX,H];exact SD.fB _
   have BX:Hid (Below B w X):=by unfold Hid;rw [hX];exact (dX Z.out nq).setCell SD.jf _
   have kX:dm W X:=by rw [hX];exact KD.trans (SD.qN _ _)
   have KX:Hid (dm w X):=KW.out.trans kX;have z0:=(kX.cell (j:=0) FX.out).trans x0;have z1:=(kX.cell (j:=1) FX.out).trans x1;have S:=hide (kX.rV FX.out);obtain ⟨cb,aI,aj,P,aq,ap,ar,a⟩:=m.out.wY d E;clear SD KD hX kX x0 x1 y1 ad FX am Z KW H tz aw t4 t2 q2 y0 ao al ak;subst f r;cases aj
   have y0:=(m.out.head 0 (by omega)).1;have y3:=(m.out.head 3 (by omega)).1;have y4:=(m.out.head 4 (by omega)).1;have g3:=(m.out.head 3 (by omega)).2;have g4:=(m.out.head 4 (by omega)).2;unfold iU at y0 y3 y4;have c4:=(a 4 (by omega)).1;have f4:=(a 4 (by omega)).2;simp only [lQ,List.getElem?_cons_succ,List.getElem?_cons_zero] at c4;have I:=hide (m.out.Ol E ((b[d]'E).times + 1));rw [RX.out.1,RX.out.2] at I;generalize (b[d]'E).times=z at c4 tX I;have ah:sb < X.heap.size:=m.out.row.lt;have af:w.heap.size < X.heap.size:=block_lt_of_cell z0;have C:¬ q=w.heap.size:=fun e=>by
    obtain ⟨y,t,e1,_,e3,_⟩:=S.out
    rcases m.out.cls.2 with ⟨e2,_⟩ | ⟨g',az,aH,e2,_,N,_⟩
    ·cases e2
    ·cases e2;rw [e,e1] at N;cases N;exact e3 rfl
   have ac:(0:Int) <= (d:Int):=by omega
   have ab:(d:Int) < (b.length:Int):=by omega
   clear a;have B1:Hid (Below B w (X.setCell ⟨q,d * 5 + 4,none⟩ (.int .i64 ((z:Int) + 1)))):=BX.out.setCell P _;have K1:Hid (dm w (X.setCell ⟨q,d * 5 + 4,none⟩ (.int .i64 ((z:Int) + 1)))):=KX.out.trans (m.out.qO _ _);rw [show ((z + 1:Nat):Int)=(z:Int) + 1 by omega] at I;have w0:(X.setCell ⟨q,d * 5 + 4,none⟩ (.int .i64 ((z:Int) + 1))).cell? ⟨w.heap.size,0,none⟩=some (.int .u64 (s.1:Int)):=by rw [World.cell?_setCell_far _ _ _ _ (by simpa using C)];exact z0
   have w1:(X.setCell ⟨q,d * 5 + 4,none⟩ (.int .i64 ((z:Int) + 1))).cell? ⟨w.heap.size,1,none⟩=some (.int .u64 (s.2:Int)):=by rw [World.cell?_setCell_far _ _ _ _ (by simpa using C)];exact z1
   go_wp2_with fail
   refine (jq s _ hs).mono ?_;obtain ⟨Y,hY⟩:∃ Y,Y=X.setCell ⟨q,d * 5 + 4,none⟩ (.int .i64 ((z:Int) + 1)):=⟨_,rfl⟩;rw [<- hY] at I B1 K1 w0 w1 ⊢;rintro e6 M ⟨rfl,l⟩;have v:=hide (I.out.later l);have B6:Hid (Below B w M):=B1.out.trans (l.mono I.out.bsize);have K6:Hid (dm w M):=K1.out.trans (dm.of_below l);have a0:=(l.cell (p:=⟨w.heap.size,0,none⟩) (block_lt_of_cell w0)).trans w0;have a1:=(l.cell (p:=⟨w.heap.size,1,none⟩) (block_lt_of_cell w1)).trans w1;have b3:=(v.out.head 3 (by omega)).1;have b4:=(v.out.head 4 (by omega)).1;have q3:=(v.out.head 3 (by omega)).2;have q4:=(v.out.head 4 (by omega)).2;unfold iU at b3 b4;clear hY l w0 w1 z0 z1 y0 y3 y4 g3 g4 c4 f4 I B1 K1 m BX KX RX S C ah af ac ab E;obtain ⟨nz,G⟩:∃ n,n=s.size:=⟨_,rfl⟩;rw [<- G];simp only [];by_cases h1:nz=1
   ·have UP:Hid ((if s.size=1 then u.un s else u)=u.un s):=by unfold Hid;rw [if_pos (by omega)]
    have qu:=hide (fun W'=>ig u s W' hu hs);unfold dC at qu;have aB:w.heap.size < M.heap.size:=block_lt_of_cell a0;have o:sb < M.heap.size:=v.out.row.lt;subst h1;clear G;go_wp2;go_region_with (go_at_call 75;refine (qu.out _).mono ?_;rintro e7 w7 ⟨rfl,Q⟩;have J:Hid (Below M.heap.size M w7):=bR.drew.trans Q;have k3:=(J.out.cell (p:=⟨sb,3,none⟩) o).trans b3;have k4:=(J.out.cell (p:=⟨sb,4,none⟩) o).trans b4;have r3:=(J.out.frozen (p:=⟨sb,3,none⟩) o).trans q3;have r4:=(J.out.frozen (p:=⟨sb,4,none⟩) o).trans q4;clear Q)
    all_goals
     have R:=v.out.later J.out;have S8:=hide (R.Oj (u.un s));have B8:Hid (Below B w ((w7.setCell ⟨sb,3,none⟩ (.int .u64 ((u.un s).1:Int))).setCell ⟨sb,4,none⟩ (.int .u64 ((u.un s).2:Int)))):=((B6.out.trans (J.out.mono v.out.bsize)).setCell R.jf _).setCell R.jf _;have K8:Hid (dm w ((w7.setCell ⟨sb,3,none⟩ (.int .u64 ((u.un s).1:Int))).setCell ⟨sb,4,none⟩ (.int .u64 ((u.un s).2:Int)))):=(K6.out.trans (dm.of_below J.out)).trans (R.pg _ _ _ _);clear R;go_wp2;go_end0;exact ⟨rfl,B8.out,K8.out,_,_,_,GX.out,by rw [UP.out];exact S8.out⟩
   ·have UP:Hid ((if s.size=1 then u.un s else u)=u):=by unfold Hid;rw [if_neg (by omega)]
    have hb:((nz:Int) == 1)=false:=by rw [beq_eq_false_iff_ne];omega
    clear G h1;go_wp2;go_end0;exact ⟨rfl,B6.out,K6.out,_,_,_,GX.out,by rw [UP.out];exact v.out⟩
  ·have aw:((t0:Int) == 0)=false:=by rw [beq_eq_false_iff_ne];omega
   go_quiet (fail)
   go_upto_region 6 with fail
   have SD:=ao.out.later (dX (Below.refl _ W) nq);have KD:dm W (W.drewN nq):=dm.of_below (dX (Below.refl _ W) _);obtain ⟨X,hX⟩:∃ X,X=W.drewN nq:=⟨_,rfl⟩;obtain ⟨gX,H⟩:∃ g,g=gone:=⟨_,rfl⟩;rw [<- hX];have GX:Hid (gX=gone\/gX=gone - 1):=.inl H;have m:Hid (fu B sb X (.slice (some ⟨q,0,none⟩) b.length au) mb gX u wv b aa):=by unfold Hid;rw [hX,H];exact SD
   have BX:Hid (Below B w X):=by unfold Hid;rw [hX];exact dX Z.out nq
   have kX:dm W X:=by rw [hX];exact KD
   have KX:Hid (dm w X):=KW.out.trans kX;have z0:=(kX.cell (j:=0) FX.out).trans x0;have z1:=(kX.cell (j:=1) FX.out).trans x1;have S:=hide (kX.rV FX.out);obtain ⟨cb,aI,aj,P,aq,ap,ar,a⟩:=m.out.wY d E;clear SD KD hX kX x0 x1 y1 ad FX am Z KW H tz aw t4 t2 q2 y0 ao al ak;subst f r;cases aj
   have y0:=(m.out.head 0 (by omega)).1;have y3:=(m.out.head 3 (by omega)).1;have y4:=(m.out.head 4 (by omega)).1;have g3:=(m.out.head 3 (by omega)).2;have g4:=(m.out.head 4 (by omega)).2;unfold iU at y0 y3 y4;have c4:=(a 4 (by omega)).1;have f4:=(a 4 (by omega)).2;simp only [lQ,List.getElem?_cons_succ,List.getElem?_cons_zero] at c4;have I:=hide (m.out.Ol E ((b[d]'E).times + 1));rw [RX.out.1,RX.out.2] at I;generalize (b[d]'E).times=z at c4 tX I;have ah:sb < X.heap.size:=m.out.row.lt;have af:w.heap.size < X.heap.size:=block_lt_of_cell z0;have C:¬ q=w.heap.size:=fun e=>by
    obtain ⟨y,t,e1,_,e3,_⟩:=S.out
    rcases m.out.cls.2 with ⟨e2,_⟩ | ⟨g',az,aH,e2,_,N,_⟩
    ·cases e2
    ·cases e2;rw [e,e1] at N;cases N;exact e3 rfl
   have ac:(0:Int) <= (d:Int):=by omega
   have ab:(d:Int) < (b.length:Int):=by omega
   clear a;have B1:Hid (Below B w (X.setCell ⟨q,d * 5 + 4,none⟩ (.int .i64 ((z:Int) + 1)))):=BX.out.setCell P _;have K1:Hid (dm w (X.setCell ⟨q,d * 5 + 4,none⟩ (.int .i64 ((z:Int) + 1)))):=KX.out.trans (m.out.qO _ _);rw [show ((z + 1:Nat):Int)=(z:Int) + 1 by omega] at I;have w0:(X.setCell ⟨q,d * 5 + 4,none⟩ (.int .i64 ((z:Int) + 1))).cell? ⟨w.heap.size,0,none⟩=some (.int .u64 (s.1:Int)):=by rw [World.cell?_setCell_far _ _ _ _ (by simpa using C)];exact z0
   have w1:(X.setCell ⟨q,d * 5 + 4,none⟩ (.int .i64 ((z:Int) + 1))).cell? ⟨w.heap.size,1,none⟩=some (.int .u64 (s.2:Int)):=by rw [World.cell?_setCell_far _ _ _ _ (by simpa using C)];exact z1
   go_wp2_with fail
   refine (jq s _ hs).mono ?_;obtain ⟨Y,hY⟩:∃ Y,Y=X.setCell ⟨q,d * 5 + 4,none⟩ (.int .i64 ((z:Int) + 1)):=⟨_,rfl⟩;rw [<- hY] at I B1 K1 w0 w1 ⊢;rintro e6 M ⟨rfl,l⟩;have v:=hide (I.out.later l);have B6:Hid (Below B w M):=B1.out.trans (l.mono I.out.bsize);have K6:Hid (dm w M):=K1.out.trans (dm.of_below l);have a0:=(l.cell (p:=⟨w.heap.size,0,none⟩) (block_lt_of_cell w0)).trans w0;have a1:=(l.cell (p:=⟨w.heap.size,1,none⟩) (block_lt_of_cell w1)).trans w1;have b3:=(v.out.head 3 (by omega)).1;have b4:=(v.out.head 4 (by omega)).1;have q3:=(v.out.head 3 (by omega)).2;have q4:=(v.out.head 4 (by omega)).2;unfold iU at b3 b4;clear hY l w0 w1 z0 z1 y0 y3 y4 g3 g4 c4 f4 I B1 K1 m BX KX RX S C ah af ac ab E;obtain ⟨nz,G⟩:∃ n,n=s.size:=⟨_,rfl⟩;rw [<- G];simp only [];by_cases h1:nz=1
   ·have UP:Hid ((if s.size=1 then u.un s else u)=u.un s):=by unfold Hid;rw [if_pos (by omega)]
    have qu:=hide (fun W'=>ig u s W' hu hs);unfold dC at qu;have aB:w.heap.size < M.heap.size:=block_lt_of_cell a0;have o:sb < M.heap.size:=v.out.row.lt;subst h1;clear G;go_wp2;go_region_with (go_at_call 75;refine (qu.out _).mono ?_;rintro e7 w7 ⟨rfl,Q⟩;have J:Hid (Below M.heap.size M w7):=bR.drew.trans Q;have k3:=(J.out.cell (p:=⟨sb,3,none⟩) o).trans b3;have k4:=(J.out.cell (p:=⟨sb,4,none⟩) o).trans b4;have r3:=(J.out.frozen (p:=⟨sb,3,none⟩) o).trans q3;have r4:=(J.out.frozen (p:=⟨sb,4,none⟩) o).trans q4;clear Q)
    all_goals
     have R:=v.out.later J.out;have S8:=hide (R.Oj (u.un s));have B8:Hid (Below B w ((w7.setCell ⟨sb,3,none⟩ (.int .u64 ((u.un s).1:Int))).setCell ⟨sb,4,none⟩ (.int .u64 ((u.un s).2:Int)))):=((B6.out.trans (J.out.mono v.out.bsize)).setCell R.jf _).setCell R.jf _;have K8:Hid (dm w ((w7.setCell ⟨sb,3,none⟩ (.int .u64 ((u.un s).1:Int))).setCell ⟨sb,4,none⟩ (.int .u64 ((u.un s).2:Int)))):=(K6.out.trans (dm.of_below J.out)).trans (R.pg _ _ _ _);clear R;go_wp2;go_end0;exact ⟨rfl,B8.out,K8.out,_,_,_,GX.out,by rw [UP.out];exact S8.out⟩
   ·have UP:Hid ((if s.size=1 then u.un s else u)=u):=by unfold Hid;rw [if_neg (by omega)]
    have hb:((nz:Int) == 1)=false:=by rw [beq_eq_false_iff_ne];omega
    clear G h1;go_wp2;go_end0;exact ⟨rfl,B6.out,K6.out,_,_,_,GX.out,by rw [UP.out];exact v.out⟩
end
section
attribute [local go_sem ↓] Go.wp_at_zero Go.wp_at_succ
def there (es:List dN) (s:Key):Bool:=match look es s with
 | none=>false
 | some i=>match es[i]? with
  | none=>false
  | some e=>decide (0 < e.times)
theorem Dr {B sb mb:Nat} {cv:Value} {gone:Int} {u:Key} {wv:Nat->Value} {es:List dN} {wl:Nat->List Nat} (w:World) (l:es.length <= 1600000000000)
  (f:fu B sb w cv mb gone u wv es wl):
  Calls Tryz.prog 116 #[.pointer (some ⟨sb,0,none⟩)] w fun e o=>e=.returned (.bool (there es (0,0)))/\Below w.heap.size w o:=by
 have q:=(f.head 0 (by omega)).1;have p:=(f.head 1 (by omega)).1;unfold iU at q p;obtain ⟨c,j,b⟩:=f.map.lookup (k:=(0,0)) kN;unfold dC at b;have d:(Instr.lookup 130 (.map (some mb)) (.agg #[.int .u64 0,.int .u64 0]) true).run Tryz.prog w=.ok (.tuple #[.int .i64 c,.bool (look es (0,0)).isSome]) w:=b w rfl;have s:=hide f;clear b f
 rcases hl:look es (0,0) with _ | i
 ·have E:Hid (there es (0,0)=false):=by unfold Hid there;rw [hl]
  rw [hl] at d;clear hl j;go_enter Tryz.func116,Tryz.ntmps116
  go_wp2;go_ret
  exact ⟨fM E.out.symm,bR⟩
 ·obtain ⟨m,_⟩:=mY hl;have h:=j i hl;subst h;obtain ⟨y,r,g,_,_,_,_,a⟩:=s.out.wY i m;subst g;have n:=(a 4 (by omega)).1;simp only [lQ,List.getElem?_cons_succ,List.getElem?_cons_zero] at n;have E:Hid (there es (0,0)=decide (0 < (es[i]).times)):=by unfold Hid there;rw [hl];simp only [List.getElem?_eq_getElem m]
  rw [hl] at d;have x:(0:Int) <= (i:Int):=by omega
  have v:(i:Int) < (es.length:Int):=by omega
  generalize (es[i]).times=t at n E;clear hl j a;go_enter Tryz.func116,Tryz.ntmps116
  go_wp2;go_ret
  exact ⟨fM (by rw [E.out]),bR⟩
end
end
section
open Go Go.RowKit Go.Deep
def vZ (x y:Value) (j:Nat):Value:=if j=0 then x else y
theorem fZ (w:World) (x y:Value) (t:TypeId):(w.alloc (.cells #[x,y] t)).rowIs w.heap.size t 2 (vZ x y):=
 ⟨_,blk_alloc_new _ _,rfl,fun i a=>by match i,a with | 0,_=>rfl | 1,_=>rfl⟩
theorem pO (w:World) (o:Obj) (x y:Value) (t:TypeId):((w.alloc o).alloc (.cells #[x,y] t)).rowIs (w.heap.size + 1) t 2 (vZ x y):=by
 have:=fZ (w.alloc o) x y t;simpa using this
theorem lL {a b:Int} (h:a=b):Value.int .i64 a=.int .i64 b:=by rw [h]
section
attribute [local go_sem ↓] Go.wp_at_zero Go.wp_at_succ
def gJ (s:Key):Nat->Value:=vZ (.int .u64 (s.1:Int)) (.int .u64 (s.2:Int))
structure He (H:Nat) (w:World) (s:Key) (wr:World):Prop where
 res:wr.rowIs H 84 2 (gJ (0,0))
 cur:wr.rowIs (H + 1) 84 2 (gJ s)
 below:Below H w wr
 hs:H + 2 <= wr.heap.size
def Wx (H:Nat) (w:World) (xs:List Int) (i:Value) (wr:World):Prop:=∃ k:Nat,k <= xs.length/\i=.int .i64 k/\Hid (He H w (setOf (xs.take k)) wr)
theorem He.put {H:Nat} {w wr b:World} {s t:Key} (h:He H w s wr) (a:Below wr.heap.size wr b):He H w t ((b.setCell ⟨H + 1,0,none⟩ (.int .u64 (t.1:Int))).setCell ⟨H + 1,1,none⟩ (.int .u64 (t.2:Int))) where
 res:=((h.res.of_block (a.block _ (by have:=h.hs;omega))).setOther (by simp) _).setOther (by simp) _
 cur:=(((h.cur.of_block (a.block _ (by have:=h.hs;omega))).set 0 _).set 1 _).congr fun i c=>by
  match i,c with
  | 0,_=>rfl
  | 1,_=>rfl
 below:=((h.below.trans (a.mono (by have:=h.hs;omega))).setCell (by simp) _).setCell (by simp) _
 hs:=by have:=h.hs;have:=a.size;simp [World.setCell];omega
theorem Ld (b:List Int) (v:Value) (w:World) (hv:Rw w v b) (S:∀ l ∈ b,dY l) (R:b.length <= 1500000000000):
  Calls Tryz.prog 69 #[v] w fun e w'=>e=.returned (dC (setOf b))/\Below w.heap.size w w':=by
 obtain ⟨ua,uc,G,rfl,q,c⟩:=hv;have X:=hide c;have O:=hide q;have Y:=hide S;clear c q S;go_enter Tryz.func69,Tryz.ntmps69
 go_wp2;obtain ⟨W,M⟩:∃ W,W=(w.alloc (.cells #[.int .u64 0,.int .u64 0] 84)).alloc (.cells #[.int .u64 0,.int .u64 0] 84):=⟨_,rfl⟩
 rw [<- M];have U:Hid (He w.heap.size w (0,0) W):=by
  unfold Hid;rw [M];exact ⟨(fZ w _ _ _).alloc _,pO w _ _ _ _,tJ bR lr _ _,by simp⟩
 clear M;go_loopw [8] (fun i wr=>Wx w.heap.size w b i wr) (fun i _=>b.length - (intOf i).toNat)
 case atStart=>exact ⟨0,zl,rfl,U⟩
 case round=>
  clear U;obtain ⟨k,hk,rfl,a⟩:=hrel;have n:=a.out.cur.cell (i:=0) (by omega);have m:=a.out.cur.cell (i:=1) (by omega);have f0:=a.out.cur.frozen 0;have f1:=a.out.cur.frozen 1;have J:=a.out.res.cell (i:=0) (by omega);have I:=a.out.res.cell (i:=1) (by omega);have g0:=a.out.res.frozen 0;have g1:=a.out.res.frozen 1;unfold gJ vZ at n m J I;simp only [if_true,show ¬ (1=0) by decide,if_false] at n m J I;have hh:=a.out.hs;have lit:∀ l ∈ b.take k,dY l:=fun l h=>Y.out l (List.mem_of_mem_take h)
  have ok:=xY lit;clear lit;by_cases f:k < b.length
  ·have g:=X.out k f;have hx:=O.out (by omega);subst hx;have s:wr.cell? ⟨G,k,none⟩=some (.int .i64 (b.getD k 0)):=by rw [a.out.below.cell (p:=⟨G,k,none⟩) (block_lt_of_cell g)];exact g
   have T:Hid (setOf (b.take (k + 1))=(setOf (b.take k)).un (single (b.getD k 0))):=by
    unfold Hid;rw [List.take_succ_eq_append_getElem f,setOf_snoc];simp [List.getD_eq_getElem?_getD,f]
   have C:dY (b.getD k 0):=Y.out _ (by simp [List.getD_eq_getElem?_getD,f]);clear g;generalize b.getD k 0=x at s T C;have K:=hide (fun N=>xX x N C);have o:=hide (fun N=>ig (setOf (b.take k)) (single x) N ok (fP C));rw [<- T.out] at o;unfold dC at K o;have aa:G < w.heap.size:=block_lt_of_cell (X.out k f);generalize single x=sx at K o T;generalize d:setOf (b.take k)=H at n m o a ok T;generalize r:setOf (b.take (k + 1))=sn at o T;have P:=hide r;clear ok C T d r;go_wp2;go_region_with (first
    |(go_at_call 73;refine (K.out _).mono ?_;rintro e6 w6 ⟨rfl,j⟩;have E:Hid (Below wr.heap.size wr w6):=bR.drew.trans j;have d0:=(E.out.cell (p:=⟨w.heap.size + 1,0,none⟩) (by simp;omega)).trans n;have d1:=(E.out.cell (p:=⟨w.heap.size + 1,1,none⟩) (by simp;omega)).trans m;have s6:=j.size;clear j)
    |(go_at_call 75;refine (o.out _).mono ?_;rintro e7 Z ⟨rfl,y⟩;have z:Hid (Below wr.heap.size wr Z):=E.out.trans (y.mono E.out.size);have e0:=(z.out.cell (p:=⟨w.heap.size + 1,0,none⟩) (by simp;omega)).trans n;have e1:=(z.out.cell (p:=⟨w.heap.size + 1,1,none⟩) (by simp;omega)).trans m;have e2:=(z.out.frozen (p:=⟨w.heap.size + 1,0,none⟩) (by simp;omega)).trans f0;have e3:=(z.out.frozen (p:=⟨w.heap.size + 1,1,none⟩) (by simp;omega)).trans f1;clear y))
   all_goals
    have SN:=hide (a.out.put (t:=sn) z.out);go_wp2;go_roundw
    case rel=>exact ⟨k + 1,by omega,lL (by omega),by rw [P.out];exact SN⟩
    case measure=>simp [intOf];omega
  ·have e:k=b.length:=by omega
   subst e;rw [List.take_of_length_le lr] at a n m;obtain ⟨H,d⟩:∃ x,x=setOf b:=⟨_,rfl⟩;rw [<- d] at a n m;have Q:=hide d;clear d ok;go_wp2;refine bodyPost_ret (v:=.agg #[.int .u64 (H.1:Int),.int .u64 (H.2:Int)]) (by simp [results,Tryz.results69,go_sem,J,I]) rfl ⟨by rw [<- Q.out];rfl,?_⟩;exact ((a.out.below.setCell (by simp) _).setCell (by simp) _)
end
section
variable {B sb mb:Nat} {w wr ws:World} {cv:Value} {gone:Int} {u:Key} {wv wv':Nat->Value} {es es':List dN} {wl mr:Nat->List Nat} {L D F:Key}
structure dV (B sb:Nat) (w:World) (L D F:Key) (cv:Value) (mb:Nat) (gone:Int) (u:Key) (wv:Nat->Value) (es:List dN) (wl:Nat->List Nat) (wr:World):Prop where
 kR:wr.rowIs w.heap.size 84 2 (gJ L)
 p9:wr.rowIs (w.heap.size + 1) 84 2 (gJ D)
 mM:wr.rowIs (w.heap.size + 2) 84 2 (gJ F)
 fK:fu B sb wr cv mb gone u wv es wl
 below:Below B w wr
 keeps:dm w wr
 hs:w.heap.size + 3 <= wr.heap.size
 tab:nT B wr
 bw:B <= w.heap.size
theorem gI {b n:Nat} {f:Nat->Value} (h:wr.rowIs b 84 n f):kP wr b:=by
 obtain ⟨c,a,_⟩:=h;exact ⟨c,_,a,by decide⟩
theorem dV.step (h:dV B sb w L D F cv mb gone u wv es wl wr) (S:fu B sb ws cv mb gone u wv' es' mr) (k:dm wr ws) (b:Below B wr ws):dV B sb w L D F cv mb gone u wv' es' mr ws where
 kR:=h.kR.of_block (k _ (gI h.kR))
 p9:=h.p9.of_block (k _ (gI h.p9))
 mM:=h.mM.of_block (k _ (gI h.mM))
 fK:=S
 below:=h.below.trans b
 keeps:=h.keeps.trans k
 hs:=Nat.le_trans h.hs b.size
 tab:=h.tab.later b
 bw:=h.bw
theorem dV.later (h:dV B sb w L D F cv mb gone u wv es wl wr) (a:Below wr.heap.size wr ws):dV B sb w L D F cv mb gone u wv es wl ws:=
 h.step (h.fK.later a) (dm.of_below a) (a.mono h.fK.bsize)
theorem lJ {b n:Nat} {f:Nat->Value} (h:fu B sb wr cv mb gone u wv es wl) (x:wr.rowIs b 84 n f) (d:∀ k,k ≠ b->ws.heap[k]? = wr.heap[k]?):fu B sb ws cv mb gone u wv es wl:=by
 obtain ⟨c,r,_⟩:=x;have p:∀ g j t,wr.heap[g]? = some (.cells j t (0,0))->t ≠ 84->g ≠ b:=fun g j t a v e=>by rw [e,r] at a;cases a;exact v rfl
 exact {
  row:=h.row.of_block (d _ (by obtain ⟨z,q,_⟩:=h.row;exact p _ _ _ q (by decide)))
  cls:=gu h.cls fun g a=>d g (by
   rcases h.cls.2 with ⟨m,_⟩ | ⟨y,o,j,m,_,l,_⟩
   ·rw [m] at a;cases a
   ·rw [m] at a;cases a;exact p _ _ _ l (by decide))
  map:=h.map.kept (d _ (fun e=>h.map.iq (by rw [e];exact r)))
  mP:=fun k s=>gu (h.mP k s) fun g a=>d g (by
   rcases (h.mP k s).2 with ⟨m,_⟩ | ⟨y,o,j,m,_,l,_⟩
   ·rw [m] at a;cases a
   ·rw [m] at a;cases a;exact p _ _ _ l (by decide))
  apart:=h.apart
  jf:=h.jf
  zB:=h.zB }
theorem nI {b:Nat} {s t:Key} (h:wr.rowIs b 84 2 (gJ s)):((wr.setCell ⟨b,0,none⟩ (.int .u64 (t.1:Int))).setCell ⟨b,1,none⟩ (.int .u64 (t.2:Int))).rowIs b 84 2 (gJ t):=
 ((h.set 0 _).set 1 _).congr fun i a=>by
  match i,a with
  | 0,_=>rfl
  | 1,_=>rfl
theorem dZ {b:Nat} {x y:Value}:∀ k,k ≠ b->((wr.setCell ⟨b,0,none⟩ x).setCell ⟨b,1,none⟩ y).heap[k]? = wr.heap[k]? := fun k a=>by
 rw [Below.heap_setCell _ _ _ _ (by simpa using a),Below.heap_setCell _ _ _ _ (by simpa using a)]
theorem pq {b:Nat} {x y:Value} (h:dm w wr) (c:w.heap.size <= b):dm w ((wr.setCell ⟨b,0,none⟩ x).setCell ⟨b,1,none⟩ y):=fun k a=>by
 rw [dZ k (by have:=a.lt;omega)];exact h k a
theorem dV.OG (h:dV B sb w L D F cv mb gone u wv es wl wr) (t:Key):dV B sb w L D t cv mb gone u wv es wl ((wr.setCell ⟨w.heap.size + 2,0,none⟩ (.int .u64 (t.1:Int))).setCell ⟨w.heap.size + 2,1,none⟩ (.int .u64 (t.2:Int))) where
 kR:=h.kR.of_block (dZ _ (by omega))
 p9:=h.p9.of_block (dZ _ (by omega))
 mM:=nI h.mM
 fK:=lJ h.fK h.mM dZ
 below:=(h.below.setCell (by have:=h.bw;simp;omega) _).setCell (by have:=h.bw;simp;omega) _
 keeps:=pq h.keeps (by omega)
 hs:=by have:=h.hs;simp [World.setCell];omega
 tab:=h.tab.later ((bR.setCell (by have:=h.bw;simp;omega) _).setCell (by have:=h.bw;simp;omega) _)
 bw:=h.bw
theorem dV.Tn (h:dV B sb w L D F cv mb gone u wv es wl wr) (t:Key):dV B sb w L t F cv mb gone u wv es wl ((wr.setCell ⟨w.heap.size + 1,0,none⟩ (.int .u64 (t.1:Int))).setCell ⟨w.heap.size + 1,1,none⟩ (.int .u64 (t.2:Int))) where
 kR:=h.kR.of_block (dZ _ (by omega))
 p9:=nI h.p9
 mM:=h.mM.of_block (dZ _ (by omega))
 fK:=lJ h.fK h.p9 dZ
 below:=(h.below.setCell (by have:=h.bw;simp;omega) _).setCell (by have:=h.bw;simp;omega) _
 keeps:=pq h.keeps (by omega)
 hs:=by have:=h.hs;simp [World.setCell];omega
 tab:=h.tab.later ((bR.setCell (by have:=h.bw;simp;omega) _).setCell (by have:=h.bw;simp;omega) _)
 bw:=h.bw
structure eU (B sb:Nat) (w:World) (lit:Int) (dG:Key) (cv:Value) (mb:Nat) (gone:Int) (u:Key) (es0:List dN) (cK:List Nat) (V:Value) (i:Nat) (kl:List Nat) (F:Key) (wv:Nat->Value) (es:List dN) (wl:Nat->List Nat) (wr:World):Prop where
 mem:dV B sb w (single lit) (dG.un F) F cv mb gone u wv es (fun k=>if k=place lit then mix kl cK else wl k) wr
 hv:wv (place lit)=V
 pX:jY es0 lit dG cK i es wl kl F
def JJ (B sb:Nat) (w:World) (lit:Int) (dG:Key) (cv:Value) (mb:Nat) (gone:Int) (u:Key) (es0:List dN) (cK:List Nat) (V:Value) (k10 i25:Value) (wr:World):Prop:=
 ∃ (i:Nat) (kl:List Nat) (F:Key) (wv:Nat->Value) (es:List dN) (wl:Nat->List Nat),k10=.int .i64 kl.length/\i25=.int .i64 i/\Hid (eU B sb w lit dG cv mb gone u es0 cK V i kl F wv es wl wr)
def oU (B sb:Nat) (w:World) (lit:Int) (dG:Key) (cv:Value) (mb:Nat) (gone:Int) (u:Key) (es0:List dN) (e:Ending) (w':World):Prop:=
 ∃ (F:Key) (c:Bool) (wv:Nat->Value) (es:List dN) (wl:Nat->List Nat),e=.returned (.tuple #[dC F,.bool c])/\Below B w w'/\dm w w'/\fu B sb w' cv mb gone u wv es wl/\iE es0 es lit dG F c/\fJ es wl
theorem eU.start {lit:Int} {dG:Key} (b:dV B sb w (single lit) dG (0,0) cv mb gone u wv es wl wr) (a:fJ es wl):eU B sb w lit dG cv mb gone u es (wl (place lit)) (wv (place lit)) 0 [] (0,0) wv es wl wr where
 mem:=by
  have d:(fun k=>if k=place lit then mix [] (wl (place lit)) else wl k)=wl:=by
   funext k;rw [Db];split
   ·rename_i e;rw [e]
   ·rfl
  have c:dG.un (0,0)=dG:=kH fun x=>by rw [dL,fw,Bool.or_false]
  rw [d,c];exact b
 hv:=rfl
 pX:=jY.start a
end
section
variable {B sb mb:Nat} {w wr ws:World} {cv V:Value} {gone:Int} {u:Key} {wv wv':Nat->Value} {es0 es es':List dN} {wl mr:Nat->List Nat} {L D F F' dG:Key} {lit:Int} {cK kl:List Nat} {i:Nat}
theorem ES:∀ (n:Nat) (l:List Nat),l.Nodup->(∀ x ∈ l,x < n)->l.length <= n
 | 0,l,_,h=>by
  cases l with
  | nil=>exact lr
  | cons a r=>exact absurd (h a (List.mem_cons_self ..)) (Nat.not_lt_zero _)
 | n + 1,l,hd,h=>by
  have d:=ES n (l.erase n) (hd.erase n) (fun x b=>by
   have:=h x (List.mem_of_mem_erase b);have:x ≠ n:=fun e=>by subst e;exact hd.not_mem_erase b
   omega)
  by_cases c:n ∈ l
  ·rw [List.length_erase_of_mem c] at d;omega
  ·rw [List.erase_of_not_mem c] at d;omega
theorem fJ.len (h:fJ es wl) {k:Nat} (a:k < 128):(wl k).length <= es.length:=ES _ _ (h.nodup k a) fun x b=>(h.lists k a x b).1
theorem eU.keep {d n cap:Nat} (b:dV B sb w (single lit) (dG.un F) F cv mb gone u wv es (fun k=>if k=place lit then mix kl cK else wl k) ws) (hv:wv (place lit)=.slice (some ⟨d,0,none⟩) n cap) (c:dY lit) (hi:i < cK.length) (h:kl.length <= i)
  (g:jY es0 lit dG cK (i + 1) es wl (kl ++ [cK[i]]) F):eU B sb w lit dG cv mb gone u es0 cK (.slice (some ⟨d,0,none⟩) n cap) (i + 1) (kl ++ [cK[i]]) F wv es wl (ws.setCell ⟨d,kl.length,none⟩ (.int .i64 (cK[i]:Nat))) where
 mem:=by
  have S:=b.fK.Yq (i:=kl.length) (a:=cK[i]) (gN c) hv;have e:(fun k=>if k=place lit then ((fun k=>if k=place lit then mix kl cK else wl k) (place lit)).set kl.length cK[i] else (fun k=>if k=place lit then mix kl cK else wl k) k)=fun k=>if k=place lit then mix (kl ++ [cK[i]]) cK else wl k:=by
   funext k
   by_cases e:k=place lit
   ·simp only [e,if_true];exact Da (by omega)
   ·simp only [e,if_false]
  rw [e] at S;obtain ⟨_,_,f,_⟩:=b.fK.Xc (gN c) hv;exact b.step S (b.fK.V8 (gN c) hv _ _) (bR.setCell f _)
 hv:=hv
 pX:=g
theorem eU.over {j:Nat} {c:Int} {a:Key} (f:dV B sb w (single lit) (dG.un F) F cv mb gone u wv' (eZ (eZ es j a) j (a.un (single c))) (fun k=>if k=place c then (if place c=place lit then mix kl cK else wl (place c)) ++ [j] else if k=place lit then mix kl cK else wl k) ws)
  (hv:wv' (place lit)=V) (g:dY lit) (h:dY c) (d:c ≠ lit)
  (l:jY es0 lit dG cK (i + 1) (eZ es j (a.un (single c))) (fun k=>if k=place c then wl k ++ [j] else wl k) kl F):
  eU B sb w lit dG cv mb gone u es0 cK V (i + 1) kl F wv' (eZ es j (a.un (single c))) (fun k=>if k=place c then wl k ++ [j] else wl k) ws where
 mem:=by
  have b:place c ≠ place lit:=fun e=>d (kg h g e)
  have e:(fun k=>if k=place c then (if place c=place lit then mix kl cK else wl (place c)) ++ [j] else if k=place lit then mix kl cK else wl k)=fun k=>if k=place lit then mix kl cK else if k=place c then wl k ++ [j] else wl k:=by
   funext k
   by_cases e:k=place c
   ·simp only [e,if_true,b,if_false]
   ·simp only [e,if_false]
  rw [D7,e] at f;exact f
 hv:=hv
 pX:=l
theorem eU.out {a:Option Addr} {n cap:Nat} (h:eU B sb w lit dG cv mb gone u es0 cK (.slice a n cap) cK.length kl F wv es wl wr) (b:dY lit):
  oU B sb w lit dG cv mb gone u es0 (.returned (.tuple #[dC F,.bool false])) (wr.setCell ⟨sb,5 + place lit,none⟩ (.slice a kl.length cap))/\dV B sb w (single lit) (dG.un F) F cv mb gone u (fun k=>if k=place lit then .slice a kl.length cap else wv k) es (fun k=>if k=place lit then kl else wl k) (wr.setCell ⟨sb,5 + place lit,none⟩ (.slice a kl.length cap)):=by
 have S:=h.mem.fK.XH (k0:=kl.length) (gN b) h.hv (by simp [mix]);have e:(fun k=>if k=place lit then ((fun k=>if k=place lit then mix kl cK else wl k) (place lit)).take kl.length else (fun k=>if k=place lit then mix kl cK else wl k) k)=fun k=>if k=place lit then kl else wl k:=by
  funext k
  by_cases e:k=place lit
  ·simp only [e,if_true];exact qJ
  ·simp only [e,if_false]
 rw [e] at S;have M:=h.mem.step S (h.mem.fK.qN _ _) (bR.setCell h.mem.fK.jf _);obtain ⟨d,c⟩:=h.pX.done b;exact ⟨⟨F,false,_,es,_,rfl,M.below,M.keeps,M.fK,d,c⟩,M⟩
theorem dV.zq {b n cap:Nat} (a:dV B sb w (single lit) (dG.un F) F cv mb gone u wv es (fun k=>if k=place lit then kl ++ cK.drop i ++ cK.drop (kl.length + (cK.length - i)) else wl k) ws) (f:wv (place lit)=.slice (some ⟨b,0,none⟩) n cap) (c:dY lit)
  (d:fJ es (fun k=>if k=place lit then kl ++ cK.drop i else wl k)) (g:iE es0 es lit dG F true):
  oU B sb w lit dG cv mb gone u es0 (.returned (.tuple #[dC F,.bool true])) (ws.setCell ⟨sb,5 + place lit,none⟩ (.slice (some ⟨b,0,none⟩) (kl.length + (cK.length - i)) cap))/\dV B sb w (single lit) (dG.un F) F cv mb gone u (fun k=>if k=place lit then .slice (some ⟨b,0,none⟩) (kl.length + (cK.length - i)) cap else wv k) es (fun k=>if k=place lit then kl ++ cK.drop i else wl k) (ws.setCell ⟨sb,5 + place lit,none⟩ (.slice (some ⟨b,0,none⟩) (kl.length + (cK.length - i)) cap)):=by
 have S:=a.fK.XH (k0:=kl.length + (cK.length - i)) (gN c) f (by simp);have e:(fun k=>if k=place lit then ((fun k=>if k=place lit then kl ++ cK.drop i ++ cK.drop (kl.length + (cK.length - i)) else wl k) (place lit)).take (kl.length + (cK.length - i)) else (fun k=>if k=place lit then kl ++ cK.drop i ++ cK.drop (kl.length + (cK.length - i)) else wl k) k)=fun k=>if k=place lit then kl ++ cK.drop i else wl k:=by
  funext k
  by_cases e:k=place lit
  ·simp only [e,if_true];rw [List.take_append_of_le_length (by simp),List.take_of_length_le (by simp)]
  ·simp only [e,if_false]
 rw [e] at S;have M:=a.step S (a.fK.qN _ _) (bR.setCell a.fK.jf _);exact ⟨⟨F,true,_,es,_,rfl,M.below,M.keeps,M.fK,g,d⟩,M⟩
end
section
theorem jJ {P:Program} {n:Array Oper} {o:Oper} {a:Act} {w:World} {K:Act->World->Prop} {Q:Exit->Act->World->Prop} {E:Prop} (z:o.guard=none) (d s:Operand) (C H:TypeId)
  (O:o.op=.call { callee:=.builtin .copy,args:=#[d,s],argTypes:=#[C,H] }) (elem:TypeId) (M:P.underlying C=some (.slice elem)) (y:(P.info? elem).map (·.size)=some 1)
  (g off:Nat) (G:Addr) (c m b l:Nat) (hd:a.eval d=.slice (some ⟨g,off,none⟩) c m) (N:a.eval s=.slice (some G) b l)
  (f:Array Value) (t:TypeId) (I:w.heap[g]? = some (.cells f t (0,0))) (cs:List Value) (R:cs.length=Nat.min b c)
  (p:∀ j v,cs[j]? = some v->w.cell? (G.add j)=some v) (r:off + cs.length <= f.size) (T:∀ v ∈ cs,v.oneCell'=true) (B:Nat) (A:B <= g)
  (h:∀ x,Hid (x.heap[g]? = some (.cells (splice f.toList off cs).toArray t (0,0)))->Hid (∀ k,k ≠ g->x.heap[k]? = w.heap[k]?)->Hid (Below B w x)->K (a.put o.dst (goInt cs.length)) x):
  if Region.wanted o (yielded n a.tmps)=true then Oper.wp P o a w K Q else E:=by
 have J:Region.wanted o (yielded n a.tmps)=true:=by simp [Region.wanted,z]
 rw [if_pos J];have q:=run_copy_row (P:=P) w C H o.type elem g off c m G b l f t cs M y I R p r T;unfold Oper.wp;simp [execOp,O,resolve,invoke,builtin,hd,N,q,Result.andThen]
 exact h _ (show _=_ by simpa [splice] using setRow_heap w g _ _ t _ I) (fun k S=>setRow_other w g k _ (fun e=>S (by first | exact e | exact e.symm))) (below_setRow bR A _)
theorem qF {kl cK:List Nat} {i:Nat} {a:List Value} (g:kl.length <= i) (hi:i <= cK.length) (c:a.take cK.length=fA (mix kl cK)):
  (splice a kl.length (fA (cK.drop i))).take cK.length=fA (kl ++ cK.drop i ++ cK.drop (kl.length + (cK.length - i))):=by
 have b:(fA (cK.drop i)).length=cK.length - i:=by rw [iw];simp
 have d:cK.length <= a.length:=by
  have:=congrArg List.length c;rw [iw,fT (by omega),List.length_take] at this;omega
 have f:a.take kl.length=fA kl:=by
  have:a.take kl.length=(a.take cK.length).take kl.length:=by rw [List.take_take];congr 1;omega
  rw [this,c,<- yC,qJ]
 have e:(a.drop (kl.length + (cK.length - i))).take (cK.length - (kl.length + (cK.length - i)))=fA (cK.drop (kl.length + (cK.length - i))):=by
  have:(a.drop (kl.length + (cK.length - i))).take (cK.length - (kl.length + (cK.length - i)))=(a.take cK.length).drop (kl.length + (cK.length - i)):=by rw [List.drop_take]
  rw [this,c];unfold fA mix;rw [<- List.map_drop,List.drop_append,List.drop_of_length_le (by omega),List.nil_append,List.drop_drop]
  congr 2;omega
 unfold splice;rw [b,f,<- List.append_assoc,List.take_append,List.take_of_length_le (by rw [List.length_append,iw,b];omega),List.length_append,iw,b,e];unfold fA;rw [List.map_append,List.map_append]
variable {B sb mb:Nat} {w wr ws:World} {cv V:Value} {gone:Int} {u:Key} {wv wv':Nat->Value} {es0 es es':List dN} {wl mr:Nat->List Nat} {L D F F' dG:Key} {lit:Int} {cK kl:List Nat} {i:Nat}
theorem dV.copied {h n cap:Nat} {b:Array Value} (r:dV B sb w L D F cv mb gone u wv es (fun k=>if k=place lit then mix kl cK else wl k) wr) (o:wv (place lit)=.slice (some ⟨h,0,none⟩) n cap) (s:dY lit) (p:kl.length <= i) (hi:i <= cK.length)
  (x:wr.heap[h]? = some (.cells b 3 (0,0))) (K:ws.heap[h]? = some (.cells (splice b.toList kl.length (fA (cK.drop i))).toArray 3 (0,0))) (v:∀ k,k ≠ h->ws.heap[k]? = wr.heap[k]?) (I:Below B wr ws):
  dV B sb w L D F cv mb gone u wv es (fun k=>if k=place lit then kl ++ cK.drop i ++ cK.drop (kl.length + (cK.length - i)) else wl k) ws:=by
 have m:=r.fK.mP (place lit) (gN s);simp only [if_true] at m;have a:(kl ++ cK.drop i ++ cK.drop (kl.length + (cK.length - i))).length=cK.length:=by simp;omega
 have own:ws.ownsRow B 3 1 (wv (place lit)) (kl ++ cK.drop i ++ cK.drop (kl.length + (cK.length - i))).length (fA (kl ++ cK.drop i ++ cK.drop (kl.length + (cK.length - i)))):=by
  rw [fT (by omega)] at m;rw [a];refine ⟨by rw [iw,a];omega,?_⟩
  rcases m.2 with ⟨e,_⟩ | ⟨g,l,j,e,q,f,G,H,E,d⟩
  ·rw [o] at e;cases e
  ·have y:=e;rw [o] at y;obtain ⟨C,N,M⟩:=Value.slice.inj y;have A:g=h:=by have:=Option.some.inj C;exact (congrArg Addr.block this).symm
   subst A;rw [x] at f;have z:b=j:=by cases f;rfl
   subst z;simp only [Nat.mul_one] at E d ⊢;refine .inr ⟨g,l,_,e,q,K,G,H,?_,?_⟩
   ·have:(fA (cK.drop i)).length=cK.length - i:=by rw [iw];simp
    simp only [List.size_toArray];rw [length_splice _ _ _ (by rw [this];simp;omega)];simp;omega
   ·simp only [Nat.mul_one];exact qF p hi d
 have S:=r.fK.Kl (gN s) o own v;have e:(fun k=>if k=place lit then kl ++ cK.drop i ++ cK.drop (kl.length + (cK.length - i)) else (fun k=>if k=place lit then mix kl cK else wl k) k)=fun k=>if k=place lit then kl ++ cK.drop i ++ cK.drop (kl.length + (cK.length - i)) else wl k:=by
  funext k
  by_cases e:k=place lit
  ·simp only [e,if_true]
  ·simp only [e,if_false]
 rw [e] at S;refine r.step S (fun k p=>v k (fun e=>?_)) I;obtain ⟨c,t,d,_,_,J⟩:=p;rw [e,x] at d;cases d;exact J rfl
theorem zm {kl cK:List Nat} {i a cap B:Nat} {w:World} (e:w.ownsRow B 3 1 (.slice (some ⟨a,0,none⟩) cK.length cap) cK.length (fA (mix kl cK))) (g:kl.length <= i):
  ∀ j v,(fA (cK.drop i))[j]? = some v->w.cell? (Addr.add ⟨a,i,none⟩ j)=some v:=fun x v c=>by
 have b:x < (fA (cK.drop i)).length:=by
  rcases Nat.lt_or_ge x (fA (cK.drop i)).length with h | h
  ·exact h
  ·rw [List.getElem?_eq_none h] at c;cases c
 rw [iw,List.length_drop] at b;have d:=e.cellAt (i + x) (by omega);have f:Addr.add ⟨a,i,none⟩ x=⟨a,i + x,none⟩:=by simp [Addr.add]
 rw [f,d,<- c];unfold fA mix;rw [List.getElem?_map,List.getElem?_map,List.getElem?_append_right (by omega),List.getElem?_drop,List.getElem?_drop]
 congr 2;omega
theorem Qv {h:List Value} {n c cap B:Nat} {w:World} {b:Array Value} (m:w.ownsRow B 3 1 (.slice (some ⟨c,0,none⟩) n cap) n h) (l:w.heap[c]? = some (.cells b 3 (0,0))):n <= b.size:=by
 rcases m.2 with ⟨e,_⟩ | ⟨g,f,d,e,_,a,k,_,j,_⟩
 ·cases e
 ·cases e
  rw [l] at a;cases a;omega
theorem yB (b:List Nat):∀ v ∈ fA b,v.oneCell'=true:=fun v a=>by
 unfold fA at a;obtain ⟨x,_,rfl⟩:=List.mem_map.1 a;rfl
end
end
end Rd
end Go.Proofs.YtceahffmenbibaaGreatDoor
