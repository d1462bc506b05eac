/- Pent Padd Phas Cref7 Cref8 Pset. -/
import Derived.Test.YtceahffmenbibaaGreatDoorJ15
import Derived.Outline
import Derived.Deep.Cut
import Derived.Test.YtceahffmenbibaaGreatDoorJ12
import Derived.Deep.RegionLaw
set_option linter.unusedVariables false
set_option linter.unusedSimpArgs false
set_option maxHeartbeats 1000000
set_option maxRecDepth 100000
namespace Go.Proofs.YtceahffmenbibaaGreatDoor
namespace Rd
section
open Go Go.RowKit Go.Deep Go.Maps
section
attribute [local go_sem ↓] Go.wp_at_zero Go.wp_at_succ
theorem Tryz.He:(Tryz.prog.info? 180).map (fun i=>(i.zero,i.size,i.bytes))=some (some (.agg #[.int .u64 0,.int .u64 0,.int .u64 0,.int .u64 0,.int .i64 0]),5,40):=by kernel_rfl
theorem mQ {w':World} {B:Nat} {v:Value} {n:Nat} {d:List Value} {t:TypeId} {k:Nat} (h:w'.ownsRow B t k v n d):∃ a c,v=.slice a n c:=by
 rcases h.2 with ⟨rfl,e⟩ | ⟨g,b,f,rfl,_⟩
 ·exact ⟨none,0,by rw [e]⟩
 ·exact ⟨_,b,rfl⟩
theorem modify_last {α:Type} (l:List α) (a:α) (f:α->α):(l ++ [a]).modify l.length f=l ++ [f a]:=by
 induction l with
 | nil=>rfl
 | cons x r ih=>rw [List.cons_append,List.length_cons,List.modify_succ_cons,ih];rfl
theorem Lt (s:Key):Key.un (0,0) s=s:=by unfold Key.un;simp
def aL (s:Key):Int:=s.gI
def bL (s:Key):Int:=(s.wo (single s.gI)).gI
def dZ (s:Key):dH:=⟨s,if 2 <= s.size then (single (aL s)).un (single (bL s)) else (0,0),0⟩
def iG (wl:Nat->List Nat) (s:Key) (n:Nat):Nat->List Nat:=if 2 <= s.size then (fun k=>if k=place (bL s) then (if place (bL s)=place (aL s) then wl (place (aL s)) ++ [n] else wl (place (bL s))) ++ [n] else if k=place (aL s) then wl (place (aL s)) ++ [n] else wl k) else wl
def Iw (B sb:Nat) (cv:Value) (mb:Nat) (gone:Int) (u:Key) (es:List dH) (wl:Nat->List Nat) (s:Key) (w w':World):Prop:=
 Below B w w'/\di w w'/\∃ cv' wv',iB cv cv' w w'/\eG B sb w' cv' mb gone u wv' (es ++ [dZ s]) (iG wl s es.length)
def Lc (B sb mb:Nat) (gone:Int) (u:Key) (es:List dH) (wl:Nat->List Nat) (s:Key) (w w':World):Prop:=
 Below B w w'/\di w w'/\∃ cv' wv',eG B sb w' cv' mb gone u wv' (es ++ [dZ s]) (iG wl s es.length)
theorem yu {B sb H:Nat} {cv:Value} {d:Int} {u:Key} {J:Nat->Value} {b:List dH} {wl:Nat->List Nat} (s:Key) (w:World) (O:s.ok) (hn:look b s=none) (aU:b.length <= 1500000000000) (ak:∀ k,k < 128->(wl k).length <= 1600000000000)
  (hS:eG B sb w cv H d u J b wl) (S:jJ B w):
  Calls Tryz.prog 109 #[.pointer (some ⟨sb,0,none⟩),dn s] w fun e D=>e=.returned (.int .i64 (b.length:Nat))/\Iw B sb cv H d u b wl s w D:=by
 have h0:=(hS.head 0 (by omega)).1;have L:=(hS.head 1 (by omega)).1;have aG:=(hS.head 0 (by omega)).2;unfold iH at h0 L;obtain ⟨ca,l,ar⟩:∃ a c,cv=.slice a b.length c:=by
  rcases hS.cls.2 with ⟨e,h⟩ | ⟨g,a5,aH,e,_⟩
  ·exact ⟨none,0,by rw [e,h]⟩
  ·exact ⟨_,_,e⟩
 subst ar;have HS:=hide hS;have HT:=hide S;clear hS S;have ao:sb < w.heap.size:=HS.out.row.lt;have aE:¬ sb=w.heap.size:=by omega
 have ap:¬ w.heap.size=sb:=by omega
 unfold dn;go_enter Tryz.func109,Tryz.ntmps109
 go_wp2;obtain ⟨W,hW⟩:∃ W,W=w.alloc (.cells #[.int .u64 (s.1:Int),.int .u64 (s.2:Int)] 84):=⟨_,rfl⟩
 have y:Below w.heap.size w W:=by rw [hW];exact bR.alloc lr _
 have sW:W.heap.size=w.heap.size + 1:=by rw [hW];simp
 have x0:W.cell? ⟨w.heap.size,0,none⟩=some (.int .u64 (s.1:Int)):=by rw [hW];simp
 have x1:W.cell? ⟨w.heap.size,1,none⟩=some (.int .u64 (s.2:Int)):=by rw [hW];simp
 have xb:W.heap[w.heap.size]? = some (.cells #[.int .u64 (s.1:Int),.int .u64 (s.2:Int)] 84 (0,0)):=by rw [hW];exact heap_alloc_new _ _
 have y0:=(y.cell (p:=⟨sb,0,none⟩) ao).trans h0;have y1:=(y.cell (p:=⟨sb,1,none⟩) ao).trans L;rw [<- hW];have G:=hide (HS.out.later y);have KW:=hide (di.of_below y);have EW:=hide (iB.of_below (cv:=.slice ca b.length l) y);have aO:Hid (Below B w W):=y.mono HS.out.bsize;clear hW y h0 L aG aE ap;have f:Hid (eG B sb W.drew (.slice ca b.length l) H d u J b wl):=G.out.later bR.drew;obtain ⟨C,P,E,aq⟩:=f.out.map.update (i:=b.length) O (by unfold maxLen;omega) (by omega);unfold dn at P;have z:=hide E;have az:=hide aq;have aC:H < W.heap.size:=G.out.map.lt;have af:=G.out.iF.1;have mx:H ≠ w.heap.size:=fun e=>G.out.map.gP (by rw [e];exact xb)
 have s1:W.heap.size <= C.heap.size:=E.size;have v0:C.cell? ⟨w.heap.size,0,none⟩=some (.int .u64 (s.1:Int)):=by rw [World.cell?_of_block (w:=W) (E.block w.heap.size (by show w.heap.size < W.heap.size;omega) (fun e=>mx (Option.some.inj e).symm))];exact x0
 have v1:C.cell? ⟨w.heap.size,1,none⟩=some (.int .u64 (s.2:Int)):=by rw [World.cell?_of_block (w:=W) (E.block w.heap.size (by show w.heap.size < W.heap.size;omega) (fun e=>mx (Option.some.inj e).symm))];exact x1
 have t0:C.cell? ⟨sb,0,none⟩=some (.slice ca b.length l):=by rw [World.cell?_of_block (w:=W) (E.block sb (by show sb < W.heap.size;omega) (fun e=>af (Option.some.inj e).symm))];exact y0
 clear E aq;go_cut [] from 12 (fun wx=>wx=C)
 case first=>
  go_region
  all_goals
   go_wp2_with fail
   go_meet;rfl
 case rest=>
  rw [hcut];clear hcut;obtain ⟨c0,hc,aj,ai,ah⟩:=info_parts Tryz.He;have O1:Hid (C.drew.ownsRow B 180 5 (.slice ca b.length l) b.length (jH b)):=fT f.out.cls fun g hg=>z.out.block g (f.out.cls.lt g hg).2 (fun e=>by
   rcases f.out.cls.2 with ⟨e2,_⟩ | ⟨g',aW,aH,e2,_,aF,_⟩
   ·rw [e2] at hg;cases hg
   ·rw [e2] at hg;cases hg;exact f.out.map.gP (by rw [<- (Option.some.inj e)];exact aF))
  have G1:Hid (W.drew.grownBy C.drew (some H)):=⟨z.out.os,z.out.tape,z.out.output,z.out.size,z.out.block⟩;have M1:Hid (jh C.drew H (b.length + 1) (fun t=>if t=(⟨s,(0,0),0⟩:dH).set then some b.length else look b t)):=az.out.kept rfl;have aA:Hid (Below B w W.drew):=aO.out.drew;have aI:B <= C.heap.size:=by have:=G.out.bsize;omega
  have al:w.heap.size < C.heap.size:=by omega
  have am:sb < C.heap.size:=by omega
  clear z az P;go_wp2;go_cut [] from 12 (fun wx=>∃ I,Hid (eG B sb wx I H d u J (b ++ [⟨s,(0,0),0⟩]) wl)/\Hid (Below B w wx)/\Hid (di W wx)/\Hid (iB (.slice ca b.length l) I W wx))
  case first=>
   go_region_law
    (refine iQ _ (by rfl) _ _ 131 (by rfl) B 180 c0 _ 5 40 Tryz.underlying131 hc aj ai ah (by rfl) (by decide) (.slice ca b.length l) b.length (jH b) (by rfl) (O1.out.alloc (.cells #[.int .u64 (s.1:Int),.int .u64 (s.2:Int),.int .u64 0,.int .u64 0,.int .i64 0] 180)) (.slice (some ⟨C.heap.size,0,none⟩) 1 1) 1 [.int .u64 (s.1:Int),.int .u64 (s.2:Int),.int .u64 0,.int .u64 0,.int .i64 0] (by rfl) (.inr ⟨⟨C.heap.size,0,none⟩,1,rfl,World.news_of_block (cs:=#[.int .u64 (s.1:Int),.int .u64 (s.2:Int),.int .u64 0,.int .u64 0,.int .i64 0]) (t:=180) (fr:=(0,0)) (heap_alloc_new C.drew _)⟩) (by rfl) (by simp [Value.oneCell']) (by unfold maxLen;omega) (by omega) (by simp;omega) ?_;intro M w6 V;have S6:=hide (f.out.UI (e:=⟨s,(0,0),0⟩) hn G1.out M1.out V);have B6:=hide (f.out.TR (e:=⟨s,(0,0),0⟩) G1.out V aA.out M);have K6:=(f.out.Si (e:=⟨s,(0,0),0⟩) G1.out V).1;have K7:=(f.out.Si (e:=⟨s,(0,0),0⟩) G1.out V).2;have C6:=hide ((di.of_below (Below.refl W.heap.size W).drew).trans (f.out.TD (e:=⟨s,(0,0),0⟩) G1.out V M));have E6:=hide ((iB.of_below (Below.refl W.heap.size W).drew).trans (f.out.QJ (e:=⟨s,(0,0),0⟩) G1.out V M));obtain ⟨a0,aZ,aD⟩:=mQ V.own;subst aD;clear V)
   all_goals
    go_wp2_with fail
    go_meet;exact ⟨_,S6,B6,C6,E6⟩
  case rest=>
   obtain ⟨M,S6,B6,C6,E6⟩:=hcut;have EC:=hide (EW.out.trans E6.out);have FX:Hid (jK W w.heap.size):=⟨_,_,xb,by decide⟩;have ab:=(C6.out.cell (j:=0) FX.out).trans x0;have aa:=(C6.out.cell (j:=1) FX.out).trans x1;have FC:=hide (C6.out.rJ FX.out);have KC:Hid (di w wc):=KW.out.trans C6.out;have ac:=hide ak;clear G1 M1 O1 f G aA v0 v1 t0 x0 x1 xb y0 y1 C6 FX sW aC af mx s1 aI al am ak hn;go_wp2_with fail
   refine (lM s _ O).mono ?_;rintro e7 w7 ⟨rfl,q⟩;have S7:=hide (S6.out.later q);have B7:Hid (Below B w w7):=B6.out.trans (q.mono S6.out.bsize);have K7:Hid (di w w7):=KC.out.trans (di.of_below q);have E7:=hide (EC.out.trans (iB.of_below q));have d0:=(q.cell (p:=⟨w.heap.size,0,none⟩) (block_lt_of_cell ab)).trans ab;have d1:=(q.cell (p:=⟨w.heap.size,1,none⟩) (block_lt_of_cell aa)).trans aa;have F7:=hide ((di.of_below q).rJ FC.out);have ag:w.heap.size < w7.heap.size:=block_lt_of_cell d0;clear q ab aa FC KC;obtain ⟨nz,Y⟩:∃ n,n=s.size:=⟨_,rfl⟩;rw [<- Y];by_cases m:2 <= s.size
   ·have X:s ≠ (0,0):=fun e=>by rw [e,rU] at m;omega
    obtain ⟨p1,p2,p3⟩:=mE O X;have Z:s.wo (single s.gI) ≠ (0,0):=qD O m (dw p3);have Ll:=qi O (single s.gI);obtain ⟨r1,r2,r3⟩:=mE Ll Z;have q1:=fun W=>wL s W O X
    have q2:=fun W=>iK s (single s.gI) W O (fE p3)
    have q3:=fun W=>wL (s.wo (single s.gI)) W Ll Z
    rw [p1] at q1;rw [r1] at q3;have E1:Hid (dZ s=⟨s,(single s.gI).un (single (s.wo (single s.gI)).gI),0⟩):=by unfold Hid dZ aL bL;rw [if_pos m]
    have E2:Hid (iG wl s b.length=fun k=>if k=place (bL s) then (if place (bL s)=place (aL s) then wl (place (aL s)) ++ [b.length] else wl (place (bL s))) ++ [b.length] else if k=place (aL s) then wl (place (aL s)) ++ [b.length] else wl k):=by unfold Hid iG;rw [if_pos m]
    have an:(2:Int) <= (nz:Int):=by omega
    have W1:Hid (∀ cv J w (h:eG B sb w cv H d u J (b ++ [(⟨s,(0,0),0⟩:dH)]) wl) (S:jJ B w),Calls Tryz.prog 159 #[.pointer (some ⟨sb,0,none⟩),.int .i64 (b.length:Nat),dn (single s.gI)] w fun e D=>e=.returned (.tuple #[])/\Below B w D/\di w D/\iB cv cv w D/\
      ∃ x,eG B sb D cv H d u x (b ++ [(⟨s,single s.gI,0⟩:dH)]) (fun k=>if k=place s.gI then wl (place s.gI) ++ [b.length] else wl k)):=by
     intro cv J w h S;have gx:b.length < (b ++ [(⟨s,(0,0),0⟩:dH)]).length:=by simp
     have ge:(b ++ [(⟨s,(0,0),0⟩:dH)])[b.length]'gx=⟨s,(0,0),0⟩:=by simp
     refine (xh b.length s.gI w p3 gx (by rw [ge];exact kG) (by simp;omega) (Nat.le_trans (ac.out _ (gz p3)) (by omega)) h S).mono ?_;rintro e D ⟨L,h2,h3,h6,x,h4⟩;refine ⟨L,h2,h3,h6,x,?_⟩;have e:eO (b ++ [(⟨s,(0,0),0⟩:dH)]) b.length (((b ++ [(⟨s,(0,0),0⟩:dH)])[b.length]'gx).watched.un (single s.gI))=b ++ [(⟨s,single s.gI,0⟩:dH)]:=by
      rw [ge];unfold eO;rw [modify_last,Lt]
     rw [e] at h4;exact h4
    have Q1:=hide q1;have Q2:=hide q2;have Q3:=hide q3;have P3:=hide p3;have R3:=hide r3;unfold dn at Q1 Q2 Q3 W1;clear q1 q2 q3 p1 p2 p3 r1 r2 r3 Z X Ll m Y;go_wp2_with fail
    refine (Q1.out _).mono ?_;rintro e8 N ⟨rfl,o⟩;have S8:=hide (S7.out.later o);have B8:Hid (Below B w N):=B7.out.trans (o.mono S7.out.bsize);have K8:Hid (di w N):=K7.out.trans (di.of_below o);have E8:=hide (E7.out.trans (iB.of_below o));have f0:=(o.cell (p:=⟨w.heap.size,0,none⟩) ag).trans d0;have f1:=(o.cell (p:=⟨w.heap.size,1,none⟩) ag).trans d1;have F8:=hide ((di.of_below o).rJ F7.out);have a1:w.heap.size < N.heap.size:=block_lt_of_cell f0;clear o d0 d1 F7 S7 B7 K7;have W2:Hid (∀ cv J w (h:eG B sb w cv H d u J (b ++ [(⟨s,single s.gI,0⟩:dH)]) (fun k=>if k=place s.gI then wl (place s.gI) ++ [b.length] else wl k)) (S:jJ B w),Calls Tryz.prog 159 #[.pointer (some ⟨sb,0,none⟩),.int .i64 (b.length:Nat),dn (single (s.wo (single s.gI)).gI)] w fun e D=>e=.returned (.tuple #[])/\Below B w D/\di w D/\
      ∃ I x,iB cv I w D/\eG B sb D I H d u x (b ++ [dZ s]) (iG wl s b.length)):=by
     intro cv J w h S;have gx:b.length < (b ++ [(⟨s,single s.gI,0⟩:dH)]).length:=by simp
     have ge:(b ++ [(⟨s,single s.gI,0⟩:dH)])[b.length]'gx=⟨s,single s.gI,0⟩:=by simp
     have aJ:(if place (s.wo (single s.gI)).gI=place s.gI then wl (place s.gI) ++ [b.length] else wl (place (s.wo (single s.gI)).gI)).length <= 1700000000000:=by
      split
      ·have:=ac.out _ (gz P3.out);simp;omega
      ·have:=ac.out _ (gz R3.out);omega
     refine (xh b.length (s.wo (single s.gI)).gI w R3.out gx (by rw [ge];exact fE P3.out) (by simp;omega) aJ h S).mono ?_;rintro e D ⟨L,h2,h3,h6,x,h4⟩;refine ⟨L,h2,h3,cv,x,h6,?_⟩;have e:eO (b ++ [(⟨s,single s.gI,0⟩:dH)]) b.length (((b ++ [(⟨s,single s.gI,0⟩:dH)])[b.length]'gx).watched.un (single (s.wo (single s.gI)).gI))=b ++ [dZ s]:=by
      rw [ge];unfold eO;rw [modify_last,E1.out]
     rw [e] at h4;rw [E2.out];exact h4
    unfold dn at W2;generalize single s.gI=sa at *
    generalize s.wo sa=so at *
    generalize single so.gI=sc at *
    have HH:=hide (And.intro E1.out E2.out);clear E1 E2 HH;simp only [];go_wp2_with fail
    refine (W1.out _ _ _ (S8.out.later (bR.alloc lr _)) (HT.out.later (B8.out.alloc S8.out.bsize _))).mono ?_;rintro e9 w9 ⟨rfl,au,K,av,aX,S9⟩;have E9:=hide ((E8.out.trans (iB.of_below ((Below.refl _ N).alloc lr _))).trans av);clear av;have ay:=hide S9;have B9:Hid (Below B w w9):=(B8.out.alloc S8.out.bsize _).trans au;have k9:=(di.of_below ((Below.refl _ N).alloc lr _)).trans K;have K9:Hid (di w w9):=K8.out.trans k9;have h0:=(k9.cell (j:=0) F8.out).trans f0;have L:=(k9.cell (j:=1) F8.out).trans f1;have fn:=lQ N #[Value.int IntKind.u64 (sa.1:Int),Value.int IntKind.u64 (sa.2:Int)] 84 (by decide);have j0:w9.cell? ⟨N.heap.size,0,none⟩=some (.int .u64 (sa.1:Int)):=by rw [K.cell (j:=0) fn];simp
    have j1:w9.cell? ⟨N.heap.size,1,none⟩=some (.int .u64 (sa.2:Int)):=by rw [K.cell (j:=1) fn];simp
    clear S9 au K k9 fn f0 f1;simp only [];go_wp2_with fail
    refine (Q2.out _).mono ?_;rintro a4 ae ⟨rfl,v⟩;have ax:=hide (ay.out.later v);have aS:Hid (Below B w ae):=B9.out.trans (v.mono ay.out.bsize);have aN:Hid (di w ae):=K9.out.trans (di.of_below v);have aR:=hide (E9.out.trans (iB.of_below v));clear v h0 L j0 j1;simp only [];go_wp2_with fail
    refine (Q3.out _).mono ?_;rintro a3 ad ⟨rfl,r⟩;have aK:=hide (ax.out.later r);have aB:Hid (Below B w ad):=aS.out.trans (r.mono ax.out.bsize);have aM:Hid (di w ad):=aN.out.trans (di.of_below r);have aQ:=hide (aR.out.trans (iB.of_below r));clear r;simp only [];go_wp2_with fail
    refine (W2.out _ _ _ aK.out (HT.out.later aB.out)).mono ?_;rintro a2 aY ⟨rfl,R,Q,aV,aT,U,aw⟩;have aP:=hide (aQ.out.trans U);clear U;have BE:=hide (aB.out.trans R);have KE:=hide (aM.out.trans Q);have SE:=hide aw;clear R Q aw;simp only [];go_wp2;go_ret;exact ⟨rfl,BE.out,KE.out,_,_,aP.out,SE.out⟩
   ·have an:¬ (2:Int) <= (nz:Int):=by omega
    have e1:Hid (dZ s=⟨s,(0,0),0⟩):=by unfold Hid dZ;rw [if_neg m]
    have e2:Hid (iG wl s b.length=wl):=by unfold Hid iG;rw [if_neg m]
    clear m O Y;simp only [];go_wp2;go_ret;exact ⟨rfl,B7.out,K7.out,_,_,E7.out,by rw [e1.out,e2.out];exact S7.out⟩
theorem KH {B sb i:Nat} {cv:Value} {a:Int} {u:Key} {j:Nat->Value} {c:List dH} {wl:Nat->List Nat} (s:Key) (w:World) (l:s.ok) (m:look c s=none) (b:c.length <= 1500000000000) (f:∀ k,k < 128->(wl k).length <= 1600000000000)
  (o:eG B sb w cv i a u j c wl) (n:jJ B w):
  Calls Tryz.prog 109 #[.pointer (some ⟨sb,0,none⟩),dn s] w fun e h=>e=.returned (.int .i64 (c.length:Nat))/\Lc B sb i a u c wl s w h:=by
 with_reducible refine (yu s w l m b f o n).mono ?_
 rintro e h ⟨t,r,q,g,d,_,p⟩;exact ⟨t,r,q,g,d,p⟩
end
section
attribute [local go_sem ↓] Go.wp_at_zero Go.wp_at_succ
theorem mG {a:List dH} {s:Key} {i:Nat} (h:look a s=some i):∃ b:i < a.length,(a[i]).set=s:=by
 unfold look at h;obtain ⟨b,c,_⟩:=List.findIdx?_eq_some_iff_getElem.1 h;exact ⟨b,by simpa using c⟩
theorem eG.Mg {B sb c:Nat} {w:World} {cv:Value} {a:Int} {u:Key} {b:Nat->Value} {e:List dH} {wl:Nat->List Nat} (h:eG B sb w cv c a u b e wl) (k:Key):eG B sb ((w.setCell ⟨sb,3,none⟩ (.int .u64 (k.1:Int))).setCell ⟨sb,4,none⟩ (.int .u64 (k.2:Int))) cv c a k b e wl:=
 h.UF (((h.row.set 3 _).set 4 _).congr fun i f=>by
  match i with
  | 0=>rfl
  | 1=>rfl
  | 2=>rfl
  | 3=>rfl
  | 4=>rfl
  | n + 5=>simp [iH]) (fun n d=>by rw [Below.heap_setCell _ _ _ _ d,Below.heap_setCell _ _ _ _ d])
theorem eG.oM {B sb g:Nat} {w:World} {cv:Value} {a:Int} {u:Key} {f:Nat->Value} {n:List dH} {wl:Nat->List Nat} (h:eG B sb w cv g a u f n wl) (j i:Nat) (x y:Value):di w ((w.setCell ⟨sb,j,none⟩ x).setCell ⟨sb,i,none⟩ y):=fun k m=>by
 have b:k ≠ sb:=fun e=>by
  obtain ⟨c,l,_⟩:=h.row;obtain ⟨y,t,d,o,_⟩:=m;rw [e,l] at d;cases d;exact o rfl
 rw [Below.heap_setCell _ _ _ _ b,Below.heap_setCell _ _ _ _ b]
def uy (es:List dH) (s:Key):List dH:=match look es s with
 | none=>es ++ [{ dZ s with times:=1 }]
 | some i=>es.modify i (fun e=>{ e with times:=e.times + 1 })
def zN (es:List dH) (wl:Nat->List Nat) (s:Key):Nat->List Nat:=match look es s with
 | none=>iG wl s es.length
 | some _=>wl
def RU (B sb mb:Nat) (gone:Int) (u:Key) (es:List dH) (wl:Nat->List Nat) (s:Key) (w w':World):Prop:=
 Below B w w'/\di w w'/\∃ cv' wv' g',(g'=gone\/g'=gone - 1)/\eG B sb w' cv' mb g' (if s.size=1 then u.un s else u) wv' (uy es s) (zN es wl s)
theorem wY (a:List dH) (i:Nat) (b:i < a.length):iq a i ((a[i]).times + 1)=a.modify i (fun e=>{ e with times:=e.times + 1 }):=by
 unfold iq;refine List.ext_getElem? fun j=>?_
 rw [List.getElem?_modify,List.getElem?_modify];split
 ·rename_i h;subst h;rw [List.getElem?_eq_getElem b];rfl
 ·rfl
theorem uu {B sb mb:Nat} {cv:Value} {d:Int} {u:Key} {wv:Nat->Value} {Q:List dH} {wl:Nat->List Nat} (s:Key) (w:World) (hs:s.ok) (hu:u.ok) (aF:Q.length <= 1500000000000) (an:∀ k,k < 128->(wl k).length <= 1600000000000) (ax:-6000000000000000000 <= d/\d <= 6000000000000000000) (ag:∀ e ∈ Q,e.times <= 6000000000000000000)
  (hS:eG B sb w cv mb d u wv Q wl) (hT:jJ B w):
  Calls Tryz.prog 68 #[.pointer (some ⟨sb,0,none⟩),dn s] w fun e w'=>e=.returned (.tuple #[])/\RU B sb mb d u Q wl s w w':=by
 have h0:=(hS.head 0 (by omega)).1;have h1:=(hS.head 1 (by omega)).1;unfold iH at h0 h1;have HS:=hide hS;have HT:=hide hT;have aD:sb < w.heap.size:=HS.out.row.lt;have aK:¬ sb=w.heap.size:=by omega
 have aE:¬ w.heap.size=sb:=by omega
 clear hS hT;obtain ⟨c,hc,ai⟩:=HS.out.map.lookup hs;unfold dn at ai ⊢;have av:=hide ai;clear ai;go_enter Tryz.func68,Tryz.ntmps68
 go_wp2_with fail
 obtain ⟨W,hW⟩:∃ W,W=w.alloc (.cells #[.int .u64 (s.1:Int),.int .u64 (s.2:Int)] 84):=⟨_,rfl⟩;have U:Below w.heap.size w W:=by rw [hW];exact bR.alloc lr _
 have x0:W.cell? ⟨w.heap.size,0,none⟩=some (.int .u64 (s.1:Int)):=by rw [hW];simp
 have x1:W.cell? ⟨w.heap.size,1,none⟩=some (.int .u64 (s.2:Int)):=by rw [hW];simp
 have xb:W.heap[w.heap.size]? = some (.cells #[.int .u64 (s.1:Int),.int .u64 (s.2:Int)] 84 (0,0)):=by rw [hW];exact heap_alloc_new _ _
 have FX:Hid (jK W w.heap.size):=⟨_,_,xb,by decide⟩;have y0:=(U.cell (p:=⟨sb,0,none⟩) aD).trans h0;have y1:=(U.cell (p:=⟨sb,1,none⟩) aD).trans h1;rw [<- hW];have am:=hide (HS.out.later U);have KW:=hide (di.of_below U);have V:Hid (Below B w W):=U.mono HS.out.bsize;have ad:∀ n,(Instr.lookup 130 (.map (some mb)) (.agg #[.int .u64 (s.1:Int),.int .u64 (s.2:Int)]) true).run Tryz.prog (W.drewN n)=.ok (.tuple #[.int .i64 c,.bool (look Q s).isSome]) (W.drewN n):=fun n=>av.out (W.drewN n) (U.block mb HS.out.map.lt)
 clear hW U h0 h1 aK aE av xb;have aU:=hide an;have aN:=hide ag;have aQ:w.heap.size < W.heap.size:=block_lt_of_cell x0;obtain ⟨gl,gh⟩:=ax;have ay:∀ (X:World) (aM:Value) (aJ:Nat->Value) (gX:Int) (b:List dH) (aa:Nat->List Nat) (f:Nat),True:=fun _ _ _ _ _ _ _=>trivial
 clear ay
 rcases hl:look Q s with _ | i
 ·rw [hl] at ad hc;have QE:=hide (fun W' (h:eG B sb W' cv mb d u wv Q wl) (hT:jJ B W')=>KH s W' hs hl aF an h hT);unfold dn at QE;obtain ⟨b,l⟩:∃ x,x=Q ++ [dZ s]:=⟨_,rfl⟩;obtain ⟨aa,v⟩:∃ x,x=iG wl s Q.length:=⟨_,rfl⟩;obtain ⟨f,K⟩:∃ j,j=Q.length:=⟨_,rfl⟩;have E:f < b.length:=by rw [l,K];simp
  have RX:Hid (iq b f ((b[f]'E).times + 1)=uy Q s/\aa=zN Q wl s):=by
   refine ⟨?_,by unfold zN;rw [hl];exact v⟩;rw [wY,l,K,modify_last];unfold uy;rw [hl];unfold dZ;rfl
  have tX:(b[f]'E).times <= 6000000000000000000:=by subst l K;simp [dZ]
  obtain ⟨gX,H⟩:∃ g,g=d:=⟨_,rfl⟩;have GX:Hid (gX=d\/gX=d - 1):=.inl H;clear hl hc an ag y0 HS;go_quiet (fail)
  go_wp2_with fail
  refine (QE.out _ (am.out.later (dO bR _)) (HT.out.later (dO V.out _))).mono ?_;rintro e5 X ⟨rfl,b5,k5,aM,aJ,S5⟩;rw [<- l,<- v,<- H] at S5;have o:=hide S5;have BX:Hid (Below B w X):=(dO V.out _).trans b5;have ae:di W X:=(di.of_below (dO (Below.refl _ W) _)).trans k5;have KX:Hid (di w X):=KW.out.trans ae;have z0:=(ae.cell (j:=0) FX.out).trans x0;have z1:=(ae.cell (j:=1) FX.out).trans x1;have S:=hide (ae.rJ FX.out);obtain ⟨cb,aI,aj,O,aq,ap,ar,a⟩:=o.out.uZ f E;have aA:b.length <= 1600000000000:=by rw [l];simp;omega
  simp only [];rw [<- K];clear b5 k5 ae S5 x0 x1 y1 ad FX am V KW QE l v H K;subst aj;have y0:=(o.out.head 0 (by omega)).1;have y3:=(o.out.head 3 (by omega)).1;have y4:=(o.out.head 4 (by omega)).1;have g3:=(o.out.head 3 (by omega)).2;have g4:=(o.out.head 4 (by omega)).2;unfold iH at y0 y3 y4;have c4:=(a 4 (by omega)).1;have f4:=(a 4 (by omega)).2;simp only [kV,List.getElem?_cons_succ,List.getElem?_cons_zero] at c4;have I:=hide (o.out.Mh E ((b[f]'E).times + 1));rw [RX.out.1,RX.out.2] at I;generalize (b[f]'E).times=C at c4 tX I;have ah:sb < X.heap.size:=o.out.row.lt;have af:w.heap.size < X.heap.size:=block_lt_of_cell z0;have D:¬ cb=w.heap.size:=fun e=>by
   obtain ⟨y,t,e1,_,e3,_⟩:=S.out
   rcases o.out.cls.2 with ⟨e2,_⟩ | ⟨g',aP,aH,e2,_,M,_⟩
   ·cases e2
   ·cases e2;rw [e,e1] at M;cases M;exact e3 rfl
  have ac:(0:Int) <= (f:Int):=by omega
  have ab:(f:Int) < (b.length:Int):=by omega
  clear a;have B1:Hid (Below B w (X.setCell ⟨cb,f * 5 + 4,none⟩ (.int .i64 ((C:Int) + 1)))):=BX.out.setCell O _;have K1:Hid (di w (X.setCell ⟨cb,f * 5 + 4,none⟩ (.int .i64 ((C:Int) + 1)))):=KX.out.trans (o.out.qM _ _);rw [show ((C + 1:Nat):Int)=(C:Int) + 1 by omega] at I;have w0:(X.setCell ⟨cb,f * 5 + 4,none⟩ (.int .i64 ((C:Int) + 1))).cell? ⟨w.heap.size,0,none⟩=some (.int .u64 (s.1:Int)):=by rw [World.cell?_setCell_far _ _ _ _ (by simpa using D)];exact z0
  have Z:(X.setCell ⟨cb,f * 5 + 4,none⟩ (.int .i64 ((C:Int) + 1))).cell? ⟨w.heap.size,1,none⟩=some (.int .u64 (s.2:Int)):=by rw [World.cell?_setCell_far _ _ _ _ (by simpa using D)];exact z1
  go_wp2_with fail
  refine (lM s _ hs).mono ?_;obtain ⟨Y,hY⟩:∃ Y,Y=X.setCell ⟨cb,f * 5 + 4,none⟩ (.int .i64 ((C:Int) + 1)):=⟨_,rfl⟩;rw [<- hY] at I B1 K1 w0 Z ⊢;rintro e6 L ⟨rfl,m⟩;have z:=hide (I.out.later m);have B6:Hid (Below B w L):=B1.out.trans (m.mono I.out.bsize);have K6:Hid (di w L):=K1.out.trans (di.of_below m);have a0:=(m.cell (p:=⟨w.heap.size,0,none⟩) (block_lt_of_cell w0)).trans w0;have a1:=(m.cell (p:=⟨w.heap.size,1,none⟩) (block_lt_of_cell Z)).trans Z;have b3:=(z.out.head 3 (by omega)).1;have b4:=(z.out.head 4 (by omega)).1;have q3:=(z.out.head 3 (by omega)).2;have q4:=(z.out.head 4 (by omega)).2;unfold iH at b3 b4;clear hY m w0 Z z0 z1 y0 y3 y4 g3 g4 c4 f4 I B1 K1 o BX KX RX S D ah af ac ab E;obtain ⟨nz,G⟩:∃ n,n=s.size:=⟨_,rfl⟩;rw [<- G];simp only [];by_cases h1:nz=1
  ·have UP:Hid ((if s.size=1 then u.un s else u)=u.un s):=by unfold Hid;rw [if_pos (by omega)]
   have qu:=hide (fun W'=>gN u s W' hu hs);unfold dn at qu;have aB:w.heap.size < L.heap.size:=block_lt_of_cell a0;have q:sb < L.heap.size:=z.out.row.lt;subst h1;clear G;go_wp2;go_region_with (go_at_call 75;refine (qu.out _).mono ?_;rintro e7 w7 ⟨rfl,P⟩;have J:Hid (Below L.heap.size L w7):=bR.drew.trans P;have k3:=(J.out.cell (p:=⟨sb,3,none⟩) q).trans b3;have k4:=(J.out.cell (p:=⟨sb,4,none⟩) q).trans b4;have r3:=(J.out.frozen (p:=⟨sb,3,none⟩) q).trans q3;have r4:=(J.out.frozen (p:=⟨sb,4,none⟩) q).trans q4;clear P)
   all_goals
    have R:=z.out.later J.out;have S8:=hide (R.Mg (u.un s));have B8:Hid (Below B w ((w7.setCell ⟨sb,3,none⟩ (.int .u64 ((u.un s).1:Int))).setCell ⟨sb,4,none⟩ (.int .u64 ((u.un s).2:Int)))):=((B6.out.trans (J.out.mono z.out.bsize)).setCell R.jA _).setCell R.jA _;have K8:Hid (di w ((w7.setCell ⟨sb,3,none⟩ (.int .u64 ((u.un s).1:Int))).setCell ⟨sb,4,none⟩ (.int .u64 ((u.un s).2:Int)))):=(K6.out.trans (di.of_below J.out)).trans (R.oM _ _ _ _);clear R;go_wp2;go_end0;exact ⟨rfl,B8.out,K8.out,_,_,_,GX.out,by rw [UP.out];exact S8.out⟩
  ·have UP:Hid ((if s.size=1 then u.un s else u)=u):=by unfold Hid;rw [if_neg (by omega)]
   have hb:((nz:Int) == 1)=false:=by rw [beq_eq_false_iff_ne];omega
   clear G h1;go_wp2;go_end0;exact ⟨rfl,B6.out,K6.out,_,_,_,GX.out,by rw [UP.out];exact z.out⟩
 ·obtain ⟨hi,aO⟩:=mG hl;have aL:=hc i hl;subst aL;rw [hl] at ad;obtain ⟨b,l⟩:∃ x,x=Q:=⟨_,rfl⟩;obtain ⟨aa,v⟩:∃ x,x=wl:=⟨_,rfl⟩;obtain ⟨f,K⟩:∃ j,j=i:=⟨_,rfl⟩;have E:f < b.length:=by rw [l,K];exact hi
  have RX:Hid (iq b f ((b[f]'E).times + 1)=uy Q s/\aa=zN Q wl s):=by
   refine ⟨?_,by unfold zN;rw [hl];exact v⟩;rw [wY,l,K];unfold uy;rw [hl]
  have tX:(b[f]'E).times <= 6000000000000000000:=aN.out _ (by rw [<- l];exact List.getElem_mem E);have aA:b.length <= 1600000000000:=by rw [l];omega
  have SW:=am.out;rw [<- l,<- v] at SW;have ao:=hide SW;obtain ⟨r,au,aG,_,al,ak,_,N⟩:=SW.uZ f E;have t4:=(N 4 (by omega)).1;simp only [kV,List.getElem?_cons_succ,List.getElem?_cons_zero] at t4;have t2:=(SW.head 2 (by omega)).1;have q2:=(SW.head 2 (by omega)).2;unfold iH at t2;subst aG;rw [<- K] at ad;have ac:(0:Int) <= (f:Int):=by omega
  have ab:(f:Int) < (b.length:Int):=by omega
  have aT:sb < W.heap.size:=SW.row.lt;have aS:f < Q.length:=by omega
  have aR:(f:Int) < (Q.length:Int):=by omega
  clear hl hc an ag HS SW N K;obtain ⟨t0,aC⟩:∃ t,t=(b[f]'E).times:=⟨_,rfl⟩;rw [<- aC] at t4;clear aC;by_cases tz:t0=0
  ·have aw:((t0:Int) == 0)=true:=by rw [beq_iff_eq];omega
   go_quiet (fail)
   go_upto_region 6 with fail
   have SD:=ao.out.later (dO (Below.refl _ W) nq);have KD:di W (W.drewN nq):=di.of_below (dO (Below.refl _ W) _);obtain ⟨X,hX⟩:∃ X,X=(W.drewN nq).setCell ⟨sb,2,none⟩ (.int .i64 (d - 1)):=⟨_,rfl⟩;obtain ⟨gX,H⟩:∃ g,g=d - 1:=⟨_,rfl⟩;rw [<- hX];have GX:Hid (gX=d\/gX=d - 1):=.inr H;have o:Hid (eG B sb X (.slice (some ⟨r,0,none⟩) b.length au) mb gX u wv b aa):=by unfold Hid;rw [hX,H];exact SD.fu _
   have BX:Hid (Below B w X):=by unfold Hid;rw [hX];exact (dO V.out nq).setCell SD.jA _
   have kX:di W X:=by rw [hX];exact KD.trans (SD.qL _ _)
   have KX:Hid (di w X):=KW.out.trans kX;have z0:=(kX.cell (j:=0) FX.out).trans x0;have z1:=(kX.cell (j:=1) FX.out).trans x1;have S:=hide (kX.rJ FX.out);obtain ⟨cb,aI,aj,O,aq,ap,ar,a⟩:=o.out.uZ f E;clear SD KD hX kX x0 x1 y1 ad FX am V KW H tz aw t4 t2 q2 y0 ao al ak;subst l v;cases aj
   have y0:=(o.out.head 0 (by omega)).1;have y3:=(o.out.head 3 (by omega)).1;have y4:=(o.out.head 4 (by omega)).1;have g3:=(o.out.head 3 (by omega)).2;have g4:=(o.out.head 4 (by omega)).2;unfold iH at y0 y3 y4;have c4:=(a 4 (by omega)).1;have f4:=(a 4 (by omega)).2;simp only [kV,List.getElem?_cons_succ,List.getElem?_cons_zero] at c4;have I:=hide (o.out.Mh E ((b[f]'E).times + 1));rw [RX.out.1,RX.out.2] at I;generalize (b[f]'E).times=C at c4 tX I;have ah:sb < X.heap.size:=o.out.row.lt;have af:w.heap.size < X.heap.size:=block_lt_of_cell z0;have D:¬ r=w.heap.size:=fun e=>by
    obtain ⟨y,t,e1,_,e3,_⟩:=S.out
    rcases o.out.cls.2 with ⟨e2,_⟩ | ⟨g',az,aH,e2,_,M,_⟩
    ·cases e2
    ·cases e2;rw [e,e1] at M;cases M;exact e3 rfl
   have ac:(0:Int) <= (f:Int):=by omega
   have ab:(f:Int) < (b.length:Int):=by omega
   clear a;have B1:Hid (Below B w (X.setCell ⟨r,f * 5 + 4,none⟩ (.int .i64 ((C:Int) + 1)))):=BX.out.setCell O _;have K1:Hid (di w (X.setCell ⟨r,f * 5 + 4,none⟩ (.int .i64 ((C:Int) + 1)))):=KX.out.trans (o.out.qM _ _);rw [show ((C + 1:Nat):Int)=(C:Int) + 1 by omega] at I;have w0:(X.setCell ⟨r,f * 5 + 4,none⟩ (.int .i64 ((C:Int) + 1))).cell? ⟨w.heap.size,0,none⟩=some (.int .u64 (s.1:Int)):=by rw [World.cell?_setCell_far _ _ _ _ (by simpa using D)];exact z0
   have Z:(X.setCell ⟨r,f * 5 + 4,none⟩ (.int .i64 ((C:Int) + 1))).cell? ⟨w.heap.size,1,none⟩=some (.int .u64 (s.2:Int)):=by rw [World.cell?_setCell_far _ _ _ _ (by simpa using D)];exact z1
   go_wp2_with fail
   refine (lM s _ hs).mono ?_;obtain ⟨Y,hY⟩:∃ Y,Y=X.setCell ⟨r,f * 5 + 4,none⟩ (.int .i64 ((C:Int) + 1)):=⟨_,rfl⟩;rw [<- hY] at I B1 K1 w0 Z ⊢;rintro e6 L ⟨rfl,m⟩;have z:=hide (I.out.later m);have B6:Hid (Below B w L):=B1.out.trans (m.mono I.out.bsize);have K6:Hid (di w L):=K1.out.trans (di.of_below m);have a0:=(m.cell (p:=⟨w.heap.size,0,none⟩) (block_lt_of_cell w0)).trans w0;have a1:=(m.cell (p:=⟨w.heap.size,1,none⟩) (block_lt_of_cell Z)).trans Z;have b3:=(z.out.head 3 (by omega)).1;have b4:=(z.out.head 4 (by omega)).1;have q3:=(z.out.head 3 (by omega)).2;have q4:=(z.out.head 4 (by omega)).2;unfold iH at b3 b4;clear hY m w0 Z z0 z1 y0 y3 y4 g3 g4 c4 f4 I B1 K1 o BX KX RX S D ah af ac ab E;obtain ⟨nz,G⟩:∃ n,n=s.size:=⟨_,rfl⟩;rw [<- G];simp only [];by_cases h1:nz=1
   ·have UP:Hid ((if s.size=1 then u.un s else u)=u.un s):=by unfold Hid;rw [if_pos (by omega)]
    have qu:=hide (fun W'=>gN u s W' hu hs);unfold dn at qu;have aB:w.heap.size < L.heap.size:=block_lt_of_cell a0;have q:sb < L.heap.size:=z.out.row.lt;subst h1;clear G;go_wp2;go_region_with (go_at_call 75;refine (qu.out _).mono ?_;rintro e7 w7 ⟨rfl,P⟩;have J:Hid (Below L.heap.size L w7):=bR.drew.trans P;have k3:=(J.out.cell (p:=⟨sb,3,none⟩) q).trans b3;have k4:=(J.out.cell (p:=⟨sb,4,none⟩) q).trans b4;have r3:=(J.out.frozen (p:=⟨sb,3,none⟩) q).trans q3;have r4:=(J.out.frozen (p:=⟨sb,4,none⟩) q).trans q4;clear P)
    all_goals
     have R:=z.out.later J.out;have S8:=hide (R.Mg (u.un s));have B8:Hid (Below B w ((w7.setCell ⟨sb,3,none⟩ (.int .u64 ((u.un s).1:Int))).setCell ⟨sb,4,none⟩ (.int .u64 ((u.un s).2:Int)))):=((B6.out.trans (J.out.mono z.out.bsize)).setCell R.jA _).setCell R.jA _;have K8:Hid (di w ((w7.setCell ⟨sb,3,none⟩ (.int .u64 ((u.un s).1:Int))).setCell ⟨sb,4,none⟩ (.int .u64 ((u.un s).2:Int)))):=(K6.out.trans (di.of_below J.out)).trans (R.oM _ _ _ _);clear R;go_wp2;go_end0;exact ⟨rfl,B8.out,K8.out,_,_,_,GX.out,by rw [UP.out];exact S8.out⟩
   ·have UP:Hid ((if s.size=1 then u.un s else u)=u):=by unfold Hid;rw [if_neg (by omega)]
    have hb:((nz:Int) == 1)=false:=by rw [beq_eq_false_iff_ne];omega
    clear G h1;go_wp2;go_end0;exact ⟨rfl,B6.out,K6.out,_,_,_,GX.out,by rw [UP.out];exact z.out⟩
  ·have aw:((t0:Int) == 0)=false:=by rw [beq_eq_false_iff_ne];omega
   go_quiet (fail)
   go_upto_region 6 with fail
   have SD:=ao.out.later (dO (Below.refl _ W) nq);have KD:di W (W.drewN nq):=di.of_below (dO (Below.refl _ W) _);obtain ⟨X,hX⟩:∃ X,X=W.drewN nq:=⟨_,rfl⟩;obtain ⟨gX,H⟩:∃ g,g=d:=⟨_,rfl⟩;rw [<- hX];have GX:Hid (gX=d\/gX=d - 1):=.inl H;have o:Hid (eG B sb X (.slice (some ⟨r,0,none⟩) b.length au) mb gX u wv b aa):=by unfold Hid;rw [hX,H];exact SD
   have BX:Hid (Below B w X):=by unfold Hid;rw [hX];exact dO V.out nq
   have kX:di W X:=by rw [hX];exact KD
   have KX:Hid (di w X):=KW.out.trans kX;have z0:=(kX.cell (j:=0) FX.out).trans x0;have z1:=(kX.cell (j:=1) FX.out).trans x1;have S:=hide (kX.rJ FX.out);obtain ⟨cb,aI,aj,O,aq,ap,ar,a⟩:=o.out.uZ f E;clear SD KD hX kX x0 x1 y1 ad FX am V KW H tz aw t4 t2 q2 y0 ao al ak;subst l v;cases aj
   have y0:=(o.out.head 0 (by omega)).1;have y3:=(o.out.head 3 (by omega)).1;have y4:=(o.out.head 4 (by omega)).1;have g3:=(o.out.head 3 (by omega)).2;have g4:=(o.out.head 4 (by omega)).2;unfold iH at y0 y3 y4;have c4:=(a 4 (by omega)).1;have f4:=(a 4 (by omega)).2;simp only [kV,List.getElem?_cons_succ,List.getElem?_cons_zero] at c4;have I:=hide (o.out.Mh E ((b[f]'E).times + 1));rw [RX.out.1,RX.out.2] at I;generalize (b[f]'E).times=C at c4 tX I;have ah:sb < X.heap.size:=o.out.row.lt;have af:w.heap.size < X.heap.size:=block_lt_of_cell z0;have D:¬ r=w.heap.size:=fun e=>by
    obtain ⟨y,t,e1,_,e3,_⟩:=S.out
    rcases o.out.cls.2 with ⟨e2,_⟩ | ⟨g',az,aH,e2,_,M,_⟩
    ·cases e2
    ·cases e2;rw [e,e1] at M;cases M;exact e3 rfl
   have ac:(0:Int) <= (f:Int):=by omega
   have ab:(f:Int) < (b.length:Int):=by omega
   clear a;have B1:Hid (Below B w (X.setCell ⟨r,f * 5 + 4,none⟩ (.int .i64 ((C:Int) + 1)))):=BX.out.setCell O _;have K1:Hid (di w (X.setCell ⟨r,f * 5 + 4,none⟩ (.int .i64 ((C:Int) + 1)))):=KX.out.trans (o.out.qM _ _);rw [show ((C + 1:Nat):Int)=(C:Int) + 1 by omega] at I;have w0:(X.setCell ⟨r,f * 5 + 4,none⟩ (.int .i64 ((C:Int) + 1))).cell? ⟨w.heap.size,0,none⟩=some (.int .u64 (s.1:Int)):=by rw [World.cell?_setCell_far _ _ _ _ (by simpa using D)];exact z0
   have Z:(X.setCell ⟨r,f * 5 + 4,none⟩ (.int .i64 ((C:Int) + 1))).cell? ⟨w.heap.size,1,none⟩=some (.int .u64 (s.2:Int)):=by rw [World.cell?_setCell_far _ _ _ _ (by simpa using D)];exact z1
   go_wp2_with fail
   refine (lM s _ hs).mono ?_;obtain ⟨Y,hY⟩:∃ Y,Y=X.setCell ⟨r,f * 5 + 4,none⟩ (.int .i64 ((C:Int) + 1)):=⟨_,rfl⟩;rw [<- hY] at I B1 K1 w0 Z ⊢;rintro e6 L ⟨rfl,m⟩;have z:=hide (I.out.later m);have B6:Hid (Below B w L):=B1.out.trans (m.mono I.out.bsize);have K6:Hid (di w L):=K1.out.trans (di.of_below m);have a0:=(m.cell (p:=⟨w.heap.size,0,none⟩) (block_lt_of_cell w0)).trans w0;have a1:=(m.cell (p:=⟨w.heap.size,1,none⟩) (block_lt_of_cell Z)).trans Z;have b3:=(z.out.head 3 (by omega)).1;have b4:=(z.out.head 4 (by omega)).1;have q3:=(z.out.head 3 (by omega)).2;have q4:=(z.out.head 4 (by omega)).2;unfold iH at b3 b4;clear hY m w0 Z z0 z1 y0 y3 y4 g3 g4 c4 f4 I B1 K1 o BX KX RX S D ah af ac ab E;obtain ⟨nz,G⟩:∃ n,n=s.size:=⟨_,rfl⟩;rw [<- G];simp only [];by_cases h1:nz=1
   ·have UP:Hid ((if s.size=1 then u.un s else u)=u.un s):=by unfold Hid;rw [if_pos (by omega)]
    have qu:=hide (fun W'=>gN u s W' hu hs);unfold dn at qu;have aB:w.heap.size < L.heap.size:=block_lt_of_cell a0;have q:sb < L.heap.size:=z.out.row.lt;subst h1;clear G;go_wp2;go_region_with (go_at_call 75;refine (qu.out _).mono ?_;rintro e7 w7 ⟨rfl,P⟩;have J:Hid (Below L.heap.size L w7):=bR.drew.trans P;have k3:=(J.out.cell (p:=⟨sb,3,none⟩) q).trans b3;have k4:=(J.out.cell (p:=⟨sb,4,none⟩) q).trans b4;have r3:=(J.out.frozen (p:=⟨sb,3,none⟩) q).trans q3;have r4:=(J.out.frozen (p:=⟨sb,4,none⟩) q).trans q4;clear P)
    all_goals
     have R:=z.out.later J.out;have S8:=hide (R.Mg (u.un s));have B8:Hid (Below B w ((w7.setCell ⟨sb,3,none⟩ (.int .u64 ((u.un s).1:Int))).setCell ⟨sb,4,none⟩ (.int .u64 ((u.un s).2:Int)))):=((B6.out.trans (J.out.mono z.out.bsize)).setCell R.jA _).setCell R.jA _;have K8:Hid (di w ((w7.setCell ⟨sb,3,none⟩ (.int .u64 ((u.un s).1:Int))).setCell ⟨sb,4,none⟩ (.int .u64 ((u.un s).2:Int)))):=(K6.out.trans (di.of_below J.out)).trans (R.oM _ _ _ _);clear R;go_wp2;go_end0;exact ⟨rfl,B8.out,K8.out,_,_,_,GX.out,by rw [UP.out];exact S8.out⟩
   ·have UP:Hid ((if s.size=1 then u.un s else u)=u):=by unfold Hid;rw [if_neg (by omega)]
    have hb:((nz:Int) == 1)=false:=by rw [beq_eq_false_iff_ne];omega
    clear G h1;go_wp2;go_end0;exact ⟨rfl,B6.out,K6.out,_,_,_,GX.out,by rw [UP.out];exact z.out⟩
end
section
attribute [local go_sem ↓] Go.wp_at_zero Go.wp_at_succ
def there (es:List dH) (s:Key):Bool:=match look es s with
 | none=>false
 | some i=>match es[i]? with
  | none=>false
  | some e=>decide (0 < e.times)
theorem CG {B sb n:Nat} {cv:Value} {h:Int} {u:Key} {r:Nat->Value} {d:List dH} {wl:Nat->List Nat} (w:World) (o:d.length <= 1600000000000)
  (g:eG B sb w cv n h u r d wl):
  Calls Tryz.prog 116 #[.pointer (some ⟨sb,0,none⟩)] w fun e s=>e=.returned (.bool (there d (0,0)))/\Below w.heap.size w s:=by
 have v:=(g.head 0 (by omega)).1;have t:=(g.head 1 (by omega)).1;unfold iH at v t;obtain ⟨c,m,b⟩:=g.map.lookup (k:=(0,0)) kG;unfold dn at b;have f:(Instr.lookup 130 (.map (some n)) (.agg #[.int .u64 0,.int .u64 0]) true).run Tryz.prog w=.ok (.tuple #[.int .i64 c,.bool (look d (0,0)).isSome]) w:=b w rfl;have y:=hide g;clear b g
 rcases hl:look d (0,0) with _ | i
 ·have E:Hid (there d (0,0)=false):=by unfold Hid there;rw [hl]
  rw [hl] at f;clear hl m;go_enter Tryz.func116,Tryz.ntmps116
  go_wp2;go_ret
  exact ⟨fH E.out.symm,bR⟩
 ·obtain ⟨p,_⟩:=mG hl;have l:=m i hl;subst l;obtain ⟨G,x,j,_,_,_,_,a⟩:=y.out.uZ i p;subst j;have q:=(a 4 (by omega)).1;simp only [kV,List.getElem?_cons_succ,List.getElem?_cons_zero] at q;have E:Hid (there d (0,0)=decide (0 < (d[i]).times)):=by unfold Hid there;rw [hl];simp only [List.getElem?_eq_getElem p]
  rw [hl] at f;have D:(0:Int) <= (i:Int):=by omega
  have C:(i:Int) < (d.length:Int):=by omega
  generalize (d[i]).times=z at q E;clear hl m a;go_enter Tryz.func116,Tryz.ntmps116
  go_wp2;go_ret
  exact ⟨fH (by rw [E.out]),bR⟩
end
end
section
open Go Go.RowKit Go.Deep
def vN (x y:Value) (j:Nat):Value:=if j=0 then x else y
theorem fK (w:World) (x y:Value) (t:TypeId):(w.alloc (.cells #[x,y] t)).rowIs w.heap.size t 2 (vN x y):=
 ⟨_,blk_alloc_new _ _,rfl,fun i a=>by match i,a with | 0,_=>rfl | 1,_=>rfl⟩
theorem mP (w:World) (o:Obj) (x y:Value) (t:TypeId):((w.alloc o).alloc (.cells #[x,y] t)).rowIs (w.heap.size + 1) t 2 (vN x y):=by
 have:=fK (w.alloc o) x y t;simpa using this
theorem iE {a b:Int} (h:a=b):Value.int .i64 a=.int .i64 b:=by rw [h]
section
attribute [local go_sem ↓] Go.wp_at_zero Go.wp_at_succ
def fU (s:Key):Nat->Value:=vN (.int .u64 (s.1:Int)) (.int .u64 (s.2:Int))
structure FY (H:Nat) (w:World) (s:Key) (wr:World):Prop where
 res:wr.rowIs H 84 2 (fU (0,0))
 cur:wr.rowIs (H + 1) 84 2 (fU s)
 below:Below H w wr
 hs:H + 2 <= wr.heap.size
def TV (H:Nat) (w:World) (xs:List Int) (i:Value) (wr:World):Prop:=∃ k:Nat,k <= xs.length/\i=.int .i64 k/\Hid (FY H w (setOf (xs.take k)) wr)
theorem FY.put {H:Nat} {w wr b:World} {s t:Key} (h:FY H w s wr) (a:Below wr.heap.size wr b):FY H w t ((b.setCell ⟨H + 1,0,none⟩ (.int .u64 (t.1:Int))).setCell ⟨H + 1,1,none⟩ (.int .u64 (t.2:Int))) where
 res:=((h.res.of_block (a.block _ (by have:=h.hs;omega))).setOther (by simp) _).setOther (by simp) _
 cur:=(((h.cur.of_block (a.block _ (by have:=h.hs;omega))).set 0 _).set 1 _).congr fun i c=>by
  match i,c with
  | 0,_=>rfl
  | 1,_=>rfl
 below:=((h.below.trans (a.mono (by have:=h.hs;omega))).setCell (by simp) _).setCell (by simp) _
 hs:=by have:=h.hs;have:=a.size;simp [World.setCell];omega
theorem Ah (b:List Int) (v:Value) (w:World) (hv:Jt w v b) (O:∀ l ∈ b,dV l) (N:b.length <= 1500000000000):
  Calls Tryz.prog 69 #[v] w fun e V=>e=.returned (dn (setOf b))/\Below w.heap.size w V:=by
 obtain ⟨ua,uc,C,rfl,q,c⟩:=hv;have Q:=hide c;have K:=hide q;have R:=hide O;clear c q O;go_enter Tryz.func69,Tryz.ntmps69
 go_wp2;obtain ⟨W,I⟩:∃ W,W=(w.alloc (.cells #[.int .u64 0,.int .u64 0] 84)).alloc (.cells #[.int .u64 0,.int .u64 0] 84):=⟨_,rfl⟩
 rw [<- I];have P:Hid (FY w.heap.size w (0,0) W):=by
  unfold Hid;rw [I];exact ⟨(fK w _ _ _).alloc _,mP w _ _ _ _,qU bR lr _ _,by simp⟩
 clear I;go_loopw [8] (fun i wr=>TV w.heap.size w b i wr) (fun i _=>b.length - (intOf i).toNat)
 case atStart=>exact ⟨0,zl,rfl,P⟩
 case round=>
  clear P;obtain ⟨k,hk,rfl,a⟩:=hrel;have n:=a.out.cur.cell (i:=0) (by omega);have m:=a.out.cur.cell (i:=1) (by omega);have f0:=a.out.cur.frozen 0;have f1:=a.out.cur.frozen 1;have G:=a.out.res.cell (i:=0) (by omega);have E:=a.out.res.cell (i:=1) (by omega);have g0:=a.out.res.frozen 0;have g1:=a.out.res.frozen 1;unfold fU vN at n m G E;simp only [if_true,show ¬ (1=0) by decide,if_false] at n m G E;have hh:=a.out.hs;have lit:∀ l ∈ b.take k,dV l:=fun l h=>R.out l (List.mem_of_mem_take h)
  have ok:=xC lit;clear lit;by_cases f:k < b.length
  ·have g:=Q.out k f;have Z:=K.out (by omega);subst Z;have s:wr.cell? ⟨C,k,none⟩=some (.int .i64 (b.getD k 0)):=by rw [a.out.below.cell (p:=⟨C,k,none⟩) (block_lt_of_cell g)];exact g
   have T:Hid (setOf (b.take (k + 1))=(setOf (b.take k)).un (single (b.getD k 0))):=by
    unfold Hid;rw [List.take_succ_eq_append_getElem f,setOf_snoc];simp [List.getD_eq_getElem?_getD,f]
   have z:dV (b.getD k 0):=R.out _ (by simp [List.getD_eq_getElem?_getD,f]);clear g;generalize b.getD k 0=x at s T z;have H:=hide (fun J=>xA x J z);have o:=hide (fun J=>gN (setOf (b.take k)) (single x) J ok (fE z));rw [<- T.out] at o;unfold dn at H o;have X:C < w.heap.size:=block_lt_of_cell (Q.out k f);generalize single x=sx at H o T;generalize d:setOf (b.take k)=D at n m o a ok T;generalize r:setOf (b.take (k + 1))=Y at o T;have L:=hide r;clear ok z T d r;go_wp2;go_region_with (first
    |(go_at_call 73;refine (H.out _).mono ?_;rintro e6 U ⟨rfl,j⟩;have B:Hid (Below wr.heap.size wr U):=bR.drew.trans j;have d0:=(B.out.cell (p:=⟨w.heap.size + 1,0,none⟩) (by simp;omega)).trans n;have d1:=(B.out.cell (p:=⟨w.heap.size + 1,1,none⟩) (by simp;omega)).trans m;have s6:=j.size;clear j)
    |(go_at_call 75;refine (o.out _).mono ?_;rintro e7 S ⟨rfl,u⟩;have y:Hid (Below wr.heap.size wr S):=B.out.trans (u.mono B.out.size);have e0:=(y.out.cell (p:=⟨w.heap.size + 1,0,none⟩) (by simp;omega)).trans n;have e1:=(y.out.cell (p:=⟨w.heap.size + 1,1,none⟩) (by simp;omega)).trans m;have e2:=(y.out.frozen (p:=⟨w.heap.size + 1,0,none⟩) (by simp;omega)).trans f0;have e3:=(y.out.frozen (p:=⟨w.heap.size + 1,1,none⟩) (by simp;omega)).trans f1;clear u))
   all_goals
    have SN:=hide (a.out.put (t:=Y) y.out);go_wp2;go_roundw
    case rel=>exact ⟨k + 1,by omega,iE (by omega),by rw [L.out];exact SN⟩
    case measure=>simp [intOf];omega
  ·have e:k=b.length:=by omega
   subst e;rw [List.take_of_length_le lr] at a n m;obtain ⟨D,d⟩:∃ x,x=setOf b:=⟨_,rfl⟩;rw [<- d] at a n m;have M:=hide d;clear d ok;go_wp2;refine bodyPost_ret (v:=.agg #[.int .u64 (D.1:Int),.int .u64 (D.2:Int)]) (by simp [results,Tryz.results69,go_sem,G,E]) rfl ⟨by rw [<- M.out];rfl,?_⟩;exact ((a.out.below.setCell (by simp) _).setCell (by simp) _)
end
end
end Rd
end Go.Proofs.YtceahffmenbibaaGreatDoor
