/- Prbo. -/
import Derived.Test.YtceahffmenbibaaGreatDoorJ20
import Derived.Test.YtceahffmenbibaaGreatDoorJ21
import Derived.Deep.CutRange
set_option linter.unusedVariables false
set_option linter.unusedSimpArgs false
set_option maxHeartbeats 4000000
set_option maxRecDepth 100000
namespace Go.Proofs.YtceahffmenbibaaGreatDoor
namespace Rd
section
open Go Go.RowKit Go.Deep
section
attribute [local go_sem ↓] Go.wp_at_zero Go.wp_at_succ
structure eX (B sb:Nat) (W:World) (cv:Value) (mb:Nat) (gone:Int) (u:Key) (wv:Nat->Value) (es:List dH) (wl:Nat->List Nat) (wr:World):Prop where
 fA:eG B sb wr cv mb gone u wv es wl
 below:Below B W wr
 keeps:di W wr
 tab:jJ B wr
 bw:B <= W.heap.size
section
variable {B sb mb:Nat} {W wr ws:World} {cv cv':Value} {gone fu:Int} {u u':Key} {wv wv':Nat->Value} {es es':List dH} {wl jU:Nat->List Nat}
theorem eX.start (h:eG B sb W cv mb gone u wv es wl) (a:jJ B W):eX B sb W cv mb gone u wv es wl W:=⟨h,bR,di.refl _,a,h.bsize⟩
theorem eX.step {a:Nat} (h:eX B sb W cv mb gone u wv es wl wr) (S:eG B sb ws cv' a fu u' wv' es' jU) (k:di wr ws) (b:Below B wr ws):eX B sb W cv' a fu u' wv' es' jU ws:=
 ⟨S,h.below.trans b,h.keeps.trans k,h.tab.later b,h.bw⟩
theorem eX.later (h:eX B sb W cv mb gone u wv es wl wr) (a:Below wr.heap.size wr ws):eX B sb W cv mb gone u wv es wl ws:=
 h.step (h.fA.later a) (di.of_below a) (a.mono h.fA.bsize)
theorem eX.row {b:Nat} {s:Key} (h:eX B sb W cv mb gone u wv es wl wr) (a:W.rowIs b 84 2 (fU s)):Hid (wr.rowIs b 84 2 (fU s)):=a.of_block (h.keeps _ (gu a))
theorem eX.put {b:Nat} {s:Key} (h:eX B sb W cv mb gone u wv es wl wr) (c:W.heap.size <= b) (a:wr.rowIs b 84 2 (fU s)) (t:Key):eX B sb W cv mb gone u wv es wl ((wr.setCell ⟨b,0,none⟩ (.int .u64 (t.1:Int))).setCell ⟨b,1,none⟩ (.int .u64 (t.2:Int))) where
 fA:=lK h.fA a dY
 below:=(h.below.setCell (by have:=h.bw;simp;omega) _).setCell (by have:=h.bw;simp;omega) _
 keeps:=oN h.keeps c
 tab:=h.tab.later ((bR.setCell (by have:=h.bw;simp;omega) _).setCell (by have:=h.bw;simp;omega) _)
 bw:=h.bw
end
theorem tT {es es':List dH} (h:sigs es'=sigs es) (c:mh es):mh es':=fun e d b=>by
 obtain ⟨i,a,g,f⟩:=jW h d;rw [<- g];exact c i a (by rw [f];exact b)
theorem Cq (s:Key) {l:Int} (a:l ≠ 0):nO s (single l)=s.has l:=by
 cases e:s.has l with
 | true=>exact (rz _ _).2 ⟨l,e,by rw [df a];simp⟩
 | false=>
  rw [<- Bool.not_eq_true,rz];rintro ⟨x,c,b⟩;rw [df a] at b;rw [of_decide_eq_true b,e] at c;cases c
def TZ (B sb:Nat) (W:World) (cv:Value) (mb:Nat) (gone:Int) (u:Key) (es:List dH) (d:Key) (l:Int) (i16:Value) (wr:World):Prop:=
 ∃ (i:Nat) (wv':Nat->Value) (es':List dH) (jU:Nat->List Nat),i16=.int .i64 i/\i <= es.length/\Hid (eX B sb W cv mb gone u wv' es' jU wr)/\Hid (sigs es'=sigs es/\eU es' jU/\Rest es' d/\∀ j (h:j < es.length),j < i->nD es d l es[j])
def Ij (B sb:Nat) (W:World) (cv:Value) (mb:Nat) (gone:Int) (u:Key) (es':List dH) (d laid:Key) (i:Nat) (c i16:Value) (wx:World):Prop:=
 ∃ (cf:Bool) (dd:Key) (wv2:Nat->Value) (es2:List dH) (Uv:Nat->List Nat),c=.bool cf/\i16=.int .i64 i/\Hid (eX B sb W cv mb gone u wv2 es2 Uv wx/\fo es' es2 d laid dd cf/\eU es2 Uv)
theorem PN {B sb mb:Nat} {W g:World} {cv:Value} {gone:Int} {u:Key} {e:Nat->Value} {es' a:List dH} {c:Nat->List Nat} {d b j:Key} {i:Nat} {f:Bool} (h:eX B sb W cv mb gone u e a c g) (l:fo es' a d b j f) (k:eU a c) (o:Obj):
  Ij B sb W cv mb gone u es' d b i (.bool f) (.int .i64 i) (g.alloc o):=⟨f,j,e,a,c,rfl,rfl,h.later (bR.alloc lr _),l,k⟩
theorem PM {B sb mb g:Nat} {W j:World} {cv:Value} {gone:Int} {u:Key} {e:Nat->Value} {es' a:List dH} {c:Nat->List Nat} {d b f:Key} {i:Nat} {k:Bool} (h:eX B sb W cv mb gone u e a c j) (n:j.rowIs g 84 2 (fU (0,0))) (l:W.heap.size <= g) (o:fo es' a d b f k) (m:eU a c):
  Ij B sb W cv mb gone u es' d b i (.bool k) (.int .i64 i) ((j.setCell ⟨g,0,none⟩ (.int .u64 (f.1:Int))).setCell ⟨g,1,none⟩ (.int .u64 (f.2:Int))):=⟨k,f,e,a,c,rfl,rfl,h.put l n f,o,m⟩
def TY (B sb:Nat) (w:World) (cv:Value) (mb:Nat) (gone:Int) (u:Key) (es:List dH) (d:Key) (l:Int) (e:Ending) (w':World):Prop:=
 ∃ (b:Bool) (wv':Nat->Value) (es':List dH) (jU:Nat->List Nat),e=.returned (.bool b)/\Below B w w'/\di w w'/\eG B sb w' cv mb gone u wv' es' jU/\sigs es'=sigs es/\eU es' jU/\(b=true↔∀ e ∈ es,nD es d l e)
theorem tL {B sb mb:Nat} {cv:Value} {gone:Int} {u:Key} {wv:Nat->Value} {es:List dH} {wl:Nat->List Nat} (d:Key) (l:Int) (w:World) (hd:d.ok) (il:dV l) (ad:es.length <= 1600000000000)
  (hS:eG B sb w cv mb gone u wv es wl) (hT:jJ B w) (hW:eU es wl) (hr:Rest es d) (hU:qc es u) (hn:mh es) (hu:∀ x,u.has x=true->d.has x=true):
  Calls Tryz.prog 119 #[.pointer (some ⟨sb,0,none⟩),dn d,dn (single (-l))] w fun e v=>TY B sb w cv mb gone u es d l e v:=by
 obtain ⟨a,C,am⟩:=mQ hS.cls;subst am;have HU:=hide hU;have HN:=hide hn;have ao:=hide hu;have ab:=AR il;have aj:=hide ad;obtain ⟨k,H⟩:∃ s,single (-l)=s:=⟨_,rfl⟩;have J:k.ok:=by rw [<- H];exact fE ab
 have ai:=hide H;have R0:Hid (eG B sb w (.slice a es.length C) mb gone u wv es wl):=hS;have ah:=hide hT;have G0:Hid (eU es wl/\Rest es d):=⟨hW,hr⟩;have an:=hS.row.lt;have y0:=(hS.head 0 (by omega)).1;unfold iH at y0;rw [H];unfold dn;clear hS hT hW hr hU hn hu H;go_enter Tryz.func119,Tryz.ntmps119
 go_upto_region 1 with fail
 obtain ⟨W,z⟩:∃ W,W=(w.alloc (.cells #[.int .u64 (d.1:Int),.int .u64 (d.2:Int)] 84)).alloc (.cells #[.int .u64 (k.1:Int),.int .u64 (k.2:Int)] 84):=⟨_,rfl⟩;have BW:Hid (Below w.heap.size w W):=by rw [z];exact qU bR lr _ _
 have RD:Hid (W.rowIs w.heap.size 84 2 (fU d)):=by rw [z];exact (fK w _ _ _).alloc _
 have RL:Hid (W.rowIs (w.heap.size + 1) 84 2 (fU k)):=by rw [z];exact mP w _ _ _ _
 have y1:=(BW.out.cell (p:=⟨sb,0,none⟩) an).trans y0;rw [<- z];clear z y0;have M0:Hid (eX B sb W (.slice a es.length C) mb gone u wv es wl W):=eX.start (R0.out.later BW.out) (ah.out.later (BW.out.mono R0.out.bsize));have ak:Hid (Below B w W):=BW.out.mono R0.out.bsize;have ag:Hid (di w W):=di.of_below BW.out;clear R0 ah BW;go_wp2;go_loopw [16] (fun i wr=>TZ B sb W (.slice a es.length C) mb gone u es d l i wr) (fun i _=>es.length - (intOf i).toNat)
 case atStart=>exact ⟨0,_,_,_,rfl,zl,M0,rfl,G0.out.1,G0.out.2,fun j _ h=>absurd h (Nat.not_lt_zero _)⟩
 case round=>
  clear M0 G0 y1;obtain ⟨i,wv',es',jU,rfl,az,M,G⟩:=hrel;have I:es'.length=es.length:=lN G.out.1;by_cases ac:i < es.length
  ·have ae:i < es'.length:=by omega
   obtain ⟨cb,av,af,ar,aq,ap,au,b⟩:=M.out.fA.uZ i ae;obtain ⟨q1,q2,q3⟩:=Value.slice.inj af;subst q1 q3;clear q2;have c0:=(b 0 (by omega)).1;have c1:=(b 1 (by omega)).1;have c2:=(b 2 (by omega)).1;have c3:=(b 3 (by omega)).1;have c4:=(b 4 (by omega)).1;simp only [kV,List.getElem?_cons_succ,List.getElem?_cons_zero] at c0 c1 c2 c3 c4;have c0:wr.cell? ⟨cb,i * 5,none⟩=some (.int .u64 ((es'[i]).set.1:Int)):=c0;obtain ⟨g1,g2⟩:=xB G.out.1 ac ae;have O:(es'[i]).set.ok:=G.out.2.1.ok _ (List.getElem_mem _);have G1:Hid ((es[i]).set=(es'[i]).set/\(es[i]).times=(es'[i]).times):=⟨g1.symm,g2.symm⟩;generalize (es'[i]).set=s at *
   generalize (es'[i]).watched=wk at *
   generalize (es'[i]).times=t at *
   clear b g1 g2 af;have ax:(0:Int) <= (i:Int):=by omega
   have aw:(i:Int) < (es.length:Int):=by omega
   go_upto_region 4 with fail
   have MX:=hide (M.out.later ((Below.refl _ wr).alloc lr (.cells #[.int .u64 (s.1:Int),.int .u64 (s.2:Int),.int .u64 (wk.1:Int),.int .u64 (wk.2:Int),.int .i64 (t:Int)] 180)));obtain ⟨X,Y⟩:∃ X,X=wr.alloc (.cells #[.int .u64 (s.1:Int),.int .u64 (s.2:Int),.int .u64 (wk.1:Int),.int .u64 (wk.2:Int),.int .i64 (t:Int)] 180):=⟨_,rfl⟩;have k0:X.cell? ⟨wr.heap.size,0,none⟩=some (.int .u64 (s.1:Int)):=by rw [Y];simp
   have k1:X.cell? ⟨wr.heap.size,1,none⟩=some (.int .u64 (s.2:Int)):=by rw [Y];simp
   have k4:X.cell? ⟨wr.heap.size,4,none⟩=some (.int .i64 (t:Int)):=by rw [Y];simp
   have sX:wr.heap.size < X.heap.size:=by rw [Y];simp
   rw [<- Y] at MX ⊢;clear Y c0 c1 c2 c3 c4 M;generalize wr.heap.size=kb at k0 k1 k4 sX ⊢;have R:Hid (nD es d l es[i]->∀ j (h:j < es.length),j < i + 1->nD es d l es[j]):=fun h0 j hj ay=>by
    rcases Nat.lt_or_ge j i with P | P
    ·exact G.out.2.2.2 j hj P
    ·have:j=i:=by omega
     subst this;exact h0
   by_cases ht:t=0
   ·subst ht;have RO:Hid (nD es d l es[i]):=fun h=>by rw [G1.out.2] at h;omega
    go_wp2;go_roundw
    case rel=>exact ⟨i + 1,wv',es',jU,iE (by omega),by omega,MX,G.out.1,G.out.2.1,G.out.2.2.1,R.out RO.out⟩
    case measure=>simp [intOf];omega
   ·obtain ⟨t',rfl⟩:∃ t',t=t' + 1:=⟨t - 1,by omega⟩;have tb:(((t' + 1:Nat):Int) == 0)=false:=by simp;omega
    have QM:Hid (∀ V,Calls Tryz.prog 168 #[dn s,dn k] V fun e v=>e=.returned (.bool (nO s k))/\Below V.heap.size V v):=fun V=>oJ s k V O J
    unfold dn at QM;have HM:Hid (nO s k=s.has (-l)):=by unfold Hid;rw [<- ai.out];exact Cq s (dw ab)
    generalize hm:nO s k=m at QM HM;clear hm;obtain ⟨l0,l1,_,_⟩:=cZ (MX.out.row RL.out);go_wp2_with fail
    with_reducible refine (QM.out _).mono ?_
    rintro e6 o ⟨rfl,y⟩;simp only [];have S:=hide (MX.out.later y);have x0:=(y.cell (p:=⟨kb,0,none⟩) sX).trans k0;have x1:=(y.cell (p:=⟨kb,1,none⟩) sX).trans k1;have s6:kb < o.heap.size:=by have:=y.size;omega
    clear y k0 k1 k4 l0 l1 MX QM
    cases m with
    | false=>
     have RO:Hid (nD es d l es[i]):=fun _ h=>by rw [G1.out.1,<- HM.out] at h;cases h
     go_wp2;go_roundw
     case rel=>exact ⟨i + 1,wv',es',jU,iE (by omega),by omega,S,G.out.1,G.out.2.1,G.out.2.2.1,R.out RO.out⟩
     case measure=>simp [intOf];omega
    | true=>
     have Ll:(s.wo k).ok:=qi O _;have Q1:Hid (∀ V,Calls Tryz.prog 114 #[dn s,dn k] V fun e v=>e=.returned (dn (s.wo k))/\Below V.heap.size V v):=fun V=>iK s k V O J
     have Q2:Hid (∀ V,Calls Tryz.prog 118 #[dn (s.wo k)] V fun e v=>e=.returned (dn (s.wo k).op)/\Below V.heap.size V v):=fun V=>jE (s.wo k) V
     have Q3:Hid (∀ V,Below o.heap.size o V->Calls Tryz.prog 117 #[.pointer (some ⟨sb,0,none⟩),dn d,dn (s.wo k).op] V fun e v=>∃ (Z:Key) (Q:Bool) (r:Nat->Value) (g:List dH) (q:Nat->List Nat),e=.returned (.tuple #[dn Z,.bool Q])/\Hid (eX B sb W (.slice (some ⟨cb,0,none⟩) es.length C) mb gone u r g q v/\di V v/\fo es' g d (s.wo k).op Z Q/\eU g q)):=fun V hV=>by
      have MV:=S.out.later hV;with_reducible refine (pq d (s.wo k).op V hd (IM Ll) (by rw [I];exact aj.out) MV.fA MV.tab G.out.2.1 G.out.2.2.1).mono ?_
      rintro e v ⟨Z,Q,r,g,q,P,h2,h3,h4,h5,h6,_⟩;exact ⟨Z,Q,r,g,q,P,MV.step h4 h3 h2,h3,h5,h6⟩
     have HO:Hid ((s.wo (single (-l))).op=(s.wo k).op):=by rw [ai.out];exact rfl
     unfold dn at Q1 Q2 Q3;generalize (s.wo k).op=aa at Q2 Q3 HO;generalize s.wo k=s1 at Q1 Q2 Ll;obtain ⟨d0,d1,_,_⟩:=cZ (S.out.row RD.out);obtain ⟨l0,l1,_,_⟩:=cZ (S.out.row RL.out);have lD:=(jd (S.out.row RD.out)).lt;have lL:=(jd (S.out.row RL.out)).lt;have WW:W.heap.size <= o.heap.size:=S.out.below.size;have KS:Hid (∀ V,Below o.heap.size o V->(V.cell? ⟨w.heap.size,0,none⟩=some (.int .u64 (d.1:Int))/\V.cell? ⟨w.heap.size,1,none⟩=some (.int .u64 (d.2:Int)))/\w.heap.size < V.heap.size):=fun V h=>
      ⟨⟨(h.cell (p:=⟨w.heap.size,0,none⟩) lD).trans d0,(h.cell (p:=⟨w.heap.size,1,none⟩) lD).trans d1⟩,by have:=h.size;omega⟩
     go_upto_region 5 with fail
     go_cut [9,10,16] from 16 to 43 (fun _ c al wx=>Ij B sb W (.slice (some ⟨cb,0,none⟩) es.length C) mb gone u es' d aa i c al wx)
     case first=>
      have n1:¬ (w.heap.size=o.heap.size):=by omega
      have n2:¬ (w.heap.size + 1=o.heap.size):=by omega
      have n3:¬ (kb=o.heap.size):=by omega
      have n4:¬ (o.heap.size=w.heap.size):=by omega
      have n5:¬ (o.heap.size=w.heap.size + 1):=by omega
      have n6:¬ (o.heap.size=kb):=by omega
      go_region_with (first
       |(go_at_call 114;refine (Q1.out _).mono ?_;rintro e7 w7 ⟨rfl,n⟩;have N:Hid (Below o.heap.size o w7):=(by first | exact n | exact bR.drew.trans n | exact (bR.drew.alloc lr _).drew.trans (n.mono (by simp)) | exact (bR.alloc lr _).drew.trans (n.mono (by simp)) | exact (bR.alloc lr _).trans (n.mono (by simp)) | exact (bR.drew.alloc lr _).trans (n.mono (by simp)));obtain ⟨⟨m0,m1⟩,m2⟩:=KS.out w7 N.out;have U:o.heap.size <= w7.heap.size:=N.out.size;have n7:¬ (w.heap.size=w7.heap.size):=(by omega);(first | (have N7:=(by with_reducible exact pz n)) | (have N7:=(by with_reducible exact oG n)) | skip);clear n;simp only [])
       |(go_at_call 118;refine (Q2.out _).mono ?_;rintro e8 w8 ⟨rfl,f⟩;have L:Hid (Below o.heap.size o w8):=(by first | exact N.out.trans (f.mono U) | exact N.out.drew.trans (f.mono U) | exact (N.out.alloc U _).trans (f.mono (by simp;omega)) | exact (N.out.alloc U _).drew.trans (f.mono (by simp;omega)) | exact (N.out.drew.alloc U _).trans (f.mono (by simp;omega)) | exact (N.out.drew.alloc U _).drew.trans (f.mono (by simp;omega)));obtain ⟨⟨r0,r1⟩,r2⟩:=KS.out w8 L.out;have s8:o.heap.size <= w8.heap.size:=L.out.size;have n8:¬ (w.heap.size=w8.heap.size):=(by omega);(first | (have N8:=(by with_reducible exact pz f)) | (have N8:=(by with_reducible exact oG f)) | (have N8:=(by with_reducible exact Ca f N7)) | (have N8:=(by with_reducible exact xL f N7)) | skip);clear f;simp only [])
       |(go_at_call 117;refine (Q3.out _ (by first | exact L.out | exact L.out.drew | exact L.out.alloc s8 _ | exact (L.out.alloc s8 _).drew | exact (L.out.drew.alloc s8 _) | exact (L.out.drew.alloc s8 _).drew)).mono ?_;rintro e9 w9 ⟨Z,Q,r,g,q,rfl,E⟩;(first | (have K:=(by with_reducible exact yf E.out.2.1);obtain ⟨z0,z1,z2,z3⟩:=cZ K) | (have K:=(by with_reducible exact uT E.out.2.1);obtain ⟨z0,z1,z2,z3⟩:=cZ K) | (have K:=(by with_reducible exact yc E.out.2.1 N8);obtain ⟨z0,z1,z2,z3⟩:=cZ K) | (have K:=(by with_reducible exact uS E.out.2.1 N8);obtain ⟨z0,z1,z2,z3⟩:=cZ K) | skip);simp only []))
      all_goals
       go_wp2_with fail
       go_meet
       first
        | exact PN E.out.1 E.out.2.2.1 E.out.2.2.2 _
        | exact PM E.out.1 K.out (by omega) E.out.2.2.1 E.out.2.2.2
     case rest=>
      obtain ⟨Q,Z,r,g,q,rfl,rfl,D⟩:=hcut;have SG:Hid (sigs g=sigs es):=D.out.2.1.same.trans G.out.1
      cases Q with
      | true=>
       have RO:Hid (nD es d l es[i]):=fun _ _ M hM hb hs=>by
        refine D.out.2.1.conf rfl M hM (fun x hx=>hb x ?_) ((gV G.out.1).1 hs);rw [G1.out.1,HO.out];exact hx
       have RE:Hid (Rest g d):=D.out.2.1.rest d (fun x hx=>by rw [dE,hx];rfl) G.out.2.2.1;go_wp2;go_roundw
       case rel=>exact ⟨i + 1,r,g,q,iE (by omega),by omega,D.out.1,SG.out,D.out.2.2,RE.out,R.out RO.out⟩
       case measure=>simp [intOf];omega
      | false=>
       have NO:Hid (¬ ∀ e ∈ es,nD es d l e):=fun h=>by
        have P:=h es[i] (List.getElem_mem ac) (by rw [G1.out.2];omega) (by rw [G1.out.1,<- HM.out]);rw [G1.out.1,HO.out] at P;have h2:=(D.out.2.1.iff D.out.2.2 (su G.out.1 HU.out) (tT G.out.1 HN.out) (fun x hx=>by rw [dE,ao.out x hx];rfl)).2 (fun M hM hb hs=>P M hM hb ((gV G.out.1).2 hs));cases h2
       go_wp2;go_ret
       exact ⟨false,r,g,q,rfl,ak.out.trans D.out.1.below,ag.out.trans D.out.1.keeps,D.out.1.fA,SG.out,D.out.2.2,by simp only [Bool.false_eq_true,false_iff];exact NO.out⟩
  ·have ei:i=es.length:=by omega
   subst ei;have AL:Hid (∀ e ∈ es,nD es d l e):=fun e he=>by
    obtain ⟨j,hj,rfl⟩:=List.mem_iff_getElem.1 he;exact G.out.2.2.2 j hj hj
   go_wp2;go_ret
   exact ⟨true,wv',es',jU,rfl,ak.out.trans M.out.below,ag.out.trans M.out.keeps,M.out.fA,G.out.1,G.out.2.1,by simp only [true_iff];exact AL.out⟩
end
end
end Rd
end Go.Proofs.YtceahffmenbibaaGreatDoor
