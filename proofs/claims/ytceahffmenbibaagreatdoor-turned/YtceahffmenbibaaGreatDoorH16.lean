/- Prem. -/
import Derived.Test.YtceahffmenbibaaGreatDoorH15
set_option linter.unusedVariables false
set_option linter.unusedSimpArgs false
set_option maxHeartbeats 4000000
set_option maxRecDepth 100000
namespace Go.Proofs.YtceahffmenbibaaGreatDoor
namespace Rd
section
open Go Go.RowKit Go.Deep
section
attribute [local go_sem ↓] Go.wp_at_zero Go.wp_at_succ
def Wz (B sb:Nat) (w:World) (L:List Cl) (c:Cl) (n:Nat) (gone:Int) (e:Ending) (w':World):Prop:=Below B w w'/\dm w w'/\
 ((rem L c=none/\e=.returned (.bool false)/\∃ (cv:Value) (mb:Nat) (fB:Int) (u:Key) (wv:Nat->Value) (es:List dN) (wl:Nat->List Nat),fu B sb w' cv mb fB u wv es wl/\jX es wl u L/\es.length <= n/\fB=gone) \/
  ∃ L',rem L c=some L'/\e=.returned (.bool true)/\∃ (cv:Value) (mb:Nat) (fB:Int) (u:Key) (wv:Nat->Value) (es:List dN) (wl:Nat->List Nat),fu B sb w' cv mb fB u wv es wl/\jX es wl u L'/\es.length <= n/\(fB=gone\/fB=gone + 1\/fB=0))
theorem Jg {b a:List dN} (h:sigs a=(sigs b).filter (fun p=>decide (0 < p.2))):a.length <= b.length:=by
 have d:=congrArg List.length h;have c:((sigs b).filter (fun p=>decide (0 < p.2))).length <= (sigs b).length:=List.length_filter_le _ _;unfold sigs at d c;simp only [List.length_map] at d c;omega
theorem JU {d b:List dN} {wl mr:Nat->List Nat} {u:Key} {L:List Cl} {a fB:Int} (h:jX d wl u L) (hd:(fB=a + 1/\sigs b=sigs d/\fJ b mr)\/(fB=0/\zH d b mr)):
  jX b mr u L/\b.length <= d.length/\(fB=a\/fB=a + 1\/fB=0):=by
 rcases hd with ⟨f,c,e⟩ | ⟨f,c,e⟩
 ·exact ⟨h.same c e,by rw [o6 c];exact lr,.inr (.inl f)⟩
 ·exact ⟨h.anew c e,Jg c,.inr (.inr f)⟩
theorem Ih {a:List dN} {i t:Nat} (hi:i < a.length) (b:(a[i]).times=t + 1):iT a i t=a.modify i (fun e=>{ e with times:=e.times - 1 }):=by
 unfold iT;refine List.ext_getElem? fun j=>?_
 rw [List.getElem?_modify,List.getElem?_modify];split
 ·rename_i h;subst h;rw [List.getElem?_eq_getElem hi];simp [b]
 ·rfl
theorem Ig (a:List dN) (i n:Nat) (h:i < (iT a i n).length) (b:i < a.length):(iT a i n)[i]={ a[i] with times:=n }:=by
 simp [iT,List.getElem_modify]
theorem Ir {a:List dN} {s:Key} {i:Nat} (h:look a s=some i) (hi:i < a.length):there a s=decide (0 < (a[i]).times):=by
 unfold there;rw [h];simp only [List.getElem?_eq_getElem hi]
theorem IC {B sb Q:Nat} {cv:Value} {a:Int} {u:Key} {wv:Nat->Value} {b:List dN} {wl:Nat->List Nat} {L:List Cl} (c:Cl) (w:World) (hc:∀ l ∈ c,jG l) (R:b.length <= 1500000000000) (aa:-1699999999999 <= a/\a <= 1699999999999)
  (hS:fu B sb w cv Q a u wv b wl) (hT:nT B w) (hI:jX b wl u L) (ax:L.length <= 1700000000000):
  Calls Tryz.prog 76 #[.pointer (some ⟨sb,0,none⟩),dC (setOf c)] w fun e w'=>Wz B sb w L c b.length a e w':=by
 have HI:=hide hI;have HC:=hide hc;have M:=mR hc;have ap:=hI.jI.ok;obtain ⟨gl,gh⟩:=aa;have R0:=hide hS;have al:=hide hT;obtain ⟨cc,ab,j⟩:=hS.map.lookup M;have H:=hide (hI.Oy hc)
 have af:Hid (∀ d i (r:i < b.length),rem L c=some d->(b[i]).set=setOf c->jX (b.modify i (fun e=>{ e with times:=e.times - 1 })) wl (if (b[i]).times=1/\(setOf c).size=1 then u.wo (setOf c) else u) d):=fun d i r h1 h2=>hI.rem hc h1 r h2
 have aj:Hid (∀ e ∈ b,e.times <= 1700000000000):=fun e he=>by rw [hI.cnt e he];exact Nat.le_trans List.countP_le_length ax
 obtain ⟨s,hs⟩:∃ s,setOf c=s:=⟨_,rfl⟩;rw [hs] at M ab j H af ⊢;unfold dC at j ⊢;have Y:=hide j;clear hS hT hI hc j hs;go_enter Tryz.func76,Tryz.ntmps76
 go_upto_region 1 with fail
 obtain ⟨W,O⟩:∃ W,W=w.alloc (.cells #[.int .u64 (s.1:Int),.int .u64 (s.2:Int)] 84):=⟨_,rfl⟩;have BW:Hid (Below w.heap.size w W):=by rw [O];exact bR.alloc lr _
 have RA:Hid (W.rowIs w.heap.size 84 2 (gJ s)):=by rw [O];exact fZ w _ _ _
 rw [<- O];clear O;have M0:Hid (gz B sb W cv Q a u wv b wl W):=gz.start (R0.out.later BW.out) (al.out.later (BW.out.mono R0.out.bsize));have I:Hid (Below B w W):=BW.out.mono R0.out.bsize;have G:Hid (dm w W):=dm.of_below BW.out;have Z:∀ n,(Instr.lookup 130 (.map (some Q)) (.agg #[.int .u64 (s.1:Int),.int .u64 (s.2:Int)]) true).run Tryz.prog (W.drewN n)=.ok (.tuple #[.int .i64 cc,.bool (look b s).isSome]) (W.drewN n):=fun n=>Y.out (W.drewN n) (BW.out.block Q R0.out.map.lt)
 clear R0 al BW Y;obtain ⟨x0,x1,_,_⟩:=di RA;have y0:=(M0.out.fK.head 0 (by omega)).1;have y1:=(M0.out.fK.head 1 (by omega)).1;unfold iU at y0 y1
 rcases hl:look b s with _ | i
 ·have NO:Hid (rem L c=none):=H.out.2 (by unfold there;rw [hl]);rw [hl] at Z;go_quiet (fail)
  have E:=hide (M0.out.later (dX (Below.refl _ W) nq));go_wp2;go_ret;exact ⟨I.out.trans E.out.below,G.out.trans E.out.keeps,.inl ⟨NO.out,rfl,_,_,_,_,_,_,_,E.out.fK,HI.out,lr,rfl⟩⟩
 ·obtain ⟨r,ar⟩:=mY hl;have av:=ab i hl;subst av;have TH:=hide (Ir hl r);rw [hl] at Z;obtain ⟨J,C,au,ah,aC,aB,aD,f⟩:=M0.out.fK.wY i r;subst au;have c4:=(f 4 (by omega)).1;have f4:=(f 4 (by omega)).2;simp only [lQ,List.getElem?_cons_succ,List.getElem?_cons_zero] at c4;have i0:(0:Int) <= (i:Int):=by omega
  have i1:(i:Int) < (b.length:Int):=by omega
  have am:Hid (∀ d,rem L c=some d->jX (b.modify i (fun e=>{ e with times:=e.times - 1 })) wl (if (b[i]).times=1/\s.size=1 then u.wo s else u) d):=fun d h=>af.out d i r h ar
  have ak:Hid (∀ t,(b[i]).times=t + 1->iT b i t=b.modify i (fun e=>{ e with times:=e.times - 1 })):=fun t N=>Ih r N
  have tb:(b[i]).times <= 1700000000000:=aj.out _ (List.getElem_mem r);have U:Hid (∀ V n,gz B sb W (.slice (some ⟨J,0,none⟩) b.length C) Q a u wv b wl V->gz B sb W (.slice (some ⟨J,0,none⟩) b.length C) Q a u wv (iT b i n) wl (V.setCell ⟨J,i * 5 + 4,none⟩ (.int .i64 (n:Int)))):=fun V n h=>h.step (h.fK.Ol r n) (h.fK.qO _ _) (bR.setCell ah _)
  clear f hl ab af
  rcases N:(b[i]).times with _ | t
  ·have NO:Hid (rem L c=none):=H.out.2 (by rw [TH.out,N];rfl);rw [N] at c4;go_quiet (fail)
   have E:=hide (M0.out.later (dX (Below.refl _ W) nq));go_wp2;go_ret;exact ⟨I.out.trans E.out.below,G.out.trans E.out.keeps,.inl ⟨NO.out,rfl,_,_,_,_,_,_,_,E.out.fK,HI.out,lr,rfl⟩⟩
  ·obtain ⟨d,hR⟩:∃ d,rem L c=some d:=by
    cases e:rem L c with
    | some d=>exact ⟨d,rfl⟩
    | none=>
     have:=H.out.1 e;rw [TH.out,N] at this;simp at this
   have HR:=hide hR;have ae:=am.out d hR;rw [<- ak.out t N,N] at ae;have D:=hide ae;rw [N] at c4 tb;have aF:((t + 1:Nat):Int) - 1=(t:Int):=by omega
   have aG:(((t + 1:Nat):Int) == 0)=false:=by simp;omega
   clear ae hR N am ak TH H aj;go_quiet (fail)
   have E:=hide (M0.out.later (dX (Below.refl _ W) nq));have d4:(W.drewN nq).cell? ⟨J,i * 5 + 4,none⟩=some (.int .i64 ((t + 1:Nat):Int)):=c4;have e4:(W.drewN nq).frozen? ⟨J,i * 5 + 4,none⟩=false:=f4;have z0:(W.drewN nq).cell? ⟨sb,0,none⟩=some (.slice (some ⟨J,0,none⟩) b.length C):=y0;generalize W.drewN nq=V0 at E d4 e4 z0 ⊢;have K:=hide (U.out V0 t E.out);have wi:i < (iT b i t).length:=by rw [kT];exact r
   clear c4 f4 y0 y1 x0 x1 Z M0 U;go_upto_region 5 with fail
   generalize aw:V0.setCell ⟨J,i * 5 + 4,none⟩ (.int .i64 (t:Int))=V1 at K ⊢;clear aw d4 e4 z0 E;obtain ⟨aA,aE,S,_,_,_,_,g⟩:=K.out.fK.wY i wi;have ai:J=aA:=by have:=(Value.slice.inj S).1;exact congrArg Addr.block (Option.some.inj this)
   have r4:=(g 4 (by omega)).1;rw [<- ai,Ig b i t wi r] at r4;simp only [lQ,List.getElem?_cons_succ,List.getElem?_cons_zero] at r4;have z0:=(K.out.fK.head 0 (by omega)).1;unfold iU at z0;clear S g ai;by_cases t0:t=0
   ·subst t0;obtain ⟨x0,x1,_,_⟩:=di (K.out.row RA.out);have lx:=(jU (K.out.row RA.out)).lt;have QS:=hide (fun V=>jq s V M);unfold dC at QS;obtain ⟨nz,ag⟩:∃ n:Nat,s.size=n:=⟨_,rfl⟩;rw [ag] at QS D;simp only [Nat.zero_add,true_and] at D;go_upto_region 7 with fail
    go_wp2_with fail
    with_reducible refine (QS.out _).mono ?_
    rintro e6 w6 ⟨rfl,y⟩;simp only [];have X:=hide (K.out.later y);have a0:=(y.cell (p:=⟨w.heap.size,0,none⟩) lx).trans x0;have a1:=(y.cell (p:=⟨w.heap.size,1,none⟩) lx).trans x1;have l6:w.heap.size < w6.heap.size:=by have:=y.size;omega
    clear y x0 x1 lx QS r4 z0 K ag;by_cases n1:nz=1
    ·subst n1;have o:Hid (jX (iT b i 0) wl (u.wo s) d):=by have:=D.out;rw [if_pos rfl] at this;exact this
     have QW:=hide (fun V=>jm u s V ap M);unfold dC at QW;have b3:=(X.out.fK.head 3 (by omega)).1;have b4:=(X.out.fK.head 4 (by omega)).1;have q3:=(X.out.fK.head 3 (by omega)).2;have q4:=(X.out.fK.head 4 (by omega)).2;unfold iU at b3 b4;have s6:=X.out.fK.row.lt;generalize aH:u.wo s=u2 at QW o;go_upto_region 8 with fail
     go_cut [] from 7 (fun wx=>Hid (gz B sb W (.slice (some ⟨J,0,none⟩) b.length C) Q a u2 wv (iT b i 0) wl wx))
     case first=>
      go_region_with (go_at_call 114;refine (QW.out _).mono ?_;rintro e7 w7 ⟨rfl,ac⟩;have B7:Hid (Below w6.heap.size w6 w7):=(by first | exact ac | exact bR.drew.trans ac);have k:=hide (X.out.later B7.out);have r3:=(k.out.fK.head 3 (by omega)).1;have r4:=(k.out.fK.head 4 (by omega)).1;have r5:=(k.out.fK.head 3 (by omega)).2;have r6:=(k.out.fK.head 4 (by omega)).2;unfold iU at r3 r4;clear ac;simp only [])
      all_goals
       go_wp2_with fail
       go_meet
       first
        | exact k.out.step (k.out.fK.Oj u2) (k.out.fK.pg _ _ _ _) ((bR.setCell k.out.fK.jf _).setCell k.out.fK.jf _)
        | exact (k.out.later bR.drew).step ((k.out.later bR.drew).fK.Oj u2) ((k.out.later bR.drew).fK.pg _ _ _ _) ((bR.setCell k.out.fK.jf _).setCell k.out.fK.jf _)
     case rest=>
      have m:Hid (gz B sb W (.slice (some ⟨J,0,none⟩) b.length C) Q a u2 wv (iT b i 0) wl wc):=hcut;clear hcut X b3 b4 q3 q4 a0 a1;have g0:=(m.out.fK.head 2 (by omega)).1;have g1:=(m.out.fK.head 2 (by omega)).2;unfold iU at g0;have P:=hide (m.out.step (m.out.fK.fB (a + 1)) (m.out.fK.qN 2 (.int .i64 (a + 1))) (bR.setCell m.out.fK.jf _));have QT:=hide (Eh (wc.setCell ⟨sb,2,none⟩ (.int .i64 (a + 1))) (by rw [kT];exact R) (by omega) P.out.fK P.out.tab o.out.gT o.out.qb o.out.jI.ok);go_upto_region 10 with fail
      go_wp2_with fail
      with_reducible refine QT.out.mono ?_
      rintro e9 w9 ⟨rfl,x,q,az,aq,ad,an,ay,ao,z,v⟩;simp only [];have M9:=hide (P.out.step z q x);have R9:=hide (JU o.out v);clear z q x v QT g0 g1 P;go_wp2;go_ret;exact ⟨I.out.trans M9.out.below,G.out.trans M9.out.keeps,.inr ⟨d,HR.out,rfl,_,_,_,_,_,_,_,M9.out.fK,R9.out.1,by have:=R9.out.2.1;rw [kT] at this;exact this,R9.out.2.2⟩⟩
    ·have o:Hid (jX (iT b i 0) wl u d):=by have:=D.out;rw [if_neg n1] at this;exact this
     have m:=X;have nb:((nz:Int) == 1)=false:=by simp;omega
     go_upto_region 9 with fail
     have g0:=(m.out.fK.head 2 (by omega)).1;have g1:=(m.out.fK.head 2 (by omega)).2;unfold iU at g0;have P:=hide (m.out.step (m.out.fK.fB (a + 1)) (m.out.fK.qN 2 (.int .i64 (a + 1))) (bR.setCell m.out.fK.jf _));have QT:=hide (Eh (w6.setCell ⟨sb,2,none⟩ (.int .i64 (a + 1))) (by rw [kT];exact R) (by omega) P.out.fK P.out.tab o.out.gT o.out.qb o.out.jI.ok);go_upto_region 10 with fail
     go_wp2_with fail
     with_reducible refine QT.out.mono ?_
     rintro e9 w9 ⟨rfl,x,q,az,aq,ad,an,ay,ao,z,v⟩;simp only [];have M9:=hide (P.out.step z q x);have R9:=hide (JU o.out v);clear z q x v QT g0 g1 P;go_wp2;go_ret;exact ⟨I.out.trans M9.out.below,G.out.trans M9.out.keeps,.inr ⟨d,HR.out,rfl,_,_,_,_,_,_,_,M9.out.fK,R9.out.1,by have:=R9.out.2.1;rw [kT] at this;exact this,R9.out.2.2⟩⟩
   ·have tp:(0:Int) < (t:Int):=by omega
    have o:Hid (jX (iT b i t) wl u d):=by have:=D.out;rw [if_neg (by omega)] at this;exact this
    go_wp2;go_ret
    exact ⟨I.out.trans K.out.below,G.out.trans K.out.keeps,.inr ⟨d,HR.out,rfl,_,_,_,_,_,_,_,K.out.fK,o.out,by rw [kT];exact lr,.inl rfl⟩⟩
end
end
end Rd
end Go.Proofs.YtceahffmenbibaaGreatDoor
