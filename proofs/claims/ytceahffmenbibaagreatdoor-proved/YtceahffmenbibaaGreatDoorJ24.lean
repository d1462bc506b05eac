/- Prem. -/
import Derived.Test.YtceahffmenbibaaGreatDoorJ23
import Derived.Deep.CutRange
set_option linter.unusedVariables false
set_option linter.unusedSimpArgs false
set_option maxHeartbeats 4000000
set_option maxRecDepth 100000
namespace Go.Proofs.YtceahffmenbibaaGreatDoor
namespace Rd
section
open Go Go.RowKit Go.Deep
section
attribute [local go_sem ↓] Go.wp_at_zero Go.wp_at_succ
def uz (es es0:List dH):Prop:=∀ e ∈ es,∃ d ∈ es0,d.set=e.set
theorem uz.refl (a:List dH):uz a a:=fun e b=>⟨e,b,rfl⟩
theorem uz.trans {a b c:List dH} (h:uz a b) (i:uz b c):uz a c:=fun e g=>by
 obtain ⟨d,hd,k⟩:=h e g;obtain ⟨l,f,j⟩:=i d hd;exact ⟨l,f,j.trans k⟩
theorem xq {b a:List dH} (h:∀ p ∈ sigs a,p ∈ sigs b):uz a b:=fun e c=>by
 have:=h (e.set,e.times) (List.mem_map_of_mem c);obtain ⟨d,hd,f⟩:=List.mem_map.1 this;exact ⟨d,hd,congrArg Prod.fst f⟩
theorem uG (a:List dH) (i n:Nat):uz (iq a i n) a:=fun e c=>by
 unfold iq at c;obtain ⟨j,d,rfl⟩:=List.mem_iff_getElem.1 c;have b:j < a.length:=by simpa using d
 refine ⟨a[j],List.getElem_mem b,?_⟩;rw [List.getElem_modify];split <;> rfl
def TW (B sb:Nat) (w:World) (L:List Cl) (c:Cl) (es0:List dH) (gone:Int) (e:Ending) (w':World):Prop:=Below B w w'/\di w w'/\
 ((rem L c=none/\e=.returned (.bool false)/\∃ (cv:Value) (mb:Nat) (fu:Int) (u:Key) (wv:Nat->Value) (es:List dH) (wl:Nat->List Nat),eG B sb w' cv mb fu u wv es wl/\jw es wl u L/\es.length <= es0.length/\uz es es0/\fu=gone) \/
  ∃ L',rem L c=some L'/\e=.returned (.bool true)/\∃ (cv:Value) (mb:Nat) (fu:Int) (u:Key) (wv:Nat->Value) (es:List dH) (wl:Nat->List Nat),eG B sb w' cv mb fu u wv es wl/\jw es wl u L'/\es.length <= es0.length/\uz es es0/\(fu=gone\/fu=gone + 1\/fu=0))
theorem Hm {b a:List dH} (h:sigs a=(sigs b).filter (fun p=>decide (0 < p.2))):a.length <= b.length:=by
 have d:=congrArg List.length h;have c:((sigs b).filter (fun p=>decide (0 < p.2))).length <= (sigs b).length:=List.length_filter_le _ _;unfold sigs at d c;simp only [List.length_map] at d c;omega
theorem IE {e a:List dH} {wl jU:Nat->List Nat} {u:Key} {L:List Cl} {b fu:Int} (h:jw e wl u L) (hd:(fu=b + 1/\sigs a=sigs e/\eU a jU)\/(fu=0/\yV e a jU)):
  jw a jU u L/\a.length <= e.length/\uz a e/\(fu=b\/fu=b + 1\/fu=0):=by
 rcases hd with ⟨g,c,f⟩ | ⟨g,c,f⟩
 ·exact ⟨h.same c f,by rw [lN c];exact lr,xq (fun p d=>by rw [c] at d;exact d),.inr (.inl g)⟩
 ·exact ⟨h.anew c f,Hm c,xq (fun p d=>by rw [c] at d;exact (List.mem_filter.1 d).1),.inr (.inr g)⟩
theorem Gp {a:List dH} {i t:Nat} (c:i < a.length) (b:(a[i]).times=t + 1):iq a i t=a.modify i (fun e=>{ e with times:=e.times - 1 }):=by
 unfold iq;refine List.ext_getElem? fun j=>?_
 rw [List.getElem?_modify,List.getElem?_modify];split
 ·rename_i h;subst h;rw [List.getElem?_eq_getElem c];simp [b]
 ·rfl
theorem Gn (a:List dH) (i n:Nat) (h:i < (iq a i n).length) (b:i < a.length):(iq a i n)[i]={ a[i] with times:=n }:=by
 simp [iq,List.getElem_modify]
theorem Gv {a:List dH} {s:Key} {i:Nat} (h:look a s=some i) (b:i < a.length):there a s=decide (0 < (a[i]).times):=by
 unfold there;rw [h];simp only [List.getElem?_eq_getElem b]
theorem xH {B sb R:Nat} {cv:Value} {a:Int} {u:Key} {wv:Nat->Value} {b:List dH} {wl:Nat->List Nat} {L:List Cl} (c:Cl) (w:World) (hc:∀ l ∈ c,gH l) (S:b.length <= 1500000000000) (ab:-5999999999999999999 <= a/\a <= 5999999999999999999)
  (hS:eG B sb w cv R a u wv b wl) (hT:jJ B w) (hI:jw b wl u L) (ay:L.length <= 6000000000000000000):
  Calls Tryz.prog 76 #[.pointer (some ⟨sb,0,none⟩),dn (setOf c)] w fun e w'=>TW B sb w L c b a e w':=by
 have HI:=hide hI;have HC:=hide hc;have M:=jR hc;have aq:=hI.iW.ok;obtain ⟨gl,gh⟩:=ab;have R0:=hide hS;have am:=hide hT;obtain ⟨cc,ac,j⟩:=hS.map.lookup M;have H:=hide (hI.Mo hc)
 have ag:Hid (∀ d i (r:i < b.length),rem L c=some d->(b[i]).set=setOf c->jw (b.modify i (fun e=>{ e with times:=e.times - 1 })) wl (if (b[i]).times=1/\(setOf c).size=1 then u.wo (setOf c) else u) d):=fun d i r h1 h2=>hI.rem hc h1 r h2
 have ak:Hid (∀ e ∈ b,e.times <= 6000000000000000000):=fun e he=>by rw [hI.cnt e he];exact Nat.le_trans List.countP_le_length ay
 obtain ⟨s,hs⟩:∃ s,setOf c=s:=⟨_,rfl⟩;rw [hs] at M ac j H ag ⊢;unfold dn at j ⊢;have Z:=hide j;clear hS hT hI hc j hs;go_enter Tryz.func76,Tryz.ntmps76
 go_upto_region 1 with fail
 obtain ⟨W,O⟩:∃ W,W=w.alloc (.cells #[.int .u64 (s.1:Int),.int .u64 (s.2:Int)] 84):=⟨_,rfl⟩;have BW:Hid (Below w.heap.size w W):=by rw [O];exact bR.alloc lr _
 have RA:Hid (W.rowIs w.heap.size 84 2 (fU s)):=by rw [O];exact fK w _ _ _
 rw [<- O];clear O;have M0:Hid (eX B sb W cv R a u wv b wl W):=eX.start (R0.out.later BW.out) (am.out.later (BW.out.mono R0.out.bsize));have I:Hid (Below B w W):=BW.out.mono R0.out.bsize;have G:Hid (di w W):=di.of_below BW.out;have aa:∀ n,(Instr.lookup 130 (.map (some R)) (.agg #[.int .u64 (s.1:Int),.int .u64 (s.2:Int)]) true).run Tryz.prog (W.drewN n)=.ok (.tuple #[.int .i64 cc,.bool (look b s).isSome]) (W.drewN n):=fun n=>Z.out (W.drewN n) (BW.out.block R R0.out.map.lt)
 clear R0 am BW Z;obtain ⟨x0,x1,_,_⟩:=cZ RA;have y0:=(M0.out.fA.head 0 (by omega)).1;have y1:=(M0.out.fA.head 1 (by omega)).1;unfold iH at y0 y1
 rcases hl:look b s with _ | i
 ·have NO:Hid (rem L c=none):=H.out.2 (by unfold there;rw [hl]);rw [hl] at aa;go_quiet (fail)
  have E:=hide (M0.out.later (dO (Below.refl _ W) nq));go_wp2;go_ret;exact ⟨I.out.trans E.out.below,G.out.trans E.out.keeps,.inl ⟨NO.out,rfl,_,_,_,_,_,_,_,E.out.fA,HI.out,lr,uz.refl _,rfl⟩⟩
 ·obtain ⟨r,au⟩:=mG hl;have aw:=ac i hl;subst aw;have TH:=hide (Gv hl r);rw [hl] at aa;obtain ⟨J,C,av,ai,aD,aC,aE,f⟩:=M0.out.fA.uZ i r;subst av;have c4:=(f 4 (by omega)).1;have f4:=(f 4 (by omega)).2;simp only [kV,List.getElem?_cons_succ,List.getElem?_cons_zero] at c4;have i0:(0:Int) <= (i:Int):=by omega
  have i1:(i:Int) < (b.length:Int):=by omega
  have an:Hid (∀ d,rem L c=some d->jw (b.modify i (fun e=>{ e with times:=e.times - 1 })) wl (if (b[i]).times=1/\s.size=1 then u.wo s else u) d):=fun d h=>ag.out d i r h au
  have al:Hid (∀ t,(b[i]).times=t + 1->iq b i t=b.modify i (fun e=>{ e with times:=e.times - 1 })):=fun t N=>Gp r N
  have tb:(b[i]).times <= 6000000000000000000:=ak.out _ (List.getElem_mem r);have X:Hid (∀ V n,eX B sb W (.slice (some ⟨J,0,none⟩) b.length C) R a u wv b wl V->eX B sb W (.slice (some ⟨J,0,none⟩) b.length C) R a u wv (iq b i n) wl (V.setCell ⟨J,i * 5 + 4,none⟩ (.int .i64 (n:Int)))):=fun V n h=>h.step (h.fA.Mh r n) (h.fA.qM _ _) (bR.setCell ai _)
  clear f hl ac ag
  rcases N:(b[i]).times with _ | t
  ·have NO:Hid (rem L c=none):=H.out.2 (by rw [TH.out,N];rfl);rw [N] at c4;go_quiet (fail)
   have E:=hide (M0.out.later (dO (Below.refl _ W) nq));go_wp2;go_ret;exact ⟨I.out.trans E.out.below,G.out.trans E.out.keeps,.inl ⟨NO.out,rfl,_,_,_,_,_,_,_,E.out.fA,HI.out,lr,uz.refl _,rfl⟩⟩
  ·obtain ⟨d,hR⟩:∃ d,rem L c=some d:=by
    cases e:rem L c with
    | some d=>exact ⟨d,rfl⟩
    | none=>
     have:=H.out.1 e;rw [TH.out,N] at this;simp at this
   have HR:=hide hR;have af:=an.out d hR;rw [<- al.out t N,N] at af;have D:=hide af;rw [N] at c4 tb;have aG:((t + 1:Nat):Int) - 1=(t:Int):=by omega
   have aH:(((t + 1:Nat):Int) == 0)=false:=by simp;omega
   clear af hR N an al TH H ak;go_quiet (fail)
   have E:=hide (M0.out.later (dO (Below.refl _ W) nq));have d4:(W.drewN nq).cell? ⟨J,i * 5 + 4,none⟩=some (.int .i64 ((t + 1:Nat):Int)):=c4;have e4:(W.drewN nq).frozen? ⟨J,i * 5 + 4,none⟩=false:=f4;have z0:(W.drewN nq).cell? ⟨sb,0,none⟩=some (.slice (some ⟨J,0,none⟩) b.length C):=y0;generalize W.drewN nq=V0 at E d4 e4 z0 ⊢;have K:=hide (X.out V0 t E.out);have wi:i < (iq b i t).length:=by rw [kL];exact r
   clear c4 f4 y0 y1 x0 x1 aa M0 X;go_upto_region 5 with fail
   generalize ax:V0.setCell ⟨J,i * 5 + 4,none⟩ (.int .i64 (t:Int))=V1 at K ⊢;clear ax d4 e4 z0 E;obtain ⟨aB,aF,U,_,_,_,_,g⟩:=K.out.fA.uZ i wi;have aj:J=aB:=by have:=(Value.slice.inj U).1;exact congrArg Addr.block (Option.some.inj this)
   have r4:=(g 4 (by omega)).1;rw [<- aj,Gn b i t wi r] at r4;simp only [kV,List.getElem?_cons_succ,List.getElem?_cons_zero] at r4;have z0:=(K.out.fA.head 0 (by omega)).1;unfold iH at z0;clear U g aj;by_cases t0:t=0
   ·subst t0;obtain ⟨x0,x1,_,_⟩:=cZ (K.out.row RA.out);have lx:=(jd (K.out.row RA.out)).lt;have QS:=hide (fun V=>lM s V M);unfold dn at QS;obtain ⟨nz,ah⟩:∃ n:Nat,s.size=n:=⟨_,rfl⟩;rw [ah] at QS D;simp only [Nat.zero_add,true_and] at D;go_upto_region 7 with fail
    go_wp2_with fail
    with_reducible refine (QS.out _).mono ?_
    rintro e6 w6 ⟨rfl,y⟩;simp only [];have Y:=hide (K.out.later y);have a0:=(y.cell (p:=⟨w.heap.size,0,none⟩) lx).trans x0;have a1:=(y.cell (p:=⟨w.heap.size,1,none⟩) lx).trans x1;have l6:w.heap.size < w6.heap.size:=by have:=y.size;omega
    clear y x0 x1 lx QS r4 z0 K ah;by_cases n1:nz=1
    ·subst n1;have o:Hid (jw (iq b i 0) wl (u.wo s) d):=by have:=D.out;rw [if_pos rfl] at this;exact this
     have QW:=hide (fun V=>iK u s V aq M);unfold dn at QW;have b3:=(Y.out.fA.head 3 (by omega)).1;have b4:=(Y.out.fA.head 4 (by omega)).1;have q3:=(Y.out.fA.head 3 (by omega)).2;have q4:=(Y.out.fA.head 4 (by omega)).2;unfold iH at b3 b4;have s6:=Y.out.fA.row.lt;generalize aI:u.wo s=u2 at QW o;go_upto_region 8 with fail
     go_cut [] from 7 (fun wx=>Hid (eX B sb W (.slice (some ⟨J,0,none⟩) b.length C) R a u2 wv (iq b i 0) wl wx))
     case first=>
      go_region_with (go_at_call 114;refine (QW.out _).mono ?_;rintro e7 w7 ⟨rfl,ad⟩;have B7:Hid (Below w6.heap.size w6 w7):=(by first | exact ad | exact bR.drew.trans ad);have k:=hide (Y.out.later B7.out);have r3:=(k.out.fA.head 3 (by omega)).1;have r4:=(k.out.fA.head 4 (by omega)).1;have r5:=(k.out.fA.head 3 (by omega)).2;have r6:=(k.out.fA.head 4 (by omega)).2;unfold iH at r3 r4;clear ad;simp only [])
      all_goals
       go_wp2_with fail
       go_meet
       first
        | exact k.out.step (k.out.fA.Mg u2) (k.out.fA.oM _ _ _ _) ((bR.setCell k.out.fA.jA _).setCell k.out.fA.jA _)
        | exact (k.out.later bR.drew).step ((k.out.later bR.drew).fA.Mg u2) ((k.out.later bR.drew).fA.oM _ _ _ _) ((bR.setCell k.out.fA.jA _).setCell k.out.fA.jA _)
     case rest=>
      have m:Hid (eX B sb W (.slice (some ⟨J,0,none⟩) b.length C) R a u2 wv (iq b i 0) wl wc):=hcut;clear hcut Y b3 b4 q3 q4 a0 a1;have g0:=(m.out.fA.head 2 (by omega)).1;have g1:=(m.out.fA.head 2 (by omega)).2;unfold iH at g0;have Q:=hide (m.out.step (m.out.fA.fu (a + 1)) (m.out.fA.qL 2 (.int .i64 (a + 1))) (bR.setCell m.out.fA.jA _));have QT:=hide (DD (wc.setCell ⟨sb,2,none⟩ (.int .i64 (a + 1))) (by rw [kL];exact S) (by omega) Q.out.fA Q.out.tab o.out.gG o.out.oU o.out.iW.ok);go_upto_region 10 with fail
      go_wp2_with fail
      with_reducible refine QT.out.mono ?_
      rintro e9 w9 ⟨rfl,x,q,aA,ar,ae,ao,az,ap,z,v⟩;simp only [];have M9:=hide (Q.out.step z q x);have P:=hide (IE o.out v);clear z q x v QT g0 g1 Q;go_wp2;go_ret;exact ⟨I.out.trans M9.out.below,G.out.trans M9.out.keeps,.inr ⟨d,HR.out,rfl,_,_,_,_,_,_,_,M9.out.fA,P.out.1,by have:=P.out.2.1;rw [kL] at this;exact this,P.out.2.2.1.trans (uG _ _ _),P.out.2.2.2⟩⟩
    ·have o:Hid (jw (iq b i 0) wl u d):=by have:=D.out;rw [if_neg n1] at this;exact this
     have m:=Y;have nb:((nz:Int) == 1)=false:=by simp;omega
     go_upto_region 9 with fail
     have g0:=(m.out.fA.head 2 (by omega)).1;have g1:=(m.out.fA.head 2 (by omega)).2;unfold iH at g0;have Q:=hide (m.out.step (m.out.fA.fu (a + 1)) (m.out.fA.qL 2 (.int .i64 (a + 1))) (bR.setCell m.out.fA.jA _));have QT:=hide (DD (w6.setCell ⟨sb,2,none⟩ (.int .i64 (a + 1))) (by rw [kL];exact S) (by omega) Q.out.fA Q.out.tab o.out.gG o.out.oU o.out.iW.ok);go_upto_region 10 with fail
     go_wp2_with fail
     with_reducible refine QT.out.mono ?_
     rintro e9 w9 ⟨rfl,x,q,aA,ar,ae,ao,az,ap,z,v⟩;simp only [];have M9:=hide (Q.out.step z q x);have P:=hide (IE o.out v);clear z q x v QT g0 g1 Q;go_wp2;go_ret;exact ⟨I.out.trans M9.out.below,G.out.trans M9.out.keeps,.inr ⟨d,HR.out,rfl,_,_,_,_,_,_,_,M9.out.fA,P.out.1,by have:=P.out.2.1;rw [kL] at this;exact this,P.out.2.2.1.trans (uG _ _ _),P.out.2.2.2⟩⟩
   ·have tp:(0:Int) < (t:Int):=by omega
    have o:Hid (jw (iq b i t) wl u d):=by have:=D.out;rw [if_neg (by omega)] at this;exact this
    go_wp2;go_ret
    exact ⟨I.out.trans K.out.below,G.out.trans K.out.keeps,.inr ⟨d,HR.out,rfl,_,_,_,_,_,_,_,K.out.fA,o.out,by rw [kL];exact lr,uG _ _ _,.inl rfl⟩⟩
end
end
end Rd
end Go.Proofs.YtceahffmenbibaaGreatDoor
