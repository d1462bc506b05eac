/- Kprv Tord Kprl Laid. -/
import Derived.Test.YtceahffmenbibaaGreatDoorJ41
import Derived.Test.YtceahffmenbibaaGreatDoorJ01
import Derived.Test.YtceahffmenbibaaGreatDoorJ04
import Derived.Test.YtceahffmenbibaaGreatDoorJ38
import Derived.Test.YtceahffmenbibaaGreatDoorJ26
import Derived.Test.YtceahffmenbibaaGreatDoorRows
import Derived.Test.YtceahffmenbibaaGreatDoorChecked
import Derived.WalkKit
import Derived.ProofKit
import Derived.OpenShut
import Derived.Deep.Slices
import Derived.Deep.DeepHandedRow
import Derived.Deep.DeepWitnessRowRef
import Derived.LaidLaws
import Derived.ChangeOld
import Derived.Below
set_option linter.unusedVariables false
set_option linter.unusedSimpArgs false
set_option maxHeartbeats 4000000
set_option maxRecDepth 100000
namespace Go.Proofs.YtceahffmenbibaaGreatDoor
namespace Kp
section
open Go Go.RowKit Go.Deep Rd Go.Proofs.YtceahffmenbibaaGreatDoor.So
theorem GD (Sr:World->Prop) (av:∀ {a b:World},Sr a->Below a.heap.size a b->Sr b)
  (an ad:Value) (E:ByteArray) (L M:List Cl) (tx:List Cl->ByteArray) (st mt:Bool) (P P2:Int->Int->Prop) (w:World) (hw:Sr w) (bd:L.length <= 20) (bc:M.length <= 20)
  (hW:∀ W,Sr W->Calls Tryz.prog 16 #[] W fun e d=>e=.returned (.bool true)/\Below W.heap.size W d)
  (hC:∀ W,Below w.heap.size w W->Calls Tryz.prog 23 #[an,.int .i64 6,.int .i64 20] W fun e d=>∃ v,e=.returned v/\Rz 43 3 W.heap.size d v L/\Below W.heap.size W d)
  (aX:∀ W,Below w.heap.size w W->Calls Tryz.prog 23 #[ad,.int .i64 6,.int .i64 20] W fun e d=>∃ v,e=.returned v/\Rz 43 3 W.heap.size d v M/\Below W.heap.size W d)
  (hM:∀ W (v:Value) (g k:Nat),Rows W v L->(∀ x,x < 6->W.cell? ⟨g,x,none⟩=some (.bool (jO k x)))->Calls Tryz.prog 24 #[v,.slice (some ⟨g,0,none⟩) 6 6] W fun e d=>e=.returned (.bool (jP L (jO k)))/\Below W.heap.size W d)
  (hT:∀ W (v:Value) (L':List Cl),(L'=L\/L'=L.reverse\/L'=L ++ M)->Rows W v L'->Calls Tryz.prog 25 #[.int .i64 6,v] W fun e d=>e=.returned (.string (tx L'))/\Below W.heap.size W d)
  (hK:∀ W,Sr W->Calls Tryz.prog 20 #[.string (tx L),.string E] W fun e d=>∃ n f,e=.returned (.tuple #[.int .i64 n,.int .i64 f])/\P n f/\Below W.heap.size W d)
  (aW:∀ W,Sr W->Calls Tryz.prog 20 #[.string (tx L.reverse),.string E] W fun e d=>∃ n f,e=.returned (.tuple #[.int .i64 n,.int .i64 f])/\P2 n f/\Below W.heap.size W d)
  (aT:∀ n f n' f',P n f->P2 n' f'->n'=n/\f'=f) (aU:∀ n,P n 0->st=false)
  (hS:∀ W,Sr W->Calls Tryz.prog 17 #[.string (tx L),.int .i64 (-1)] W fun e d=>∃ (a:Option Addr) (n c:Nat) (p:ByteArray),e=.returned (.tuple #[.agg #[.int .i64 (cond st 1 2),.slice a n c,.string p],.int .i64 0])/\Below W.heap.size W d)
  (aS:∀ W,Sr W->Calls Tryz.prog 19 #[.string (tx (L ++ M))] W fun e d=>e=.returned (.tuple #[.bool true,.bool mt])/\Below W.heap.size W d)
  (aM:mt=true->st=true) (aK:st=true↔∃ j,j < 64/\jP L (jO j)=true):
  Calls Tryz.prog 14 #[an,.string E,ad] w fun e d=>e=.returned (.bool true)/\Below w.heap.size w d:=by
 obtain ⟨j0,hj,ag,af,ae⟩:=info_parts Tryz.AV;have QW:=hide (hW w hw);have QC:Hid (∀ W,Below w.heap.size w W->Calls Tryz.prog 23 #[an,.int .i64 6,.int .i64 20] W fun e d=>∃ (a:Option Addr) (c b:Nat) (us:List Value),e=.returned (.slice a L.length c)/\(0 < L.length->a=some ⟨b,0,none⟩)/\(∀ i (hi:i < us.length),d.cell? ⟨b,i,none⟩=some us[i])/\Ls d (.slice a L.length c) us L/\Below w.heap.size w d):=fun W R=>by
  refine (hC W R).mono ?_;rintro e d ⟨v,rfl,hO,a3⟩;obtain ⟨us,hO⟩:=hO;have hR:=nZ hO;obtain ⟨a,c,b,rfl,h2,h3⟩:=hR.form;exact ⟨a,c,b,us,rfl,h2,h3,hR,R.trans (a3.mono R.size)⟩
 have ah:Hid (∀ W,Below w.heap.size w W->Calls Tryz.prog 23 #[ad,.int .i64 6,.int .i64 20] W fun e d=>∃ v ms,e=.returned v/\o7 43 3 W.heap.size d v (.slice none 0 0) ms M []/\Below W.heap.size W d):=fun W R=>(aX W R).mono fun e d ⟨v,h1,⟨ms,h2⟩,h3⟩=>⟨v,ms,h1,h2,h3⟩
 have QM:=hide hM;have QT:=hide hT;have QK:Hid (∀ W,Below w.heap.size w W->Calls Tryz.prog 20 #[.string (tx L),.string E] W fun e d=>∃ n f,e=.returned (.tuple #[.int .i64 n,.int .i64 f])/\P n f/\Below W.heap.size W d):=fun W R=>hK W (av hw R)
 have aA:Hid (∀ W,Below w.heap.size w W->Calls Tryz.prog 20 #[.string (tx L.reverse),.string E] W fun e d=>∃ n f,e=.returned (.tuple #[.int .i64 n,.int .i64 f])/\P2 n f/\Below W.heap.size W d):=fun W R=>aW W (av hw R)
 have QS:Hid (∀ W,Below w.heap.size w W->Calls Tryz.prog 17 #[.string (tx L),.int .i64 (-1)] W fun e d=>∃ (a:Option Addr) (n c:Nat) (p:ByteArray),e=.returned (.tuple #[.agg #[.int .i64 (cond st 1 2),.slice a n c,.string p],.int .i64 0])/\Below W.heap.size W d):=fun W R=>hS W (av hw R)
 have QH:Hid (∀ W,Below w.heap.size w W->Calls Tryz.prog 19 #[.string (tx (L ++ M))] W fun e d=>e=.returned (.tuple #[.bool true,.bool mt])/\Below W.heap.size W d):=fun W R=>aS W (av hw R)
 have aJ:=hide aK;have aB:=hide aT;have ax:=hide aU;have ay:=hide aM;clear hW hC aX hM hT hK aW hS aS aK aT aU aM hw av;go_enter Tryz.func14,Tryz.ntmps14
 go_wp2_with (first
  |(go_at_call 16;(with_reducible refine QW.out.mono ?_);rintro e1 w1 ⟨rfl,aR⟩;have B1:=hide aR;clear aR QW;simp only [])
  |(go_at_call 23;(with_reducible refine (QC.out _ B1.out).mono ?_);rintro e2 w2 ⟨la,lc,lb,us,rfl,aN,aO,hR,aQ⟩;have a7:=hide aN;have R2:=hide (And.intro aO hR);have B2:=hide aQ;clear aN aO hR aQ QC B1;simp only []))
 go_loopw [9,10] (fun sv bv wr=>∃ (k:Nat) (sm:Bool),k <= 64/\bv=.int .i64 (k:Nat)/\sv=.bool sm/\Hid (sm=true↔∃ j,j < k/\jP L (jO j)=true)/\Hid (Below w2.heap.size w2 wr)) (fun _ bv _=>64 - (intOf bv).toNat)
 case atStart=>exact ⟨0,false,by omega,rfl,rfl,by unfold Hid;simp,bR⟩
 case round=>
  obtain ⟨k,sm,S,rfl,rfl,ap,R⟩:=hrel;by_cases au:sm=false/\k < 64
  ·obtain ⟨rfl,az⟩:=au;have aF:(k:Int) < 64:=by omega
   have a5:Hid (Calls Tryz.prog 24 #[.slice la L.length lc,.slice (some ⟨wr.heap.size,0,none⟩) 6 6] _ fun e d=>e=.returned (.bool (jP L (jO k)))/\Below w2.heap.size w2 d):=
    (QM.out _ (.slice la L.length lc) wr.heap.size k ((R2.out.2.rows.later R.out).later (bR.alloc lr _)) (Rm wr k az)).mono fun e d ⟨h1,h2⟩=>⟨h1,(R.out.alloc R.out.size _).trans (h2.mono (Nat.le_trans R.out.size ((Below.refl 0 wr).alloc zl _).size))⟩
   have HN:Hid ((jP L (jO k))=true↔∃ j,j < k + 1/\jP L (jO j)=true):=by
    refine ⟨fun h=>⟨k,by omega,h⟩,fun ⟨j,hj,h⟩=>?_⟩;by_cases e:j=k
    ·rw [<- e];exact h
    ·have:=ap.out.2 ⟨j,by omega,h⟩;cases this
   clear ap R;go_wp2_with (go_at_call 24;(with_reducible refine a5.out.mono ?_);rintro e4 w4 ⟨rfl,aP⟩;have B4:=hide aP;clear aP;simp only [])
   go_roundw
   case rel=>exact ⟨k + 1,_,by omega,by go_num,rfl,HN,B4⟩
   case measure=>simp [intOf];omega
  ·have a0:sm=st:=by
    cases sm
    ·cases h:st
     ·rfl
     ·obtain ⟨j,hj,h2⟩:=aJ.out.1 h;have ba:k=64:=by
       refine Classical.byContradiction fun hn=>au ⟨rfl,by omega⟩
      have:=ap.out.2 ⟨j,by omega,h2⟩;cases this
    ·obtain ⟨j,hj,h2⟩:=ap.out.1 rfl;exact (aJ.out.2 ⟨j,by omega,h2⟩).symm
   subst a0;clear ap aJ;have R3:Hid (U8 wr lb (.slice la L.length lc) us L):=(show U8 w2 lb (.slice la L.length lc) us L from R2.out).later R.out;have B3:Hid (Below w.heap.size w wr):=B2.out.trans (R.out.mono B2.out.size);have aI:=hide R3.out.2.rows;clear R R2 B2 QM;cases sm
   ·have az:¬ k < 64:=fun h=>au ⟨rfl,h⟩
    have aF:¬ (k:Int) < 64:=by omega
    clear au;go_upto_region 11 with (first
     |(go_at_call 25;(with_reducible refine (QT.out _ _ L (.inl rfl) aI.out).mono ?_);rintro e5 w5 ⟨rfl,I⟩;have R5:=hide (R3.out.later I);have B5:=hide (B3.out.trans (I.mono B3.out.size));clear I R3 B3;simp only [])
     |(go_at_call 20;(with_reducible refine (QK.out _ B5.out).mono ?_);rintro e6 w6 ⟨n,f,rfl,hP,H⟩;have HP:=hide hP;have R6:=hide (R5.out.later H);have B6:=hide (B5.out.trans (H.mono B5.out.size));clear hP H R5 B5 QK;simp only []))
    by_cases hf:f=0
    ·subst hf;clear QS QH ah ay;go_wp2;go_loopw [15,16] (fun ov iv wq=>∃ (j:Nat),j <= L.length/\iv=.int .i64 ((L.length:Int) - 1 - j)/\Hid (wq.ownsRow w6.heap.size 43 1 ov j (us.reverse.take j))/\Hid (Below w6.heap.size w6 wq)) (fun _ iv _=>(intOf iv + 1).toNat)
     case atStart=>exact ⟨0,zl,by go_num,World.ownsRow_nil _ _ _ _,bR⟩
     case round=>
      obtain ⟨j,be,rfl,Y,ak⟩:=hrel;have bb:=R6.out.2.len;obtain ⟨oa,oc,a1⟩:=dI Y.out;subst a1;have sb:=ak.out.size;by_cases az:j < L.length
      ·have ea:=a7.out (by omega);subst ea;obtain ⟨q,hq⟩:∃ q:Nat,q=L.length - 1 - j:=⟨_,rfl⟩;have aE:(L.length:Int) - 1 - j=(q:Int):=by omega
       rw [aE];have aL:q < us.length:=by omega
       clear hq;have ck:=cell_later (R6.out.1 q aL) ak.out;obtain ⟨ai,ci,bi,hu,-⟩:=R6.out.2.row q aL;have HT:Hid (us.reverse.take (j + 1)=us.reverse.take j ++ [us[q]]):=by
        have:=Mm (us:=us) (j:=j) (by omega);have e:us.length - 1 - j=q:=by omega
        simp only [e] at this;exact this
       rw [hu] at ck HT;clear hu;generalize (L[q]'(by omega)).length=cl at *
       have a9:q < 20:=by omega
       go_wp2_with (at_builtin;refine wpList_append_own_at _ rfl _ _ 32 rfl w6.heap.size 43 j0 (.slice none 0 0) 1 24 Tryz.underlying32 hj ag af ae rfl (by decide) _ _ _ rfl (Y.out.alloc _) ⟨wr.heap.size,0,none⟩ 1 1 [.slice ai _ ci] rfl rfl (cell_one_new _ _ _) (by simp [Value.oneCell']) (by unfold maxLen;omega) (by omega) (by simp;omega) ?_)
       intro aZ X aq ar _ a4;have O9:Hid (X.ownsRow w6.heap.size 43 1 aZ (j + 1) (us.reverse.take (j + 1))):=by
        unfold Hid;rw [HT.out];exact aq
       have V:Hid (Below w6.heap.size w6 X):=(ak.out.alloc sb _).grown ar (by simp;omega) (fun k S=>(Y.out.lt k S).1);clear aq ar a4;go_wp2;go_roundw
       case rel=>exact ⟨j + 1,by omega,by go_num,O9,V⟩
       case measure=>simp [intOf]
      ·obtain rfl:j=L.length:=by omega
       have aE:(L.length:Int) - 1 - (L.length:Nat)=-1:=by omega
       rw [aE];have RR:Hid (Ls wr (.slice oa L.length oc) us.reverse L.reverse):=by
        have h1:=Y.out;rw [List.take_of_length_le (by simp;omega)] at h1;have e:L.length=us.length:=by omega
        refine (R6.out.2.later ak.out).rev (B:=w6.heap.size) (te:=43) ?_;rw [<- e];exact h1
       have BQ:Hid (Below w.heap.size w wr):=B6.out.trans (ak.out.mono B6.out.size);clear Y ak R6 B6;go_upto_region 18 with (first
        |(go_at_call 25;(with_reducible refine (QT.out _ _ L.reverse (.inr (.inl rfl)) RR.out.rows).mono ?_);rintro aH aD ⟨rfl,r⟩;have l:=hide (BQ.out.trans (r.mono BQ.out.size));clear r BQ;simp only [])
        |(go_at_call 20;(with_reducible refine (aA.out _ l.out).mono ?_);rintro aG aC ⟨n',f',rfl,aV,o⟩;have a6:=hide aV;have aj:=hide (l.out.trans (o.mono l.out.size));clear aV o l;simp only []))
       obtain ⟨rfl,rfl⟩:=aB.out _ _ _ _ HP.out a6.out;go_wp2;go_ret;exact ⟨rfl,aj.out⟩
    ·have a2:mt=false:=by
      cases h:mt
      ·rfl
      ·cases (ay.out h)
     subst a2;clear ay aB ax HP aA;go_upto_region 20 with (go_at_call 17;(with_reducible refine (QS.out _ B6.out).mono ?_);rintro e7 w7 ⟨xa,xn,xc,p,rfl,G⟩;have A7:=hide (And.intro (B6.out.trans (G.mono B6.out.size)) (R6.out.later G));clear G QS B6 R6;simp only [cond_true,cond_false])
     obtain ⟨c0,_,h8⟩:=three (w:=w7) (x:=.int .i64 2) (y:=.slice xa xn xc) (z:=.string p) (t:=28);have m:=hide (And.intro (A7.out.1.trans (h8.mono A7.out.1.size)) (A7.out.2.later h8));clear h8 A7;generalize w7.alloc (.cells #[.int .i64 2,.slice xa xn xc,.string p] 28)=u at *
     generalize w7.heap.size=a8 at *
     go_upto_region 23 with (at_builtin;refine dF _ rfl _ _ 32 rfl u.heap.size 43 j0 (.slice none 0 0) 1 24 Tryz.underlying32 hj ag af ae rfl (by decide) _ 0 [] rfl (World.ownsRow_lit _ _ _ lr zl rfl) _ us.length us rfl ((m.out.2.later (bR.alloc lr _)).2.src) (by simp) m.out.2.2.one (by have:=m.out.2.2.len;unfold maxLen;omega) (by have:=m.out.2.2.len;omega) (by simp) ?_;intro v9 X C)
     have O9:Hid (X.ownsRow u.heap.size 43 1 v9 us.length us):=by
      have:=C.own;unfold Hid;simpa using this
     have V:Hid (Below u.heap.size u X):=(bR.alloc lr _).grown C.grew (by simp) (fun k S=>by cases S;exact lr);clear C c0;obtain ⟨aa,ac,ao⟩:=dI O9.out;subst ao;have W9:Hid (Below w.heap.size w X):=m.out.1.trans (V.out.mono m.out.1.size);have ab:=hide (ah.out X W9.out);clear ah;go_upto_region 24 with (first
      |(go_at_call 23;(with_reducible refine ab.out.mono ?_);rintro aY al ⟨mv,ms,rfl,hO,s⟩;have U:=hide hO;have Q:=hide s;have N:=hide (uN O9.out s);clear hO s ab;simp only [])
      |(at_builtin;refine dF _ rfl _ _ 32 rfl u.heap.size 43 j0 (.slice none 0 0) 1 24 Tryz.underlying32 hj ag af ae rfl (by decide) _ us.length us rfl N.out _ ms.length ms rfl (nZ U.out).src (by simp) (nZ U.out).one (by have:=m.out.2.2.len;have:=U.out.len;unfold maxLen;omega) (by have:=m.out.2.2.len;have:=U.out.len;omega) (by have:=V.out.size;have:=Q.out.size;omega) ?_;intro am D C))
     have K:Hid (Below u.heap.size u al):=V.out.trans (Q.out.mono V.out.size);have J:Hid (Below u.heap.size u D):=K.out.grown C.grew K.out.size (fun k S=>(N.out.lt k S).1);have Z:=hide (mem_grown U.out C.grew fun k S=>(O9.out.lt k S).2);have aw:Hid (Ls D am (us ++ ms) (L ++ M)):=Ls.app (m.out.2.later J.out).2 (nZ Z.out) C.own;have O:Hid (Below w.heap.size w D):=m.out.1.trans (J.out.mono m.out.1.size);clear C U Z O9 N V Q W9 K J m;go_wp2_with (first
      |(go_at_call 25;(with_reducible refine (QT.out _ _ (L ++ M) (.inr (.inr rfl)) aw.out.rows).mono ?_);rintro aH aD ⟨rfl,r⟩;have l:=hide (O.out.trans (r.mono O.out.size));clear r O;simp only [])
      |(go_at_call 19;(with_reducible refine (QH.out _ l.out).mono ?_);rintro aG aC ⟨rfl,o⟩;have aj:=hide (l.out.trans (o.mono l.out.size));clear o l;simp only []))
     go_ret
     exact ⟨rfl,aj.out⟩
   ·clear au;by_cases az:k < 64
    ·have aF:(k:Int) < 64:=by omega
     go_upto_region 11 with (first
      |(go_at_call 25;(with_reducible refine (QT.out _ _ L (.inl rfl) aI.out).mono ?_);rintro e5 w5 ⟨rfl,I⟩;have R5:=hide (R3.out.later I);have B5:=hide (B3.out.trans (I.mono B3.out.size));clear I R3 B3;simp only [])
      |(go_at_call 20;(with_reducible refine (QK.out _ B5.out).mono ?_);rintro e6 w6 ⟨n,f,rfl,hP,H⟩;have HP:=hide hP;have R6:=hide (R5.out.later H);have B6:=hide (B5.out.trans (H.mono B5.out.size));clear hP H R5 B5 QK;simp only []))
     have hf:¬ f=0:=fun e=>by
      subst e;cases (ax.out _ HP.out)
     clear ay aB ax HP aA;go_upto_region 20 with (go_at_call 17;(with_reducible refine (QS.out _ B6.out).mono ?_);rintro e7 w7 ⟨xa,xn,xc,p,rfl,G⟩;have A7:=hide (And.intro (B6.out.trans (G.mono B6.out.size)) (R6.out.later G));clear G QS B6 R6;simp only [cond_true,cond_false])
     obtain ⟨c0,_,h8⟩:=three (w:=w7) (x:=.int .i64 1) (y:=.slice xa xn xc) (z:=.string p) (t:=28);have m:=hide (And.intro (A7.out.1.trans (h8.mono A7.out.1.size)) (A7.out.2.later h8));clear h8 A7;generalize w7.alloc (.cells #[.int .i64 1,.slice xa xn xc,.string p] 28)=u at *
     generalize w7.heap.size=a8 at *
     go_upto_region 23 with (at_builtin;refine dF _ rfl _ _ 32 rfl u.heap.size 43 j0 (.slice none 0 0) 1 24 Tryz.underlying32 hj ag af ae rfl (by decide) _ 0 [] rfl (World.ownsRow_lit _ _ _ lr zl rfl) _ us.length us rfl ((m.out.2.later (bR.alloc lr _)).2.src) (by simp) m.out.2.2.one (by have:=m.out.2.2.len;unfold maxLen;omega) (by have:=m.out.2.2.len;omega) (by simp) ?_;intro v9 X C)
     have O9:Hid (X.ownsRow u.heap.size 43 1 v9 us.length us):=by
      have:=C.own;unfold Hid;simpa using this
     have V:Hid (Below u.heap.size u X):=(bR.alloc lr _).grown C.grew (by simp) (fun k S=>by cases S;exact lr);clear C c0;obtain ⟨aa,ac,ao⟩:=dI O9.out;subst ao;have W9:Hid (Below w.heap.size w X):=m.out.1.trans (V.out.mono m.out.1.size);have ab:=hide (ah.out X W9.out);clear ah;go_upto_region 24 with (first
      |(go_at_call 23;(with_reducible refine ab.out.mono ?_);rintro aY al ⟨mv,ms,rfl,hO,s⟩;have U:=hide hO;have Q:=hide s;have N:=hide (uN O9.out s);clear hO s ab;simp only [])
      |(at_builtin;refine dF _ rfl _ _ 32 rfl u.heap.size 43 j0 (.slice none 0 0) 1 24 Tryz.underlying32 hj ag af ae rfl (by decide) _ us.length us rfl N.out _ ms.length ms rfl (nZ U.out).src (by simp) (nZ U.out).one (by have:=m.out.2.2.len;have:=U.out.len;unfold maxLen;omega) (by have:=m.out.2.2.len;have:=U.out.len;omega) (by have:=V.out.size;have:=Q.out.size;omega) ?_;intro am D C))
     have K:Hid (Below u.heap.size u al):=V.out.trans (Q.out.mono V.out.size);have J:Hid (Below u.heap.size u D):=K.out.grown C.grew K.out.size (fun k S=>(N.out.lt k S).1);have Z:=hide (mem_grown U.out C.grew fun k S=>(O9.out.lt k S).2);have aw:Hid (Ls D am (us ++ ms) (L ++ M)):=Ls.app (m.out.2.later J.out).2 (nZ Z.out) C.own;have O:Hid (Below w.heap.size w D):=m.out.1.trans (J.out.mono m.out.1.size);clear C U Z O9 N V Q W9 K J m;go_wp2_with (first
      |(go_at_call 25;(with_reducible refine (QT.out _ _ (L ++ M) (.inr (.inr rfl)) aw.out.rows).mono ?_);rintro aH aD ⟨rfl,r⟩;have l:=hide (O.out.trans (r.mono O.out.size));clear r O;simp only [])
      |(go_at_call 19;(with_reducible refine (QH.out _ l.out).mono ?_);rintro aG aC ⟨rfl,o⟩;have aj:=hide (l.out.trans (o.mono l.out.size));clear o l;simp only []))
     go_ret
     exact ⟨rfl,aj.out⟩
    ·have aF:¬ (k:Int) < 64:=by omega
     go_upto_region 11 with (first
      |(go_at_call 25;(with_reducible refine (QT.out _ _ L (.inl rfl) aI.out).mono ?_);rintro e5 w5 ⟨rfl,I⟩;have R5:=hide (R3.out.later I);have B5:=hide (B3.out.trans (I.mono B3.out.size));clear I R3 B3;simp only [])
      |(go_at_call 20;(with_reducible refine (QK.out _ B5.out).mono ?_);rintro e6 w6 ⟨n,f,rfl,hP,H⟩;have HP:=hide hP;have R6:=hide (R5.out.later H);have B6:=hide (B5.out.trans (H.mono B5.out.size));clear hP H R5 B5 QK;simp only []))
     have hf:¬ f=0:=fun e=>by
      subst e;cases (ax.out _ HP.out)
     clear ay aB ax HP aA;go_upto_region 20 with (go_at_call 17;(with_reducible refine (QS.out _ B6.out).mono ?_);rintro e7 w7 ⟨xa,xn,xc,p,rfl,G⟩;have A7:=hide (And.intro (B6.out.trans (G.mono B6.out.size)) (R6.out.later G));clear G QS B6 R6;simp only [cond_true,cond_false])
     obtain ⟨c0,_,h8⟩:=three (w:=w7) (x:=.int .i64 1) (y:=.slice xa xn xc) (z:=.string p) (t:=28);have m:=hide (And.intro (A7.out.1.trans (h8.mono A7.out.1.size)) (A7.out.2.later h8));clear h8 A7;generalize w7.alloc (.cells #[.int .i64 1,.slice xa xn xc,.string p] 28)=u at *
     generalize w7.heap.size=a8 at *
     go_upto_region 23 with (at_builtin;refine dF _ rfl _ _ 32 rfl u.heap.size 43 j0 (.slice none 0 0) 1 24 Tryz.underlying32 hj ag af ae rfl (by decide) _ 0 [] rfl (World.ownsRow_lit _ _ _ lr zl rfl) _ us.length us rfl ((m.out.2.later (bR.alloc lr _)).2.src) (by simp) m.out.2.2.one (by have:=m.out.2.2.len;unfold maxLen;omega) (by have:=m.out.2.2.len;omega) (by simp) ?_;intro v9 X C)
     have O9:Hid (X.ownsRow u.heap.size 43 1 v9 us.length us):=by
      have:=C.own;unfold Hid;simpa using this
     have V:Hid (Below u.heap.size u X):=(bR.alloc lr _).grown C.grew (by simp) (fun k S=>by cases S;exact lr);clear C c0;obtain ⟨aa,ac,ao⟩:=dI O9.out;subst ao;have W9:Hid (Below w.heap.size w X):=m.out.1.trans (V.out.mono m.out.1.size);have ab:=hide (ah.out X W9.out);clear ah;go_upto_region 24 with (first
      |(go_at_call 23;(with_reducible refine ab.out.mono ?_);rintro aY al ⟨mv,ms,rfl,hO,s⟩;have U:=hide hO;have Q:=hide s;have N:=hide (uN O9.out s);clear hO s ab;simp only [])
      |(at_builtin;refine dF _ rfl _ _ 32 rfl u.heap.size 43 j0 (.slice none 0 0) 1 24 Tryz.underlying32 hj ag af ae rfl (by decide) _ us.length us rfl N.out _ ms.length ms rfl (nZ U.out).src (by simp) (nZ U.out).one (by have:=m.out.2.2.len;have:=U.out.len;unfold maxLen;omega) (by have:=m.out.2.2.len;have:=U.out.len;omega) (by have:=V.out.size;have:=Q.out.size;omega) ?_;intro am D C))
     have K:Hid (Below u.heap.size u al):=V.out.trans (Q.out.mono V.out.size);have J:Hid (Below u.heap.size u D):=K.out.grown C.grew K.out.size (fun k S=>(N.out.lt k S).1);have Z:=hide (mem_grown U.out C.grew fun k S=>(O9.out.lt k S).2);have aw:Hid (Ls D am (us ++ ms) (L ++ M)):=Ls.app (m.out.2.later J.out).2 (nZ Z.out) C.own;have O:Hid (Below w.heap.size w D):=m.out.1.trans (J.out.mono m.out.1.size);clear C U Z O9 N V Q W9 K J m;go_wp2_with (first
      |(go_at_call 25;(with_reducible refine (QT.out _ _ (L ++ M) (.inr (.inr rfl)) aw.out.rows).mono ?_);rintro aH aD ⟨rfl,r⟩;have l:=hide (O.out.trans (r.mono O.out.size));clear r O;simp only [])
      |(go_at_call 19;(with_reducible refine (QH.out _ l.out).mono ?_);rintro aG aC ⟨rfl,o⟩;have aj:=hide (l.out.trans (o.mono l.out.size));clear o l;simp only []))
     go_ret
     exact ⟨rfl,aj.out⟩
end
end Kp
end Go.Proofs.YtceahffmenbibaaGreatDoor
namespace Go.Proofs.YtceahffmenbibaaGreatDoor
namespace So
section
open Rd
section
def Gf (L L':List Cl):Prop:=∀ e:Cl,L.countP (fun d=>iw d e)=L'.countP (fun d=>iw d e)
variable {L L':List Cl} {c:Cl}
theorem Gf.symm (h:Gf L L'):Gf L' L:=fun e=>(h e).symm
theorem Gf.sets (h:Gf L L'):y7 L L':=fun c e=>by
 have a:0 < L.countP (fun d=>iw d c):=List.countP_pos_iff.2 ⟨c,e,kP.2 fun _=>Iff.rfl⟩;rw [h c] at a;obtain ⟨d,hd,b⟩:=List.countP_pos_iff.1 a;exact ⟨d,hd,fun l=>(kP.1 b l).symm⟩
theorem Gf.P9 (h:L.Perm L'):Gf L L':=fun e=>h.countP_eq _
theorem Gf.snoc (h:Gf L L') (c:Cl):Gf (L ++ [c]) (L' ++ [c]):=fun e=>by
 rw [List.countP_append,List.countP_append,h e]
theorem Gf.right (h:Gf L L') (b:eH L c):eH L' c:=by
 rcases b with b | ⟨l,r,e,b⟩
 ·exact .inl (Bl h.sets (fun _ h=>h) b)
 ·refine .inr ⟨l,r,e,fun D g f=>?_⟩;obtain ⟨j,i,d⟩:=h.symm.sets D g;refine Bl h.sets (fun x a=>?_) (b j i ((d _).1 f))
  rcases List.mem_append.1 a with a | a
  ·exact List.mem_append_left _ a
  ·obtain ⟨y,g1,g2,rfl⟩:=nN.1 a;exact List.mem_append_right _ (nN.2 ⟨y,(d y).2 g1,g2,rfl⟩)
theorem Gf.rem (h:Gf L L') {M:List Cl} (a:rem L c=some M):∃ i,rem L' c=some i/\Gf M i:=by
 have f:0 < L.countP (fun d=>iw d c):=by
  refine Nat.pos_of_ne_zero fun e=>?_
  have b:∀ {L:List Cl} {M:List Cl},Rd.rem L c=some M->L.countP (fun d=>iw d c) ≠ 0:=by
   intro L
   induction L with
   | nil=>intro M h;simp [Rd.rem] at h
   | cons d r ih=>
    intro M h;unfold Rd.rem at h;rw [List.countP_cons];split at h
    ·rename_i hd;rw [if_pos hd];omega
    ·rename_i hd;rw [if_neg hd]
     cases a:Rd.rem r c with
     | none=>rw [a] at h;cases h
     | some N=>have:=ih a;omega
  exact b a e
 obtain ⟨n,g,l⟩:=xI f;rw [a] at g;obtain rfl:=Option.some.inj g;obtain ⟨m,k,j⟩:=xI (L:=L') (c:=c) (by rw [<- h c];exact f);refine ⟨m,k,fun e=>?_⟩;have:=l e;have:=j e;have:=h e;omega
theorem vg {v:Bs}:∀ (l:List Bs) {L L':List Cl} (k:Nat) (res:Nat × Nat),Gf L L'->mg v L l k res->mg v L' l k res
 | [],L,L',k,res,hE,h=>h
 | p :: r,L,L',k,res,hE,h=>by
  unfold mg at h ⊢;split
  ·rename_i e;rw [if_pos e] at h;exact h
  ·rename_i e;rw [if_neg e] at h;split
   ·rename_i a;rw [a] at h;exact h
   ·rename_i c a;rw [a] at h;simp only at h
    cases b:rem L c with
    | none=>
     rw [b] at h
     cases f:rem L' c with
     | none=>exact h
     | some n=>
      obtain ⟨M,g,_⟩:=hE.symm.rem f;rw [b] at g;cases g
    | some M=>
     rw [b] at h;obtain ⟨n,g1,g2⟩:=hE.rem b;rw [g1];exact vg r (k + 1) res g2 h
   ·rename_i c a;rw [a] at h;simp only at h;refine ⟨fun m=>h.1 fun j=>m (hE.right j),fun j=>?_⟩;have d:=h.2 (hE.symm.right j);split
    ·rename_i i;rw [if_pos i] at d;exact d
    ·rename_i i;rw [if_neg i] at d;exact vg r (k + 1) res (hE.snoc c) d
end
end
end So
end Go.Proofs.YtceahffmenbibaaGreatDoor
namespace Go.Proofs.YtceahffmenbibaaGreatDoor
namespace Kp
section
open Go Go.RowKit Go.Deep Rd Go.Proofs.YtceahffmenbibaaGreatDoor.So
def Db (L:List Cl):Prop:=(∀ c ∈ L,∀ x ∈ c,pW 6 x)/\(∀ c ∈ L,c.length <= 4)/\L.length <= 40
theorem IB (raw:List Int):Db (eF raw 6 20):=
 ⟨TN (by omega),fun c a=>by
  obtain ⟨r,rfl⟩:=Ji a;exact TQ _ _,by have:=CU (raw:=raw) (vars:=6) (most:=20);omega⟩
theorem Db.rev {L:List Cl} (h:Db L):Db L.reverse:=
 ⟨fun c a=>h.1 c (List.mem_reverse.1 a),fun c a=>h.2.1 c (List.mem_reverse.1 a),by rw [List.length_reverse];exact h.2.2⟩
theorem Db.app {L M:List Cl} (h:Db L) (b:Db M) (d:(L ++ M).length <= 40):Db (L ++ M):=
 ⟨fun c a=>(List.mem_append.1 a).elim (h.1 c) (b.1 c),fun c a=>(List.mem_append.1 a).elim (h.2.1 c) (b.2.1 c),d⟩
theorem Db.txt {L:List Cl} (h:Db L):U5 ⟨(fF 6 L).toArray⟩ 6 L 31:=Pj h.1 h.2.1 h.2.2
theorem Db.small {L:List Cl} (h:Db L):(fF 6 L).length <= 20000:=by
 have b:=Cu L h.2.1;have a:=DF (n:=6) (by omega) (l:=L) (by have:=h.2.2;omega) h.1;have:=h.2.2;omega
theorem Db.text {L:List Cl} (h:Db L) (W:World) (v:Value) (d:Rows W v L):Calls Tryz.prog 25 #[.int .i64 6,v] W fun e a=>e=.returned (.string ⟨(fF 6 L).toArray⟩)/\Below W.heap.size W a:=
 LP W v L 6 d h.1 (fun c b=>by have:=h.2.1 c b;omega) (by have:=h.2.2;omega) (by omega) h.small
theorem pR {L:List Cl} (i:Db L) {p:Bs} {n f:Int} (h:Rd.Checked (fF 6 L) p (n,f)):∃ a b:Nat,n=a/\f=b/\mg (Lib.decDigits 6) L (splitB 10 p) 0 (a,b):=by
 have d:fJ (fF 6 L)=(((6:Nat):Int),L,0):=i.txt.rd;unfold Rd.Checked at h;rw [d,if_pos rfl] at h;obtain ⟨a,b,e,g⟩:=h;simp only [Prod.mk.injEq] at e;exact ⟨a,b,e.1,e.2,g⟩
theorem FJ {L:List Cl} (g:Db L) {p:Bs} {n f d h:Int} (j:Rd.Checked (fF 6 L) p (n,f)) (i:Rd.Checked (fF 6 L.reverse) p (d,h)):d=n/\h=f:=by
 obtain ⟨a,b,rfl,rfl,m⟩:=pR g j;obtain ⟨q,o,rfl,rfl,l⟩:=pR g.rev i;have k:=vg _ 0 (a,b) (Gf.P9 (List.reverse_perm L).symm) m;have e:=wP _ _ _ _ _ _ l k;cases e
 exact ⟨rfl,rfl⟩
theorem zL {L:List Cl} (f:Db L) {p:Bs} {n:Int} (h:Rd.Checked (fF 6 L) p (n,0)):¬ ∃ t,Sat t L:=by
 obtain ⟨a,b,_,g,c⟩:=pR f h;obtain rfl:b=0:=by omega
 exact CV (fun p b c h l e=>lq (Cw (V:=6) (by omega) h l e)) _ L 0 a (fun d hd l e=>(f.1 d hd l e).1) c
theorem Db.six {L:List Cl} (h:Db L):(fJ (⟨(fF 6 L).toArray⟩:ByteArray).data.toList).1 <= 6/\∀ c ∈ (fJ (⟨(fF 6 L).toArray⟩:ByteArray).data.toList).2.1,RH c:=by
 rw [h.txt.rd];exact ⟨by simp,fun c b l a=>(h.1 c b l a).2⟩
theorem Jo (p:Prop):∃ b:Bool,b=true↔p:=by
 by_cases h:p
 ·exact ⟨true,fun _=>h,fun _=>rfl⟩
 ·exact ⟨false,fun e=>(by cases e),fun e=>absurd e h⟩
theorem D7 (w:World) (hg:vE w) (raw more:List Int) (I off X K u Y:Nat) (d:ByteArray) (Z:d.size <= maxLen)
  (C:∀ i (D:i < raw.length),w.cell? ⟨I,off + i,none⟩=some (.int .i64 raw[i])) (hr:∀ x ∈ raw,-9223372036854775808 <= x/\x <= 9223372036854775807) (J:Option Addr) (O:0 < raw.length->J=some ⟨I,off,none⟩)
  (y:∀ i (D:i < more.length),w.cell? ⟨K,u + i,none⟩=some (.int .i64 more[i])) (hm:∀ x ∈ more,-9223372036854775808 <= x/\x <= 9223372036854775807) (M:Option Addr) (Q:0 < more.length->M=some ⟨K,u,none⟩):
  Calls Tryz.prog 14 #[.slice J raw.length X,.string d,.slice M more.length Y] w fun e s=>e=.returned (.bool true)/\Below w.heap.size w s:=by
 have j:=IB raw;have m6:=IB more;have hL:=CU (raw:=raw) (vars:=6) (most:=20);have R:=CU (raw:=more) (vars:=6) (most:=20);have a6:=j.app m6 (by rw [List.length_append];omega);obtain ⟨B,l⟩:=Jo (∃ t,Sat t (eF raw 6 20));obtain ⟨mt,P⟩:=Jo (∃ t,Sat t (eF raw 6 20 ++ eF more 6 20));have hC:∀ (r:List Int) (b o c:Nat) (a:Option Addr),(∀ i (D:i < r.length),w.cell? ⟨b,o + i,none⟩=some (.int .i64 r[i]))->(∀ x ∈ r,-9223372036854775808 <= x/\x <= 9223372036854775807)->(0 < r.length->a=some ⟨b,o,none⟩)->∀ W,Below w.heap.size w W->Calls Tryz.prog 23 #[.slice a r.length c,.int .i64 6,.int .i64 20] W fun e s=>∃ v,e=.returned v/\Rz 43 3 W.heap.size s v (eF r 6 20)/\Below W.heap.size W s:=fun r b o c a H U h3 W m=>
  Fw W b o c r 6 20 (fun i D=>by rw [m.cell (p:=⟨b,o + i,none⟩) (block_lt_of_cell (H i D))];exact H i D) U a h3 (by omega) (by omega) (by omega)
 refine GD vE (fun h m=>h.later m) _ _ d (eF raw 6 20) (eF more 6 20) (fun L=>⟨(fF 6 L).toArray⟩) B mt (fun n f=>Rd.Checked (fF 6 (eF raw 6 20)) d.data.toList (n,f)) (fun n f=>Rd.Checked (fF 6 (eF raw 6 20).reverse) d.data.toList (n,f)) w hg hL R
  (fun W q=>Gi W q) (hC raw I off X J C hr O) (hC more K u Y M y hm Q)
  (fun W v g k G hv=>oJ W v _ 6 g (jO k) G j.1 (fun c z=>by have:=j.2.1 c z;omega) (by omega) (by omega) hv)
  (fun W v L' S G=>by rcases S with rfl | rfl | rfl <;> first | exact j.text W v G | exact j.rev.text W v G | exact a6.text W v G)
  (fun W q=>(Jn _ d W j.txt.size Z j.six q.1 q.2).mono fun e s ⟨m,n,f,he,z⟩=>⟨n,f,he,z,m⟩)
  (fun W q=>(Jn _ d W j.rev.txt.size Z j.rev.six q.1 q.2).mono fun e s ⟨m,n,f,he,z⟩=>⟨n,f,he,z,m⟩)
  (fun n f n' f' H U=>FJ j H U) (fun n h=>?_) (fun W q=>?_) (fun W q=>?_) (fun h=>?_) (l.trans (PD j.1))
 ·cases N:B
  ·rfl
  ·exact absurd (l.1 N) (zL j h)
 ·refine (rf (n:=6) (L:=eF raw 6 20) (mx:=31) _ W q.1 j.txt.size j.txt.rd j.txt.runs).mono ?_
  rintro e s ⟨m,⟨p,rfl,hN⟩ | ⟨g,V,p,rfl,_,_,R⟩⟩
  ·have e:B=false:=by
    cases N:B
    ·rfl
    ·exact absurd (l.1 N) (qH j.1 hN)
   subst e;exact ⟨_,_,_,_,rfl,m⟩
  ·have e:B=true:=l.2 (IX R);subst e;exact ⟨_,_,_,_,rfl,m⟩
 ·refine (JL a6.txt (by omega) W q).mono ?_;rintro e s ⟨b,rfl,m,E⟩;have:b=mt:=by
   cases b <;> cases mt <;> simp_all
  subst this;exact ⟨rfl,E⟩
 ·obtain ⟨t,ht⟩:=P.1 h;exact l.2 ⟨t,fun c z=>ht c (List.mem_append_left _ z)⟩
end
end Kp
end Go.Proofs.YtceahffmenbibaaGreatDoor
namespace Go.Proofs.YtceahffmenbibaaGreatDoor
open Go Go.ChangeShapes Go.WideShapes Go.ChangeAt Go.RowKit
theorem Tryz.own:ownKnob Tryz.prog.godebug=none:=by kernel_rfl
theorem Tryz.laidOut:laidOutB Tryz.prog=true:=by kernel_rfl
def Vt:ByteArray:={ data:=#[105,110,118,97,108,105,100,32,115,121,110,116,97,120] }
def VA:ByteArray:={ data:=#[118,97,108,117,101,32,111,117,116,32,111,102,32,114,97,110,103,101] }
def putCells (h:Array Obj) (g:Nat) (cs:Array Value):Array Obj:=h.modify g fun
 | .cells _ t frozen=>.cells cs t frozen
 | o=>o
def intCells (k:IntKind) (l:List Int):Array Value:=(l.map fun z=>Value.int k z).toArray
def tF:List Int:=[0,1,28,2,29,14,24,3,30,22,20,15,25,17,4,8,31,27,13,23,21,19,16,7,26,12,18,6,11,5,10,9]
def tu:List Int:=[0,1,56,2,57,49,28,3,61,58,42,50,38,29,17,4,62,47,59,36,45,43,51,22,53,39,33,30,24,18,12,5,63,55,48,27,60,41,37,16,46,35,44,21,52,32,23,11,54,26,40,15,34,20,31,10,25,14,19,9,13,8,7,6]
def wC:List Int:=[1,10,100,1000,10000,100000,1000000,10000000,100000000,1000000000,10000000000,100000000000,1000000000000,10000000000000,100000000000000,1000000000000000,10000000000000000,100000000000000000,1000000000000000000,10000000000000000000]
end Go.Proofs.YtceahffmenbibaaGreatDoor
