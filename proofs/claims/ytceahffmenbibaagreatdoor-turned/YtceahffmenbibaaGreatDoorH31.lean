/- Sqs8. -/
import Derived.Test.YtceahffmenbibaaGreatDoorH30
set_option linter.unusedVariables false
set_option linter.unusedSimpArgs false
set_option maxHeartbeats 4000000
set_option maxRecDepth 100000
namespace Go.Proofs.YtceahffmenbibaaGreatDoor
namespace So
open Go Go.RowKit Go.Deep Rd
namespace Qs
variable {sb g cap m:Nat} {post:List Value} {dS xs:List Nat} {w0 w:World} {cf:Nat->Nat->Int}
def WB (g:Nat) (post:List Value) (dS:List Nat) (w0:World) (e:Ending) (w':World):Prop:=∃ (t:Bool) (xs':List Nat),e=.returned (.bool t)/\Pm g post dS w0 xs' w'
theorem qI (C:lX sb g post dS w0 cf) (h:Pm g post dS w0 xs w) (hm:dS.length=m) (am:m <= 1099511627776) {a b:Nat} (aq:a < b) (hb:b <= m):
  Calls Tryz.prog 251 #[.slice (some ⟨g,0,none⟩) m cap,.int .i64 (a:Nat),.int .i64 (b:Nat),.func (.func 223) #[.pointer (some ⟨sb,0,none⟩)] #[]] w fun e w'=>WB g post dS w0 e w':=by
 have HC:=hide C;have S0:=hide h;clear C h;go_enter Tryz.func251,Tryz.ntmps251
 go_wp2;go_loopw [9,10] (fun iv cv wr=>∃ (i c:Nat) (xs:List Nat),iv=.int .i64 (i:Nat)/\cv=.int .i64 (c:Nat)/\a < i/\i <= b/\c <= 5/\Hid (Pm g post dS w0 xs wr)) (fun _ cv _=>5 - (intOf cv).toNat)
 case atStart=>exact ⟨a + 1,0,xs,by go_num,rfl,by omega,by omega,by omega,S0⟩
 case round=>
  clear S0;obtain ⟨i,c,f,rfl,rfl,ai,ag,ap,d⟩:=hrel;by_cases hc:c < 5
  ·have ah:(c:Int) < 5:=by omega
   go_wp2;go_loopw [9] (fun iv wr=>∃ (i:Nat) (xs:List Nat),iv=.int .i64 (i:Nat)/\a < i/\i <= b/\Hid (Pm g post dS w0 xs wr)) (fun iv _=>b - (intOf iv).toNat)
   case atStart=>exact ⟨i,f,rfl,by omega,by omega,d⟩
   case round=>
    clear d;obtain ⟨i,f,rfl,ai,ag,d⟩:=hrel;have hl:=d.out.len;obtain ⟨k,hk⟩:∃ k,k + 1=i:=⟨i - 1,by omega⟩;have ek:(i:Int) - 1=(k:Int):=by omega
    have ae:k < b:=by omega
    clear hk;go_upto_region 5 with fail
    go_cut [36] from 19 to 38 (fun v wx=>wP g post dS w0 f (i < b) v wx)
    case first=>
     by_cases hg:i < b
     ·have hd:decide ((i:Int) < (b:Int))=true:=by simp;omega
      have l:i < f.length:=by omega
      have j:k < f.length:=by omega
      have P:i < m:=by omega
      have O:k < m:=by omega
      obtain ⟨t,G⟩:=d.out.cell l;obtain ⟨s,E⟩:=d.out.cell j;have I:=hide (fun p:iF wr=>HC.out.at d.out (d.out.mem l) (d.out.mem j) p);have R:=iF.cell t;have Q:=iF.cell s;have K:Nonempty (iF wr):=⟨⟨wr,bR⟩⟩;refine dx (by kernel_rfl) (by kernel_rfl) ?_
      repeat (go_big_quiet_step ((go_at_call 223;exact I.out _)))
      refine wpQuiet_nil ?_;rintro _ ⟨p,rfl⟩;have H:=hide (d.out.below p.h);have HG:=hide hg;clear d R Q t s G E I K hg;generalize p.W=wn at *
      go_wp2;go_meet
      exact ⟨_,rfl,fun _=>HG.out,H.out⟩
     ·have hd:decide ((i:Int) < (b:Int))=false:=by simp;omega
      have K:Nonempty (iF wr):=⟨⟨wr,bR⟩⟩;refine dx (by kernel_rfl) (by kernel_rfl) ?_
      repeat (go_big_quiet_step (fail))
      refine wpQuiet_nil ?_;rintro _ ⟨p,rfl⟩;have H:=hide (d.out.below p.h);clear d K;generalize p.W=wn at *
      go_wp2;go_meet
      exact ⟨false,rfl,fun h=>(by cases h),H.out⟩
    case rest=>
     obtain ⟨b1,rfl,aa,ab⟩:=hcut;have H:=hide ab;clear ab d;have d:=H;clear H;obtain ⟨wr,U⟩:∃ x,x=wc:=⟨_,rfl⟩;subst U;clear ek;cases b1
     ·clear aa;by_cases af:i=b
      ·subst af;go_wp2;go_ret;exact ⟨true,f,rfl,d.out⟩
      ·have al:((i:Int) == (b:Int))=false:=by simp;omega
       have ak:i < b:=by omega
       by_cases ar:b < a + 50
       ·have ac:(b:Int) - (a:Int) < 50:=by omega
        go_wp2;go_ret
        exact ⟨false,f,rfl,d.out⟩
       ·have ac:¬ (b:Int) - (a:Int) < 50:=by omega
        obtain ⟨k,hk⟩:∃ k,k + 1=i:=⟨i - 1,by omega⟩;have ek:(i:Int) - 1=(k:Int):=by omega
        have ae:k < b:=by omega
        have an:k < i:=by omega
        go_upto_region 11 with fail
        go_cut [] from 46 to 61 (fun wx=>∃ ys,Pm g post dS w0 ys wx)
        case first=>
         have l:i < f.length:=by omega
         have j:k < f.length:=by omega
         have P:i < m:=by omega
         have O:k < m:=by omega
         by_cases hs:i=k
         ·exact absurd hs (by omega)
         ·obtain ⟨t,G⟩:=d.out.cell l;obtain ⟨s,E⟩:=d.out.cell j;have J:=hide (d.out.swap l j);have D:¬ k=i:=by omega
          generalize f[i]=x at *
          generalize f[k]=y at *
          go_region
          all_goals
           have S:=hide (J.out.below bR.drew);clear d J;go_wp2;go_meet;exact ⟨_,S.out⟩
        case rest=>
         obtain ⟨ys,hy⟩:=hcut;have H:=hide hy;clear hy d;have d:=H;clear H;obtain ⟨f,ad⟩:∃ x,x=ys:=⟨_,rfl⟩;subst ad;have hl:=d.out.len;obtain ⟨wr,U⟩:∃ x,x=wc:=⟨_,rfl⟩;subst U;by_cases h2:a + 2 <= i
         ·have aj:(2:Int) <= (i:Int) - (a:Int):=by omega
          go_wp2;go_loopw [11] (fun u wr=>∃ (q:Nat) (xs:List Nat),u=.int .i64 (q:Nat)/\q < b/\q + 1 <= b/\Hid (Pm g post dS w0 xs wr)) (fun u _=>(intOf u).toNat)
          case atStart=>exact ⟨k,f,by go_num,by omega,by omega,d⟩
          case round=>
           clear d;obtain ⟨q,f,rfl,Y,X,d⟩:=hrel;have hl:=d.out.len;by_cases hq:1 <= q
           ·have B:(1:Int) <= (q:Int):=by omega
            obtain ⟨r,M⟩:∃ r,r + 1=q:=⟨q - 1,by omega⟩;have er:(q:Int) - 1=(r:Int):=by omega
            have l:q < f.length:=by omega
            have j:r < f.length:=by omega
            have P:q < m:=by omega
            have O:r < m:=by omega
            have n:=hide (show ¬ q=r/\¬ r=q by omega);have o:=hide M;clear M;obtain ⟨t,G⟩:=d.out.cell l;obtain ⟨s,E⟩:=d.out.cell j;have I:=hide (fun p:iF wr=>HC.out.at d.out (d.out.mem l) (d.out.mem j) p);have R:=iF.cell t;have Q:=iF.cell s;go_upto_region 16 with fail
            have K:Nonempty (iF wr):=⟨⟨wr,bR⟩⟩;refine dx (by kernel_rfl) (by kernel_rfl) ?_
            repeat (go_big_quiet_step ((go_at_call 223;exact I.out _)))
            refine wpQuiet_nil ?_;rintro _ ⟨p,rfl⟩;have H:=hide (d.out.below p.h);clear d R Q t s G E I K;generalize p.W=wr at *
            have d:=H;clear H;obtain ⟨z,L⟩:∃ z,z=cf f[q] f[r]:=⟨_,rfl⟩;rw [<- L];clear L;generalize f[q]=x;generalize f[r]=y;generalize T:(!decide (z < 0))=b;cases b
            ·obtain ⟨Z,D⟩:=n.out;obtain ⟨t,G⟩:=d.out.cell l;obtain ⟨s,E⟩:=d.out.cell j;have J:=hide (d.out.swap l j);generalize f[q]=x at *
             generalize f[r]=y at *
             go_upto_region 17 with fail
             go_region
             all_goals
              have S:=hide (J.out.below bR.drew);clear d J;go_wp2;go_roundw
              case rel=>exact ⟨r,_,by go_num,by have:=o.out;omega,by have:=o.out;omega,S⟩
              case measure=>have V:=o.out;simp [intOf];omega
            ·clear er l j P O n;by_cases h3:i + 2 <= b
             ·have N:(2:Int) <= (b:Int) - (i:Int):=by omega
              go_wp2;go_loopw [12] (fun u wr=>∃ (q:Nat) (xs:List Nat),u=.int .i64 (q:Nat)/\i < q/\q <= b/\Hid (Pm g post dS w0 xs wr)) (fun u _=>b - (intOf u).toNat)
              case atStart=>exact ⟨i + 1,f,by go_num,by omega,by omega,d⟩
              case round=>
               clear d;obtain ⟨q,f,rfl,Y,X,d⟩:=hrel;have hl:=d.out.len;by_cases hq:q < b
               ·have B:(q:Int) < (b:Int):=by omega
                obtain ⟨r,M⟩:∃ r,r + 1=q:=⟨q - 1,by omega⟩;have er:(q:Int) - 1=(r:Int):=by omega
                have l:q < f.length:=by omega
                have j:r < f.length:=by omega
                have P:q < m:=by omega
                have O:r < m:=by omega
                have n:=hide (show ¬ q=r/\¬ r=q by omega);have o:=hide M;clear M;obtain ⟨t,G⟩:=d.out.cell l;obtain ⟨s,E⟩:=d.out.cell j;have I:=hide (fun p:iF wr=>HC.out.at d.out (d.out.mem l) (d.out.mem j) p);have R:=iF.cell t;have Q:=iF.cell s;go_upto_region 22 with fail
                have K:Nonempty (iF wr):=⟨⟨wr,bR⟩⟩;refine dx (by kernel_rfl) (by kernel_rfl) ?_
                repeat (go_big_quiet_step ((go_at_call 223;exact I.out _)))
                refine wpQuiet_nil ?_;rintro _ ⟨p,rfl⟩;have H:=hide (d.out.below p.h);clear d R Q t s G E I K;generalize p.W=wr at *
                have d:=H;clear H;obtain ⟨z,L⟩:∃ z,z=cf f[q] f[r]:=⟨_,rfl⟩;rw [<- L];clear L;generalize f[q]=x;generalize f[r]=y;generalize T:(!decide (z < 0))=b;cases b
                ·obtain ⟨Z,D⟩:=n.out;obtain ⟨t,G⟩:=d.out.cell l;obtain ⟨s,E⟩:=d.out.cell j;have J:=hide (d.out.swap l j);generalize f[q]=x at *
                 generalize f[r]=y at *
                 go_upto_region 23 with fail
                 go_region
                 all_goals
                  have S:=hide (J.out.below bR.drew);clear d J;go_wp2;go_roundw
                  case rel=>exact ⟨q + 1,_,by go_num,by omega,by omega,S⟩
                  case measure=>have V:=o.out;simp [intOf];omega
                ·clear er l j P O n;go_wp2;go_roundw
                 case rel=>exact ⟨i,c + 1,f,rfl,by go_num,by omega,by omega,by omega,d⟩
                 case measure=>simp [intOf];omega
               ·have B:¬ ((q:Int) < (b:Int)):=by omega
                go_wp2;go_roundw
                case rel=>exact ⟨i,c + 1,f,rfl,by go_num,by omega,by omega,by omega,d⟩
                case measure=>simp [intOf];omega
             ·have N:¬ (2:Int) <= (b:Int) - (i:Int):=by omega
              go_wp2;go_roundw
              case rel=>exact ⟨i,c + 1,f,rfl,by go_num,by omega,by omega,by omega,d⟩
              case measure=>simp [intOf];omega
           ·have B:¬ ((1:Int) <= (q:Int)):=by omega
            by_cases h3:i + 2 <= b
            ·have N:(2:Int) <= (b:Int) - (i:Int):=by omega
             go_wp2;go_loopw [12] (fun u wr=>∃ (q:Nat) (xs:List Nat),u=.int .i64 (q:Nat)/\i < q/\q <= b/\Hid (Pm g post dS w0 xs wr)) (fun u _=>b - (intOf u).toNat)
             case atStart=>exact ⟨i + 1,f,by go_num,by omega,by omega,d⟩
             case round=>
              clear d;obtain ⟨q,f,rfl,Y,X,d⟩:=hrel;have hl:=d.out.len;by_cases hq:q < b
              ·have B:(q:Int) < (b:Int):=by omega
               obtain ⟨r,M⟩:∃ r,r + 1=q:=⟨q - 1,by omega⟩;have er:(q:Int) - 1=(r:Int):=by omega
               have l:q < f.length:=by omega
               have j:r < f.length:=by omega
               have P:q < m:=by omega
               have O:r < m:=by omega
               have n:=hide (show ¬ q=r/\¬ r=q by omega);have o:=hide M;clear M;obtain ⟨t,G⟩:=d.out.cell l;obtain ⟨s,E⟩:=d.out.cell j;have I:=hide (fun p:iF wr=>HC.out.at d.out (d.out.mem l) (d.out.mem j) p);have R:=iF.cell t;have Q:=iF.cell s;go_upto_region 22 with fail
               have K:Nonempty (iF wr):=⟨⟨wr,bR⟩⟩;refine dx (by kernel_rfl) (by kernel_rfl) ?_
               repeat (go_big_quiet_step ((go_at_call 223;exact I.out _)))
               refine wpQuiet_nil ?_;rintro _ ⟨p,rfl⟩;have H:=hide (d.out.below p.h);clear d R Q t s G E I K;generalize p.W=wr at *
               have d:=H;clear H;obtain ⟨z,L⟩:∃ z,z=cf f[q] f[r]:=⟨_,rfl⟩;rw [<- L];clear L;generalize f[q]=x;generalize f[r]=y;generalize T:(!decide (z < 0))=b;cases b
               ·obtain ⟨Z,D⟩:=n.out;obtain ⟨t,G⟩:=d.out.cell l;obtain ⟨s,E⟩:=d.out.cell j;have J:=hide (d.out.swap l j);generalize f[q]=x at *
                generalize f[r]=y at *
                go_upto_region 23 with fail
                go_region
                all_goals
                 have S:=hide (J.out.below bR.drew);clear d J;go_wp2;go_roundw
                 case rel=>exact ⟨q + 1,_,by go_num,by omega,by omega,S⟩
                 case measure=>have V:=o.out;simp [intOf];omega
               ·clear er l j P O n;go_wp2;go_roundw
                case rel=>exact ⟨i,c + 1,f,rfl,by go_num,by omega,by omega,by omega,d⟩
                case measure=>simp [intOf];omega
              ·have B:¬ ((q:Int) < (b:Int)):=by omega
               go_wp2;go_roundw
               case rel=>exact ⟨i,c + 1,f,rfl,by go_num,by omega,by omega,by omega,d⟩
               case measure=>simp [intOf];omega
            ·have N:¬ (2:Int) <= (b:Int) - (i:Int):=by omega
             go_wp2;go_roundw
             case rel=>exact ⟨i,c + 1,f,rfl,by go_num,by omega,by omega,by omega,d⟩
             case measure=>simp [intOf];omega
         ·have aj:¬ (2:Int) <= (i:Int) - (a:Int):=by omega
          by_cases h3:i + 2 <= b
          ·have N:(2:Int) <= (b:Int) - (i:Int):=by omega
           go_wp2;go_loopw [12] (fun u wr=>∃ (q:Nat) (xs:List Nat),u=.int .i64 (q:Nat)/\i < q/\q <= b/\Hid (Pm g post dS w0 xs wr)) (fun u _=>b - (intOf u).toNat)
           case atStart=>exact ⟨i + 1,f,by go_num,by omega,by omega,d⟩
           case round=>
            clear d;obtain ⟨q,f,rfl,Y,X,d⟩:=hrel;have hl:=d.out.len;by_cases hq:q < b
            ·have B:(q:Int) < (b:Int):=by omega
             obtain ⟨r,M⟩:∃ r,r + 1=q:=⟨q - 1,by omega⟩;have er:(q:Int) - 1=(r:Int):=by omega
             have l:q < f.length:=by omega
             have j:r < f.length:=by omega
             have P:q < m:=by omega
             have O:r < m:=by omega
             have n:=hide (show ¬ q=r/\¬ r=q by omega);have o:=hide M;clear M;obtain ⟨t,G⟩:=d.out.cell l;obtain ⟨s,E⟩:=d.out.cell j;have I:=hide (fun p:iF wr=>HC.out.at d.out (d.out.mem l) (d.out.mem j) p);have R:=iF.cell t;have Q:=iF.cell s;go_upto_region 22 with fail
             have K:Nonempty (iF wr):=⟨⟨wr,bR⟩⟩;refine dx (by kernel_rfl) (by kernel_rfl) ?_
             repeat (go_big_quiet_step ((go_at_call 223;exact I.out _)))
             refine wpQuiet_nil ?_;rintro _ ⟨p,rfl⟩;have H:=hide (d.out.below p.h);clear d R Q t s G E I K;generalize p.W=wr at *
             have d:=H;clear H;obtain ⟨z,L⟩:∃ z,z=cf f[q] f[r]:=⟨_,rfl⟩;rw [<- L];clear L;generalize f[q]=x;generalize f[r]=y;generalize T:(!decide (z < 0))=b;cases b
             ·obtain ⟨Z,D⟩:=n.out;obtain ⟨t,G⟩:=d.out.cell l;obtain ⟨s,E⟩:=d.out.cell j;have J:=hide (d.out.swap l j);generalize f[q]=x at *
              generalize f[r]=y at *
              go_upto_region 23 with fail
              go_region
              all_goals
               have S:=hide (J.out.below bR.drew);clear d J;go_wp2;go_roundw
               case rel=>exact ⟨q + 1,_,by go_num,by omega,by omega,S⟩
               case measure=>have V:=o.out;simp [intOf];omega
             ·clear er l j P O n;go_wp2;go_roundw
              case rel=>exact ⟨i,c + 1,f,rfl,by go_num,by omega,by omega,by omega,d⟩
              case measure=>simp [intOf];omega
            ·have B:¬ ((q:Int) < (b:Int)):=by omega
             go_wp2;go_roundw
             case rel=>exact ⟨i,c + 1,f,rfl,by go_num,by omega,by omega,by omega,d⟩
             case measure=>simp [intOf];omega
          ·have N:¬ (2:Int) <= (b:Int) - (i:Int):=by omega
           go_wp2;go_roundw
           case rel=>exact ⟨i,c + 1,f,rfl,by go_num,by omega,by omega,by omega,d⟩
           case measure=>simp [intOf];omega
     ·have ao:=aa rfl;clear aa;go_wp2;go_roundw
      case rel=>exact ⟨i + 1,f,by go_num,by omega,by omega,d⟩
      case measure=>simp [intOf];omega
  ·have ah:¬ (c:Int) < 5:=by omega
   go_wp2;go_ret
   exact ⟨false,f,rfl,d.out⟩
end Qs
end So
end Go.Proofs.YtceahffmenbibaaGreatDoor
