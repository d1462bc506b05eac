/- Sqs6 Sqs7. -/
import Derived.Test.YtceahffmenbibaaGreatDoorG41
set_option linter.unusedVariables false
set_option linter.unusedSimpArgs false
set_option maxHeartbeats 4000000
set_option maxRecDepth 100000
namespace Go.Proofs.YtceahffmenbibaaGreatDoor
namespace So
open Go Go.RowKit Go.Deep Rd
namespace Qs
variable {sb g cap m:Nat} {post:List Value} {aY xs:List Nat} {w0 w:World} {cf:Nat->Nat->Int}
def uH (g:Nat) (post:List Value) (aY:List Nat) (w0:World) (zs:List Nat) (G:Prop) (v:Value) (wx:World):Prop:=∃ b:Bool,v=.bool b/\(b=true->G)/\Pm g post aY w0 zs wx
theorem qz (C:iY sb g post aY w0 cf) (h:Pm g post aY w0 xs w) (hm:aY.length=m) (hm2:m <= 1099511627776) {a b pv:Nat} (hab:a < b) (hb:b <= m) (hp:a <= pv) (hp2:pv < b):
  Calls Tryz.prog 252 #[.slice (some ⟨g,0,none⟩) m cap,.int .i64 (a:Nat),.int .i64 (b:Nat),.int .i64 (pv:Nat),.func (.func 223) #[.pointer (some ⟨sb,0,none⟩)] #[]] w fun e w'=>∃ (q:Nat) (xs':List Nat),e=.returned (.int .i64 (q:Nat))/\a < q/\q <= b/\Pm g post aY w0 xs' w':=by
 have HC:=hide C;have S0:=hide h;clear C h;go_enter Tryz.func252,Tryz.ntmps252
 obtain ⟨zs,hzs⟩:∃ x,x=xs:=⟨_,rfl⟩;subst hzs;obtain ⟨wr,hwr⟩:∃ x,x=w:=⟨_,rfl⟩;subst hwr;have hst:=S0;clear S0;have hl:=hst.out.len;go_upto_region 1 with fail
 go_cut [] from 13 to 26 (fun wx=>∃ ys,Pm g post aY w0 ys wx)
 case first=>
  have jx:a < zs.length:=by omega
  have jy:pv < zs.length:=by omega
  have l1:a < m:=by omega
  have l2:pv < m:=by omega
  by_cases hs:a=pv
  ·subst hs;obtain ⟨c1,f1⟩:=hst.out.cell jx;have H2:=hide (hst.out.swap jx jx);generalize zs[a]=x at *
   go_region
   all_goals
    have H3:=hide (H2.out.below (Below.refl _ _).drew);clear hst H2;go_wp2;go_meet;exact ⟨_,H3.out⟩
  ·obtain ⟨c1,f1⟩:=hst.out.cell jx;obtain ⟨c2,f2⟩:=hst.out.cell jy;have H2:=hide (hst.out.swap jx jy);have hne2:¬ pv=a:=by omega
   generalize zs[a]=x at *
   generalize zs[pv]=y at *
   go_region
   all_goals
    have H3:=hide (H2.out.below (Below.refl _ _).drew);clear hst H2;go_wp2;go_meet;exact ⟨_,H3.out⟩
 case rest=>
  obtain ⟨ys,hy⟩:=hcut;have H:=hide hy;clear hy hst;have hst:=H;clear H;obtain ⟨zs,hzs⟩:∃ x,x=ys:=⟨_,rfl⟩;subst hzs;have hl:=hst.out.len;obtain ⟨wr,hwr⟩:∃ x,x=wc:=⟨_,rfl⟩;subst hwr;go_wp2;go_loopw [11,12] (fun iv jv wr=>∃ (i j:Nat) (xs:List Nat),iv=.int .i64 (i:Nat)/\jv=.int .i64 (j:Nat)/\True/\a < i/\i <= b/\a <= j/\j < b/\Hid (Pm g post aY w0 xs wr)) (fun iv _ _=>b + 1 - (intOf iv).toNat)
  case atStart=>exact ⟨a + 1,b - 1,zs,by go_num,by go_num,trivial,by omega,by omega,by omega,by omega,hst⟩
  case round=>
   clear hst;obtain ⟨i,j,zs,rfl,rfl,-,hai,hib,haj,hjb,hst⟩:=hrel;obtain ⟨i0,hi0⟩:∃ x,x=i:=⟨_,rfl⟩;have hi1:=hide hi0;have hi2:i0 <= i:=by omega
   clear hi0;go_wp2;go_loopw [11] (fun iv wr=>∃ (i:Nat) (xs:List Nat),iv=.int .i64 (i:Nat)/\i0 <= i/\a < i/\i <= b/\Hid (Pm g post aY w0 xs wr)) (fun iv _=>b + 1 - (intOf iv).toNat)
   case atStart=>exact ⟨i,zs,rfl,by omega,by omega,by omega,hst⟩
   case round=>
    clear hst;obtain ⟨i,zs,rfl,hlo,hai,hib,hst⟩:=hrel;have hl:=hst.out.len;go_upto_region 3 with fail
    go_cut [47] from 31 to 49 (fun v wx=>uH g post aY w0 zs (i <= j) v wx)
    case first=>
     by_cases hg:i <= j
     ·have hd:decide ((i:Int) <= (j:Int))=true:=by simp;omega
      have jx:a < zs.length:=by omega
      have jy:i < zs.length:=by omega
      have l1:a < m:=by omega
      have l2:i < m:=by omega
      obtain ⟨c1,f1⟩:=hst.out.cell jx;obtain ⟨c2,f2⟩:=hst.out.cell jy;have QC:=hide (fun p:dZ wr=>HC.out.at hst.out (hst.out.mem jx) (hst.out.mem jy) p)
      have k1:=dZ.cell c1;have k2:=dZ.cell c2;have ne:Nonempty (dZ wr):=⟨⟨wr,Below.refl _ _⟩⟩;refine ay (by kernel_rfl) (by kernel_rfl) ?_
      repeat (go_big_quiet_step ((go_at_call 223;exact QC.out _)))
      refine wpQuiet_nil ?_;rintro _ ⟨p,rfl⟩;have H:=hide (hst.out.below p.h);have HG:=hide hg;clear hst k1 k2 c1 c2 f1 f2 QC ne hg;generalize p.W=wn at *
      go_wp2;go_meet
      exact ⟨_,rfl,fun _=>HG.out,H.out⟩
     ·have hd:decide ((i:Int) <= (j:Int))=false:=by simp;omega
      have ne:Nonempty (dZ wr):=⟨⟨wr,Below.refl _ _⟩⟩;refine ay (by kernel_rfl) (by kernel_rfl) ?_
      repeat (go_big_quiet_step (fail))
      refine wpQuiet_nil ?_;rintro _ ⟨p,rfl⟩;have H:=hide (hst.out.below p.h);clear hst ne;generalize p.W=wn at *
      go_wp2;go_meet
      exact ⟨false,rfl,fun h=>(by cases h),H.out⟩
    case rest=>
     obtain ⟨b1,rfl,hb1,hs1⟩:=hcut;have H:=hide hs1;clear hs1 hst;have hst:=H;clear H;obtain ⟨wr,hwr⟩:∃ x,x=wc:=⟨_,rfl⟩;subst hwr;cases b1
     ·clear hb1;go_wp2;go_loopw [12] (fun iv wr=>∃ (j:Nat) (xs:List Nat),iv=.int .i64 (j:Nat)/\a <= j/\j < b/\Hid (Pm g post aY w0 xs wr)) (fun iv _=>(intOf iv).toNat)
      case atStart=>exact ⟨j,zs,rfl,by omega,by omega,hst⟩
      case round=>
       clear hst;obtain ⟨j,zs,rfl,haj,hjb,hst⟩:=hrel;have hl:=hst.out.len;go_upto_region 5 with fail
       go_cut [65] from 50 to 67 (fun v wx=>uH g post aY w0 zs (i <= j) v wx)
       case first=>
        by_cases hg:i <= j
        ·have hd:decide ((i:Int) <= (j:Int))=true:=by simp;omega
         have jx:a < zs.length:=by omega
         have jy:j < zs.length:=by omega
         have l1:a < m:=by omega
         have l2:j < m:=by omega
         obtain ⟨c1,f1⟩:=hst.out.cell jx;obtain ⟨c2,f2⟩:=hst.out.cell jy;have QC:=hide (fun p:dZ wr=>HC.out.at hst.out (hst.out.mem jx) (hst.out.mem jy) p)
         have k1:=dZ.cell c1;have k2:=dZ.cell c2;have ne:Nonempty (dZ wr):=⟨⟨wr,Below.refl _ _⟩⟩;refine ay (by kernel_rfl) (by kernel_rfl) ?_
         repeat (go_big_quiet_step ((go_at_call 223;exact QC.out _)))
         refine wpQuiet_nil ?_;rintro _ ⟨p,rfl⟩;have H:=hide (hst.out.below p.h);have HG:=hide hg;clear hst k1 k2 c1 c2 f1 f2 QC ne hg;generalize p.W=wn at *
         go_wp2;go_meet
         exact ⟨_,rfl,fun _=>HG.out,H.out⟩
        ·have hd:decide ((i:Int) <= (j:Int))=false:=by simp;omega
         have ne:Nonempty (dZ wr):=⟨⟨wr,Below.refl _ _⟩⟩;refine ay (by kernel_rfl) (by kernel_rfl) ?_
         repeat (go_big_quiet_step (fail))
         refine wpQuiet_nil ?_;rintro _ ⟨p,rfl⟩;have H:=hide (hst.out.below p.h);clear hst ne;generalize p.W=wn at *
         go_wp2;go_meet
         exact ⟨false,rfl,fun h=>(by cases h),H.out⟩
       case rest=>
        obtain ⟨b1,rfl,hb1,hs1⟩:=hcut;have H:=hide hs1;clear hs1 hst;have hst:=H;clear H;obtain ⟨wr,hwr⟩:∃ x,x=wc:=⟨_,rfl⟩;subst hwr;cases b1
        ·clear hb1;by_cases hij:i <= j
         ·have hgt:¬ (j:Int) < (i:Int):=by omega
          go_upto_region 8 with fail
          go_cut [] from 71 to 84 (fun wx=>∃ ys,Pm g post aY w0 ys wx)
          case first=>
           have jx:i < zs.length:=by omega
           have jy:j < zs.length:=by omega
           have l1:i < m:=by omega
           have l2:j < m:=by omega
           by_cases hs:i=j
           ·subst hs;obtain ⟨c1,f1⟩:=hst.out.cell jx;have H2:=hide (hst.out.swap jx jx);generalize zs[i]=x at *
            go_region
            all_goals
             have H3:=hide (H2.out.below (Below.refl _ _).drew);clear hst H2;go_wp2;go_meet;exact ⟨_,H3.out⟩
           ·obtain ⟨c1,f1⟩:=hst.out.cell jx;obtain ⟨c2,f2⟩:=hst.out.cell jy;have H2:=hide (hst.out.swap jx jy);have hne2:¬ j=i:=by omega
            generalize zs[i]=x at *
            generalize zs[j]=y at *
            go_region
            all_goals
             have H3:=hide (H2.out.below (Below.refl _ _).drew);clear hst H2;go_wp2;go_meet;exact ⟨_,H3.out⟩
          case rest=>
           obtain ⟨ys,hy⟩:=hcut;have H:=hide hy;clear hy hst;have hst:=H;clear H;obtain ⟨zs,hzs⟩:∃ x,x=ys:=⟨_,rfl⟩;subst hzs;have hl:=hst.out.len;obtain ⟨wr,hwr⟩:∃ x,x=wc:=⟨_,rfl⟩;subst hwr;go_wp2;go_roundw
           case rel=>exact ⟨i + 1,j - 1,zs,by go_num,by go_num,trivial,by omega,by omega,by omega,by omega,hst⟩
           case measure=>have hi3:=hi1.out;simp [intOf];omega
         ·have hgt:(j:Int) < (i:Int):=by omega
          go_wp2;go_ret
          exact ⟨i,zs,rfl,hai,hib,hst.out⟩
        ·have hij:=hb1 rfl;clear hb1;go_wp2;go_roundw
         case rel=>exact ⟨j - 1,zs,by go_num,by omega,by omega,hst⟩
         case measure=>simp [intOf];omega
     ·have hij:=hb1 rfl;clear hb1;go_wp2;go_roundw
      case rel=>exact ⟨i + 1,zs,by go_num,by omega,by omega,by omega,hst⟩
      case measure=>simp [intOf];omega
end Qs
end So
end Go.Proofs.YtceahffmenbibaaGreatDoor
namespace Go.Proofs.YtceahffmenbibaaGreatDoor
namespace So
open Go Go.RowKit Go.Deep Rd
namespace Qs
variable {sb g cap m:Nat} {post:List Value} {aY xs:List Nat} {w0 w:World} {cf:Nat->Nat->Int}
theorem yu (C:iY sb g post aY w0 cf) (h:Pm g post aY w0 xs w) (hm:aY.length=m) (hm2:m <= 1099511627776) {a b pv:Nat} (hab:a < b) (hb:b <= m) (hp:a <= pv) (hp2:pv < b):
  Calls Tryz.prog 253 #[.slice (some ⟨g,0,none⟩) m cap,.int .i64 (a:Nat),.int .i64 (b:Nat),.int .i64 (pv:Nat),.func (.func 223) #[.pointer (some ⟨sb,0,none⟩)] #[]] w fun e w'=>∃ (q:Nat) (t:Bool) (xs':List Nat),e=.returned (.tuple #[.int .i64 (q:Nat),.bool t])/\a <= q/\q < b/\Pm g post aY w0 xs' w':=by
 have HC:=hide C;have S0:=hide h;clear C h;go_enter Tryz.func253,Tryz.ntmps253
 obtain ⟨zs,hzs⟩:∃ x,x=xs:=⟨_,rfl⟩;subst hzs;obtain ⟨wr,hwr⟩:∃ x,x=w:=⟨_,rfl⟩;subst hwr;have hst:=S0;clear S0;have hl:=hst.out.len;go_upto_region 1 with fail
 go_cut [] from 14 to 27 (fun wx=>∃ ys,Pm g post aY w0 ys wx)
 case first=>
  have jx:a < zs.length:=by omega
  have jy:pv < zs.length:=by omega
  have l1:a < m:=by omega
  have l2:pv < m:=by omega
  by_cases hs:a=pv
  ·subst hs;obtain ⟨c1,f1⟩:=hst.out.cell jx;have H2:=hide (hst.out.swap jx jx);generalize zs[a]=x at *
   go_region
   all_goals
    have H3:=hide (H2.out.below (Below.refl _ _).drew);clear hst H2;go_wp2;go_meet;exact ⟨_,H3.out⟩
  ·obtain ⟨c1,f1⟩:=hst.out.cell jx;obtain ⟨c2,f2⟩:=hst.out.cell jy;have H2:=hide (hst.out.swap jx jy);have hne2:¬ pv=a:=by omega
   generalize zs[a]=x at *
   generalize zs[pv]=y at *
   go_region
   all_goals
    have H3:=hide (H2.out.below (Below.refl _ _).drew);clear hst H2;go_wp2;go_meet;exact ⟨_,H3.out⟩
 case rest=>
  obtain ⟨ys,hy⟩:=hcut;have H:=hide hy;clear hy hst;have hst:=H;clear H;obtain ⟨zs,hzs⟩:∃ x,x=ys:=⟨_,rfl⟩;subst hzs;have hl:=hst.out.len;obtain ⟨wr,hwr⟩:∃ x,x=wc:=⟨_,rfl⟩;subst hwr;obtain ⟨i,hi⟩:∃ i,i=a + 1:=⟨_,rfl⟩;obtain ⟨j,hj⟩:∃ j,j=b - 1:=⟨_,rfl⟩;have ei:(a:Int) + 1=(i:Int):=by omega
  have ej:(b:Int) - 1=(j:Int):=by omega
  have hai:a < i:=by omega
  have hib:i <= b:=by omega
  have haj:a <= j:=by omega
  have hjb:j < b:=by omega
  clear hi hj;go_wp2;clear ei ej;go_loopw [12] (fun iv wr=>∃ (i:Nat) (xs:List Nat),iv=.int .i64 (i:Nat)/\True/\a < i/\i <= b/\Hid (Pm g post aY w0 xs wr)) (fun iv _=>b + 1 - (intOf iv).toNat)
  case atStart=>exact ⟨i,zs,rfl,trivial,by omega,by omega,hst⟩
  case round=>
   clear hst;obtain ⟨i,zs,rfl,hlo,hai,hib,hst⟩:=hrel;have hl:=hst.out.len;go_upto_region 3 with fail
   go_cut [47] from 32 to 49 (fun v wx=>uH g post aY w0 zs (i <= j) v wx)
   case first=>
    by_cases hg:i <= j
    ·have hd:decide ((i:Int) <= (j:Int))=true:=by simp;omega
     have jx:i < zs.length:=by omega
     have jy:a < zs.length:=by omega
     have l1:i < m:=by omega
     have l2:a < m:=by omega
     obtain ⟨c1,f1⟩:=hst.out.cell jx;obtain ⟨c2,f2⟩:=hst.out.cell jy;have QC:=hide (fun p:dZ wr=>HC.out.at hst.out (hst.out.mem jx) (hst.out.mem jy) p)
     have k1:=dZ.cell c1;have k2:=dZ.cell c2;have ne:Nonempty (dZ wr):=⟨⟨wr,Below.refl _ _⟩⟩;refine ay (by kernel_rfl) (by kernel_rfl) ?_
     repeat (go_big_quiet_step ((go_at_call 223;exact QC.out _)))
     refine wpQuiet_nil ?_;rintro _ ⟨p,rfl⟩;have H:=hide (hst.out.below p.h);have HG:=hide hg;clear hst k1 k2 c1 c2 f1 f2 QC ne hg;generalize p.W=wn at *
     go_wp2;go_meet
     exact ⟨_,rfl,fun _=>HG.out,H.out⟩
    ·have hd:decide ((i:Int) <= (j:Int))=false:=by simp;omega
     have ne:Nonempty (dZ wr):=⟨⟨wr,Below.refl _ _⟩⟩;refine ay (by kernel_rfl) (by kernel_rfl) ?_
     repeat (go_big_quiet_step (fail))
     refine wpQuiet_nil ?_;rintro _ ⟨p,rfl⟩;have H:=hide (hst.out.below p.h);clear hst ne;generalize p.W=wn at *
     go_wp2;go_meet
     exact ⟨false,rfl,fun h=>(by cases h),H.out⟩
   case rest=>
    obtain ⟨b1,rfl,hb1,hs1⟩:=hcut;have H:=hide hs1;clear hs1 hst;have hst:=H;clear H;obtain ⟨wr,hwr⟩:∃ x,x=wc:=⟨_,rfl⟩;subst hwr;cases b1
    ·clear hb1;go_wp2;go_loopw [13] (fun iv wr=>∃ (j:Nat) (xs:List Nat),iv=.int .i64 (j:Nat)/\a <= j/\j < b/\Hid (Pm g post aY w0 xs wr)) (fun iv _=>(intOf iv).toNat)
     case atStart=>exact ⟨j,zs,rfl,by omega,by omega,hst⟩
     case round=>
      clear hst;obtain ⟨j,zs,rfl,haj,hjb,hst⟩:=hrel;have hl:=hst.out.len;go_upto_region 5 with fail
      go_cut [66] from 50 to 68 (fun v wx=>uH g post aY w0 zs (i <= j) v wx)
      case first=>
       by_cases hg:i <= j
       ·have hd:decide ((i:Int) <= (j:Int))=true:=by simp;omega
        have jx:j < zs.length:=by omega
        have jy:a < zs.length:=by omega
        have l1:j < m:=by omega
        have l2:a < m:=by omega
        obtain ⟨c1,f1⟩:=hst.out.cell jx;obtain ⟨c2,f2⟩:=hst.out.cell jy;have QC:=hide (fun p:dZ wr=>HC.out.at hst.out (hst.out.mem jx) (hst.out.mem jy) p)
        have k1:=dZ.cell c1;have k2:=dZ.cell c2;have ne:Nonempty (dZ wr):=⟨⟨wr,Below.refl _ _⟩⟩;refine ay (by kernel_rfl) (by kernel_rfl) ?_
        repeat (go_big_quiet_step ((go_at_call 223;exact QC.out _)))
        refine wpQuiet_nil ?_;rintro _ ⟨p,rfl⟩;have H:=hide (hst.out.below p.h);have HG:=hide hg;clear hst k1 k2 c1 c2 f1 f2 QC ne hg;generalize p.W=wn at *
        go_wp2;go_meet
        exact ⟨_,rfl,fun _=>HG.out,H.out⟩
       ·have hd:decide ((i:Int) <= (j:Int))=false:=by simp;omega
        have ne:Nonempty (dZ wr):=⟨⟨wr,Below.refl _ _⟩⟩;refine ay (by kernel_rfl) (by kernel_rfl) ?_
        repeat (go_big_quiet_step (fail))
        refine wpQuiet_nil ?_;rintro _ ⟨p,rfl⟩;have H:=hide (hst.out.below p.h);clear hst ne;generalize p.W=wn at *
        go_wp2;go_meet
        exact ⟨false,rfl,fun h=>(by cases h),H.out⟩
      case rest=>
       obtain ⟨b1,rfl,hb1,hs1⟩:=hcut;have H:=hide hs1;clear hs1 hst;have hst:=H;clear H;obtain ⟨wr,hwr⟩:∃ x,x=wc:=⟨_,rfl⟩;subst hwr;cases b1
       ·clear hb1;by_cases hij:i <= j
        ·have hgt:¬ (j:Int) < (i:Int):=by omega
         go_upto_region 10 with fail
         go_cut [] from 87 to 100 (fun wx=>∃ ys,Pm g post aY w0 ys wx)
         case first=>
          have jx:i < zs.length:=by omega
          have jy:j < zs.length:=by omega
          have l1:i < m:=by omega
          have l2:j < m:=by omega
          by_cases hs:i=j
          ·subst hs;obtain ⟨c1,f1⟩:=hst.out.cell jx;have H2:=hide (hst.out.swap jx jx);generalize zs[i]=x at *
           go_region
           all_goals
            have H3:=hide (H2.out.below (Below.refl _ _).drew);clear hst H2;go_wp2;go_meet;exact ⟨_,H3.out⟩
          ·obtain ⟨c1,f1⟩:=hst.out.cell jx;obtain ⟨c2,f2⟩:=hst.out.cell jy;have H2:=hide (hst.out.swap jx jy);have hne2:¬ j=i:=by omega
           generalize zs[i]=x at *
           generalize zs[j]=y at *
           go_region
           all_goals
            have H3:=hide (H2.out.below (Below.refl _ _).drew);clear hst H2;go_wp2;go_meet;exact ⟨_,H3.out⟩
         case rest=>
          obtain ⟨ys,hy⟩:=hcut;have H:=hide hy;clear hy hst;have hst:=H;clear H;obtain ⟨zs,hzs⟩:∃ x,x=ys:=⟨_,rfl⟩;subst hzs;have hl:=hst.out.len;obtain ⟨wr,hwr⟩:∃ x,x=wc:=⟨_,rfl⟩;subst hwr;go_wp2;go_loopw [12,13] (fun iv jv wr=>∃ (i j:Nat) (xs:List Nat),iv=.int .i64 (i:Nat)/\jv=.int .i64 (j:Nat)/\True/\a < i/\i <= b/\a <= j/\j < b/\Hid (Pm g post aY w0 xs wr)) (fun iv _ _=>b + 1 - (intOf iv).toNat)
          case atStart=>exact ⟨i + 1,j - 1,zs,by go_num,by go_num,trivial,by omega,by omega,by omega,by omega,hst⟩
          case round=>
           clear hst;obtain ⟨i,j,zs,rfl,rfl,-,hai,hib,haj,hjb,hst⟩:=hrel;obtain ⟨i0,hi0⟩:∃ x,x=i:=⟨_,rfl⟩;have hi1:=hide hi0;have hi2:i0 <= i:=by omega
           clear hi0;go_wp2;go_loopw [12] (fun iv wr=>∃ (i:Nat) (xs:List Nat),iv=.int .i64 (i:Nat)/\i0 <= i/\a < i/\i <= b/\Hid (Pm g post aY w0 xs wr)) (fun iv _=>b + 1 - (intOf iv).toNat)
           case atStart=>exact ⟨i,zs,rfl,by omega,by omega,by omega,hst⟩
           case round=>
            clear hst;obtain ⟨i,zs,rfl,hlo,hai,hib,hst⟩:=hrel;have hl:=hst.out.len;go_upto_region 13 with fail
            go_cut [120] from 105 to 122 (fun v wx=>uH g post aY w0 zs (i <= j) v wx)
            case first=>
             by_cases hg:i <= j
             ·have hd:decide ((i:Int) <= (j:Int))=true:=by simp;omega
              have jx:i < zs.length:=by omega
              have jy:a < zs.length:=by omega
              have l1:i < m:=by omega
              have l2:a < m:=by omega
              obtain ⟨c1,f1⟩:=hst.out.cell jx;obtain ⟨c2,f2⟩:=hst.out.cell jy;have QC:=hide (fun p:dZ wr=>HC.out.at hst.out (hst.out.mem jx) (hst.out.mem jy) p)
              have k1:=dZ.cell c1;have k2:=dZ.cell c2;have ne:Nonempty (dZ wr):=⟨⟨wr,Below.refl _ _⟩⟩;refine ay (by kernel_rfl) (by kernel_rfl) ?_
              repeat (go_big_quiet_step ((go_at_call 223;exact QC.out _)))
              refine wpQuiet_nil ?_;rintro _ ⟨p,rfl⟩;have H:=hide (hst.out.below p.h);have HG:=hide hg;clear hst k1 k2 c1 c2 f1 f2 QC ne hg;generalize p.W=wn at *
              go_wp2;go_meet
              exact ⟨_,rfl,fun _=>HG.out,H.out⟩
             ·have hd:decide ((i:Int) <= (j:Int))=false:=by simp;omega
              have ne:Nonempty (dZ wr):=⟨⟨wr,Below.refl _ _⟩⟩;refine ay (by kernel_rfl) (by kernel_rfl) ?_
              repeat (go_big_quiet_step (fail))
              refine wpQuiet_nil ?_;rintro _ ⟨p,rfl⟩;have H:=hide (hst.out.below p.h);clear hst ne;generalize p.W=wn at *
              go_wp2;go_meet
              exact ⟨false,rfl,fun h=>(by cases h),H.out⟩
            case rest=>
             obtain ⟨b1,rfl,hb1,hs1⟩:=hcut;have H:=hide hs1;clear hs1 hst;have hst:=H;clear H;obtain ⟨wr,hwr⟩:∃ x,x=wc:=⟨_,rfl⟩;subst hwr;cases b1
             ·clear hb1;go_wp2;go_loopw [13] (fun iv wr=>∃ (j:Nat) (xs:List Nat),iv=.int .i64 (j:Nat)/\a <= j/\j < b/\Hid (Pm g post aY w0 xs wr)) (fun iv _=>(intOf iv).toNat)
              case atStart=>exact ⟨j,zs,rfl,by omega,by omega,hst⟩
              case round=>
               clear hst;obtain ⟨j,zs,rfl,haj,hjb,hst⟩:=hrel;have hl:=hst.out.len;go_upto_region 15 with fail
               go_cut [139] from 123 to 141 (fun v wx=>uH g post aY w0 zs (i <= j) v wx)
               case first=>
                by_cases hg:i <= j
                ·have hd:decide ((i:Int) <= (j:Int))=true:=by simp;omega
                 have jx:j < zs.length:=by omega
                 have jy:a < zs.length:=by omega
                 have l1:j < m:=by omega
                 have l2:a < m:=by omega
                 obtain ⟨c1,f1⟩:=hst.out.cell jx;obtain ⟨c2,f2⟩:=hst.out.cell jy;have QC:=hide (fun p:dZ wr=>HC.out.at hst.out (hst.out.mem jx) (hst.out.mem jy) p)
                 have k1:=dZ.cell c1;have k2:=dZ.cell c2;have ne:Nonempty (dZ wr):=⟨⟨wr,Below.refl _ _⟩⟩;refine ay (by kernel_rfl) (by kernel_rfl) ?_
                 repeat (go_big_quiet_step ((go_at_call 223;exact QC.out _)))
                 refine wpQuiet_nil ?_;rintro _ ⟨p,rfl⟩;have H:=hide (hst.out.below p.h);have HG:=hide hg;clear hst k1 k2 c1 c2 f1 f2 QC ne hg;generalize p.W=wn at *
                 go_wp2;go_meet
                 exact ⟨_,rfl,fun _=>HG.out,H.out⟩
                ·have hd:decide ((i:Int) <= (j:Int))=false:=by simp;omega
                 have ne:Nonempty (dZ wr):=⟨⟨wr,Below.refl _ _⟩⟩;refine ay (by kernel_rfl) (by kernel_rfl) ?_
                 repeat (go_big_quiet_step (fail))
                 refine wpQuiet_nil ?_;rintro _ ⟨p,rfl⟩;have H:=hide (hst.out.below p.h);clear hst ne;generalize p.W=wn at *
                 go_wp2;go_meet
                 exact ⟨false,rfl,fun h=>(by cases h),H.out⟩
               case rest=>
                obtain ⟨b1,rfl,hb1,hs1⟩:=hcut;have H:=hide hs1;clear hs1 hst;have hst:=H;clear H;obtain ⟨wr,hwr⟩:∃ x,x=wc:=⟨_,rfl⟩;subst hwr;cases b1
                ·clear hb1;by_cases hij:i <= j
                 ·have hgt:¬ (j:Int) < (i:Int):=by omega
                  go_upto_region 18 with fail
                  go_cut [] from 145 to 158 (fun wx=>∃ ys,Pm g post aY w0 ys wx)
                  case first=>
                   have jx:i < zs.length:=by omega
                   have jy:j < zs.length:=by omega
                   have l1:i < m:=by omega
                   have l2:j < m:=by omega
                   by_cases hs:i=j
                   ·subst hs;obtain ⟨c1,f1⟩:=hst.out.cell jx;have H2:=hide (hst.out.swap jx jx);generalize zs[i]=x at *
                    go_region
                    all_goals
                     have H3:=hide (H2.out.below (Below.refl _ _).drew);clear hst H2;go_wp2;go_meet;exact ⟨_,H3.out⟩
                   ·obtain ⟨c1,f1⟩:=hst.out.cell jx;obtain ⟨c2,f2⟩:=hst.out.cell jy;have H2:=hide (hst.out.swap jx jy);have hne2:¬ j=i:=by omega
                    generalize zs[i]=x at *
                    generalize zs[j]=y at *
                    go_region
                    all_goals
                     have H3:=hide (H2.out.below (Below.refl _ _).drew);clear hst H2;go_wp2;go_meet;exact ⟨_,H3.out⟩
                  case rest=>
                   obtain ⟨ys,hy⟩:=hcut;have H:=hide hy;clear hy hst;have hst:=H;clear H;obtain ⟨zs,hzs⟩:∃ x,x=ys:=⟨_,rfl⟩;subst hzs;have hl:=hst.out.len;obtain ⟨wr,hwr⟩:∃ x,x=wc:=⟨_,rfl⟩;subst hwr;go_wp2;go_roundw
                   case rel=>exact ⟨i + 1,j - 1,zs,by go_num,by go_num,trivial,by omega,by omega,by omega,by omega,hst⟩
                   case measure=>have hi3:=hi1.out;simp [intOf];omega
                 ·have hgt:(j:Int) < (i:Int):=by omega
                  go_upto_region 21 with fail
                  go_cut [] from 163 to 176 (fun wx=>∃ ys,Pm g post aY w0 ys wx)
                  case first=>
                   have jx:j < zs.length:=by omega
                   have jy:a < zs.length:=by omega
                   have l1:j < m:=by omega
                   have l2:a < m:=by omega
                   by_cases hs:j=a
                   ·subst hs;obtain ⟨c1,f1⟩:=hst.out.cell jx;have H2:=hide (hst.out.swap jx jx);generalize zs[j]=x at *
                    go_region
                    all_goals
                     have H3:=hide (H2.out.below (Below.refl _ _).drew);clear hst H2;go_wp2;go_meet;exact ⟨_,H3.out⟩
                   ·obtain ⟨c1,f1⟩:=hst.out.cell jx;obtain ⟨c2,f2⟩:=hst.out.cell jy;have H2:=hide (hst.out.swap jx jy);have hne2:¬ a=j:=by omega
                    generalize zs[j]=x at *
                    generalize zs[a]=y at *
                    go_region
                    all_goals
                     have H3:=hide (H2.out.below (Below.refl _ _).drew);clear hst H2;go_wp2;go_meet;exact ⟨_,H3.out⟩
                  case rest=>
                   obtain ⟨ys,hy⟩:=hcut;have H:=hide hy;clear hy hst;have hst:=H;clear H;obtain ⟨zs,hzs⟩:∃ x,x=ys:=⟨_,rfl⟩;subst hzs;have hl:=hst.out.len;obtain ⟨wr,hwr⟩:∃ x,x=wc:=⟨_,rfl⟩;subst hwr;go_wp2;go_ret2;exact ⟨j,false,zs,rfl,haj,hjb,hst.out⟩
                ·have hij:=hb1 rfl;clear hb1;go_wp2;go_roundw
                 case rel=>exact ⟨j - 1,zs,by go_num,by omega,by omega,hst⟩
                 case measure=>simp [intOf];omega
             ·have hij:=hb1 rfl;clear hb1;go_wp2;go_roundw
              case rel=>exact ⟨i + 1,zs,by go_num,by omega,by omega,by omega,hst⟩
              case measure=>simp [intOf];omega
        ·have hgt:(j:Int) < (i:Int):=by omega
         go_upto_region 8 with fail
         go_cut [] from 72 to 85 (fun wx=>∃ ys,Pm g post aY w0 ys wx)
         case first=>
          have jx:j < zs.length:=by omega
          have jy:a < zs.length:=by omega
          have l1:j < m:=by omega
          have l2:a < m:=by omega
          by_cases hs:j=a
          ·subst hs;obtain ⟨c1,f1⟩:=hst.out.cell jx;have H2:=hide (hst.out.swap jx jx);generalize zs[j]=x at *
           go_region
           all_goals
            have H3:=hide (H2.out.below (Below.refl _ _).drew);clear hst H2;go_wp2;go_meet;exact ⟨_,H3.out⟩
          ·obtain ⟨c1,f1⟩:=hst.out.cell jx;obtain ⟨c2,f2⟩:=hst.out.cell jy;have H2:=hide (hst.out.swap jx jy);have hne2:¬ a=j:=by omega
           generalize zs[j]=x at *
           generalize zs[a]=y at *
           go_region
           all_goals
            have H3:=hide (H2.out.below (Below.refl _ _).drew);clear hst H2;go_wp2;go_meet;exact ⟨_,H3.out⟩
         case rest=>
          obtain ⟨ys,hy⟩:=hcut;have H:=hide hy;clear hy hst;have hst:=H;clear H;obtain ⟨zs,hzs⟩:∃ x,x=ys:=⟨_,rfl⟩;subst hzs;have hl:=hst.out.len;obtain ⟨wr,hwr⟩:∃ x,x=wc:=⟨_,rfl⟩;subst hwr;go_wp2;go_ret2;exact ⟨j,true,zs,rfl,haj,hjb,hst.out⟩
       ·have hij:=hb1 rfl;clear hb1;go_wp2;go_roundw
        case rel=>exact ⟨j - 1,zs,by go_num,by omega,by omega,hst⟩
        case measure=>simp [intOf];omega
    ·have hij:=hb1 rfl;clear hb1;go_wp2;go_roundw
     case rel=>exact ⟨i + 1,zs,by go_num,trivial,by omega,by omega,hst⟩
     case measure=>simp [intOf];omega
end Qs
end So
end Go.Proofs.YtceahffmenbibaaGreatDoor
