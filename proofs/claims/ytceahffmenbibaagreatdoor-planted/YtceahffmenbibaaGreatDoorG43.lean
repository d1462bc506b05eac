/- Sqs8. -/
import Derived.Test.YtceahffmenbibaaGreatDoorG42
set_option linter.unusedVariables false
set_option linter.unusedSimpArgs false
set_option maxHeartbeats 4000000
set_option maxRecDepth 100000
namespace Go.Proofs.YtceahffmenbibaaGreatDoor
namespace So
open Go Go.RowKit Go.Deep Rd
namespace Qs
variable {sb g cap m:Nat} {post:List Value} {aY xs:List Nat} {w0 w:World} {cf:Nat->Nat->Int}
def Xv (g:Nat) (post:List Value) (aY:List Nat) (w0:World) (e:Ending) (w':World):Prop:=∃ (t:Bool) (xs':List Nat),e=.returned (.bool t)/\Pm g post aY w0 xs' w'
theorem nV (C:iY sb g post aY w0 cf) (h:Pm g post aY w0 xs w) (hm:aY.length=m) (hm2:m <= 1099511627776) {a b:Nat} (hab:a < b) (hb:b <= m):
  Calls Tryz.prog 251 #[.slice (some ⟨g,0,none⟩) m cap,.int .i64 (a:Nat),.int .i64 (b:Nat),.func (.func 223) #[.pointer (some ⟨sb,0,none⟩)] #[]] w fun e w'=>Xv g post aY w0 e w':=by
 have HC:=hide C;have S0:=hide h;clear C h;go_enter Tryz.func251,Tryz.ntmps251
 go_wp2;go_loopw [9,10] (fun iv cv wr=>∃ (i c:Nat) (xs:List Nat),iv=.int .i64 (i:Nat)/\cv=.int .i64 (c:Nat)/\a < i/\i <= b/\c <= 5/\Hid (Pm g post aY w0 xs wr)) (fun _ cv _=>5 - (intOf cv).toNat)
 case atStart=>exact ⟨a + 1,0,xs,by go_num,rfl,by omega,by omega,by omega,S0⟩
 case round=>
  clear S0;obtain ⟨i,c,zs,rfl,rfl,hai,hib,hc5,hst⟩:=hrel;by_cases hc:c < 5
  ·have hci:(c:Int) < 5:=by omega
   go_wp2;go_loopw [9] (fun iv wr=>∃ (i:Nat) (xs:List Nat),iv=.int .i64 (i:Nat)/\a < i/\i <= b/\Hid (Pm g post aY w0 xs wr)) (fun iv _=>b - (intOf iv).toNat)
   case atStart=>exact ⟨i,zs,rfl,by omega,by omega,hst⟩
   case round=>
    clear hst;obtain ⟨i,zs,rfl,hai,hib,hst⟩:=hrel;have hl:=hst.out.len;obtain ⟨k,hk⟩:∃ k,k + 1=i:=⟨i - 1,by omega⟩
    have ek:(i:Int) - 1=(k:Int):=by omega
    have hkb:k < b:=by omega
    clear hk;go_upto_region 5 with fail
    go_cut [36] from 19 to 38 (fun v wx=>uH g post aY w0 zs (i < b) v wx)
    case first=>
     by_cases hg:i < b
     ·have hd:decide ((i:Int) < (b:Int))=true:=by simp;omega
      have jx:i < zs.length:=by omega
      have jy:k < zs.length:=by omega
      have l1:i < m:=by omega
      have l2:k < m:=by omega
      obtain ⟨c1,f1⟩:=hst.out.cell jx;obtain ⟨c2,f2⟩:=hst.out.cell jy;have QC:=hide (fun p:dZ wr=>HC.out.at hst.out (hst.out.mem jx) (hst.out.mem jy) p)
      have k1:=dZ.cell c1;have k2:=dZ.cell c2;have ne:Nonempty (dZ wr):=⟨⟨wr,Below.refl _ _⟩⟩;refine ay (by kernel_rfl) (by kernel_rfl) ?_
      repeat (go_big_quiet_step ((go_at_call 223;exact QC.out _)))
      refine wpQuiet_nil ?_;rintro _ ⟨p,rfl⟩;have H:=hide (hst.out.below p.h);have HG:=hide hg;clear hst k1 k2 c1 c2 f1 f2 QC ne hg;generalize p.W=wn at *
      go_wp2;go_meet
      exact ⟨_,rfl,fun _=>HG.out,H.out⟩
     ·have hd:decide ((i:Int) < (b:Int))=false:=by simp;omega
      have ne:Nonempty (dZ wr):=⟨⟨wr,Below.refl _ _⟩⟩;refine ay (by kernel_rfl) (by kernel_rfl) ?_
      repeat (go_big_quiet_step (fail))
      refine wpQuiet_nil ?_;rintro _ ⟨p,rfl⟩;have H:=hide (hst.out.below p.h);clear hst ne;generalize p.W=wn at *
      go_wp2;go_meet
      exact ⟨false,rfl,fun h=>(by cases h),H.out⟩
    case rest=>
     obtain ⟨b1,rfl,hb1,hs1⟩:=hcut;have H:=hide hs1;clear hs1 hst;have hst:=H;clear H;obtain ⟨wr,hwr⟩:∃ x,x=wc:=⟨_,rfl⟩;subst hwr;clear ek;cases b1
     ·clear hb1;by_cases hie:i=b
      ·subst hie;go_wp2;go_ret;exact ⟨true,zs,rfl,hst.out⟩
      ·have hnb:((i:Int) == (b:Int))=false:=by simp;omega
       have hilb:i < b:=by omega
       by_cases h50:b < a + 50
       ·have WZ:(b:Int) - (a:Int) < 50:=by omega
        go_wp2;go_ret
        exact ⟨false,zs,rfl,hst.out⟩
       ·have WZ:¬ (b:Int) - (a:Int) < 50:=by omega
        obtain ⟨k,hk⟩:∃ k,k + 1=i:=⟨i - 1,by omega⟩
        have ek:(i:Int) - 1=(k:Int):=by omega
        have hkb:k < b:=by omega
        have hki:k < i:=by omega
        go_upto_region 11 with fail
        go_cut [] from 46 to 61 (fun wx=>∃ ys,Pm g post aY w0 ys wx)
        case first=>
         have jx:i < zs.length:=by omega
         have jy:k < zs.length:=by omega
         have l1:i < m:=by omega
         have l2:k < m:=by omega
         by_cases hs:i=k
         ·exact absurd hs (by omega)
         ·obtain ⟨c1,f1⟩:=hst.out.cell jx;obtain ⟨c2,f2⟩:=hst.out.cell jy;have H2:=hide (hst.out.swap jx jy);have hne2:¬ k=i:=by omega
          generalize zs[i]=x at *
          generalize zs[k]=y at *
          go_region
          all_goals
           have H3:=hide (H2.out.below (Below.refl _ _).drew);clear hst H2;go_wp2;go_meet;exact ⟨_,H3.out⟩
        case rest=>
         obtain ⟨ys,hy⟩:=hcut;have H:=hide hy;clear hy hst;have hst:=H;clear H;obtain ⟨zs,hzs⟩:∃ x,x=ys:=⟨_,rfl⟩;subst hzs;have hl:=hst.out.len;obtain ⟨wr,hwr⟩:∃ x,x=wc:=⟨_,rfl⟩;subst hwr;by_cases h2:a + 2 <= i
         ·have h2i:(2:Int) <= (i:Int) - (a:Int):=by omega
          go_wp2;go_loopw [11] (fun qv wr=>∃ (q:Nat) (xs:List Nat),qv=.int .i64 (q:Nat)/\q < b/\q + 1 <= b/\Hid (Pm g post aY w0 xs wr)) (fun qv _=>(intOf qv).toNat)
          case atStart=>exact ⟨k,zs,by go_num,by omega,by omega,hst⟩
          case round=>
           clear hst;obtain ⟨q,zs,rfl,hq1,hq2,hst⟩:=hrel;have hl:=hst.out.len;by_cases hq:1 <= q
           ·have hqi:(1:Int) <= (q:Int):=by omega
            obtain ⟨r,hr⟩:∃ r,r + 1=q:=⟨q - 1,by omega⟩
            have er:(q:Int) - 1=(r:Int):=by omega
            have jx:q < zs.length:=by omega
            have jy:r < zs.length:=by omega
            have l1:q < m:=by omega
            have l2:r < m:=by omega
            have hnn:=hide (show ¬ q=r/\¬ r=q by omega)
            have TZ:=hide hr;clear hr;obtain ⟨c1,f1⟩:=hst.out.cell jx;obtain ⟨c2,f2⟩:=hst.out.cell jy;have QC:=hide (fun p:dZ wr=>HC.out.at hst.out (hst.out.mem jx) (hst.out.mem jy) p)
            have k1:=dZ.cell c1;have k2:=dZ.cell c2;go_upto_region 16 with fail
            have ne:Nonempty (dZ wr):=⟨⟨wr,Below.refl _ _⟩⟩;refine ay (by kernel_rfl) (by kernel_rfl) ?_
            repeat (go_big_quiet_step ((go_at_call 223;exact QC.out _)))
            refine wpQuiet_nil ?_;rintro _ ⟨p,rfl⟩;have H:=hide (hst.out.below p.h);clear hst k1 k2 c1 c2 f1 f2 QC ne;generalize p.W=wr at *
            have hst:=H;clear H;obtain ⟨z,hz⟩:∃ z,z=cf zs[q] zs[r]:=⟨_,rfl⟩;rw [<- hz];clear hz;generalize zs[q]=x;generalize zs[r]=y;generalize hzb:(!decide (z < 0))=b;cases b
            ·obtain ⟨hne,hne2⟩:=hnn.out;obtain ⟨c1,f1⟩:=hst.out.cell jx;obtain ⟨c2,f2⟩:=hst.out.cell jy;have H2:=hide (hst.out.swap jx jy);generalize zs[q]=x at *
             generalize zs[r]=y at *
             go_upto_region 17 with fail
             go_region
             all_goals
              have H3:=hide (H2.out.below (Below.refl _ _).drew);clear hst H2;go_wp2;go_roundw
              case rel=>exact ⟨r,_,by go_num,by have:=TZ.out;omega,by have:=TZ.out;omega,H3⟩
              case measure=>have hr3:=TZ.out;simp [intOf];omega
            ·clear er jx jy l1 l2 hnn;by_cases h3:i + 2 <= b
             ·have ZG:(2:Int) <= (b:Int) - (i:Int):=by omega
              go_wp2;go_loopw [12] (fun qv wr=>∃ (q:Nat) (xs:List Nat),qv=.int .i64 (q:Nat)/\i < q/\q <= b/\Hid (Pm g post aY w0 xs wr)) (fun qv _=>b - (intOf qv).toNat)
              case atStart=>exact ⟨i + 1,zs,by go_num,by omega,by omega,hst⟩
              case round=>
               clear hst;obtain ⟨q,zs,rfl,hq1,hq2,hst⟩:=hrel;have hl:=hst.out.len;by_cases hq:q < b
               ·have hqi:(q:Int) < (b:Int):=by omega
                obtain ⟨r,hr⟩:∃ r,r + 1=q:=⟨q - 1,by omega⟩
                have er:(q:Int) - 1=(r:Int):=by omega
                have jx:q < zs.length:=by omega
                have jy:r < zs.length:=by omega
                have l1:q < m:=by omega
                have l2:r < m:=by omega
                have hnn:=hide (show ¬ q=r/\¬ r=q by omega)
                have TZ:=hide hr;clear hr;obtain ⟨c1,f1⟩:=hst.out.cell jx;obtain ⟨c2,f2⟩:=hst.out.cell jy;have QC:=hide (fun p:dZ wr=>HC.out.at hst.out (hst.out.mem jx) (hst.out.mem jy) p)
                have k1:=dZ.cell c1;have k2:=dZ.cell c2;go_upto_region 22 with fail
                have ne:Nonempty (dZ wr):=⟨⟨wr,Below.refl _ _⟩⟩;refine ay (by kernel_rfl) (by kernel_rfl) ?_
                repeat (go_big_quiet_step ((go_at_call 223;exact QC.out _)))
                refine wpQuiet_nil ?_;rintro _ ⟨p,rfl⟩;have H:=hide (hst.out.below p.h);clear hst k1 k2 c1 c2 f1 f2 QC ne;generalize p.W=wr at *
                have hst:=H;clear H;obtain ⟨z,hz⟩:∃ z,z=cf zs[q] zs[r]:=⟨_,rfl⟩;rw [<- hz];clear hz;generalize zs[q]=x;generalize zs[r]=y;generalize hzb:(!decide (z < 0))=b;cases b
                ·obtain ⟨hne,hne2⟩:=hnn.out;obtain ⟨c1,f1⟩:=hst.out.cell jx;obtain ⟨c2,f2⟩:=hst.out.cell jy;have H2:=hide (hst.out.swap jx jy);generalize zs[q]=x at *
                 generalize zs[r]=y at *
                 go_upto_region 23 with fail
                 go_region
                 all_goals
                  have H3:=hide (H2.out.below (Below.refl _ _).drew);clear hst H2;go_wp2;go_roundw
                  case rel=>exact ⟨q + 1,_,by go_num,by omega,by omega,H3⟩
                  case measure=>have hr3:=TZ.out;simp [intOf];omega
                ·clear er jx jy l1 l2 hnn;go_wp2;go_roundw
                 case rel=>exact ⟨i,c + 1,zs,rfl,by go_num,by omega,by omega,by omega,hst⟩
                 case measure=>simp [intOf];omega
               ·have hqi:¬ ((q:Int) < (b:Int)):=by omega
                go_wp2;go_roundw
                case rel=>exact ⟨i,c + 1,zs,rfl,by go_num,by omega,by omega,by omega,hst⟩
                case measure=>simp [intOf];omega
             ·have ZG:¬ (2:Int) <= (b:Int) - (i:Int):=by omega
              go_wp2;go_roundw
              case rel=>exact ⟨i,c + 1,zs,rfl,by go_num,by omega,by omega,by omega,hst⟩
              case measure=>simp [intOf];omega
           ·have hqi:¬ ((1:Int) <= (q:Int)):=by omega
            by_cases h3:i + 2 <= b
            ·have ZG:(2:Int) <= (b:Int) - (i:Int):=by omega
             go_wp2;go_loopw [12] (fun qv wr=>∃ (q:Nat) (xs:List Nat),qv=.int .i64 (q:Nat)/\i < q/\q <= b/\Hid (Pm g post aY w0 xs wr)) (fun qv _=>b - (intOf qv).toNat)
             case atStart=>exact ⟨i + 1,zs,by go_num,by omega,by omega,hst⟩
             case round=>
              clear hst;obtain ⟨q,zs,rfl,hq1,hq2,hst⟩:=hrel;have hl:=hst.out.len;by_cases hq:q < b
              ·have hqi:(q:Int) < (b:Int):=by omega
               obtain ⟨r,hr⟩:∃ r,r + 1=q:=⟨q - 1,by omega⟩
               have er:(q:Int) - 1=(r:Int):=by omega
               have jx:q < zs.length:=by omega
               have jy:r < zs.length:=by omega
               have l1:q < m:=by omega
               have l2:r < m:=by omega
               have hnn:=hide (show ¬ q=r/\¬ r=q by omega)
               have TZ:=hide hr;clear hr;obtain ⟨c1,f1⟩:=hst.out.cell jx;obtain ⟨c2,f2⟩:=hst.out.cell jy;have QC:=hide (fun p:dZ wr=>HC.out.at hst.out (hst.out.mem jx) (hst.out.mem jy) p)
               have k1:=dZ.cell c1;have k2:=dZ.cell c2;go_upto_region 22 with fail
               have ne:Nonempty (dZ wr):=⟨⟨wr,Below.refl _ _⟩⟩;refine ay (by kernel_rfl) (by kernel_rfl) ?_
               repeat (go_big_quiet_step ((go_at_call 223;exact QC.out _)))
               refine wpQuiet_nil ?_;rintro _ ⟨p,rfl⟩;have H:=hide (hst.out.below p.h);clear hst k1 k2 c1 c2 f1 f2 QC ne;generalize p.W=wr at *
               have hst:=H;clear H;obtain ⟨z,hz⟩:∃ z,z=cf zs[q] zs[r]:=⟨_,rfl⟩;rw [<- hz];clear hz;generalize zs[q]=x;generalize zs[r]=y;generalize hzb:(!decide (z < 0))=b;cases b
               ·obtain ⟨hne,hne2⟩:=hnn.out;obtain ⟨c1,f1⟩:=hst.out.cell jx;obtain ⟨c2,f2⟩:=hst.out.cell jy;have H2:=hide (hst.out.swap jx jy);generalize zs[q]=x at *
                generalize zs[r]=y at *
                go_upto_region 23 with fail
                go_region
                all_goals
                 have H3:=hide (H2.out.below (Below.refl _ _).drew);clear hst H2;go_wp2;go_roundw
                 case rel=>exact ⟨q + 1,_,by go_num,by omega,by omega,H3⟩
                 case measure=>have hr3:=TZ.out;simp [intOf];omega
               ·clear er jx jy l1 l2 hnn;go_wp2;go_roundw
                case rel=>exact ⟨i,c + 1,zs,rfl,by go_num,by omega,by omega,by omega,hst⟩
                case measure=>simp [intOf];omega
              ·have hqi:¬ ((q:Int) < (b:Int)):=by omega
               go_wp2;go_roundw
               case rel=>exact ⟨i,c + 1,zs,rfl,by go_num,by omega,by omega,by omega,hst⟩
               case measure=>simp [intOf];omega
            ·have ZG:¬ (2:Int) <= (b:Int) - (i:Int):=by omega
             go_wp2;go_roundw
             case rel=>exact ⟨i,c + 1,zs,rfl,by go_num,by omega,by omega,by omega,hst⟩
             case measure=>simp [intOf];omega
         ·have h2i:¬ (2:Int) <= (i:Int) - (a:Int):=by omega
          by_cases h3:i + 2 <= b
          ·have ZG:(2:Int) <= (b:Int) - (i:Int):=by omega
           go_wp2;go_loopw [12] (fun qv wr=>∃ (q:Nat) (xs:List Nat),qv=.int .i64 (q:Nat)/\i < q/\q <= b/\Hid (Pm g post aY w0 xs wr)) (fun qv _=>b - (intOf qv).toNat)
           case atStart=>exact ⟨i + 1,zs,by go_num,by omega,by omega,hst⟩
           case round=>
            clear hst;obtain ⟨q,zs,rfl,hq1,hq2,hst⟩:=hrel;have hl:=hst.out.len;by_cases hq:q < b
            ·have hqi:(q:Int) < (b:Int):=by omega
             obtain ⟨r,hr⟩:∃ r,r + 1=q:=⟨q - 1,by omega⟩
             have er:(q:Int) - 1=(r:Int):=by omega
             have jx:q < zs.length:=by omega
             have jy:r < zs.length:=by omega
             have l1:q < m:=by omega
             have l2:r < m:=by omega
             have hnn:=hide (show ¬ q=r/\¬ r=q by omega)
             have TZ:=hide hr;clear hr;obtain ⟨c1,f1⟩:=hst.out.cell jx;obtain ⟨c2,f2⟩:=hst.out.cell jy;have QC:=hide (fun p:dZ wr=>HC.out.at hst.out (hst.out.mem jx) (hst.out.mem jy) p)
             have k1:=dZ.cell c1;have k2:=dZ.cell c2;go_upto_region 22 with fail
             have ne:Nonempty (dZ wr):=⟨⟨wr,Below.refl _ _⟩⟩;refine ay (by kernel_rfl) (by kernel_rfl) ?_
             repeat (go_big_quiet_step ((go_at_call 223;exact QC.out _)))
             refine wpQuiet_nil ?_;rintro _ ⟨p,rfl⟩;have H:=hide (hst.out.below p.h);clear hst k1 k2 c1 c2 f1 f2 QC ne;generalize p.W=wr at *
             have hst:=H;clear H;obtain ⟨z,hz⟩:∃ z,z=cf zs[q] zs[r]:=⟨_,rfl⟩;rw [<- hz];clear hz;generalize zs[q]=x;generalize zs[r]=y;generalize hzb:(!decide (z < 0))=b;cases b
             ·obtain ⟨hne,hne2⟩:=hnn.out;obtain ⟨c1,f1⟩:=hst.out.cell jx;obtain ⟨c2,f2⟩:=hst.out.cell jy;have H2:=hide (hst.out.swap jx jy);generalize zs[q]=x at *
              generalize zs[r]=y at *
              go_upto_region 23 with fail
              go_region
              all_goals
               have H3:=hide (H2.out.below (Below.refl _ _).drew);clear hst H2;go_wp2;go_roundw
               case rel=>exact ⟨q + 1,_,by go_num,by omega,by omega,H3⟩
               case measure=>have hr3:=TZ.out;simp [intOf];omega
             ·clear er jx jy l1 l2 hnn;go_wp2;go_roundw
              case rel=>exact ⟨i,c + 1,zs,rfl,by go_num,by omega,by omega,by omega,hst⟩
              case measure=>simp [intOf];omega
            ·have hqi:¬ ((q:Int) < (b:Int)):=by omega
             go_wp2;go_roundw
             case rel=>exact ⟨i,c + 1,zs,rfl,by go_num,by omega,by omega,by omega,hst⟩
             case measure=>simp [intOf];omega
          ·have ZG:¬ (2:Int) <= (b:Int) - (i:Int):=by omega
           go_wp2;go_roundw
           case rel=>exact ⟨i,c + 1,zs,rfl,by go_num,by omega,by omega,by omega,hst⟩
           case measure=>simp [intOf];omega
     ·have hij:=hb1 rfl;clear hb1;go_wp2;go_roundw
      case rel=>exact ⟨i + 1,zs,by go_num,by omega,by omega,hst⟩
      case measure=>simp [intOf];omega
  ·have hci:¬ (c:Int) < 5:=by omega
   go_wp2;go_ret
   exact ⟨false,zs,rfl,hst.out⟩
end Qs
end So
end Go.Proofs.YtceahffmenbibaaGreatDoor
