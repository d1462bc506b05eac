/- Shelf3 Sqs9 Sqsa Sqsb Sqsc Sfid. -/
import Derived.Shelf.Small.Bits
import Derived.Test.YtceahffmenbibaaGreatDoorProg
import Derived.Test.YtceahffmenbibaaGreatDoorG43
import Derived.Laws.Bits64
import Derived.Sort.Walk7a
import Derived.Laws.Bits64b
import Derived.Test.YtceahffmenbibaaGreatDoorG41
import Derived.BigQuiet
set_option linter.unusedVariables false
set_option linter.unusedSimpArgs false
set_option maxHeartbeats 4000000
set_option maxRecDepth 100000
namespace Go.Proofs
open Go.Shelf
def Tryz.DN:Go.Shelf.Ren:=⟨fun | 125=>120 | 128=>169 | 129=>170 | n=>n,fun | 46=>187 | 3=>3 | 51=>218 | 53=>82 | 4=>4 | 5=>5 | 9=>9 | n=>n,fun | n=>n⟩
theorem Tryz.TE:Go.Proofs.Lays.n125 Tryz.prog Tryz.DN:={
 mixed:=by kernel_rfl
 f125:=Tryz.func120.trans (congrArg some (by kernel_rfl))
 f128:=Tryz.func169.trans (congrArg some (by kernel_rfl))
 f129:=Tryz.func170.trans (congrArg some (by kernel_rfl))
 t3:=Tryz.underlying3
 a3:=Tryz.isAgg3
 z3:=Tryz.sizeOf3
 v3:=Tryz.zeroValue3
 t4:=Tryz.underlying4
 a4:=Tryz.isAgg4
 z4:=Tryz.sizeOf4
 v4:=Tryz.zeroValue4
 t5:=Tryz.underlying5
 a5:=Tryz.isAgg5
 z5:=Tryz.sizeOf5
 v5:=Tryz.zeroValue5
 t9:=Tryz.underlying9
 a9:=Tryz.isAgg9
 z9:=Tryz.sizeOf9
 v9:=Tryz.zeroValue9
 t46:=Tryz.underlying187
 a46:=Tryz.isAgg187
 z46:=Tryz.sizeOf187
 v46:=Tryz.zeroValue187
 t51:=Tryz.underlying218
 a51:=Tryz.isAgg218
 z51:=Tryz.sizeOf218
 v51:=Tryz.zeroValue218
 t53:=Tryz.underlying82
 a53:=Tryz.isAgg82
 z53:=Tryz.sizeOf82
 v53:=Tryz.zeroValue82 }
theorem Tryz.bits_Len (x:Int) (w:World) (h0:0 <= x) (h1:x <= 18446744073709551615):
  Calls Tryz.prog 120 #[.int .u64 x] w fun e w'=>e=.returned (.int .i64 (Lib.bitLen x.toNat))/\w'=w:=Any.bits_Len Tryz.TE x w h0 h1
end Go.Proofs
namespace Go.Proofs.YtceahffmenbibaaGreatDoor
namespace So
open Go Go.RowKit Go.Deep Rd
namespace Qs
theorem Sk {n:Nat} (h:0 < n) (h2:n <= 1099511627776):2 ^ Lib.bitLen n <= 2 * n/\n < 2 ^ Lib.bitLen n:=by
 have h3:(2:Nat) ^ 64=18446744073709551616:=by decide
 obtain ⟨a,b,c⟩:=Lib.bitLenAux_bounds 64 n (by rw [h3];omega) (by omega)
 refine ⟨?_,c⟩;show 2 ^ Lib.bitLenAux 64 n <= _
 obtain ⟨k,hk⟩:∃ k,Lib.bitLenAux 64 n=k + 1:=⟨Lib.bitLenAux 64 n - 1,by omega⟩
 rw [hk] at b ⊢;rw [Nat.add_sub_cancel] at b;rw [Nat.pow_succ];omega
theorem wm {B X:Nat} (hX:X < 18446744073709551616) (w:World) (hc:w.cell? ⟨B,0,none⟩=some (.int .u64 (X:Nat))) (hf:w.frozen? ⟨B,0,none⟩=false):
  Calls Tryz.prog 233 #[.pointer (some ⟨B,0,none⟩)] w fun e w'=>∃ C n:Nat,C < 18446744073709551616/\e=.returned (.int .u64 (C:Nat))/\w'=(w.setCell ⟨B,0,none⟩ (.int .u64 (C:Nat))).drewN n:=by
 obtain ⟨A1,hA⟩:∃ A:Nat,A=X ^^^ (X * 8192 % 18446744073709551616):=⟨_,rfl⟩;obtain ⟨A2,hB⟩:∃ B:Nat,B=A1 ^^^ (A1 / 128):=⟨_,rfl⟩;obtain ⟨A3,hC⟩:∃ C:Nat,C=A2 ^^^ (A2 * 131072 % 18446744073709551616):=⟨_,rfl⟩;have l1:A1 < 18446744073709551616:=by rw [hA];exact Nat.xor_lt_two_pow (n:=64) (by omega) (by omega)
 have l2:A2 < 18446744073709551616:=by rw [hB];exact Nat.xor_lt_two_pow (n:=64) (by omega) (by omega)
 have l3:A3 < 18446744073709551616:=by rw [hC];exact Nat.xor_lt_two_pow (n:=64) (by omega) (by omega)
 have e1:Go.bits .xor .u64 (X:Int) (IntKind.u64.wrap ((X:Int) * 8192))=(A1:Int):=by
  rw [IntKind.wrap_u64,show ((X:Int) * 8192 % 18446744073709551616)=((X * 8192 % 18446744073709551616:Nat):Int) by omega,bits_xor_u64_nat _ _ hX (by omega),hA]
 have e2:Go.bits .xor .u64 (A1:Int) ((A1:Int) / 128)=(A2:Int):=by
  rw [show ((A1:Int) / 128)=((A1 / 128:Nat):Int) by omega,bits_xor_u64_nat _ _ l1 (by omega),hB]
 have e3:Go.bits .xor .u64 (A2:Int) (IntKind.u64.wrap ((A2:Int) * 131072))=(A3:Int):=by
  rw [IntKind.wrap_u64,show ((A2:Int) * 131072 % 18446744073709551616)=((A2 * 131072 % 18446744073709551616:Nat):Int) by omega,bits_xor_u64_nat _ _ l2 (by omega),hC]
 clear hA hB hC;have hss:∀ v v',(w.setCell ⟨B,0,none⟩ v).setCell ⟨B,0,none⟩ v'=w.setCell ⟨B,0,none⟩ v':=Go.Proofs.setCell_setCell w B 0;go_enter Tryz.func233,Tryz.ntmps233
 go_wp2;go_region
 all_goals go_wp2
 all_goals go_region
 all_goals go_wp2
 all_goals go_region
 all_goals go_wp2
 all_goals go_ret
 all_goals exact ⟨A3,3,l3,rfl,rfl⟩
theorem Dq (n:Nat) (hn:0 < n) (hn2:n <= 1099511627776) (w:World):
  Calls Tryz.prog 232 #[.int .i64 (n:Nat)] w fun e w'=>∃ M:Nat,e=.returned (.int .u64 (M:Nat))/\(∃ k,M=2 ^ k)/\M <= 2 * n/\n < M/\w'=w:=by
 obtain ⟨M,hM⟩:∃ M:Nat,M=2 ^ Lib.bitLen n:=⟨_,rfl⟩;have hp:=Sk hn hn2;rw [<- hM] at hp;have hL:Lib.bitLen n <= 41:=by
  refine Nat.le_of_not_lt fun h=>?_
  have:=Nat.pow_le_pow_right (n:=2) (by omega) (show 42 <= Lib.bitLen n from h)
  rw [<- hM] at this;have h2:(2:Nat) ^ 42=4398046511104:=by decide
  omega
 have Q1:Hid (∀ W,Calls Tryz.prog 120 #[.int .u64 (n:Nat)] W fun e w'=>e=.returned (.int .i64 (Lib.bitLen n:Nat))/\w'=W):=fun W=>by
  have:=Tryz.bits_Len (n:Int) W (by omega) (by omega)
  simpa using this
 have e0:IntKind.u64.wrap (n:Int)=(n:Int):=by rw [IntKind.wrap_u64];omega
 obtain ⟨k,hk⟩:∃ k,k=Lib.bitLen n:=⟨_,rfl⟩;rw [<- hk] at Q1 hM hL;have e1:IntKind.u64.wrap (1 * 2 ^ ((k:Nat):Int).toNat)=(M:Int):=by
  rw [IntKind.wrap_u64,Int.toNat_natCast,hM];have h3:(2:Nat) ^ k <= 2 ^ 41:=Nat.pow_le_pow_right (by omega) hL
  have h2:(2:Nat) ^ 41=2199023255552:=by decide
  have h4:((2 ^ k:Nat):Int)=(2:Int) ^ k:=by simp
  rw [<- h4];omega
 have e2:IntKind.u64.wrap ((2:Int) ^ k)=(M:Int):=by
  have:=e1;rw [Int.toNat_natCast,Int.one_mul] at this;exact this
 have HM:=hide hM;clear hk hM;go_enter Tryz.func232,Tryz.ntmps232
 go_wp2_with (go_at_call 120;(with_reducible refine (Q1.out _).mono ?_);rintro e7 w7 ⟨rfl,rfl⟩;simp only [])
 go_ret
 exact ⟨M,rfl,⟨k,HM.out⟩,hp.1,hp.2,rfl⟩
end Qs
end So
end Go.Proofs.YtceahffmenbibaaGreatDoor
namespace Go.Proofs.YtceahffmenbibaaGreatDoor
namespace So
open Go Go.RowKit Go.Deep Rd
namespace Qs
variable {sb g cap m:Nat} {post:List Value} {aY xs:List Nat} {w0 w:World} {cf:Nat->Nat->Int}
structure Px (g:Nat) (post:List Value) (aY:List Nat) (w0:World) (B X:Nat) (xs:List Nat) (W:World):Prop where
 pm:Pm g post aY w0 xs W
 box:W.rowIs B 257 1 (fun _=>.int .u64 (X:Nat))
 new:w0.heap.size <= B
 ne:B ≠ g
theorem Px.below {B X:Nat} {W W':World} (h:Px g post aY w0 B X xs W) (hb:Below W.heap.size W W'):Px g post aY w0 B X xs W':=
 ⟨h.pm.below hb,h.box.of_block (hb.block _ h.box.lt),h.new,h.ne⟩
theorem Px.swap {B X:Nat} {W:World} (h:Px g post aY w0 B X xs W) {i j:Nat} (hi:i < xs.length) (hj:j < xs.length):Px g post aY w0 B X ((xs.set i xs[j]).set j xs[i]) ((W.setCell ⟨g,i,none⟩ (.int .i64 (xs[j]:Nat))).setCell ⟨g,j,none⟩ (.int .i64 (xs[i]:Nat))):=
 ⟨h.pm.swap hi hj,(h.box.setOther (by exact h.ne) _).setOther (by exact h.ne) _,h.new,h.ne⟩
theorem Px.next {B X:Nat} {W:World} (h:Px g post aY w0 B X xs W) (C n:Nat):Px g post aY w0 B C xs ((W.setCell ⟨B,0,none⟩ (.int .u64 (C:Nat))).drewN n):=by
 have k:Px g post aY w0 B C xs (W.setCell ⟨B,0,none⟩ (.int .u64 (C:Nat))):={
  pm:={
   lie:=by
    have h1:=h.pm.lie;unfold Df.uX at h1 ⊢;rw [Below.heap_setCell _ _ _ _ (fun e=>h.ne e.symm)];exact h1
   perm:=h.pm.perm
   bD:=⟨h.pm.bD.jK.setCell (Nat.zero_le _) _,fun k hk hz=>by
    rw [Below.heap_setCell _ _ _ _ (by have:=h.new;simp only;omega)]
    exact h.pm.bD.block k hk hz⟩ }
  box:=(h.box.set 0 _).congr fun i hi=>by simp;omega
  new:=h.new
  ne:=h.ne }
 exact k.below (Go.below_drewN (Below.refl _ _) n)
theorem VR {W:World} {X:Nat} (h:Pm g post aY w0 xs W):Px g post aY w0 W.heap.size X xs (W.alloc (.cells #[.int .u64 (X:Nat)] 257)) where
 pm:=h.below ((Below.refl _ _).alloc (Nat.le_refl _) _)
 box:=World.rowIs_alloc W _ _ _ fun i hi=>by
  obtain rfl:i=0:=by simp at hi;omega
  rfl
 new:=h.bD.size
 ne:=by have:=h.lt;omega
theorem rQ (C:iY sb g post aY w0 cf) (h:Pm g post aY w0 xs w) (hm:aY.length=m) (hm2:m <= 1099511627776) {a b:Nat} (hab:a + 12 < b) (hb:b <= m):
  Calls Tryz.prog 248 #[.slice (some ⟨g,0,none⟩) m cap,.int .i64 (a:Nat),.int .i64 (b:Nat),.func (.func 223) #[.pointer (some ⟨sb,0,none⟩)] #[]] w fun e w'=>jh g post aY w0 e w':=by
 have HC:=hide C;have S0:=hide h;clear C h;go_enter Tryz.func248,Tryz.ntmps248
 obtain ⟨l,hl⟩:∃ l,l=b - a:=⟨_,rfl⟩;have WM:(b:Int) - (a:Int)=(l:Int):=by omega
 have hl8:(8:Int) <= (l:Int):=by omega
 obtain ⟨q,hq⟩:∃ q,q=l / 4:=⟨_,rfl⟩;have hqi:(l:Int) / 4=(q:Int):=by omega
 have hq1:3 <= q:=by omega
 have hq2:a + 4 * q <= b:=by omega
 have ZC:a + l=b:=by omega
 obtain ⟨e,he⟩:∃ e,e=a + q * 2:=⟨_,rfl⟩;have hei:(a:Int) + (q:Int) * 2=(e:Int):=by omega
 have hea:a + 6 <= e:=by omega
 have heb:e + 6 <= b:=by omega
 have hw:IntKind.u64.wrap (l:Int)=(l:Int):=by rw [IntKind.wrap_u64];omega
 have Q1:=hide (fun W=>Dq l (by omega) (by omega) W)
 have S1:=hide (VR (X:=l) S0.out);clear hl hq he S0;go_upto_region 4 with (go_at_call 232;(with_reducible refine (Q1.out _).mono ?_);rintro e1 w1 ⟨M,rfl,hk,hM1,hM2,rfl⟩;simp only [])
 clear Q1 hk;generalize w.alloc (.cells #[.int .u64 (l:Nat)] 257)=w1 at *
 generalize w.heap.size=B at *
 have hX0:l < 18446744073709551616:=by omega
 go_wp2;go_loopw [11] (fun iv wr=>∃ (d X:Nat) (xs:List Nat),iv=.int .i64 ((e:Int) - 1 + d)/\d <= 3/\X < 18446744073709551616/\Hid (Px g post aY w0 B X xs wr)) (fun iv _=>e + 2 - (intOf iv).toNat)
 case atStart=>exact ⟨0,l,xs,by go_num,by omega,hX0,S1⟩
 case round=>
  clear S1;obtain ⟨d,X,zs,rfl,hd3,hX,hst⟩:=hrel;have hl:=hst.out.pm.len;obtain ⟨i,hid⟩:∃ i,i + 1=e + d:=⟨e + d - 1,by omega⟩
  have hii:(e:Int) - 1 + (d:Int)=(i:Int):=by omega
  rw [hii];clear hii;have hib:i + 3 <= b:=by omega
  by_cases hlt:d < 3
  ·have hle:(i:Int) <= (e:Int) + 1:=by omega
   have c0:=hst.out.box.cell (i:=0) (by omega)
   have f0:=hst.out.box.frozen 0;have QN:=hide (wm hX wr c0 f0);clear c0 f0;go_upto_region 7 with fail
   go_upto_region 8 with (go_at_call 233;(with_reducible refine QN.out.mono ?_);rintro e2 w2 ⟨C,n,hC,rfl,rfl⟩;simp only [])
   have H:=hide (hst.out.next C n);clear hst QN;have hst:=H;clear H;generalize (wr.setCell ⟨B,0,none⟩ (.int .u64 (C:Nat))).drewN n=wr at *
   obtain ⟨o,ho⟩:∃ o:Nat,o=C &&& (M - 1):=⟨_,rfl⟩;have hol:o < M:=by
    rw [ho];have:=Nat.and_le_right (n:=C) (m:=M - 1);omega
   have eo:Go.bits .and .u64 (C:Int) ((M:Int) - 1)=(o:Int):=by
    rw [show (M:Int) - 1=((M - 1:Nat):Int) by omega,bits_and_u64_nat _ _ hC (by omega),ho]
   have ew:wrap64 (o:Int)=(o:Int):=by unfold wrap64;omega
   rw [eo,ew];clear ho eo ew;by_cases hol2:o < l
   ·have hge:¬ (l:Int) <= (o:Int):=by omega
    obtain ⟨jb,hjb⟩:∃ jb,jb=a + o:=⟨_,rfl⟩;have KT:(a:Int) + (o:Int)=(jb:Int):=by omega
    have hjl:jb < b:=by omega
    clear hjb;have jx:i < zs.length:=by omega
    have jy:jb < zs.length:=by omega
    have l1:i < m:=by omega
    have l2:jb < m:=by omega
    have HD:=hide hid;clear hid;by_cases hs:i=jb
    ·obtain ⟨c1,f1⟩:=hst.out.pm.cell jx;have H2:=hide (hst.out.swap jx jx);have ijc:(a:Int) + (o:Int)=(i:Int):=by omega
     clear KT hs jy l2;generalize zs[i]=x at *
     go_upto_region 10 with fail
     go_region
     all_goals
      have H3:=hide (H2.out.below (Below.refl _ _).drew);clear hst H2;go_wp2;go_roundw
      case rel=>exact ⟨d + 1,C,_,by have:=HD.out;go_num,by omega,hC,H3⟩
      case measure=>have:=HD.out;simp [intOf];omega
    ·obtain ⟨c1,f1⟩:=hst.out.pm.cell jx;obtain ⟨c2,f2⟩:=hst.out.pm.cell jy;have H2:=hide (hst.out.swap jx jy);have hne2:¬ jb=i:=by omega
     generalize zs[i]=x at *
     generalize zs[jb]=y at *
     go_upto_region 10 with fail
     go_region
     all_goals
      have H3:=hide (H2.out.below (Below.refl _ _).drew);clear hst H2;go_wp2;go_roundw
      case rel=>exact ⟨d + 1,C,_,by have:=HD.out;go_num,by omega,hC,H3⟩
      case measure=>have:=HD.out;simp [intOf];omega
   ·have hge:(l:Int) <= (o:Int):=by omega
    obtain ⟨o2,ho2⟩:∃ o2,o2 + l=o:=⟨o - l,by omega⟩
    have e2:(o:Int) - (l:Int)=(o2:Int):=by omega
    have ho3:o2 < l:=by omega
    clear ho2;obtain ⟨jb,hjb⟩:∃ jb,jb=a + o2:=⟨_,rfl⟩;have KT:(a:Int) + (o2:Int)=(jb:Int):=by omega
    have hjl:jb < b:=by omega
    clear hjb;have jx:i < zs.length:=by omega
    have jy:jb < zs.length:=by omega
    have l1:i < m:=by omega
    have l2:jb < m:=by omega
    have HD:=hide hid;clear hid;by_cases hs:i=jb
    ·obtain ⟨c1,f1⟩:=hst.out.pm.cell jx;have H2:=hide (hst.out.swap jx jx);have ijc:(a:Int) + (o2:Int)=(i:Int):=by omega
     clear KT hs jy l2;generalize zs[i]=x at *
     go_upto_region 10 with fail
     go_region
     all_goals
      have H3:=hide (H2.out.below (Below.refl _ _).drew);clear hst H2;go_wp2;go_roundw
      case rel=>exact ⟨d + 1,C,_,by have:=HD.out;go_num,by omega,hC,H3⟩
      case measure=>have:=HD.out;simp [intOf];omega
    ·obtain ⟨c1,f1⟩:=hst.out.pm.cell jx;obtain ⟨c2,f2⟩:=hst.out.pm.cell jy;have H2:=hide (hst.out.swap jx jy);have hne2:¬ jb=i:=by omega
     generalize zs[i]=x at *
     generalize zs[jb]=y at *
     go_upto_region 10 with fail
     go_region
     all_goals
      have H3:=hide (H2.out.below (Below.refl _ _).drew);clear hst H2;go_wp2;go_roundw
      case rel=>exact ⟨d + 1,C,_,by have:=HD.out;go_num,by omega,hC,H3⟩
      case measure=>have:=HD.out;simp [intOf];omega
  ·have hle:¬ (i:Int) <= (e:Int) + 1:=by omega
   go_wp2;go_end0
   exact ⟨rfl,_,hst.out.pm⟩
end Qs
end So
end Go.Proofs.YtceahffmenbibaaGreatDoor
namespace Go.Proofs.YtceahffmenbibaaGreatDoor
namespace So
open Go Go.RowKit Go.Deep Rd
namespace Qs
variable {sb g cap m:Nat} {post:List Value} {aY xs:List Nat} {w0 w:World} {cf:Nat->Nat->Int}
theorem Nu (C:iY sb g post aY w0 cf) (hm:aY.length=m) (hm2:m <= 1099511627776) (N:Nat)
  (ih:∀ (a b lim:Nat) (W:World) (xs:List Nat),b - a < N->a <= b->b <= m->lim <= 1000->Pm g post aY w0 xs W->Calls Tryz.prog 239 #[.slice (some ⟨g,0,none⟩) m cap,.int .i64 (a:Nat),.int .i64 (b:Nat),.int .i64 (lim:Nat),.func (.func 223) #[.pointer (some ⟨sb,0,none⟩)] #[]] W fun e w'=>jh g post aY w0 e w')
  {a1 b1 Wp:Nat} (hN:b1 - a1 <= N) (hab:a1 <= b1) (hb:b1 <= m) (Zo:Wp <= 1000) (h:Pm g post aY w0 xs w):
  Calls Tryz.prog 239 #[.slice (some ⟨g,0,none⟩) m cap,.int .i64 (a1:Nat),.int .i64 (b1:Nat),.int .i64 (Wp:Nat),.func (.func 223) #[.pointer (some ⟨sb,0,none⟩)] #[]] w fun e w'=>jh g post aY w0 e w':=by
 have HC:=hide C;have S0:=hide h;clear C h;go_enter Tryz.func239,Tryz.ntmps239
 have IH:=hide ih;clear ih;go_wp2;go_loopw [1,2,3,10,11] (fun av bv lv tv sv wr=>∃ (a b lim:Nat) (t1 t2:Bool) (xs:List Nat),av=.int .i64 (a:Nat)/\bv=.int .i64 (b:Nat)/\lv=.int .i64 (lim:Nat)/\tv=.bool t1/\sv=.bool t2/\a <= b/\b <= m/\b - a <= N/\lim <= 1000/\Hid (Pm g post aY w0 xs wr)) (fun av bv _ _ _ _=>(intOf bv).toNat - (intOf av).toNat)
 case atStart=>exact ⟨a1,b1,Wp,true,true,xs,rfl,rfl,rfl,rfl,rfl,hab,hb,hN,Zo,S0⟩
 case round=>
  clear S0;obtain ⟨a,b,lim,t1,t2,zs,rfl,rfl,rfl,rfl,rfl,ZC,hbm,I7,hlim,hst⟩:=hrel;by_cases h12:b <= a + 12
  ·have h12i:(b:Int) - (a:Int) <= 12:=by omega
   have Q1:=hide (yD (cap:=cap) HC.out hst.out hm hm2 (a:=a) (b:=b) ZC hbm);clear hst;go_wp2_with (go_at_call 246;(with_reducible refine Q1.out.mono ?_);rintro e1 w1 ⟨rfl,ys,s1⟩;have S1:=hide s1;clear s1 Q1;simp only [])
   go_end0
   exact ⟨rfl,_,S1.out⟩
  ·have h12i:¬ (b:Int) - (a:Int) <= 12:=by omega
   by_cases hl0:lim=0
   ·subst hl0;have Q1:=hide (Bn (cap:=cap) HC.out hst.out hm hm2 (a:=a) (b:=b) (by omega) hbm)
    clear hst;go_wp2_with (go_at_call 247;(with_reducible refine Q1.out.mono ?_);rintro e1 w1 ⟨rfl,ys,s1⟩;have S1:=hide s1;clear s1 Q1;simp only [])
    go_end0
    exact ⟨rfl,_,S1.out⟩
   ·have hl0b:((lim:Int) == 0)=false:=by simp;omega
    go_upto_if 39 with fail
    go_cut [3] from 21 to 147 (fun lv wx=>∃ (YX:Nat) (ys:List Nat),lv=.int .i64 (YX:Nat)/\YX <= 1000/\Pm g post aY w0 ys wx)
    case first=>
     cases t1
     ·have Q1:=hide (rQ (cap:=cap) HC.out hst.out hm hm2 (a:=a) (b:=b) (by omega) (by omega))
      clear hst;go_wp2_with (go_at_call 248;(with_reducible refine Q1.out.mono ?_);rintro e1 w1 ⟨rfl,ys,s1⟩;have S1:=hide s1;clear s1 Q1;simp only [])
      go_meet;exact ⟨lim - 1,ys,by go_num,by omega,S1.out⟩
     ·have H:=hst;go_wp2;go_meet;exact ⟨lim,zs,rfl,by omega,H.out⟩
    case rest=>
     obtain ⟨lim,ys,rfl,hlm,hy⟩:=hcut;have H:=hide hy;clear hy hst hlim hl0;have hst:=H;clear H;obtain ⟨zs,hzs⟩:∃ x,x=ys:=⟨_,rfl⟩;subst hzs;have hl:=hst.out.len;obtain ⟨wr,hwr⟩:∃ x,x=wc:=⟨_,rfl⟩;subst hwr;have Q1:=hide (uV (cap:=cap) HC.out hst.out hm hm2 (a:=a) (b:=b) (by omega) (by omega))
     clear hst;go_upto_region 11 with (go_at_call 249;(with_reducible refine Q1.out.mono ?_);rintro e1 w1 ⟨p,t,rfl,hp1,hp2,s1⟩;have S1:=hide s1;clear s1 Q1;simp only [])
     have hst:=S1;clear S1;obtain ⟨wr,hwr⟩:∃ x,x=w1:=⟨_,rfl⟩;subst hwr;have hl:=hst.out.len;go_upto_if 56 with fail
     go_cut [13,14] from 21 to 147 (fun pv hv wx=>∃ (p:Nat) (t:Int) (ys:List Nat),pv=.int .i64 (p:Nat)/\hv=.int .i64 t/\a <= p/\p < b/\Pm g post aY w0 ys wx)
     case first=>
      by_cases ht:t=2
      ·subst ht;have Q1:=hide (CK (cap:=cap) HC.out hst.out hm hm2 (a:=a) (b:=b) (by omega) (by omega))
       clear hst;go_wp2_with (go_at_call 250;(with_reducible refine Q1.out.mono ?_);rintro e2 w2 ⟨rfl,ys,s2⟩;have S2:=hide s2;clear s2 Q1;simp only [])
       go_meet;exact ⟨b - 1 - (p - a),1,ys,by go_num,rfl,by omega,by omega,S2.out⟩
      ·have htb:(t == 2)=false:=by simp;omega
       have H:=hst;go_wp2;go_meet;exact ⟨p,t,zs,rfl,rfl,by omega,by omega,H.out⟩
     case rest=>
      obtain ⟨p,t,ys,rfl,rfl,hp1,hp2,hy⟩:=hcut;have H:=hide hy;clear hy hst;have hst:=H;clear H;obtain ⟨zs,hzs⟩:∃ x,x=ys:=⟨_,rfl⟩;subst hzs;have hl:=hst.out.len;obtain ⟨wr,hwr⟩:∃ x,x=wc:=⟨_,rfl⟩;subst hwr;go_upto_region 15 with fail
      go_cut [75] from 21 to 147 (fun v wx=>∃ c:Bool,v=.bool c/\wx=wr)
      case first=>
       cases t1
       ·go_wp2;go_meet
        exact ⟨_,rfl,rfl⟩
       ·cases t2
        ·go_wp2;go_meet
         exact ⟨_,rfl,rfl⟩
        ·go_wp2;go_meet
         exact ⟨_,rfl,rfl⟩
      case rest=>
       obtain ⟨c,rfl,rfl⟩:=hcut;obtain ⟨wr,hwr⟩:∃ x,x=wc:=⟨_,rfl⟩;subst hwr;go_upto_if 75 with fail
       go_cut [] from 21 to 147 (fun wx=>∃ ys,Pm g post aY w0 ys wx)
       case first=>
        cases c
        ·have H:=hst;go_wp2;go_meet;exact ⟨_,H.out⟩
        ·have Q1:=hide (nV (cap:=cap) HC.out hst.out hm hm2 (a:=a) (b:=b) (by omega) (by omega))
         clear hst;go_upto_if 80 with (go_at_call 251;(with_reducible refine Q1.out.mono ?_);rintro e1 w1 ⟨t,ys,rfl,s1⟩;have S1:=hide s1;clear s1 Q1;simp only [])
         cases t
         ·go_wp2;go_meet
          exact ⟨_,S1.out⟩
         ·go_wp2;go_end0
          exact ⟨rfl,_,S1.out⟩
       case rest=>
        obtain ⟨ys,hy⟩:=hcut;have H:=hide hy;clear hy hst;have hst:=H;clear H;obtain ⟨zs,hzs⟩:∃ x,x=ys:=⟨_,rfl⟩;subst hzs;have hl:=hst.out.len;obtain ⟨wr,hwr⟩:∃ x,x=wc:=⟨_,rfl⟩;subst hwr;obtain ⟨k,hk⟩:∃ k,k=a - 1:=⟨_,rfl⟩;go_upto_region 17 with fail
        go_cut [97] from 21 to 147 (fun v wx=>uH g post aY w0 zs (0 < a) v wx)
        case first=>
         by_cases hg:0 < a
         ·have hd:decide ((0:Int) < (a:Int))=true:=by simp;omega
          have jx:k < zs.length:=by omega
          have jy:p < zs.length:=by omega
          have l1:k < m:=by omega
          have l2:p < m:=by omega
          have ek:(a:Int) - 1=(k:Int):=by omega
          clear hk;obtain ⟨c1,f1⟩:=hst.out.cell jx;obtain ⟨c2,f2⟩:=hst.out.cell jy;have QC:=hide (fun p:dZ wr=>HC.out.at hst.out (hst.out.mem jx) (hst.out.mem jy) p)
          have k1:=dZ.cell c1;have k2:=dZ.cell c2;have ne:Nonempty (dZ wr):=⟨⟨wr,Below.refl _ _⟩⟩;refine ay (by kernel_rfl) (by kernel_rfl) ?_
          repeat (go_big_quiet_step ((go_at_call 223;exact QC.out _)))
          refine wpQuiet_nil ?_;rintro _ ⟨p,rfl⟩;have H:=hide (hst.out.below p.h);have HG:=hide hg;clear hst k1 k2 c1 c2 f1 f2 QC ne hg;generalize p.W=wn at *
          go_wp2;go_meet
          exact ⟨_,rfl,fun _=>HG.out,H.out⟩
         ·have hd:decide ((0:Int) < (a:Int))=false:=by simp;omega
          have ne:Nonempty (dZ wr):=⟨⟨wr,Below.refl _ _⟩⟩;refine ay (by kernel_rfl) (by kernel_rfl) ?_
          repeat (go_big_quiet_step (fail))
          refine wpQuiet_nil ?_;rintro _ ⟨p,rfl⟩;have H:=hide (hst.out.below p.h);clear hst ne;generalize p.W=wn at *
          go_wp2;go_meet
          exact ⟨false,rfl,fun h=>(by cases h),H.out⟩
        case rest=>
         obtain ⟨b1,rfl,hb1,hs1⟩:=hcut;have H:=hide hs1;clear hs1 hst;have hst:=H;clear H;obtain ⟨wr,hwr⟩:∃ x,x=wc:=⟨_,rfl⟩;subst hwr;clear hk;cases b1
         ·clear hb1;have Q1:=hide (yu (cap:=cap) HC.out hst.out hm hm2 (a:=a) (b:=b) (pv:=p) (by omega) (by omega) (by omega) (by omega))
          clear hst;go_upto_region 21 with (go_at_call 253;(with_reducible refine Q1.out.mono ?_);rintro e1 w1 ⟨q,t,ys,rfl,hq1,hq2,s1⟩;have S1:=hide s1;clear s1 Q1;simp only [])
          by_cases hlr:q - a < b - q
          ·have hlri:(q:Int) - (a:Int) < (b:Int) - (q:Int):=by omega
           have Q2:=hide (IH.out a q lim w1 ys (by omega) (by omega) (by omega) (by omega) S1.out)
           clear S1;go_wp2_with (go_at_call 239;(with_reducible refine Q2.out.mono ?_);rintro e2 w2 ⟨rfl,ys2,s2⟩;have S2:=hide s2;clear s2 Q2;simp only [])
           go_roundw
           case rel=>exact ⟨q + 1,b,lim,_,_,_,by first | rfl | go_num,by first | rfl | go_num,rfl,rfl,rfl,by omega,by omega,by omega,by omega,S2⟩
           case measure=>simp [intOf];omega
          ·have hlri:¬ (q:Int) - (a:Int) < (b:Int) - (q:Int):=by omega
           have hq3:(q:Int) + 1=((q + 1:Nat):Int):=by omega
           have Q2:Hid (Calls Tryz.prog 239 #[.slice (some ⟨g,0,none⟩) m cap,.int .i64 ((q:Int) + 1),.int .i64 (b:Nat),.int .i64 (lim:Nat),.func (.func 223) #[.pointer (some ⟨sb,0,none⟩)] #[]] w1 fun e w'=>jh g post aY w0 e w'):=by
            rw [hq3];exact IH.out (q + 1) b lim w1 ys (by omega) (by omega) (by omega) (by omega) S1.out
           clear S1 hq3;go_wp2_with (go_at_call 239;(with_reducible refine Q2.out.mono ?_);rintro e2 w2 ⟨rfl,ys2,s2⟩;have S2:=hide s2;clear s2 Q2;simp only [])
           go_roundw
           case rel=>exact ⟨a,q,lim,_,_,_,by first | rfl | go_num,by first | rfl | go_num,rfl,rfl,rfl,by omega,by omega,by omega,by omega,S2⟩
           case measure=>simp [intOf];omega
         ·have ha0:=hb1 rfl;clear hb1;have Q1:=hide (qz (cap:=cap) HC.out hst.out hm hm2 (a:=a) (b:=b) (pv:=p) (by omega) (by omega) (by omega) (by omega))
          clear hst;go_wp2_with (go_at_call 252;(with_reducible refine Q1.out.mono ?_);rintro e1 w1 ⟨q,ys,rfl,hq1,hq2,s1⟩;have S2:=hide s1;clear s1 Q1;simp only [])
          go_roundw
          case rel=>exact ⟨q,b,lim,_,_,_,by first | rfl | go_num,by first | rfl | go_num,rfl,rfl,rfl,by omega,by omega,by omega,by omega,S2⟩
          case measure=>simp [intOf];omega
theorem IA (C:iY sb g post aY w0 cf) (hm:aY.length=m) (hm2:m <= 1099511627776):∀ (N a b lim:Nat) (W:World) (xs:List Nat),b - a < N->a <= b->b <= m->lim <= 1000->Pm g post aY w0 xs W->Calls Tryz.prog 239 #[.slice (some ⟨g,0,none⟩) m cap,.int .i64 (a:Nat),.int .i64 (b:Nat),.int .i64 (lim:Nat),.func (.func 223) #[.pointer (some ⟨sb,0,none⟩)] #[]] W fun e w'=>jh g post aY w0 e w'
 | 0,a,b,lim,W,xs,hN,_,_,_,_=>absurd hN (by omega)
 | N + 1,a,b,lim,W,xs,hN,hab,hb,hl,h=>Nu C hm hm2 N (fun a b lim W xs h1 h2 h3 h4 h5=>IA C hm hm2 N a b lim W xs h1 h2 h3 h4 h5) (by omega) hab hb hl h
end Qs
end So
end Go.Proofs.YtceahffmenbibaaGreatDoor
namespace Go.Proofs.YtceahffmenbibaaGreatDoor
namespace So
open Go Go.RowKit Go.Deep Rd
namespace Qs
variable {sb g cap m:Nat} {post:List Value} {aY xs:List Nat} {w0 w:World} {cf:Nat->Nat->Int}
theorem Ws {n:Nat} (h:n <= 1099511627776):Lib.bitLen n <= 41:=
 Lib.bitLen_le n 41 (by omega) (by
  have h2:(2:Nat) ^ 41=2199023255552:=by decide
  rw [h2];omega)
theorem Aj (C:iY sb g post aY w0 cf) (h:Pm g post aY w0 xs w) (hm:aY.length=m) (hm2:m <= 1099511627776):
  Calls Tryz.prog 222 #[.slice (some ⟨g,0,none⟩) m cap,.func (.func 223) #[.pointer (some ⟨sb,0,none⟩)] #[]] w fun e w'=>jh g post aY w0 e w':=by
 have Q1:Hid (∀ W,Calls Tryz.prog 120 #[.int .u64 (m:Nat)] W fun e w'=>e=.returned (.int .i64 (Lib.bitLen m:Nat))/\w'=W):=fun W=>by
  have:=Tryz.bits_Len (m:Int) W (by omega) (by omega)
  simpa using this
 have Q2:Hid (Calls Tryz.prog 239 #[.slice (some ⟨g,0,none⟩) m cap,.int .i64 0,.int .i64 (m:Nat),.int .i64 (Lib.bitLen m:Nat),.func (.func 223) #[.pointer (some ⟨sb,0,none⟩)] #[]] w fun e w'=>jh g post aY w0 e w'):=
  IA C hm hm2 (m + 1) 0 m (Lib.bitLen m) w xs (by omega) (by omega) (by omega) (by have:=Ws hm2;omega) h
 have e0:IntKind.u64.wrap (m:Int)=(m:Int):=by rw [IntKind.wrap_u64];omega
 clear C h;generalize Lib.bitLen m=k at *
 go_enter Tryz.func222,Tryz.ntmps222
 go_wp2_with (first
  |(go_at_call 120;(with_reducible refine (Q1.out _).mono ?_);rintro e7 w7 ⟨rfl,rfl⟩;clear Q1;simp only [])
  |(go_at_call 239;(with_reducible refine Q2.out.mono ?_);rintro e8 w8 ⟨rfl,ys,hy⟩;have H:=hide hy;clear hy Q2;simp only []))
 go_end0
 exact ⟨rfl,_,H.out⟩
def Sam (w:World) (e:Ending) (w':World):Prop:=e=.returned (.tuple #[])/\w'=w
theorem wS (al:Option Addr) (cap:Nat) (cv:Value) (w:World):
  Calls Tryz.prog 246 #[.slice al 0 cap,.int .i64 0,.int .i64 0,cv] w fun e w'=>Sam w e w':=by
 go_enter Tryz.func246,Tryz.ntmps246
 go_wp2;go_loopw [8] (fun iv wr=>iv=.int .i64 1/\wr=w) (fun _ _=>0)
 case atStart=>exact ⟨rfl,rfl⟩
 case round=>
  obtain ⟨rfl,rfl⟩:=hrel;go_wp2;go_end0;exact ⟨rfl,rfl⟩
theorem Nv (al:Option Addr) (cap:Nat) (lim:Int) (cv:Value) (w:World):
  Calls Tryz.prog 239 #[.slice al 0 cap,.int .i64 0,.int .i64 0,.int .i64 lim,cv] w fun e w'=>Sam w e w':=by
 have Q:=hide (wS al cap cv);go_enter Tryz.func239,Tryz.ntmps239
 go_wp2;go_loopw [1,2,3,10,11] (fun av bv lv tv sv wr=>av=.int .i64 0/\bv=.int .i64 0/\wr=w) (fun _ _ _ _ _ _=>0)
 case atStart=>exact ⟨rfl,rfl,rfl⟩
 case round=>
  obtain ⟨rfl,rfl,rfl⟩:=hrel;go_wp2_with (go_at_call 246;(with_reducible refine (Q.out _).mono ?_);rintro e1 w1 ⟨rfl,rfl⟩;simp only [])
  go_end0
  exact ⟨rfl,rfl⟩
theorem yl (al:Option Addr) (cap:Nat) (cv:Value) (w:World):
  Calls Tryz.prog 222 #[.slice al 0 cap,cv] w fun e w'=>Sam w e w':=by
 have Q1:Hid (∀ W,Calls Tryz.prog 120 #[.int .u64 0] W fun e w'=>e=.returned (.int .i64 0)/\w'=W):=fun W=>by
  have:=Tryz.bits_Len 0 W (by omega) (by omega)
  exact this
 have Q2:=hide (Nv al cap 0 cv);go_enter Tryz.func222,Tryz.ntmps222
 go_wp2_with (first
  |(go_at_call 120;(with_reducible refine (Q1.out _).mono ?_);rintro e7 w7 ⟨rfl,rfl⟩;clear Q1;simp only [])
  |(go_at_call 239;(with_reducible refine (Q2.out _).mono ?_);rintro e8 w8 ⟨rfl,rfl⟩;clear Q2;simp only []))
 go_end0
 exact ⟨rfl,rfl⟩
end Qs
end So
end Go.Proofs.YtceahffmenbibaaGreatDoor
namespace Go.Proofs.YtceahffmenbibaaGreatDoor
namespace So
section
open Go Go.RowKit Go.Deep Rd
variable {Z:Nat->Prop} {sb K n:Nat} {w:World} {f V:Nat->Value} {X:Nat->List Value} {cs:List Rec} {tr ch:List Nat} {lev:Nat->Nat} {rea:Nat->Int}
def qd (tr:List Nat) (rea:Nat->Int) (cs:List Rec) (k:Nat):Prop:=∃ hk:k < cs.length,(cs[k]).kind=1/\2 < (cs[k]).lits.length/\∀ x,(cs[k]).lits[0]? = some x->¬ (0 < tv tr x/\rea (x / 2)=((aj cs k:Nat):Int))
def FH (tr:List Nat) (rea:Nat->Int) (cs:List Rec) (m:Nat) (ids:List Nat):Prop:=ids.Nodup/\∀ a ∈ ids,∃ k,k < m/\qd tr rea cs k/\a=aj cs k
theorem FH.perm {m:Nat} {a b:List Nat} (h:FH tr rea cs m a) (hp:b.Perm a):FH tr rea cs m b:=⟨hp.nodup_iff.2 h.1,fun x hx=>h.2 x (hp.mem_iff.1 hx)⟩
theorem FH.none {m:Nat} {a:List Nat} (h:FH tr rea cs m a):FH tr rea cs (m + 1) a:=⟨h.1,fun x hx=>by
 obtain ⟨k,h1,h2⟩:=h.2 x hx;exact ⟨k,by omega,h2⟩⟩
theorem FH.snoc {m:Nat} {a:List Nat} (h:FH tr rea cs m a) (hI:qd tr rea cs m):FH tr rea cs (m + 1) (a ++ [aj cs m]):=by
 obtain ⟨hm,_⟩:=id hI;refine ⟨?_,fun x hx=>?_⟩
 ·rw [List.nodup_append];refine ⟨h.1,by simp,fun x hx y hy e=>?_⟩
  rw [List.mem_singleton.1 hy] at e;obtain ⟨k,h1,_,h3⟩:=h.2 x hx;have:=xM (cs:=cs) h1 (by omega)
  omega
 ·rcases List.mem_append.1 hx with hx | hx
  ·obtain ⟨k,h1,h2⟩:=h.2 x hx;exact ⟨k,by omega,h2⟩
  ·exact ⟨m,by omega,hI,List.mem_singleton.1 hx⟩
theorem FH.len {m:Nat} {a:List Nat} (hm:m <= cs.length) (h:FH tr rea cs m a):a.length <= (enc cs).length:=by
 have hs:a.Nodup/\∀ x ∈ a,x < (enc cs).length:=⟨h.1,fun x hx=>by
  obtain ⟨k,h1,_,rfl⟩:=h.2 x hx;have:=xM (cs:=cs) h1 hm;have:=Qa (cs:=cs) (j:=m) (k:=cs.length) hm (Nat.le_refl _);rw [dY (Nat.le_refl _)] at this;omega⟩
 have h2:a ⊆ List.range (enc cs).length:=fun x hx=>List.mem_range.2 (hs.2 x hx)
 have:=hs.1.length_le_of_subset h2;simpa using this
def Rm (Z:Nat->Prop) (sb:Nat) (w:World) (K:Nat) (f V:Nat->Value) (X:Nat->List Value) (ids:List Nat) (wr:World):Prop:=aC Z w wr/\∃ v,aQ Z sb wr K (upd f 19 v) (upd V 8 v) (upd X 8 (au ids))
theorem Rm.later {ids:List Nat} {wr w':World} (h:Rm Z sb w K f V X ids wr) (hb:Below wr.heap.size wr w'):Rm Z sb w K f V X ids w':=by
 obtain ⟨h1,v,h2⟩:=h;exact ⟨h1.trans (aC.of_below hb),v,h2.later hb⟩
theorem aQ.perm {ids ys:List Nat} {wr W:World} {g c:Nat} {post:List Value} (h:aQ Z sb wr K f V X) (hx:X 8=au ids) (hv:V 8=.slice (some ⟨g,0,none⟩) ids.length c) (hc:ids.length + post.length=c) (hW:Qs.Pm g post ids wr ys W):aQ Z sb W K f V (upd X 8 (au ys)):=by
 have hK:=h.hK;have hl:=hW.len;have hg:(V 8).ownBlock=some g:=by rw [hv];rfl
 have hne:g ≠ sb:=h.far (k:=8) (by omega) g hg
 have keep:∀ k,k < wr.heap.size->k ≠ g->W.heap[k]? = wr.heap[k]? := fun k hk e=>hW.bD.block k hk e
 refine ⟨h.row.of_block (keep sb h.row.lt (Ne.symm hne)),⟨fun k hk=>?_,h.bC.apart⟩,h.hdr,h.fZ,h.al,fun k hk=>h.az k (Nat.le_trans hW.bD.size hk),h.hK⟩
 by_cases e:k=8
 ·subst e;rw [ae,hv];have hn:(au ys).length=ids.length:=by rw [ag,hl]
  have o:=h.bC.own 8 hk;rw [hv] at o
  rcases o.2 with ⟨e1,_⟩ | ⟨g',cap,cur,e1,hb,hg',h1,h2,h3,h4⟩
  ·cases e1
  ·obtain ⟨q1,q2,q3⟩:=Value.slice.inj e1;cases q1
   subst q3;refine ⟨by simp,.inr ⟨g,c,((au ys) ++ post).toArray,by rw [hn],hb,?_,by rw [hn];omega,h2,by simp;rw [ag,hl];omega,by simp⟩⟩
   have:=hW.lie;unfold Df.uX at this;rw [List.nil_append] at this;exact this
 ·rw [aa _ _ e];refine ownB (h.bC.own k hk) fun g' hg'=>keep g' ((h.bC.own k hk).lt g' hg').2 fun e2=>?_
  rcases h.bC.apart k 8 hk (by omega) e with a | a
  ·rw [hg'] at a;cases a
  ·rw [hg',hg,e2] at a;exact a rfl
def XK (Z:Nat->Prop) (sb:Nat) (w:World) (K:Nat) (f V:Nat->Value) (X:Nat->List Value) (tr:List Nat) (rea:Nat->Int) (cs:List Rec) (s2:Value) (wr:World):Prop:=
 ∃ (k:Nat) (ids:List Nat),s2=.int .i64 ((aj cs k:Nat):Int)/\k <= cs.length/\Hid (FH tr rea cs k ids/\Rm Z sb w K f V X ids wr)
def FidAt (tr:List Nat) (rea:Nat->Int) (cs:List Rec) (k:Nat) (wr:World) (v:Value) (wx:World):Prop:=∃ b:Bool,v=.bool b/\(b=true->qd tr rea cs k)/\∃ j,wx=wr.drewN j
def Qz (Z:Nat->Prop) (sb:Nat) (w:World) (K:Nat) (f V:Nat->Value) (X:Nat->List Value) (tr:List Nat) (rea:Nat->Int) (cs:List Rec) (e:Ending) (w':World):Prop:=
 e=.returned (.tuple #[])/\∃ ids,FH tr rea cs cs.length ids/\Rm Z sb w K f V X ids w'
theorem Um (cs:List Rec):∃ cf:Nat->Nat->Int,∀ i j (hi:i < cs.length) (hj:j < cs.length),cf (aj cs i) (aj cs j)=NB (oI (cs[i]).busy (cs[j]).busy) (oI (cs[j]).lits.length (cs[i]).lits.length) (oI (aj cs i) (aj cs j)):=by
 refine ⟨fun x y=>Classical.epsilon fun z=>∀ i j (hi:i < cs.length) (hj:j < cs.length),x=aj cs i->y=aj cs j->z=NB (oI (cs[i]).busy (cs[j]).busy) (oI (cs[j]).lits.length (cs[i]).lits.length) (oI (aj cs i) (aj cs j)),fun i j hi hj=>?_⟩
 refine Classical.epsilon_spec (p:=fun z=>∀ i' j' (hi':i' < cs.length) (hj':j' < cs.length),aj cs i=aj cs i'->aj cs j=aj cs j'->z=NB (oI (cs[i']).busy (cs[j']).busy) (oI (cs[j']).lits.length (cs[i']).lits.length) (oI (aj cs i') (aj cs j'))) ⟨NB (oI (cs[i]).busy (cs[j]).busy) (oI (cs[j]).lits.length (cs[i]).lits.length) (oI (aj cs i) (aj cs j)),fun i' j' hi' hj' e1 e2=>?_⟩ i j hi hj rfl rfl
 obtain rfl:=BJ (by omega) (by omega) e1
 obtain rfl:=BJ (by omega) (by omega) e2
 rfl
theorem Pn {ids:List Nat} {wr:World} (hN:(enc cs).length <= 1099511627776) (h0:X 0=ints (enc cs)) (hI:FH tr rea cs cs.length ids) (hL:Rm Z sb w K f V X ids wr):
  ∃ (a:Option Addr) (c:Nat),wr.cell? ⟨sb,19,none⟩=some (.slice a ids.length c)/\Calls Tryz.prog 222 #[.slice a ids.length c,.func (.func 223) #[.pointer (some ⟨sb,0,none⟩)] #[]] wr fun e w'=>Qz Z sb w K f V X tr rea cs e w':=by
 obtain ⟨hC,v,hS⟩:=hL;have hK:=hS.hK;have hd:=(hS.hd (k:=8) (by omega)).1
 rw [show cellOf 8=19 from rfl,ae] at hd
 have o:=hS.bC.own 8 (by omega)
 rw [ae,ae,ag] at o
 rcases o.2 with ⟨rfl,hl0⟩ | ⟨g,c,cur,rfl,hb,hg,h1,h2,h3,h4⟩
 ·refine ⟨none,0,by rw [hl0];exact hd,?_⟩
  rw [hl0];refine (Qs.yl none 0 _ wr).mono ?_;rintro e w' ⟨rfl,rfl⟩;exact ⟨rfl,ids,hI,hC,_,hS⟩
 ·refine ⟨some ⟨g,0,none⟩,c,hd,?_⟩;have Zx:cur.toList=au ids ++ cur.toList.drop ids.length:=by
   have:=List.take_append_drop ids.length cur.toList;rw [Nat.mul_one] at h4;rw [h4] at this;exact this.symm
  have hlen:ids.length + (cur.toList.drop ids.length).length=c:=by
   have hs:cur.toList.length=c:=by rw [Array.length_toList,h3,Nat.mul_one]
   rw [List.length_drop,hs];omega
  have P0:Qs.Pm g (cur.toList.drop ids.length) ids wr ids wr:=⟨by
   have hc:cur=(au ids ++ cur.toList.drop ids.length).toArray:=by rw [<- Zx]
   unfold Df.uX;rw [List.nil_append,<- hc,hg];rfl,List.Perm.refl _,aC.refl _⟩
  obtain ⟨cf,hcf⟩:=Um cs;have zg:Z g:=hS.al 8 (by omega) g (by rw [ae];rfl)
  have key:∀ {W:World} {ys:List Nat},Qs.Pm g (cur.toList.drop ids.length) ids wr ys W->aQ Z sb W K (upd f 19 (.slice (some ⟨g,0,none⟩) ids.length c)) (upd V 8 (.slice (some ⟨g,0,none⟩) ids.length c)) (upd X 8 (au ys)):=fun {W ys} hW=>by
   have:=hS.perm (ae ..) (ae ..) hlen hW;rw [bE] at this;exact this
  refine (Qs.Aj (cf:=cf) (fun W ys hW x hx y hy=>?_) P0 rfl (Nat.le_trans (hI.len (Nat.le_refl _)) hN)).mono ?_
  ·obtain ⟨i,hi,_,rfl⟩:=hI.2 x hx;obtain ⟨j,hj,_,rfl⟩:=hI.2 y hy;rw [hcf i j hi hj];exact uU (key hW) (by rw [aa _ _ (by decide)];exact h0) hi hj hN
  ·rintro e w' ⟨rfl,ys,hy⟩;exact ⟨rfl,ys,hI.perm hy.perm,hC.trans (hy.bD.mono fun k _ e=>by rw [e];exact zg),_,key hy⟩
end
end So
end Go.Proofs.YtceahffmenbibaaGreatDoor
