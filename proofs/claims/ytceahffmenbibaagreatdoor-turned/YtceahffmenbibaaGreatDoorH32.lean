/- Shelf3 Sqs9 Sqsa Sqsb Sqsc Sfid. -/
import Derived.Shelf.Small.Bits
import Derived.Test.YtceahffmenbibaaGreatDoorProg
import Derived.Test.YtceahffmenbibaaGreatDoorH31
import Derived.Sort.Walk7a
set_option linter.unusedVariables false
set_option linter.unusedSimpArgs false
set_option maxHeartbeats 4000000
set_option maxRecDepth 100000
open Go.Proofs.Tryz
namespace Go.Proofs
open Go.Shelf
def Tryz.Fx:Go.Shelf.Ren:=⟨fun | 125=>120 | 128=>169 | 129=>170 | n=>n,fun | 46=>187 | 3=>3 | 51=>218 | 53=>82 | 4=>4 | 5=>5 | 9=>9 | n=>n,fun | n=>n⟩
theorem Tryz.Uh:Go.Proofs.Lays.n125 Tryz.prog Tryz.Fx:={
 mixed:=by kernel_rfl
 f125:=tC func120 (by kernel_rfl)
 f128:=tC func169 (by kernel_rfl)
 f129:=tC func170 (by kernel_rfl)
 t3:=underlying3
 a3:=isAgg3
 z3:=sizeOf3
 v3:=zeroValue3
 t4:=underlying4
 a4:=isAgg4
 z4:=sizeOf4
 v4:=zeroValue4
 t5:=underlying5
 a5:=isAgg5
 z5:=sizeOf5
 v5:=zeroValue5
 t9:=underlying9
 a9:=isAgg9
 z9:=sizeOf9
 v9:=zeroValue9
 t46:=underlying187
 a46:=isAgg187
 z46:=sizeOf187
 v46:=zeroValue187
 t51:=underlying218
 a51:=isAgg218
 z51:=sizeOf218
 v51:=zeroValue218
 t53:=underlying82
 a53:=isAgg82
 z53:=sizeOf82
 v53:=zeroValue82 }
theorem Tryz.bits_Len (x:Int) (w:World) (c:0 <= x) (b:x <= 18446744073709551615):
  Calls Tryz.prog 120 #[.int .u64 x] w fun e a=>e=.returned (.int .i64 (Lib.bitLen x.toNat))/\a=w:=Any.bits_Len Tryz.Uh x w c b
end Go.Proofs
namespace Go.Proofs.YtceahffmenbibaaGreatDoor
namespace So
open Go Go.RowKit Go.Deep Rd
namespace Qs
theorem Tp {n:Nat} (h:0 < n) (i:n <= 1099511627776):2 ^ Lib.bitLen n <= 2 * n/\n < 2 ^ Lib.bitLen n:=by
 have e:(2:Nat) ^ 64=18446744073709551616:=by decide
 obtain ⟨a,b,c⟩:=Lib.bitLenAux_bounds 64 n (by rw [e];omega) (by omega);refine ⟨?_,c⟩;show 2 ^ Lib.bitLenAux 64 n <= _
 obtain ⟨k,d⟩:∃ k,Lib.bitLenAux 64 n=k + 1:=⟨Lib.bitLenAux 64 n - 1,by omega⟩;rw [d] at b ⊢;rw [Nat.add_sub_cancel] at b;rw [Nat.pow_succ];omega
theorem yt {B X:Nat} (r:X < 18446744073709551616) (w:World) (t:w.cell? ⟨B,0,none⟩=some (.int .u64 (X:Nat))) (s:w.frozen? ⟨B,0,none⟩=false):
  Calls Tryz.prog 233 #[.pointer (some ⟨B,0,none⟩)] w fun e k=>∃ C n:Nat,C < 18446744073709551616/\e=.returned (.int .u64 (C:Nat))/\k=(w.setCell ⟨B,0,none⟩ (.int .u64 (C:Nat))).drewN n:=by
 obtain ⟨b,h⟩:∃ A:Nat,A=X ^^^ (X * 8192 % 18446744073709551616):=⟨_,rfl⟩;obtain ⟨a,d⟩:∃ B:Nat,B=b ^^^ (b / 128):=⟨_,rfl⟩;obtain ⟨i,c⟩:∃ C:Nat,C=a ^^^ (a * 131072 % 18446744073709551616):=⟨_,rfl⟩;have p:b < 18446744073709551616:=by rw [h];exact Nat.xor_lt_two_pow (n:=64) (by omega) (by omega)
 have o:a < 18446744073709551616:=by rw [d];exact Nat.xor_lt_two_pow (n:=64) (by omega) (by omega)
 have l:i < 18446744073709551616:=by rw [c];exact Nat.xor_lt_two_pow (n:=64) (by omega) (by omega)
 have y:Go.bits .xor .u64 (X:Int) (IntKind.u64.wrap ((X:Int) * 8192))=(b:Int):=by
  rw [IntKind.wrap_u64,show ((X:Int) * 8192 % 18446744073709551616)=((X * 8192 % 18446744073709551616:Nat):Int) by omega,bits_xor_u64_nat _ _ r (by omega),h]
 have x:Go.bits .xor .u64 (b:Int) ((b:Int) / 128)=(a:Int):=by
  rw [show ((b:Int) / 128)=((b / 128:Nat):Int) by omega,bits_xor_u64_nat _ _ p (by omega),d]
 have u:Go.bits .xor .u64 (a:Int) (IntKind.u64.wrap ((a:Int) * 131072))=(i:Int):=by
  rw [IntKind.wrap_u64,show ((a:Int) * 131072 % 18446744073709551616)=((a * 131072 % 18446744073709551616:Nat):Int) by omega,bits_xor_u64_nat _ _ o (by omega),c]
 clear h d c;have q:∀ v j,(w.setCell ⟨B,0,none⟩ v).setCell ⟨B,0,none⟩ j=w.setCell ⟨B,0,none⟩ j:=Go.Proofs.setCell_setCell w B 0;go_enter Tryz.func233,Tryz.ntmps233
 go_wp2;go_region
 all_goals go_wp2
 all_goals go_region
 all_goals go_wp2
 all_goals go_region
 all_goals go_wp2
 all_goals go_ret
 all_goals exact ⟨i,3,l,rfl,rfl⟩
theorem ET (n:Nat) (l:0 < n) (d:n <= 1099511627776) (w:World):
  Calls Tryz.prog 232 #[.int .i64 (n:Nat)] w fun e b=>∃ M:Nat,e=.returned (.int .u64 (M:Nat))/\(∃ k,M=2 ^ k)/\M <= 2 * n/\n < M/\b=w:=by
 obtain ⟨M,a⟩:∃ M:Nat,M=2 ^ Lib.bitLen n:=⟨_,rfl⟩;have c:=Tp l d;rw [<- a] at c;have hL:Lib.bitLen n <= 41:=by
  refine Nat.le_of_not_lt fun h=>?_
  have:=Nat.pow_le_pow_right (n:=2) (by omega) (show 42 <= Lib.bitLen n from h);rw [<- a] at this;have p:(2:Nat) ^ 42=4398046511104:=by decide
  omega
 have j:Hid (∀ W,Calls Tryz.prog 120 #[.int .u64 (n:Nat)] W fun e b=>e=.returned (.int .i64 (Lib.bitLen n:Nat))/\b=W):=fun W=>by
  have:=Tryz.bits_Len (n:Int) W (by omega) (by omega);simpa using this
 have x:IntKind.u64.wrap (n:Int)=(n:Int):=by rw [IntKind.wrap_u64];omega
 obtain ⟨k,i⟩:∃ k,k=Lib.bitLen n:=⟨_,rfl⟩;rw [<- i] at j a hL;have q:IntKind.u64.wrap (1 * 2 ^ ((k:Nat):Int).toNat)=(M:Int):=by
  rw [IntKind.wrap_u64,Int.toNat_natCast,a];have t:(2:Nat) ^ k <= 2 ^ 41:=Nat.pow_le_pow_right (by omega) hL;have p:(2:Nat) ^ 41=2199023255552:=by decide
  have o:((2 ^ k:Nat):Int)=(2:Int) ^ k:=by simp
  rw [<- o];omega
 have v:IntKind.u64.wrap ((2:Int) ^ k)=(M:Int):=by
  have:=q;rw [Int.toNat_natCast,Int.one_mul] at this;exact this
 have r:=hide a;clear i a;go_enter Tryz.func232,Tryz.ntmps232
 go_wp2_with (go_at_call 120;(with_reducible refine (j.out _).mono ?_);rintro u s ⟨rfl,rfl⟩;simp only [])
 go_ret
 exact ⟨M,rfl,⟨k,r.out⟩,c.1,c.2,rfl⟩
end Qs
end So
end Go.Proofs.YtceahffmenbibaaGreatDoor
namespace Go.Proofs.YtceahffmenbibaaGreatDoor
namespace So
open Go Go.RowKit Go.Deep Rd
namespace Qs
variable {sb g cap m:Nat} {post:List Value} {dS xs:List Nat} {w0 w:World} {cf:Nat->Nat->Int}
structure Px (g:Nat) (post:List Value) (dS:List Nat) (w0:World) (B X:Nat) (xs:List Nat) (W:World):Prop where
 pm:Pm g post dS w0 xs W
 box:W.rowIs B 257 1 (fun _=>.int .u64 (X:Nat))
 new:w0.heap.size <= B
 ne:B ≠ g
theorem Px.below {B X:Nat} {W b:World} (h:Px g post dS w0 B X xs W) (a:Below W.heap.size W b):Px g post dS w0 B X xs b:=
 ⟨h.pm.below a,h.box.of_block (a.block _ h.box.lt),h.new,h.ne⟩
theorem Px.swap {B X:Nat} {W:World} (h:Px g post dS w0 B X xs W) {i j:Nat} (hi:i < xs.length) (a:j < xs.length):Px g post dS w0 B X ((xs.set i xs[j]).set j xs[i]) ((W.setCell ⟨g,i,none⟩ (.int .i64 (xs[j]:Nat))).setCell ⟨g,j,none⟩ (.int .i64 (xs[i]:Nat))):=
 ⟨h.pm.swap hi a,(h.box.setOther (by exact h.ne) _).setOther (by exact h.ne) _,h.new,h.ne⟩
theorem Px.next {B X:Nat} {W:World} (h:Px g post dS w0 B X xs W) (C n:Nat):Px g post dS w0 B C xs ((W.setCell ⟨B,0,none⟩ (.int .u64 (C:Nat))).drewN n):=by
 have k:Px g post dS w0 B C xs (W.setCell ⟨B,0,none⟩ (.int .u64 (C:Nat))):={
  pm:={
   lie:=by
    have a:=h.pm.lie;unfold Df.xq at a ⊢;rw [Below.heap_setCell _ _ _ _ (fun e=>h.ne e.symm)];exact a
   perm:=h.pm.perm
   eO:=⟨h.pm.eO.mO.setCell zl _,fun k c b=>by
    rw [Below.heap_setCell _ _ _ _ (by have:=h.new;simp only;omega)];exact h.pm.eO.block k c b⟩ }
  box:=(h.box.set 0 _).congr fun i d=>by simp;omega
  new:=h.new
  ne:=h.ne }
 exact k.below (Go.below_drewN bR n)
theorem VB {W:World} {X:Nat} (h:Pm g post dS w0 xs W):Px g post dS w0 W.heap.size X xs (W.alloc (.cells #[.int .u64 (X:Nat)] 257)) where
 pm:=h.below (bR.alloc lr _)
 box:=World.rowIs_alloc W _ _ _ fun i a=>by
  obtain rfl:i=0:=by simp at a;omega
  rfl
 new:=h.eO.size
 ne:=by have:=h.lt;omega
theorem uK (C:lX sb g post dS w0 cf) (h:Pm g post dS w0 xs w) (hm:dS.length=m) (ah:m <= 1099511627776) {a b:Nat} (aq:a + 12 < b) (hb:b <= m):
  Calls Tryz.prog 248 #[.slice (some ⟨g,0,none⟩) m cap,.int .i64 (a:Nat),.int .i64 (b:Nat),.func (.func 223) #[.pointer (some ⟨sb,0,none⟩)] #[]] w fun e w'=>mq g post dS w0 e w':=by
 have HC:=hide C;have S0:=hide h;clear C h;go_enter Tryz.func248,Tryz.ntmps248
 obtain ⟨l,hl⟩:∃ l,l=b - a:=⟨_,rfl⟩;have aj:(b:Int) - (a:Int)=(l:Int):=by omega
 have ak:(8:Int) <= (l:Int):=by omega
 obtain ⟨q,hq⟩:∃ q,q=l / 4:=⟨_,rfl⟩;have ac:(l:Int) / 4=(q:Int):=by omega
 have ae:3 <= q:=by omega
 have ad:a + 4 * q <= b:=by omega
 have ab:a + l=b:=by omega
 obtain ⟨e,he⟩:∃ e,e=a + q * 2:=⟨_,rfl⟩;have am:(a:Int) + (q:Int) * 2=(e:Int):=by omega
 have ao:a + 6 <= e:=by omega
 have an:e + 6 <= b:=by omega
 have hw:IntKind.u64.wrap (l:Int)=(l:Int):=by rw [IntKind.wrap_u64];omega
 have Q1:=hide (fun W=>ET l (by omega) (by omega) W);have S1:=hide (VB (X:=l) S0.out);clear hl hq he S0;go_upto_region 4 with (go_at_call 232;(with_reducible refine (Q1.out _).mono ?_);rintro e1 w1 ⟨M,rfl,hk,au,ar,rfl⟩;simp only [])
 clear Q1 hk;generalize w.alloc (.cells #[.int .u64 (l:Nat)] 257)=w1 at *
 generalize w.heap.size=B at *
 have Y:l < 18446744073709551616:=by omega
 go_wp2;go_loopw [11] (fun L wr=>∃ (d X:Nat) (xs:List Nat),L=.int .i64 ((e:Int) - 1 + d)/\d <= 3/\X < 18446744073709551616/\Hid (Px g post dS w0 B X xs wr)) (fun L _=>e + 2 - (intOf L).toNat)
 case atStart=>exact ⟨0,l,xs,by go_num,by omega,Y,S1⟩
 case round=>
  clear S1;obtain ⟨d,X,r,rfl,ap,hX,c⟩:=hrel;have hl:=c.out.pm.len;obtain ⟨i,hid⟩:∃ i,i + 1=e + d:=⟨e + d - 1,by omega⟩;have G:(e:Int) - 1 + (d:Int)=(i:Int):=by omega
  rw [G];clear G;have al:i + 3 <= b:=by omega
  by_cases ai:d < 3
  ·have R:(i:Int) <= (e:Int) + 1:=by omega
   have c0:=c.out.box.cell (i:=0) (by omega);have f0:=c.out.box.frozen 0;have QN:=hide (yt hX wr c0 f0);clear c0 f0;go_upto_region 7 with fail
   go_upto_region 8 with (go_at_call 233;(with_reducible refine QN.out.mono ?_);rintro e2 w2 ⟨C,n,I,rfl,rfl⟩;simp only [])
   have H:=hide (c.out.next C n);clear c QN;have c:=H;clear H;generalize (wr.setCell ⟨B,0,none⟩ (.int .u64 (C:Nat))).drewN n=wr at *
   obtain ⟨o,Q⟩:∃ o:Nat,o=C &&& (M - 1):=⟨_,rfl⟩;have af:o < M:=by
    rw [Q];have:=Nat.and_le_right (n:=C) (m:=M - 1);omega
   have eo:Go.bits .and .u64 (C:Int) ((M:Int) - 1)=(o:Int):=by
    rw [show (M:Int) - 1=((M - 1:Nat):Int) by omega,bits_and_u64_nat _ _ I (by omega),Q]
   have ew:wrap64 (o:Int)=(o:Int):=by unfold wrap64;omega
   rw [eo,ew];clear Q eo ew;by_cases aa:o < l
   ·have U:¬ (l:Int) <= (o:Int):=by omega
    obtain ⟨j,z⟩:∃ j,j=a + o:=⟨_,rfl⟩;have v:(a:Int) + (o:Int)=(j:Int):=by omega
    have S:j < b:=by omega
    clear z;have k:i < r.length:=by omega
    have u:j < r.length:=by omega
    have l1:i < m:=by omega
    have J:j < m:=by omega
    have s:=hide hid;clear hid;by_cases O:i=j
    ·obtain ⟨c1,f1⟩:=c.out.pm.cell k;have p:=hide (c.out.swap k k);have N:(a:Int) + (o:Int)=(i:Int):=by omega
     clear v O u J;generalize r[i]=x at *
     go_upto_region 10 with fail
     go_region
     all_goals
      have D:=hide (p.out.below bR.drew);clear c p;go_wp2;go_roundw
      case rel=>exact ⟨d + 1,C,_,by have:=s.out;go_num,by omega,I,D⟩
      case measure=>have:=s.out;simp [intOf];omega
    ·obtain ⟨c1,f1⟩:=c.out.pm.cell k;obtain ⟨c2,f2⟩:=c.out.pm.cell u;have p:=hide (c.out.swap k u);have E:¬ j=i:=by omega
     generalize r[i]=x at *
     generalize r[j]=y at *
     go_upto_region 10 with fail
     go_region
     all_goals
      have D:=hide (p.out.below bR.drew);clear c p;go_wp2;go_roundw
      case rel=>exact ⟨d + 1,C,_,by have:=s.out;go_num,by omega,I,D⟩
      case measure=>have:=s.out;simp [intOf];omega
   ·have U:(l:Int) <= (o:Int):=by omega
    obtain ⟨t,P⟩:∃ t,t + l=o:=⟨o - l,by omega⟩;have e2:(o:Int) - (l:Int)=(t:Int):=by omega
    have ag:t < l:=by omega
    clear P;obtain ⟨j,z⟩:∃ j,j=a + t:=⟨_,rfl⟩;have v:(a:Int) + (t:Int)=(j:Int):=by omega
    have S:j < b:=by omega
    clear z;have k:i < r.length:=by omega
    have u:j < r.length:=by omega
    have l1:i < m:=by omega
    have J:j < m:=by omega
    have s:=hide hid;clear hid;by_cases O:i=j
    ·obtain ⟨c1,f1⟩:=c.out.pm.cell k;have p:=hide (c.out.swap k k);have N:(a:Int) + (t:Int)=(i:Int):=by omega
     clear v O u J;generalize r[i]=x at *
     go_upto_region 10 with fail
     go_region
     all_goals
      have D:=hide (p.out.below bR.drew);clear c p;go_wp2;go_roundw
      case rel=>exact ⟨d + 1,C,_,by have:=s.out;go_num,by omega,I,D⟩
      case measure=>have:=s.out;simp [intOf];omega
    ·obtain ⟨c1,f1⟩:=c.out.pm.cell k;obtain ⟨c2,f2⟩:=c.out.pm.cell u;have p:=hide (c.out.swap k u);have E:¬ j=i:=by omega
     generalize r[i]=x at *
     generalize r[j]=y at *
     go_upto_region 10 with fail
     go_region
     all_goals
      have D:=hide (p.out.below bR.drew);clear c p;go_wp2;go_roundw
      case rel=>exact ⟨d + 1,C,_,by have:=s.out;go_num,by omega,I,D⟩
      case measure=>have:=s.out;simp [intOf];omega
  ·have R:¬ (i:Int) <= (e:Int) + 1:=by omega
   go_wp2;go_end0
   exact ⟨rfl,_,c.out.pm⟩
end Qs
end So
end Go.Proofs.YtceahffmenbibaaGreatDoor
namespace Go.Proofs.YtceahffmenbibaaGreatDoor
namespace So
open Go Go.RowKit Go.Deep Rd
namespace Qs
variable {sb g cap m:Nat} {post:List Value} {dS xs:List Nat} {w0 w:World} {cf:Nat->Nat->Int}
theorem OO (C:lX sb g post dS w0 cf) (M:dS.length=m) (s:m <= 1099511627776) (N:Nat)
  (ih:∀ (a b i:Nat) (W:World) (xs:List Nat),b - a < N->a <= b->b <= m->i <= 1000->Pm g post dS w0 xs W->Calls Tryz.prog 239 #[.slice (some ⟨g,0,none⟩) m cap,.int .i64 (a:Nat),.int .i64 (b:Nat),.int .i64 (i:Nat),.func (.func 223) #[.pointer (some ⟨sb,0,none⟩)] #[]] W fun e T=>mq g post dS w0 e T)
  {a1 Q y:Nat} (hN:Q - a1 <= N) (al:a1 <= Q) (hb:Q <= m) (O:y <= 1000) (h:Pm g post dS w0 xs w):
  Calls Tryz.prog 239 #[.slice (some ⟨g,0,none⟩) m cap,.int .i64 (a1:Nat),.int .i64 (Q:Nat),.int .i64 (y:Nat),.func (.func 223) #[.pointer (some ⟨sb,0,none⟩)] #[]] w fun e T=>mq g post dS w0 e T:=by
 have E:=hide C;have S0:=hide h;clear C h;go_enter Tryz.func239,Tryz.ntmps239
 have IH:=hide ih;clear ih;go_wp2;go_loopw [1,2,3,10,11] (fun av bv lv tv sv wr=>∃ (a b i:Nat) (t1 t2:Bool) (xs:List Nat),av=.int .i64 (a:Nat)/\bv=.int .i64 (b:Nat)/\lv=.int .i64 (i:Nat)/\tv=.bool t1/\sv=.bool t2/\a <= b/\b <= m/\b - a <= N/\i <= 1000/\Hid (Pm g post dS w0 xs wr)) (fun av bv _ _ _ _=>(intOf bv).toNat - (intOf av).toNat)
 case atStart=>exact ⟨a1,Q,y,true,true,xs,rfl,rfl,rfl,rfl,rfl,al,hb,hN,O,S0⟩
 case round=>
  clear S0;obtain ⟨a,b,i,t1,t2,G,rfl,rfl,rfl,rfl,rfl,ae,ad,ar,ab,d⟩:=hrel;by_cases au:b <= a + 12
  ·have af:(b:Int) - (a:Int) <= 12:=by omega
   have l:=hide (Ai (cap:=cap) E.out d.out M s (a:=a) (b:=b) ae ad);clear d;go_wp2_with (go_at_call 246;(with_reducible refine l.out.mono ?_);rintro S B ⟨rfl,o,r⟩;have u:=hide r;clear r l;simp only [])
   go_end0
   exact ⟨rfl,_,u.out⟩
  ·have af:¬ (b:Int) - (a:Int) <= 12:=by omega
   by_cases ac:i=0
   ·subst ac;have l:=hide (Dq (cap:=cap) E.out d.out M s (a:=a) (b:=b) (by omega) ad);clear d;go_wp2_with (go_at_call 247;(with_reducible refine l.out.mono ?_);rintro S B ⟨rfl,o,r⟩;have u:=hide r;clear r l;simp only [])
    go_end0
    exact ⟨rfl,_,u.out⟩
   ·have am:((i:Int) == 0)=false:=by simp;omega
    go_upto_if 39 with fail
    go_cut [3] from 21 to 147 (fun lv D=>∃ (J:Nat) (o:List Nat),lv=.int .i64 (J:Nat)/\J <= 1000/\Pm g post dS w0 o D)
    case first=>
     cases t1
     ·have l:=hide (uK (cap:=cap) E.out d.out M s (a:=a) (b:=b) (by omega) (by omega));clear d;go_wp2_with (go_at_call 248;(with_reducible refine l.out.mono ?_);rintro S B ⟨rfl,o,r⟩;have u:=hide r;clear r l;simp only [])
      go_meet;exact ⟨i - 1,o,by go_num,by omega,u.out⟩
     ·have H:=d;go_wp2;go_meet;exact ⟨i,G,rfl,by omega,H.out⟩
    case rest=>
     obtain ⟨i,o,rfl,ap,L⟩:=hcut;have H:=hide L;clear L d ab ac;have d:=H;clear H;obtain ⟨G,z⟩:∃ x,x=o:=⟨_,rfl⟩;subst z;have hl:=d.out.len;obtain ⟨wr,j⟩:∃ x,x=wc:=⟨_,rfl⟩;subst j;have l:=hide (xk (cap:=cap) E.out d.out M s (a:=a) (b:=b) (by omega) (by omega));clear d;go_upto_region 11 with (go_at_call 249;(with_reducible refine l.out.mono ?_);rintro S B ⟨p,t,rfl,ak,aj,r⟩;have u:=hide r;clear r l;simp only [])
     have d:=u;clear u;obtain ⟨wr,j⟩:∃ x,x=B:=⟨_,rfl⟩;subst j;have hl:=d.out.len;go_upto_if 56 with fail
     go_cut [13,14] from 21 to 147 (fun pv hv D=>∃ (p:Nat) (t:Int) (o:List Nat),pv=.int .i64 (p:Nat)/\hv=.int .i64 t/\a <= p/\p < b/\Pm g post dS w0 o D)
     case first=>
      by_cases ht:t=2
      ·subst ht;have l:=hide (Ez (cap:=cap) E.out d.out M s (a:=a) (b:=b) (by omega) (by omega));clear d;go_wp2_with (go_at_call 250;(with_reducible refine l.out.mono ?_);rintro e2 w2 ⟨rfl,o,I⟩;have R:=hide I;clear I l;simp only [])
       go_meet;exact ⟨b - 1 - (p - a),1,o,by go_num,rfl,by omega,by omega,R.out⟩
      ·have an:(t == 2)=false:=by simp;omega
       have H:=d;go_wp2;go_meet;exact ⟨p,t,G,rfl,rfl,by omega,by omega,H.out⟩
     case rest=>
      obtain ⟨p,t,o,rfl,rfl,ak,aj,L⟩:=hcut;have H:=hide L;clear L d;have d:=H;clear H;obtain ⟨G,z⟩:∃ x,x=o:=⟨_,rfl⟩;subst z;have hl:=d.out.len;obtain ⟨wr,j⟩:∃ x,x=wc:=⟨_,rfl⟩;subst j;go_upto_region 15 with fail
      go_cut [75] from 21 to 147 (fun v D=>∃ c:Bool,v=.bool c/\D=wr)
      case first=>
       cases t1
       ·go_wp2;go_meet
        exact ⟨_,rfl,rfl⟩
       ·cases t2
        ·go_wp2;go_meet
         exact ⟨_,rfl,rfl⟩
        ·go_wp2;go_meet
         exact ⟨_,rfl,rfl⟩
      case rest=>
       obtain ⟨c,rfl,rfl⟩:=hcut;obtain ⟨wr,j⟩:∃ x,x=wc:=⟨_,rfl⟩;subst j;go_upto_if 75 with fail
       go_cut [] from 21 to 147 (fun D=>∃ o,Pm g post dS w0 o D)
       case first=>
        cases c
        ·have H:=d;go_wp2;go_meet;exact ⟨_,H.out⟩
        ·have l:=hide (qI (cap:=cap) E.out d.out M s (a:=a) (b:=b) (by omega) (by omega));clear d;go_upto_if 80 with (go_at_call 251;(with_reducible refine l.out.mono ?_);rintro S B ⟨t,o,rfl,r⟩;have u:=hide r;clear r l;simp only [])
         cases t
         ·go_wp2;go_meet
          exact ⟨_,u.out⟩
         ·go_wp2;go_end0
          exact ⟨rfl,_,u.out⟩
       case rest=>
        obtain ⟨o,L⟩:=hcut;have H:=hide L;clear L d;have d:=H;clear H;obtain ⟨G,z⟩:∃ x,x=o:=⟨_,rfl⟩;subst z;have hl:=d.out.len;obtain ⟨wr,j⟩:∃ x,x=wc:=⟨_,rfl⟩;subst j;obtain ⟨k,hk⟩:∃ k,k=a - 1:=⟨_,rfl⟩;go_upto_region 17 with fail
        go_cut [97] from 21 to 147 (fun v D=>wP g post dS w0 G (0 < a) v D)
        case first=>
         by_cases hg:0 < a
         ·have hd:decide ((0:Int) < (a:Int))=true:=by simp;omega
          have jx:k < G.length:=by omega
          have jy:p < G.length:=by omega
          have l1:k < m:=by omega
          have l2:p < m:=by omega
          have ek:(a:Int) - 1=(k:Int):=by omega
          clear hk;obtain ⟨c1,f1⟩:=d.out.cell jx;obtain ⟨c2,f2⟩:=d.out.cell jy;have QC:=hide (fun p:iF wr=>E.out.at d.out (d.out.mem jx) (d.out.mem jy) p);have k1:=iF.cell c1;have k2:=iF.cell c2;have ne:Nonempty (iF wr):=⟨⟨wr,bR⟩⟩;refine dx (by kernel_rfl) (by kernel_rfl) ?_
          repeat (go_big_quiet_step ((go_at_call 223;exact QC.out _)))
          refine wpQuiet_nil ?_;rintro _ ⟨p,rfl⟩;have H:=hide (d.out.below p.h);have HG:=hide hg;clear d k1 k2 c1 c2 f1 f2 QC ne hg;generalize p.W=wn at *
          go_wp2;go_meet
          exact ⟨_,rfl,fun _=>HG.out,H.out⟩
         ·have hd:decide ((0:Int) < (a:Int))=false:=by simp;omega
          have ne:Nonempty (iF wr):=⟨⟨wr,bR⟩⟩;refine dx (by kernel_rfl) (by kernel_rfl) ?_
          repeat (go_big_quiet_step (fail))
          refine wpQuiet_nil ?_;rintro _ ⟨p,rfl⟩;have H:=hide (d.out.below p.h);clear d ne;generalize p.W=wn at *
          go_wp2;go_meet
          exact ⟨false,rfl,fun h=>(by cases h),H.out⟩
        case rest=>
         obtain ⟨Q,rfl,P,U⟩:=hcut;have H:=hide U;clear U d;have d:=H;clear H;obtain ⟨wr,j⟩:∃ x,x=wc:=⟨_,rfl⟩;subst j;clear hk;cases Q
         ·clear P;have l:=hide (Ac (cap:=cap) E.out d.out M s (a:=a) (b:=b) (pv:=p) (by omega) (by omega) (by omega) (by omega));clear d;go_upto_region 21 with (go_at_call 253;(with_reducible refine l.out.mono ?_);rintro S B ⟨q,t,o,rfl,ai,ah,r⟩;have u:=hide r;clear r l;simp only [])
          by_cases ao:q - a < b - q
          ·have aa:(q:Int) - (a:Int) < (b:Int) - (q:Int):=by omega
           have Q2:=hide (IH.out a q i B o (by omega) (by omega) (by omega) (by omega) u.out);clear u;go_wp2_with (go_at_call 239;(with_reducible refine Q2.out.mono ?_);rintro e2 w2 ⟨rfl,ag,I⟩;have R:=hide I;clear I Q2;simp only [])
           go_roundw
           case rel=>exact ⟨q + 1,b,i,_,_,_,by first | rfl | go_num,by first | rfl | go_num,rfl,rfl,rfl,by omega,by omega,by omega,by omega,R⟩
           case measure=>simp [intOf];omega
          ·have aa:¬ (q:Int) - (a:Int) < (b:Int) - (q:Int):=by omega
           have Y:(q:Int) + 1=((q + 1:Nat):Int):=by omega
           have Q2:Hid (Calls Tryz.prog 239 #[.slice (some ⟨g,0,none⟩) m cap,.int .i64 ((q:Int) + 1),.int .i64 (b:Nat),.int .i64 (i:Nat),.func (.func 223) #[.pointer (some ⟨sb,0,none⟩)] #[]] B fun e T=>mq g post dS w0 e T):=by
            rw [Y];exact IH.out (q + 1) b i B o (by omega) (by omega) (by omega) (by omega) u.out
           clear u Y;go_wp2_with (go_at_call 239;(with_reducible refine Q2.out.mono ?_);rintro e2 w2 ⟨rfl,ag,I⟩;have R:=hide I;clear I Q2;simp only [])
           go_roundw
           case rel=>exact ⟨a,q,i,_,_,_,by first | rfl | go_num,by first | rfl | go_num,rfl,rfl,rfl,by omega,by omega,by omega,by omega,R⟩
           case measure=>simp [intOf];omega
         ·have aq:=P rfl;clear P;have l:=hide (sQ (cap:=cap) E.out d.out M s (a:=a) (b:=b) (pv:=p) (by omega) (by omega) (by omega) (by omega));clear d;go_wp2_with (go_at_call 252;(with_reducible refine l.out.mono ?_);rintro S B ⟨q,o,rfl,ai,ah,r⟩;have R:=hide r;clear r l;simp only [])
          go_roundw
          case rel=>exact ⟨q,b,i,_,_,_,by first | rfl | go_num,by first | rfl | go_num,rfl,rfl,rfl,by omega,by omega,by omega,by omega,R⟩
          case measure=>simp [intOf];omega
theorem JX (C:lX sb g post dS w0 cf) (i:dS.length=m) (d:m <= 1099511627776):∀ (N a b c:Nat) (W:World) (xs:List Nat),b - a < N->a <= b->b <= m->c <= 1000->Pm g post dS w0 xs W->Calls Tryz.prog 239 #[.slice (some ⟨g,0,none⟩) m cap,.int .i64 (a:Nat),.int .i64 (b:Nat),.int .i64 (c:Nat),.func (.func 223) #[.pointer (some ⟨sb,0,none⟩)] #[]] W fun e j=>mq g post dS w0 e j
 | 0,a,b,c,W,xs,hN,_,_,_,_=>absurd hN (by omega)
 | N + 1,a,b,c,W,xs,hN,hab,hb,hl,h=>OO C i d N (fun a b c W xs q p o l k=>JX C i d N a b c W xs q p o l k) (by omega) hab hb hl h
end Qs
end So
end Go.Proofs.YtceahffmenbibaaGreatDoor
namespace Go.Proofs.YtceahffmenbibaaGreatDoor
namespace So
open Go Go.RowKit Go.Deep Rd
namespace Qs
variable {sb g cap m:Nat} {post:List Value} {dS xs:List Nat} {w0 w:World} {cf:Nat->Nat->Int}
theorem VZ {n:Nat} (h:n <= 1099511627776):Lib.bitLen n <= 41:=
 Lib.bitLen_le n 41 (by omega) (by
  have a:(2:Nat) ^ 41=2199023255552:=by decide
  rw [a];omega)
theorem Cq (C:lX sb g post dS w0 cf) (h:Pm g post dS w0 xs w) (j:dS.length=m) (b:m <= 1099511627776):
  Calls Tryz.prog 222 #[.slice (some ⟨g,0,none⟩) m cap,.func (.func 223) #[.pointer (some ⟨sb,0,none⟩)] #[]] w fun e a=>mq g post dS w0 e a:=by
 have i:Hid (∀ W,Calls Tryz.prog 120 #[.int .u64 (m:Nat)] W fun e a=>e=.returned (.int .i64 (Lib.bitLen m:Nat))/\a=W):=fun W=>by
  have:=Tryz.bits_Len (m:Int) W (by omega) (by omega);simpa using this
 have d:Hid (Calls Tryz.prog 239 #[.slice (some ⟨g,0,none⟩) m cap,.int .i64 0,.int .i64 (m:Nat),.int .i64 (Lib.bitLen m:Nat),.func (.func 223) #[.pointer (some ⟨sb,0,none⟩)] #[]] w fun e a=>mq g post dS w0 e a):=
  JX C j b (m + 1) 0 m (Lib.bitLen m) w xs (by omega) (by omega) (by omega) (by have:=VZ b;omega) h
 have s:IntKind.u64.wrap (m:Int)=(m:Int):=by rw [IntKind.wrap_u64];omega
 clear C h;generalize Lib.bitLen m=k at *
 go_enter Tryz.func222,Tryz.ntmps222
 go_wp2_with (first
  |(go_at_call 120;(with_reducible refine (i.out _).mono ?_);rintro r p ⟨rfl,rfl⟩;clear i;simp only [])
  |(go_at_call 239;(with_reducible refine d.out.mono ?_);rintro q o ⟨rfl,l,c⟩;have H:=hide c;clear c d;simp only []))
 go_end0
 exact ⟨rfl,_,H.out⟩
def YT (w:World) (e:Ending) (w':World):Prop:=e=.returned (.tuple #[])/\w'=w
theorem yS (al:Option Addr) (cap:Nat) (cv:Value) (w:World):
  Calls Tryz.prog 246 #[.slice al 0 cap,.int .i64 0,.int .i64 0,cv] w fun e a=>YT w e a:=by
 go_enter Tryz.func246,Tryz.ntmps246
 go_wp2;go_loopw [8] (fun b wr=>b=.int .i64 1/\wr=w) (fun _ _=>0)
 case atStart=>exact ⟨rfl,rfl⟩
 case round=>
  obtain ⟨rfl,rfl⟩:=hrel;go_wp2;go_end0;exact ⟨rfl,rfl⟩
theorem OP (al:Option Addr) (cap:Nat) (a:Int) (cv:Value) (w:World):
  Calls Tryz.prog 239 #[.slice al 0 cap,.int .i64 0,.int .i64 0,.int .i64 a,cv] w fun e b=>YT w e b:=by
 have Q:=hide (yS al cap cv);go_enter Tryz.func239,Tryz.ntmps239
 go_wp2;go_loopw [1,2,3,10,11] (fun d c j tv i wr=>d=.int .i64 0/\c=.int .i64 0/\wr=w) (fun _ _ _ _ _ _=>0)
 case atStart=>exact ⟨rfl,rfl,rfl⟩
 case round=>
  obtain ⟨rfl,rfl,rfl⟩:=hrel;go_wp2_with (go_at_call 246;(with_reducible refine (Q.out _).mono ?_);rintro k h ⟨rfl,rfl⟩;simp only [])
  go_end0
  exact ⟨rfl,rfl⟩
theorem zY (al:Option Addr) (cap:Nat) (cv:Value) (w:World):
  Calls Tryz.prog 222 #[.slice al 0 cap,cv] w fun e a=>YT w e a:=by
 have c:Hid (∀ W,Calls Tryz.prog 120 #[.int .u64 0] W fun e a=>e=.returned (.int .i64 0)/\a=W):=fun W=>by
  have:=Tryz.bits_Len 0 W (by omega) (by omega);exact this
 have b:=hide (OP al cap 0 cv);go_enter Tryz.func222,Tryz.ntmps222
 go_wp2_with (first
  |(go_at_call 120;(with_reducible refine (c.out _).mono ?_);rintro j h ⟨rfl,rfl⟩;clear c;simp only [])
  |(go_at_call 239;(with_reducible refine (b.out _).mono ?_);rintro i d ⟨rfl,rfl⟩;clear b;simp only []))
 go_end0
 exact ⟨rfl,rfl⟩
end Qs
end So
end Go.Proofs.YtceahffmenbibaaGreatDoor
namespace Go.Proofs.YtceahffmenbibaaGreatDoor
namespace So
section
open Go Go.RowKit Go.Deep Rd
section
variable {Z:Nat->Prop} {sb K n:Nat} {w:World} {f V:Nat->Value} {X:Nat->List Value} {cs:List Rec} {tr ch:List Nat} {lev:Nat->Nat} {rea:Nat->Int}
def sJ (tr:List Nat) (rea:Nat->Int) (cs:List Rec) (k:Nat):Prop:=∃ hk:k < cs.length,(cs[k]).kind=1/\2 < (cs[k]).lits.length/\∀ x,(cs[k]).lits[0]? = some x->¬ (0 < tv tr x/\rea (x / 2)=((dn cs k:Nat):Int))
def Hw (tr:List Nat) (rea:Nat->Int) (cs:List Rec) (m:Nat) (ids:List Nat):Prop:=ids.Nodup/\∀ a ∈ ids,∃ k,k < m/\sJ tr rea cs k/\a=dn cs k
theorem Hw.perm {m:Nat} {a b:List Nat} (h:Hw tr rea cs m a) (c:b.Perm a):Hw tr rea cs m b:=⟨c.nodup_iff.2 h.1,fun x d=>h.2 x (c.mem_iff.1 d)⟩
theorem Hw.none {m:Nat} {a:List Nat} (h:Hw tr rea cs m a):Hw tr rea cs (m + 1) a:=⟨h.1,fun x b=>by
 obtain ⟨k,d,c⟩:=h.2 x b;exact ⟨k,by omega,c⟩⟩
theorem Hw.snoc {m:Nat} {a:List Nat} (h:Hw tr rea cs m a) (c:sJ tr rea cs m):Hw tr rea cs (m + 1) (a ++ [dn cs m]):=by
 obtain ⟨l,_⟩:=id c;refine ⟨?_,fun x b=>?_⟩
 ·rw [List.nodup_append];refine ⟨h.1,by simp,fun x b y i e=>?_⟩;rw [List.mem_singleton.1 i] at e;obtain ⟨k,d,_,o⟩:=h.2 x b;have:=zG (cs:=cs) d (by omega);omega
 ·rcases List.mem_append.1 b with b | b
  ·obtain ⟨k,d,j⟩:=h.2 x b;exact ⟨k,by omega,j⟩
  ·exact ⟨m,by omega,c,List.mem_singleton.1 b⟩
theorem Hw.len {m:Nat} {a:List Nat} (d:m <= cs.length) (h:Hw tr rea cs m a):a.length <= (enc cs).length:=by
 have c:a.Nodup/\∀ x ∈ a,x < (enc cs).length:=⟨h.1,fun x b=>by
  obtain ⟨k,i,_,rfl⟩:=h.2 x b;have:=zG (cs:=cs) i d;have:=Rc (cs:=cs) (j:=m) (k:=cs.length) d lr;rw [iD lr] at this;omega⟩
 have e:a ⊆ List.range (enc cs).length:=fun x b=>List.mem_range.2 (c.2 x b)
 have:=c.1.length_le_of_subset e;simpa using this
def R8 (Z:Nat->Prop) (sb:Nat) (w:World) (K:Nat) (f V:Nat->Value) (X:Nat->List Value) (ids:List Nat) (wr:World):Prop:=dB Z w wr/\∃ v,dQ Z sb wr K (upd f 19 v) (upd V 8 v) (upd X 8 (dw ids))
theorem R8.later {a:List Nat} {wr w':World} (h:R8 Z sb w K f V X a wr) (b:Below wr.heap.size wr w'):R8 Z sb w K f V X a w':=by
 obtain ⟨d,v,c⟩:=h;exact ⟨d.trans (dB.of_below b),v,c.later b⟩
theorem dQ.perm {b ys:List Nat} {wr W:World} {g c:Nat} {post:List Value} (h:dQ Z sb wr K f V X) (D:X 8=dw b) (l:V 8=.slice (some ⟨g,0,none⟩) b.length c) (E:b.length + post.length=c) (j:Qs.Pm g post b wr ys W):dQ Z sb W K f V (upd X 8 (dw ys)):=by
 have F:=h.hK;have t:=j.len;have u:(V 8).ownBlock=some g:=by rw [l];rfl
 have p:g ≠ sb:=h.far (k:=8) (by omega) g u;have keep:∀ k,k < wr.heap.size->k ≠ g->W.heap[k]? = wr.heap[k]? := fun k i e=>j.eO.block k i e
 refine ⟨h.row.of_block (keep sb h.row.lt (Ne.symm p)),⟨fun k i=>?_,h.eH.apart⟩,h.hdr,h.jf,h.al,fun k i=>h.az k (Nat.le_trans j.eO.size i),h.hK⟩;by_cases e:k=8
 ·subst e;rw [cz,l];have s:(dw ys).length=b.length:=by rw [cZ,t]
  have o:=h.eH.own 8 i;rw [l] at o
  rcases o.2 with ⟨r,_⟩ | ⟨q,cap,B,r,y,d,I,z,H,G⟩
  ·cases r
  ·obtain ⟨x,C,v⟩:=Value.slice.inj r;cases x
   subst v;refine ⟨by simp,.inr ⟨g,c,((dw ys) ++ post).toArray,by rw [s],y,?_,by rw [s];omega,z,by simp;rw [cZ,t];omega,by simp⟩⟩;have:=j.lie;unfold Df.xq at this;rw [List.nil_append] at this;exact this
 ·rw [cu _ _ e];refine ownB (h.eH.own k i) fun q d=>keep q ((h.eH.own k i).lt q d).2 fun A=>?_
  rcases h.eH.apart k 8 i (by omega) e with a | a
  ·rw [d] at a;cases a
  ·rw [d,u,A] at a;exact a rfl
def WQ (Z:Nat->Prop) (sb:Nat) (w:World) (K:Nat) (f V:Nat->Value) (X:Nat->List Value) (tr:List Nat) (rea:Nat->Int) (cs:List Rec) (s2:Value) (wr:World):Prop:=
 ∃ (k:Nat) (ids:List Nat),s2=.int .i64 ((dn cs k:Nat):Int)/\k <= cs.length/\Hid (Hw tr rea cs k ids/\R8 Z sb w K f V X ids wr)
def XW (tr:List Nat) (rea:Nat->Int) (cs:List Rec) (k:Nat) (wr:World) (v:Value) (wx:World):Prop:=∃ b:Bool,v=.bool b/\(b=true->sJ tr rea cs k)/\∃ j,wx=wr.drewN j
def RQ (Z:Nat->Prop) (sb:Nat) (w:World) (K:Nat) (f V:Nat->Value) (X:Nat->List Value) (tr:List Nat) (rea:Nat->Int) (cs:List Rec) (e:Ending) (w':World):Prop:=
 e=.returned (.tuple #[])/\∃ ids,Hw tr rea cs cs.length ids/\R8 Z sb w K f V X ids w'
theorem UC (cs:List Rec):∃ cf:Nat->Nat->Int,∀ i j (h:i < cs.length) (d:j < cs.length),cf (dn cs i) (dn cs j)=OV (qY (cs[i]).busy (cs[j]).busy) (qY (cs[j]).lits.length (cs[i]).lits.length) (qY (dn cs i) (dn cs j)):=by
 refine ⟨fun x y=>Classical.epsilon fun z=>∀ i j (h:i < cs.length) (d:j < cs.length),x=dn cs i->y=dn cs j->z=OV (qY (cs[i]).busy (cs[j]).busy) (qY (cs[j]).lits.length (cs[i]).lits.length) (qY (dn cs i) (dn cs j)),fun i j h d=>?_⟩;refine Classical.epsilon_spec (p:=fun z=>∀ b a (e:b < cs.length) (c:a < cs.length),dn cs i=dn cs b->dn cs j=dn cs a->z=OV (qY (cs[b]).busy (cs[a]).busy) (qY (cs[a]).lits.length (cs[b]).lits.length) (qY (dn cs b) (dn cs a))) ⟨OV (qY (cs[i]).busy (cs[j]).busy) (qY (cs[j]).lits.length (cs[i]).lits.length) (qY (dn cs i) (dn cs j)),fun b a e c l k=>?_⟩ i j h d rfl rfl;obtain rfl:=DI (by omega) (by omega) l;obtain rfl:=DI (by omega) (by omega) k;rfl
theorem Qh {b:List Nat} {wr:World} (G:(enc cs).length <= 1099511627776) (Q:X 0=ints (enc cs)) (u:Hw tr rea cs cs.length b) (hL:R8 Z sb w K f V X b wr):
  ∃ (a:Option Addr) (c:Nat),wr.cell? ⟨sb,19,none⟩=some (.slice a b.length c)/\Calls Tryz.prog 222 #[.slice a b.length c,.func (.func 223) #[.pointer (some ⟨sb,0,none⟩)] #[]] wr fun e z=>RQ Z sb w K f V X tr rea cs e z:=by
 obtain ⟨H,v,l⟩:=hL;have T:=l.hK;have hd:=(l.hd (k:=8) (by omega)).1;rw [show cellOf 8=19 from rfl,cz] at hd;have o:=l.eH.own 8 (by omega);rw [cz,cz,cZ] at o
 rcases o.2 with ⟨rfl,s⟩ | ⟨g,c,d,rfl,S,N,Y,U,P,I⟩
 ·refine ⟨none,0,by rw [s];exact hd,?_⟩;rw [s];refine (Qs.zY none 0 _ wr).mono ?_;rintro e z ⟨rfl,rfl⟩;exact ⟨rfl,b,u,H,_,l⟩
 ·refine ⟨some ⟨g,0,none⟩,c,hd,?_⟩;have t:d.toList=dw b ++ d.toList.drop b.length:=by
   have:=List.take_append_drop b.length d.toList;rw [Nat.mul_one] at I;rw [I] at this;exact this.symm
  have r:b.length + (d.toList.drop b.length).length=c:=by
   have M:d.toList.length=c:=by rw [Array.length_toList,P,Nat.mul_one]
   rw [List.length_drop,M];omega
  have R:Qs.Pm g (d.toList.drop b.length) b wr b wr:=⟨by
   have O:d=(dw b ++ d.toList.drop b.length).toArray:=by rw [<- t]
   unfold Df.xq;rw [List.nil_append,<- O,N];rfl,List.Perm.refl _,dB.refl _⟩
  obtain ⟨cf,B⟩:=UC cs;have J:Z g:=l.al 8 (by omega) g (by rw [cz];rfl);have p:∀ {W:World} {h:List Nat},Qs.Pm g (d.toList.drop b.length) b wr h W->dQ Z sb W K (upd f 19 (.slice (some ⟨g,0,none⟩) b.length c)) (upd V 8 (.slice (some ⟨g,0,none⟩) b.length c)) (upd X 8 (dw h)):=fun {W h} C=>by
   have:=l.perm (cz ..) (cz ..) r C;rw [eP] at this;exact this
  refine (Qs.Cq (cf:=cf) (fun W h C x L y q=>?_) R rfl (Nat.le_trans (u.len lr) G)).mono ?_
  ·obtain ⟨i,E,_,rfl⟩:=u.2 x L;obtain ⟨j,D,_,rfl⟩:=u.2 y q;rw [B i j E D];exact xh (p C) (by rw [cu _ _ (by decide)];exact Q) E D G
  ·rintro e z ⟨rfl,h,q⟩;exact ⟨rfl,h,u.perm q.perm,H.trans (q.eO.mono fun k _ e=>by rw [e];exact J),_,p q⟩
end
end
end So
end Go.Proofs.YtceahffmenbibaaGreatDoor
