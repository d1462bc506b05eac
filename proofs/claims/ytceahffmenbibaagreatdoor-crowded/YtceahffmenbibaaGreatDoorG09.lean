/- Cpop Cset Cset2 Pmap Psto. -/
import Derived.Test.YtceahffmenbibaaGreatDoorG00
import Derived.Laws.Bits64b
import Derived.Shelf.Spec.TrailingZeros
import Derived.Deep.QuietTactic
import Derived.BigQuiet
import Derived.Maps.OwnSet
import Derived.Maps.Views
import Derived.DeepKeys4
import Derived.Deep.RegionLaw
import Derived.Deep.RegionHeld3
set_option linter.unusedVariables false
set_option linter.unusedSimpArgs false
set_option maxHeartbeats 1000000
set_option maxRecDepth 1000000
namespace Go.Proofs.YtceahffmenbibaaGreatDoor
namespace Rd
def tu:Nat->Nat->Nat
 | 0,_=>0
 | f + 1,x=>x % 2 + tu f (x / 2)
def pc (x:Nat):Nat:=tu 64 x
theorem jL:∀ (f x:Nat),x < 2 ^ f->tu f x=0->x=0
 | 0,x,h,_=>by simp at h;omega
 | f + 1,x,h,h0=>by
  unfold tu at h0;have:=jL f (x / 2) (by rw [Nat.pow_succ] at h;omega) (by omega)
  omega
theorem yG (f:Nat):tu f 0=0:=by
 induction f with
 | zero=>rfl
 | succ f ih=>unfold tu;simpa using ih
theorem oO (x:Nat):x.testBit 0=decide (x % 2=1):=by simp [Nat.testBit_zero]
theorem Dc:∀ (f x:Nat),x < 2 ^ f->tu f x=1->∀ i j,x.testBit i=true->x.testBit j=true->i=j
 | 0,x,h,h0=>by simp [tu] at h0
 | f + 1,x,h,h0=>by
  unfold tu at h0;have c:x / 2 < 2 ^ f:=by rw [Nat.pow_succ] at h;omega
  intro i j b a
  rcases Nat.mod_two_eq_zero_or_one x with e | e
  ·have d:=Dc f (x / 2) c (by omega)
   cases i with
   | zero=>rw [oO] at b;simp at b;omega
   | succ i=>
    cases j with
    | zero=>rw [oO] at a;simp at a;omega
    | succ j=>rw [Nat.testBit_succ] at b a;rw [d i j b a]
  ·have z:=jL f (x / 2) c (by omega)
   cases i with
   | zero=>
    cases j with
    | zero=>rfl
    | succ j=>rw [Nat.testBit_succ,z] at a;simp at a
   | succ i=>rw [Nat.testBit_succ,z] at b;simp at b
theorem Db:∀ (f x:Nat),x < 2 ^ f->2 <= tu f x->∃ i j,i ≠ j/\x.testBit i=true/\x.testBit j=true
 | 0,x,h,h0=>by simp [tu] at h0
 | f + 1,x,h,h0=>by
  unfold tu at h0;have b:x / 2 < 2 ^ f:=by rw [Nat.pow_succ] at h;omega
  by_cases g:2 <= tu f (x / 2)
  ·obtain ⟨i,j,d,a,c⟩:=Db f (x / 2) b g;exact ⟨i + 1,j + 1,by omega,by rw [Nat.testBit_succ];exact a,by rw [Nat.testBit_succ];exact c⟩
  ·have e:x % 2=1:=by omega
   have:x / 2 ≠ 0:=by intro z;rw [z,yG] at h0;omega
   obtain ⟨i,a⟩:=oC.1 this;exact ⟨0,i + 1,by omega,by rw [oO];simpa using e,by rw [Nat.testBit_succ];exact a⟩
def Key.size (s:Key):Nat:=pc s.1 + pc s.2
theorem vE {s:Key} (c:s.ok) (h:s.size=0):s=(0,0):=by
 unfold Key.size pc at h;have e:=jL 64 s.1 c.1 (by omega)
 have d:=jL 64 s.2 c.2 (by omega)
 obtain ⟨a,b⟩:=s;simp only at e d;rw [e,d]
theorem sZ:Key.size (0,0)=0:=by decide
theorem uB {s:Key} (c:s.ok) (h:s.size=1):∃ l,dZ l/\s=single l:=by
 have g:s ≠ (0,0):=by intro e;rw [e,sZ] at h;cases h
 obtain ⟨l,b⟩:=(kH s).1 g;have f:=Key.KI c b;refine ⟨l,f,kJ fun x=>?_⟩
 rw [di (dE f)]
 cases a:s.has x with
 | false=>
  symm;simp;intro e;rw [e,b] at a;cases a
 | true=>
  symm;simp
  unfold Key.size pc at h
  rcases iA x with rfl | ⟨i,rfl⟩ | ⟨i,rfl⟩
  ·rw [jC] at a;cases a
  ·rcases iA l with rfl | ⟨j,rfl⟩ | ⟨j,rfl⟩
   ·rw [jC] at b;cases b
   ·rw [gq] at a b;have d:tu 64 s.1 ≠ 0:=fun e=>by rw [jL 64 s.1 c.1 e] at a;simp at a
    rw [Dc 64 s.1 c.1 (by omega) i j a b]
   ·rw [gq] at a;rw [gu] at b;have d:tu 64 s.1 ≠ 0:=fun e=>by rw [jL 64 s.1 c.1 e] at a;simp at a
    have k:tu 64 s.2 ≠ 0:=fun e=>by rw [jL 64 s.2 c.2 e] at b;simp at b
    omega
  ·rcases iA l with rfl | ⟨j,rfl⟩ | ⟨j,rfl⟩
   ·rw [jC] at b;cases b
   ·rw [gu] at a;rw [gq] at b;have d:tu 64 s.1 ≠ 0:=fun e=>by rw [jL 64 s.1 c.1 e] at b;simp at b
    have k:tu 64 s.2 ≠ 0:=fun e=>by rw [jL 64 s.2 c.2 e] at a;simp at a
    omega
   ·rw [gu] at a b;have d:tu 64 s.2 ≠ 0:=fun e=>by rw [jL 64 s.2 c.2 e] at a;simp at a
    rw [Dc 64 s.2 c.2 (by omega) i j a b]
theorem size_two {s:Key} (g:s.ok) (h:2 <= s.size):∃ a b,a ≠ b/\s.has a=true/\s.has b=true:=by
 unfold Key.size pc at h;by_cases l:2 <= tu 64 s.1
 ·obtain ⟨i,j,f,d,c⟩:=Db 64 s.1 g.1 l;exact ⟨(i:Int) + 1,(j:Int) + 1,by omega,by rw [gq];exact d,by rw [gq];exact c⟩
 ·by_cases k:2 <= tu 64 s.2
  ·obtain ⟨i,j,f,d,c⟩:=Db 64 s.2 g.2 k;exact ⟨-((i:Int) + 1),-((j:Int) + 1),by omega,by rw [gu];exact d,by rw [gu];exact c⟩
  ·have n:s.1 ≠ 0:=fun e=>by rw [e,yG] at l h;omega
   have m:s.2 ≠ 0:=fun e=>by rw [e,yG] at k h;omega
   obtain ⟨i,d⟩:=oC.1 n;obtain ⟨j,c⟩:=oC.1 m;exact ⟨(i:Int) + 1,-((j:Int) + 1),by omega,by rw [gq];exact d,by rw [gu];exact c⟩
theorem qP {s:Key} (f:s.ok) (h:2 <= s.size) {l:Int} (d:l ≠ 0):s.wo (single l) ≠ (0,0):=by
 obtain ⟨a,b,c,i,g⟩:=size_two f h;rw [kH];by_cases e:a=l
 ·refine ⟨b,?_⟩;rw [kM,g,di d];simp;intro j;exact c (by rw [e,j])
 ·exact ⟨a,by rw [kM,i,di d];simpa using e⟩
theorem pQ (a y m M:Nat) (b:a < 256) (c:m < 256):(a + 256 * y) &&& (m + 256 * M)=(a &&& m) + 256 * (y &&& M):=by
 have d:(a &&& m) < 2 ^ 8:=Nat.lt_of_le_of_lt Nat.and_le_left b;rw [Nat.add_comm a,Nat.add_comm m,Nat.add_comm (a &&& m)];refine Nat.eq_of_testBit_eq fun i=>?_
 rw [Nat.testBit_and,show 256=2 ^ 8 from rfl,Nat.testBit_two_pow_mul_add _ b,Nat.testBit_two_pow_mul_add _ c,Nat.testBit_two_pow_mul_add _ d]
 split <;> simp [Nat.testBit_and]
def rep (c:Nat):Nat->Nat
 | 0=>0
 | n + 1=>c + 256 * rep c n
theorem yD (c n:Nat):rep c (n + 1)=c + 256 * rep c n:=rfl
def p1 (n x:Nat):Nat:=(x / 2 &&& rep 85 n) + (x &&& rep 85 n)
def p2 (n x:Nat):Nat:=(p1 n x / 4 &&& rep 51 n) + (p1 n x &&& rep 51 n)
def p3 (n x:Nat):Nat:=(p2 n x / 16 + p2 n x) &&& rep 15 n
def g1 (a:Nat):Nat:=(a / 2 &&& 85) + (a &&& 85)
def g2 (a:Nat):Nat:=(g1 a / 4 &&& 51) + (g1 a &&& 51)
theorem TI (n a y:Nat) (c:a < 256):p1 (n + 1) (a + 256 * y)=g1 a + 256 * p1 n y:=by
 have e:(a + 256 * y) / 2=(a / 2 + 128 * (y % 2)) + 256 * (y / 2):=by omega
 have k:∀ a,a < 256->∀ b,b < 2->((a / 2 + 128 * b) &&& 85)=(a / 2 &&& 85):=by decide +kernel
 unfold p1 g1;rw [yD,e,pQ _ _ _ _ (by omega) (by omega),pQ _ _ _ _ c (by omega),k a c _ (by omega)]
 omega
theorem XQ:∀ a,a < 256->g1 a < 256:=by decide +kernel
theorem Kg (n a y:Nat) (c:a < 256):p2 (n + 1) (a + 256 * y)=g2 a + 256 * p2 n y:=by
 have d:=XQ a c;have k:∀ a,a < 256->∀ b,b < 4->((a / 4 + 64 * b) &&& 51)=(a / 4 &&& 51):=by decide +kernel
 have e:(g1 a + 256 * p1 n y) / 4=(g1 a / 4 + 64 * (p1 n y % 4)) + 256 * (p1 n y / 4):=by omega
 unfold p2;rw [TI n a y c];unfold g2;rw [yD,e,pQ _ _ _ _ (by omega) (by omega),pQ _ _ _ _ d (by omega),k _ d _ (by omega)]
 omega
theorem Vi:∀ a,a < 256->g2 a < 256/\g2 a % 16 < 5/\g2 a <= 68/\∀ b,b < 5->((g2 a / 16 + 16 * b + g2 a) &&& 15)=tu 8 a:=by decide +kernel
theorem VQ (n x:Nat):p2 n x % 16 < 5:=by
 cases n with
 | zero=>unfold p2 rep;simp
 | succ n=>
  have e:x=x % 256 + 256 * (x / 256):=by omega
  rw [e,Kg n _ _ (by omega)]
  have:=(Vi (x % 256) (by omega)).2.1
  omega
theorem TG (n a y:Nat) (b:a < 256):p3 (n + 1) (a + 256 * y)=tu 8 a + 256 * p3 n y:=by
 obtain ⟨h,g,f,d⟩:=Vi a b;have c:=VQ n y;have e:(g2 a + 256 * p2 n y) / 16 + (g2 a + 256 * p2 n y)=(g2 a / 16 + 16 * (p2 n y % 16) + g2 a) + 256 * (p2 n y / 16 + p2 n y):=by omega
 unfold p3;rw [Kg n a y b,e];rw [yD,pQ _ _ _ _ (by omega) (by omega),d _ c]
theorem kZ (n x:Nat):tu (n + 8) x=tu 8 (x % 256) + tu n (x / 256):=by
 have e:tu n (x / 2 / 2 / 2 / 2 / 2 / 2 / 2 / 2)=tu n (x / 256):=by congr 1;omega
 simp only [tu];rw [e];omega
theorem ou (x:Nat):tu 8 x <= 8:=by simp only [tu];omega
theorem Pn (x:Nat) (h:x < wide):∃ j i g f e d c b:Nat,j <= 8/\i <= 8/\g <= 8/\f <= 8/\e <= 8/\d <= 8/\c <= 8/\b <= 8/\
  p3 8 x=j + 256 * (i + 256 * (g + 256 * (f + 256 * (e + 256 * (d + 256 * (c + 256 * b))))))/\pc x=j + i + g + f + e + d + c + b:=by
 unfold wide at h;have a:∀ n y,p3 (n + 1) y=tu 8 (y % 256) + 256 * p3 n (y / 256):=fun n y=>by
  conv=>lhs;rw [show y=y % 256 + 256 * (y / 256) by omega]
  exact TG n _ _ (by omega)
 have z:∀ y,p3 0 y=0:=fun y=>by unfold p3 rep;simp
 refine ⟨_,_,_,_,_,_,_,_,ou (x % 256),ou (x / 256 % 256),ou (x / 256 / 256 % 256),ou (x / 256 / 256 / 256 % 256),ou (x / 256 / 256 / 256 / 256 % 256),ou (x / 256 / 256 / 256 / 256 / 256 % 256),ou (x / 256 / 256 / 256 / 256 / 256 / 256 % 256),ou (x / 256 / 256 / 256 / 256 / 256 / 256 / 256 % 256),?_,?_⟩
 ·rw [a 7,a 6,a 5,a 4,a 3,a 2,a 1,a 0,z,Nat.mul_zero,Nat.add_zero]
 ·unfold pc;rw [kZ 56 x,kZ 48 (x / 256),kZ 40 (x / 256 / 256),kZ 32 (x / 256 / 256 / 256),kZ 24 (x / 256 / 256 / 256 / 256),kZ 16 (x / 256 / 256 / 256 / 256 / 256),kZ 8 (x / 256 / 256 / 256 / 256 / 256 / 256)];rw [show x / 256 / 256 / 256 / 256 / 256 / 256 / 256 % 256=x / 256 / 256 / 256 / 256 / 256 / 256 / 256 from Nat.mod_eq_of_lt (by omega)]
  omega
theorem Da (x D A E:Nat) (h:x < wide) (n:D=p3 8 x + p3 8 x / 256) (m:A=D + D / 65536) (l:E=A + A / 4294967296):
  E % 128=pc x/\D < wide/\A < wide/\E < 9223372036854775808/\p3 8 x < wide/\pc x <= 64:=by
 obtain ⟨F,z,p,k,j,i,g,f,O,N,M,L,K,J,I,H,e,y⟩:=Pn x h;have d:D=(F + z) + 256 * ((z + p) + 256 * ((p + k) + 256 * ((k + j) + 256 * ((j + i) + 256 * ((i + g) + 256 * ((g + f) + 256 * f)))))):=by rw [n,e];omega
 have o:A=(F + z + p + k) + 256 * ((z + p + k + j) + 256 * ((p + k + j + i) + 256 * ((k + j + i + g) + 256 * ((j + i + g + f) + 256 * ((i + g + f) + 256 * ((g + f) + 256 * f)))))):=by rw [m,d];omega
 obtain ⟨C,a⟩:∃ C,C=(F + z + p + k) + 256 * ((z + p + k + j) + 256 * ((p + k + j + i) + 256 * (k + j + i + g))):=⟨_,rfl⟩;obtain ⟨v,b⟩:∃ v,v=(j + i + g + f) + 256 * ((i + g + f) + 256 * ((g + f) + 256 * f)):=⟨_,rfl⟩;have c:A=C + 4294967296 * v:=by rw [o,a,b];clear e d n m l o a b;omega
 have t:C < 4294967296:=by rw [a];clear e d n m l o a b c;omega
 have q:A / 4294967296=v:=by rw [c];clear e d n m l o a b c;omega
 have r:E=C + v + 4294967296 * v:=by rw [l,q,c];clear e d n m l o a b c t q;omega
 have s:C + v=(F + z + p + k + j + i + g + f) + 256 * ((z + p + k + j + i + g + f) + 256 * ((p + k + j + i + g + f) + 256 * (k + j + i + g + f))):=by rw [a,b];clear e d n m l o a b c t q r;omega
 have G:v < 268435456:=by rw [b];clear e d n m l o a b c t q r s;omega
 unfold wide;refine ⟨?_,?_,?_,?_,?_,?_⟩
 ·rw [r,s,y];clear e d n m l o a b c t q r s y;omega
 ·rw [d];clear e d n m l o a b c t q r s y;omega
 ·rw [c];clear e d n m l o a b c q r s y;omega
 ·rw [r,s];clear e d n m l o a b c t q r s y;omega
 ·rw [e];clear e d n m l o a b c t q r s y;omega
 ·rw [y];clear e d n m l o a b c t q r s y;omega
section
open Go Go.RowKit
def dD (s:Key):Value:=.agg #[.int .u64 (s.1:Int),.int .u64 (s.2:Int)]
theorem JM {B:Nat} {a w:World} (h:Below B a w) (e:B <= w.heap.size) (d c b:Obj):Below B a (((w.alloc d).alloc c).alloc b):=
 ((h.alloc e d).alloc (by simp;omega) c).alloc (by simp;omega) b
theorem uj {B:Nat} {a w:World} (h:Below B a w) (d:B <= w.heap.size) (c b:Obj):Below B a ((w.alloc c).alloc b):=
 (h.alloc d c).alloc (by simp;omega) b
theorem qF (a b:Nat) (c:a < wide) (g:b < wide):bits .andNot .u64 (a:Int) (b:Int)=((andNot a b:Nat):Int):=by
 unfold wide at c g;have j:(BitVec.ofInt 64 (a:Int)).toNat=a:=by
  rw [BitVec.ofInt_natCast,BitVec.toNat_ofNat];exact Nat.mod_eq_of_lt (by omega)
 have h:(BitVec.ofInt 64 (b:Int)).toNat=b:=by
  rw [BitVec.ofInt_natCast,BitVec.toNat_ofNat];exact Nat.mod_eq_of_lt (by omega)
 have e:(BitVec.ofInt 64 (a:Int) &&& ~~~ BitVec.ofInt 64 (b:Int)).toNat=andNot a b:=by
  refine Nat.eq_of_testBit_eq fun i=>?_
  rw [nG,BitVec.testBit_toNat,BitVec.getLsbD_and,BitVec.getLsbD_not,<- BitVec.testBit_toNat,<- BitVec.testBit_toNat,j,h];by_cases f:i < 64
  ·simp [f]
  ·have:a.testBit i=false:=Nat.testBit_lt_two_pow (Nat.lt_of_lt_of_le (show a < 2 ^ 64 from c) (Nat.pow_le_pow_right (n:=2) (by decide) (show 64 <= i by omega)))
   simp [this]
 show IntKind.u64.wrap ((BitVec.ofInt 64 (a:Int) &&& ~~~ BitVec.ofInt 64 (b:Int)).toNat:Int)=_
 have d:=wh (a:=a) (b:=b) c;unfold wide at d;rw [e,IntKind.wrap_u64];omega
theorem ik (s t:Key) (w:World) (b:s.ok) (a:t.ok):
  Calls Tryz.prog 75 #[dD s,dD t] w fun e w'=>e=.returned (dD (s.un t))/\Below w.heap.size w w':=by
 unfold dD Key.un;rw [<- bits_or_u64_nat s.1 t.1 b.1 a.1,<- bits_or_u64_nat s.2 t.2 b.2 a.2];go_enter Tryz.func75,Tryz.ntmps75
 go_wp2;exact bodyPost_ret (v:=.agg #[.int .u64 (bits .or .u64 s.1 t.1),.int .u64 (bits .or .u64 s.2 t.2)]) (by simp [results,Tryz.results75,go_sem]) rfl ⟨rfl,JM bR lr _ _ _⟩
theorem jq (s t:Key) (w:World) (b:s.ok) (a:t.ok):
  Calls Tryz.prog 114 #[dD s,dD t] w fun e w'=>e=.returned (dD (s.wo t))/\Below w.heap.size w w':=by
 unfold dD Key.wo;rw [<- qF s.1 t.1 b.1 a.1,<- qF s.2 t.2 b.2 a.2];go_enter Tryz.func114,Tryz.ntmps114
 go_wp2;exact bodyPost_ret (v:=.agg #[.int .u64 (bits .andNot .u64 s.1 t.1),.int .u64 (bits .andNot .u64 s.2 t.2)]) (by simp [results,Tryz.results114,go_sem]) rfl ⟨rfl,JM bR lr _ _ _⟩
theorem oP (s:Key) (w:World):
  Calls Tryz.prog 118 #[dD s] w fun e w'=>e=.returned (dD s.op)/\Below w.heap.size w w':=by
 unfold dD Key.op;go_enter Tryz.func118,Tryz.ntmps118
 go_wp2;exact bodyPost_ret (v:=.agg #[.int .u64 (s.2:Int),.int .u64 (s.1:Int)]) (by simp [results,Tryz.results118,go_sem]) rfl ⟨rfl,uj bR lr _ _⟩
def jX (s:Key):Bool:=decide (s=(0,0))
theorem Jy (s:Key):(((s.1 ||| s.2:Nat):Int) == 0)=jX s:=by
 unfold jX;rw [Bool.eq_iff_iff];simp only [beq_iff_eq,decide_eq_true_eq];rw [<- Cg];omega
theorem oG (s:Key) (w:World) (a:s.ok):
  Calls Tryz.prog 74 #[dD s] w fun e w'=>e=.returned (.bool (jX s))/\Below w.heap.size w w':=by
 rw [<- Jy,<- bits_or_u64_nat s.1 s.2 a.1 a.2];unfold dD;go_enter Tryz.func74,Tryz.ntmps74
 go_wp2;go_ret
 exact ⟨rfl,bR.alloc lr _⟩
def tF (s t:Key):Bool:=(s.1 &&& t.1) ||| (s.2 &&& t.2) != 0
theorem BI (s t:Key):tF s t=true↔∃ l,s.has l=true/\t.has l=true:=by
 rw [<- Mx];unfold tF;simp
theorem vM (s t:Key) (w:World) (a:s.ok) (b:t.ok):
  Calls Tryz.prog 168 #[dD s,dD t] w fun e w'=>e=.returned (.bool (tF s t))/\Below w.heap.size w w':=by
 have e:tF s t=(bits .or .u64 (bits .and .u64 s.1 t.1) (bits .and .u64 s.2 t.2) != 0):=by
  rw [bits_and_u64_nat s.1 t.1 a.1 b.1,bits_and_u64_nat s.2 t.2 a.2 b.2,bits_or_u64_nat _ _ (Nat.lt_of_le_of_lt Nat.and_le_left a.1) (Nat.lt_of_le_of_lt Nat.and_le_left a.2)];unfold tF;rw [Bool.eq_iff_iff];simp only [bne_iff_ne,ne_eq];omega
 rw [e];unfold dD;go_enter Tryz.func168,Tryz.ntmps168
 go_wp2;go_ret
 exact ⟨rfl,uj bR lr _ _⟩
def oW (s:Key):Bool:=s.1 &&& s.2 != 0
theorem zM (s:Key):oW s=true↔∃ l,s.has l=true/\s.has (-l)=true:=by
 rw [<- Nw];unfold oW;simp
theorem Hg (s:Key) (w:World) (a:s.ok):
  Calls Tryz.prog 166 #[dD s] w fun e w'=>e=.returned (.bool (oW s))/\Below w.heap.size w w':=by
 have e:oW s=(bits .and .u64 s.1 s.2 != 0):=by
  rw [bits_and_u64_nat s.1 s.2 a.1 a.2];unfold oW;rw [Bool.eq_iff_iff];simp only [bne_iff_ne,ne_eq];omega
 rw [e];unfold dD;go_enter Tryz.func166,Tryz.ntmps166
 go_wp2;go_ret
 exact ⟨rfl,bR.alloc lr _⟩
theorem Kt {x:Nat} (a:x ≠ 0) (h:x < wide):bits .and .u64 (x:Int) (IntKind.u64.wrap (-(x:Int)))=((2 ^ Lib.ctz 64 x:Nat):Int):=by
 have b:IntKind.u64.wrap (-(x:Int))=((18446744073709551616 - x:Nat):Int):=by unfold wide at h;rw [IntKind.wrap_u64];omega
 rw [b,bits_and_u64_nat x _ h (by omega)]
 congr 1
 exact (Lib.lowest_bit 64 x a h).1
theorem VS (x c:Int) (w:World) (a:(x == 0)=true) (y:Int) (k:bits .and .u64 y (IntKind.u64.wrap (-y))=c):
  Calls Tryz.prog 158 #[.agg #[.int .u64 x,.int .u64 y]] w fun e w'=>e=.returned (.agg #[.int .u64 0,.int .u64 c])/\Below w.heap.size w w':=by
 have b:(x != 0)=false:=by simpa using a
 clear a;go_enter Tryz.func158,Tryz.ntmps158
 go_wp2;exact bodyPost_ret (v:=.agg #[.int .u64 0,.int .u64 c]) (by simp [results,Tryz.results158,go_sem,k]) rfl ⟨rfl,uj bR lr _ _⟩
theorem VT (x c:Int) (w:World) (a:(x != 0)=true) (y:Int) (k:bits .and .u64 x (IntKind.u64.wrap (-x))=c):
  Calls Tryz.prog 158 #[.agg #[.int .u64 x,.int .u64 y]] w fun e w'=>e=.returned (.agg #[.int .u64 c,.int .u64 0])/\Below w.heap.size w w':=by
 go_enter Tryz.func158,Tryz.ntmps158
 go_wp2;exact bodyPost_ret (v:=.agg #[.int .u64 c,.int .u64 0]) (by simp [results,Tryz.results158,go_sem,k]) rfl ⟨rfl,uj bR lr _ _⟩
theorem xL (s:Key) (w:World) (c:s.ok) (f:s ≠ (0,0)):
  Calls Tryz.prog 158 #[dD s] w fun e w'=>e=.returned (dD s.one)/\Below w.heap.size w w':=by
 unfold Key.one;by_cases h:s.1=0
 ·have d:s.2 ≠ 0:=by
   intro e;apply f;obtain ⟨a,b⟩:=s;simp only at h e;rw [h,e]
  rw [if_neg (by simpa using h)]
  exact VS _ _ w (by rw [h];rfl) _ (Kt d c.2)
 ·rw [if_pos h];exact VT _ _ w (by simpa using h) _ (Kt h c.1)
theorem SS (x k a:Nat) (w:World) (d:((x:Int) == 0)=false)
  (b:IntKind.u64.wrap (bits BinOp.and IntKind.u64 (x:Int) (IntKind.u64.wrap (-(x:Int))) * 285870213051353865) / 288230376151711744=(a:Int))
  (hi:a < 64) (f:k < 64) (c:w.cell? ⟨5,a,none⟩=some (.int .u8 k)):
  Calls Tryz.prog 228 #[.int .u64 x] w fun e w'=>e=.returned (.int .i64 k)/\w=w':=by
 go_enter Tryz.func228,Tryz.ntmps228
 go_wp2_with (simp only [b])
 go_ret
 exact ⟨rfl,rfl⟩
theorem Oh (x:Nat) (w:World) (d:x < wide) (h:x ≠ 0) (i:TabAt 5 Lib.deBruijn64tab w):
  Calls Tryz.prog 228 #[.int .u64 x] w fun e w'=>e=.returned (.int .i64 (Lib.ctz 64 x))/\w=w':=by
 obtain ⟨c,f⟩:=Lib.lowest_bit 64 x h d;obtain ⟨g,b⟩:=Lib.deBruijn64_at _ f;have a:=i _ g;rw [b] at a;exact SS x _ _ w (by simp;omega) (tz64_key x _ d h c) g f a
theorem Mk (x f d c b a h g:Int) (w:World)
  (o:IntKind.u64.wrap (bits .and .u64 (x / 2) 6148914691236517205 + bits .and .u64 x 6148914691236517205)=f)
  (n:IntKind.u64.wrap (bits .and .u64 (f / 4) 3689348814741910323 + bits .and .u64 f 3689348814741910323)=d)
  (m:bits .and .u64 (IntKind.u64.wrap (d / 16 + d)) 1085102592571150095=c)
  (l:IntKind.u64.wrap (c + c / 256)=b) (k:IntKind.u64.wrap (b + b / 65536)=a) (j:IntKind.u64.wrap (a + a / 4294967296)=h)
  (i:bits .and .i64 (wrap64 h) 127=g):
  Calls Tryz.prog 160 #[.int .u64 x] w fun e w'=>e=.returned (.int .i64 g)/\w=w':=by
 go_enter Tryz.func160,Tryz.ntmps160
 go_wp2_with (simp only [o,n,m,l,k,j,i])
 go_ret
 exact ⟨rfl,rfl⟩
theorem xX (n:Int) (c:0 <= n) (a:n < 2 ^ 63):IntKind.i64.wrap n=n:=by
 have b:n < 9223372036854775808:=a;rw [IntKind.wrap_i64];omega
theorem TY (z:Nat) (h:z < 9223372036854775808):bits .and .i64 (z:Int) 127=((z % 128:Nat):Int):=by
 have:=(bits_nat .i64 63 (by decide) xX z 127 h (by decide)).1
 rw [show ((127:Nat):Int)=127 from rfl] at this
 rw [this]
 congr 1
 exact Nat.and_two_pow_sub_one_eq_mod z 7
theorem Pw (x:Nat) (w:World) (d:x < wide):
  Calls Tryz.prog 160 #[.int .u64 x] w fun e w'=>e=.returned (.int .i64 (pc x))/\w=w':=by
 obtain ⟨c,i⟩:∃ z,z=p3 8 x + p3 8 x / 256:=⟨_,rfl⟩;obtain ⟨b,h⟩:∃ z,z=c + c / 65536:=⟨_,rfl⟩;obtain ⟨a,g⟩:∃ z,z=b + b / 4294967296:=⟨_,rfl⟩;obtain ⟨m,r,q,n,s,_⟩:=Da x c b a d i h g;have p:p1 8 x <= 12297829382473034410:=by
  have l:(x / 2 &&& rep 85 8) <= rep 85 8:=Nat.and_le_right;have k:(x &&& rep 85 8) <= rep 85 8:=Nat.and_le_right;have j:rep 85 8=6148914691236517205:=by decide
  unfold p1;omega
 have o:p2 8 x <= 7378697629483820646:=by
  have l:(p1 8 x / 4 &&& rep 51 8) <= rep 51 8:=Nat.and_le_right;have k:(p1 8 x &&& rep 51 8) <= rep 51 8:=Nat.and_le_right;have j:rep 51 8=3689348814741910323:=by decide
  unfold p2;omega
 unfold wide at *
 refine Mk x (p1 8 x:Nat) (p2 8 x:Nat) (p3 8 x:Nat) (c:Nat) (b:Nat) (a:Nat) (pc x:Nat) w ?_ ?_ ?_ ?_ ?_ ?_ ?_
 ·rw [show (x:Int) / 2=((x / 2:Nat):Int) by omega,show (6148914691236517205:Int)=((6148914691236517205:Nat):Int) from rfl,bits_and_u64_nat _ _ (by omega) (by omega),bits_and_u64_nat _ _ d (by omega),IntKind.wrap_u64]
  have:p1 8 x=(x / 2 &&& 6148914691236517205) + (x &&& 6148914691236517205):=rfl;omega
 ·rw [show ((p1 8 x:Nat):Int) / 4=((p1 8 x / 4:Nat):Int) by omega,show (3689348814741910323:Int)=((3689348814741910323:Nat):Int) from rfl,bits_and_u64_nat _ _ (by omega) (by omega),bits_and_u64_nat _ _ (by omega) (by omega),IntKind.wrap_u64]
  have:p2 8 x=(p1 8 x / 4 &&& 3689348814741910323) + (p1 8 x &&& 3689348814741910323):=rfl;omega
 ·have e:IntKind.u64.wrap (((p2 8 x:Nat):Int) / 16 + (p2 8 x:Nat))=((p2 8 x / 16 + p2 8 x:Nat):Int):=by rw [IntKind.wrap_u64];omega
  rw [e,show (1085102592571150095:Int)=((1085102592571150095:Nat):Int) from rfl,bits_and_u64_nat _ _ (by omega) (by omega)]
  rfl
 ·rw [IntKind.wrap_u64];omega
 ·rw [IntKind.wrap_u64];omega
 ·rw [IntKind.wrap_u64];omega
 ·rw [<- m];have f:wrap64 (a:Int)=(a:Int):=by unfold wrap64;omega
  rw [f,TY a n]
theorem Hq {B:Nat} {a w:World} (h:Below B a w) (n:Nat):Below B a (w.drewN n):=h.trans ⟨rfl,rfl,rfl,lr,fun _ _=>rfl⟩
theorem BB (x:Nat) (w:World) (a:x < wide):
  Calls Tryz.prog 160 #[.int .u64 x] w fun e w'=>e=.returned (.int .i64 (pc x))/\w'=w:=
 (Pw x w a).mono fun e w' h=>⟨h.1,h.2.symm⟩
theorem jw (s:Key) (w:World) (d:s.ok):
  Calls Tryz.prog 110 #[dD s] w fun e w'=>e=.returned (.int .i64 (s.size:Nat))/\Below w.heap.size w w':=by
 have m:pc s.1 <= 64:=(Da s.1 _ _ _ d.1 rfl rfl rfl).2.2.2.2.2;have l:pc s.2 <= 64:=(Da s.2 _ _ _ d.2 rfl rfl rfl).2.2.2.2.2;obtain ⟨g,f⟩:=d;obtain ⟨a,b⟩:=s;have i:=fun w=>BB a w g
 have h:=fun w=>BB b w f
 simp only at m l;unfold dD Key.size;simp only;generalize pc a=k at *
 generalize pc b=j at *
 clear g f;go_enter Tryz.func110,Tryz.ntmps110
 go_wp2;generalize c:w.alloc (.cells #[.int .u64 (a:Int),.int .u64 (b:Int)] 84)=W
 have p:W.cell? ⟨w.heap.size,0,none⟩=some (.int .u64 (a:Int)):=by rw [<- c];simp
 have o:W.cell? ⟨w.heap.size,1,none⟩=some (.int .u64 (b:Int)):=by rw [<- c];simp
 have n:=hide c;clear c
 go_quiet ((go_at_call 160;first | with_reducible exact Calls.quiet_of_same (i _) | with_reducible exact Calls.quiet_of_same (h _)))
 go_wp2;go_ret
 refine ⟨?_,?_⟩
 ·show Ending.returned (.int .i64 ((k:Int) + (j:Int)))=_
  rw [<- Int.natCast_add]
 ·refine Hq ?_ _;rw [<- n.out];exact bR.alloc lr _
theorem Bh {g:Nat} {a:List Nat} {w:World} (h:TabAt g a w) (o:Obj):TabAt g a (w.alloc o):=by
 intro j b;have:=h j b;rw [<- this];exact ((Below.refl w.heap.size w).alloc lr o).cell (p:=⟨g,j,none⟩) (block_lt_of_cell this)
theorem KJ (k:Nat) (a:k < 64):Lib.ctz 64 (2 ^ k)=k:=by
 have c:2 ^ k ≠ 0:=Nat.ne_of_gt (Nat.two_pow_pos k);have b:2 ^ k < wide:=show 2 ^ k < 2 ^ 64 from Nat.pow_lt_pow_right (by decide) a
 have:=(Dw c b).1;rw [Nat.testBit_two_pow] at this;simpa using (of_decide_eq_true this).symm
theorem Pf (a b:Nat) (w:World) (f:a < wide) (h:((a:Int) != 0)=true) (k:Nat) (j:k < 64) (e:Lib.ctz 64 a=k) (g:TabAt 5 Lib.deBruijn64tab w):
  Calls Tryz.prog 199 #[.agg #[.int .u64 (a:Int),.int .u64 (b:Int)]] w fun e w'=>e=.returned (.int .i64 k)/\Below w.heap.size w w':=by
 have d:a ≠ 0:=by intro e;subst e;simp at h
 have c:=fun o=>Oh a (w.alloc o) f d (Bh g o)
 rw [e] at c;clear g d f e;go_enter Tryz.func199,Tryz.ntmps199
 go_wp2_with fail
 refine (c _).mono ?_;rintro l i ⟨rfl,rfl⟩;go_wp2;go_ret;exact ⟨rfl,bR.alloc lr _⟩
theorem Pe (a b:Nat) (w:World) (f:b < wide) (j:((a:Int) != 0)=false) (c:b ≠ 0) (k:Nat) (i:k < 64) (e:Lib.ctz 64 b=k) (g:TabAt 5 Lib.deBruijn64tab w):
  Calls Tryz.prog 199 #[.agg #[.int .u64 (a:Int),.int .u64 (b:Int)]] w fun e w'=>e=.returned (.int .i64 (64 + k:Nat))/\Below w.heap.size w w':=by
 have d:=fun o=>Oh b (w.alloc o) f c (Bh g o)
 rw [e] at d;clear g c f e;go_enter Tryz.func199,Tryz.ntmps199
 go_wp2_with fail
 refine (d _).mono ?_;rintro l h ⟨rfl,rfl⟩;go_wp2;go_ret;exact ⟨by show Ending.returned (.int .i64 (64 + (k:Int)))=_;rw [Int.natCast_add];rfl,bR.alloc lr _⟩
theorem Bv (l:Int) (w:World) (c:dZ l) (a:TabAt 5 Lib.deBruijn64tab w):
  Calls Tryz.prog 199 #[dD (single l)] w fun e w'=>e=.returned (.int .i64 (place l:Nat))/\Below w.heap.size w w':=by
 unfold dD single place
 rcases c with h | h
 ·rw [if_neg (by omega),if_pos (by omega)]
  have b:2 ^ (l.toNat - 1) ≠ 0:=Nat.ne_of_gt (Nat.two_pow_pos _);exact Pf _ _ w (show _ < 2 ^ 64 from Nat.pow_lt_pow_right (by decide) (by omega)) (by rw [bne_iff_ne];exact_mod_cast b) _ (by omega) (KJ _ (by omega)) a
 ·rw [if_pos (by omega),if_neg (by omega)]
  exact Pe _ _ w (show _ < 2 ^ 64 from Nat.pow_lt_pow_right (by decide) (by omega)) rfl (Nat.ne_of_gt (Nat.two_pow_pos _)) _ (by omega) (KJ _ (by omega)) a
theorem yw (l:Int) (w:World) (b:dZ l):
  Calls Tryz.prog 73 #[.int .i64 l] w fun e w'=>e=.returned (dD (single l))/\Below w.heap.size w w':=by
 unfold dD single
 rcases b with h | h
 ·obtain ⟨k,rfl⟩:∃ k:Nat,l=(k:Int) + 1:=⟨(l - 1).toNat,by omega⟩
  have a:2 ^ k < 18446744073709551616:=show 2 ^ k < 2 ^ 64 from Nat.pow_lt_pow_right (by decide) (by omega)
  have e:IntKind.u64.wrap (2 ^ k)=((2 ^ k:Nat):Int):=by
   rw [IntKind.wrap_u64,show (2:Int) ^ k=((2 ^ k:Nat):Int) by simp];generalize 2 ^ k=z at a ⊢;omega
  rw [if_neg (by omega),show ((k:Int) + 1).toNat - 1=k by omega,<- e]
  clear e a;go_enter Tryz.func73,Tryz.ntmps73
  go_wp2;exact bodyPost_ret (v:=.agg #[.int .u64 (IntKind.u64.wrap (2 ^ k)),.int .u64 0]) (by simp [results,Tryz.results73,go_sem]) rfl ⟨rfl,bR.alloc lr _⟩
 ·obtain ⟨k,rfl⟩:∃ k:Nat,l=-((k:Int) + 1):=⟨(-l - 1).toNat,by omega⟩
  have a:2 ^ k < 18446744073709551616:=show 2 ^ k < 2 ^ 64 from Nat.pow_lt_pow_right (by decide) (by omega)
  have e:IntKind.u64.wrap (2 ^ k)=((2 ^ k:Nat):Int):=by
   rw [IntKind.wrap_u64,show (2:Int) ^ k=((2 ^ k:Nat):Int) by simp];generalize 2 ^ k=z at a ⊢;omega
  rw [if_pos (by omega),show (-(-((k:Int) + 1))).toNat - 1=k by omega,<- e]
  clear e a;go_enter Tryz.func73,Tryz.ntmps73
  go_wp2;exact bodyPost_ret (v:=.agg #[.int .u64 0,.int .u64 (IntKind.u64.wrap (2 ^ k))]) (by simp [results,Tryz.results73,go_sem]) rfl ⟨rfl,bR.alloc lr _⟩
end
section
open Go Go.RowKit Go.Maps
theorem Tryz.Qc:laidOutB Tryz.prog=true:=by kernel_rfl
theorem Tryz.OO:(84:TypeId) < Tryz.prog.types.size:=of_decide_eq_true (by kernel_rfl)
theorem Tryz.SA:(match Tryz.prog.underlying 84 with | some (.array _ _) | some (.struct _)=>true | _=>false)=true:=by rw [Tryz.underlying84]
theorem Tryz.YU:Tryz.prog.keyTypeAt 3 84=true:=by kernel_rfl
theorem Tryz.DC:Keyed Tryz.prog 84:=Keyed.of_law (deep_law_laid Tryz.Qc (m:=3) (by omega) Tryz.OO Tryz.YU Tryz.SA)
theorem Tryz.Rm:Tryz.prog.cellsOf 84=2:=by kernel_rfl
theorem Tryz.Sv (w:World):(zeroValue 3).run Tryz.prog w=.ok (.int .i64 0) w:=by kernel_rfl
theorem Tryz.XL:Tryz.prog.keyType 84=true:=by kernel_rfl
theorem Tryz.Rl:Tryz.prog.cellsOf 82=1:=by kernel_rfl
theorem Tryz.Oi:∃ n,Tryz.prog.types.size=n + 1:=⟨Tryz.prog.types.size - 1,(Nat.succ_pred_eq_of_pos (Nat.lt_of_le_of_lt zl Tryz.OO)).symm⟩
def xx (s:Key):Lit:=.string (keyBytes [.int .u64 (s.1:Int),.int .u64 (s.2:Int)])
theorem MU {P : Program} {k u n : Nat} {j : Array Field} {m l : Field} (d : P.underlying k = some (.struct j)) (g : j = #[m, l]) (C : j.all (fun f => f.name != "_") = true) (t : m.type = u) (y : m.offset = 0) (s : l.type = u) (v : l.offset = 1)
  (D:P.keyType k=true) (p:P.cellsOf k=2) (i:P.cellsOf u=1) (c:P.underlying u=some (.int .u64)) (e:P.types.size=n + 1) {a b:Int} (r:(Lit.int .u64 a).wf=true) (q:(Lit.int .u64 b).wf=true):
  keyOf P k (.agg #[.int .u64 a,.int .u64 b])=some (.string (keyBytes [.int .u64 a,.int .u64 b])):=by
 have h:(Value.agg #[.int .u64 a,.int .u64 b]).formed P k=true:=by simp [Value.formed,d,p]
 have o:∀ x,(Lit.int .u64 x).wf=true->P.keyLits (n + 1) u [.int .u64 x]=some [.int .u64 x]:=fun x A=>by simp [Program.keyLits,c,A]
 have z:P.keyLits (n + 1 + 1) k [.int .u64 a,.int .u64 b]=some [.int .u64 a,.int .u64 b]:=by
  subst g
  conv=>lhs;unfold Program.keyLits
  rw [d];simp only [p,C,List.length_cons,List.length_nil,and_self,if_true];simp [t,s,y,v,i,o a r,o b q]
 unfold keyOf;rw [d];simp only [D,h,Bool.and_self,if_true,e];show Option.map _ (P.keyLits (n + 1 + 1) k [.int .u64 a,.int .u64 b])=_
 rw [z];rfl
theorem pF {s:Key} (a:s.ok):keyOf Tryz.prog 84 (dD s)=some (xx s):=by
 have c:(Lit.int .u64 (s.1:Int)).wf=true:=by
  have:=a.1;unfold wide at this;simp [Lit.wf,IntKind.min,IntKind.max,IntKind.signed,IntKind.bits];omega
 have b:(Lit.int .u64 (s.2:Int)).wf=true:=by
  have:=a.2;unfold wide at this;simp [Lit.wf,IntKind.min,IntKind.max,IntKind.signed,IntKind.bits];omega
 obtain ⟨n,d⟩:=Tryz.Oi;exact MU Tryz.underlying84 rfl (by kernel_rfl) rfl rfl rfl rfl Tryz.XL Tryz.Rm Tryz.Rl Tryz.underlying82 d c b
theorem Qd {s t:Key} (i:s.ok) (g:t.ok) (h:xx s=xx t):s=t:=by
 have f:=pF i;have e:=pF g;rw [<- h] at e;have:=Tryz.DC.inj f e;unfold dD at this;simp at this;obtain ⟨a,b⟩:=s;obtain ⟨c,d⟩:=t;simp only at this;have f:a=c:=by have:=this.1;omega
 have e:b=d:=by have:=this.2;omega
 rw [f,e]
theorem F5 {s:Key} (a:s.ok):WideAt.IsKeyLit (xx s):=Tryz.DC.key (pF a)
def jD (w:World) (b n:Nat) (m:Key->Option Nat):Prop:=∃ D:DataW Unit,w.ownsMap Tryz.prog 84 (plainElem Tryz.prog 3) b n D/\IsMap D/\
 ∀ s:Key,s.ok->Maps.has D (xx s)=(m s).isSome/\∀ i,m s=some i->D.atKey (xx s) (.lit (.int .i64 0))=.lit (.int .i64 (i:Nat))
theorem yS (w:World):jD (w.alloc (.map #[] 0)) w.heap.size 0 (fun _=>none):=by
 refine ⟨.map [],World.ownsMap_made _ _ _ _,⟨[],rfl⟩,fun s b=>⟨rfl,fun i a=>by cases a⟩⟩
theorem jD.congr {w:World} {b n:Nat} {m a:Key->Option Nat} (h:jD w b n m) (e:∀ s,s.ok->m s=a s):jD w b n a:=by
 obtain ⟨D,g,f,d⟩:=h;exact ⟨D,g,f,fun s c=>by rw [<- e s c];exact d s c⟩
theorem jD.kept {w w':World} {b n:Nat} {m:Key->Option Nat} (h:jD w b n m) (a:w'.heap[b]? = w.heap[b]?):jD w' b n m:=by
 obtain ⟨D,⟨es,f,e,d⟩,c⟩:=h;exact ⟨D,⟨es,f,by rw [a];exact e,d⟩,c⟩
theorem jD.lt {w:World} {b n:Nat} {m:Key->Option Nat} (h:jD w b n m):b < w.heap.size:=by
 obtain ⟨D,⟨es,c,a,_⟩,_⟩:=h;exact (Array.getElem?_eq_some_iff.1 a).1
theorem jD.iw {w:World} {b n:Nat} {m:Key->Option Nat} (h:jD w b n m) {c:Array Value} {t:TypeId} {f:Nat × Nat}:w.heap[b]? ≠ some (.cells c t f):=by
 obtain ⟨D,⟨es,d,a,_⟩,_⟩:=h;rw [a];intro e;cases e
theorem jD.put {w w':World} {b n i:Nat} {m:Key->Option Nat} {k:Key} (l:k.ok) {D:DataW Unit} (d:IsMap D) (g:∀ s:Key,s.ok->Maps.has D (xx s)=(m s).isSome/\∀ i,m s=some i->D.atKey (xx s) (.lit (.int .i64 0))=.lit (.int .i64 (i:Nat)))
  (h:w'.ownsMap Tryz.prog 84 (plainElem Tryz.prog 3) b n (D.put (xx k) (.lit (.int .i64 (i:Nat))))):jD w' b n (fun s=>if s=k then some i else m s):=by
 refine ⟨_,h,d.put _ _,fun s a=>?_⟩
 by_cases e:s=k
 ·subst e;simp only [if_true];refine ⟨by rw [has_put_same d (F5 a)];rfl,fun j c=>?_⟩
  cases c
  exact atKey_put_same d (F5 a) _ _
 ·simp only [e,if_false];have f:xx s ≠ xx k:=fun h=>e (Qd a l h)
  rw [has_put_other f];refine ⟨(g s a).1,fun j c=>?_⟩
  rw [atKey_put_other f];exact (g s a).2 j c
theorem jD.update {w:World} {b n i:Nat} {m:Key->Option Nat} {k:Key} (h:jD w b n m) (c:k.ok) (g:n < maxLen) (hi:i <= 1099511627776):∃ w',(Instr.mapUpdate 130 (.map (some b)) (dD k) (.int .i64 (i:Nat))).run Tryz.prog w=.ok () w'/\
  w.grownBy w' (some b)/\jD w' b (n + 1) (fun s=>if s=k then some i else m s):=by
 obtain ⟨D,o,l,j⟩:=h;obtain ⟨w',f,e,d⟩:=o.update Tryz.DC Tryz.underlying130 g (pF c) (plainElem_int (H:=Unit) Tryz.underlying3 (a:=(i:Int)) (by simp [Lit.wf,IntKind.min,IntKind.max,IntKind.signed,IntKind.bits];omega))
 exact ⟨_,f,d,jD.put (w:=w) c l j e⟩
theorem jD.lookup {w:World} {b n:Nat} {m:Key->Option Nat} {k:Key} (h:jD w b n m) (g:k.ok):∃ c:Int,(∀ i,m k=some i->c=(i:Int))/\∀ w':World,w'.heap[b]? = w.heap[b]? -> (Instr.lookup 130 (.map (some b)) (dD k) true).run Tryz.prog w'=.ok (.tuple #[.int .i64 c,.bool (m k).isSome]) w':=by
 obtain ⟨D,y,F,q⟩:=h;have f:(Lit.int .i64 0).wf=true:=by decide
 have a:∀ w':World,w'.heap[b]? = w.heap[b]? -> ∃ c:Int,(Instr.lookup 130 (.map (some b)) (dD k) true).run Tryz.prog w'=.ok (.tuple #[.int .i64 c,.bool (m k).isSome]) w'/\D.atKey (xx k) (.lit (.int .i64 0))=.lit (.int .i64 c):=by
  intro w' j;have o:w'.ownsMap Tryz.prog 84 (plainElem Tryz.prog 3) b n D:=by
   obtain ⟨es,C,z,p⟩:=y;exact ⟨es,C,by rw [j];exact z,p⟩
  obtain ⟨v,E,d,r⟩:=o.look_ok Tryz.DC Tryz.underlying130 (Tryz.Sv w') (plainElem_int Tryz.underlying3 f) (pF g);obtain ⟨c,rfl,x,_⟩:=plainElem_int_inv Tryz.underlying3 r;exact ⟨c,by rw [d,(q k g).1],congrArg Prod.fst x⟩
 obtain ⟨c,_,l⟩:=a w rfl;refine ⟨c,fun i t=>?_,fun w' j=>?_⟩
 ·have p:=(q k g).2 i t;rw [p] at l;cases l;rfl
 ·obtain ⟨G,s,e⟩:=a w' j;rw [l] at e;cases e
  exact s
end
section
open Go Go.RowKit Go.Deep
section
structure dN where
 set:Key
 watched:Key
 times:Nat
def lV (e:dN):List Value:=[.int .u64 (e.set.1:Int),.int .u64 (e.set.2:Int),.int .u64 (e.watched.1:Int),.int .u64 (e.watched.2:Int),.int .i64 (e.times:Int)]
def jO (es:List dN):List Value:=es.flatMap lV
def fD (xs:List Nat):List Value:=xs.map fun (n:Nat)=>Value.int .i64 (n:Int)
def iV (cv:Value) (mb:Nat) (gone:Int) (u:Key) (wv:Nat->Value):Nat->Value
 | 0=>cv
 | 1=>.map (some mb)
 | 2=>.int .i64 gone
 | 3=>.int .u64 (u.1:Int)
 | 4=>.int .u64 (u.2:Int)
 | k + 5=>wv k
def look (es:List dN) (s:Key):Option Nat:=es.findIdx? (fun e=>decide (e.set=s))
theorem Nn (es:List dN) (i:Nat) (hi:i < es.length) (j:Nat) (c:j < 5):(jO es)[i * 5 + j]? = (lV es[i])[j]? := by
 induction es generalizing i with
 | nil=>simp at hi
 | cons a r ih=>
  have e:jO (a :: r)=lV a ++ jO r:=rfl;have b:(lV a).length=5:=rfl;rw [e]
  cases i with
  | zero=>rw [List.getElem?_append_left (by omega)];simp
  | succ i=>
   rw [List.getElem?_append_right (by omega),b,show (i + 1) * 5 + j - 5=i * 5 + j by omega]
   exact ih i (by simpa using hi)
theorem Ju (es:List dN) (e:dN):jO (es ++ [e])=jO es ++ lV e:=by unfold jO;rw [List.flatMap_append];simp
structure fA (B sb:Nat) (w:World) (cv:Value) (mb:Nat) (gone:Int) (u:Key) (wv:Nat->Value) (es:List dN) (wl:Nat->List Nat):Prop where
 row:w.rowIs sb 134 133 (iV cv mb gone u wv)
 cls:w.ownsRow B 180 5 cv es.length (jO es)
 map:jD w mb es.length (look es)
 mR:∀ k,k < 128->w.ownsRow B 3 1 (wv k) (wl k).length (fD (wl k))
 apart:∀ k k',k < 128->k' < 128->k ≠ k'->(wv k).ownBlock=none\/(wv k).ownBlock ≠ (wv k').ownBlock
 jg:B <= sb
 zO:B <= mb
variable {B sb mb:Nat} {w w':World} {cv:Value} {gone:Int} {u:Key} {wv:Nat->Value} {es:List dN} {wl:Nat->List Nat}
theorem fA.later (h:fA B sb w cv mb gone u wv es wl) (a:Below w.heap.size w w'):fA B sb w' cv mb gone u wv es wl where
 row:=h.row.of_block (a.block _ h.row.lt)
 cls:=yH h.cls a
 map:=h.map.kept (a.block _ h.map.lt)
 mR:=fun k b=>yH (h.mR k b) a
 apart:=h.apart
 jg:=h.jg
 zO:=h.zO
theorem fA.bsize (h:fA B sb w cv mb gone u wv es wl):B <= w.heap.size:=by have:=h.row.lt;have:=h.jg;omega
theorem fA.xz (h:fA B sb w cv mb gone u wv es wl) (i:Nat) (hi:i < es.length):∃ b a,cv=.slice (some ⟨b,0,none⟩) es.length a/\B <= b/\b < w.heap.size/\b ≠ sb/\es.length <= a/\∀ j,j < 5->w.cell? ⟨b,i * 5 + j,none⟩=(lV es[i])[j]? /\ w.frozen? ⟨b,i * 5 + j,none⟩=false:=by
 have d:=h.cls
 rcases h.cls.2 with ⟨_,q⟩ | ⟨g,a,p,e,f,n,l,_⟩
 ·omega
 ·refine ⟨g,a,e,f,(d.lt g (by rw [e];rfl)).2,?_,l,fun j m=>?_⟩
  ·intro o;obtain ⟨c,k,_⟩:=h.row;rw [<- o,n] at k;cases k
  ·rw [e] at d;refine ⟨?_,d.frozenAt _⟩;rw [d.cellAt (i * 5 + j) (by have:i + 1 <= es.length:=hi;have:=Nat.mul_le_mul_right 5 this;omega),Nn es i hi j m]
theorem fA.head (h:fA B sb w cv mb gone u wv es wl) (j:Nat) (a:j < 133):w.cell? ⟨sb,j,none⟩=some (iV cv mb gone u wv j)/\w.frozen? ⟨sb,j,none⟩=false:=⟨h.row.cell a,h.row.frozen j⟩
def fo (es:List dN) (i:Nat) (k:Key):List dN:=es.modify i (fun e=>{ e with watched:=k })
def iU (es:List dN) (i:Nat) (n:Nat):List dN:=es.modify i (fun e=>{ e with times:=n })
theorem qh (a:dN) (r:List dN):jO (a :: r)=lV a ++ jO r:=rfl
theorem GG (es:List dN) (i:Nat) (hi:i < es.length) (k:Key):jO (fo es i k)=((jO es).set (i * 5 + 2) (.int .u64 (k.1:Int))).set (i * 5 + 3) (.int .u64 (k.2:Int)):=by
 unfold fo
 induction es generalizing i with
 | nil=>simp at hi
 | cons a r ih=>
  cases i with
  | zero=>rfl
  | succ i=>
   have b:(lV a).length=5:=rfl;rw [List.modify_succ_cons,qh,qh,ih i (by simpa using hi),List.set_append_right _ _ (by rw [b];omega),List.set_append_right _ _ (by rw [b];omega),b]
   congr 2
   ·congr 1;omega
   ·omega
theorem GH (es:List dN) (i:Nat) (hi:i < es.length) (n:Nat):jO (iU es i n)=(jO es).set (i * 5 + 4) (.int .i64 (n:Int)):=by
 unfold iU
 induction es generalizing i with
 | nil=>simp at hi
 | cons a r ih=>
  cases i with
  | zero=>rfl
  | succ i=>
   have b:(lV a).length=5:=rfl;rw [List.modify_succ_cons,qh,qh,ih i (by simpa using hi),List.set_append_right _ _ (by rw [b];omega),b]
   congr 2
   omega
theorem ig (es:List dN) (i:Nat) (k:Key):(fo es i k).length=es.length:=by unfold fo;simp
theorem kV (es:List dN) (i:Nat) (n:Nat):(iU es i n).length=es.length:=by unfold iU;simp
theorem Ir (es:List dN) (i:Nat) (k:Key):(fo es i k).map dN.set=es.map dN.set:=by
 unfold fo;refine List.ext_getElem? fun j=>?_
 rw [List.getElem?_map,List.getElem?_map,List.getElem?_modify];split
 ·rename_i h;subst h;cases es[i]? <;> rfl
 ·simp
theorem Iu (es:List dN) (i:Nat) (n:Nat):(iU es i n).map dN.set=es.map dN.set:=by
 unfold iU;refine List.ext_getElem? fun j=>?_
 rw [List.getElem?_map,List.getElem?_map,List.getElem?_modify];split
 ·rename_i h;subst h;cases es[i]? <;> rfl
 ·simp
theorem MI {es b:List dN} (h:b.map dN.set=es.map dN.set) (s:Key):look b s=look es s:=by
 have a:∀ l:List dN,look l s=(l.map dN.set).findIdx? (fun k=>decide (k=s)):=fun l=>by
  unfold look;rw [List.findIdx?_map];rfl
 rw [a,a,h]
theorem fA.KH {t cap:Nat} {b:List dN} {ws:World} (h:fA B sb w cv mb gone u wv es wl) (p:cv=.slice (some ⟨t,0,none⟩) es.length cap) (f:b.length=es.length) (j:b.map dN.set=es.map dN.set)
  (m:ws.ownsRow B 180 5 cv es.length (jO b)) (a:∀ k,k ≠ t->ws.heap[k]? = w.heap[k]?):fA B sb ws cv mb gone u wv b wl:=by
 obtain ⟨d,l⟩:∃ d,w.heap[t]? = some (.cells d 180 (0,0)):=by
  rcases h.cls.2 with ⟨e,_⟩ | ⟨g,i,d,e,_,o,_⟩
  ·rw [p] at e;cases e
  ·rw [p] at e;cases e;exact ⟨d,o⟩
 have v:sb ≠ t:=fun e=>by
  obtain ⟨c,y,_⟩:=h.row;rw [e,l] at y;cases y
 have x:mb ≠ t:=fun e=>h.map.iw (by rw [e];exact l)
 exact {
  row:=h.row.of_block (a _ v)
  cls:=by rw [f];exact m
  map:=by rw [f];exact (h.map.kept (a _ x)).congr fun s _=>(MI j s).symm
  mR:=fun k z=>by
   have n:=h.mR k z;refine ⟨n.1,?_⟩
   rcases n.2 with e | ⟨g,i,q,e,A,o,r⟩
   ·exact .inl e
   ·refine .inr ⟨g,i,q,e,A,?_,r⟩;rw [a g (fun C=>by rw [C,l] at o;cases o)];exact o
  apart:=h.apart
  jg:=h.jg
  zO:=h.zO }
theorem fA.fE (h:fA B sb w cv mb gone u wv es wl) (g:Int):fA B sb (w.setCell ⟨sb,2,none⟩ (.int .i64 g)) cv mb g u wv es wl where
 row:=(h.row.set 2 _).congr fun i n=>by
  match i with
  | 0=>rfl
  | 1=>rfl
  | 2=>rfl
  | 3=>rfl
  | 4=>rfl
  | k + 5=>simp [iV]
 cls:=ownsRow_setCell_other h.cls (fun e=>by
  rcases h.cls.2 with ⟨b,_⟩ | ⟨m,d,j,b,_,f,_⟩
  ·rw [b] at e;cases e
  ·rw [b] at e;cases e
   obtain ⟨c,a,_⟩:=h.row;rw [f] at a;cases a) _
 map:=h.map.kept (Below.heap_setCell _ _ _ _ (fun e=>by
  obtain ⟨c,a,_⟩:=h.row;exact h.map.iw (by rw [e];exact a)))
 mR:=fun k l=>ownsRow_setCell_other (h.mR k l) (fun e=>by
  rcases (h.mR k l).2 with ⟨b,_⟩ | ⟨m,d,j,b,_,f,_⟩
  ·rw [b] at e;cases e
  ·rw [b] at e;cases e
   obtain ⟨c,a,_⟩:=h.row;rw [f] at a;cases a) _
 apart:=h.apart
 jg:=h.jg
 zO:=h.zO
theorem fA.iO (h:fA B sb w cv mb gone u wv es wl):mb ≠ sb/\(∀ g,cv.ownBlock=some g->g ≠ sb)/\∀ k,k < 128->∀ g,(wv k).ownBlock=some g->g ≠ sb:=by
 obtain ⟨c,i,_⟩:=h.row;refine ⟨fun e=>h.map.iw (by rw [e];exact i),fun g b e=>?_,fun k l g b e=>?_⟩
 ·rcases h.cls.2 with ⟨d,_⟩ | ⟨m,f,j,d,_,a,_⟩
  ·rw [d] at b;cases b
  ·rw [d] at b;cases b;simp only at e;rw [e,i] at a;cases a
 ·rcases (h.mR k l).2 with ⟨d,_⟩ | ⟨m,f,j,d,_,a,_⟩
  ·rw [d] at b;cases b
  ·rw [d] at b;cases b;simp only at e;rw [e,i] at a;cases a
theorem gy {w w':World} {B e size n:Nat} {v:Value} {c:List Value} (h:w.ownsRow B e size v n c) (d:∀ g,v.ownBlock=some g->w'.heap[g]? = w.heap[g]?):w'.ownsRow B e size v n c:=by
 refine ⟨h.1,?_⟩
 rcases h.2 with e | ⟨g,b,a,e,i,f,r⟩
 ·exact .inl e
 ·exact .inr ⟨g,b,a,e,i,by rw [d g (by rw [e];rfl)];exact f,r⟩
theorem fA.Xy {ws:World} {f:Int} {d:Key} (h:fA B sb w cv mb gone u wv es wl) (b:ws.rowIs sb 134 133 (iV cv mb f d wv)) (a:∀ k,k ≠ sb->ws.heap[k]? = w.heap[k]?):fA B sb ws cv mb f d wv es wl where
 row:=b
 cls:=gy h.cls fun g c=>a g (h.iO.2.1 g c)
 map:=h.map.kept (a _ h.iO.1)
 mR:=fun k e=>gy (h.mR k e) fun g c=>a g (h.iO.2.2 k e g c)
 apart:=h.apart
 jg:=h.jg
 zO:=h.zO
theorem fA.Kc {w6:World} {ob:Obj} {v':Value} {p at':Nat} (h:fA B sb w cv mb gone u wv es wl) (q:p < 128) (A:dB (w.alloc ob) B 3 1 (wv p) (wl p).length (fD (wl p)) 1 [.int .i64 (at':Int)] v' w6):
  fA B sb (w6.setCell ⟨sb,5 + p,none⟩ v') cv mb gone u (fun k=>if k=p then v' else wv k) es (fun k=>if k=p then wl p ++ [at'] else wl k):=by
 have d:=h.later (bR.alloc lr ob);have far:∀ k,k < (w.alloc ob).heap.size->some k ≠ (wv p).ownBlock->w6.heap[k]? = (w.alloc ob).heap[k]? := A.grew.block;have l:∀ g,(wv p).ownBlock=some g->∃ f,(w.alloc ob).heap[g]? = some (.cells f 3 (0,0)):=fun g b=>by
  rcases (d.mR p q).2 with ⟨c,_⟩ | ⟨G,C,f,c,_,j,_⟩
  ·rw [c] at b;cases b
  ·rw [c] at b;cases b;exact ⟨f,j⟩
 have s:w6.rowIs sb 134 133 (iV cv mb gone u wv):=d.row.of_block (far _ d.row.lt (fun e=>(d.iO.2.2 p q sb e.symm) rfl))
 have D:∀ g,v'.ownBlock=some g->g ≠ sb:=fun g b e=>by
  rcases A.at' with c | c
  ·rw [c] at b;exact d.iO.2.2 p q g b e
  ·rw [c] at b;cases b;have:=d.row.lt;omega
 have z:∀ g,cv.ownBlock=some g->some g ≠ (wv p).ownBlock:=fun g b e=>by
  obtain ⟨f,E⟩:=l g e.symm
  rcases d.cls.2 with ⟨c,_⟩ | ⟨G,C,F,c,_,j,_⟩
  ·rw [c] at b;cases b
  ·rw [c] at b;cases b;rw [E] at j;cases j
 have y:some mb ≠ (wv p).ownBlock:=fun e=>by
  obtain ⟨f,E⟩:=l mb e.symm;exact d.map.iw E
 exact {
  row:=(s.set (5 + p) _).congr fun i H=>by
   match i with
   | 0=>rw [if_neg (by omega)];rfl
   | 1=>rw [if_neg (by omega)];rfl
   | 2=>rw [if_neg (by omega)];rfl
   | 3=>rw [if_neg (by omega)];rfl
   | 4=>rw [if_neg (by omega)];rfl
   | k + 5=>
    by_cases e:k=p
    ·subst e;simp [iV,Nat.add_comm]
    ·have:¬ (k + 5=5 + p):=by omega
     simp [iV,this,e]
  cls:=ownsRow_setCell_other (gy d.cls fun g b=>far g (d.cls.lt g b).2 (z g b)) (fun e=>d.iO.2.1 sb e rfl) _
  map:=(d.map.kept (far _ d.map.lt y)).kept (Below.heap_setCell _ _ _ _ d.iO.1)
  mR:=fun k m=>by
   by_cases e:k=p
   ·subst e;simp only [if_true];have:=ownsRow_setCell_other A.own (a:=⟨sb,5 + k,none⟩) (fun e=>D sb e rfl) v'
    unfold fD at *
    rw [List.map_append,List.length_append];exact this
   ·simp only [e,if_false];refine ownsRow_setCell_other (gy (d.mR k m) fun g b=>far g ((d.mR k m).lt g b).2 (fun c=>?_)) (fun e=>d.iO.2.2 k m sb e rfl) _
    rcases h.apart k p m q e with o | o
    ·rw [o] at b;cases b
    ·exact o (by rw [b,c])
  apart:=fun k t m n v=>by
   by_cases e:k=p
   ·by_cases r:t=p
    ·exact absurd (by rw [e,r]) v
    ·simp only [e,r,if_true,if_false]
     rcases A.at' with c | c
     ·rw [c];exact h.apart p t q n (fun x=>r x.symm)
     ·right;rw [c];intro o
      have:=((d.mR t n).lt _ o.symm).2;omega
   ·by_cases r:t=p
    ·simp only [e,r,if_true,if_false]
     rcases A.at' with c | c
     ·rw [c];exact h.apart k p m q e
     ·cases b:(wv k).ownBlock with
      | none=>exact .inl rfl
      | some g=>
       right;rw [c];intro o
       have:=((d.mR k m).lt _ b).2;cases o;omega
    ·simp only [e,r,if_false];exact h.apart k t m n v
  jg:=h.jg
  zO:=h.zO }
theorem fA.setW {a cap i:Nat} (h:fA B sb w (.slice (some ⟨a,0,none⟩) es.length cap) mb gone u wv es wl) (hi:i < es.length) (k:Key):
  fA B sb ((w.setCell ⟨a,i * 5 + 2,none⟩ (.int .u64 (k.1:Int))).setCell ⟨a,i * 5 + 2 + 1,none⟩ (.int .u64 (k.2:Int))) (.slice (some ⟨a,0,none⟩) es.length cap) mb gone u wv (fo es i k) wl:=by
 refine h.KH rfl (ig es i k) (Ir es i k) ?_ (fun j b=>?_)
 ·rw [GG es i hi k];exact ((h.cls.stored (i * 5 + 2) _).1.stored (i * 5 + 3) _).1
 ·rw [Below.heap_setCell _ _ _ _ b,Below.heap_setCell _ _ _ _ b]
theorem fA.OJ {a cap i:Nat} (h:fA B sb w (.slice (some ⟨a,0,none⟩) es.length cap) mb gone u wv es wl) (hi:i < es.length) (n:Nat):
  fA B sb (w.setCell ⟨a,i * 5 + 4,none⟩ (.int .i64 (n:Int))) (.slice (some ⟨a,0,none⟩) es.length cap) mb gone u wv (iU es i n) wl:=by
 refine h.KH rfl (kV es i n) (Iu es i n) ?_ (fun j b=>?_)
 ·rw [GH es i hi n];exact (h.cls.stored (i * 5 + 4) _).1
 ·rw [Below.heap_setCell _ _ _ _ b]
theorem fA.jR {w6:World} {ob:Obj} {v':Value} {p at':Nat} (h:fA B sb w cv mb gone u wv es wl) (c:p < 128) (A:dB (w.alloc ob) B 3 1 (wv p) (wl p).length (fD (wl p)) 1 [.int .i64 (at':Int)] v' w6) (j:Nat) (d:j < 133):
  w6.cell? ⟨sb,j,none⟩=some (iV cv mb gone u wv j)/\w6.frozen? ⟨sb,j,none⟩=false:=by
 have b:=h.later (bR.alloc lr ob);have a:w6.rowIs sb 134 133 (iV cv mb gone u wv):=b.row.of_block (A.grew.block _ b.row.lt (fun e=>(b.iO.2.2 p c sb e.symm) rfl))
 exact ⟨a.cell d,a.frozen j⟩
theorem fA.nS {w0 w6:World} {ob:Obj} {v':Value} {p at':Nat} (h:fA B sb w cv mb gone u wv es wl) (a:p < 128) (A:dB (w.alloc ob) B 3 1 (wv p) (wl p).length (fD (wl p)) 1 [.int .i64 (at':Int)] v' w6) (c:Below B w0 w) (x:Value) (j:Nat):
  Below B w0 (w6.setCell ⟨sb,j,none⟩ x):=
 ((c.alloc h.bsize ob).grown A.grew (by have:=h.bsize;simp;omega) (fun k b=>((h.mR p a).lt k b).1)).setCell h.jg _
theorem MH (es:List dN) (e:dN) (h:look es e.set=none) (s:Key):look (es ++ [e]) s=if s=e.set then some es.length else look es s:=by
 unfold look at *
 rw [List.findIdx?_append];by_cases a:s=e.set
 ·subst a;rw [h,if_pos rfl];simp [List.findIdx?_cons]
 ·rw [if_neg a]
  cases b:es.findIdx? (fun x=>decide (x.set=s)) with
  | some i=>rfl
  | none=>
   have:¬ e.set=s:=fun x=>a x.symm
   simp [List.findIdx?_cons,this]
theorem fA.XB {p w6:World} {ob:Obj} {l:Value} {e:dN} (h:fA B sb w cv mb gone u wv es wl) (I:look es e.set=none) (v:w.grownBy p (some mb)) (z:jD p mb (es.length + 1) (fun s=>if s=e.set then some es.length else look es s))
  (A:dB (p.alloc ob) B 180 5 cv es.length (jO es) 1 (lV e) l w6):fA B sb (w6.setCell ⟨sb,0,none⟩ l) l mb gone u wv (es ++ [e]) wl:=by
 have H:=v.size;have K:∀ k,k < w.heap.size->k ≠ mb->(p.alloc ob).heap[k]? = w.heap[k]? := fun k m q=>by
  rw [Below.heap_alloc p ob k (by omega)];exact v.block k m (fun e=>q (Option.some.inj e))
 have D:=h.map.lt;have t:=h.row.lt;have x:∀ g,cv.ownBlock=some g->g < w.heap.size/\∃ b,w.heap[g]? = some (.cells b 180 (0,0)):=fun g d=>by
  refine ⟨(h.cls.lt g d).2,?_⟩
  rcases h.cls.2 with ⟨f,_⟩ | ⟨E,o,b,f,_,j,_⟩
  ·rw [f] at d;cases d
  ·rw [f] at d;cases d;exact ⟨b,j⟩
 have F:∀ k,k < w.heap.size->k ≠ mb->(∀ b,w.heap[k]? ≠ some (.cells b 180 (0,0)))->w6.heap[k]? = w.heap[k]? := fun k m q J=>by
  rw [A.grew.block k (by simp;omega) (fun e=>by obtain ⟨_,b,n⟩:=x k e.symm;exact J b n),K k m q]
 have r:w6.rowIs sb 134 133 (iV cv mb gone u wv):=h.row.of_block (F sb t (fun e=>h.iO.1 e.symm) (fun b n=>by obtain ⟨c,C,_⟩:=h.row;rw [n] at C;cases C))
 have G:w6.heap[mb]? = p.heap[mb]? := by
  rw [A.grew.block mb (by simp;omega) (fun e=>by obtain ⟨_,b,n⟩:=x mb e.symm;exact h.map.iw n),Below.heap_alloc p ob mb (by omega)]
 have y:∀ g,l.ownBlock=some g->g ≠ sb:=fun g d e=>by
  rcases A.at' with f | f
  ·rw [f] at d;exact h.iO.2.1 g d e
  ·rw [f] at d;cases d;simp at e;omega
 exact {
  row:=(r.set 0 _).congr fun i M=>by
   match i with
   | 0=>rfl
   | 1=>rfl
   | 2=>rfl
   | 3=>rfl
   | 4=>rfl
   | k + 5=>simp [iV]
  cls:=by
   have:=ownsRow_setCell_other A.own (a:=⟨sb,0,none⟩) (fun e=>y sb e rfl) l
   rw [List.length_append,Ju];exact this
  map:=by
   rw [List.length_append];refine ((z.kept G).kept (Below.heap_setCell _ _ _ _ h.iO.1)).congr fun s L=>?_
   exact (MH es e I s).symm
  mR:=fun k m=>by
   refine ownsRow_setCell_other (gy (h.mR k m) fun g d=>F g ((h.mR k m).lt g d).2 (fun e=>?_) (fun b n=>?_)) (fun e=>h.iO.2.2 k m sb e rfl) _
   ·rcases (h.mR k m).2 with ⟨f,_⟩ | ⟨E,o,b,f,_,j,_⟩
    ·rw [f] at d;cases d
    ·rw [f] at d;cases d;exact h.map.iw (by rw [<- e];exact j)
   ·rcases (h.mR k m).2 with ⟨f,_⟩ | ⟨E,o,b,f,_,j,_⟩
    ·rw [f] at d;cases d
    ·rw [f] at d;cases d;simp only at n;rw [n] at j;cases j
  apart:=h.apart
  jg:=h.jg
  zO:=h.zO }
theorem fA.Vh {c w6:World} {ob:Obj} {d:Value} {e:dN} (h:fA B sb w cv mb gone u wv es wl) (b:w.grownBy c (some mb))
  (A:dB (c.alloc ob) B 180 5 cv es.length (jO es) 1 (lV e) d w6):w6.cell? ⟨sb,0,none⟩=some cv/\w6.frozen? ⟨sb,0,none⟩=false:=by
 have f:=b.size;have a:=h.row.lt;have g:w6.heap[sb]? = w.heap[sb]? := by
  rw [A.grew.block sb (by simp;omega) (fun e=>h.iO.2.1 sb e.symm rfl),Below.heap_alloc c ob sb (by omega)]
  exact b.block sb a (fun e=>h.iO.1 (Option.some.inj e).symm)
 have:=h.row.of_block g;exact ⟨this.cell (by omega),this.frozen 0⟩
theorem fA.Wu {w0 d w6:World} {ob:Obj} {c:Value} {e:dN} (h:fA B sb w cv mb gone u wv es wl) (a:w.grownBy d (some mb))
  (A:dB (d.alloc ob) B 180 5 cv es.length (jO es) 1 (lV e) c w6) (f:Below B w0 w) (x:Value):Below B w0 (w6.setCell ⟨sb,0,none⟩ x):=by
 have g:=h.bsize;have i:=a.size;exact (((f.grown a g (fun k b=>by cases b;exact h.zO)).alloc (by omega) ob).grown A.grew (by simp;omega) (fun k b=>(h.cls.lt k b).1)).setCell h.jg _
def kR (w:World) (k:Nat):Prop:=∃ cur t,w.heap[k]? = some (.cells cur t (0,0))/\t ≠ 134/\t ≠ 180/\t ≠ 3
def dn (w w':World):Prop:=∀ k,kR w k->w'.heap[k]? = w.heap[k]?
theorem kR.lt {w:World} {k:Nat} (h:kR w k):k < w.heap.size:=by
 obtain ⟨c,t,e,_⟩:=h;exact (Array.getElem?_eq_some_iff.1 e).1
theorem dn.refl (w:World):dn w w:=fun _ _=>rfl
theorem dn.trans {a b c:World} (h:dn a b) (k:dn b c):dn a c:=fun n d=>by
 have e:=h n d;rw [k n (by obtain ⟨x,t,g,f⟩:=d;exact ⟨x,t,by rw [e];exact g,f⟩),e]
theorem dn.of_below {w w':World} (h:Below w.heap.size w w'):dn w w':=fun k a=>h.block k a.lt
theorem dn.cell {w w':World} (h:dn w w') {b j:Nat} (c:kR w b):w'.cell? ⟨b,j,none⟩=w.cell? ⟨b,j,none⟩:=World.cell?_of_block (a:=⟨b,j,none⟩) (h b c)
theorem dn.sJ {w w':World} (h:dn w w') {b:Nat} (a:kR w b):kR w' b:=by
 have e:=h b a;obtain ⟨x,t,d,c⟩:=a;exact ⟨x,t,by rw [e];exact d,c⟩
theorem fA.qY (h:fA B sb w cv mb gone u wv es wl) (j:Nat) (x:Value):dn w (w.setCell ⟨sb,j,none⟩ x):=fun k d=>Below.heap_setCell _ _ _ _ (fun e=>by
 obtain ⟨c,b,_⟩:=h.row;obtain ⟨y,t,a,f,_⟩:=d;rw [e,b] at a;cases a;exact f rfl)
theorem fA.qZ {d n cap:Nat} (h:fA B sb w (.slice (some ⟨d,0,none⟩) n cap) mb gone u wv es wl) (j:Nat) (x:Value):dn w (w.setCell ⟨d,j,none⟩ x):=fun k g=>Below.heap_setCell _ _ _ _ (fun e=>by
 obtain ⟨y,t,c,_,i,_⟩:=g
 rcases h.cls.2 with ⟨b,_⟩ | ⟨m,f,l,b,_,a,_⟩
 ·cases b
 ·cases b;rw [e,a] at c;cases c;exact i rfl)
theorem fA.Na {w6:World} {ob:Obj} {v':Value} {p at':Nat} (h:fA B sb w cv mb gone u wv es wl) (n:p < 128) (A:dB (w.alloc ob) B 3 1 (wv p) (wl p).length (fD (wl p)) 1 [.int .i64 (at':Int)] v' w6) (x:Value) (j:Nat):
  dn w (w6.setCell ⟨sb,j,none⟩ x):=fun k g=>by
 have f:=g.lt;obtain ⟨c,m,_⟩:=h.row;have d:k ≠ sb:=fun e=>by obtain ⟨y,t,b,a,_⟩:=g;rw [e,m] at b;cases b;exact a rfl
 rw [Below.heap_setCell _ _ _ _ d,A.grew.block k (by simp;omega) (fun e=>?_),Below.heap_alloc w ob k f]
 obtain ⟨y,t,b,_,_,o⟩:=g
 rcases (h.mR p n).2 with ⟨a,_⟩ | ⟨r,l,q,a,_,i,_⟩
 ·rw [a] at e;cases e
 ·rw [a] at e;cases e;rw [i] at b;cases b;exact o rfl
theorem fA.Wj {g w6:World} {ob:Obj} {n:Value} {e:dN} (h:fA B sb w cv mb gone u wv es wl) (b:w.grownBy g (some mb))
  (A:dB (g.alloc ob) B 180 5 cv es.length (jO es) 1 (lV e) n w6) (x:Value):dn w (w6.setCell ⟨sb,0,none⟩ x):=fun k f=>by
 have l:=f.lt;have p:=b.size;obtain ⟨c,q,_⟩:=h.row;have i:k ≠ sb:=fun e=>by obtain ⟨y,t,a,d,_⟩:=f;rw [e,q] at a;cases a;exact d rfl
 have j:k ≠ mb:=fun e=>by obtain ⟨y,t,a,_⟩:=f;rw [e] at a;exact h.map.iw a
 rw [Below.heap_setCell _ _ _ _ i,A.grew.block k (by simp;omega) (fun e=>?_),Below.heap_alloc g ob k (by omega),b.block k l (fun e=>j (Option.some.inj e))]
 obtain ⟨y,t,a,_,r,_⟩:=f
 rcases h.cls.2 with ⟨d,_⟩ | ⟨v,o,s,d,_,m,_⟩
 ·rw [d] at e;cases e
 ·rw [d] at e;cases e;rw [m] at a;cases a;exact r rfl
theorem rq (w:World) (c:Array Value) (t:TypeId) (h:t ≠ 134/\t ≠ 180/\t ≠ 3):kR (w.alloc (.cells c t)) w.heap.size:=⟨c,t,heap_alloc_new _ _,h⟩
theorem fA.vQ {a n cap:Nat} (h:fA B sb w (.slice (some ⟨a,0,none⟩) n cap) mb gone u wv es wl) (j i:Nat) (x y:Value):dn w ((w.setCell ⟨a,j,none⟩ x).setCell ⟨a,i,none⟩ y):=fun k l=>by
 have d:k ≠ a:=fun e=>by
  obtain ⟨y,t,f,_,m,_⟩:=l
  rcases h.cls.2 with ⟨c,_⟩ | ⟨p,g,o,c,_,b,_⟩
  ·cases c
  ·cases c;rw [e,b] at f;cases f;exact m rfl
 rw [Below.heap_setCell _ _ _ _ d,Below.heap_setCell _ _ _ _ d]
def iJ (cv cv':Value) (w w':World):Prop:=∀ k cur,w.heap[k]? = some (.cells cur 180 (0,0))->cv.ownBlock ≠ some k->w'.heap[k]? = w.heap[k]? /\ cv'.ownBlock ≠ some k
theorem iJ.trans {j i g:Value} {a b c:World} (h:iJ j i a b) (k:iJ i g b c):iJ j g a c:=fun n d e l=>by
 obtain ⟨f,p⟩:=h n d e l;obtain ⟨o,m⟩:=k n d (by rw [f];exact e) p
 exact ⟨o.trans f,m⟩
theorem iJ.of_below {cv:Value} {w w':World} (h:Below w.heap.size w w'):iJ cv cv w w':=fun k c b a=>⟨h.block k (Array.getElem?_eq_some_iff.1 b).1,a⟩
theorem fA.Nb {a n cap:Nat} (h:fA B sb w (.slice (some ⟨a,0,none⟩) n cap) mb gone u wv es wl) (j d:Nat) (x y:Value):iJ (.slice (some ⟨a,0,none⟩) n cap) (.slice (some ⟨a,0,none⟩) n cap) w ((w.setCell ⟨a,j,none⟩ x).setCell ⟨a,d,none⟩ y):=fun k f g c=>by
 have b:k ≠ a:=fun e=>c (by rw [e];rfl)
 rw [Below.heap_setCell _ _ _ _ b,Below.heap_setCell _ _ _ _ b];exact ⟨rfl,c⟩
theorem fA.Nc {w6:World} {ob:Obj} {v':Value} {p at':Nat} (h:fA B sb w cv mb gone u wv es wl) (n:p < 128) (A:dB (w.alloc ob) B 3 1 (wv p) (wl p).length (fD (wl p)) 1 [.int .i64 (at':Int)] v' w6) (x:Value) (j:Nat):
  iJ cv cv w (w6.setCell ⟨sb,j,none⟩ x):=fun k i a o=>by
 have d:=(Array.getElem?_eq_some_iff.1 a).1;obtain ⟨c,m,_⟩:=h.row;have b:k ≠ sb:=fun e=>by rw [e,m] at a;cases a
 refine ⟨?_,o⟩;rw [Below.heap_setCell _ _ _ _ b,A.grew.block k (by simp;omega) (fun e=>?_),Below.heap_alloc w ob k d]
 rcases (h.mR p n).2 with ⟨g,_⟩ | ⟨q,l,i,g,_,f,_⟩
 ·rw [g] at e;cases e
 ·rw [g] at e;cases e;rw [f] at a;cases a
theorem fA.Uw {f w6:World} {ob:Obj} {d:Value} {e:dN} (h:fA B sb w cv mb gone u wv es wl) (b:w.grownBy f (some mb))
  (A:dB (f.alloc ob) B 180 5 cv es.length (jO es) 1 (lV e) d w6) (x:Value):iJ cv d w (w6.setCell ⟨sb,0,none⟩ x):=fun k p a m=>by
 have j:=(Array.getElem?_eq_some_iff.1 a).1;have n:=b.size;obtain ⟨c,o,_⟩:=h.row;have g:k ≠ sb:=fun e=>by rw [e,o] at a;cases a
 have i:k ≠ mb:=fun e=>by rw [e] at a;exact h.map.iw a
 refine ⟨?_,fun e=>?_⟩
 ·rw [Below.heap_setCell _ _ _ _ g,A.grew.block k (by simp;omega) (fun e=>m (by first | exact e | exact e.symm)),Below.heap_alloc f ob k (by omega),b.block k j (fun e=>i (Option.some.inj e))]
 ·rcases A.at' with l | l
  ·rw [l] at e;exact m e
  ·rw [l] at e;have:=Option.some.inj e;simp at this;omega
end
end
end Rd
end Go.Proofs.YtceahffmenbibaaGreatDoor
