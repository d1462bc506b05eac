/- Slub Srlg Laid. -/
import Derived.Test.YtceahffmenbibaaGreatDoorH20
import Derived.Test.YtceahffmenbibaaGreatDoorH27
import Derived.Test.YtceahffmenbibaaGreatDoorH34
import Derived.Deep.DeepHandedRow
import Derived.Deep.DeepWitnessRowRef
set_option linter.unusedVariables false
set_option linter.unusedSimpArgs false
namespace Go.Proofs.YtceahffmenbibaaGreatDoor
namespace So
section
open Lb
theorem Dp {i:Nat} (b:1 <= i) (a:i < 2 ^ 64):Ia i (Lib.bitLen i):=Lib.bitLenAux_bounds 64 i a (by omega)
theorem yH {f i k:Nat} (c:1 <= i) (b:i < 2 ^ 64) (h:Ia i k) (e:i + 1=2 ^ k):lub (f + 1) i=2 ^ (k - 1):=by
 have a:=lh h (Dp c b);simp only [lub];rw [<- a,if_pos e]
theorem vo {f i k:Nat} (c:1 <= i) (b:i < 2 ^ 64) (h:Ia i k) (e:¬ i + 1=2 ^ k):lub (f + 1) i=lub f (i - (2 ^ (k - 1) - 1)):=by
 have a:=lh h (Dp c b);simp only [lub];rw [<- a,if_neg e]
theorem Ff:∀ (f g i:Nat),1 <= i->i < 2 ^ 64->i <= f->i <= g->lub f i=lub g i
 | 0,g,i,h1,h2,hf,hg=>by omega
 | f + 1,0,i,h1,h2,hf,hg=>by omega
 | f + 1,g + 1,i,h1,h2,hf,hg=>by
  have a:=Dp h1 h2;by_cases e:i + 1=2 ^ (Lib.bitLen i)
  ·rw [yH h1 h2 a e,yH h1 h2 a e]
  ·have b:=nW h1 a e;rw [vo h1 h2 a e,vo h1 h2 a e];exact Ff f g _ b.1 (by omega) (by omega) (by omega)
def IX (i:Nat):Nat:=lub i i
theorem uA {k:Nat} (h:1 <= k) (a:k < 64):IX (2 ^ k - 1)=2 ^ (k - 1):=by
 have p:=ku h;have c:1 <= 2 ^ (k - 1):=Nat.one_le_two_pow;have hb:2 ^ k < 2 ^ 64:=Nat.pow_lt_pow_right (by omega) a;unfold IX;obtain ⟨f,b⟩:∃ f,2 ^ k - 1=f + 1:=⟨2 ^ k - 2,by omega⟩;rw [b];exact yH (by omega) (by omega) ⟨h,by omega,by omega⟩ (by omega)
theorem IW {k j:Nat} (e:k < 63) (c:1 <= j) (g:j < 2 ^ k):IX (2 ^ k - 1 + j)=IX j:=by
 have hb:2 ^ (k + 1) <= 2 ^ 63:=Nat.pow_le_pow_right (by omega) (by omega);have p:2 ^ (k + 1)=2 * 2 ^ k:=by rw [Nat.pow_succ];omega
 have d:1 <= 2 ^ k:=Nat.one_le_two_pow;unfold IX;obtain ⟨f,a⟩:∃ f,2 ^ k - 1 + j=f + 1:=⟨2 ^ k - 2 + j,by omega⟩;have b:Ia (f + 1) (k + 1):=⟨by omega,by rw [Nat.add_sub_cancel];omega,by omega⟩;rw [a,vo (by omega) (by omega) b (by omega),Nat.add_sub_cancel,show f + 1 - (2 ^ k - 1)=j by omega];exact Ff _ _ _ c (by omega) (by omega) lr
def qy:Nat->Nat
 | 0=>0
 | m + 1=>qy m + IX (m + 1)
theorem Mj {a b:Nat} (h:a <= b):qy a <= qy b:=by
 induction b with
 | zero=>
  have:a=0:=by omega
  subst this;exact lr
 | succ b ih=>
  rcases Nat.eq_or_lt_of_le h with e | e
  ·subst e;exact lr
  ·have:=ih (by omega);simp only [qy];omega
theorem yI {k:Nat} (a:k < 63):∀ j,j < 2 ^ k->qy (2 ^ k - 1 + j)=qy (2 ^ k - 1) + qy j
 | 0,_=>rfl
 | j + 1,h=>by
  have b:=yI a j (by omega);have e:=IW a (j:=j + 1) (by omega) h;have c:2 ^ k - 1 + (j + 1)=(2 ^ k - 1 + j) + 1:=by omega
  rw [c] at e ⊢;simp only [qy];rw [b,e];omega
theorem Fg:∀ k,1 <= k->k < 63->qy (2 ^ k - 1)=k * 2 ^ (k - 1)
 | 0,h,_=>by omega
 | 1,_,_=>by
  have:=uA (k:=1) (by omega) (by omega);simpa [qy] using this
 | k + 2,_,hk=>by
  have b:=Fg (k + 1) (by omega) (by omega);have d:1 <= 2 ^ (k + 1):=Nat.one_le_two_pow;have p:2 ^ (k + 2)=2 * 2 ^ (k + 1):=by rw [Nat.pow_succ];omega
  have a:=yI (k:=k + 1) (by omega) (2 ^ (k + 1) - 1) (by omega);have e:=uA (k:=k + 2) (by omega) (by omega);have c:2 ^ (k + 2) - 1=(2 ^ (k + 1) - 1 + (2 ^ (k + 1) - 1)) + 1:=by omega
  have q:2 ^ (k + 1)=2 * 2 ^ k:=by rw [Nat.pow_succ];omega
  rw [c] at e ⊢;simp only [qy];rw [e,a,b,show k + 2 - 1=k + 1 by omega,show k + 1 - 1=k by omega,q];generalize 2 ^ k=m;rw [Nat.add_mul,Nat.add_mul];have:k * (2 * m)=2 * (k * m):=by rw [Nat.mul_left_comm]
  omega
end
section
open Go Go.RowKit Go.Deep Rd
section
variable {Z:Nat->Prop} {sb ob hb kb n:Nat} {L0:List Cl} {N0:Nat}
structure W9 (n B j:Nat) (s:St):Prop where
 r1:1 <= s.r
 r2:s.r <= 2 ^ (j + 1) - 1
 kc:s.k + s.ch.length <= 50 * Lb.lub s.r s.r + n
 ms:s.m <= 50 * qy (s.r - 1) + n * (s.r - 1) + s.k
 mo:s.mo <= 100 + 100 * s.m
theorem Pq (j:Nat) (f:j <= 24):qy (2 ^ (j + 1) - 2)=j * 2 ^ j:=by
 have a:=Fg (j + 1) (by omega) (by omega);have b:=uA (k:=j + 1) (by omega) (by omega);have d:1 <= 2 ^ j:=Nat.one_le_two_pow;have p:2 ^ (j + 1)=2 * 2 ^ j:=by rw [Nat.pow_succ];omega
 obtain ⟨q,c⟩:∃ q,2 ^ (j + 1) - 1=q + 1:=⟨2 ^ (j + 1) - 2,by omega⟩;rw [c] at a b;simp only [qy] at a;rw [b,Nat.add_sub_cancel] at a;rw [show 2 ^ (j + 1) - 2=q by omega];have e:(j + 1) * 2 ^ j=j * 2 ^ j + 2 ^ j:=by rw [Nat.add_mul,Nat.one_mul]
 omega
def uD (n B j:Nat):Nat:=50 * (j * 2 ^ j) + n * 2 ^ (j + 1) + B
theorem Xz {a:Bool} {w:World} {s:St} {B:Nat} (b:2 ^ n <= 2 * B) (h:Main Z sb ob hb kb n L0 N0 a w s):s.k < B:=by
 have d:=h.gM;have c:=CE n (bits s.tr.length s.ch);omega
theorem W9.m {s:St} {B j:Nat} (d:j <= 24) (h:W9 n B j s) (e:s.k < B):s.m + 1 <= uD n B j:=by
 have a:=h.ms;have b:qy (s.r - 1) <= qy (2 ^ (j + 1) - 2):=Mj (by have:=h.r2;omega);rw [Pq j d] at b;have c:n * (s.r - 1) <= n * 2 ^ (j + 1):=Nat.mul_le_mul_left _ (by have:=h.r2;have:1 <= 2 ^ j:=Nat.one_le_two_pow;omega);unfold uD;omega
theorem Ul {s:St} {B j:Nat} (d:j <= 24) (f:B <= 50 * 2 ^ j) (h:W9 n B j s) (c:s.k < B) (b:50 * Lb.lub s.r s.r <= s.k):s.r + 1 <= 2 ^ (j + 1) - 1:=by
 rcases Nat.lt_or_ge s.r (2 ^ (j + 1) - 1) with g | g
 ·exact g
 ·have e:s.r=2 ^ (j + 1) - 1:=by have:=h.r2;omega
  have a:=uA (k:=j + 1) (by omega) (by omega);rw [Nat.add_sub_cancel] at a;rw [<- e] at a;unfold IX at a;omega
theorem Er {B j:Nat} (hn:n <= 30) (o:0 < n) (D:j <= 24) (E:2 ^ n <= 2 * B) (p:B <= 50 * 2 ^ j) (hM:uD n B j <= 21900000000) (hN:N0 + 33 * uD n B j <= 1000000000000):Steps Z sb ob hb kb n L0 N0 (W9 n B j) (fun s=>(2 ^ (j + 1) - s.r) * (32 * (B + 2)) + 32 * (B - s.k) + (31 - s.tr.length)) (uD n B j):=by
 intro u w s h y d;have C:=Xz E h;have hm:=d.m D C;have A:=h.num;have z:2 ^ (j + 1) <= 2 ^ 25:=Nat.pow_le_pow_right (by omega) (by omega);have W:=d.r2;have V:=h.pi.dI.len;have fin:∀ e f,jS Z sb ob hb kb n L0 N0 w s e f->dB Z w f/\((e=.returned (.tuple #[.int .i64 2,.nilIface])/\si Z kb n L0 (uD n B j) f)\/(e=.returned (.tuple #[.int .i64 0,.nilIface])/\∃ a,Main Z sb ob hb kb n L0 N0 false f a/\Ready a/\W9 n B j a/\(2 ^ (j + 1) - a.r) * (32 * (B + 2)) + 32 * (B - a.k) + (31 - a.tr.length) < (2 ^ (j + 1) - s.r) * (32 * (B + 2)) + 32 * (B - s.k) + (31 - s.tr.length)) \/
  (e=.returned (.tuple #[.int .i64 1,.nilIface])/\∃ a,Main Z sb ob hb kb n L0 N0 false f a/\(∀ v,v < n->∃ x ∈ a.tr,x / 2=v)/\a.P=a.tr.length/\a.m <= uD n B j)):=by
  rintro e f ⟨c,⟨rfl,J,L,T,S,R,Q,a5⟩ | ⟨rfl,a,i,G,g⟩ | ⟨rfl,a,i,g1,g2,b⟩⟩
  ·exact ⟨c,.inl ⟨rfl,J,L,T,S,R,Q,by omega⟩⟩
  ·have K:=Xz E i;have U:=i.pi.dI.len;have cl:=i.pi.dI.depth;have I:=d.mo;have Y:=d.kc;have H:=d.ms;have X:=d.r1;refine ⟨c,.inr (.inl ⟨rfl,a,i,G,?_⟩)⟩
   rcases g with ⟨g1,g2,b,F,t,M⟩ | ⟨g1,g2,b,F,t⟩ | ⟨g1,g2,b,F,t,M⟩
   ·refine ⟨⟨by omega,by omega,?_,?_,by omega⟩,?_⟩
    ·rw [b,g1];omega
    ·rw [b,g1,g2];omega
    ·rw [b,g1];omega
   ·have q:=Ul D p d C t;refine ⟨⟨by omega,by omega,?_,?_,by omega⟩,?_⟩
    ·rw [g1,g2];omega
    ·rw [g1,g2,b];have O:qy (s.r + 1 - 1)=qy (s.r - 1) + Lb.lub s.r s.r:=by
      obtain ⟨q,l⟩:∃ q,s.r=q + 1:=⟨s.r - 1,by omega⟩;rw [l,Nat.add_sub_cancel,Nat.add_sub_cancel];rfl
     have N:n * (s.r + 1 - 1)=n * (s.r - 1) + n:=by
      obtain ⟨q,l⟩:∃ q,s.r=q + 1:=⟨s.r - 1,by omega⟩;rw [l,Nat.add_sub_cancel,Nat.add_sub_cancel,Nat.mul_succ]
     rw [O,N];omega
    ·rw [g1,g2];obtain ⟨q,l⟩:∃ q,2 ^ (j + 1) - s.r=q + 1:=⟨2 ^ (j + 1) - s.r - 1,by omega⟩;rw [show 2 ^ (j + 1) - (s.r + 1)=q by omega,l,Nat.add_mul,Nat.one_mul];omega
   ·refine ⟨⟨by omega,by omega,?_,?_,by omega⟩,?_⟩
    ·rw [b,g1];omega
    ·rw [b,g1,g2];exact H
    ·rw [b,g1];omega
  ·exact ⟨c,.inr (.inr ⟨rfl,a,i,g1,g2,by omega⟩)⟩
 cases u
 ·refine (Od h y (by omega) (by omega) (by omega) (by omega) (Gc (by omega) o) ?_).mono fin;intro a f1 f2 f3 f4 f5;have I:=d.mo;exact ⟨by omega,by omega,by omega⟩
 ·exact (Es h y (by omega) (by omega) (by omega)).mono fin
theorem Ba {B j:Nat} (d:n <= 30) (a:0 < n) (l:j <= 24) (p:2 ^ n <= 2 * B) (b:B <= 50 * 2 ^ j) (w:World) (lv:Value) (L:List Cl) (hL:Nv Z w lv L) (g:∀ c ∈ L,∀ x ∈ c,lW n x) (i:∀ c ∈ L,c.length <= 20001) (h:L.length <= 20001) (k:nR Z kb w []) (o:uD n B j <= 21900000000) (m:zV L + 33 * uD n B j <= 1000000000000):
  Calls Tryz.prog 31 #[.int .i64 (n:Nat),lv,.iface 105 (.pointer (some ⟨kb,0,none⟩))] w fun e f=>zN Z kb n L (uD n B j) w e f:=
 Ti (by omega) d w lv L hL g i h k (by omega) (W9 n B j) _ _ (fun s r q y v u t=>⟨by omega,by have:1 <= 2 ^ j:=Nat.one_le_two_pow;rw [Nat.pow_succ];omega,by rw [r];omega,by rw [q];omega,by omega⟩) (fun _ _ _=>Er d a l p b o m)
end
end
end So
end Go.Proofs.YtceahffmenbibaaGreatDoor
namespace Go.Proofs.YtceahffmenbibaaGreatDoor
open Go Go.ChangeShapes Go.WideShapes Go.ChangeAt Go.RowKit
theorem Tryz.own:ownKnob Tryz.prog.godebug=none:=by kernel_rfl
theorem Tryz.laidOut:laidOutB Tryz.prog=true:=by kernel_rfl
def Yp:ByteArray:={ data:=#[105,110,118,97,108,105,100,32,115,121,110,116,97,120] }
def Yu:ByteArray:={ data:=#[118,97,108,117,101,32,111,117,116,32,111,102,32,114,97,110,103,101] }
def putCells (h:Array Obj) (g:Nat) (cs:Array Value):Array Obj:=h.modify g fun
 | .cells _ t frozen=>.cells cs t frozen
 | o=>o
def intCells (k:IntKind) (l:List Int):Array Value:=(l.map fun z=>Value.int k z).toArray
def uf:List Int:=[0,1,28,2,29,14,24,3,30,22,20,15,25,17,4,8,31,27,13,23,21,19,16,7,26,12,18,6,11,5,10,9]
def tZ:List Int:=[0,1,56,2,57,49,28,3,61,58,42,50,38,29,17,4,62,47,59,36,45,43,51,22,53,39,33,30,24,18,12,5,63,55,48,27,60,41,37,16,46,35,44,21,52,32,23,11,54,26,40,15,34,20,31,10,25,14,19,9,13,8,7,6]
def wT:List Int:=[1,10,100,1000,10000,100000,1000000,10000000,100000000,1000000000,10000000000,100000000000,1000000000000,10000000000000,100000000000000,1000000000000000,10000000000000000,100000000000000000,1000000000000000000,10000000000000000000]
end Go.Proofs.YtceahffmenbibaaGreatDoor
