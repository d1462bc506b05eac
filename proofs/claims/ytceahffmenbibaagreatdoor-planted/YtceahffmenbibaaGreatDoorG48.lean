/- Slub Srlg. -/
import Derived.Test.YtceahffmenbibaaGreatDoorG31
import Derived.Test.YtceahffmenbibaaGreatDoorG40
import Derived.Test.YtceahffmenbibaaGreatDoorG47
set_option linter.unusedVariables false
set_option linter.unusedSimpArgs false
namespace Go.Proofs.YtceahffmenbibaaGreatDoor
namespace So
section
open Lb
theorem Bj {i:Nat} (h1:1 <= i) (h2:i < 2 ^ 64):FO i (Lib.bitLen i):=Lib.bitLenAux_bounds 64 i h2 (by omega)
theorem wI {f i k:Nat} (h1:1 <= i) (h2:i < 2 ^ 64) (h:FO i k) (e:i + 1=2 ^ k):lub (f + 1) i=2 ^ (k - 1):=by
 have hk:=iL h (Bj h1 h2);simp only [lub];rw [<- hk,if_pos e]
theorem sK {f i k:Nat} (h1:1 <= i) (h2:i < 2 ^ 64) (h:FO i k) (e:¬ i + 1=2 ^ k):lub (f + 1) i=lub f (i - (2 ^ (k - 1) - 1)):=by
 have hk:=iL h (Bj h1 h2);simp only [lub];rw [<- hk,if_neg e]
theorem Dx:∀ (f g i:Nat),1 <= i->i < 2 ^ 64->i <= f->i <= g->lub f i=lub g i
 | 0,g,i,h1,h2,hf,hg=>by omega
 | f + 1,0,i,h1,h2,hf,hg=>by omega
 | f + 1,g + 1,i,h1,h2,hf,hg=>by
  have hk:=Bj h1 h2;by_cases e:i + 1=2 ^ (Lib.bitLen i)
  ·rw [wI h1 h2 hk e,wI h1 h2 hk e]
  ·have b:=kF h1 hk e;rw [sK h1 h2 hk e,sK h1 h2 hk e];exact Dx f g _ b.1 (by omega) (by omega) (by omega)
def GI (i:Nat):Nat:=lub i i
theorem rz {k:Nat} (h:1 <= k) (hk:k < 64):GI (2 ^ k - 1)=2 ^ (k - 1):=by
 have p:=gY h;have hp:1 <= 2 ^ (k - 1):=Nat.one_le_two_pow;have hb:2 ^ k < 2 ^ 64:=Nat.pow_lt_pow_right (by omega) hk
 unfold GI;obtain ⟨f,hf⟩:∃ f,2 ^ k - 1=f + 1:=⟨2 ^ k - 2,by omega⟩
 rw [hf];exact wI (by omega) (by omega) ⟨h,by omega,by omega⟩ (by omega)
theorem GH {k j:Nat} (hk:k < 63) (h1:1 <= j) (h2:j < 2 ^ k):GI (2 ^ k - 1 + j)=GI j:=by
 have hb:2 ^ (k + 1) <= 2 ^ 63:=Nat.pow_le_pow_right (by omega) (by omega)
 have p:2 ^ (k + 1)=2 * 2 ^ k:=by rw [Nat.pow_succ];omega
 have hp:1 <= 2 ^ k:=Nat.one_le_two_pow;unfold GI;obtain ⟨f,hf⟩:∃ f,2 ^ k - 1 + j=f + 1:=⟨2 ^ k - 2 + j,by omega⟩
 have hK:FO (f + 1) (k + 1):=⟨by omega,by rw [Nat.add_sub_cancel];omega,by omega⟩
 rw [hf,sK (by omega) (by omega) hK (by omega),Nat.add_sub_cancel,show f + 1 - (2 ^ k - 1)=j by omega]
 exact Dx _ _ _ h1 (by omega) (by omega) (Nat.le_refl _)
def nD:Nat->Nat
 | 0=>0
 | m + 1=>nD m + GI (m + 1)
theorem Km {a b:Nat} (h:a <= b):nD a <= nD b:=by
 induction b with
 | zero=>
  have:a=0:=by omega
  subst this;exact Nat.le_refl _
 | succ b ih=>
  rcases Nat.eq_or_lt_of_le h with e | e
  ·subst e;exact Nat.le_refl _
  ·have:=ih (by omega);simp only [nD];omega
theorem wJ {k:Nat} (hk:k < 63):∀ j,j < 2 ^ k->nD (2 ^ k - 1 + j)=nD (2 ^ k - 1) + nD j
 | 0,_=>rfl
 | j + 1,h=>by
  have ih:=wJ hk j (by omega)
  have e:=GH hk (j:=j + 1) (by omega) h
  have e2:2 ^ k - 1 + (j + 1)=(2 ^ k - 1 + j) + 1:=by omega
  rw [e2] at e ⊢;simp only [nD];rw [ih,e];omega
theorem Dy:∀ k,1 <= k->k < 63->nD (2 ^ k - 1)=k * 2 ^ (k - 1)
 | 0,h,_=>by omega
 | 1,_,_=>by
  have:=rz (k:=1) (by omega) (by omega)
  simpa [nD] using this
 | k + 2,_,hk=>by
  have ih:=Dy (k + 1) (by omega) (by omega)
  have hp:1 <= 2 ^ (k + 1):=Nat.one_le_two_pow;have p:2 ^ (k + 2)=2 * 2 ^ (k + 1):=by rw [Nat.pow_succ];omega
  have a:=wJ (k:=k + 1) (by omega) (2 ^ (k + 1) - 1) (by omega)
  have e:=rz (k:=k + 2) (by omega) (by omega)
  have e1:2 ^ (k + 2) - 1=(2 ^ (k + 1) - 1 + (2 ^ (k + 1) - 1)) + 1:=by omega
  have q:2 ^ (k + 1)=2 * 2 ^ k:=by rw [Nat.pow_succ];omega
  rw [e1] at e ⊢;simp only [nD];rw [e,a,ih,show k + 2 - 1=k + 1 by omega,show k + 1 - 1=k by omega,q]
  generalize 2 ^ k=m;rw [Nat.add_mul,Nat.add_mul];have:k * (2 * m)=2 * (k * m):=by rw [Nat.mul_left_comm]
  omega
end
section
open Go Go.RowKit Go.Deep Rd
variable {Z:Nat->Prop} {sb ob hb kb n:Nat} {L0:List Cl} {N0:Nat}
structure Yi (n B j:Nat) (s:St):Prop where
 r1:1 <= s.r
 r2:s.r <= 2 ^ (j + 1) - 1
 kc:s.k + s.ch.length <= 50 * Lb.lub s.r s.r + n
 ms:s.m <= 50 * nD (s.r - 1) + n * (s.r - 1) + s.k
 mo:s.mo <= 100 + 100 * s.m
theorem Od (j:Nat) (hj:j <= 24):nD (2 ^ (j + 1) - 2)=j * 2 ^ j:=by
 have h1:=Dy (j + 1) (by omega) (by omega)
 have h2:=rz (k:=j + 1) (by omega) (by omega)
 have hp:1 <= 2 ^ j:=Nat.one_le_two_pow;have p:2 ^ (j + 1)=2 * 2 ^ j:=by rw [Nat.pow_succ];omega
 obtain ⟨q,hq⟩:∃ q,2 ^ (j + 1) - 1=q + 1:=⟨2 ^ (j + 1) - 2,by omega⟩
 rw [hq] at h1 h2;simp only [nD] at h1;rw [h2,Nat.add_sub_cancel] at h1;rw [show 2 ^ (j + 1) - 2=q by omega]
 have e:(j + 1) * 2 ^ j=j * 2 ^ j + 2 ^ j:=by rw [Nat.add_mul,Nat.one_mul]
 omega
def uO (n B j:Nat):Nat:=50 * (j * 2 ^ j) + n * 2 ^ (j + 1) + B
theorem Y0 {brk:Bool} {w:World} {s:St} {B:Nat} (hB:2 ^ n <= 2 * B) (h:Main Z sb ob hb kb n L0 N0 brk w s):s.k < B:=by
 have h1:=h.dI;have h2:=Aw n (bits s.tr.length s.ch);omega
theorem Yi.m {s:St} {B j:Nat} (hj:j <= 24) (h:Yi n B j s) (hk:s.k < B):s.m + 1 <= uO n B j:=by
 have a:=h.ms;have b:nD (s.r - 1) <= nD (2 ^ (j + 1) - 2):=Km (by have:=h.r2;omega)
 rw [Od j hj] at b;have c:n * (s.r - 1) <= n * 2 ^ (j + 1):=Nat.mul_le_mul_left _ (by have:=h.r2;have:1 <= 2 ^ j:=Nat.one_le_two_pow;omega)
 unfold uO;omega
theorem TJ {s:St} {B j:Nat} (hj:j <= 24) (hB:B <= 50 * 2 ^ j) (h:Yi n B j s) (hk:s.k < B) (hl:50 * Lb.lub s.r s.r <= s.k):s.r + 1 <= 2 ^ (j + 1) - 1:=by
 rcases Nat.lt_or_ge s.r (2 ^ (j + 1) - 1) with g | g
 ·exact g
 ·have e:s.r=2 ^ (j + 1) - 1:=by have:=h.r2;omega
  have e2:=rz (k:=j + 1) (by omega) (by omega)
  rw [Nat.add_sub_cancel] at e2;rw [<- e] at e2;unfold GI at e2;omega
theorem Ct {B j:Nat} (hn:n <= 30) (hn0:0 < n) (hj:j <= 24) (hB:2 ^ n <= 2 * B) (hB2:B <= 50 * 2 ^ j) (hM:uO n B j <= 21900000000) (hN:N0 + 33 * uO n B j <= 1000000000000):Steps Z sb ob hb kb n L0 N0 (Yi n B j) (fun s=>(2 ^ (j + 1) - s.r) * (32 * (B + 2)) + 32 * (B - s.k) + (31 - s.tr.length)) (uO n B j):=by
 intro brk w s h hr hs;have hk:=Y0 hB h;have hm:=hs.m hj hk;have OI:=h.num;have hp25:2 ^ (j + 1) <= 2 ^ 25:=Nat.pow_le_pow_right (by omega) (by omega)
 have r2:=hs.r2;have t1:=h.pi.aI.len;have fin:∀ e w',jA Z sb ob hb kb n L0 N0 w s e w'->aC Z w w'/\((e=.returned (.tuple #[.int .i64 2,.nilIface])/\pJ Z kb n L0 (uO n B j) w')\/(e=.returned (.tuple #[.int .i64 0,.nilIface])/\∃ s',Main Z sb ob hb kb n L0 N0 false w' s'/\Ready s'/\Yi n B j s'/\(2 ^ (j + 1) - s'.r) * (32 * (B + 2)) + 32 * (B - s'.k) + (31 - s'.tr.length) < (2 ^ (j + 1) - s.r) * (32 * (B + 2)) + 32 * (B - s.k) + (31 - s.tr.length)) \/
  (e=.returned (.tuple #[.int .i64 1,.nilIface])/\∃ s',Main Z sb ob hb kb n L0 N0 false w' s'/\(∀ v,v < n->∃ x ∈ s'.tr,x / 2=v)/\s'.P=s'.tr.length/\s'.m <= uO n B j)):=by
  rintro e w' ⟨c,⟨rfl,ls,L,a1,a2,a3,a4,a5⟩ | ⟨rfl,s',m',r',g⟩ | ⟨rfl,s',m',g1,g2,g3⟩⟩
  ·exact ⟨c,.inl ⟨rfl,ls,L,a1,a2,a3,a4,by omega⟩⟩
  ·have hk':=Y0 hB m';have t2:=m'.pi.aI.len;have cl:=m'.pi.aI.depth;have mo:=hs.mo;have kc:=hs.kc;have ms:=hs.ms;have r1:=hs.r1;refine ⟨c,.inr (.inl ⟨rfl,s',m',r',?_⟩)⟩
   rcases g with ⟨g1,g2,g3,g4,g5,g6⟩ | ⟨g1,g2,g3,g4,g5⟩ | ⟨g1,g2,g3,g4,g5,g6⟩
   ·refine ⟨⟨by omega,by omega,?_,?_,by omega⟩,?_⟩
    ·rw [g3,g1];omega
    ·rw [g3,g1,g2];omega
    ·rw [g3,g1];omega
   ·have q:=TJ hj hB2 hs hk g5;refine ⟨⟨by omega,by omega,?_,?_,by omega⟩,?_⟩
    ·rw [g1,g2];omega
    ·rw [g1,g2,g3];have e1:nD (s.r + 1 - 1)=nD (s.r - 1) + Lb.lub s.r s.r:=by
      obtain ⟨q,hq⟩:∃ q,s.r=q + 1:=⟨s.r - 1,by omega⟩
      rw [hq,Nat.add_sub_cancel,Nat.add_sub_cancel];rfl
     have e2:n * (s.r + 1 - 1)=n * (s.r - 1) + n:=by
      obtain ⟨q,hq⟩:∃ q,s.r=q + 1:=⟨s.r - 1,by omega⟩
      rw [hq,Nat.add_sub_cancel,Nat.add_sub_cancel,Nat.mul_succ]
     rw [e1,e2];omega
    ·rw [g1,g2];obtain ⟨q,hq⟩:∃ q,2 ^ (j + 1) - s.r=q + 1:=⟨2 ^ (j + 1) - s.r - 1,by omega⟩
     rw [show 2 ^ (j + 1) - (s.r + 1)=q by omega,hq,Nat.add_mul,Nat.one_mul]
     omega
   ·refine ⟨⟨by omega,by omega,?_,?_,by omega⟩,?_⟩
    ·rw [g3,g1];omega
    ·rw [g3,g1,g2];exact ms
    ·rw [g3,g1];omega
  ·exact ⟨c,.inr (.inr ⟨rfl,s',m',g1,g2,by omega⟩)⟩
 cases brk
 ·refine (MP h hr (by omega) (by omega) (by omega) (by omega) (Ej (by omega) hn0) ?_).mono fin
  intro s' f1 f2 f3 f4 f5;have mo:=hs.mo;exact ⟨by omega,by omega,by omega⟩
 ·exact (Cu h hr (by omega) (by omega) (by omega)).mono fin
theorem JO {B j:Nat} (hn:n <= 30) (hn0:0 < n) (hj:j <= 24) (hB:2 ^ n <= 2 * B) (hB2:B <= 50 * 2 ^ j) (w:World) (lv:Value) (L:List Cl) (hL:Mg Z w lv L) (hz:∀ c ∈ L,∀ x ∈ c,jo n x) (hl:∀ c ∈ L,c.length <= 20001) (hm:L.length <= 20001) (hk:ky Z kb w []) (hM:uO n B j <= 21900000000) (hN:yw L + 33 * uO n B j <= 1000000000000):
  Calls Tryz.prog 31 #[.int .i64 (n:Nat),lv,.iface 105 (.pointer (some ⟨kb,0,none⟩))] w fun e w'=>xR Z kb n L (uO n B j) w e w':=
 Sd (by omega) hn w lv L hL hz hl hm hk (by omega) (Yi n B j) _ _ (fun s h1 h2 h3 h4 h5 h6=>⟨by omega,by have:1 <= 2 ^ j:=Nat.one_le_two_pow;rw [Nat.pow_succ];omega,by rw [h1];omega,by rw [h2];omega,by omega⟩) (fun _ _ _=>Ct hn hn0 hj hB hB2 hM hN)
end
end So
end Go.Proofs.YtceahffmenbibaaGreatDoor
