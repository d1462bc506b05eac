/- Tsem Srun. -/
import Derived.Test.YtceahffmenbibaaGreatDoorH00
import Derived.Test.YtceahffmenbibaaGreatDoorH26
set_option linter.unusedVariables false
set_option linter.unusedSimpArgs false
set_option maxHeartbeats 4000000
set_option maxRecDepth 100000
namespace Go.Proofs.YtceahffmenbibaaGreatDoor
namespace So
section
open Rd
section
def RY (t:Nat->Bool) (l:Int):Prop:=l ≠ 0/\t l.natAbs=decide (0 < l)
def Sat (t:Nat->Bool) (L:List Cl):Prop:=∀ c ∈ L,∃ l ∈ c,RY t l
variable {t:Nat->Bool} {L:List Cl} {c:Cl}
theorem NU (t:Nat->Bool):Cons (RY t):=fun l d e=>by
 have a:=d.2;have b:=e.2;rw [Int.natAbs_neg,a] at b;have:=d.1;have:=decide_eq_decide.1 b;omega
theorem Sz {l:Int} (f:l ≠ 0) (h:¬ RY t l):RY t (-l):=by
 refine ⟨by omega,?_⟩;rw [Int.natAbs_neg];have d:¬ t l.natAbs=decide (0 < l):=fun e=>h ⟨f,e⟩
 have e:decide (0 < -l)=!decide (0 < l):=by
  by_cases g:0 < l
  ·rw [decide_eq_true g,decide_eq_false (by omega)];rfl
  ·rw [decide_eq_false g,decide_eq_true (by omega)];rfl
 rw [e];generalize t l.natAbs=a at d ⊢;generalize decide (0 < l)=b at d ⊢;cases a <;> cases b <;> simp_all
theorem Sat.stable (h:Sat t L):Stable L (RY t):=fun c a=>.inl (h c a)
theorem De {c:Cl} {b x:Int}:x ∈ ve c b↔∃ l ∈ c,l ≠ b/\x=-l:=by
 unfold ve;rw [List.mem_map];constructor
 ·rintro ⟨l,e,rfl⟩;obtain ⟨d,a⟩:=List.mem_filter.1 e;exact ⟨l,d,by simpa using a,rfl⟩
 ·rintro ⟨l,d,a,rfl⟩;exact ⟨l,List.mem_filter.2 ⟨d,by simpa using a⟩,rfl⟩
theorem Cw (h:Sat t L) (d:jk L (ve c 0)):∃ l ∈ c,RY t l:=by
 refine Classical.byContradiction fun b=>?_
 refine d (RY t) (NU t) (fun x a=>?_) h.stable;obtain ⟨l,f,e,rfl⟩:=De.1 a;exact Sz e fun g=>b ⟨l,f,g⟩
theorem rJ:∀ {L:List Cl} {c:Cl} {L':List Cl},rem L c=some L'->∀ d ∈ L',d ∈ L
 | [],c,L',h,d,hd=>by simp [rem] at h
 | e :: r,c,L',h,d,hd=>by
  unfold rem at h;split at h
  ·cases h;exact List.mem_cons_of_mem _ hd
  ·cases a:rem r c with
   | none=>rw [a] at h;cases h
   | some M=>
    rw [a] at h;cases h
    rcases List.mem_cons.1 hd with rfl | hd
    ·exact List.mem_cons_self ..
    ·exact List.mem_cons_of_mem _ (rJ a d hd)
end
end
section
open Go Go.RowKit Go.Deep Rd
section
variable {Z:Nat->Prop} {sb ob hb kb n:Nat} {L0:List Cl} {N0:Nat} {brk:Bool} {w w':World} {s:St}
theorem PH {β:Type} (p:β->Prop) (f:β->Nat) (h:∃ b,p b):∃ m,(∃ b,p b/\f b=m)/\∀ b,p b->m <= f b:=by
 obtain ⟨b,hb⟩:=h;have:∀ k,∀ b,p b->f b <= k->∃ m,(∃ b,p b/\f b=m)/\∀ b,p b->m <= f b:=by
  intro k
  induction k with
  | zero=>intro b hb i;exact ⟨f b,⟨b,hb,rfl⟩,fun c _=>by omega⟩
  | succ k ih=>
   intro b hb i;by_cases e:∃ c,p c/\f c <= k
   ·obtain ⟨c,d,a⟩:=e;exact ih c d a
   ·refine ⟨f b,⟨b,hb,rfl⟩,fun c d=>?_⟩
    rcases Nat.lt_or_ge k (f c) with g | g
    ·omega
    ·exact absurd ⟨c,d,g⟩ e
 exact this (f b) b hb lr
theorem PK {α β:Type} (p:α->β->Prop) (f:β->Nat):∃ d:α->Nat,∀ a,(∃ b,p a b)->(∃ b,p a b/\f b=d a)/\∀ b,p a b->d a <= f b:=by
 have h:∀ a,∃ m,(∃ b,p a b)->(∃ b,p a b/\f b=m)/\∀ b,p a b->m <= f b:=fun a=>by
  by_cases e:∃ b,p a b
  ·obtain ⟨m,g⟩:=PH (p a) f e;exact ⟨m,fun _=>g⟩
  ·exact ⟨0,fun h=>absurd h e⟩
 exact ⟨fun a=>Classical.choose (h a),fun a=>Classical.choose_spec (h a)⟩
def Steps (Z:Nat->Prop) (sb ob hb kb n:Nat) (L0:List Cl) (N0:Nat) (Inv:St->Prop) (f:St->Nat) (mx:Nat):Prop:=
 ∀ brk w s,Main Z sb ob hb kb n L0 N0 brk w s->Ready s->Inv s->Calls Tryz.prog 57 #[.pointer (some ⟨sb,0,none⟩)] w fun e w'=>dB Z w w'/\((e=.returned (.tuple #[.int .i64 2,.nilIface])/\si Z kb n L0 mx w')\/(e=.returned (.tuple #[.int .i64 0,.nilIface])/\∃ s',Main Z sb ob hb kb n L0 N0 false w' s'/\Ready s'/\Inv s'/\f s' < f s) \/
  (e=.returned (.tuple #[.int .i64 1,.nilIface])/\∃ s',Main Z sb ob hb kb n L0 N0 false w' s'/\(∀ v,v < n->∃ x ∈ s'.tr,x / 2=v)/\s'.P=s'.tr.length/\s'.m <= mx))
def uN (L:List Cl) (vals:Nat->Bool):Prop:=Sat (fun v=>vals (v - 1)) L
theorem Mc {tr ch:List Nat} {lev:Nat->Nat} (f:jh n tr ch lev) (h:∀ c ∈ L0,∃ y ∈ tr,wr y ∈ c):uN L0 (fun v=>decide (0 < tv tr (2 * v))):=fun c i=>by
 obtain ⟨y,d,g⟩:=h c i;refine ⟨wr y,g,UX y,?_⟩;by_cases e:y % 2=0
 ·have a:wr y=((y / 2:Nat):Int) + 1:=by unfold wr;rw [if_pos e]
  have b:2 * ((wr y).natAbs - 1)=y:=by rw [a];omega
  show decide (0 < tv tr (2 * ((wr y).natAbs - 1)))=_
  rw [b,Ci.2 d,a];simp;omega
 ·have a:wr y=-(((y / 2:Nat):Int) + 1):=by unfold wr;rw [if_neg e]
  have b:2 * ((wr y).natAbs - 1)=op y:=by rw [a];unfold op;rw [if_neg e];omega
  show decide (0 < tv tr (2 * ((wr y).natAbs - 1)))=_
  rw [b,f.oZ.2 (by rw [ko];exact d),a];simp;omega
def zN (Z:Nat->Prop) (kb n:Nat) (L:List Cl) (mx:Nat) (w:World) (e:Ending) (w':World):Prop:=
 dB Z w w'/\((e=.returned (.tuple #[.slice none 0 0,.bool false,.nilIface])/\si Z kb n L mx w') \/
  ∃ g vals l,e=.returned (.tuple #[.slice (some ⟨g,0,none⟩) n n,.bool true,.nilIface])/\w.heap.size <= g/\w'.rowIs g 4 n (fun v=>.bool (vals v))/\uN L vals/\nR Z kb w' l/\l.length <= 250 * mx)
theorem D9 (h:Main Z sb ob hb kb n L0 N0 false w s) (p:n <= 50) (f:∀ v,v < n->∃ x ∈ s.tr,x / 2=v) (u:s.P=s.tr.length) (i:∀ c ∈ L0,∀ x ∈ c,lW n x) {mx:Nat} (y:s.m <= mx):
  Calls Tryz.prog 58 #[.pointer (some ⟨sb,0,none⟩)] w fun e w'=>∃ g a l,e=.returned (.slice (some ⟨g,0,none⟩) n n)/\w.heap.size <= g/\w'.rowIs g 4 n (fun v=>.bool (a v))/\uN L0 a/\nR Z kb w' l/\l.length <= 250 * mx/\dB Z w w':=by
 refine (Ik h.dI.duo.dF h.gB h.lam.n6 p).mono ?_;rintro e w' ⟨rfl,d,o⟩;have k:=h.dI.Og.Lj (Z':=Z) (fun g _ q=>h.dI.xJ h.dI.zk g q) h.dI.az;have b:=h.pi.vX;rw [u] at b;have:=h.Yc;exact ⟨_,_,_,rfl,lr,o,Mc h.pi.dI (h.DZ.met h.pi.dI h.pi.lZ b (h.zU rfl) f fun c r x j=>vG (i c r x j)),k.later d,by omega,dB.of_below d⟩
theorem Ti (S:n <= 50) (I:n <= 30) (w:World) (lv:Value) (L:List Cl) (hL:Nv Z w lv L) (E:∀ c ∈ L,∀ x ∈ c,lW n x) (z:∀ c ∈ L,c.length <= 20001) (hm:L.length <= 20001) (U:nR Z kb w []) (hN:zV L <= 1000000000000) (Inv:St->Prop) (f:St->Nat) (mx:Nat) (W:∀ s,s.k=0->s.m=0->s.r=1->s.lc=0->s.mo=100->s.ch.length <= n->Inv s) (V:∀ sb ob hb,Steps Z sb ob hb kb n L (zV L) Inv f mx):
  Calls Tryz.prog 31 #[.int .i64 (n:Nat),lv,.iface 105 (.pointer (some ⟨kb,0,none⟩))] w fun e w'=>zN Z kb n L mx w e w':=by
 have QN:=hide (Ae S I w lv L hL E z hm U hN);obtain ⟨la,lc,lb,rfl,-⟩:=hL;have HS:=hide V;have HI:=hide W;have HZ:=hide E;clear E z U V W;go_enter Tryz.func31,Tryz.ntmps31
 go_upto_region 2 with (go_at_call 56;(with_reducible refine QN.out.mono ?_);rintro J w1 ⟨sb,ob,hb,brk,s,rfl,q,a,o,a1,a2,a3,a4,a5⟩;have C1:=hide q;have M1:=hide a;have R1:=hide o;have I1:=hide (HI.out s a1 a2 a3 a4 a5 a.pi.dI.depth);clear q a o a1 a2 a3 a4 a5;simp only [])
 obtain ⟨D,p⟩:=PK (fun (wr:World) (x:Bool × St)=>Main Z sb ob hb kb n L (zV L) x.1 wr x.2/\Ready x.2/\Inv x.2/\dB Z w wr) (fun x=>f x.2);have d:=hide p;clear p QN;go_loopw [10,11] (fun _ _ wr=>Hid (∃ x:Bool × St,Main Z sb ob hb kb n L (zV L) x.1 wr x.2/\Ready x.2/\Inv x.2/\dB Z w wr)) (fun _ _ wr=>D wr)
 case atStart=>exact ⟨(brk,s),M1.out,R1.out,I1.out,C1.out⟩
 case round=>
  clear M1 R1 I1 C1;obtain ⟨⟨⟨b,s1⟩,⟨O,N,Q,h⟩,J⟩,-⟩:=d.out wr hrel.out;have QS:Hid (Calls Tryz.prog 57 #[.pointer (some ⟨sb,0,none⟩)] wr fun e w'=>(e=.returned (.tuple #[.int .i64 2,.nilIface])/\zN Z kb n L mx w (.returned (.tuple #[.slice none 0 0,.bool false,.nilIface])) w')\/(e=.returned (.tuple #[.int .i64 0,.nilIface])/\(∃ x:Bool × St,Main Z sb ob hb kb n L (zV L) x.1 w' x.2/\Ready x.2/\Inv x.2/\dB Z w w')/\D w' < D wr)\/(e=.returned (.tuple #[.int .i64 1,.nilIface])/\Calls Tryz.prog 58 #[.pointer (some ⟨sb,0,none⟩)] w' fun Y i=>∃ g,Y=.returned (.slice (some ⟨g,0,none⟩) n n)/\zN Z kb n L mx w (.returned (.tuple #[.slice (some ⟨g,0,none⟩) n n,.bool true,.nilIface])) i)):=by
   refine (HS.out sb ob hb b wr s1 O N Q).mono ?_
   rintro e w' ⟨v,⟨rfl,nv⟩ | ⟨rfl,C,y,M,P,lt⟩ | ⟨rfl,C,y,u,hP,G⟩⟩
   ·exact .inl ⟨rfl,h.trans v,.inl ⟨rfl,nv⟩⟩
   ·have R:∃ x:Bool × St,Main Z sb ob hb kb n L (zV L) x.1 w' x.2/\Ready x.2/\Inv x.2/\dB Z w w':=⟨(false,C),y,M,P,h.trans v⟩;refine .inr (.inl ⟨rfl,R,?_⟩);have:=(d.out w' R).2 (false,C) ⟨y,M,P,h.trans v⟩;rw [<- J];exact Nat.lt_of_le_of_lt this lt
   ·refine .inr (.inr ⟨rfl,(D9 y S u hP HZ.out G).mono ?_⟩);rintro Y i ⟨g,j,l,rfl,hg,hr,H,hs,z,c3⟩;have:=(h.trans v).size;exact ⟨g,rfl,(h.trans v).trans c3,.inr ⟨g,j,l,rfl,by omega,hr,H,hs,z⟩⟩
  clear O N Q h J hrel d HS
  go_upto_region 3 with (go_at_call 57;(with_reducible refine QS.out.mono ?_);rintro e2 w2 (⟨rfl,B⟩ | ⟨rfl,B,l2⟩ | ⟨rfl,B⟩) <;> (have K:=hide B;clear B;simp only []))
  ·go_wp2;go_ret3
   exact K.out
  ·go_wp2;go_roundw
   case rel=>exact K
   case measure=>exact l2
  ·go_wp2_with (go_at_call 58;(with_reducible refine K.out.mono ?_);rintro e3 w3 ⟨g,rfl,X⟩;have H3:=hide X;clear X;simp only [])
   go_ret3
   exact H3.out
end
end
end So
end Go.Proofs.YtceahffmenbibaaGreatDoor
