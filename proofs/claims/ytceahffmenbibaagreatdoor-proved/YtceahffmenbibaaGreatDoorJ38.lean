/- Tsem Srun. -/
import Derived.Test.YtceahffmenbibaaGreatDoorJ00
import Derived.Test.YtceahffmenbibaaGreatDoorJ37
set_option linter.unusedVariables false
set_option linter.unusedSimpArgs false
set_option maxHeartbeats 4000000
set_option maxRecDepth 100000
namespace Go.Proofs.YtceahffmenbibaaGreatDoor
namespace So
section
open Rd
section
def K4 (t:Nat->Bool) (l:Int):Prop:=l ≠ 0/\t l.natAbs=decide (0 < l)
def Sat (t:Nat->Bool) (L:List Cl):Prop:=∀ c ∈ L,∃ l ∈ c,K4 t l
def Nz (c:Cl):Prop:=∀ l ∈ c,l ≠ 0
variable {t:Nat->Bool} {L:List Cl} {c:Cl}
theorem Dy (t:Nat->Bool):Cons (K4 t):=fun l d e=>by
 have a:=d.2;have b:=e.2;rw [Int.natAbs_neg,a] at b;have:=d.1;have:=decide_eq_decide.1 b;omega
theorem Bz {l:Int} (f:l ≠ 0) (h:¬ K4 t l):K4 t (-l):=by
 refine ⟨by omega,?_⟩;rw [Int.natAbs_neg];have d:¬ t l.natAbs=decide (0 < l):=fun e=>h ⟨f,e⟩
 have e:decide (0 < -l)=!decide (0 < l):=by
  by_cases g:0 < l
  ·rw [decide_eq_true g,decide_eq_false (by omega)];rfl
  ·rw [decide_eq_false g,decide_eq_true (by omega)];rfl
 rw [e];generalize t l.natAbs=a at d ⊢;generalize decide (0 < l)=b at d ⊢;cases a <;> cases b <;> simp_all
theorem Sat.stable (h:Sat t L):Stable L (K4 t):=fun c a=>.inl (h c a)
theorem nN {c:Cl} {b x:Int}:x ∈ zB c b↔∃ l ∈ c,l ≠ b/\x=-l:=by
 unfold zB;rw [List.mem_map];constructor
 ·rintro ⟨l,e,rfl⟩;obtain ⟨d,a⟩:=List.mem_filter.1 e;exact ⟨l,d,by simpa using a,rfl⟩
 ·rintro ⟨l,d,a,rfl⟩;exact ⟨l,List.mem_filter.2 ⟨d,by simpa using a⟩,rfl⟩
theorem BL (h:Sat t L) (d:mq L (zB c 0)):∃ l ∈ c,K4 t l:=by
 refine Classical.byContradiction fun b=>?_
 refine d (K4 t) (Dy t) (fun x a=>?_) h.stable;obtain ⟨l,f,e,rfl⟩:=nN.1 a;exact Bz e fun g=>b ⟨l,f,g⟩
theorem Aj (h:Sat t L) (z:∀ d ∈ L,Nz d) (B:Nz c) (k:eH L c):∃ q,Sat q (L ++ [c]):=by
 by_cases o:∃ l ∈ c,K4 t l
 ·refine ⟨t,fun d hd=>?_⟩
  rcases List.mem_append.1 hd with hd | hd
  ·exact h d hd
  ·rw [List.mem_singleton.1 hd];exact o
 ·rcases k with k | ⟨l,r,e,k⟩
  ·exact absurd (BL h k) o
  ·subst e;have u:=B l (List.mem_cons_self ..);have b:K4 (fun v=>if v=l.natAbs then decide (0 < l) else t v) l:=⟨u,by simp⟩;have f:∀ x,x.natAbs ≠ l.natAbs->K4 t x->K4 (fun v=>if v=l.natAbs then decide (0 < l) else t v) x:=fun x a g=>⟨g.1,by simp only [if_neg a];exact g.2⟩
   refine ⟨fun v=>if v=l.natAbs then decide (0 < l) else t v,fun d hd=>?_⟩
   rcases List.mem_append.1 hd with hd | hd
   ·by_cases m:-l ∈ d
    ·have p:=k d hd m;have:∃ x ∈ d,x ≠ -l/\K4 t x:=by
      refine Classical.byContradiction fun A=>?_
      refine p (K4 t) (Dy t) (fun x a=>?_) h.stable
      rcases List.mem_append.1 a with a | a
      ·obtain ⟨y,i,j,rfl⟩:=nN.1 a;exact Bz j fun g=>o ⟨y,i,g⟩
      ·obtain ⟨y,i,j,rfl⟩:=nN.1 a;exact Bz (z d hd y i) fun g=>A ⟨y,i,j,g⟩
     obtain ⟨x,i,j,C⟩:=this;by_cases a:x.natAbs=l.natAbs
     ·have:x=l:=by omega
      subst this;exact ⟨x,i,b⟩
     ·exact ⟨x,i,f x a C⟩
    ·obtain ⟨x,i,j⟩:=h d hd;by_cases a:x.natAbs=l.natAbs
     ·have:x=l:=by
       rcases Int.natAbs_eq_natAbs_iff.1 a with e | e
       ·exact e
       ·exact absurd (e ▸ i) m
      subst this;exact ⟨x,i,b⟩
     ·exact ⟨x,i,f x a j⟩
   ·rw [List.mem_singleton.1 hd];exact ⟨l,List.mem_cons_self ..,b⟩
theorem nI:∀ {L:List Cl} {c:Cl} {L':List Cl},rem L c=some L'->∀ d ∈ L',d ∈ L
 | [],c,L',h,d,hd=>by simp [rem] at h
 | e :: r,c,L',h,d,hd=>by
  unfold rem at h;split at h
  ·cases h;exact List.mem_cons_of_mem _ hd
  ·cases a:rem r c with
   | none=>rw [a] at h;cases h
   | some M=>
    rw [a] at h;cases h
    rcases List.mem_cons.1 hd with rfl | hd
    ·exact List.mem_cons_self ..
    ·exact List.mem_cons_of_mem _ (nI a d hd)
theorem CV {v:Bs} (f:∀ p b c,iy v p=some (b,c)->Nz c):∀ (x:List Bs) (L:List Cl) (k m:Nat),(∀ d ∈ L,Nz d)->mg v L x k (m,0)->¬ ∃ t,Sat t L
 | [],L,k,m,hz,h,e=>by simp [mg] at h
 | p :: r,L,k,m,hz,h,e=>by
  obtain ⟨t,e⟩:=e;unfold mg at h;split at h
  ·split at h <;> simp at h
  ·split at h
   ·simp at h
   ·split at h
    ·simp at h
    ·rename_i c _ _ z j;exact CV f r z (k + 1) m (fun d hd=>hz d (nI j d hd)) h ⟨t,fun d hd=>e d (nI j d hd)⟩
   ·rename_i c g;have o:Nz c:=f p false c g;by_cases i:eH L c
    ·have q:=h.2 i;obtain ⟨u,a⟩:=Aj e hz o i;split at q
     ·rename_i y;obtain rfl:c=[]:=by simpa using y
      obtain ⟨l,g,_⟩:=a [] (by simp);cases g
     ·exact CV f r _ (k + 1) m (fun d hd=>by
       rcases List.mem_append.1 hd with hd | hd
       ·exact hz d hd
       ·rw [List.mem_singleton.1 hd];exact o) q ⟨u,a⟩
    ·have:=h.1 i;simp at this
end
end
section
open Go Go.RowKit Go.Deep Rd
section
variable {Z:Nat->Prop} {sb ob hb kb n:Nat} {L0:List Cl} {N0:Nat} {brk:Bool} {w w':World} {s:St}
theorem Nl {β:Type} (p:β->Prop) (f:β->Nat) (h:∃ b,p b):∃ m,(∃ b,p b/\f b=m)/\∀ b,p b->m <= f b:=by
 obtain ⟨b,hb⟩:=h;have:∀ k,∀ b,p b->f b <= k->∃ m,(∃ b,p b/\f b=m)/\∀ b,p b->m <= f b:=by
  intro k
  induction k with
  | zero=>intro b hb i;exact ⟨f b,⟨b,hb,rfl⟩,fun c _=>by omega⟩
  | succ k ih=>
   intro b hb i;by_cases e:∃ c,p c/\f c <= k
   ·obtain ⟨c,d,a⟩:=e;exact ih c d a
   ·refine ⟨f b,⟨b,hb,rfl⟩,fun c d=>?_⟩
    rcases Nat.lt_or_ge k (f c) with g | g
    ·omega
    ·exact absurd ⟨c,d,g⟩ e
 exact this (f b) b hb lr
theorem Nn {α β:Type} (p:α->β->Prop) (f:β->Nat):∃ d:α->Nat,∀ a,(∃ b,p a b)->(∃ b,p a b/\f b=d a)/\∀ b,p a b->d a <= f b:=by
 have h:∀ a,∃ m,(∃ b,p a b)->(∃ b,p a b/\f b=m)/\∀ b,p a b->m <= f b:=fun a=>by
  by_cases e:∃ b,p a b
  ·obtain ⟨m,g⟩:=Nl (p a) f e;exact ⟨m,fun _=>g⟩
  ·exact ⟨0,fun h=>absurd h e⟩
 exact ⟨fun a=>Classical.choose (h a),fun a=>Classical.choose_spec (h a)⟩
def Steps (Z:Nat->Prop) (sb ob hb kb n:Nat) (L0:List Cl) (N0:Nat) (Inv:St->Prop) (f:St->Nat) (mx:Nat):Prop:=
 ∀ brk w s,Main Z sb ob hb kb n L0 N0 brk w s->Ready s->Inv s->Calls Tryz.prog 57 #[.pointer (some ⟨sb,0,none⟩)] w fun e w'=>dD Z w w'/\((e=.returned (.tuple #[.int .i64 2,.nilIface])/\rP Z kb n L0 mx w')\/(e=.returned (.tuple #[.int .i64 0,.nilIface])/\∃ s',Main Z sb ob hb kb n L0 N0 false w' s'/\Ready s'/\Inv s'/\f s' < f s) \/
  (e=.returned (.tuple #[.int .i64 1,.nilIface])/\∃ s',Main Z sb ob hb kb n L0 N0 false w' s'/\(∀ v,v < n->∃ x ∈ s'.tr,x / 2=v)/\s'.P=s'.tr.length/\s'.m <= mx))
def si (L:List Cl) (vals:Nat->Bool):Prop:=Sat (fun v=>vals (v - 1)) L
theorem Ke {a k:List Nat} {lev:Nat->Nat} (g:jm n a k lev) (h:∀ c ∈ L0,∃ y ∈ a,wr y ∈ c):si L0 (fun v=>decide (0 < tv a (2 * v))):=fun c j=>by
 obtain ⟨y,f,i⟩:=h c j;refine ⟨wr y,i,RV y,?_⟩;by_cases e:y % 2=0
 ·have b:wr y=((y / 2:Nat):Int) + 1:=by unfold wr;rw [if_pos e]
  have d:2 * ((wr y).natAbs - 1)=y:=by rw [b];omega
  show decide (0 < tv a (2 * ((wr y).natAbs - 1)))=_
  rw [d,Bv.2 f,b];simp;omega
 ·have b:wr y=-(((y / 2:Nat):Int) + 1):=by unfold wr;rw [if_neg e]
  have d:2 * ((wr y).natAbs - 1)=op y:=by rw [b];unfold op;rw [if_neg e];omega
  show decide (0 < tv a (2 * ((wr y).natAbs - 1)))=_
  rw [d,g.oF.2 (by rw [jT];exact f),b];simp;omega
def y8 (Z:Nat->Prop) (kb n:Nat) (L:List Cl) (mx:Nat) (w:World) (e:Ending) (w':World):Prop:=
 dD Z w w'/\((e=.returned (.tuple #[.slice none 0 0,.bool false,.nilIface])/\rP Z kb n L mx w') \/
  ∃ g vals l,e=.returned (.tuple #[.slice (some ⟨g,0,none⟩) n n,.bool true,.nilIface])/\w.heap.size <= g/\w'.rowIs g 4 n (fun v=>.bool (vals v))/\si L vals/\nE Z kb w' l/\l.length <= 250 * mx)
theorem Dw (h:Main Z sb ob hb kb n L0 N0 false w s) (p:n <= 50) (f:∀ v,v < n->∃ x ∈ s.tr,x / 2=v) (u:s.P=s.tr.length) (i:∀ c ∈ L0,∀ x ∈ c,pW n x) {mx:Nat} (y:s.m <= mx):
  Calls Tryz.prog 58 #[.pointer (some ⟨sb,0,none⟩)] w fun e w'=>∃ g a l,e=.returned (.slice (some ⟨g,0,none⟩) n n)/\w.heap.size <= g/\w'.rowIs g 4 n (fun v=>.bool (a v))/\si L0 a/\nE Z kb w' l/\l.length <= 250 * mx/\dD Z w w':=by
 refine (Gs h.dN.duo.dM h.iD h.lam.n6 p).mono ?_;rintro e w' ⟨rfl,d,o⟩;have k:=h.dN.L6.JS (Z':=Z) (fun g _ q=>h.dN.wW h.dN.zk g q) h.dN.az;have b:=h.pi.zn;rw [u] at b;have:=h.Vh;exact ⟨_,_,_,rfl,lr,o,Ke h.pi.dN (h.Jd.met h.pi.dN h.pi.oC b (h.Dk rfl) f fun c r x j=>uW (i c r x j)),k.later d,by omega,dD.of_below d⟩
theorem PG (U:n <= 50) (J:n <= 30) (w:World) (E:Value) (L:List Cl) (hL:Lh Z w E L) (G:∀ c ∈ L,∀ x ∈ c,pW n x) (z:∀ c ∈ L,c.length <= 20001) (hm:L.length <= 20001) (V:nE Z kb w []) (hN:Aw L <= 1000000000000) (Inv:St->Prop) (f:St->Nat) (mx:Nat) (X:∀ s,s.k=0->s.m=0->s.r=1->s.lc=0->s.mo=100->s.ch.length <= n->Inv s) (W:∀ sb ob hb,Steps Z sb ob hb kb n L (Aw L) Inv f mx):
  Calls Tryz.prog 31 #[.int .i64 (n:Nat),E,.iface 105 (.pointer (some ⟨kb,0,none⟩))] w fun e w'=>y8 Z kb n L mx w e w':=by
 have QN:=hide (zC U J w E L hL G z hm V hN);obtain ⟨la,lc,lb,rfl,-⟩:=hL;have HS:=hide W;have HI:=hide X;have HZ:=hide G;clear G z V W X;go_enter Tryz.func31,Tryz.ntmps31
 go_upto_region 2 with (go_at_call 56;(with_reducible refine QN.out.mono ?_);rintro K w1 ⟨sb,ob,hb,brk,s,rfl,q,a,o,a1,a2,a3,a4,a5⟩;have C1:=hide q;have M1:=hide a;have R1:=hide o;have I1:=hide (HI.out s a1 a2 a3 a4 a5 a.pi.dN.depth);clear q a o a1 a2 a3 a4 a5;simp only [])
 obtain ⟨D,p⟩:=Nn (fun (wr:World) (x:Bool × St)=>Main Z sb ob hb kb n L (Aw L) x.1 wr x.2/\Ready x.2/\Inv x.2/\dD Z w wr) (fun x=>f x.2);have d:=hide p;clear p QN;go_loopw [10,11] (fun _ _ wr=>Hid (∃ x:Bool × St,Main Z sb ob hb kb n L (Aw L) x.1 wr x.2/\Ready x.2/\Inv x.2/\dD Z w wr)) (fun _ _ wr=>D wr)
 case atStart=>exact ⟨(brk,s),M1.out,R1.out,I1.out,C1.out⟩
 case round=>
  clear M1 R1 I1 C1;obtain ⟨⟨⟨b,s1⟩,⟨P,O,R,h⟩,K⟩,-⟩:=d.out wr hrel.out;have QS:Hid (Calls Tryz.prog 57 #[.pointer (some ⟨sb,0,none⟩)] wr fun e w'=>(e=.returned (.tuple #[.int .i64 2,.nilIface])/\y8 Z kb n L mx w (.returned (.tuple #[.slice none 0 0,.bool false,.nilIface])) w')\/(e=.returned (.tuple #[.int .i64 0,.nilIface])/\(∃ x:Bool × St,Main Z sb ob hb kb n L (Aw L) x.1 w' x.2/\Ready x.2/\Inv x.2/\dD Z w w')/\D w' < D wr)\/(e=.returned (.tuple #[.int .i64 1,.nilIface])/\Calls Tryz.prog 58 #[.pointer (some ⟨sb,0,none⟩)] w' fun e' i=>∃ g,e'=.returned (.slice (some ⟨g,0,none⟩) n n)/\y8 Z kb n L mx w (.returned (.tuple #[.slice (some ⟨g,0,none⟩) n n,.bool true,.nilIface])) i)):=by
   refine (HS.out sb ob hb b wr s1 P O R).mono ?_
   rintro e w' ⟨v,⟨rfl,nv⟩ | ⟨rfl,C,y,N,Q,lt⟩ | ⟨rfl,C,y,u,hP,H⟩⟩
   ·exact .inl ⟨rfl,h.trans v,.inl ⟨rfl,nv⟩⟩
   ·have S:∃ x:Bool × St,Main Z sb ob hb kb n L (Aw L) x.1 w' x.2/\Ready x.2/\Inv x.2/\dD Z w w':=⟨(false,C),y,N,Q,h.trans v⟩;refine .inr (.inl ⟨rfl,S,?_⟩);have:=(d.out w' S).2 (false,C) ⟨y,N,Q,h.trans v⟩;rw [<- K];exact Nat.lt_of_le_of_lt this lt
   ·refine .inr (.inr ⟨rfl,(Dw y U u hP HZ.out H).mono ?_⟩);rintro e' i ⟨g,j,l,rfl,hg,hr,I,hs,z,c3⟩;have:=(h.trans v).size;exact ⟨g,rfl,(h.trans v).trans c3,.inr ⟨g,j,l,rfl,by omega,hr,I,hs,z⟩⟩
  clear P O R h K hrel d HS
  go_upto_region 3 with (go_at_call 57;(with_reducible refine QS.out.mono ?_);rintro e2 w2 (⟨rfl,B⟩ | ⟨rfl,B,l2⟩ | ⟨rfl,B⟩) <;> (have M:=hide B;clear B;simp only []))
  ·go_wp2;go_ret3
   exact M.out
  ·go_wp2;go_roundw
   case rel=>exact M
   case measure=>exact l2
  ·go_wp2_with (go_at_call 58;(with_reducible refine M.out.mono ?_);rintro e3 w3 ⟨g,rfl,Y⟩;have H3:=hide Y;clear Y;simp only [])
   go_ret3
   exact H3.out
end
end
end So
end Go.Proofs.YtceahffmenbibaaGreatDoor
