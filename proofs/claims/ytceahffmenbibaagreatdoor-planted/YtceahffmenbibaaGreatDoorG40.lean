/- Tsem Srun. -/
import Derived.Test.YtceahffmenbibaaGreatDoorG00
import Derived.Test.YtceahffmenbibaaGreatDoorG39
set_option linter.unusedVariables false
set_option linter.unusedSimpArgs false
set_option maxHeartbeats 4000000
set_option maxRecDepth 100000
namespace Go.Proofs.YtceahffmenbibaaGreatDoor
namespace So
section
open Rd
def LJ (t:Nat->Bool) (l:Int):Prop:=l ≠ 0/\t l.natAbs=decide (0 < l)
def Sat (t:Nat->Bool) (L:List Cl):Prop:=∀ c ∈ L,∃ l ∈ c,LJ t l
def Nz (c:Cl):Prop:=∀ l ∈ c,l ≠ 0
variable {t:Nat->Bool} {L:List Cl} {c:Cl}
theorem Ck (t:Nat->Bool):Cons (LJ t):=fun l h1 h2=>by
 have a:=h1.2;have b:=h2.2;rw [Int.natAbs_neg,a] at b;have:=h1.1;have:=decide_eq_decide.1 b;omega
theorem Ae {l:Int} (h0:l ≠ 0) (h:¬ LJ t l):LJ t (-l):=by
 refine ⟨by omega,?_⟩
 rw [Int.natAbs_neg];have h1:¬ t l.natAbs=decide (0 < l):=fun e=>h ⟨h0,e⟩
 have e:decide (0 < -l)=!decide (0 < l):=by
  by_cases g:0 < l
  ·rw [decide_eq_true g,decide_eq_false (by omega)];rfl
  ·rw [decide_eq_false g,decide_eq_true (by omega)];rfl
 rw [e];generalize t l.natAbs=a at h1 ⊢;generalize decide (0 < l)=b at h1 ⊢;cases a <;> cases b <;> simp_all
theorem Sat.stable (h:Sat t L):Stable L (LJ t):=fun c hc=>.inl (h c hc)
theorem ry {c:Cl} {b x:Int}:x ∈ IE c b↔∃ l ∈ c,l ≠ b/\x=-l:=by
 unfold IE;rw [List.mem_map];constructor
 ·rintro ⟨l,hl,rfl⟩;obtain ⟨h1,h2⟩:=List.mem_filter.1 hl;exact ⟨l,h1,by simpa using h2,rfl⟩
 ·rintro ⟨l,h1,h2,rfl⟩;exact ⟨l,List.mem_filter.2 ⟨h1,by simpa using h2⟩,rfl⟩
theorem Sb (h:Sat t L) (hc:nJ L (IE c 0)):∃ l ∈ c,LJ t l:=by
 refine Classical.byContradiction fun hn=>?_
 refine hc (LJ t) (Ck t) (fun x hx=>?_) h.stable
 obtain ⟨l,h1,h2,rfl⟩:=ry.1 hx;exact Ae h2 fun g=>hn ⟨l,h1,g⟩
theorem sH (h:Sat t L) (hz:∀ d ∈ L,Nz d) (hc:Nz c) (hr:bH L c):∃ t',Sat t' (L ++ [c]):=by
 by_cases hm:∃ l ∈ c,LJ t l
 ·refine ⟨t,fun d hd=>?_⟩
  rcases List.mem_append.1 hd with hd | hd
  ·exact h d hd
  ·rw [List.mem_singleton.1 hd];exact hm
 ·rcases hr with hr | ⟨l,r,e,hr⟩
  ·exact absurd (Sb h hr) hm
  ·subst e;have l0:=hc l (List.mem_cons_self ..);have self:LJ (fun v=>if v=l.natAbs then decide (0 < l) else t v) l:=⟨l0,by simp⟩
   have other:∀ x,x.natAbs ≠ l.natAbs->LJ t x->LJ (fun v=>if v=l.natAbs then decide (0 < l) else t v) x:=fun x hx g=>⟨g.1,by simp only [if_neg hx];exact g.2⟩
   refine ⟨fun v=>if v=l.natAbs then decide (0 < l) else t v,fun d hd=>?_⟩
   rcases List.mem_append.1 hd with hd | hd
   ·by_cases Ua:-l ∈ d
    ·have hcf:=hr d hd Ua;have:∃ x ∈ d,x ≠ -l/\LJ t x:=by
      refine Classical.byContradiction fun hn=>?_
      refine hcf (LJ t) (Ck t) (fun x hx=>?_) h.stable
      rcases List.mem_append.1 hx with hx | hx
      ·obtain ⟨y,h1,h2,rfl⟩:=ry.1 hx;exact Ae h2 fun g=>hm ⟨y,h1,g⟩
      ·obtain ⟨y,h1,h2,rfl⟩:=ry.1 hx;exact Ae (hz d hd y h1) fun g=>hn ⟨y,h1,h2,g⟩
     obtain ⟨x,h1,h2,h3⟩:=this;by_cases hx:x.natAbs=l.natAbs
     ·have:x=l:=by omega
      subst this;exact ⟨x,h1,self⟩
     ·exact ⟨x,h1,other x hx h3⟩
    ·obtain ⟨x,h1,h2⟩:=h d hd;by_cases hx:x.natAbs=l.natAbs
     ·have:x=l:=by
       rcases Int.natAbs_eq_natAbs_iff.1 hx with e | e
       ·exact e
       ·exact absurd (e ▸ h1) Ua
      subst this;exact ⟨x,h1,self⟩
     ·exact ⟨x,h1,other x hx h2⟩
   ·rw [List.mem_singleton.1 hd];exact ⟨l,List.mem_cons_self ..,self⟩
theorem Au:∀ {L:List Cl} {c:Cl} {L':List Cl},rem L c=some L'->∀ d ∈ L',d ∈ L
 | [],c,L',h,d,hd=>by simp [rem] at h
 | e :: r,c,L',h,d,hd=>by
  unfold rem at h;split at h
  ·cases h;exact List.mem_cons_of_mem _ hd
  ·cases hr:rem r c with
   | none=>rw [hr] at h;cases h
   | some M=>
    rw [hr] at h;cases h
    rcases List.mem_cons.1 hd with rfl | hd
    ·exact List.mem_cons_self ..
    ·exact List.mem_cons_of_mem _ (Au hr d hd)
end
section
open Go Go.RowKit Go.Deep Rd
variable {Z:Nat->Prop} {sb ob hb kb n:Nat} {L0:List Cl} {N0:Nat} {brk:Bool} {w w':World} {s:St}
theorem Ol {β:Type} (p:β->Prop) (f:β->Nat) (h:∃ b,p b):∃ m,(∃ b,p b/\f b=m)/\∀ b,p b->m <= f b:=by
 obtain ⟨b,hb⟩:=h;have:∀ k,∀ b,p b->f b <= k->∃ m,(∃ b,p b/\f b=m)/\∀ b,p b->m <= f b:=by
  intro k
  induction k with
  | zero=>intro b hb hk;exact ⟨f b,⟨b,hb,rfl⟩,fun c _=>by omega⟩
  | succ k ih=>
   intro b hb hk;by_cases hx:∃ c,p c/\f c <= k
   ·obtain ⟨c,hc,hck⟩:=hx;exact ih c hc hck
   ·refine ⟨f b,⟨b,hb,rfl⟩,fun c hc=>?_⟩
    rcases Nat.lt_or_ge k (f c) with g | g
    ·omega
    ·exact absurd ⟨c,hc,g⟩ hx
 exact this (f b) b hb (Nat.le_refl _)
theorem Om {α β:Type} (p:α->β->Prop) (f:β->Nat):∃ ms:α->Nat,∀ a,(∃ b,p a b)->(∃ b,p a b/\f b=ms a)/\∀ b,p a b->ms a <= f b:=by
 have h:∀ a,∃ m,(∃ b,p a b)->(∃ b,p a b/\f b=m)/\∀ b,p a b->m <= f b:=fun a=>by
  by_cases hx:∃ b,p a b
  ·obtain ⟨m,h1⟩:=Ol (p a) f hx;exact ⟨m,fun _=>h1⟩
  ·exact ⟨0,fun h=>absurd h hx⟩
 exact ⟨fun a=>Classical.choose (h a),fun a=>Classical.choose_spec (h a)⟩
def Steps (Z:Nat->Prop) (sb ob hb kb n:Nat) (L0:List Cl) (N0:Nat) (Inv:St->Prop) (f:St->Nat) (mx:Nat):Prop:=
 ∀ brk w s,Main Z sb ob hb kb n L0 N0 brk w s->Ready s->Inv s->Calls Tryz.prog 57 #[.pointer (some ⟨sb,0,none⟩)] w fun e w'=>aC Z w w'/\((e=.returned (.tuple #[.int .i64 2,.nilIface])/\pJ Z kb n L0 mx w')\/(e=.returned (.tuple #[.int .i64 0,.nilIface])/\∃ s',Main Z sb ob hb kb n L0 N0 false w' s'/\Ready s'/\Inv s'/\f s' < f s) \/
  (e=.returned (.tuple #[.int .i64 1,.nilIface])/\∃ s',Main Z sb ob hb kb n L0 N0 false w' s'/\(∀ v,v < n->∃ x ∈ s'.tr,x / 2=v)/\s'.P=s'.tr.length/\s'.m <= mx))
def qc (L:List Cl) (vals:Nat->Bool):Prop:=Sat (fun v=>vals (v - 1)) L
theorem Kj {tr ch:List Nat} {lev:Nat->Nat} (ht:fM n tr ch lev) (h:∀ c ∈ L0,∃ y ∈ tr,wr y ∈ c):qc L0 (fun v=>decide (0 < tv tr (2 * v))):=fun c hc=>by
 obtain ⟨y,hy,hm⟩:=h c hc;refine ⟨wr y,hm,Mi y,?_⟩;by_cases e:y % 2=0
 ·have e1:wr y=((y / 2:Nat):Int) + 1:=by unfold wr;rw [if_pos e]
  have e2:2 * ((wr y).natAbs - 1)=y:=by rw [e1];omega
  show decide (0 < tv tr (2 * ((wr y).natAbs - 1)))=_
  rw [e2,Ac.2 hy,e1];simp;omega
 ·have e1:wr y=-(((y / 2:Nat):Int) + 1):=by unfold wr;rw [if_neg e]
  have e2:2 * ((wr y).natAbs - 1)=op y:=by rw [e1];unfold op;rw [if_neg e];omega
  show decide (0 < tv tr (2 * ((wr y).natAbs - 1)))=_
  rw [e2,ht.lJ.2 (by rw [gQ];exact hy),e1]
  simp;omega
def xR (Z:Nat->Prop) (kb n:Nat) (L:List Cl) (mx:Nat) (w:World) (e:Ending) (w':World):Prop:=
 aC Z w w'/\((e=.returned (.tuple #[.slice none 0 0,.bool false,.nilIface])/\pJ Z kb n L mx w') \/
  ∃ g vals l,e=.returned (.tuple #[.slice (some ⟨g,0,none⟩) n n,.bool true,.nilIface])/\w.heap.size <= g/\w'.rowIs g 4 n (fun v=>.bool (vals v))/\qc L vals/\ky Z kb w' l/\l.length <= 250 * mx)
theorem Ci (h:Main Z sb ob hb kb n L0 N0 false w s) (hn:n <= 50) (hall:∀ v,v < n->∃ x ∈ s.tr,x / 2=v) (hP:s.P=s.tr.length) (hz:∀ c ∈ L0,∀ x ∈ c,jo n x) {mx:Nat} (hm:s.m <= mx):
  Calls Tryz.prog 58 #[.pointer (some ⟨sb,0,none⟩)] w fun e w'=>∃ g vals l,e=.returned (.slice (some ⟨g,0,none⟩) n n)/\w.heap.size <= g/\w'.rowIs g 4 n (fun v=>.bool (vals v))/\qc L0 vals/\ky Z kb w' l/\l.length <= 250 * mx/\aC Z w w':=by
 refine (F6 h.aI.duo.aG h.dx h.lam.n6 hn).mono ?_;rintro e w' ⟨rfl,hb',hr⟩;have hs:=h.aI.MU.JU (Z':=Z) (fun g _ hg=>h.aI.vH h.aI.zk g hg) h.aI.az
 have Ze:=h.pi.uo;rw [hP] at Ze;have:=h.prf;exact ⟨_,_,_,rfl,Nat.le_refl _,hr,Kj h.pi.aI (h.Cc.met h.pi.aI h.pi.jc Ze (h.yf rfl) hall fun c hc x hx=>sQ (hz c hc x hx)),hs.later hb',by omega,aC.of_below hb'⟩
theorem Sd (hn:n <= 50) (Va:n <= 30) (w:World) (lv:Value) (L:List Cl) (hL:Mg Z w lv L) (hz:∀ c ∈ L,∀ x ∈ c,jo n x) (hl:∀ c ∈ L,c.length <= 20001) (hm:L.length <= 20001) (hk:ky Z kb w []) (hN:yw L <= 1000000000000) (Inv:St->Prop) (f:St->Nat) (mx:Nat) (hI:∀ s,s.k=0->s.m=0->s.r=1->s.lc=0->s.mo=100->s.ch.length <= n->Inv s) (hS:∀ sb ob hb,Steps Z sb ob hb kb n L (yw L) Inv f mx):
  Calls Tryz.prog 31 #[.int .i64 (n:Nat),lv,.iface 105 (.pointer (some ⟨kb,0,none⟩))] w fun e w'=>xR Z kb n L mx w e w':=by
 have QN:=hide (yx hn Va w lv L hL hz hl hm hk hN);obtain ⟨la,lc,lb,rfl,-⟩:=hL;have HS:=hide hS;have HI:=hide hI;have HZ:=hide hz;clear hz hl hk hS hI;go_enter Tryz.func31,Tryz.ntmps31
 go_upto_region 2 with (go_at_call 56;(with_reducible refine QN.out.mono ?_);rintro e1 w1 ⟨sb,ob,hb,brk,s,rfl,hc1,hm1,hr1,a1,a2,a3,a4,a5⟩;have C1:=hide hc1;have M1:=hide hm1;have R1:=hide hr1;have I1:=hide (HI.out s a1 a2 a3 a4 a5 hm1.pi.aI.depth);clear hc1 hm1 hr1 a1 a2 a3 a4 a5;simp only [])
 obtain ⟨ms,hms⟩:=Om (fun (wr:World) (x:Bool × St)=>Main Z sb ob hb kb n L (yw L) x.1 wr x.2/\Ready x.2/\Inv x.2/\aC Z w wr) (fun x=>f x.2)
 have HMS:=hide hms;clear hms QN;go_loopw [10,11] (fun _ _ wr=>Hid (∃ x:Bool × St,Main Z sb ob hb kb n L (yw L) x.1 wr x.2/\Ready x.2/\Inv x.2/\aC Z w wr)) (fun _ _ wr=>ms wr)
 case atStart=>exact ⟨(brk,s),M1.out,R1.out,I1.out,C1.out⟩
 case round=>
  clear M1 R1 I1 C1;obtain ⟨⟨⟨b,s1⟩,⟨m1,r1,i1,c1⟩,e1⟩,-⟩:=HMS.out wr hrel.out;have QS:Hid (Calls Tryz.prog 57 #[.pointer (some ⟨sb,0,none⟩)] wr fun e w'=>(e=.returned (.tuple #[.int .i64 2,.nilIface])/\xR Z kb n L mx w (.returned (.tuple #[.slice none 0 0,.bool false,.nilIface])) w')\/(e=.returned (.tuple #[.int .i64 0,.nilIface])/\(∃ x:Bool × St,Main Z sb ob hb kb n L (yw L) x.1 w' x.2/\Ready x.2/\Inv x.2/\aC Z w w')/\ms w' < ms wr)\/(e=.returned (.tuple #[.int .i64 1,.nilIface])/\Calls Tryz.prog 58 #[.pointer (some ⟨sb,0,none⟩)] w' fun e' w''=>∃ g,e'=.returned (.slice (some ⟨g,0,none⟩) n n)/\xR Z kb n L mx w (.returned (.tuple #[.slice (some ⟨g,0,none⟩) n n,.bool true,.nilIface])) w'')):=by
   refine (HS.out sb ob hb b wr s1 m1 r1 i1).mono ?_
   rintro e w' ⟨c2,⟨rfl,nv⟩ | ⟨rfl,s2,m2,r2,i2,lt⟩ | ⟨rfl,s2,m2,hall,hP,hmx⟩⟩
   ·exact .inl ⟨rfl,c1.trans c2,.inl ⟨rfl,nv⟩⟩
   ·have hx:∃ x:Bool × St,Main Z sb ob hb kb n L (yw L) x.1 w' x.2/\Ready x.2/\Inv x.2/\aC Z w w':=⟨(false,s2),m2,r2,i2,c1.trans c2⟩;refine .inr (.inl ⟨rfl,hx,?_⟩);have:=(HMS.out w' hx).2 (false,s2) ⟨m2,r2,i2,c1.trans c2⟩;rw [<- e1];exact Nat.lt_of_le_of_lt this lt
   ·refine .inr (.inr ⟨rfl,(Ci m2 hn hall hP HZ.out hmx).mono ?_⟩);rintro e' w'' ⟨g,vals,l,rfl,hg,hr,hmt,hs,hl,c3⟩;have:=(c1.trans c2).size;exact ⟨g,rfl,(c1.trans c2).trans c3,.inr ⟨g,vals,l,rfl,by omega,hr,hmt,hs,hl⟩⟩
  clear m1 r1 i1 c1 e1 hrel HMS HS
  go_upto_region 3 with (go_at_call 57;(with_reducible refine QS.out.mono ?_);rintro e2 w2 (⟨rfl,h2⟩ | ⟨rfl,h2,l2⟩ | ⟨rfl,h2⟩) <;> (have H2:=hide h2;clear h2;simp only []))
  ·go_wp2;go_ret3
   exact H2.out
  ·go_wp2;go_roundw
   case rel=>exact H2
   case measure=>exact l2
  ·go_wp2_with (go_at_call 58;(with_reducible refine H2.out.mono ?_);rintro e3 w3 ⟨g,rfl,h3⟩;have H3:=hide h3;clear h3;simp only [])
   go_ret3
   exact H3.out
end
end So
end Go.Proofs.YtceahffmenbibaaGreatDoor
