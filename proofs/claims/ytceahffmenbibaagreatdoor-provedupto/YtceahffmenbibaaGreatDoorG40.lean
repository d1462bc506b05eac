/- Tsem Srun Stak Stk2 Ssol2 Kpck Knev. -/
import Derived.Test.YtceahffmenbibaaGreatDoorG00
import Derived.Test.YtceahffmenbibaaGreatDoorG39
import Derived.Test.YtceahffmenbibaaGreatDoorG29
import Derived.Lib.OthersKept
import Derived.Test.YtceahffmenbibaaGreatDoorG12
import Derived.Laws.ResultCell
import Derived.Test.YtceahffmenbibaaGreatDoorG13
set_option linter.unusedVariables false
set_option linter.unusedSimpArgs false
namespace Go.Proofs.YtceahffmenbibaaGreatDoor
namespace So
open Rd
def Tru (t:Nat→Bool) (l:Int):Prop:=l ≠ 0∧t l.natAbs=decide (0 < l)
def Sat (t:Nat→Bool) (L:List Cl):Prop:=∀ c ∈ L,∃ l ∈ c,Tru t l
def Nz (c:Cl):Prop:=∀ l ∈ c,l ≠ 0
variable {t:Nat→Bool} {L:List Cl} {c:Cl}
theorem tru_cons (t:Nat→Bool):Cons (Tru t):=fun l h1 h2=>by
 have a:=h1.2
 have b:=h2.2
 rw [Int.natAbs_neg,a] at b
 have:=h1.1
 have:=decide_eq_decide.1 b
 omega
theorem tru_neg {l:Int} (h0:l ≠ 0) (h:¬ Tru t l):Tru t (-l):=by
 refine ⟨by omega,?_⟩
 rw [Int.natAbs_neg]
 have h1:¬ t l.natAbs=decide (0 < l):=fun e=>h ⟨h0,e⟩
 have e:decide (0 < -l)=!decide (0 < l):=by
  by_cases g:0 < l
  ·rw [decide_eq_true g,decide_eq_false (by omega)];rfl
  ·rw [decide_eq_false g,decide_eq_true (by omega)];rfl
 rw [e]
 generalize t l.natAbs=a at h1 ⊢
 generalize decide (0 < l)=b at h1 ⊢
 cases a <;> cases b <;> simp_all
theorem Sat.stable (h:Sat t L):Stable L (Tru t):=fun c hc=>.inl (h c hc)
theorem mem_opp {c:Cl} {b x:Int}:x ∈ opp c b↔∃ l ∈ c,l ≠ b∧x=-l:=by
 unfold opp
 rw [List.mem_map]
 constructor
 ·rintro ⟨l,hl,rfl⟩
  obtain ⟨h1,h2⟩:=List.mem_filter.1 hl
  exact ⟨l,h1,by simpa using h2,rfl⟩
 ·rintro ⟨l,h1,h2,rfl⟩
  exact ⟨l,List.mem_filter.2 ⟨h1,by simpa using h2⟩,rfl⟩
theorem rup_sat (h:Sat t L) (hc:Conf L (opp c 0)):∃ l ∈ c,Tru t l:=by
 refine Classical.byContradiction fun hn=>?_
 refine hc (Tru t) (tru_cons t) (fun x hx=>?_) h.stable
 obtain ⟨l,h1,h2,rfl⟩:=mem_opp.1 hx
 exact tru_neg h2 fun g=>hn ⟨l,h1,g⟩
theorem right_sat (h:Sat t L) (hz:∀ d ∈ L,Nz d) (hc:Nz c) (hr:RightP L c):∃ t',Sat t' (L ++ [c]):=by
 by_cases hm:∃ l ∈ c,Tru t l
 ·refine ⟨t,fun d hd=>?_⟩
  rcases List.mem_append.1 hd with hd | hd
  ·exact h d hd
  ·rw [List.mem_singleton.1 hd];exact hm
 ·rcases hr with hr | ⟨l,r,e,hr⟩
  ·exact absurd (rup_sat h hr) hm
  ·subst e
   have l0:=hc l (List.mem_cons_self ..)
   have self:Tru (fun v=>if v=l.natAbs then decide (0 < l) else t v) l:=⟨l0,by simp⟩
   have other:∀ x,x.natAbs ≠ l.natAbs→Tru t x→Tru (fun v=>if v=l.natAbs then decide (0 < l) else t v) x:=fun x hx g=>⟨g.1,by simp only [if_neg hx];exact g.2⟩
   refine ⟨fun v=>if v=l.natAbs then decide (0 < l) else t v,fun d hd=>?_⟩
   rcases List.mem_append.1 hd with hd | hd
   ·by_cases hml:-l ∈ d
    ·have hcf:=hr d hd hml
     have:∃ x ∈ d,x ≠ -l∧Tru t x:=by
      refine Classical.byContradiction fun hn=>?_
      refine hcf (Tru t) (tru_cons t) (fun x hx=>?_) h.stable
      rcases List.mem_append.1 hx with hx | hx
      ·obtain ⟨y,h1,h2,rfl⟩:=mem_opp.1 hx
       exact tru_neg h2 fun g=>hm ⟨y,h1,g⟩
      ·obtain ⟨y,h1,h2,rfl⟩:=mem_opp.1 hx
       exact tru_neg (hz d hd y h1) fun g=>hn ⟨y,h1,h2,g⟩
     obtain ⟨x,h1,h2,h3⟩:=this
     by_cases hx:x.natAbs=l.natAbs
     ·have:x=l:=by omega
      subst this
      exact ⟨x,h1,self⟩
     ·exact ⟨x,h1,other x hx h3⟩
    ·obtain ⟨x,h1,h2⟩:=h d hd
     by_cases hx:x.natAbs=l.natAbs
     ·have:x=l:=by
       rcases Int.natAbs_eq_natAbs_iff.1 hx with e | e
       ·exact e
       ·exact absurd (e ▸ h1) hml
      subst this
      exact ⟨x,h1,self⟩
     ·exact ⟨x,h1,other x hx h2⟩
   ·rw [List.mem_singleton.1 hd]
    exact ⟨l,List.mem_cons_self ..,self⟩
theorem rem_sub:∀ {L:List Cl} {c:Cl} {L':List Cl},rem L c=some L'→∀ d ∈ L',d ∈ L
 | [],c,L',h,d,hd=>by simp [rem] at h
 | e :: r,c,L',h,d,hd=>by
  unfold rem at h
  split at h
  ·cases h;exact List.mem_cons_of_mem _ hd
  ·cases hr:rem r c with
   | none=>rw [hr] at h;cases h
   | some M=>
    rw [hr] at h
    cases h
    rcases List.mem_cons.1 hd with rfl | hd
    ·exact List.mem_cons_self ..
    ·exact List.mem_cons_of_mem _ (rem_sub hr d hd)
theorem chk_sat {v:Bs} (hv:∀ p b c,lineB v p=some (b,c)→Nz c):∀ (ps:List Bs) (L:List Cl) (k m:Nat),(∀ d ∈ L,Nz d)→chk v L ps k (m,0)→¬ ∃ t,Sat t L
 | [],L,k,m,hz,h,hs=>by simp [chk] at h
 | p :: r,L,k,m,hz,h,hs=>by
  obtain ⟨t,hs⟩:=hs
  unfold chk at h
  split at h
  ·split at h <;> simp at h
  ·split at h
   ·simp at h
   ·split at h
    ·simp at h
    ·rename_i c _ _ L' hr
     exact chk_sat hv r L' (k + 1) m (fun d hd=>hz d (rem_sub hr d hd)) h ⟨t,fun d hd=>hs d (rem_sub hr d hd)⟩
   ·rename_i c hl
    have hc:Nz c:=hv p false c hl
    by_cases hR:RightP L c
    ·have h2:=h.2 hR
     obtain ⟨t',hs'⟩:=right_sat hs hz hc hR
     split at h2
     ·rename_i he
      obtain rfl:c=[]:=by simpa using he
      obtain ⟨l,hl,_⟩:=hs' [] (by simp)
      cases hl
     ·exact chk_sat hv r _ (k + 1) m (fun d hd=>by
       rcases List.mem_append.1 hd with hd | hd
       ·exact hz d hd
       ·rw [List.mem_singleton.1 hd];exact hc) h2 ⟨t',hs'⟩
    ·have:=h.1 hR;simp at this
end So
end Go.Proofs.YtceahffmenbibaaGreatDoor
namespace Go.Proofs.YtceahffmenbibaaGreatDoor
namespace So
open Go Go.RowKit Go.Deep Rd
variable {Z:Nat→Prop} {sb ob hb kb n:Nat} {L0:List Cl} {N0:Nat} {brk:Bool} {w w':World} {s:St}
theorem least_of {β:Type} (p:β→Prop) (f:β→Nat) (h:∃ b,p b):∃ m,(∃ b,p b∧f b=m)∧∀ b,p b→m ≤ f b:=by
 obtain ⟨b,hb⟩:=h
 have:∀ k,∀ b,p b→f b ≤ k→∃ m,(∃ b,p b∧f b=m)∧∀ b,p b→m ≤ f b:=by
  intro k
  induction k with
  | zero=>intro b hb hk;exact ⟨f b,⟨b,hb,rfl⟩,fun c _=>by omega⟩
  | succ k ih=>
   intro b hb hk
   by_cases hx:∃ c,p c∧f c ≤ k
   ·obtain ⟨c,hc,hck⟩:=hx;exact ih c hc hck
   ·refine ⟨f b,⟨b,hb,rfl⟩,fun c hc=>?_⟩
    rcases Nat.lt_or_ge k (f c) with g | g
    ·omega
    ·exact absurd ⟨c,hc,g⟩ hx
 exact this (f b) b hb (Nat.le_refl _)
theorem least_fn {α β:Type} (p:α→β→Prop) (f:β→Nat):∃ ms:α→Nat,∀ a,(∃ b,p a b)→(∃ b,p a b∧f b=ms a)∧∀ b,p a b→ms a ≤ f b:=by
 have h:∀ a,∃ m,(∃ b,p a b)→(∃ b,p a b∧f b=m)∧∀ b,p a b→m ≤ f b:=fun a=>by
  by_cases hx:∃ b,p a b
  ·obtain ⟨m,h1⟩:=least_of (p a) f hx
   exact ⟨m,fun _=>h1⟩
  ·exact ⟨0,fun h=>absurd h hx⟩
 exact ⟨fun a=>Classical.choose (h a),fun a=>Classical.choose_spec (h a)⟩
def Steps (Z:Nat→Prop) (sb ob hb kb n:Nat) (L0:List Cl) (N0:Nat) (Inv:St→Prop) (f:St→Nat) (mx:Nat):Prop:=
 ∀ brk w s,Main Z sb ob hb kb n L0 N0 brk w s→Ready s→Inv s→Calls Tryz.prog 57 #[.pointer (some ⟨sb,0,none⟩)] w fun e w'=>Chg Z w w'∧((e=.returned (.tuple #[.int .i64 2,.nilIface])∧NeverAt Z kb n L0 mx w')∨(e=.returned (.tuple #[.int .i64 0,.nilIface])∧∃ s',Main Z sb ob hb kb n L0 N0 false w' s'∧Ready s'∧Inv s'∧f s' < f s) ∨
  (e=.returned (.tuple #[.int .i64 1,.nilIface])∧∃ s',Main Z sb ob hb kb n L0 N0 false w' s'∧(∀ v,v < n→∃ x ∈ s'.tr,x / 2=v)∧s'.P=s'.tr.length∧s'.m ≤ mx))
def MetBy (L:List Cl) (vals:Nat→Bool):Prop:=Sat (fun v=>vals (v - 1)) L
theorem met_of_tr {tr ch:List Nat} {lev:Nat→Nat} (ht:TrI n tr ch lev) (h:∀ c ∈ L0,∃ y ∈ tr,wr y ∈ c):MetBy L0 (fun v=>decide (0 < tv tr (2 * v))):=fun c hc=>by
 obtain ⟨y,hy,hm⟩:=h c hc
 refine ⟨wr y,hm,wr_ne y,?_⟩
 by_cases e:y % 2=0
 ·have e1:wr y=((y / 2:Nat):Int) + 1:=by unfold wr;rw [if_pos e]
  have e2:2 * ((wr y).natAbs - 1)=y:=by rw [e1];omega
  show decide (0 < tv tr (2 * ((wr y).natAbs - 1)))=_
  rw [e2,tv_true.2 hy,e1]
  simp;omega
 ·have e1:wr y=-(((y / 2:Nat):Int) + 1):=by unfold wr;rw [if_neg e]
  have e2:2 * ((wr y).natAbs - 1)=op y:=by rw [e1];unfold op;rw [if_neg e];omega
  show decide (0 < tv tr (2 * ((wr y).natAbs - 1)))=_
  rw [e2,ht.tv_false.2 (by rw [op_op];exact hy),e1]
  simp;omega
def RunRet (Z:Nat→Prop) (kb n:Nat) (L:List Cl) (mx:Nat) (w:World) (e:Ending) (w':World):Prop:=
 Chg Z w w'∧((e=.returned (.tuple #[.slice none 0 0,.bool false,.nilIface])∧NeverAt Z kb n L mx w') ∨
  ∃ g vals l,e=.returned (.tuple #[.slice (some ⟨g,0,none⟩) n n,.bool true,.nilIface])∧w.heap.size ≤ g∧w'.rowIs g 4 n (fun v=>.bool (vals v))∧MetBy L vals∧Snk Z kb w' l∧l.length ≤ 410 * mx)
theorem values_main (h:Main Z sb ob hb kb n L0 N0 false w s) (hn:n ≤ 50) (hall:∀ v,v < n→∃ x ∈ s.tr,x / 2=v) (hP:s.P=s.tr.length) (hz:∀ c ∈ L0,∀ x ∈ c,InV n x) {mx:Nat} (hm:s.m ≤ mx):
  Calls Tryz.prog 58 #[.pointer (some ⟨sb,0,none⟩)] w fun e w'=>∃ g vals l,e=.returned (.slice (some ⟨g,0,none⟩) n n)∧w.heap.size ≤ g∧w'.rowIs g 4 n (fun v=>.bool (vals v))∧MetBy L0 vals∧Snk Z kb w' l∧l.length ≤ 410 * mx∧Chg Z w w':=by
 refine (values_any h.tri.duo.sol h.trm h.lam.n6 hn).mono ?_
 rintro e w' ⟨rfl,hb',hr⟩
 have hs:=h.tri.snk.rez (Z':=Z) (fun g _ hg=>h.tri.zall h.tri.zk g hg) h.tri.az
 have hspi:=h.pi.spi
 rw [hP] at hspi
 have:=h.prf
 exact ⟨_,_,_,rfl,Nat.le_refl _,hr,met_of_tr h.pi.tri (h.giv.met h.pi.tri h.pi.cli hspi (h.uni rfl) hall fun c hc x hx=>inV_wr (hz c hc x hx)),hs.later hb',by omega,Chg.of_below hb'⟩
set_option maxHeartbeats 4000000 in
set_option maxRecDepth 100000 in
theorem run_any (hn:n ≤ 50) (w:World) (lv:Value) (L:List Cl) (hL:Lst Z w lv L) (hz:∀ c ∈ L,∀ x ∈ c,InV n x) (hl:∀ c ∈ L,c.length ≤ 20001) (hm:L.length ≤ 20001) (hk:Snk Z kb w []) (hN:nsN L ≤ 549755813888) (Inv:St→Prop) (f:St→Nat) (mx:Nat) (hI:∀ s,s.k=0→s.m=0→s.r=1→s.lc=0→s.mo=100→Inv s) (hS:∀ sb ob hb,Steps Z sb ob hb kb n L (nsN L) Inv f mx):
  Calls Tryz.prog 31 #[.int .i64 (n:Nat),lv,.iface 105 (.pointer (some ⟨kb,0,none⟩))] w fun e w'=>RunRet Z kb n L mx w e w':=by
 have QN:=hide (newSolver_any hn w lv L hL hz hl hm hk hN)
 obtain ⟨la,lc,lb,rfl,-⟩:=hL
 have HS:=hide hS
 have HI:=hide hI
 have HZ:=hide hz
 clear hz hl hk hS hI
 go_enter Tryz.func31,Tryz.ntmps31
 go_upto_region 2 with (go_at_call 56;(with_reducible refine (unhide QN).mono ?_);rintro e1 w1 ⟨sb,ob,hb,brk,s,rfl,hc1,hm1,hr1,a1,a2,a3,a4,a5⟩;have C1:=hide hc1;have M1:=hide hm1;have R1:=hide hr1;have I1:=hide (unhide HI s a1 a2 a3 a4 a5);clear hc1 hm1 hr1 a1 a2 a3 a4 a5;simp only [])
 obtain ⟨ms,hms⟩:=least_fn (fun (wr:World) (x:Bool × St)=>Main Z sb ob hb kb n L (nsN L) x.1 wr x.2∧Ready x.2∧Inv x.2∧Chg Z w wr) (fun x=>f x.2)
 have HMS:=hide hms
 clear hms QN
 go_loopw [10,11] (fun _ _ wr=>Hid (∃ x:Bool × St,Main Z sb ob hb kb n L (nsN L) x.1 wr x.2∧Ready x.2∧Inv x.2∧Chg Z w wr)) (fun _ _ wr=>ms wr)
 case atStart=>exact ⟨(brk,s),unhide M1,unhide R1,unhide I1,unhide C1⟩
 case round=>
  clear M1 R1 I1 C1
  obtain ⟨⟨⟨b,s1⟩,⟨m1,r1,i1,c1⟩,e1⟩,-⟩:=unhide HMS wr (unhide hrel)
  have QS:Hid (Calls Tryz.prog 57 #[.pointer (some ⟨sb,0,none⟩)] wr fun e w'=>(e=.returned (.tuple #[.int .i64 2,.nilIface])∧RunRet Z kb n L mx w (.returned (.tuple #[.slice none 0 0,.bool false,.nilIface])) w')∨(e=.returned (.tuple #[.int .i64 0,.nilIface])∧(∃ x:Bool × St,Main Z sb ob hb kb n L (nsN L) x.1 w' x.2∧Ready x.2∧Inv x.2∧Chg Z w w')∧ms w' < ms wr)∨(e=.returned (.tuple #[.int .i64 1,.nilIface])∧Calls Tryz.prog 58 #[.pointer (some ⟨sb,0,none⟩)] w' fun e' w''=>∃ g,e'=.returned (.slice (some ⟨g,0,none⟩) n n)∧RunRet Z kb n L mx w (.returned (.tuple #[.slice (some ⟨g,0,none⟩) n n,.bool true,.nilIface])) w'')):=by
   refine (unhide HS sb ob hb b wr s1 m1 r1 i1).mono ?_
   rintro e w' ⟨c2,⟨rfl,nv⟩ | ⟨rfl,s2,m2,r2,i2,lt⟩ | ⟨rfl,s2,m2,hall,hP,hmx⟩⟩
   ·exact .inl ⟨rfl,c1.trans c2,.inl ⟨rfl,nv⟩⟩
   ·have hx:∃ x:Bool × St,Main Z sb ob hb kb n L (nsN L) x.1 w' x.2∧Ready x.2∧Inv x.2∧Chg Z w w':=⟨(false,s2),m2,r2,i2,c1.trans c2⟩
    refine .inr (.inl ⟨rfl,hx,?_⟩)
    have:=(unhide HMS w' hx).2 (false,s2) ⟨m2,r2,i2,c1.trans c2⟩
    rw [← e1]
    exact Nat.lt_of_le_of_lt this lt
   ·refine .inr (.inr ⟨rfl,(values_main m2 hn hall hP (unhide HZ) hmx).mono ?_⟩)
    rintro e' w'' ⟨g,vals,l,rfl,hg,hr,hmt,hs,hl,c3⟩
    have:=(c1.trans c2).size
    exact ⟨g,rfl,(c1.trans c2).trans c3,.inr ⟨g,vals,l,rfl,by omega,hr,hmt,hs,hl⟩⟩
  clear m1 r1 i1 c1 e1 hrel HMS HS
  go_upto_region 3 with (go_at_call 57;(with_reducible refine (unhide QS).mono ?_);rintro e2 w2 (⟨rfl,h2⟩ | ⟨rfl,h2,l2⟩ | ⟨rfl,h2⟩) <;> (have H2:=hide h2;clear h2;simp only []))
  ·go_wp2
   go_ret3
   exact unhide H2
  ·go_wp2
   go_roundw
   case rel=>exact H2
   case measure=>exact l2
  ·go_wp2_with (go_at_call 58;(with_reducible refine (unhide H2).mono ?_);rintro e3 w3 ⟨g,rfl,h3⟩;have H3:=hide h3;clear h3;simp only [])
   go_ret3
   exact unhide H3
end So
end Go.Proofs.YtceahffmenbibaaGreatDoor
namespace Go.Proofs.YtceahffmenbibaaGreatDoor
namespace So
open Go Go.RowKit Go.Deep Rd
variable {Z:Nat→Prop} {kb:Nat} {w:World} {l:List UInt8}
theorem str_none (pt it ty:TypeId) (p:Option Addr) (w:World):(Builtin.unsafeString_ #[pt,it] ty #[.pointer p,.int .i64 0]).run Tryz.prog w=.ok (.string ⟨#[]⟩) w:=Lib.run_unsafeString_none w pt it ty p
set_option maxHeartbeats 4000000 in
set_option maxRecDepth 100000 in
theorem string_nil (c1:w.cell? ⟨kb,1,none⟩=some (.slice none 0 0)) (B:Nat):
  Calls Tryz.prog 59 #[.pointer (some ⟨kb,0,none⟩)] w fun e w'=>e=.returned (.string ⟨#[]⟩)∧Below B w w'∧Lib.OthersKept 5 none w w':=by
 have hSD:(Builtin.unsafeSliceData_ #[107] 171 #[.slice none 0 0]).run Tryz.prog w.drew=.ok (.pointer none) w.drew:=rfl
 have hUS:=str_none 171 3 9
 have c2:w.drew.cell? ⟨kb,1,none⟩=some (.slice none 0 0):=c1
 go_enter Tryz.func59,Tryz.ntmps59
 go_wp2
 go_region
 all_goals (go_wp2;go_ret;exact ⟨rfl,Below.drew (Below.refl B w),(Lib.OthersKept.refl _ _ w).drew⟩)
set_option maxHeartbeats 4000000 in
set_option maxRecDepth 100000 in
theorem string_room {g cap:Nat} (c1:w.cell? ⟨kb,1,none⟩=some (.slice (some ⟨g,0,none⟩) 0 cap)) (hc:cap ≠ 0) (B:Nat):
  Calls Tryz.prog 59 #[.pointer (some ⟨kb,0,none⟩)] w fun e w'=>e=.returned (.string ⟨#[]⟩)∧Below B w w'∧Lib.OthersKept 5 none w w':=by
 have hSD:(Builtin.unsafeSliceData_ #[107] 171 #[.slice (some ⟨g,0,none⟩) 0 cap]).run Tryz.prog w.drew=.ok (.pointer (some ⟨g,0,none⟩)) w.drew:=Lib.run_unsafeSliceData_row _ _ _ _ _ _ hc
 clear hc
 have hUS:=str_none 171 3 9
 have c2:w.drew.cell? ⟨kb,1,none⟩=some (.slice (some ⟨g,0,none⟩) 0 cap):=c1
 go_enter Tryz.func59,Tryz.ntmps59
 go_wp2
 go_region
 all_goals (go_wp2;go_ret;exact ⟨rfl,Below.drew (Below.refl B w),(Lib.OthersKept.refl _ _ w).drew⟩)
set_option maxHeartbeats 4000000 in
set_option maxRecDepth 100000 in
theorem string_noroom {g sz:Nat} (c1:w.cell? ⟨kb,1,none⟩=some (.slice (some ⟨g,0,none⟩) 0 0)) (hsh:w.shape? g=some (5,sz)) (B:Nat) (hB:B ≤ w.heap.size):
  Calls Tryz.prog 59 #[.pointer (some ⟨kb,0,none⟩)] w fun e w'=>e=.returned (.string ⟨#[]⟩)∧Below B w w'∧Lib.OthersKept 5 none w w':=by
 have hSD:(Builtin.unsafeSliceData_ #[107] 171 #[.slice (some ⟨g,0,none⟩) 0 0]).run Tryz.prog w.drew=.ok (.pointer (some ⟨w.drew.heap.size,0,none⟩)) (w.drew.alloc (.view ⟨g,0,none⟩ 5)):=
  Lib.run_unsafeSliceData_zero w.drew _ _ 5 Tryz.underlying171 ⟨g,0,none⟩ 0 _ hsh
 have hUS:=str_none 171 3 9
 have hlt:kb < w.heap.size:=block_lt_of_cell c1
 have c2:w.drew.cell? ⟨kb,1,none⟩=some (.slice (some ⟨g,0,none⟩) 0 0):=c1
 have hfin:Below B w (w.drew.alloc (.view ⟨g,0,none⟩ 5)):=(Below.drew (Below.refl B w)).alloc hB _
 have hfin2:Lib.OthersKept 5 none w (w.drew.alloc (.view ⟨g,0,none⟩ 5)):=((Lib.OthersKept.refl _ _ w).drew).alloc _
 have c3:(w.drew.alloc (.view ⟨g,0,none⟩ 5)).cell? ⟨kb,1,none⟩=some (.slice (some ⟨g,0,none⟩) 0 0):=by
  rw [((Below.refl w.drew.heap.size w.drew).alloc (Nat.le_refl _) (.view ⟨g,0,none⟩ 5)).cell (p:=⟨kb,1,none⟩) hlt];exact c2
 have c4:(w.alloc (.view ⟨g,0,none⟩ 5)).drew.cell? ⟨kb,1,none⟩=some (.slice (some ⟨g,0,none⟩) 0 0):=c3
 have c5:(w.alloc (.view ⟨g,0,none⟩ 5)).cell? ⟨kb,1,none⟩=some (.slice (some ⟨g,0,none⟩) 0 0):=c3
 clear hB hlt hsh
 go_enter Tryz.func59,Tryz.ntmps59
 go_wp2
 go_region
 all_goals (go_wp2;go_ret;exact ⟨rfl,hfin,hfin2⟩)
set_option maxHeartbeats 4000000 in
set_option maxRecDepth 100000 in
theorem string_some {g cap sz:Nat} (c1:w.cell? ⟨kb,1,none⟩=some (.slice (some ⟨g,0,none⟩) l.length cap)) (hsh:w.shape? g=some (5,sz)) (hgc:∃ cur fz,w.heap[g]? = some (.cells cur 5 fz)) (hl:l ≠ []) (hc:l.length ≤ cap) (hcs:l.length ≤ sz) (h63:l.length ≤ 9223372036854775807) (hcell:∀ j x,l[j]? = some x→w.cell? ((⟨g,0,none⟩:Addr).add j)=some (.int .u8 x.toNat)) (B:Nat) (hB:B ≤ g):
  Calls Tryz.prog 59 #[.pointer (some ⟨kb,0,none⟩)] w fun e w'=>e=.returned (.string ⟨l.toArray⟩)∧Below B w w'∧Lib.OthersKept 5 none w w':=by
 have hl0:l.length ≠ 0:=by simpa using hl
 have hSD:(Builtin.unsafeSliceData_ #[107] 171 #[.slice (some ⟨g,0,none⟩) l.length cap]).run Tryz.prog w.drew=.ok (.pointer (some ⟨g,0,none⟩)) w.drew:=Lib.run_unsafeSliceData_row _ _ _ _ _ _ (by omega)
 have hUS:(Builtin.unsafeString_ #[171,3] 9 #[.pointer (some ⟨g,0,none⟩),.int .i64 l.length]).run Tryz.prog w.drew=.ok (.string ⟨l.toArray⟩) (w.drew.freeze ⟨g,0,none⟩ l.length):=
  Lib.run_unsafeString_row w.drew _ _ _ 5 Tryz.underlying171 (by kernel_rfl) g sz hsh l hl hcs h63 hcell
 have c2:w.drew.cell? ⟨kb,1,none⟩=some (.slice (some ⟨g,0,none⟩) l.length cap):=c1
 have hfin:Below B w (w.drew.freeze ⟨g,0,none⟩ l.length):=Lib.below_freeze (Below.drew (Below.refl B w)) (p:=⟨g,0,none⟩) hB _
 have hfin2:Lib.OthersKept 5 none w (w.drew.freeze ⟨g,0,none⟩ l.length):=((Lib.OthersKept.refl _ _ w).drew).freeze ⟨g,0,none⟩ _ hgc
 clear hB hsh hl hcs h63 hcell hl0 hc hgc
 go_enter Tryz.func59,Tryz.ntmps59
 go_wp2
 go_region
 all_goals (go_wp2;go_ret;exact ⟨rfl,hfin,hfin2⟩)
theorem string_any (B:Nat) (h:Snk (fun g=>B ≤ g) kb w l) (hB:B ≤ w.heap.size):
  Calls Tryz.prog 59 #[.pointer (some ⟨kb,0,none⟩)] w fun e w'=>e=.returned (.string ⟨l.toArray⟩)∧Below B w w'∧Lib.OthersKept 5 none w w':=by
 obtain ⟨f,hr,-,ho,hz⟩:=h.ex
 have c1:w.cell? ⟨kb,1,none⟩=some (f 1):=hr.cell (by omega)
 obtain ⟨hlen,hn | ⟨g,cap,cur,hv,hbg,hg,hnc,hcm,hcs,htake⟩⟩:=id ho
 ·obtain ⟨hv,h0⟩:=hn
  have hl:l=[]:=List.eq_nil_of_length_eq_zero h0
  subst hl
  rw [hv] at c1
  exact string_nil c1 B
 ·rw [hv] at c1
  have hsh:w.shape? g=some (5,cur.size):=by simp [World.shape?,hg]
  cases l with
  | nil=>
   by_cases hc:cap=0
   ·subst hc;exact string_noroom c1 hsh B hB
   ·exact string_room c1 hc B
  | cons x r=>
   refine string_some c1 hsh ⟨_,_,hg⟩ (by simp) hnc (by omega) (by unfold maxLen at hcm;omega) (fun j y hy=>?_) B (hz g (by rw [hv];rfl))
   exact (hv ▸ ho).cells (g:=g) rfl j (.int .u8 y.toNat) (by unfold bytesV;rw [List.getElem?_map,hy];rfl)
end So
end Go.Proofs.YtceahffmenbibaaGreatDoor
namespace Go.Proofs.YtceahffmenbibaaGreatDoor
namespace So
open Go Go.RowKit Go.Deep Rd
variable {Z:Nat→Prop} {kb:Nat} {w:World} {l:List UInt8}
theorem assert_whole (v:Value) (w:World):(Instr.typeAssert (.iface 105 v) 62 105 true).run Tryz.prog w=.ok (.tuple #[v,.bool true]) w:=by kernel_rfl
set_option maxHeartbeats 4000000 in
set_option maxRecDepth 100000 in
theorem taken_any (B:Nat) (h:Snk (fun g=>B ≤ g) kb w l) (hB:B ≤ w.heap.size):
  Calls Tryz.prog 33 #[.iface 105 (.pointer (some ⟨kb,0,none⟩))] w fun e w'=>e=.returned (.string ⟨l.toArray⟩)∧Below B w w'∧Lib.OthersKept 5 none w w':=by
 have QS:=hide (string_any B h hB)
 have hA:=assert_whole
 clear h hB
 go_enter Tryz.func33,Tryz.ntmps33
 go_wp2_with (go_at_call 59;(with_reducible refine (unhide QS).mono ?_);rintro e w' ⟨rfl,hb⟩;have HB:=hide hb;clear hb;simp only [])
 go_ret
 exact ⟨rfl,unhide HB⟩
set_option maxHeartbeats 4000000 in
set_option maxRecDepth 100000 in
theorem new_any (B:Nat) (hB:B ≤ w.heap.size):
  Calls Tryz.prog 30 #[.int .i64 (-1)] w fun e w'=>∃ k,e=.returned (.iface 105 (.pointer (some ⟨k,0,none⟩)))∧Snk (fun g=>B ≤ g) k w' []∧w.heap.size ≤ k∧Below w.heap.size w w':=by
 go_enter Tryz.func30,Tryz.ntmps30
 go_wp2
 go_ret
 have hbel:Below w.heap.size w (w.alloc (Obj.cells #[Value.pointer none,Value.slice none 0 0] 111)):=(Below.refl _ _).alloc (Nat.le_refl _) _
 refine ⟨_,rfl,⟨⟨fun i=>if i=0 then .pointer none else .slice none 0 0,World.rowIs_alloc w _ _ _ fun i hi=>?_,.inl rfl,⟨rfl,.inl ⟨rfl,rfl⟩⟩,fun g hg=>by cases hg⟩,hB,fun g hg=>Nat.le_trans hB (Nat.le_trans hbel.size hg)⟩,Nat.le_refl _,hbel⟩
 ·match i,hi with
  | 0,_=>rfl
  | 1,_=>rfl
set_option maxHeartbeats 4000000 in
theorem verdict_any (met:Bool):
  Calls Tryz.prog 32 #[.bool met,.nilIface] w fun e w'=>e=.returned (.int .i64 (if met then 1 else 2))∧Below w.heap.size w w':=by
 cases met
 all_goals (go_enter Tryz.func32,Tryz.ntmps32;go_wp2;go_ret;exact ⟨rfl,Below.refl _ _⟩)
end So
end Go.Proofs.YtceahffmenbibaaGreatDoor
namespace Go.Proofs.YtceahffmenbibaaGreatDoor
namespace So
open Go Go.RowKit Go.Deep Rd
theorem lst_of {base:Nat} {w:World} {u:Value} {L:List Cl} (h:(L=[]∧u=.slice none 0 0)∨Lists 43 3 base w u L):Lst (fun g=>w.heap.size ≤ g) w u L:=by
 rcases h with ⟨rfl,rfl⟩ | h
 ·exact ⟨none,0,0,rfl,fun h=>absurd h (by simp),fun i hi=>absurd hi (by simp)⟩
 ·obtain ⟨CB,B,rfl,hb,ho,hi,_⟩:=h.ex
  refine ⟨some ⟨CB,0,none⟩,L.length,CB,rfl,fun _=>⟨rfl,ho.lt,by have:=ho.lt;omega⟩,fun i h1=>?_⟩
  have hr:=(hi i h1).2
  have e:L.getD i []=L[i]:=by simp [List.getD,h1]
  rw [e] at hr
  refine ⟨some ⟨B i,0,none⟩,(L[i]).length,B i,?_,fun _=>rfl,hr.lt,by have:=hr.lt;omega,fun j hj=>?_⟩
  ·have:=ho.cell h1
   rw [e] at this
   exact this
  ·have:=hr.cell hj
   rw [this]
   unfold Rd.intAt;simp [List.getD,hj]
def Runs (n:Nat) (L:List Cl) (mx:Nat):Prop:=∀ (Z:Nat→Prop) (kb:Nat) (w:World) (lv:Value),Lst Z w lv L→Snk Z kb w []→Calls Tryz.prog 31 #[.int .i64 (n:Nat),lv,.iface 105 (.pointer (some ⟨kb,0,none⟩))] w fun e w'=>RunRet Z kb n L mx w e w'
def Never (n:Nat) (L0:List Cl) (mx:Nat) (p:List UInt8):Prop:=∃ (ls:List (Bool × List Nat)) (L:List Cl),p=linesT ls ++ [48,10]∧Lines L0 (ls.map fun l=>(l.1,l.2.map wr)) L∧RightP L []∧(∀ l ∈ ls,∀ x ∈ l.2,x < 2 * n)∧p.length ≤ 410 * mx + 2
def SolRet (n:Nat) (L:List Cl) (mx:Nat) (w:World) (e:Ending) (w':World):Prop:=
 Below w.heap.size w w'∧((∃ p,e=.returned (.tuple #[.agg #[.int .i64 2,.slice none 0 0,.string ⟨p.toArray⟩],.int .i64 0])∧Never n L mx p) ∨
  ∃ g vals p,e=.returned (.tuple #[.agg #[.int .i64 1,.slice (some ⟨g,0,none⟩) n n,.string ⟨p⟩],.int .i64 0])∧w.heap.size ≤ g∧w'.rowIs g 4 n (fun v=>.bool (vals v))∧MetBy L vals)
theorem kept_row {w w':World} {g n:Nat} {f:Nat→Value} (h:w.rowIs g 4 n f) (hk:Lib.OthersKept 5 none w w'):w'.rowIs g 4 n f:=by
 refine h.of_block ?_
 obtain ⟨c,h1,_⟩:=id h
 rw [h1]
 exact hk g _ h1 (by simp) fun c' fz e=>by cases e
def Aft (B n:Nat) (L:List Cl) (mx kb:Nat) (met:Bool) (v:Value) (w0 w:World):Prop:=
 Below w0.heap.size w0 w∧w0.heap.size ≤ B∧B ≤ w.heap.size∧∃ l,Snk (fun g=>B ≤ g) kb w l∧((met=false∧v=.slice none 0 0∧Never n L mx l)∨(met=true∧∃ g vals,v=.slice (some ⟨g,0,none⟩) n n∧w0.heap.size ≤ g∧w.rowIs g 4 n (fun v=>.bool (vals v))∧MetBy L vals))
theorem Aft.later {B n:Nat} {L:List Cl} {mx kb:Nat} {met:Bool} {v:Value} {w0 w w':World} (h:Aft B n L mx kb met v w0 w) (hb:Below w.heap.size w w'):Aft B n L mx kb met v w0 w':=by
 obtain ⟨h1,h2,h3,l,hs,h4⟩:=h
 refine ⟨h1.trans (hb.mono h1.size),h2,Nat.le_trans h3 hb.size,l,hs.later hb,?_⟩
 rcases h4 with h4 | ⟨a,g,vals,b,c,d,e⟩
 ·exact .inl h4
 ·exact .inr ⟨a,g,vals,b,c,d.of_block (hb.block g d.lt),e⟩
def Aft2 (n:Nat) (L:List Cl) (mx:Nat) (met:Bool) (v:Value) (s:ByteArray) (w0 w:World):Prop:=
 SolRet n L mx w0 (.returned (.tuple #[.agg #[.int .i64 (if met then 1 else 2),v,.string s],.int .i64 0])) w
theorem Aft.taken {B n:Nat} {L:List Cl} {mx kb:Nat} {met:Bool} {v:Value} {w0 w:World} (h:Aft B n L mx kb met v w0 w):
  Calls Tryz.prog 33 #[.iface 105 (.pointer (some ⟨kb,0,none⟩))] w fun e w'=>∃ s,e=.returned (.string s)∧Aft2 n L mx met v s w0 w':=by
 obtain ⟨h1,h2,h3,l,hs,h4⟩:=h
 refine (taken_any B hs h3).mono ?_
 rintro e w' ⟨rfl,hb,hk⟩
 refine ⟨_,rfl,h1.trans (hb.mono h2),?_⟩
 rcases h4 with ⟨rfl,rfl,hp⟩ | ⟨rfl,g,vals,rfl,c,d,e⟩
 ·exact .inl ⟨l,rfl,hp⟩
 ·exact .inr ⟨g,vals,_,rfl,c,kept_row d hk,e⟩
theorem aft_run {n:Nat} {L:List Cl} {mx:Nat} {w0 w1 w2:World} {u:Value} {kb:Nat} (hR:Runs n L mx) (hL:Lst (fun g=>w1.heap.size ≤ g) w1 u L) (hb:Below w0.heap.size w0 w1) (hb2:Below w1.heap.size w1 w2) (hs:Snk (fun g=>w1.heap.size ≤ g) kb w2 []):
  Calls Tryz.prog 31 #[.int .i64 (n:Nat),u,.iface 105 (.pointer (some ⟨kb,0,none⟩))] w2 fun e w'=>∃ a k met,e=.returned (.tuple #[.slice a k k,.bool met,.nilIface])∧Aft w1.heap.size n L mx kb met (.slice a k k) w0 w':=by
 have hL2:Lst (fun g=>w1.heap.size ≤ g) w2 u L:=by
  obtain ⟨a,c,b,h1,h2,h3⟩:=hL
  refine ⟨a,c,b,h1,fun h=>⟨(h2 h).1,Nat.lt_of_lt_of_le (h2 h).2.1 hb2.size,(h2 h).2.2⟩,fun i hi=>?_⟩
  obtain ⟨ai,ci,bi,g1,g2,g3,g4,g5⟩:=h3 i hi
  exact ⟨ai,ci,bi,by rw [hb2.cell (p:=⟨b,i,none⟩) (block_lt_of_cell g1)];exact g1,g2,Nat.lt_of_lt_of_le g3 hb2.size,g4,fun j hj=>by rw [hb2.cell (p:=⟨bi,j,none⟩) g3];exact g5 j hj⟩
 refine (hR _ kb w2 u hL2 hs).mono ?_
 rintro e w' ⟨hc,h⟩
 have hbel:Below w1.heap.size w2 w':=hc.below hb2.size fun g hg=>by show ¬ w1.heap.size ≤ g;omega
 have hB0:Below w0.heap.size w0 w':=hb.trans ((hb2.trans hbel).mono hb.size)
 have hsz:w1.heap.size ≤ w'.heap.size:=Nat.le_trans hb2.size hbel.size
 rcases h with ⟨rfl,ls,L',s1,s2,s3,s4,s5⟩ | ⟨g,vals,l,rfl,c,d,e,s1,s2⟩
 ·exact ⟨_,_,_,rfl,hB0,hb.size,hsz,_,s1,.inl ⟨rfl,rfl,ls,L',rfl,s2,s3,s4,by simp;omega⟩⟩
 ·exact ⟨_,_,_,rfl,hB0,hb.size,hsz,_,s1,.inr ⟨rfl,g,vals,rfl,by have:=hb.size;have:=hb2.size;omega,d,e⟩⟩
theorem sol_fin {n:Nat} {L:List Cl} {mx:Nat} {w w5 w6:World} {e:Ending} {vd:Int} {va:Option Addr} {vk:Nat} {tx:ByteArray} (h:SolRet n L mx (w.alloc (Obj.cells #[Value.int IntKind.i64 0,Value.slice none 0 0,Value.string { data:=#[] }] 28)) e w5) (hx:w5.alloc (Obj.cells #[Value.int IntKind.i64 vd,Value.slice va vk vk,Value.string tx] 28)=w6):
  Hid (∀ w7,Chg (fun g=>g=w.heap.size) w6 w7→SolRet n L mx w e w7)∧w6.cell? ⟨w5.heap.size,0,none⟩=some (.int .i64 vd)∧w6.cell? ⟨w5.heap.size,1,none⟩=some (.slice va vk vk)∧w6.cell? ⟨w5.heap.size,2,none⟩=some (.string tx)∧
  w6.cell? ⟨w.heap.size,0,none⟩=some (.int .i64 0)∧w6.cell? ⟨w.heap.size,1,none⟩=some (.slice none 0 0)∧w6.cell? ⟨w.heap.size,2,none⟩=some (.string ⟨#[]⟩)∧w6.frozen? ⟨w.heap.size,0,none⟩=false∧w6.frozen? ⟨w.heap.size,1,none⟩=false∧w6.frozen? ⟨w.heap.size,2,none⟩=false:=by
 have r6:w6.rowIs w5.heap.size 28 3 (fun i=>if i=0 then .int .i64 vd else if i=1 then .slice va vk vk else .string tx):=by
  rw [← hx]
  exact World.rowIs_alloc w5 _ _ _ fun i hi=>match i,hi with
   | 0,_=>rfl
   | 1,_=>rfl
   | 2,_=>rfl
 have hb6:Below w5.heap.size w5 w6:=by rw [← hx];exact (Below.refl _ _).alloc (Nat.le_refl _) _
 have hb0:Below w.heap.size w (w.alloc (Obj.cells #[Value.int IntKind.i64 0,Value.slice none 0 0,Value.string { data:=#[] }] 28)):=(Below.refl _ _).alloc (Nat.le_refl _) _
 have r0:(w.alloc (Obj.cells #[Value.int IntKind.i64 0,Value.slice none 0 0,Value.string { data:=#[] }] 28)).rowIs w.heap.size 28 3 (fun i=>if i=0 then .int .i64 0 else if i=1 then .slice none 0 0 else .string ⟨#[]⟩):=
  World.rowIs_alloc w _ _ _ fun i hi=>match i,hi with
   | 0,_=>rfl
   | 1,_=>rfl
   | 2,_=>rfl
 generalize w.alloc (Obj.cells #[Value.int IntKind.i64 0,Value.slice none 0 0,Value.string { data:=#[] }] 28)=w0 at h hb0 r0
 have r5:=r0.of_block (h.1.block _ r0.lt)
 have r06:=r5.of_block (hb6.block _ r5.lt)
 refine ⟨fun w7 hc=>⟨?_,?_⟩,r6.cell (by omega),r6.cell (by omega),r6.cell (by omega),r06.cell (by omega),r06.cell (by omega),r06.cell (by omega),r06.frozen 0,r06.frozen 1,r06.frozen 2⟩
 ·have h1:Below w.heap.size w w6:=(hb0.trans (h.1.mono hb0.size)).trans (hb6.mono (Nat.le_trans hb0.size h.1.size))
  exact h1.trans (hc.below h1.size fun g hg e=>by omega)
 ·rcases h.2 with h2 | ⟨g,vals,p,h3,h4,h5,h6⟩
  ·exact .inl h2
  ·refine .inr ⟨g,vals,p,h3,Nat.le_trans hb0.size h4,?_,h6⟩
   have:=h5.of_block (hb6.block _ h5.lt)
   exact this.of_block (hc.block g this.lt (by have:=r0.lt;omega))
set_option maxHeartbeats 4000000 in
set_option maxRecDepth 100000 in
theorem solve_any {n:Nat} {L:List Cl} {mx:Nat} (s:ByteArray) (w:World) (hg:Glob w) (hs:s.size ≤ maxLen) (hr:readB s.data.toList=((n:Int),L,0)) (hR:Runs n L mx):
  Calls Tryz.prog 17 #[.string s,.int .i64 (-1)] w fun e w'=>SolRet n L mx w e w':=by
 have QR:Hid (∀ W,Below w.heap.size w W→Calls Tryz.prog 18 #[.string s] W fun e w'=>∃ u,e=.returned (.tuple #[.int .i64 (n:Nat),u,.int .i64 0])∧Lst (fun g=>w'.heap.size ≤ g) w' u L∧Below W.heap.size W w'):=fun W hW=>by
  refine (read_any s W hs (Glob.below hg.2.2 hW hg)).mono ?_
  rintro e w' ⟨hb,u,he,hl⟩
  rw [read_eq,hr] at he hl
  exact ⟨u,he,lst_of hl,hb⟩
 have QV:Hid (∀ (met:Bool) (w:World),Calls Tryz.prog 32 #[.bool met,.nilIface] w fun e w'=>∃ vd:Int,Hid (vd=if met then 1 else 2)∧e=.returned (.int .i64 vd)∧Below w.heap.size w w'):=fun met w=>(verdict_any met).mono fun e w' ⟨a,b⟩=>⟨_,rfl,a,b⟩
 have HR:=hide hR
 clear hg hs hr hR
 go_enter Tryz.func17,Tryz.ntmps17
 go_upto_region 2 with (go_at_call 18;(with_reducible refine (unhide QR _ ((Below.refl _ _).alloc (Nat.le_refl _) _)).mono ?_);rintro e1 w1 ⟨u,rfl,hl,hb⟩;have HL:=hide hl;have HB:=hide hb;have QN:=hide (new_any (w:=w1) w1.heap.size (Nat.le_refl _));clear hl hb;simp only [])
 go_upto_region 5 with (go_at_call 30;(with_reducible refine (unhide QN).mono ?_);rintro e2 w2 ⟨kb,rfl,hs,hk,hb⟩;have QU:=hide (aft_run (unhide HR) (unhide HL) (unhide HB) hb hs);clear hs hk hb QN;simp only [])
 go_upto_region 6 with (go_at_call 31;(with_reducible refine (unhide QU).mono ?_);rintro e3 w3 ⟨va,vk,met,rfl,ha⟩;have HA:=hide ha;clear ha QU;simp only [])
 clear HL HB
 go_upto_region 7 with (first
  |(go_at_call 32;(with_reducible refine (unhide QV met _).mono ?_);rintro e4 w4 ⟨vd,hvd,rfl,hb⟩;have HA4:=hide ((unhide HA).later hb);clear hb HA;simp only [])
  |(go_at_call 33;(with_reducible refine (unhide HA4).taken.mono ?_);rintro e5 w5 ⟨tx,rfl,ha⟩;have HA5:=hide ha;clear ha HA4;unfold Aft2 at HA5;rw [← unhide hvd] at HA5;clear hvd;simp only []))
 have hw6:w5.alloc (Obj.cells #[Value.int IntKind.i64 vd,Value.slice va vk vk,Value.string tx] 28)=w5.alloc (Obj.cells #[Value.int IntKind.i64 vd,Value.slice va vk vk,Value.string tx] 28):=rfl
 generalize hx:w5.alloc (Obj.cells #[Value.int IntKind.i64 vd,Value.slice va vk vk,Value.string tx] 28)=w6 at hw6 ⊢
 obtain ⟨HF,d0,d1,d2,r0,r1,r2,z0,z1,z2⟩:=sol_fin (unhide HA5) hx
 clear HA5 hw6 hx
 go_wp2
 refine bodyPost_ret (v:=.tuple #[.agg #[.int .i64 vd,.slice va vk vk,.string tx],.int .i64 0]) ?_ rfl (unhide HF _ (Chg.setCell (Chg.setCell (Chg.setCell (Chg.refl (Z:=fun g=>g=w.heap.size) w6) (p:=⟨w.heap.size,0,none⟩) rfl _) (p:=⟨w.heap.size,1,none⟩) rfl _) (p:=⟨w.heap.size,2,none⟩) rfl _))
 rw [results_cell_tmp rfl]
 go_simp
end So
end Go.Proofs.YtceahffmenbibaaGreatDoor
namespace Go.Proofs.YtceahffmenbibaaGreatDoor
namespace Kp
open Go Go.RowKit Go.Deep Rd
def pickN (c:Int) (n:Nat):Nat:=(if c < 0 then -(c + 1) else c).toNat % n
set_option maxHeartbeats 2000000 in
theorem pick_any (c:Int) (n:Nat) (w:World) (h1:-9223372036854775808 ≤ c) (h2:c ≤ 9223372036854775807) (hn:0 < n) (hn2:n ≤ 9223372036854775807):
  Calls Tryz.prog 22 #[.int .i64 c,.int .i64 (n:Nat)] w fun e w'=>e=.returned (.int .i64 (pickN c n:Nat))∧Below w.heap.size w w':=by
 have hz:¬ ((n:Nat):Int)=0:=by omega
 by_cases hc:c < 0
 ·have w1:IntKind.i64.wrap (c + 1)=c + 1:=by rw [IntKind.wrap_i64];omega
  have w2:IntKind.i64.wrap (-(c + 1))=-(c + 1):=by rw [IntKind.wrap_i64];omega
  have w3:(-(c + 1)).tmod (n:Int)=((pickN c n:Nat):Int):=by
   unfold pickN
   rw [if_pos hc,Int.tmod_eq_emod_of_nonneg (by omega)]
   have:((-(c + 1)).toNat:Int)=-(c + 1):=by omega
   rw [Int.natCast_emod,this]
  have w4:IntKind.i64.wrap ((pickN c n:Nat):Int)=((pickN c n:Nat):Int):=by
   have:pickN c n < n:=Nat.mod_lt _ hn
   rw [IntKind.wrap_i64];omega
  go_enter Tryz.func22,Tryz.ntmps22
  go_wp2
  go_ret
  exact ⟨rfl,Below.refl _ _⟩
 ·have w3:c.tmod (n:Int)=((pickN c n:Nat):Int):=by
   unfold pickN
   rw [if_neg hc,Int.tmod_eq_emod_of_nonneg (by omega)]
   have:(c.toNat:Int)=c:=by omega
   rw [Int.natCast_emod,this]
  have w4:IntKind.i64.wrap ((pickN c n:Nat):Int)=((pickN c n:Nat):Int):=by
   have:pickN c n < n:=Nat.mod_lt _ hn
   rw [IntKind.wrap_i64];omega
  go_enter Tryz.func22,Tryz.ntmps22
  go_wp2
  go_ret
  exact ⟨rfl,Below.refl _ _⟩
def nls (l:List UInt8):Nat:=(l.filter (· == 10)).length
theorem nls_take (s:ByteArray) (k:Nat) (hk:k < s.size):nls (s.data.toList.take (k + 1))=nls (s.data.toList.take k) + if s.data.toList[k]'(by simpa using hk)=10 then 1 else 0:=by
 rw [List.take_succ_eq_append_getElem (by simpa using hk)]
 unfold nls
 rw [List.filter_append,List.length_append]
 congr 1
 by_cases h:s.data.toList[k]'(by simpa using hk)=10
 ·simp only [List.filter_cons,List.filter_nil,h];rfl
 ·rw [if_neg h,List.filter_cons_of_neg (by simpa using h)];rfl
theorem nls_le (l:List UInt8):nls l ≤ l.length:=List.length_filter_le _ _
set_option maxHeartbeats 2000000 in
theorem lines_any (s:ByteArray) (w:World) (hs:s.size ≤ maxLen):
  Calls Tryz.prog 21 #[.string s] w fun e w'=>e=.returned (.int .i64 (nls s.data.toList:Nat))∧Below w.heap.size w w':=by
 unfold maxLen at hs
 go_enter Tryz.func21,Tryz.ntmps21
 go_wp2
 go_loopw [3,4] (fun n i wr=>∃ k:Nat,k ≤ s.size∧i=.int .i64 k∧n=.int .i64 (nls (s.data.toList.take k):Nat)∧Below w.heap.size w wr) (fun _ i _=>s.size - (intOf i).toNat)
 case atStart=>exact ⟨0,Nat.zero_le _,rfl,rfl,Below.refl _ _⟩
 case round=>
  obtain ⟨k,hk,rfl,rfl,hb⟩:=hrel
  have HB:=hide hb
  clear hb
  have hle:=nls_le (s.data.toList.take k)
  have hl2:(s.data.toList.take k).length ≤ k:=by simp;omega
  by_cases hlt:k < s.size
  ·have E:=hide (nls_take s k hlt)
   by_cases hc:s[k].toNat=10
   ·have hcc:((s[k].toNat:Int) == 10)=true:=by simp;omega
    have e10:s.data.toList[k]'(by simpa using hlt)=10:=by
     have:s[k]=s.data.toList[k]'(by simpa using hlt):=by simp;rfl
     rw [← this,← UInt8.toNat_inj];exact hc
    go_wp2
    go_roundw
    case rel=>exact ⟨k + 1,by omega,by go_num,by rw [unhide E,if_pos e10];go_num,unhide HB⟩
    case measure=>simp [intOf];omega
   ·have hcc:((s[k].toNat:Int) == 10)=false:=by simp;omega
    have e10:¬ s.data.toList[k]'(by simpa using hlt)=10:=fun e=>hc (by
     have:s[k]=s.data.toList[k]'(by simpa using hlt):=by simp;rfl
     rw [this,e];rfl)
    go_wp2
    go_roundw
    case rel=>exact ⟨k + 1,by omega,by go_num,by rw [unhide E,if_neg e10];rfl,unhide HB⟩
    case measure=>simp [intOf];omega
  ·have e:k=s.size:=by omega
   subst e
   go_wp2
   go_ret
   refine ⟨?_,unhide HB⟩
   rw [List.take_of_length_le (by simp)];rfl
end Kp
end Go.Proofs.YtceahffmenbibaaGreatDoor
namespace Go.Proofs.YtceahffmenbibaaGreatDoor
namespace Kp
open Go Rd Go.Proofs.YtceahffmenbibaaGreatDoor.So
theorem nls_append (a b:List UInt8):nls (a ++ b)=nls a + nls b:=by unfold nls;rw [List.filter_append,List.length_append]
theorem nls_free {a:List UInt8} (h:Free 10 a):nls a=0:=by
 unfold nls
 rw [List.filter_eq_nil_iff.2 (fun x hx=>by rw [h x hx];simp)];rfl
theorem nls_lines {V:Nat} (hV:V ≤ 50):∀ (ls:List (Bool × List Nat)),(∀ l ∈ ls,∀ x ∈ l.2,x < 2 * V)→nls (linesT ls)=ls.length
 | [],_=>rfl
 |(g,c) :: ls,h=>by
  have e:linesT ((g,c) :: ls)=(lineT g c ++ [10]) ++ linesT ls:=by unfold linesT;rw [List.flatMap_cons]
  rw [e,nls_append,nls_append,nls_free (line_free hV g (h (g,c) (by simp))),nls_lines hV ls (fun l hl=>h l (by simp [hl]))]
  show 0 + 1 + ls.length=_
  simp;omega
theorem lines_unsat {L':List Cl} (hR:RightP L' []):∀ (ls:List (Bool × List Nat)) (L:List Cl),(∀ c ∈ L,Nz c)→Lines L (ls.map fun l=>(l.1,l.2.map wr)) L'→¬ ∃ t,Sat t L
 | [],L,hz,h,⟨t,hs⟩=>by
  have h:L'=L:=h
  subst h
  obtain ⟨t',hs'⟩:=right_sat hs hz (by intro l hl;cases hl) hR
  obtain ⟨l,hl,_⟩:=hs' [] (by simp)
  cases hl
 |(true,c) :: ls,L,hz,h,⟨t,hs⟩=>by
  rw [List.map_cons] at h
  obtain ⟨M,g1,g2⟩:=h
  exact lines_unsat hR ls M (fun d hd=>hz d (rem_sub g1 d hd)) g2 ⟨t,fun d hd=>hs d (rem_sub g1 d hd)⟩
 |(false,c) :: ls,L,hz,h,⟨t,hs⟩=>by
  rw [List.map_cons] at h
  obtain ⟨g0,g1,g2⟩:=h
  have hc:Nz (c.map wr):=fun l hl=>by
   obtain ⟨x,_,rfl⟩:=List.mem_map.1 hl
   exact wr_ne x
  obtain ⟨t',hs'⟩:=right_sat hs hz hc g1
  refine lines_unsat hR ls _ (fun d hd=>?_) g2 ⟨t',hs'⟩
  rcases List.mem_append.1 hd with hd | hd
  ·exact hz d hd
  ·rw [List.mem_singleton.1 hd];exact hc
theorem never_unsat {n mx:Nat} {L:List Cl} {p:List UInt8} (hz:∀ c ∈ L,∀ x ∈ c,InV n x) (h:Never n L mx p):¬ ∃ t,Sat t L:=by
 obtain ⟨ls,L',rfl,h1,h2,h3,h4⟩:=h
 exact lines_unsat h2 ls L (fun c hc x hx=>(hz c hc x hx).1) h1
theorem never_checked {n mx:Nat} {L:List Cl} {p s:List UInt8} (hn:n ≤ 50) (hr:readB s=((n:Int),L,0)) (h:Never n L mx p):Rd.Checked s p ((nls p:Nat),0):=by
 obtain ⟨ls,L',rfl,h1,h2,h3,h4⟩:=h
 unfold Rd.Checked
 rw [hr,if_pos rfl]
 have e:nls (linesT ls ++ [48,10])=ls.length + 1:=by rw [nls_append,nls_lines hn ls h3];rfl
 refine ⟨ls.length + 1,0,by rw [e];rfl,?_⟩
 have:=chk_lines hn L' h2 ls L 0 h3 h1
 rw [splitB_eq]
 simpa using this
theorem met_sat {L:List Cl} {vals:Nat→Bool} (h:MetBy L vals):∃ t,Sat t L:=⟨_,h⟩
end Kp
end Go.Proofs.YtceahffmenbibaaGreatDoor
