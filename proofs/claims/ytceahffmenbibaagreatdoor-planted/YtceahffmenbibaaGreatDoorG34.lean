/- Sput Ssta Slea. -/
import Derived.Test.YtceahffmenbibaaGreatDoorG10
import Derived.Test.YtceahffmenbibaaGreatDoorG30
import Derived.Test.YtceahffmenbibaaGreatDoorG31
import Derived.Test.YtceahffmenbibaaGreatDoorG33
import Derived.Test.YtceahffmenbibaaGreatDoorG02
import Derived.Test.YtceahffmenbibaaGreatDoorG05
set_option linter.unusedVariables false
set_option linter.unusedSimpArgs false
set_option maxHeartbeats 4000000
set_option maxRecDepth 100000
namespace Go.Proofs.YtceahffmenbibaaGreatDoor
namespace So
section
open Go Go.RowKit Go.Deep Rd
variable {Z:Nat->Prop} {sb K n:Nat} {w:World} {f V:Nat->Value} {X:Nat->List Value} {tr ch:List Nat} {lev:Nat->Nat} {rea:Nat->Int}
structure Vl (lev:Nat->Nat) (bn ks:List Nat) (i d:Nat):Prop where
 perm:ks.Perm bn
 le:∀ j (h:j < ks.length),j < i->lev (ks[j] / 2) <= d
 hd:(i=0/\d=0)\/(0 < i/\∃ h:0 < ks.length,lev (ks[0] / 2)=d)
theorem Vl.RY {bn ks:List Nat} {i d:Nat} (h:Vl lev bn ks i d) (hi:i < ks.length) (hn:lev (ks[i] / 2) <= d) (h0:0 < lev (ks[i] / 2)):Vl lev bn ks (i + 1) d where
 perm:=h.perm
 le:=fun j hj hji=>by
  rcases Nat.lt_succ_iff_lt_or_eq.1 hji with h1 | h1
  ·exact h.le j hj h1
  ·subst h1;exact hn
 hd:=by
  rcases h.hd with ⟨e1,e2⟩ | ⟨e1,e2⟩
  ·omega
  ·exact .inr ⟨by omega,e2⟩
theorem Gp {l:List Nat} {i:Nat} (hi:i < l.length) (h0:0 < l.length):((l.set 0 l[i]).set i l[0]).Perm l:=by
 by_cases e:i=0
 ·subst e;have:(l.set 0 l[0]).set 0 l[0]=l:=by rw [List.set_set,List.set_getElem_self]
  rw [this]
 ·match l,h0 with
  | a :: r,_=>
   obtain ⟨k,rfl⟩:∃ k,i=k + 1:=⟨i - 1,by omega⟩
   have hk:k < r.length:=by simpa using hi
   simp only [List.getElem_cons_succ,List.set_cons_zero,List.set_cons_succ,List.getElem_cons_zero];have e1:r=r.take k ++ r[k] :: r.drop (k + 1):=by rw [<- List.drop_eq_getElem_cons hk,List.take_append_drop]
   have e2:r.set k a=r.take k ++ a :: r.drop (k + 1):=by rw [List.set_eq_take_append_cons_drop,if_pos hk]
   rw [e2]
   conv=>rhs;rw [e1]
   have p1:(r.take k ++ a :: r.drop (k + 1)).Perm (a :: (r.take k ++ r.drop (k + 1))):=List.perm_middle;have p2:(r.take k ++ r[k] :: r.drop (k + 1)).Perm (r[k] :: (r.take k ++ r.drop (k + 1))):=List.perm_middle;exact ((p1.cons r[k]).trans (List.Perm.swap ..)).trans (p2.symm.cons a)
theorem Vl.MO {bn ks:List Nat} {i d:Nat} (h:Vl lev bn ks i d) (hi:i < ks.length) (hn:d < lev (ks[i] / 2)):Vl lev bn ((ks.set 0 ks[i]).set i (ks[0]'(by omega))) (i + 1) (lev (ks[i] / 2)) where
 perm:=(Gp hi (by omega)).trans h.perm
 le:=fun j hj hji=>by
  have hj':j < ks.length:=by simpa using hj
  rcases Nat.lt_succ_iff_lt_or_eq.1 hji with h1 | h1
  ·rw [List.getElem_set_ne (by omega)]
   by_cases e:j=0
   ·subst e;rw [List.getElem_set_self];exact Nat.le_refl _
   ·rw [List.getElem_set_ne (fun e2=>e e2.symm)]
    have:=h.le j hj' h1;omega
  ·subst h1;rw [List.getElem_set_self];by_cases e:j=0
   ·subst e;exact Nat.le_refl _
   ·have:=h.le 0 (by omega) (by omega)
    omega
 hd:=.inr ⟨by omega,by simp;omega,by
  by_cases e:i=0
  ·subst e;rw [List.getElem_set_self]
  ·rw [List.getElem_set_ne e,List.getElem_set_self]⟩
def Qp (Z:Nat->Prop) (sb:Nat) (w:World) (K:Nat) (f V:Nat->Value) (X:Nat->List Value) (lev:Nat->Nat) (pre:Int) (bn:List Nat) (s3 s5:Value) (wr:World):Prop:=
 ∃ (i d:Nat) (ks:List Nat),s3=.int .i64 ((d:Nat):Int)/\s5=.int .i64 ((i + 1:Nat):Int)/\i <= bn.length/\Hid (Vl lev bn ks i d/\aQ Z sb wr K f V (upd X 7 (.int .i64 pre :: au ks))/\aC Z w wr)
def Vk (Z:Nat->Prop) (sb:Nat) (w:World) (K:Nat) (f V:Nat->Value) (X:Nat->List Value) (lev:Nat->Nat) (pre:Int) (bn:List Nat) (e:Ending) (w':World):Prop:=
 ∃ (d:Nat) (ks:List Nat),e=.returned (.int .i64 ((d:Nat):Int))/\ks.Perm bn/\(∀ y ∈ ks,lev (y / 2) <= d)/\((ks=[]/\d=0)\/∃ q r,ks=q :: r/\lev (q / 2)=d)/\aQ Z sb w' K f V (upd X 7 (.int .i64 pre :: au ks))/\aC Z w w'
theorem yt {pre:Int} {bn:List Nat} (h:aQ Z sb w K f V X) (hn:n <= 50) (hT:iW n X tr ch lev rea) (h7:X 7=.int .i64 pre :: au bn) (hlt:∀ y ∈ bn,y < 2 * n) (hpos:∀ y ∈ bn,0 < lev (y / 2)) (hll:bn.length <= 50):
  Calls Tryz.prog 143 #[.pointer (some ⟨sb,0,none⟩)] w fun e w'=>Vk Z sb w K f V X lev pre bn e w':=by
 have hK:=h.hK;have l7:(X 7).length=bn.length + 1:=by rw [h7];simp [ag]
 obtain ⟨g7,c7,t7,e7,q7,-⟩:=h.elem (k:=7) (j:=0) (by omega) l7 (by omega)
 rw [show cellOf 7=15 from rfl] at q7
 have S0:Hid (Vl lev bn bn 0 0/\aQ Z sb w K f V (upd X 7 (.int .i64 pre :: au bn))/\aC Z w w):=⟨⟨.refl _,fun j _ h=>absurd h (Nat.not_lt_zero _),.inl ⟨rfl,rfl⟩⟩,by rw [<- h7,upd_same];exact h,aC.refl _⟩
 have FCT:Hid (∀ wr ks,ks.length=bn.length->aQ Z sb wr K f V (upd X 7 (.int .i64 pre :: au ks))->(∀ i (hi:i < ks.length),wr.cell? ⟨g7,i + 1,none⟩=some (.int .i64 (ks[i]:Nat))/\wr.frozen? ⟨g7,i + 1,none⟩=false)/\∀ v,v < n->∃ g4 c4,wr.cell? ⟨sb,10,none⟩=some (.slice (some ⟨g4,0,none⟩) n c4)/\wr.cell? ⟨g4,v,none⟩=some (.int .i64 (lev v:Nat))):=fun wr ks hkl hs=>by
  refine ⟨fun i hi=>?_,fun v hv=>?_⟩
  ·obtain ⟨a,b⟩:=hs.bC.cell (k:=7) (by omega) e7 (j:=i + 1) (by rw [ae];simp [ag];omega)
   rw [ae,List.getElem?_cons_succ,eH _ _ hi] at a;exact ⟨a,b⟩
  ·obtain ⟨g4,c4,t4,e4,q4,r4,s4,-⟩:=hs.elem (k:=4) (j:=v) (by omega) (by rw [aa _ _ (by decide)];exact hT.n4) hv
   rw [aa _ _ (by decide),hT.t4 v hv] at s4
   obtain rfl:=Option.some.inj s4;exact ⟨g4,c4,q4,r4⟩
 have SWP:Hid (∀ (wr Y:World) (ks:List Nat) i (hi:i < ks.length),ks.length=bn.length->aQ Z sb Y K f V (upd X 7 (.int .i64 pre :: au ks))->aQ Z sb ((Y.setCell ⟨g7,1,none⟩ (.int .i64 (ks[i]:Nat))).setCell ⟨g7,i + 1,none⟩ (.int .i64 ((ks[0]'(by omega):Nat):Int))) K f V (upd X 7 (.int .i64 pre :: au ((ks.set 0 ks[i]).set i (ks[0]'(by omega)))))):=fun wr Y ks i hi hkl hs=>by
  have s1:=(hs.set (k:=7) (by omega) e7 1 (.int .i64 (ks[i]:Nat))).set (k:=7) (by omega) e7 (i + 1) (.int .i64 ((ks[0]'(by omega):Nat):Int))
  rw [ae,ae,bE,bE] at s1;rw [show (1:Nat)=0 + 1 from rfl,List.set_cons_succ,List.set_cons_succ,jQ,jQ] at s1
  exact s1
 have zg:Z g7:=h.al 7 (by omega) g7 (by rw [e7];rfl)
 have UD:=hide hlt;have HPOS:=hide hpos;clear h hT h7 l7 e7 hlt hpos;go_enter Tryz.func143,Tryz.ntmps143
 go_wp2_with fail
 go_loopw [3,5,6] (fun s3 s5 _ wr=>Qp Z sb w K f V X lev pre bn s3 s5 wr) (fun _ s5 _ _=>bn.length + 1 - (intOf s5).toNat)
 case atStart=>exact ⟨0,0,bn,rfl,rfl,Nat.zero_le _,S0⟩
 case round=>
  clear S0 q7;obtain ⟨i,d,ks,rfl,rfl,hil,hst⟩:=hrel;have hkl:ks.length=bn.length:=hst.out.1.perm.length_eq;by_cases hlt:i < bn.length
  ·obtain ⟨c1,c2⟩:=FCT.out wr ks hkl hst.out.2.1;have hii:i < ks.length:=by omega
   obtain ⟨hci,hfi⟩:=c1 i hii;obtain ⟨hc0,hf0⟩:=c1 0 (by omega)
   have hym:ks[i] ∈ bn:=hst.out.1.perm.mem_iff.1 (List.getElem_mem _);obtain ⟨y,hy⟩:∃ y,y=ks[i]:=⟨_,rfl⟩;have hyl:y < 2 * n:=by rw [hy];exact UD.out _ hym
   have hyp:0 < lev (y / 2):=by rw [hy];exact HPOS.out _ hym
   obtain ⟨g4,cp4,q4,r4⟩:=c2 (y / 2) (by omega)
   have QV:Hid (∀ Y,Calls Tryz.prog 176 #[.int .i64 (y:Nat)] Y fun e w'=>e=.returned (.int .i64 ((y / 2:Nat):Int))/\w'=Y):=fun Y=>bF y Y (by omega)
   have SW:=hide (fun Y hs=>SWP.out wr Y ks i hii hkl hs)
   obtain ⟨z,hz⟩:∃ z,z=ks[0]'(by omega):=⟨_,rfl⟩
   rw [<- hy] at hci;rw [<- hz] at hc0;have NO:Hid (lev (y / 2) <= d->∀ W,Below wr.heap.size wr W->∀ sv,sv=.int .i64 ((i + 1 + 1:Nat):Int)->Qp Z sb w K f V X lev pre bn (.int .i64 ((d:Nat):Int)) sv W):=fun hle W hW sv hsv=>⟨i + 1,d,ks,rfl,hsv,hlt,hst.out.1.RY hii (by rw [<- hy];exact hle) (by rw [<- hy];exact hyp),hst.out.2.1.later hW,hst.out.2.2.trans (aC.of_below hW)⟩
   have YES:Hid (d < lev (y / 2)->∀ Y,Below wr.heap.size wr Y->∀ W',Below ((Y.setCell ⟨g7,1,none⟩ (.int .i64 (y:Nat))).setCell ⟨g7,i + 1,none⟩ (.int .i64 (z:Nat))).heap.size ((Y.setCell ⟨g7,1,none⟩ (.int .i64 (y:Nat))).setCell ⟨g7,i + 1,none⟩ (.int .i64 (z:Nat))) W'->∀ sv,sv=.int .i64 ((i + 1 + 1:Nat):Int)->Qp Z sb w K f V X lev pre bn (.int .i64 ((lev (y / 2):Nat):Int)) sv W'):=fun hgt Y hY W' hW' sv hsv=>by
    have s1:=SW.out Y (hst.out.2.1.later hY);rw [<- hy,<- hz] at s1;have p1:=hst.out.1.MO hii (by rw [<- hy];exact hgt)
    rw [<- hy,<- hz] at p1;exact ⟨i + 1,_,_,rfl,hsv,hlt,p1,s1.later hW',(((hst.out.2.2.trans (aC.of_below hY)).setCell zg _).setCell zg _).trans (aC.of_below hW')⟩
   have v0:(0:Int) <= ((y / 2:Nat):Int):=by omega
   have v1:((y / 2:Nat):Int) < (n:Int):=by omega
   have i0:(0:Int) <= (i:Int) + 1:=by omega
   have i1:(i:Int) + 1 < (bn.length:Int) + 1:=by omega
   have i2:(i:Int) + 1 <= 51:=by omega
   have i3:((i:Int) + 1).toNat=i + 1:=by omega
   have i4:(1:Int) < (bn.length:Int) + 1:=by omega
   have hyz:Hid (i=0->y=z):=fun e=>by subst e;rw [hy,hz]
   clear hst hy hz c1 c2 SW hym hkl hii;generalize y / 2=v at *
   go_upto_region 6 with fail
   go_quiet ((go_at_call 176;exact Calls.quiet_of_same (QV.out _)))
   obtain ⟨W1,hW1⟩:∃ W1,W1=wr.drewN nq:=⟨_,rfl⟩;have hb1:Below wr.heap.size wr W1:=by rw [hW1];exact Go.below_drewN (Below.refl _ _) _
   have yG:W1.heap=wr.heap:=by rw [hW1];rfl
   rw [<- hW1];rw [<- bG yG] at hci hc0;rw [<- kG yG] at hfi hf0;have NO1:=hide (fun hle=>NO.out hle W1 hb1)
   have Xn:=hide (fun hgt=>YES.out hgt W1 hb1)
   clear hW1 hb1 yG NO YES q4 r4 QV;by_cases hgt:d < lev v
   ·have hg:(d:Int) < (lev v:Int):=by omega
    have Y1:=hide (Xn.out hgt);clear NO1 Xn hgt;generalize lev v=lv at *
    by_cases hi0:i=0
    ·subst hi0;obtain rfl:=hyz.out rfl;go_upto_region 9 with fail
     go_region_with fail
     all_goals
      have Y2:=hide (Y1.out ((W1.setCell ⟨g7,1,none⟩ (.int .i64 (y:Nat))).setCell ⟨g7,0 + 1,none⟩ (.int .i64 (y:Nat))).drew (Below.refl _ _).drew);clear Y1;go_wp2;go_roundw
      case rel=>exact Y2.out _ (by go_num)
      case measure=>simp [intOf];omega
    ·have hne1:¬ (i + 1=1):=by omega
     have hne2:¬ (1=i + 1):=by omega
     go_upto_region 9 with fail
     go_region_with fail
     all_goals
      have Y2:=hide (Y1.out ((W1.setCell ⟨g7,1,none⟩ (.int .i64 (y:Nat))).setCell ⟨g7,i + 1,none⟩ (.int .i64 (z:Nat))).drew (Below.refl _ _).drew);clear Y1;go_wp2;go_roundw
      case rel=>exact Y2.out _ (by go_num)
      case measure=>simp [intOf];omega
   ·have hg:¬ ((d:Int) < (lev v:Int)):=by omega
    have N1:=hide (NO1.out (by omega))
    clear NO1 Xn;generalize lev v=lv at *
    go_wp2;go_roundw
    case rel=>exact N1.out _ (by go_num)
    case measure=>simp [intOf];omega
  ·have ei:i=bn.length:=by omega
   have F:Hid (Vk Z sb w K f V X lev pre bn (.returned (.int .i64 ((d:Nat):Int))) wr):=by
    refine ⟨d,ks,rfl,hst.out.1.perm,fun y hy=>?_,?_,hst.out.2.1,hst.out.2.2⟩
    ·obtain ⟨j,hj,rfl⟩:=List.mem_iff_getElem.1 hy;exact hst.out.1.le j hj (by omega)
    ·rcases hst.out.1.hd with ⟨e1,e2⟩ | ⟨e1,e2,e3⟩
     ·exact .inl ⟨List.eq_nil_of_length_eq_zero (by omega),e2⟩
     ·match ks,e2,e3 with
      | q :: r,_,e3=>exact .inr ⟨q,r,rfl,e3⟩
   have i1:¬ ((i:Int) + 1 < (bn.length:Int) + 1):=by omega
   clear hst hkl;go_wp2;go_ret;exact F.out
end
section
open Go Go.RowKit Go.Deep Rd
structure St where
 cs:List Rec
 tr:List Nat
 ch:List Nat
 lev:Nat->Nat
 rea:Nat->Int
 wl:Nat->List Nat
 P:Nat
 sp:Nat
 f:Nat->Value
 V:Nat->Value
 X:Nat->List Value
 gone:Nat->Prop
 ls:List (Bool × List Nat)
 L:List Cl
 m:Nat
 k:Nat
 r:Nat
 lc:Nat
 ws:Nat
 mo:Nat
 Rs:Nat->Prop
 Ro:Nat->Prop
 Rd:Nat->Prop
 Rk:Nat->Prop
def Jo (L0:List Cl) (C:eX):Prop:=∀ c ∈ L0,(∃ x ∈ c,-x ∈ c/\x ≠ 0)\/∃ a d,C a=some d/\d.kind=0/\∀ x:Int,x ∈ c↔∃ y ∈ d.lits,wr y=x
theorem Jo.same {L0:List Cl} {C C':eX} (h:Jo L0 C) (hs:Qn C C'):Jo L0 C':=fun c hc=>by
 rcases h c hc with h1 | ⟨a,d,h1,h2,h3⟩
 ·exact .inl h1
 ·rcases hs a with ⟨g,_⟩ | ⟨e,e',g1,g2,g3,g4⟩
  ·rw [h1] at g;cases g
  ·rw [h1] at g1;cases g1
   exact .inr ⟨a,e',g2,g3.trans h2,fun x=>(h3 x).trans ⟨fun ⟨y,hy,e⟩=>⟨y,g4.mem_iff.2 hy,e⟩,fun ⟨y,hy,e⟩=>⟨y,g4.mem_iff.1 hy,e⟩⟩⟩
theorem Jo.new {L0:List Cl} {C:eX} (h:Jo L0 C) {a:Nat} {c:uY} (hn:C a=none):Jo L0 (ik C a c):=fun d hd=>by
 rcases h d hd with h1 | ⟨b,e,h1,h2,h3⟩
 ·exact .inl h1
 ·refine .inr ⟨b,e,?_,h2,h3⟩;rw [aJ _ _ (fun g=>by rw [g,hn] at h1;cases h1)];exact h1
theorem Jo.met {L0:List Cl} {C:eX} {n:Nat} {tr ch:List Nat} {lev:Nat->Nat} (h:Jo L0 C) (ht:fM n tr ch lev) (hcl:uI n C) (hs:nI C tr lev tr.length) (hu:tL C tr lev) (ha:∀ v,v < n->∃ x ∈ tr,x / 2=v) (hv:∀ c ∈ L0,∀ x ∈ c,∃ y,y < 2 * n/\wr y=x):
  ∀ c ∈ L0,∃ y ∈ tr,wr y ∈ c:=fun c hc=>by
 rcases h c hc with ⟨x,h1,h2,h3⟩ | ⟨a,d,h1,h2,h3⟩
 ·obtain ⟨y,hy,rfl⟩:=hv c hc x h1;obtain ⟨z,hz,e⟩:=ha (y / 2) (by omega)
  rcases nT e with rfl | rfl
  ·exact ⟨z,hz,h1⟩
  ·exact ⟨op y,hz,by rw [Cf];exact h2⟩
 ·obtain ⟨x,k1,k2⟩:=Us ht hcl hs hu ha h1 (by rw [h2];decide)
  exact ⟨x,k2,(h3 _).2 ⟨x,k1,rfl⟩⟩
theorem Fy.congr {n:Nat} {X X':Nat->List Value} (h:Fy n X) (e:X' 6=X 6):Fy n X':=⟨by rw [e];exact h.n6,by rw [e];exact h.t6⟩
theorem Ii.congr {n:Nat} {X X':Nat->List Value} {fol:Nat->Bool} (h:Ii n X fol) (e:X' 11=X 11):Ii n X' fol:=⟨by rw [e];exact h.n11,by rw [e];exact h.t11⟩
def eQ (cs:List Rec):Nat:=cs.countP fun c=>decide (c.kind=1)
def fE (cs:List Rec):Nat:=(cs.map fun c=>if c.kind=2 then 3 + c.lits.length else 0).sum
theorem o8 (cs:List Rec) (c:Rec):eQ (cs ++ [c])=eQ cs + if c.kind=1 then 1 else 0:=by
 unfold eQ;rw [List.countP_append,List.countP_cons,List.countP_nil];simp
theorem yV (cs:List Rec) (c:Rec):fE (cs ++ [c])=fE cs + if c.kind=2 then 3 + c.lits.length else 0:=by
 unfold fE;rw [List.map_append,List.sum_append];simp
theorem CF {cs cs':List Rec} (hl:cs'.length=cs.length) (h:∀ k (h:k < cs.length) (h':k < cs'.length),(cs'[k]).kind=(cs[k]).kind/\(cs'[k]).lits.length=(cs[k]).lits.length):eQ cs'=eQ cs/\fE cs'=fE cs:=by
 have e:cs'.map (fun c=>(c.kind,c.lits.length))=cs.map (fun c=>(c.kind,c.lits.length)):=by
  refine List.ext_getElem (by simpa using hl) fun k h1 h2=>?_
  have:=h k (by simpa using h2) (by simpa using h1)
  simp [this.1,this.2]
 have a:∀ cs:List Rec,eQ cs=(cs.map fun c=>(c.kind,c.lits.length)).countP fun p=>decide (p.1=1):=fun cs=>by
  unfold eQ;rw [List.countP_map];rfl
 have b:∀ cs:List Rec,fE cs=((cs.map fun c=>(c.kind,c.lits.length)).map fun p=>if p.1=2 then 3 + p.2 else 0).sum:=fun cs=>by
  unfold fE;rw [List.map_map];rfl
 rw [a cs',a cs,b cs',b cs,e];exact ⟨rfl,rfl⟩
theorem eD.cnt {cs cs':List Rec} (h:eD cs cs'):eQ cs'=eQ cs/\fE cs'=fE cs:=CF h.1 fun k h1 h2=>⟨(h.2 k h1 h2).1,(h.2 k h1 h2).2.2.length_eq⟩
theorem bU.cnt {cs cs':List Rec} (h:bU cs cs'):eQ cs'=eQ cs/\fE cs'=fE cs:=CF h.1 fun k h1 h2=>⟨(h.2 k h1 h2).1,by rw [(h.2 k h1 h2).2]⟩
structure Main (Z:Nat->Prop) (sb ob hb kb n:Nat) (L0:List Cl) (N0:Nat) (brk:Bool) (w:World) (s:St):Prop where
 aI:oJ Z sb ob hb kb n w (16 + 2 * n) s.f s.V s.X s.gone (bJ s.ls) s.Rs s.Ro s.Rd s.Rk
 pi:PI n (mapOf s.cs) s.tr s.ch s.lev s.rea s.wl s.P
 x0:s.X 0=ints (enc s.cs)
 dx:iW n s.X s.tr s.ch s.lev s.rea
 dL:jm n s.V s.X s.wl
 lam:Fy n s.X
 n10:(s.X 10).length=n
 lD:∃ fol,Ii n s.X fol
 f0:s.f 0=.iface 105 (.pointer (some ⟨kb,0,none⟩))
 f3:s.f 3=.int .i64 ((s.lc:Nat):Int)
 f4:s.f 4=.int .i64 ((s.ws:Nat):Int)
 f7:s.f 7=.int .i64 ((s.sp:Nat):Int)
 f14:s.f 14=.bool brk
 f18:s.f 18=.int .i64 ((s.mo:Nat):Int)
 f20:s.f 20=.int .i64 ((s.r:Nat):Int)
 f21:s.f 21=.int .i64 (((50 * Lb.lub s.r s.r:Nat):Int) - ((s.k:Nat):Int))
 ze:s.sp <= s.tr.length
 late:∀ q ∈ s.ch,q <= s.P
 nH:∀ v,v < n->s.gone v->∃ x ∈ s.tr,x / 2=v
 yf:brk=false->tL (mapOf s.cs) s.tr s.lev
 bad:brk=true->bH s.L []
 lines:iD L0 (s.ls.map fun l=>(l.1,l.2.map wr)) s.L
 wK:∀ l ∈ s.ls,∀ x ∈ l.2,x < 2 * n
 qG:tQ s.L (kz s.cs)
 Cc:Jo L0 (mapOf s.cs)
 num:(enc s.cs).length <= N0 + 33 * s.m
 uM:(bJ s.ls).length + 125 * eQ s.cs <= 250 * s.m
 cnt:s.lc=eQ s.cs
 uJ:s.ws=fE s.cs
 dI:2 * s.k <= dI n (bits s.tr.length s.ch)
 lcm:s.lc <= s.m
 km:s.k <= s.m
 n30:n <= 30
def Ready (s:St):Prop:=s.P=s.sp
variable {Z:Nat->Prop} {sb ob hb kb n:Nat} {L0:List Cl} {N0:Nat} {brk:Bool} {w w':World} {s:St}
theorem Main.prf (h:Main Z sb ob hb kb n L0 N0 brk w s):(bJ s.ls).length <= 250 * s.m:=by have:=h.uM;omega
theorem Main.later (h:Main Z sb ob hb kb n L0 N0 brk w s) (hb':Below w.heap.size w w'):Main Z sb ob hb kb n L0 N0 brk w' s:={ h with aI:=h.aI.later hb' }
theorem tL.ext {C:eX} {tr lq ch:List Nat} {lev nE:Nat->Nat} (h:tL C tr lev) (ht:fM n tr ch lev) (ht':fM n lq ch nE) (he:∃ e,lq=tr ++ e):tL C lq nE:=fun a c h1 h2 h3=>by
 obtain ⟨x,g1,g2,g3⟩:=h a c h1 h2 h3;obtain ⟨e,rfl⟩:=he;obtain ⟨i,hi,ei⟩:=List.mem_iff_getElem.1 g2;refine ⟨x,g1,List.mem_append_left _ g2,?_⟩;have a1:=ht.lev i hi;have a2:=ht'.lev i (by simp;omega)
 rw [List.getElem_append_left hi] at a2;rw [ei] at a1 a2;omega
theorem Main.spread (h:Main Z sb ob hb kb n L0 N0 brk w s) {res:Int} {P sp:Nat} {cs':List Rec} {tr:List Nat} {lev:Nat->Nat} {rea:Nat->Int} {wl:Nat->List Nat} {f' V':Nat->Value} {X':Nat->List Value}
  (g:dF (zz s.Rs w) sb w (16 + 2 * n) s.f s.X n s.ch s.cs s.tr res P sp cs' tr lev rea wl f' V' X' w'):
  Main Z sb ob hb kb n L0 N0 brk w' { s with cs:=cs',tr:=tr,lev:=lev,rea:=rea,wl:=wl,P:=P,sp:=sp,f:=f',V:=V',X:=X',Rs:=(fun g=>zz s.Rs w g/\g < w'.heap.size),Rd:=(fun g=>zz s.Rd w g/\g < w'.heap.size) }/\aC Z w w':=by
 obtain ⟨t1,t2⟩:=h.aI.dH g.aG g.bD (g.ff 12 (by decide) (by decide))
 refine ⟨{
  aI:=t1
  pi:=g.pi
  x0:=g.x0
  dx:=g.dx
  dL:=g.dL
  lam:=h.lam.congr (g.only 6 (by decide) (by decide) (by decide))
  n10:=by show (X' 10).length=n;rw [g.only 10 (by decide) (by decide) (by decide)];exact h.n10
  lD:=by
   obtain ⟨fol,hf⟩:=h.lD;exact ⟨fol,hf.congr (g.only 11 (by decide) (by decide) (by decide))⟩
  f0:=(g.ff 0 (by decide) (by decide)).trans h.f0
  f3:=(g.ff 3 (by decide) (by decide)).trans h.f3
  f4:=(g.ff 4 (by decide) (by decide)).trans h.f4
  f7:=g.f7
  f14:=(g.ff 14 (by decide) (by decide)).trans h.f14
  f18:=(g.ff 18 (by decide) (by decide)).trans h.f18
  f20:=(g.ff 20 (by decide) (by decide)).trans h.f20
  f21:=(g.ff 21 (by decide) (by decide)).trans h.f21
  ze:=g.ze
  late:=g.late
  nH:=fun v hv hg=>by
   obtain ⟨x,hx,e⟩:=h.nH v hv hg;obtain ⟨ex,rfl⟩:=g.ext;exact ⟨x,List.mem_append_left _ hx,e⟩
  yf:=fun hb=>((h.yf hb).same g.perm.same).ext h.pi.aI g.pi.aI g.ext
  bad:=h.bad
  lines:=h.lines
  wK:=h.wK
  qG:=tQ.perm g.perm h.qG
  Cc:=h.Cc.same g.perm.same
  num:=by show (enc cs').length <= _;rw [g.perm.len];exact h.num
  uM:=by show (bJ s.ls).length + 125 * eQ cs' <= _;rw [g.perm.cnt.1];exact h.uM
  cnt:=by show s.lc=eQ cs';rw [g.perm.cnt.1];exact h.cnt
  uJ:=by show s.ws=fE cs';rw [g.perm.cnt.2];exact h.uJ
  dI:=J2 h.pi.aI g.pi.aI (by obtain ⟨ex,rfl⟩:=g.ext;simp) h.dI
  lcm:=h.lcm
  km:=h.km
  n30:=h.n30 },t2⟩
end
section
open Go Go.RowKit Go.Deep Rd
variable {Z:Nat->Prop} {sb ob hb kb n:Nat} {L0:List Cl} {N0:Nat} {w0 w w':World} {s:St}
structure Mid (Z:Nat->Prop) (sb ob hb kb n:Nat) (w0:World) (s:St) (l:List UInt8) (w:World) (cs:List Rec) (f V:Nat->Value) (X:Nat->List Value) (Rs Ro Rd Rk:Nat->Prop):Prop where
 aI:oJ Z sb ob hb kb n w (16 + 2 * n) f V X s.gone l Rs Ro Rd Rk
 x0:X 0=ints (enc cs)
 busy:bU s.cs cs
 dx:iW n X s.tr s.ch s.lev s.rea
 dL:jm n V X s.wl
 lam:Fy n X
 n10:(X 10).length=n
 lD:∃ fol,Ii n X fol
 ff:∀ j,j ≠ 15->j ≠ 21->j ≠ 1->f j=s.f j
 f21:f 21=.int .i64 (((50 * Lb.lub s.r s.r:Nat):Int) - ((s.k:Nat):Int) - 1)
 bD:aC Z w0 w
theorem jm.ofWK {V V':Nat->Value} {X X':Nat->List Value} {wl:Nat->List Nat} (h:jm n V X wl) (hk:WK n V' X') (h9:X' 9=X 9) (hX:∀ x,x < 2 * n->X' (16 + x)=X (16 + x)):jm n V' X' wl:=
 ⟨by rw [h9];exact h.n9,hk,fun x hx=>by rw [hX x hx];exact h.row x hx⟩
theorem Main.lea1 (h:Main Z sb ob hb kb n L0 N0 false w s):w.cell? ⟨sb,21,none⟩=some (.int .i64 (((50 * Lb.lub s.r s.r:Nat):Int) - ((s.k:Nat):Int)))/\w.frozen? ⟨sb,21,none⟩=false/\∃ Rs Rd,Mid Z sb ob hb kb n w s (bJ s.ls) (w.setCell ⟨sb,21,none⟩ (.int .i64 (((50 * Lb.lub s.r s.r:Nat):Int) - ((s.k:Nat):Int) - 1))) s.cs (upd s.f 21 (.int .i64 (((50 * Lb.lub s.r s.r:Nat):Int) - ((s.k:Nat):Int) - 1))) s.V s.X Rs s.Ro Rd s.Rk:=by
 have hh:=h.aI.duo.aG.head 21 (by omega)
 rw [h.f21] at hh;obtain ⟨t1,t2⟩:=h.aI.dH (h.aI.duo.aG.scalar 21 (.int .i64 (((50 * Lb.lub s.r s.r:Nat):Int) - ((s.k:Nat):Int) - 1)) fun k hk=>(tC k hk).2) ((aC.refl _).setCell h.aI.duo.aG.fZ _) (by rw [aa _ _ (by decide)])
 exact ⟨hh.1,hh.2,_,_,t1,h.x0,bU.refl _,h.dx,h.dL,h.lam,h.n10,h.lD,fun j h1 h2 h3=>aa _ _ h2,ae ..,t2⟩
def XC (Z:Nat->Prop) (sb ob hb kb n:Nat) (w0:World) (s:St) (c0:List Nat) (hd:0 < s.ch.length) (w:World):Prop:=
 ∃ (i:Nat) (hi:i < s.tr.length) (u:Lk) (cs:List Rec) (f V:Nat->Value) (X:Nat->List Value) (Rs Ro Rd Rk:Nat->Prop),Mid Z sb ob hb kb n w0 s (bJ s.ls) w cs f V X Rs Ro Rd Rk/\Fx n X (op s.tr[i]:Nat) u.seen u.bn/\vF s.tr s.ch s.lev (fG (mapOf s.cs) s.rea) s.ch[s.ch.length - 1] c0 (i + 1) u/\u.seen (s.tr[i] / 2)=true/\u.opn=1
theorem lea2 (h:Main Z sb ob hb kb n L0 N0 false w0 s) (hn:n <= 50) (hN:(enc s.cs).length <= 1000000000000) {k:Nat} (hk:k < s.cs.length) (hd:0 < s.ch.length) (hf:∀ y ∈ (s.cs[k]).lits,op y ∈ s.tr) {y0:Nat} (hy0:y0 ∈ (s.cs[k]).lits) (hl0:s.lev (y0 / 2)=s.ch.length)
  {f:Nat->Value} {Rs Rd:Nat->Prop} (M:Mid Z sb ob hb kb n w0 s (bJ s.ls) w s.cs f s.V s.X Rs s.Ro Rd s.Rk):
  Calls Tryz.prog 141 #[.pointer (some ⟨sb,0,none⟩),.int .i64 (aj s.cs k:Nat)] w fun e w'=>e=.returned (.tuple #[])/\XC Z sb ob hb kb n w0 s (s.cs[k]).lits hd w':=by
 refine (Ew M.aI.duo hn M.x0 hk (by omega) M.dx M.n10 M.dL.hd h.pi.aI h.pi.lK h.pi.jc hd hf hy0 hl0).mono ?_
 rintro e w' ⟨rfl,i,hi,u,cs',f',V',X',ko,vB,h1,h2,h3,h4,h5⟩;obtain ⟨t1,t2⟩:=M.aI.vQ h4.duo h4.bD;exact ⟨rfl,i,hi,u,cs',f',V',X',_,_,_,_,{
  aI:=t1
  x0:=h4.x0
  busy:=h5
  dx:=M.dx.congr fun j h1 h2=>h4.only j (by omega) (by omega) (by omega)
  dL:=M.dL.ofWK h4.wk (h4.only 9 (by decide) (by decide) (by decide)) fun x _=>h4.only _ (by omega) (by omega) (by omega)
  lam:=M.lam.congr (h4.only 6 (by decide) (by decide) (by decide))
  n10:=h4.Cb.n10
  lD:=by
   obtain ⟨fol,hf⟩:=M.lD;exact ⟨fol,hf.congr (h4.only 11 (by decide) (by decide) (by decide))⟩
  ff:=fun j h6 h7 h8=>(h4.ff j h6).trans (M.ff j h6 h7 h8)
  f21:=(h4.ff 21 (by decide)).trans M.f21
  bD:=M.bD.trans t2 },h4.Cb,h1,h2,h3⟩
def XB (Z:Nat->Prop) (sb ob hb kb n:Nat) (w0:World) (s:St) (c0:List Nat) (hd:0 < s.ch.length) (w:World):Prop:=
 ∃ (i:Nat) (hi:i < s.tr.length) (u:Lk) (fol:Nat->Bool) (cs:List Rec) (f V:Nat->Value) (X:Nat->List Value) (Rs Ro Rd Rk:Nat->Prop),Mid Z sb ob hb kb n w0 s (bJ s.ls) w cs f V X Rs Ro Rd Rk/\Fx n X (op s.tr[i]:Nat) u.seen (u.bn.filter fun y=>!bg (fG (mapOf s.cs) s.rea) fol (y / 2))/\Qj s.tr (fG (mapOf s.cs) s.rea) u.seen s.ch[s.ch.length - 1] fol/\vF s.tr s.ch s.lev (fG (mapOf s.cs) s.rea) s.ch[s.ch.length - 1] c0 (i + 1) u/\u.seen (s.tr[i] / 2)=true/\u.opn=1
theorem lea3 (h:Main Z sb ob hb kb n L0 N0 false w0 s) (hn:n <= 50) (hN:(enc s.cs).length <= 1000000000000) {c0:List Nat} {hd:0 < s.ch.length} (M:XC Z sb ob hb kb n w0 s c0 hd w):
  Calls Tryz.prog 142 #[.pointer (some ⟨sb,0,none⟩)] w fun e w'=>e=.returned (.tuple #[])/\XB Z sb ob hb kb n w0 s c0 hd w':=by
 obtain ⟨i,hi,u,cs,f,V,X,Rs,Ro,Rd,Rk,M,hL,hE,hs,ho⟩:=M;obtain ⟨Pf,hF⟩:=M.lD;have em:=M.busy.map;have el:=M.busy.len;refine (Ak (L:=s.L) M.aI.duo.aG hn M.x0 (by omega) M.dx hF hL h.pi.aI (by rw [em];exact h.pi.lK) (by rw [em];exact h.pi.jc) (by rw [em];exact h.pi.lK.trail h.pi.aI h.qG.hL) hd (fun y hy=>(hE.tail h.pi.aI hy).1) (by have:=hE.lk.len h.pi.aI;omega)).mono ?_
 rintro e w' ⟨rfl,hc,fol,v',X',h1,h2,h3,h4,h5⟩;rw [em] at h3 h4;obtain ⟨t1,t2⟩:=M.aI.dH h1 hc (aa _ _ (by decide))
 exact ⟨rfl,i,hi,u,fol,cs,_,_,X',_,_,_,_,{
  aI:=t1
  x0:=(h5 0 (by decide) (by decide)).trans M.x0
  busy:=M.busy
  dx:=M.dx.congr fun j h1 h2=>h5 j (by omega) (by omega)
  dL:=M.dL.congr (h5 9 (by decide) (by decide)) (fun x _=>aa _ _ (by omega)) fun x _=>h5 _ (by omega) (by omega)
  lam:=M.lam.congr (h5 6 (by decide) (by decide))
  n10:=by rw [h5 10 (by decide) (by decide)];exact M.n10
  lD:=⟨fol,h2⟩
  ff:=fun j h6 h7 h8=>(aa _ _ h6).trans (M.ff j h6 h7 h8)
  f21:=(aa _ _ (by decide)).trans M.f21
  bD:=M.bD.trans t2 },h4,h3,hE,hs,ho⟩
def BL (Z:Nat->Prop) (sb ob hb kb n:Nat) (w0:World) (s:St) (x:Nat) (ks:List Nat) (d:Nat) (l:List UInt8) (w:World):Prop:=
 ∃ (cs:List Rec) (f V:Nat->Value) (X:Nat->List Value) (Rs Ro Rd Rk:Nat->Prop),Mid Z sb ob hb kb n w0 s l w cs f V X Rs Ro Rd Rk/\X 7=au (x :: ks)/\Jn s.tr s.ch s.lev x ks d/\bH s.L ((x :: ks).map wr)
theorem lea4 (h:Main Z sb ob hb kb n L0 N0 false w0 s) (hn:n <= 50) {k:Nat} (hk:k < s.cs.length) (hkk:(s.cs[k]).kind ≠ 2) (hf:∀ y ∈ (s.cs[k]).lits,op y ∈ s.tr) {hd:0 < s.ch.length} (M:XB Z sb ob hb kb n w0 s (s.cs[k]).lits hd w):
  Calls Tryz.prog 143 #[.pointer (some ⟨sb,0,none⟩)] w fun e w'=>∃ x ks d,e=.returned (.int .i64 ((d:Nat):Int))/\BL Z sb ob hb kb n w0 s x ks d (bJ s.ls) w':=by
 obtain ⟨i,hi,u,fol,cs,f,V,X,Rs,Ro,Rd,Rk,M,hL,hS,hE,hs,ho⟩:=M;have hm:∀ y ∈ u.bn.filter (fun y=>!bg (fG (mapOf s.cs) s.rea) fol (y / 2)),op y ∈ s.tr/\0 < s.lev (y / 2):=fun y hy=>by
  obtain ⟨a,b,_⟩:=hE.tail h.pi.aI (List.mem_filter.1 hy).1;exact ⟨a,b⟩
 refine (yt M.aI.duo.aG hn M.dx hL.l7 (fun y hy=>by have:=uy (h.pi.aI.lt _ (hm y hy).1);rwa [gQ] at this) (fun y hy=>(hm y hy).2) (by have:=hE.lk.len h.pi.aI;have:=List.length_filter_le (fun y=>!bg (fG (mapOf s.cs) s.rea) fol (y / 2)) u.bn;omega)).mono ?_
 rintro e w' ⟨d,ks,rfl,hp,hle,hd',h1,hc⟩;obtain ⟨g1,g2⟩:=DD h.qG.hL h.pi.aI h.pi.lK hd (h.qG.hL _ _ (aP hk) hkk) hf hE hi hs ho hS hp hle hd';obtain ⟨t1,t2⟩:=M.aI.dH h1 hc rfl;exact ⟨_,ks,d,rfl,cs,f,V,_,_,_,_,_,{
  aI:=t1
  x0:=(aa _ _ (by decide)).trans M.x0
  busy:=M.busy
  dx:=M.dx.congr fun j h1 h2=>aa _ _ (by omega)
  dL:=M.dL.congr (aa _ _ (by decide)) (fun x _=>rfl) fun x _=>aa _ _ (by omega)
  lam:=M.lam.congr (aa _ _ (by decide))
  n10:=by rw [aa _ _ (by decide)];exact M.n10
  lD:=by
   obtain ⟨fol,hf⟩:=M.lD;exact ⟨fol,hf.congr (aa _ _ (by decide))⟩
  ff:=M.ff
  f21:=M.f21
  bD:=M.bD.trans t2 },by rw [ae];rfl,g1,g2⟩
theorem aQ.lies {f V:Nat->Value} {X:Nat->List Value} {K:Nat} {Z:Nat->Prop} (h:aQ Z sb w K f V X) {k j:Nat} (hk:k < K) (hj:j < K) (hkj:k ≠ j) {c:List Nat} (hX:X k=au c):LP sb (V j) w (V k) c:=by
 obtain ⟨a,cp,e⟩:=h.bC.shape hk;rw [hX,ag] at e;by_cases hc:0 < c.length
 ·obtain ⟨g,cap,cur,e2,hb,hg,hcp⟩:=h.bC.block hk (by rw [hX,ag];exact hc)
  rw [hX,ag] at e2;have hlt:=((h.bC.own k hk).lt g (by rw [e2];rfl)).2
  refine ⟨some ⟨g,0,none⟩,cap,g,0,e2,(fun h=>by cases h),fun _=>⟨rfl,hlt,h.far hk g (by rw [e2];rfl),fun e3=>?_,fun i hi=>?_⟩⟩
  ·rcases h.bC.apart k j hk hj hkj with h1 | h1
   ·rw [e2] at h1;cases h1
   ·exact h1 (by rw [e3,e2];rfl)
  ·have:=(h.bC.cell hk e2 (j:=i) (by rw [hX,ag];exact hi)).1
   rw [Nat.zero_add,this,hX,eH _ _ hi]
 ·refine ⟨a,cp,0,0,e,fun ha=>?_,fun h=>absurd h hc⟩
  subst ha
  rcases (h.bC.own k hk).2 with ⟨e2,_⟩ | ⟨g,cap,cur,e2,_⟩
  ·rw [e] at e2;exact (Value.slice.inj e2).2.2
  ·rw [e] at e2;cases (Value.slice.inj e2).1
theorem BL.head {x:Nat} {ks:List Nat} {d:Nat} {l:List UInt8} (M:BL Z sb ob hb kb n w0 s x ks d l w):∃ g c,w.cell? ⟨sb,15,none⟩=some (.slice (some ⟨g,0,none⟩) (ks.length + 1) c):=by
 obtain ⟨cs,f,V,X,Rs,Ro,Rd,Rk,M,h7,_⟩:=M;obtain ⟨g,cap,t,e,q,_⟩:=M.aI.duo.aG.elem (k:=7) (j:=0) (n:=ks.length + 1) (by omega) (by rw [h7,ag];rfl) (by omega)
 exact ⟨g,cap,q⟩
theorem vz {K:Nat} {f V:Nat->Value} {X:Nat->List Value} {gone Rs Ro Rd Rk:Nat->Prop} {l:List UInt8} {c:List Nat} (T:oJ Z sb ob hb kb n w K f V X gone l Rs Ro Rd Rk) (hn:n <= 50) (f0:f 0=.iface 105 (.pointer (some ⟨kb,0,none⟩))) (v:Value) (hL:LP sb (V 12) w v c) (hc:c.length <= 50) (hlt:∀ x ∈ c,x < 2 * n) (hlen:l.length <= 70368744177664):
  Calls Tryz.prog 100 #[.pointer (some ⟨sb,0,none⟩),v] w fun e w'=>e=.returned .nilIface/\aC Z w w'/\∃ v' X' ko Rd' Fp,oJ Z sb ob hb kb n w' K (upd f 1 v') (upd V 12 v') (upd X 12 X') gone (l ++ (jS false c ++ [10])) ko Ro Rd' Fp:=by
 have QW:=hide (yS T hn f0 ⟨#[]⟩ (by decide) v hL hc hlt hlen)
 have E:bu (⟨#[]⟩:ByteArray).data.toList c c.length ++ [48,10]=jS false c ++ [10]:=by
  unfold bu jS;rw [List.take_length];simp
 rw [E] at QW;clear T hL E;go_enter Tryz.func100,Tryz.ntmps100
 go_wp2_with (go_at_call 140;refine QW.out.mono ?_;rintro e1 w1 ⟨rfl,hc1,v1,qb,Rd1,Rk1,ht1⟩;have C1:=hide hc1;have T1:=hide ht1;clear hc1 ht1;simp only [])
 go_ret
 exact ⟨rfl,C1.out,_,_,_,_,_,T1.out⟩
end
end So
end Go.Proofs.YtceahffmenbibaaGreatDoor
