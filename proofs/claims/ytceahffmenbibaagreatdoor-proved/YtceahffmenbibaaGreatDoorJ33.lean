/- Sput Ssta Slea Sleb. -/
import Derived.Test.YtceahffmenbibaaGreatDoorJ09
import Derived.Test.YtceahffmenbibaaGreatDoorJ29
import Derived.Test.YtceahffmenbibaaGreatDoorJ30
import Derived.Test.YtceahffmenbibaaGreatDoorJ32
import Derived.Test.YtceahffmenbibaaGreatDoorJ02
import Derived.Test.YtceahffmenbibaaGreatDoorJ05
set_option linter.unusedVariables false
set_option linter.unusedSimpArgs false
set_option maxHeartbeats 4000000
set_option maxRecDepth 100000
namespace Go.Proofs.YtceahffmenbibaaGreatDoor
namespace So
section
open Go Go.RowKit Go.Deep Rd
section
variable {Z:Nat->Prop} {sb K n:Nat} {w:World} {f V:Nat->Value} {X:Nat->List Value} {tr ch:List Nat} {lev:Nat->Nat} {dB:Nat->Int}
structure Sv (lev:Nat->Nat) (iR ks:List Nat) (i d:Nat):Prop where
 perm:ks.Perm iR
 le:∀ j (h:j < ks.length),j < i->lev (ks[j] / 2) <= d
 hd:(i=0/\d=0)\/(0 < i/\∃ h:0 < ks.length,lev (ks[0] / 2)=d)
theorem Sv.Pw {a ks:List Nat} {i d:Nat} (h:Sv lev a ks i d) (m:i < ks.length) (g:lev (ks[i] / 2) <= d) (o:0 < lev (ks[i] / 2)):Sv lev a ks (i + 1) d where
 perm:=h.perm
 le:=fun j k b=>by
  rcases Nat.lt_succ_iff_lt_or_eq.1 b with c | c
  ·exact h.le j k c
  ·subst c;exact g
 hd:=by
  rcases h.hd with ⟨l,e⟩ | ⟨l,e⟩
  ·omega
  ·exact .inr ⟨by omega,e⟩
theorem GH {l:List Nat} {i:Nat} (c:i < l.length) (g:0 < l.length):((l.set 0 l[i]).set i l[0]).Perm l:=by
 by_cases e:i=0
 ·subst e;have:(l.set 0 l[0]).set 0 l[0]=l:=by rw [List.set_set,List.set_getElem_self]
  rw [this]
 ·match l,g with
  | a :: r,_=>
   obtain ⟨k,rfl⟩:∃ k,i=k + 1:=⟨i - 1,by omega⟩;have b:k < r.length:=by simpa using c
   simp only [List.getElem_cons_succ,List.set_cons_zero,List.set_cons_succ,List.getElem_cons_zero];have j:r=r.take k ++ r[k] :: r.drop (k + 1):=by rw [<- List.drop_eq_getElem_cons b,List.take_append_drop]
   have h:r.set k a=r.take k ++ a :: r.drop (k + 1):=by rw [List.set_eq_take_append_cons_drop,if_pos b]
   rw [h]
   conv=>rhs;rw [j]
   have p1:(r.take k ++ a :: r.drop (k + 1)).Perm (a :: (r.take k ++ r.drop (k + 1))):=List.perm_middle;have p2:(r.take k ++ r[k] :: r.drop (k + 1)).Perm (r[k] :: (r.take k ++ r.drop (k + 1))):=List.perm_middle;exact ((p1.cons r[k]).trans (List.Perm.swap ..)).trans (p2.symm.cons a)
theorem Sv.LW {a ks:List Nat} {i d:Nat} (h:Sv lev a ks i d) (l:i < ks.length) (o:d < lev (ks[i] / 2)):Sv lev a ((ks.set 0 ks[i]).set i (ks[0]'(by omega))) (i + 1) (lev (ks[i] / 2)) where
 perm:=(GH l (by omega)).trans h.perm
 le:=fun j k b=>by
  have c:j < ks.length:=by simpa using k
  rcases Nat.lt_succ_iff_lt_or_eq.1 b with g | g
  ·rw [List.getElem_set_ne (by omega)];by_cases e:j=0
   ·subst e;rw [List.getElem_set_self];exact lr
   ·rw [List.getElem_set_ne (fun m=>e m.symm)];have:=h.le j c g;omega
  ·subst g;rw [List.getElem_set_self];by_cases e:j=0
   ·subst e;exact lr
   ·have:=h.le 0 (by omega) (by omega);omega
 hd:=.inr ⟨by omega,by simp;omega,by
  by_cases e:i=0
  ·subst e;rw [List.getElem_set_self]
  ·rw [List.getElem_set_ne e,List.getElem_set_self]⟩
def OI (Z:Nat->Prop) (sb:Nat) (w:World) (K:Nat) (f V:Nat->Value) (X:Nat->List Value) (lev:Nat->Nat) (pre:Int) (iR:List Nat) (s3 s5:Value) (wr:World):Prop:=
 ∃ (i d:Nat) (ks:List Nat),s3=.int .i64 ((d:Nat):Int)/\s5=.int .i64 ((i + 1:Nat):Int)/\i <= iR.length/\Hid (Sv lev iR ks i d/\dX Z sb wr K f V (upd X 7 (.int .i64 pre :: dC ks))/\dD Z w wr)
def Su (Z:Nat->Prop) (sb:Nat) (w:World) (K:Nat) (f V:Nat->Value) (X:Nat->List Value) (lev:Nat->Nat) (pre:Int) (iR:List Nat) (e:Ending) (w':World):Prop:=
 ∃ (d:Nat) (ks:List Nat),e=.returned (.int .i64 ((d:Nat):Int))/\ks.Perm iR/\(∀ y ∈ ks,lev (y / 2) <= d)/\((ks=[]/\d=0)\/∃ q r,ks=q :: r/\lev (q / 2)=d)/\dX Z sb w' K f V (upd X 7 (.int .i64 pre :: dC ks))/\dD Z w w'
theorem zA {pre:Int} {c:List Nat} (h:dX Z sb w K f V X) (hn:n <= 50) (hT:ou n X tr ch lev dB) (h7:X 7=.int .i64 pre :: dC c) (t:∀ y ∈ c,y < 2 * n) (D:∀ y ∈ c,0 < lev (y / 2)) (ao:c.length <= 50):
  Calls Tryz.prog 143 #[.pointer (some ⟨sb,0,none⟩)] w fun e w'=>Su Z sb w K f V X lev pre c e w':=by
 have hK:=h.hK;have l7:(X 7).length=c.length + 1:=by rw [h7];simp [dh]
 obtain ⟨l,c7,t7,e7,q7,-⟩:=h.elem (k:=7) (j:=0) (by omega) l7 (by omega);rw [show cellOf 7=15 from rfl] at q7;have S0:Hid (Sv lev c c 0 0/\dX Z sb w K f V (upd X 7 (.int .i64 pre :: dC c))/\dD Z w w):=⟨⟨.refl _,fun j _ h=>absurd h (Nat.not_lt_zero _),.inl ⟨rfl,rfl⟩⟩,by rw [<- h7,upd_same];exact h,dD.refl _⟩;have aj:Hid (∀ wr ks,ks.length=c.length->dX Z sb wr K f V (upd X 7 (.int .i64 pre :: dC ks))->(∀ i (hi:i < ks.length),wr.cell? ⟨l,i + 1,none⟩=some (.int .i64 (ks[i]:Nat))/\wr.frozen? ⟨l,i + 1,none⟩=false)/\∀ v,v < n->∃ U c4,wr.cell? ⟨sb,10,none⟩=some (.slice (some ⟨U,0,none⟩) n c4)/\wr.cell? ⟨U,v,none⟩=some (.int .i64 (lev v:Nat))):=fun wr ks m P=>by
  refine ⟨fun i hi=>?_,fun v hv=>?_⟩
  ·obtain ⟨a,b⟩:=P.fG.cell (k:=7) (by omega) e7 (j:=i + 1) (by rw [cK];simp [dh];omega);rw [cK,List.getElem?_cons_succ,iZ _ _ hi] at a;exact ⟨a,b⟩
  ·obtain ⟨U,c4,t4,e4,q4,r4,s4,-⟩:=P.elem (k:=4) (j:=v) (by omega) (by rw [cu _ _ (by decide)];exact hT.n4) hv;rw [cu _ _ (by decide),hT.t4 v hv] at s4;obtain rfl:=Option.some.inj s4;exact ⟨U,c4,q4,r4⟩
 have ah:Hid (∀ (wr Y:World) (ks:List Nat) i (hi:i < ks.length),ks.length=c.length->dX Z sb Y K f V (upd X 7 (.int .i64 pre :: dC ks))->dX Z sb ((Y.setCell ⟨l,1,none⟩ (.int .i64 (ks[i]:Nat))).setCell ⟨l,i + 1,none⟩ (.int .i64 ((ks[0]'(by omega):Nat):Int))) K f V (upd X 7 (.int .i64 pre :: dC ((ks.set 0 ks[i]).set i (ks[0]'(by omega)))))):=fun wr Y ks i hi m P=>by
  have O:=(P.set (k:=7) (by omega) e7 1 (.int .i64 (ks[i]:Nat))).set (k:=7) (by omega) e7 (i + 1) (.int .i64 ((ks[0]'(by omega):Nat):Int));rw [cK,cK,gm,gm] at O;rw [show (1:Nat)=0 + 1 from rfl,List.set_cons_succ,List.set_cons_succ,oI,oI] at O;exact O
 have zg:Z l:=h.al 7 (by omega) l (by rw [e7];rfl);have ai:=hide t;have ab:=hide D;clear h hT h7 l7 e7 t D;go_enter Tryz.func143,Tryz.ntmps143
 go_wp2_with fail
 go_loopw [3,5,6] (fun s3 s5 _ wr=>OI Z sb w K f V X lev pre c s3 s5 wr) (fun _ s5 _ _=>c.length + 1 - (intOf s5).toNat)
 case atStart=>exact ⟨0,0,c,rfl,rfl,zl,S0⟩
 case round=>
  clear S0 q7;obtain ⟨i,d,ks,rfl,rfl,ap,g⟩:=hrel;have m:ks.length=c.length:=g.out.1.perm.length_eq;by_cases t:i < c.length
  ·obtain ⟨c1,c2⟩:=aj.out wr ks m g.out.2.1;have u:i < ks.length:=by omega
   obtain ⟨R,af⟩:=c1 i u;obtain ⟨S,ag⟩:=c1 0 (by omega);have H:ks[i] ∈ c:=g.out.1.perm.mem_iff.1 (List.getElem_mem _);obtain ⟨y,p⟩:∃ y,y=ks[i]:=⟨_,rfl⟩;have an:y < 2 * n:=by rw [p];exact ai.out _ H
   have ad:0 < lev (y / 2):=by rw [p];exact ab.out _ H
   obtain ⟨U,aq,q4,r4⟩:=c2 (y / 2) (by omega);have QV:Hid (∀ Y,Calls Tryz.prog 176 #[.int .i64 (y:Nat)] Y fun e w'=>e=.returned (.int .i64 ((y / 2:Nat):Int))/\w'=Y):=fun Y=>fB y Y (by omega)
   have SW:=hide (fun Y P=>ah.out wr Y ks i u m P);obtain ⟨z,Q⟩:∃ z,z=ks[0]'(by omega):=⟨_,rfl⟩;rw [<- p] at R;rw [<- Q] at S;have NO:Hid (lev (y / 2) <= d->∀ W,Below wr.heap.size wr W->∀ G,G=.int .i64 ((i + 1 + 1:Nat):Int)->OI Z sb w K f V X lev pre c (.int .i64 ((d:Nat):Int)) G W):=fun J W hW G I=>⟨i + 1,d,ks,rfl,I,t,g.out.1.Pw u (by rw [<- p];exact J) (by rw [<- p];exact ad),g.out.2.1.later hW,g.out.2.2.trans (dD.of_below hW)⟩
   have aa:Hid (d < lev (y / 2)->∀ Y,Below wr.heap.size wr Y->∀ W',Below ((Y.setCell ⟨l,1,none⟩ (.int .i64 (y:Nat))).setCell ⟨l,i + 1,none⟩ (.int .i64 (z:Nat))).heap.size ((Y.setCell ⟨l,1,none⟩ (.int .i64 (y:Nat))).setCell ⟨l,i + 1,none⟩ (.int .i64 (z:Nat))) W'->∀ G,G=.int .i64 ((i + 1 + 1:Nat):Int)->OI Z sb w K f V X lev pre c (.int .i64 ((lev (y / 2):Nat):Int)) G W'):=fun o Y hY W' T G I=>by
    have O:=SW.out Y (g.out.2.1.later hY);rw [<- p,<- Q] at O;have p1:=g.out.1.LW u (by rw [<- p];exact o);rw [<- p,<- Q] at p1;exact ⟨i + 1,_,_,rfl,I,t,p1,O.later T,(((g.out.2.2.trans (dD.of_below hY)).setCell zg _).setCell zg _).trans (dD.of_below T)⟩
   have v0:(0:Int) <= ((y / 2:Nat):Int):=by omega
   have v1:((y / 2:Nat):Int) < (n:Int):=by omega
   have i0:(0:Int) <= (i:Int) + 1:=by omega
   have i1:(i:Int) + 1 < (c.length:Int) + 1:=by omega
   have i2:(i:Int) + 1 <= 51:=by omega
   have i3:((i:Int) + 1).toNat=i + 1:=by omega
   have i4:(1:Int) < (c.length:Int) + 1:=by omega
   have ac:Hid (i=0->y=z):=fun e=>by subst e;rw [p,Q]
   clear g p Q c1 c2 SW H m u;generalize y / 2=v at *
   go_upto_region 6 with fail
   go_quiet ((go_at_call 176;exact Calls.quiet_of_same (QV.out _)))
   obtain ⟨E,C⟩:∃ E,E=wr.drewN nq:=⟨_,rfl⟩;have M:Below wr.heap.size wr E:=by rw [C];exact Go.below_drewN bR _
   have L:E.heap=wr.heap:=by rw [C];rfl
   rw [<- C];rw [<- gy L] at R S;rw [<- nH L] at af ag;have N:=hide (fun J=>NO.out J E M);have B:=hide (fun o=>aa.out o E M);clear C M L NO aa q4 r4 QV;by_cases o:d < lev v
   ·have hg:(d:Int) < (lev v:Int):=by omega
    have Y1:=hide (B.out o);clear N B o;generalize lev v=lv at *
    by_cases ae:i=0
    ·subst ae;obtain rfl:=ac.out rfl;go_upto_region 9 with fail
     go_region_with fail
     all_goals
      have Y2:=hide (Y1.out ((E.setCell ⟨l,1,none⟩ (.int .i64 (y:Nat))).setCell ⟨l,0 + 1,none⟩ (.int .i64 (y:Nat))).drew bR.drew);clear Y1;go_wp2;go_roundw
      case rel=>exact Y2.out _ (by go_num)
      case measure=>simp [intOf];omega
    ·have am:¬ (i + 1=1):=by omega
     have ak:¬ (1=i + 1):=by omega
     go_upto_region 9 with fail
     go_region_with fail
     all_goals
      have Y2:=hide (Y1.out ((E.setCell ⟨l,1,none⟩ (.int .i64 (y:Nat))).setCell ⟨l,i + 1,none⟩ (.int .i64 (z:Nat))).drew bR.drew);clear Y1;go_wp2;go_roundw
      case rel=>exact Y2.out _ (by go_num)
      case measure=>simp [intOf];omega
   ·have hg:¬ ((d:Int) < (lev v:Int)):=by omega
    have N1:=hide (N.out (by omega));clear N B;generalize lev v=lv at *
    go_wp2;go_roundw
    case rel=>exact N1.out _ (by go_num)
    case measure=>simp [intOf];omega
  ·have ei:i=c.length:=by omega
   have F:Hid (Su Z sb w K f V X lev pre c (.returned (.int .i64 ((d:Nat):Int))) wr):=by
    refine ⟨d,ks,rfl,g.out.1.perm,fun y p=>?_,?_,g.out.2.1,g.out.2.2⟩
    ·obtain ⟨j,hj,rfl⟩:=List.mem_iff_getElem.1 p;exact g.out.1.le j hj (by omega)
    ·rcases g.out.1.hd with ⟨e1,e2⟩ | ⟨e1,e2,e3⟩
     ·exact .inl ⟨List.eq_nil_of_length_eq_zero (by omega),e2⟩
     ·match ks,e2,e3 with
      | q :: r,_,e3=>exact .inr ⟨q,r,rfl,e3⟩
   have i1:¬ ((i:Int) + 1 < (c.length:Int) + 1):=by omega
   clear g m;go_wp2;go_ret;exact F.out
end
section
structure St where
 cs:List Rec
 tr:List Nat
 ch:List Nat
 lev:Nat->Nat
 dB:Nat->Int
 wl:Nat->List Nat
 P:Nat
 sp:Nat
 f:Nat->Value
 V:Nat->Value
 X:Nat->List Value
 gone:Nat->Prop
 ls:List (Bool × List Nat)
 L:List Cl
 m:Nat
 k:Nat
 r:Nat
 lc:Nat
 ws:Nat
 mo:Nat
 Rs:Nat->Prop
 Ro:Nat->Prop
 Rd:Nat->Prop
 Rk:Nat->Prop
def RJ (L0:List Cl) (C:jy):Prop:=∀ c ∈ L0,(∃ x ∈ c,-x ∈ c/\x ≠ 0)\/∃ a d,C a=some d/\d.kind=0/\∀ x:Int,x ∈ c↔∃ y ∈ d.lits,wr y=x
theorem RJ.same {L0:List Cl} {C k:jy} (h:RJ L0 C) (l:OG C k):RJ L0 k:=fun c m=>by
 rcases h c m with b | ⟨a,d,b,p,o⟩
 ·exact .inl b
 ·rcases l a with ⟨g,_⟩ | ⟨e,r,g1,g2,q,j⟩
  ·rw [b] at g;cases g
  ·rw [b] at g1;cases g1
   exact .inr ⟨a,r,g2,q.trans p,fun x=>(o x).trans ⟨fun ⟨y,i,e⟩=>⟨y,j.mem_iff.2 i,e⟩,fun ⟨y,i,e⟩=>⟨y,j.mem_iff.1 i,e⟩⟩⟩
theorem RJ.new {L0:List Cl} {C:jy} (h:RJ L0 C) {a:Nat} {c:zi} (j:C a=none):RJ L0 (jZ C a c):=fun d hd=>by
 rcases h d hd with i | ⟨b,e,i,l,k⟩
 ·exact .inl i
 ·refine .inr ⟨b,e,?_,l,k⟩;rw [dJ _ _ (fun g=>by rw [g,j] at i;cases i)];exact i
theorem RJ.met {L0:List Cl} {C:jy} {n:Nat} {tr ch:List Nat} {lev:Nat->Nat} (h:RJ L0 C) (t:jm n tr ch lev) (g:Dr n C) (u:sO C tr lev tr.length) (r:wR C tr lev) (l:∀ v,v < n->∃ x ∈ tr,x / 2=v) (q:∀ c ∈ L0,∀ x ∈ c,∃ y,y < 2 * n/\wr y=x):
  ∀ c ∈ L0,∃ y ∈ tr,wr y ∈ c:=fun c k=>by
 rcases h c k with ⟨x,b,i,m⟩ | ⟨a,d,b,i,m⟩
 ·obtain ⟨y,A,rfl⟩:=q c k x b;obtain ⟨z,j,e⟩:=l (y / 2) (by omega)
  rcases qE e with rfl | rfl
  ·exact ⟨z,j,b⟩
  ·exact ⟨op y,j,by rw [Dt];exact i⟩
 ·obtain ⟨x,p,o⟩:=Rp t g u r l b (by rw [i];decide);exact ⟨x,o,(m _).2 ⟨x,p,rfl⟩⟩
theorem Ga.congr {n:Nat} {X X':Nat->List Value} (h:Ga n X) (e:X' 6=X 6):Ga n X':=⟨by rw [e];exact h.n6,by rw [e];exact h.t6⟩
theorem Iq.congr {n:Nat} {X X':Nat->List Value} {fol:Nat->Bool} (h:Iq n X fol) (e:X' 11=X 11):Iq n X' fol:=⟨by rw [e];exact h.n11,by rw [e];exact h.t11⟩
def pJ (cs:List Rec):Nat:=cs.countP fun c=>decide (c.kind=1)
def sj (cs:List Rec):Nat:=(cs.map fun c=>if c.kind=2 then 3 + c.lits.length else 0).sum
theorem rD (cs:List Rec) (c:Rec):pJ (cs ++ [c])=pJ cs + if c.kind=1 then 1 else 0:=by
 unfold pJ;rw [List.countP_append,List.countP_cons,List.countP_nil];simp
theorem zT (cs:List Rec) (c:Rec):sj (cs ++ [c])=sj cs + if c.kind=2 then 3 + c.lits.length else 0:=by
 unfold sj;rw [List.map_append,List.sum_append];simp
theorem DX {cs g:List Rec} (i:g.length=cs.length) (h:∀ k (h:k < cs.length) (h':k < g.length),(g[k]).kind=(cs[k]).kind/\(g[k]).lits.length=(cs[k]).lits.length):pJ g=pJ cs/\sj g=sj cs:=by
 have e:g.map (fun c=>(c.kind,c.lits.length))=cs.map (fun c=>(c.kind,c.lits.length)):=by
  refine List.ext_getElem (by simpa using i) fun k l j=>?_
  have:=h k (by simpa using j) (by simpa using l);simp [this.1,this.2]
 have a:∀ cs:List Rec,pJ cs=(cs.map fun c=>(c.kind,c.lits.length)).countP fun p=>decide (p.1=1):=fun cs=>by
  unfold pJ;rw [List.countP_map];rfl
 have b:∀ cs:List Rec,sj cs=((cs.map fun c=>(c.kind,c.lits.length)).map fun p=>if p.1=2 then 3 + p.2 else 0).sum:=fun cs=>by
  unfold sj;rw [List.map_map];rfl
 rw [a g,a cs,b g,b cs,e];exact ⟨rfl,rfl⟩
theorem iA.cnt {cs a:List Rec} (h:iA cs a):pJ a=pJ cs/\sj a=sj cs:=DX h.1 fun k c b=>⟨(h.2 k c b).1,(h.2 k c b).2.2.length_eq⟩
theorem iC.cnt {cs a:List Rec} (h:iC cs a):pJ a=pJ cs/\sj a=sj cs:=DX h.1 fun k c b=>⟨(h.2 k c b).1,by rw [(h.2 k c b).2]⟩
structure Main (Z:Nat->Prop) (sb ob hb kb n:Nat) (L0:List Cl) (N0:Nat) (brk:Bool) (w:World) (s:St):Prop where
 dN:sN Z sb ob hb kb n w (16 + 2 * n) s.f s.V s.X s.gone (dW s.ls) s.Rs s.Ro s.Rd s.Rk
 pi:PI n (mapOf s.cs) s.tr s.ch s.lev s.dB s.wl s.P
 x0:s.X 0=ints (enc s.cs)
 iD:ou n s.X s.tr s.ch s.lev s.dB
 jk:qh n s.V s.X s.wl
 lam:Ga n s.X
 n10:(s.X 10).length=n
 p9:∃ fol,Iq n s.X fol
 f0:s.f 0=.iface 105 (.pointer (some ⟨kb,0,none⟩))
 f3:s.f 3=.int .i64 ((s.lc:Nat):Int)
 f4:s.f 4=.int .i64 ((s.ws:Nat):Int)
 f7:s.f 7=.int .i64 ((s.sp:Nat):Int)
 f14:s.f 14=.bool brk
 f18:s.f 18=.int .i64 ((s.mo:Nat):Int)
 f20:s.f 20=.int .i64 ((s.r:Nat):Int)
 f21:s.f 21=.int .i64 (((50 * Lb.lub s.r s.r:Nat):Int) - ((s.k:Nat):Int))
 Gg:s.sp <= s.tr.length
 late:∀ q ∈ s.ch,q <= s.P
 sQ:∀ v,v < n->s.gone v->∃ x ∈ s.tr,x / 2=v
 Dk:brk=false->wR (mapOf s.cs) s.tr s.lev
 bad:brk=true->Dq s.L []
 lines:nW L0 (s.ls.map fun l=>(l.1,l.2.map wr)) s.L
 Lf:∀ l ∈ s.ls,∀ x ∈ l.2,x < 2 * n
 Cr:Dc s.L (xW s.cs)
 Jd:RJ L0 (mapOf s.cs)
 num:(enc s.cs).length <= N0 + 33 * s.m
 Le:(dW s.ls).length + 125 * pJ s.cs <= 250 * s.m
 cnt:s.lc=pJ s.cs
 Lj:s.ws=sj s.cs
 ic:2 * s.k <= ic n (bits s.tr.length s.ch)
 lcm:s.lc <= s.m
 km:s.k <= s.m
 n30:n <= 30
def Ready (s:St):Prop:=s.P=s.sp
variable {Z:Nat->Prop} {sb ob hb kb n:Nat} {L0:List Cl} {N0:Nat} {brk:Bool} {w w':World} {s:St}
theorem Main.Vh (h:Main Z sb ob hb kb n L0 N0 brk w s):(dW s.ls).length <= 250 * s.m:=by have:=h.Le;omega
theorem Main.later (h:Main Z sb ob hb kb n L0 N0 brk w s) (a:Below w.heap.size w w'):Main Z sb ob hb kb n L0 N0 brk w' s:={ h with dN:=h.dN.later a }
theorem wR.ext {C:jy} {tr zW ch:List Nat} {lev uQ:Nat->Nat} (h:wR C tr lev) (k:jm n tr ch lev) (b:jm n zW ch uQ) (l:∃ e,zW=tr ++ e):wR C zW uQ:=fun a c p o m=>by
 obtain ⟨x,g1,g2,t⟩:=h a c p o m;obtain ⟨e,rfl⟩:=l;obtain ⟨i,g,q⟩:=List.mem_iff_getElem.1 g2;refine ⟨x,g1,List.mem_append_left _ g2,?_⟩;have r:=k.lev i g;have j:=b.lev i (by simp;omega);rw [List.getElem_append_left g] at j;rw [q] at r j;omega
theorem Main.spread (h:Main Z sb ob hb kb n L0 N0 brk w s) {b:Int} {P sp:Nat} {a:List Rec} {tr:List Nat} {lev:Nat->Nat} {dB:Nat->Int} {wl:Nat->List Nat} {i j:Nat->Value} {X':Nat->List Value}
  (g:fo (zz s.Rs w) sb w (16 + 2 * n) s.f s.X n s.ch s.cs s.tr b P sp a tr lev dB wl i j X' w'):
  Main Z sb ob hb kb n L0 N0 brk w' { s with cs:=a,tr:=tr,lev:=lev,dB:=dB,wl:=wl,P:=P,sp:=sp,f:=i,V:=j,X:=X',Rs:=(fun g=>zz s.Rs w g/\g < w'.heap.size),Rd:=(fun g=>zz s.Rd w g/\g < w'.heap.size) }/\dD Z w w':=by
 obtain ⟨l,k⟩:=h.dN.iL g.dM g.fV (g.ff 12 (by decide) (by decide));refine ⟨{
  dN:=l
  pi:=g.pi
  x0:=g.x0
  iD:=g.iD
  jk:=g.jk
  lam:=h.lam.congr (g.only 6 (by decide) (by decide) (by decide))
  n10:=by show (X' 10).length=n;rw [g.only 10 (by decide) (by decide) (by decide)];exact h.n10
  p9:=by
   obtain ⟨c,q⟩:=h.p9;exact ⟨c,q.congr (g.only 11 (by decide) (by decide) (by decide))⟩
  f0:=(g.ff 0 (by decide) (by decide)).trans h.f0
  f3:=(g.ff 3 (by decide) (by decide)).trans h.f3
  f4:=(g.ff 4 (by decide) (by decide)).trans h.f4
  f7:=g.f7
  f14:=(g.ff 14 (by decide) (by decide)).trans h.f14
  f18:=(g.ff 18 (by decide) (by decide)).trans h.f18
  f20:=(g.ff 20 (by decide) (by decide)).trans h.f20
  f21:=(g.ff 21 (by decide) (by decide)).trans h.f21
  Gg:=g.Gg
  late:=g.late
  sQ:=fun v o p=>by
   obtain ⟨x,m,e⟩:=h.sQ v o p;obtain ⟨r,rfl⟩:=g.ext;exact ⟨x,List.mem_append_left _ m,e⟩
  Dk:=fun hb=>((h.Dk hb).same g.perm.same).ext h.pi.dN g.pi.dN g.ext
  bad:=h.bad
  lines:=h.lines
  Lf:=h.Lf
  Cr:=Dc.perm g.perm h.Cr
  Jd:=h.Jd.same g.perm.same
  num:=by show (enc a).length <= _;rw [g.perm.len];exact h.num
  Le:=by show (dW s.ls).length + 125 * pJ a <= _;rw [g.perm.cnt.1];exact h.Le
  cnt:=by show s.lc=pJ a;rw [g.perm.cnt.1];exact h.cnt
  Lj:=by show s.ws=sj a;rw [g.perm.cnt.2];exact h.Lj
  ic:=JY h.pi.dN g.pi.dN (by obtain ⟨r,rfl⟩:=g.ext;simp) h.ic
  lcm:=h.lcm
  km:=h.km
  n30:=h.n30 },k⟩
end
section
variable {Z:Nat->Prop} {sb ob hb kb n:Nat} {L0:List Cl} {N0:Nat} {w0 w w':World} {s:St}
structure Mid (Z:Nat->Prop) (sb ob hb kb n:Nat) (w0:World) (s:St) (l:List UInt8) (w:World) (cs:List Rec) (f V:Nat->Value) (X:Nat->List Value) (Rs Ro Rd Rk:Nat->Prop):Prop where
 dN:sN Z sb ob hb kb n w (16 + 2 * n) f V X s.gone l Rs Ro Rd Rk
 x0:X 0=ints (enc cs)
 busy:iC s.cs cs
 iD:ou n X s.tr s.ch s.lev s.dB
 jk:qh n V X s.wl
 lam:Ga n X
 n10:(X 10).length=n
 p9:∃ fol,Iq n X fol
 ff:∀ j,j ≠ 15->j ≠ 21->j ≠ 1->f j=s.f j
 f21:f 21=.int .i64 (((50 * Lb.lub s.r s.r:Nat):Int) - ((s.k:Nat):Int) - 1)
 fV:dD Z w0 w
theorem qh.VF {V b:Nat->Value} {X X':Nat->List Value} {wl:Nat->List Nat} (h:qh n V X wl) (c:WK n b X') (g:X' 9=X 9) (e:∀ x,x < 2 * n->X' (16 + x)=X (16 + x)):qh n b X' wl:=
 ⟨by rw [g];exact h.n9,c,fun x a=>by rw [e x a];exact h.row x a⟩
theorem Main.VR (h:Main Z sb ob hb kb n L0 N0 false w s):w.cell? ⟨sb,21,none⟩=some (.int .i64 (((50 * Lb.lub s.r s.r:Nat):Int) - ((s.k:Nat):Int)))/\w.frozen? ⟨sb,21,none⟩=false/\∃ i l,Mid Z sb ob hb kb n w s (dW s.ls) (w.setCell ⟨sb,21,none⟩ (.int .i64 (((50 * Lb.lub s.r s.r:Nat):Int) - ((s.k:Nat):Int) - 1))) s.cs (upd s.f 21 (.int .i64 (((50 * Lb.lub s.r s.r:Nat):Int) - ((s.k:Nat):Int) - 1))) s.V s.X i s.Ro l s.Rk:=by
 have a:=h.dN.duo.dM.head 21 (by omega);rw [h.f21] at a;obtain ⟨c,b⟩:=h.dN.iL (h.dN.duo.dM.scalar 21 (.int .i64 (((50 * Lb.lub s.r s.r:Nat):Int) - ((s.k:Nat):Int) - 1)) fun k e=>(vw k e).2) ((dD.refl _).setCell h.dN.duo.dM.jA _) (by rw [cu _ _ (by decide)]);exact ⟨a.1,a.2,_,_,c,h.x0,iC.refl _,h.iD,h.jk,h.lam,h.n10,h.p9,fun j o g m=>cu _ _ g,cK ..,b⟩
def Uf (Z:Nat->Prop) (sb ob hb kb n:Nat) (w0:World) (s:St) (c0:List Nat) (hd:0 < s.ch.length) (w:World):Prop:=
 ∃ (i:Nat) (hi:i < s.tr.length) (u:Lk) (cs:List Rec) (f V:Nat->Value) (X:Nat->List Value) (Rs Ro Rd Rk:Nat->Prop),Mid Z sb ob hb kb n w0 s (dW s.ls) w cs f V X Rs Ro Rd Rk/\F9 n X (op s.tr[i]:Nat) u.seen u.iR/\wU s.tr s.ch s.lev (iU (mapOf s.cs) s.dB) s.ch[s.ch.length - 1] c0 (i + 1) u/\u.seen (s.tr[i] / 2)=true/\u.opn=1
theorem VQ (h:Main Z sb ob hb kb n L0 N0 false w0 s) (z:n <= 50) (R:(enc s.cs).length <= 1000000000000) {k:Nat} (B:k < s.cs.length) (hd:0 < s.ch.length) (g:∀ y ∈ (s.cs[k]).lits,op y ∈ s.tr) {o:Nat} (b:o ∈ (s.cs[k]).lits) (c:s.lev (o / 2)=s.ch.length)
  {f:Nat->Value} {O Q:Nat->Prop} (M:Mid Z sb ob hb kb n w0 s (dW s.ls) w s.cs f s.V s.X O s.Ro Q s.Rk):
  Calls Tryz.prog 141 #[.pointer (some ⟨sb,0,none⟩),.int .i64 (dU s.cs k:Nat)] w fun e w'=>e=.returned (.tuple #[])/\Uf Z sb ob hb kb n w0 s (s.cs[k]).lits hd w':=by
 refine (ER M.dN.duo z M.x0 B (by omega) M.iD M.n10 M.jk.hd h.pi.dN h.pi.qg h.pi.oC hd g b c).mono ?_;rintro e w' ⟨rfl,i,C,u,m,I,L,J,N,P,r,q,H,a,G⟩;obtain ⟨v,t⟩:=M.dN.xx a.duo a.fV;exact ⟨rfl,i,C,u,m,I,L,J,_,_,_,_,{
  dN:=v
  x0:=a.x0
  busy:=G
  iD:=M.iD.congr fun j r q=>a.only j (by omega) (by omega) (by omega)
  jk:=M.jk.VF a.wk (a.only 9 (by decide) (by decide) (by decide)) fun x _=>a.only _ (by omega) (by omega) (by omega)
  lam:=M.lam.congr (a.only 6 (by decide) (by decide) (by decide))
  n10:=a.Dn.n10
  p9:=by
   obtain ⟨l,g⟩:=M.p9;exact ⟨l,g.congr (a.only 11 (by decide) (by decide) (by decide))⟩
  ff:=fun j p E D=>(a.ff j p).trans (M.ff j p E D)
  f21:=(a.ff 21 (by decide)).trans M.f21
  fV:=M.fV.trans t },a.Dn,r,q,H⟩
def Ue (Z:Nat->Prop) (sb ob hb kb n:Nat) (w0:World) (s:St) (c0:List Nat) (hd:0 < s.ch.length) (w:World):Prop:=
 ∃ (i:Nat) (hi:i < s.tr.length) (u:Lk) (fol:Nat->Bool) (cs:List Rec) (f V:Nat->Value) (X:Nat->List Value) (Rs Ro Rd Rk:Nat->Prop),Mid Z sb ob hb kb n w0 s (dW s.ls) w cs f V X Rs Ro Rd Rk/\F9 n X (op s.tr[i]:Nat) u.seen (u.iR.filter fun y=>!dS (iU (mapOf s.cs) s.dB) fol (y / 2))/\Oz s.tr (iU (mapOf s.cs) s.dB) u.seen s.ch[s.ch.length - 1] fol/\wU s.tr s.ch s.lev (iU (mapOf s.cs) s.dB) s.ch[s.ch.length - 1] c0 (i + 1) u/\u.seen (s.tr[i] / 2)=true/\u.opn=1
theorem VP (h:Main Z sb ob hb kb n L0 N0 false w0 s) (D:n <= 50) (Q:(enc s.cs).length <= 1000000000000) {r:List Nat} {hd:0 < s.ch.length} (M:Uf Z sb ob hb kb n w0 s r hd w):
  Calls Tryz.prog 142 #[.pointer (some ⟨sb,0,none⟩)] w fun e w'=>e=.returned (.tuple #[])/\Ue Z sb ob hb kb n w0 s r hd w':=by
 obtain ⟨i,E,u,N,f,V,X,S,T,W,U,M,hL,g,B,C⟩:=M;obtain ⟨q,H⟩:=M.p9;have c:=M.busy.map;have R:=M.busy.len;refine (BJ (L:=s.L) M.dN.duo.dM D M.x0 (by omega) M.iD H hL h.pi.dN (by rw [c];exact h.pi.qg) (by rw [c];exact h.pi.oC) (by rw [c];exact h.pi.qg.trail h.pi.dN h.Cr.hL) hd (fun y z=>(g.tail h.pi.dN z).1) (by have:=g.lk.len h.pi.dN;omega)).mono ?_;rintro e w' ⟨rfl,G,b,P,O,p,o,m,l,a⟩;rw [c] at m l;obtain ⟨v,t⟩:=M.dN.iL p G (cu _ _ (by decide));exact ⟨rfl,i,E,u,b,N,_,_,O,_,_,_,_,{
  dN:=v
  x0:=(a 0 (by decide) (by decide)).trans M.x0
  busy:=M.busy
  iD:=M.iD.congr fun j p o=>a j (by omega) (by omega)
  jk:=M.jk.congr (a 9 (by decide) (by decide)) (fun x _=>cu _ _ (by omega)) fun x _=>a _ (by omega) (by omega)
  lam:=M.lam.congr (a 6 (by decide) (by decide))
  n10:=by rw [a 10 (by decide) (by decide)];exact M.n10
  p9:=⟨b,o⟩
  ff:=fun j k J I=>(cu _ _ k).trans (M.ff j k J I)
  f21:=(cu _ _ (by decide)).trans M.f21
  fV:=M.fV.trans t },l,m,g,B,C⟩
def De (Z:Nat->Prop) (sb ob hb kb n:Nat) (w0:World) (s:St) (x:Nat) (ks:List Nat) (d:Nat) (l:List UInt8) (w:World):Prop:=
 ∃ (cs:List Rec) (f V:Nat->Value) (X:Nat->List Value) (Rs Ro Rd Rk:Nat->Prop),Mid Z sb ob hb kb n w0 s l w cs f V X Rs Ro Rd Rk/\X 7=dC (x :: ks)/\Ju s.tr s.ch s.lev x ks d/\Dq s.L ((x :: ks).map wr)
theorem VO (h:Main Z sb ob hb kb n L0 N0 false w0 s) (E:n <= 50) {k:Nat} (G:k < s.cs.length) (m:(s.cs[k]).kind ≠ 2) (o:∀ y ∈ (s.cs[k]).lits,op y ∈ s.tr) {hd:0 < s.ch.length} (M:Ue Z sb ob hb kb n w0 s (s.cs[k]).lits hd w):
  Calls Tryz.prog 143 #[.pointer (some ⟨sb,0,none⟩)] w fun e w'=>∃ x ks d,e=.returned (.int .i64 ((d:Nat):Int))/\De Z sb ob hb kb n w0 s x ks d (dW s.ls) w':=by
 obtain ⟨i,H,u,c,L,f,V,X,O,P,R,Q,M,hL,J,q,B,D⟩:=M;have r:∀ y ∈ u.iR.filter (fun y=>!dS (iU (mapOf s.cs) s.dB) c (y / 2)),op y ∈ s.tr/\0 < s.lev (y / 2):=fun y g=>by
  obtain ⟨a,b,_⟩:=q.tail h.pi.dN (List.mem_filter.1 g).1;exact ⟨a,b⟩
 refine (zA M.dN.duo.dM E M.iD hL.l7 (fun y g=>by have:=vP (h.pi.dN.lt _ (r y g).1);rwa [jT] at this) (fun y g=>(r y g).2) (by have:=q.lk.len h.pi.dN;have:=List.length_filter_le (fun y=>!dS (iU (mapOf s.cs) s.dB) c (y / 2)) u.iR;omega)).mono ?_;rintro e w' ⟨d,ks,rfl,C,l,p,t,I⟩;obtain ⟨g1,g2⟩:=El h.Cr.hL h.pi.dN h.pi.qg hd (h.Cr.hL _ _ (eP G) m) o q H B D J C l p;obtain ⟨z,v⟩:=M.dN.iL t I rfl;exact ⟨_,ks,d,rfl,L,f,V,_,_,_,_,_,{
  dN:=z
  x0:=(cu _ _ (by decide)).trans M.x0
  busy:=M.busy
  iD:=M.iD.congr fun j t N=>cu _ _ (by omega)
  jk:=M.jk.congr (cu _ _ (by decide)) (fun x _=>rfl) fun x _=>cu _ _ (by omega)
  lam:=M.lam.congr (cu _ _ (by decide))
  n10:=by rw [cu _ _ (by decide)];exact M.n10
  p9:=by
   obtain ⟨c,o⟩:=M.p9;exact ⟨c,o.congr (cu _ _ (by decide))⟩
  ff:=M.ff
  f21:=M.f21
  fV:=M.fV.trans v },by rw [cK];rfl,g1,g2⟩
theorem dX.lies {f V:Nat->Value} {X:Nat->List Value} {K:Nat} {Z:Nat->Prop} (h:dX Z sb w K f V X) {k j:Nat} (l:k < K) (y:j < K) (r:k ≠ j) {c:List Nat} (m:X k=dC c):OM sb (V j) w (V k) c:=by
 obtain ⟨a,C,e⟩:=h.fG.shape l;rw [m,dh] at e;by_cases v:0 < c.length
 ·obtain ⟨g,o,t,b,hb,D,z⟩:=h.fG.block l (by rw [m,dh];exact v);rw [m,dh] at b;have q:=((h.fG.own k l).lt g (by rw [b];rfl)).2;refine ⟨some ⟨g,0,none⟩,o,g,0,b,(fun h=>by cases h),fun _=>⟨rfl,q,h.far l g (by rw [b];rfl),fun B=>?_,fun i u=>?_⟩⟩
  ·rcases h.fG.apart k j l y r with p | p
   ·rw [b] at p;cases p
   ·exact p (by rw [B,b];rfl)
  ·have:=(h.fG.cell l b (j:=i) (by rw [m,dh];exact u)).1;rw [Nat.zero_add,this,m,iZ _ _ u]
 ·refine ⟨a,C,0,0,e,fun A=>?_,fun h=>absurd h v⟩;subst A
  rcases (h.fG.own k l).2 with ⟨b,_⟩ | ⟨g,o,t,b,_⟩
  ·rw [e] at b;exact (Value.slice.inj b).2.2
  ·rw [e] at b;cases (Value.slice.inj b).1
theorem De.head {x:Nat} {ks:List Nat} {d:Nat} {l:List UInt8} (M:De Z sb ob hb kb n w0 s x ks d l w):∃ g c,w.cell? ⟨sb,15,none⟩=some (.slice (some ⟨g,0,none⟩) (ks.length + 1) c):=by
 obtain ⟨h,f,V,X,i,m,p,o,M,b,_⟩:=M;obtain ⟨g,a,t,e,q,_⟩:=M.dN.duo.dM.elem (k:=7) (j:=0) (n:=ks.length + 1) (by omega) (by rw [b,dh];rfl) (by omega);exact ⟨g,a,q⟩
theorem uu {K:Nat} {f V:Nat->Value} {X:Nat->List Value} {a C p I G:Nat->Prop} {l:List UInt8} {c:List Nat} (T:sN Z sb ob hb kb n w K f V X a l C p I G) (r:n <= 50) (u:f 0=.iface 105 (.pointer (some ⟨kb,0,none⟩))) (v:Value) (hL:OM sb (V 12) w v c) (t:c.length <= 50) (i:∀ x ∈ c,x < 2 * n) (g:l.length <= 70368744177664):
  Calls Tryz.prog 100 #[.pointer (some ⟨sb,0,none⟩),v] w fun e w'=>e=.returned .nilIface/\dD Z w w'/\∃ o y j m k,sN Z sb ob hb kb n w' K (upd f 1 o) (upd V 12 o) (upd X 12 y) a (l ++ (nP false c ++ [10])) j p m k:=by
 have q:=hide (Jy T r u ⟨#[]⟩ (by decide) v hL t i g);have E:eT (⟨#[]⟩:ByteArray).data.toList c c.length ++ [48,10]=nP false c ++ [10]:=by
  unfold eT nP;rw [List.take_length];simp
 rw [E] at q;clear T hL E;go_enter Tryz.func100,Tryz.ntmps100
 go_wp2_with (go_at_call 140;refine q.out.mono ?_;rintro N L ⟨rfl,h,M,B,H,D,b⟩;have J:=hide h;have z:=hide b;clear h b;simp only [])
 go_ret
 exact ⟨rfl,J.out,_,_,_,_,_,z.out⟩
end
section
variable {Z:Nat->Prop} {sb ob hb kb n:Nat} {L0:List Cl} {N0:Nat} {w0 w w':World} {s:St} {x:Nat} {ks:List Nat} {d:Nat}
theorem Ju.len {tr ch:List Nat} {lev:Nat->Nat} (h:Ju tr ch lev x ks d) (a:jm n tr ch lev):ks.length + 1 <= n:=ku h.vars (h.lt a)
theorem VN (h:Main Z sb ob hb kb n L0 N0 false w0 s) (o:n <= 50) (E:s.m <= 22000000000) (M:De Z sb ob hb kb n w0 s x ks d (dW s.ls) w) {v:Value} (l:w.cell? ⟨sb,15,none⟩=some v):
  Calls Tryz.prog 100 #[.pointer (some ⟨sb,0,none⟩),v] w fun e w'=>e=.returned .nilIface/\De Z sb ob hb kb n w0 s x ks d (dW (s.ls ++ [(false,x :: ks)])) w'/\w'.cell? ⟨sb,15,none⟩=some v:=by
 obtain ⟨u,f,V,X,L,N,P,O,M,a,hL,r⟩:=M;have G:=M.dN.duo.dM.hK;have i:V 7=v:=by
  have:=(M.dN.duo.dM.hd (k:=7) (by omega)).1;rw [show cellOf 7=15 from rfl,l] at this;exact (Option.some.inj this).symm
 have c:=M.dN.duo.dM.lies (k:=7) (j:=12) (by omega) (by omega) (by decide) a;rw [i] at c;have D:=h.Vh;refine (uu M.dN o ((M.ff 0 (by decide) (by decide) (by decide)).trans h.f0) v c (by have:=hL.len h.pi.dN;simp;omega) (hL.lt h.pi.dN) (by omega)).mono ?_;rintro e w' ⟨rfl,q,C,J,y,B,z,T⟩;refine ⟨rfl,⟨u,_,_,_,_,_,_,_,{
  dN:=by rw [vR];exact T
  x0:=(cu _ _ (by decide)).trans M.x0
  busy:=M.busy
  iD:=M.iD.congr fun j I H=>cu _ _ (by omega)
  jk:=M.jk.congr (cu _ _ (by decide)) (fun x _=>cu _ _ (by omega)) fun x _=>cu _ _ (by omega)
  lam:=M.lam.congr (cu _ _ (by decide))
  n10:=by rw [cu _ _ (by decide)];exact M.n10
  p9:=by
   obtain ⟨b,p⟩:=M.p9;exact ⟨b,p.congr (cu _ _ (by decide))⟩
  ff:=fun j t a g=>(cu _ _ g).trans (M.ff j t a g)
  f21:=(cu _ _ (by decide)).trans M.f21
  fV:=M.fV.trans q },(cu _ _ (by decide)).trans a,hL,r⟩,?_⟩
 have:=(T.duo.dM.hd (k:=7) (by omega)).1;rw [show cellOf 7=15 from rfl,cu _ _ (by decide),i] at this;exact this
structure V5 (Z:Nat->Prop) (sb ob hb kb n:Nat) (w0:World) (s:St) (x:Nat) (ks:List Nat) (d p:Nat) (v:Value) (w:World) (cs:List Rec) (f V:Nat->Value) (X:Nat->List Value) (gone Rs Ro Rd Rk:Nat->Prop):Prop where
 dN:sN Z sb ob hb kb n w (16 + 2 * n) f V X gone (dW (s.ls ++ [(false,x :: ks)])) Rs Ro Rd Rk
 x0:X 0=ints (enc cs)
 busy:iC s.cs cs
 iD:ou n X (s.tr.take p) (s.ch.take d) s.lev s.dB
 jk:qh n V X s.wl
 lam:Ga n X
 n10:(X 10).length=n
 p9:∃ fol,Iq n X fol
 x7:X 7=dC (x :: ks)
 v7:V 7=v
 ff:∀ j,j ≠ 15->j ≠ 21->j ≠ 1->j ≠ 6->j ≠ 7->j ≠ 8->f j=s.f j
 f7:f 7=.int .i64 ((p:Nat):Int)
 f21:f 21=.int .i64 (((50 * Lb.lub s.r s.r:Nat):Int) - ((s.k:Nat):Int) - 1)
 sQ:∀ u,u < n->gone u->∃ y ∈ s.tr.take p,y / 2=u
 Dm:Ju s.tr s.ch s.lev x ks d
 right:Dq s.L ((x :: ks).map wr)
 hp:∃ hd:d < s.ch.length,p=s.ch[d]
 fV:dD Z w0 w
def OP (Z:Nat->Prop) (sb ob hb kb n:Nat) (w0:World) (s:St) (x:Nat) (ks:List Nat) (d:Nat) (v:Value) (w:World):Prop:=∃ p cs f V X gone Rs Ro Rd Rk,V5 Z sb ob hb kb n w0 s x ks d p v w cs f V X gone Rs Ro Rd Rk
theorem VM (h:Main Z sb ob hb kb n L0 N0 false w0 s) (z:n <= 50) (M:De Z sb ob hb kb n w0 s x ks d (dW (s.ls ++ [(false,x :: ks)])) w) {v:Value} (r:w.cell? ⟨sb,15,none⟩=some v):
  Calls Tryz.prog 137 #[.pointer (some ⟨sb,0,none⟩),.int .i64 ((d:Nat):Int)] w fun e w'=>e=.returned (.tuple #[])/\OP Z sb ob hb kb n w0 s x ks d v w':=by
 obtain ⟨L,f,V,X,Rs,Ro,Rd,Rk,M,H,hL,G⟩:=M;have J:V 7=v:=by
  have:=(M.dN.duo.dM.hd (k:=7) (by omega)).1;rw [show cellOf 7=15 from rfl,r] at this;exact (Option.some.inj this).symm
 refine (Ai M.dN.duo z M.iD h.pi.dN M.lam hL.dl).mono ?_;rintro e w' ⟨rfl,C,I,U,T,W,Y,D,i,E,l,g,a,c⟩;obtain ⟨q,p⟩:=M.dN.xx D C;exact ⟨rfl,_,L,I,U,T,_,_,_,_,_,{
  dN:=q
  x0:=(a 0 (by decide) (by decide) (by decide) (by decide)).trans M.x0
  busy:=M.busy
  iD:=E
  jk:=M.jk.congr (a 9 (by decide) (by decide) (by decide) (by decide)) (fun x _=>c _ (by omega) (by omega)) fun x _=>a _ (by omega) (by omega) (by omega) (by omega)
  lam:=i
  n10:=by rw [a 10 (by decide) (by decide) (by decide) (by decide)];exact M.n10
  p9:=by
   obtain ⟨m,B⟩:=M.p9;exact ⟨m,B.congr (a 11 (by decide) (by decide) (by decide) (by decide))⟩
  x7:=(a 7 (by decide) (by decide) (by decide) (by decide)).trans H
  v7:=(c 7 (by decide) (by decide)).trans J
  ff:=fun j S R Q P O N=>(g j P O N).trans (M.ff j S R Q)
  f7:=l
  f21:=(g 21 (by decide) (by decide) (by decide)).trans M.f21
  sQ:=fun u t o=>by
   obtain ⟨y,b,e⟩:=h.sQ u t o.1;rw [<- List.take_append_drop (s.ch[d]'hL.dl) s.tr] at b
   rcases List.mem_append.1 b with b | b
   ·exact ⟨y,b,e⟩
   ·exact absurd e (o.2 y b)
  Dm:=hL
  right:=G
  hp:=⟨hL.dl,rfl⟩
  fV:=M.fV.trans p }⟩
structure U9 (Z:Nat->Prop) (sb ob hb kb n:Nat) (w0:World) (s:St) (x:Nat) (ks:List Nat) (d p:Nat) (v:Value) (w:World) (cs:List Rec) (wl:Nat->List Nat) (f V:Nat->Value) (X:Nat->List Value) (gone Rs Ro Rd Rk:Nat->Prop):Prop where
 dN:sN Z sb ob hb kb n w (16 + 2 * n) f V X gone (dW (s.ls ++ [(false,x :: ks)])) Rs Ro Rd Rk
 x0:X 0=ints (enc (cs ++ [⟨1,0,x :: ks⟩]))
 busy:iC s.cs cs
 iD:ou n X (s.tr.take p) (s.ch.take d) s.lev s.dB
 jk:qh n V X wl
 lam:Ga n X
 n10:(X 10).length=n
 p9:∃ fol,Iq n X fol
 x7:X 7=dC (x :: ks)
 v7:V 7=v
 ff:∀ j,j ≠ 15->j ≠ 21->j ≠ 1->j ≠ 6->j ≠ 7->j ≠ 8->j ≠ 2->j ≠ 3->f j=s.f j
 f3:f 3=.int .i64 ((s.lc + 1:Nat):Int)
 f7:f 7=.int .i64 ((p:Nat):Int)
 f21:f 21=.int .i64 (((50 * Lb.lub s.r s.r:Nat):Int) - ((s.k:Nat):Int) - 1)
 sQ:∀ u,u < n->gone u->∃ y ∈ s.tr.take p,y / 2=u
 Dm:Ju s.tr s.ch s.lev x ks d
 right:Dq s.L ((x :: ks).map wr)
 hp:∃ hd:d < s.ch.length,p=s.ch[d]
 fV:dD Z w0 w
def F6 (Z:Nat->Prop) (sb ob hb kb n:Nat) (w0:World) (s:St) (x:Nat) (ks:List Nat) (d:Nat) (v:Value) (w:World):Prop:=∃ p cs f V X gone Rs Ro Rd Rk,U9 Z sb ob hb kb n w0 s x ks d p v w cs s.wl f V X gone Rs Ro Rd Rk
theorem NT (cs:List Rec) (c:List Nat):ints (enc cs) ++ dC (c.length :: 1 :: 0 :: c)=ints (enc (cs ++ [⟨1,0,c⟩])):=by
 rw [ig,vX]
 congr 1
 simp [enc,enc1,ints,dC]
theorem VK (h:Main Z sb ob hb kb n L0 N0 false w0 s) (O:n <= 50) (Q:(enc s.cs).length <= 1000000000000) (P:s.m <= 22000000000) {v:Value} (M:OP Z sb ob hb kb n w0 s x ks d v w):
  Calls Tryz.prog 132 #[.pointer (some ⟨sb,2,none⟩),v,.int .i64 1] w fun e w'=>e=.returned (.int .i64 (((enc s.cs).length:Nat):Int))/\F6 Z sb ob hb kb n w0 s x ks d v w':=by
 obtain ⟨p,l,f,V,X,i,U,W,Rd,Y,M⟩:=M;have R:=M.dN.duo.dM.hK;have g:=M.dN.duo.dM.lies (k:=7) (j:=0) (by omega) (by omega) (by decide) M.x7;rw [M.v7] at g;have B:=(M.ff 3 (by decide) (by decide) (by decide) (by decide) (by decide) (by decide)).trans h.f3;have z:=M.busy.len;have b:(X 0).length=(enc s.cs).length:=by rw [M.x0,mZ,z]
 have t:=h.lcm;have c:=M.Dm.len h.pi.dN;refine (FW (x :: ks) 1 ((s.lc:Nat):Int) v M.dN.duo.dM g (by simp;omega) (by decide) (by omega) B (by omega) (by omega)).mono ?_;rintro e w' ⟨rfl,y,N,r⟩;obtain ⟨q,o⟩:=M.dN.iL r y (by rw [cu _ _ (by decide),cu _ _ (by decide)]);refine ⟨by rw [b],p,l,_,_,_,_,_,_,_,_,{
  dN:=q
  x0:=by rw [cK,M.x0];exact NT l (x :: ks)
  busy:=M.busy
  iD:=M.iD.congr fun j T S=>cu _ _ (by omega)
  jk:=M.jk.congr (cu _ _ (by decide)) (fun x _=>cu _ _ (by omega)) fun x _=>cu _ _ (by omega)
  lam:=M.lam.congr (cu _ _ (by decide))
  n10:=by rw [cu _ _ (by decide)];exact M.n10
  p9:=by
   obtain ⟨a,u⟩:=M.p9;exact ⟨a,u.congr (cu _ _ (by decide))⟩
  x7:=(cu _ _ (by decide)).trans M.x7
  v7:=(cu _ _ (by decide)).trans M.v7
  ff:=fun j L J I H G E D C=>(cu _ _ C).trans ((cu _ _ D).trans (M.ff j L J I H G E))
  f3:=by rw [cK];rfl
  f7:=(cu _ _ (by decide)).trans ((cu _ _ (by decide)).trans M.f7)
  f21:=(cu _ _ (by decide)).trans ((cu _ _ (by decide)).trans M.f21)
  sQ:=M.sQ
  Dm:=M.Dm
  right:=M.right
  hp:=M.hp
  fV:=M.fV.trans o }⟩
def Uu (s:St) (x:Nat) (ks:List Nat):Nat->List Nat:=match ks with
 | []=>s.wl
 | q :: _=>wm s.wl (enc s.cs).length x q 2
def F5 (Z:Nat->Prop) (sb ob hb kb n:Nat) (w0:World) (s:St) (x:Nat) (ks:List Nat) (d:Nat) (v:Value) (w:World):Prop:=∃ p cs f V X gone Rs Ro Rd Rk,U9 Z sb ob hb kb n w0 s x ks d p v w cs (Uu s x ks) f V X gone Rs Ro Rd Rk
theorem Qs {v:Value} (M:F6 Z sb ob hb kb n w0 s x [] d v w):F5 Z sb ob hb kb n w0 s x [] d v w:=M
theorem VJ (h:Main Z sb ob hb kb n L0 N0 false w0 s) (O:n <= 50) (S:(enc s.cs).length <= 1000000000000) {v:Value} {q:Nat} {r:List Nat} (M:F6 Z sb ob hb kb n w0 s x (q :: r) d v w):
  Calls Tryz.prog 133 #[.pointer (some ⟨sb,0,none⟩),.int .i64 (((enc s.cs).length:Nat):Int)] w fun e w'=>e=.returned (.tuple #[])/\F5 Z sb ob hb kb n w0 s x (q :: r) d v w':=by
 obtain ⟨p,o,f,V,X,m,Y,Ro,Rd,Rk,M⟩:=M;have T:=M.dN.duo.dM.hK;have D:=M.busy.len;have N:=M.Dm.vars;have g:=M.Dm.lt h.pi.dN;have i:=M.Dm.len h.pi.dN;have E:dU (o ++ [⟨1,0,x :: q :: r⟩]) o.length=(enc s.cs).length:=by
  rw [nA _ lr,lG lr,D]
 have u:x ≠ q:=fun e=>by subst e;simp at N
 have l:(enc (o ++ [⟨1,0,x :: q :: r⟩])).length <= 1099511627776:=by
  rw [ig,List.length_append,D];simp [enc,jI];simp at i;omega
 have t:∀ y,y < 2 * n->(s.wl y).length <= 1099511627776:=fun y J=>by have:=h.pi.qj.len J;omega
 rw [<- E];refine (zS (k:=o.length) (p:=x) (q:=q) (r:=r) M.dN.duo.dM rfl M.x0 (by simp) (by simp) u (g x (by simp)) (g q (by simp)) O l M.jk t).mono ?_;rintro e w' ⟨rfl,Q,G,R,C,L,c⟩;obtain ⟨I,H⟩:=M.dN.iL C Q rfl;have z:G 7=V 7:=by
  have a:=C.hdr 7 (by omega);have b:=M.dN.duo.dM.hdr 7 (by omega);rw [<- a,<- b]
 refine ⟨rfl,p,o,f,G,R,m,_,_,_,_,{
  dN:=I
  x0:=(c 0 (by decide) (by decide)).trans M.x0
  busy:=M.busy
  iD:=M.iD.congr fun j W U=>c j (by omega) (by omega)
  jk:=by unfold Uu;rw [<- E];exact L
  lam:=M.lam.congr (c 6 (by decide) (by decide))
  n10:=by rw [c 10 (by decide) (by decide)];exact M.n10
  p9:=by
   obtain ⟨B,P⟩:=M.p9;exact ⟨B,P.congr (c 11 (by decide) (by decide))⟩
  x7:=(c 7 (by decide) (by decide)).trans M.x7
  v7:=z.trans M.v7
  ff:=M.ff
  f3:=M.f3
  f7:=M.f7
  f21:=M.f21
  sQ:=M.sQ
  Dm:=M.Dm
  right:=M.right
  hp:=M.hp
  fV:=M.fV.trans H }⟩
structure OO (s s':St):Prop where
 k:s'.k=s.k + 1
 m:s'.m=s.m + 1
 r:s'.r=s.r
 lc:s'.lc=s.lc + 1
 mo:s'.mo=s.mo
 ch:s'.ch.length < s.ch.length
theorem VI (h:Main Z sb ob hb kb n L0 N0 false w0 s) (hn:n <= 50) {k:Nat} (hk:k < s.cs.length) (S:(s.cs[k]).kind ≠ 2) (U:∀ y ∈ (s.cs[k]).lits,op y ∈ s.tr) {v:Value} (M:F5 Z sb ob hb kb n w0 s x ks d v w):
  (∃ g c,v=.slice (some ⟨g,0,none⟩) (ks.length + 1) c/\w.cell? ⟨g,0,none⟩=some (.int .i64 ((x:Nat):Int)))/\∀ E,Below w.heap.size w E->
  Calls Tryz.prog 136 #[.pointer (some ⟨sb,6,none⟩),.int .i64 ((x:Nat):Int),.int .i64 (((enc s.cs).length:Nat):Int)] E fun e w'=>e=.returned (.tuple #[])/\dD Z w0 w'/\∃ O,Main Z sb ob hb kb n L0 N0 false w' O/\Ready O/\OO s O:=by
 obtain ⟨p,cs,f,V,X,gone,Rs,Ro,Rd,Rk,M⟩:=M;have hK:=M.dN.duo.dM.hK;have em:=M.busy.map;have el:=M.busy.len;obtain ⟨hd,rfl⟩:=M.hp;have ho:=M.Dm.open h.pi.dN;have G:x < 2 * n:=M.Dm.lt h.pi.dN x (by simp);have tl:=h.pi.dN.len;have ad:s.ch[d] < s.tr.length:=h.pi.dN.gY.2 _ (List.getElem_mem hd);have J:(s.ch.take d).length=d:=by rw [List.length_take];omega
 have i:(s.tr.take s.ch[d]).length=s.ch[d]:=by rw [List.length_take];omega
 refine ⟨?_,fun E I=>?_⟩
 ·obtain ⟨g,Y,t,e,q,r,r2,_⟩:=M.dN.duo.dM.elem (k:=7) (j:=0) (n:=ks.length + 1) (by omega) (by rw [M.x7,dh];rfl) (by omega);rw [M.v7] at e;refine ⟨g,Y,e,?_⟩;rw [r,<- r2,M.x7];rfl
 ·have T:=M.dN.later I;refine (pV x n d (((enc s.cs).length:Nat):Int) G hn T.duo.dM (by rw [M.iD.l1,dh,i];omega) (by rw [M.iD.l2,dh];exact J) M.iD.n3 M.iD.n4 M.iD.n5).mono ?_;rintro e w' ⟨rfl,hc,N,hs⟩;obtain ⟨t1,t2⟩:=T.iL hs hc (cu _ _ (by decide));have D:∀ j,j ≠ 1->j ≠ 3->j ≠ 4->j ≠ 5->fe X x (((enc s.cs).length:Nat):Int) d j=X j:=fun j a b c e=>ik _ _ _ _ a b c e
  have o:mapOf (cs ++ [⟨1,0,x :: ks⟩])=jZ (mapOf s.cs) (enc s.cs).length ⟨1,x :: ks⟩:=by rw [pE,em,el]
  have C:mapOf s.cs (enc s.cs).length=none:=kU _;have hP:=h.pi.learn M.Dm h.late C (Uu s x ks) (fun q r e=>by
   subst e;have ab:x ≠ q:=fun e=>by have hv:=M.Dm.vars;subst e;simp at hv
   unfold Uu wm;refine ⟨by simp,by simp,fun y h1 h2=>by simp [h1,h2]⟩) (fun e=>by subst e;rfl)
  have hU:=(h.Dk rfl).learn (a:=(enc s.cs).length) h.pi.dN M.Dm;have ac:=Oc h.pi.zn (h.Dk rfl) h.pi.dN h.pi.oC (eP hk) S U;have R:=h.late _ (List.getElem_mem hd);have Q:=D9 (n:=n) (k:=s.k) h.pi.dN.gY hd tl (by omega) h.ic;have aa:=M.Dm.len h.pi.dN;have ae:=h.n30;have B:∀ j,j ≠ 6->upd f 6 N j=f j:=fun j hj=>cu _ _ hj
  refine ⟨rfl,(M.fV.trans (dD.of_below I)).trans t2,{ s with
   cs:=cs ++ [⟨1,0,x :: ks⟩],tr:=s.tr.take s.ch[d] ++ [x],ch:=s.ch.take d,lev:=eu s.lev (x / 2) d,dB:=eu s.dB (x / 2) (((enc s.cs).length:Nat):Int),wl:=Uu s x ks,P:=s.ch[d],sp:=s.ch[d],
   f:=upd f 6 N,V:=upd V 1 N,X:=fe X x (((enc s.cs).length:Nat):Int) d,gone:=gone,ls:=s.ls ++ [(false,x :: ks)],L:=s.L ++ [(x :: ks).map wr],m:=s.m + 1,k:=s.k + 1,lc:=s.lc + 1,
   Rs:=(fun g=>zz Rs E g/\g < w'.heap.size),Ro:=Ro,Rd:=(fun g=>zz Rd E g/\g < w'.heap.size),Rk:=Rk },{
   dN:=t1
   pi:=by rw [o];exact hP
   x0:=(D 0 (by decide) (by decide) (by decide) (by decide)).trans M.x0
   iD:=M.iD.assign G ho (((enc s.cs).length:Nat):Int) (X':=X) (ch':=s.ch.take d) M.iD.l2 (fun _ _=>rfl)
   jk:=M.jk.congr (D 9 (by decide) (by decide) (by decide) (by decide)) (fun x _=>cu _ _ (by omega)) fun x _=>D _ (by omega) (by omega) (by omega) (by omega)
   lam:=M.lam.congr (D 6 (by decide) (by decide) (by decide) (by decide))
   n10:=(congrArg List.length (D 10 (by decide) (by decide) (by decide) (by decide))).trans M.n10
   p9:=by
    obtain ⟨W,U⟩:=M.p9;exact ⟨W,U.congr (D 11 (by decide) (by decide) (by decide) (by decide))⟩
   f0:=(B 0 (by decide)).trans ((M.ff 0 (by decide) (by decide) (by decide) (by decide) (by decide) (by decide) (by decide) (by decide)).trans h.f0)
   f3:=(B 3 (by decide)).trans M.f3
   f4:=(B 4 (by decide)).trans ((M.ff 4 (by decide) (by decide) (by decide) (by decide) (by decide) (by decide) (by decide) (by decide)).trans h.f4)
   f7:=(B 7 (by decide)).trans M.f7
   f14:=(B 14 (by decide)).trans ((M.ff 14 (by decide) (by decide) (by decide) (by decide) (by decide) (by decide) (by decide) (by decide)).trans h.f14)
   f18:=(B 18 (by decide)).trans ((M.ff 18 (by decide) (by decide) (by decide) (by decide) (by decide) (by decide) (by decide) (by decide)).trans h.f18)
   f20:=(B 20 (by decide)).trans ((M.ff 20 (by decide) (by decide) (by decide) (by decide) (by decide) (by decide) (by decide) (by decide)).trans h.f20)
   f21:=by
    refine (B 21 (by decide)).trans (M.f21.trans ?_)
    congr 1
    show (((50 * Lb.lub s.r s.r:Nat):Int) - ((s.k:Nat):Int) - 1:Int)=((50 * Lb.lub s.r s.r:Nat):Int) - ((s.k + 1:Nat):Int)
    omega
   Gg:=by show s.ch[d] <= (s.tr.take s.ch[d] ++ [x]).length;rw [List.length_append,i];omega
   late:=fun q hq=>by
    have:=(AZ h.pi.dN.gY hd).2 q hq;exact Nat.le_of_lt this
   sQ:=fun u hu hg=>by
    obtain ⟨y,hy,e⟩:=M.sQ u hu hg;exact ⟨y,List.mem_append_left _ hy,e⟩
   Dk:=fun _=>by rw [o];exact hU
   bad:=fun e=>by cases e
   lines:=by
    rw [List.map_append];exact h.lines.add (by simp) M.right
   Lf:=fun l H=>by
    rcases List.mem_append.1 H with H | H
    ·exact h.Lf l H
    ·rw [List.mem_singleton.1 H];exact M.Dm.lt h.pi.dN
   Cr:=by
    rw [pF _ _ (show (1:Nat) ≠ 2 by decide),M.busy.xW];exact h.Cr.add (x :: ks) fun z=>by rw [List.mem_map]
   Jd:=by rw [o];exact h.Jd.new C
   num:=by
    have:=h.num;show (enc (cs ++ [⟨1,0,x :: ks⟩])).length <= N0 + 33 * (s.m + 1)
    rw [ig,List.length_append,el];simp [enc,jI];omega
   Le:=by
    have:=h.Le;show (dW (s.ls ++ [(false,x :: ks)])).length + 125 * pJ (cs ++ [⟨1,0,x :: ks⟩]) <= 250 * (s.m + 1)
    rw [rD,if_pos (show ((⟨1,0,x :: ks⟩:Rec)).kind=1 from rfl),M.busy.cnt.1,vR,List.length_append,List.length_append];have l2:(nP false (x :: ks)).length <= 4 * (ks.length + 1) + 3:=by
     have a:=pI hn (st:=[]) (c:=x :: ks) (M.Dm.lt h.pi.dN) (by simp) (x :: ks).length lr;have b:nP false (x :: ks)=eT [] (x :: ks) (x :: ks).length ++ [48]:=by
      unfold eT nP;rw [List.take_length];simp
     rw [b,List.length_append];simp at a ⊢;omega
    simp only [List.length_cons,List.length_nil];omega
   cnt:=by show s.lc + 1=pJ (cs ++ [⟨1,0,x :: ks⟩]);rw [rD,M.busy.cnt.1,<- h.cnt];rfl
   Lj:=by show s.ws=sj (cs ++ [⟨1,0,x :: ks⟩]);rw [zT,M.busy.cnt.2,<- h.Lj];rfl
   ic:=by
    show 2 * (s.k + 1) <= ic n (bits (s.tr.take s.ch[d] ++ [x]).length (s.ch.take d))
    rw [List.length_append,i];exact Q
   lcm:=by show s.lc + 1 <= s.m + 1;have:=h.lcm;omega
   km:=by show s.k + 1 <= s.m + 1;have:=h.km;omega
   n30:=h.n30 },rfl,⟨rfl,rfl,rfl,rfl,rfl,by show (s.ch.take d).length < s.ch.length;omega⟩⟩
theorem UQ {brk:Bool} (h:Main Z sb ob hb kb n L0 N0 brk w s) (i:Ready s):
  w.cell? ⟨sb,12,none⟩=some (.pointer (some ⟨ob,0,none⟩))/\Calls Tryz.prog 144 #[.pointer (some ⟨ob,0,none⟩)] w fun e w'=>e=.returned (.tuple #[])/\dD Z w w'/\∃ a,Main Z sb ob hb kb n L0 N0 brk w' a/\Ready a/\a.tr=s.tr/\a.ch=s.ch/\a.k=s.k/\a.m=s.m/\a.r=s.r/\a.lc=s.lc/\a.mo=s.mo:=by
 refine ⟨?_,(Rq h.dN.duo.ord).mono ?_⟩
 ·have:=(h.dN.duo.dM.head 12 (by omega)).1;rw [h.dN.duo.f12] at this;exact this
 ·rintro e w' ⟨rfl,l,j⟩;obtain ⟨c,b⟩:=h.dN.xw j l
  exact ⟨rfl,b,{ s with Ro:=(fun g=>zz s.Ro w g/\g < w'.heap.size),Rd:=(fun g=>zz s.Rd w g/\g < w'.heap.size) },{ h with dN:=c },i,rfl,rfl,rfl,rfl,rfl,rfl,rfl⟩
end
end
end So
end Go.Proofs.YtceahffmenbibaaGreatDoor
