/- Sput Ssta Slea Sleb Slew. -/
import Derived.Test.YtceahffmenbibaaGreatDoorG06
import Derived.Test.YtceahffmenbibaaGreatDoorG22
import Derived.Test.YtceahffmenbibaaGreatDoorG23
import Derived.Test.YtceahffmenbibaaGreatDoorG25
import Derived.Test.YtceahffmenbibaaGreatDoorG01
import Derived.Test.YtceahffmenbibaaGreatDoorG03
set_option linter.unusedVariables false
set_option linter.unusedSimpArgs false
set_option maxHeartbeats 4000000
set_option maxRecDepth 100000
namespace Go.Proofs.YtceahffmenbibaaGreatDoor
namespace So
section
open Go Go.RowKit Go.Deep Rd
section
variable {Z:Nat->Prop} {sb K n:Nat} {w:World} {f V:Nat->Value} {X:Nat->List Value} {tr ch:List Nat} {lev:Nat->Nat} {rea:Nat->Int}
structure Vp (lev:Nat->Nat) (je ks:List Nat) (i d:Nat):Prop where
 perm:ks.Perm je
 le:∀ j (h:j < ks.length),j < i->lev (ks[j] / 2) <= d
 hd:(i=0/\d=0)\/(0 < i/\∃ h:0 < ks.length,lev (ks[0] / 2)=d)
theorem Vp.Tm {a ks:List Nat} {i d:Nat} (h:Vp lev a ks i d) (hi:i < ks.length) (g:lev (ks[i] / 2) <= d) (m:0 < lev (ks[i] / 2)):Vp lev a ks (i + 1) d where
 perm:=h.perm
 le:=fun j k b=>by
  rcases Nat.lt_succ_iff_lt_or_eq.1 b with c | c
  ·exact h.le j k c
  ·subst c;exact g
 hd:=by
  rcases h.hd with ⟨l,e⟩ | ⟨l,e⟩
  ·omega
  ·exact .inr ⟨by omega,e⟩
theorem IX {l:List Nat} {i:Nat} (hi:i < l.length) (c:0 < l.length):((l.set 0 l[i]).set i l[0]).Perm l:=by
 by_cases e:i=0
 ·subst e;have:(l.set 0 l[0]).set 0 l[0]=l:=by rw [List.set_set,List.set_getElem_self]
  rw [this]
 ·match l,c with
  | a :: r,_=>
   obtain ⟨k,rfl⟩:∃ k,i=k + 1:=⟨i - 1,by omega⟩
   have b:k < r.length:=by simpa using hi
   simp only [List.getElem_cons_succ,List.set_cons_zero,List.set_cons_succ,List.getElem_cons_zero];have h:r=r.take k ++ r[k] :: r.drop (k + 1):=by rw [<- List.drop_eq_getElem_cons b,List.take_append_drop]
   have g:r.set k a=r.take k ++ a :: r.drop (k + 1):=by rw [List.set_eq_take_append_cons_drop,if_pos b]
   rw [g]
   conv=>rhs;rw [h]
   have p1:(r.take k ++ a :: r.drop (k + 1)).Perm (a :: (r.take k ++ r.drop (k + 1))):=List.perm_middle;have p2:(r.take k ++ r[k] :: r.drop (k + 1)).Perm (r[k] :: (r.take k ++ r.drop (k + 1))):=List.perm_middle;exact ((p1.cons r[k]).trans (List.Perm.swap ..)).trans (p2.symm.cons a)
theorem Vp.Oy {a ks:List Nat} {i d:Nat} (h:Vp lev a ks i d) (hi:i < ks.length) (m:d < lev (ks[i] / 2)):Vp lev a ((ks.set 0 ks[i]).set i (ks[0]'(by omega))) (i + 1) (lev (ks[i] / 2)) where
 perm:=(IX hi (by omega)).trans h.perm
 le:=fun j k b=>by
  have c:j < ks.length:=by simpa using k
  rcases Nat.lt_succ_iff_lt_or_eq.1 b with g | g
  ·rw [List.getElem_set_ne (by omega)]
   by_cases e:j=0
   ·subst e;rw [List.getElem_set_self];exact lr
   ·rw [List.getElem_set_ne (fun l=>e l.symm)]
    have:=h.le j c g;omega
  ·subst g;rw [List.getElem_set_self];by_cases e:j=0
   ·subst e;exact lr
   ·have:=h.le 0 (by omega) (by omega)
    omega
 hd:=.inr ⟨by omega,by simp;omega,by
  by_cases e:i=0
  ·subst e;rw [List.getElem_set_self]
  ·rw [List.getElem_set_ne e,List.getElem_set_self]⟩
def RY (Z:Nat->Prop) (sb:Nat) (w:World) (K:Nat) (f V:Nat->Value) (X:Nat->List Value) (lev:Nat->Nat) (pre:Int) (je:List Nat) (s3 s5:Value) (wr:World):Prop:=
 ∃ (i d:Nat) (ks:List Nat),s3=.int .i64 ((d:Nat):Int)/\s5=.int .i64 ((i + 1:Nat):Int)/\i <= je.length/\Hid (Vp lev je ks i d/\dQ Z sb wr K f V (upd X 7 (.int .i64 pre :: dx ks))/\dC Z w wr)
def Vo (Z:Nat->Prop) (sb:Nat) (w:World) (K:Nat) (f V:Nat->Value) (X:Nat->List Value) (lev:Nat->Nat) (pre:Int) (je:List Nat) (e:Ending) (w':World):Prop:=
 ∃ (d:Nat) (ks:List Nat),e=.returned (.int .i64 ((d:Nat):Int))/\ks.Perm je/\(∀ y ∈ ks,lev (y / 2) <= d)/\((ks=[]/\d=0)\/∃ q r,ks=q :: r/\lev (q / 2)=d)/\dQ Z sb w' K f V (upd X 7 (.int .i64 pre :: dx ks))/\dC Z w w'
theorem Am {pre:Int} {c:List Nat} (h:dQ Z sb w K f V X) (hn:n <= 50) (hT:lX n X tr ch lev rea) (h7:X 7=.int .i64 pre :: dx c) (t:∀ y ∈ c,y < 2 * n) (D:∀ y ∈ c,0 < lev (y / 2)) (ao:c.length <= 50):
  Calls Tryz.prog 143 #[.pointer (some ⟨sb,0,none⟩)] w fun e w'=>Vo Z sb w K f V X lev pre c e w':=by
 have hK:=h.hK;have l7:(X 7).length=c.length + 1:=by rw [h7];simp [df]
 obtain ⟨l,c7,t7,e7,q7,-⟩:=h.elem (k:=7) (j:=0) (by omega) l7 (by omega)
 rw [show cellOf 7=15 from rfl] at q7
 have S0:Hid (Vp lev c c 0 0/\dQ Z sb w K f V (upd X 7 (.int .i64 pre :: dx c))/\dC Z w w):=⟨⟨.refl _,fun j _ h=>absurd h (Nat.not_lt_zero _),.inl ⟨rfl,rfl⟩⟩,by rw [<- h7,upd_same];exact h,dC.refl _⟩
 have aj:Hid (∀ wr ks,ks.length=c.length->dQ Z sb wr K f V (upd X 7 (.int .i64 pre :: dx ks))->(∀ i (hi:i < ks.length),wr.cell? ⟨l,i + 1,none⟩=some (.int .i64 (ks[i]:Nat))/\wr.frozen? ⟨l,i + 1,none⟩=false)/\∀ v,v < n->∃ U c4,wr.cell? ⟨sb,10,none⟩=some (.slice (some ⟨U,0,none⟩) n c4)/\wr.cell? ⟨U,v,none⟩=some (.int .i64 (lev v:Nat))):=fun wr ks m P=>by
  refine ⟨fun i hi=>?_,fun v hv=>?_⟩
  ·obtain ⟨a,b⟩:=P.eO.cell (k:=7) (by omega) e7 (j:=i + 1) (by rw [cK];simp [df];omega)
   rw [cK,List.getElem?_cons_succ,iK _ _ hi] at a;exact ⟨a,b⟩
  ·obtain ⟨U,c4,t4,e4,q4,r4,s4,-⟩:=P.elem (k:=4) (j:=v) (by omega) (by rw [cz _ _ (by decide)];exact hT.n4) hv
   rw [cz _ _ (by decide),hT.t4 v hv] at s4
   obtain rfl:=Option.some.inj s4;exact ⟨U,c4,q4,r4⟩
 have ah:Hid (∀ (wr Y:World) (ks:List Nat) i (hi:i < ks.length),ks.length=c.length->dQ Z sb Y K f V (upd X 7 (.int .i64 pre :: dx ks))->dQ Z sb ((Y.setCell ⟨l,1,none⟩ (.int .i64 (ks[i]:Nat))).setCell ⟨l,i + 1,none⟩ (.int .i64 ((ks[0]'(by omega):Nat):Int))) K f V (upd X 7 (.int .i64 pre :: dx ((ks.set 0 ks[i]).set i (ks[0]'(by omega)))))):=fun wr Y ks i hi m P=>by
  have O:=(P.set (k:=7) (by omega) e7 1 (.int .i64 (ks[i]:Nat))).set (k:=7) (by omega) e7 (i + 1) (.int .i64 ((ks[0]'(by omega):Nat):Int))
  rw [cK,cK,eQ,eQ] at O;rw [show (1:Nat)=0 + 1 from rfl,List.set_cons_succ,List.set_cons_succ,nJ,nJ] at O
  exact O
 have zg:Z l:=h.al 7 (by omega) l (by rw [e7];rfl)
 have ai:=hide t;have ab:=hide D;clear h hT h7 l7 e7 t D;go_enter Tryz.func143,Tryz.ntmps143
 go_wp2_with fail
 go_loopw [3,5,6] (fun s3 s5 _ wr=>RY Z sb w K f V X lev pre c s3 s5 wr) (fun _ s5 _ _=>c.length + 1 - (intOf s5).toNat)
 case atStart=>exact ⟨0,0,c,rfl,rfl,zl,S0⟩
 case round=>
  clear S0 q7;obtain ⟨i,d,ks,rfl,rfl,ap,g⟩:=hrel;have m:ks.length=c.length:=g.out.1.perm.length_eq;by_cases t:i < c.length
  ·obtain ⟨c1,c2⟩:=aj.out wr ks m g.out.2.1;have u:i < ks.length:=by omega
   obtain ⟨R,af⟩:=c1 i u;obtain ⟨S,ag⟩:=c1 0 (by omega)
   have H:ks[i] ∈ c:=g.out.1.perm.mem_iff.1 (List.getElem_mem _);obtain ⟨y,p⟩:∃ y,y=ks[i]:=⟨_,rfl⟩;have an:y < 2 * n:=by rw [p];exact ai.out _ H
   have ad:0 < lev (y / 2):=by rw [p];exact ab.out _ H
   obtain ⟨U,aq,q4,r4⟩:=c2 (y / 2) (by omega)
   have QV:Hid (∀ Y,Calls Tryz.prog 176 #[.int .i64 (y:Nat)] Y fun e w'=>e=.returned (.int .i64 ((y / 2:Nat):Int))/\w'=Y):=fun Y=>eT y Y (by omega)
   have SW:=hide (fun Y P=>ah.out wr Y ks i u m P)
   obtain ⟨z,Q⟩:∃ z,z=ks[0]'(by omega):=⟨_,rfl⟩
   rw [<- p] at R;rw [<- Q] at S;have NO:Hid (lev (y / 2) <= d->∀ W,Below wr.heap.size wr W->∀ G,G=.int .i64 ((i + 1 + 1:Nat):Int)->RY Z sb w K f V X lev pre c (.int .i64 ((d:Nat):Int)) G W):=fun J W hW G I=>⟨i + 1,d,ks,rfl,I,t,g.out.1.Tm u (by rw [<- p];exact J) (by rw [<- p];exact ad),g.out.2.1.later hW,g.out.2.2.trans (dC.of_below hW)⟩
   have aa:Hid (d < lev (y / 2)->∀ Y,Below wr.heap.size wr Y->∀ W',Below ((Y.setCell ⟨l,1,none⟩ (.int .i64 (y:Nat))).setCell ⟨l,i + 1,none⟩ (.int .i64 (z:Nat))).heap.size ((Y.setCell ⟨l,1,none⟩ (.int .i64 (y:Nat))).setCell ⟨l,i + 1,none⟩ (.int .i64 (z:Nat))) W'->∀ G,G=.int .i64 ((i + 1 + 1:Nat):Int)->RY Z sb w K f V X lev pre c (.int .i64 ((lev (y / 2):Nat):Int)) G W'):=fun o Y hY W' T G I=>by
    have O:=SW.out Y (g.out.2.1.later hY);rw [<- p,<- Q] at O;have p1:=g.out.1.Oy u (by rw [<- p];exact o)
    rw [<- p,<- Q] at p1;exact ⟨i + 1,_,_,rfl,I,t,p1,O.later T,(((g.out.2.2.trans (dC.of_below hY)).setCell zg _).setCell zg _).trans (dC.of_below T)⟩
   have v0:(0:Int) <= ((y / 2:Nat):Int):=by omega
   have v1:((y / 2:Nat):Int) < (n:Int):=by omega
   have i0:(0:Int) <= (i:Int) + 1:=by omega
   have i1:(i:Int) + 1 < (c.length:Int) + 1:=by omega
   have i2:(i:Int) + 1 <= 51:=by omega
   have i3:((i:Int) + 1).toNat=i + 1:=by omega
   have i4:(1:Int) < (c.length:Int) + 1:=by omega
   have ac:Hid (i=0->y=z):=fun e=>by subst e;rw [p,Q]
   clear g p Q c1 c2 SW H m u;generalize y / 2=v at *
   go_upto_region 6 with fail
   go_quiet ((go_at_call 176;exact Calls.quiet_of_same (QV.out _)))
   obtain ⟨E,C⟩:∃ E,E=wr.drewN nq:=⟨_,rfl⟩;have M:Below wr.heap.size wr E:=by rw [C];exact Go.below_drewN bR _
   have L:E.heap=wr.heap:=by rw [C];rfl
   rw [<- C];rw [<- eZ L] at R S;rw [<- oo L] at af ag;have N:=hide (fun J=>NO.out J E M)
   have B:=hide (fun o=>aa.out o E M)
   clear C M L NO aa q4 r4 QV;by_cases o:d < lev v
   ·have hg:(d:Int) < (lev v:Int):=by omega
    have Y1:=hide (B.out o);clear N B o;generalize lev v=lv at *
    by_cases ae:i=0
    ·subst ae;obtain rfl:=ac.out rfl;go_upto_region 9 with fail
     go_region_with fail
     all_goals
      have Y2:=hide (Y1.out ((E.setCell ⟨l,1,none⟩ (.int .i64 (y:Nat))).setCell ⟨l,0 + 1,none⟩ (.int .i64 (y:Nat))).drew bR.drew);clear Y1;go_wp2;go_roundw
      case rel=>exact Y2.out _ (by go_num)
      case measure=>simp [intOf];omega
    ·have am:¬ (i + 1=1):=by omega
     have ak:¬ (1=i + 1):=by omega
     go_upto_region 9 with fail
     go_region_with fail
     all_goals
      have Y2:=hide (Y1.out ((E.setCell ⟨l,1,none⟩ (.int .i64 (y:Nat))).setCell ⟨l,i + 1,none⟩ (.int .i64 (z:Nat))).drew bR.drew);clear Y1;go_wp2;go_roundw
      case rel=>exact Y2.out _ (by go_num)
      case measure=>simp [intOf];omega
   ·have hg:¬ ((d:Int) < (lev v:Int)):=by omega
    have N1:=hide (N.out (by omega))
    clear N B;generalize lev v=lv at *
    go_wp2;go_roundw
    case rel=>exact N1.out _ (by go_num)
    case measure=>simp [intOf];omega
  ·have ei:i=c.length:=by omega
   have F:Hid (Vo Z sb w K f V X lev pre c (.returned (.int .i64 ((d:Nat):Int))) wr):=by
    refine ⟨d,ks,rfl,g.out.1.perm,fun y p=>?_,?_,g.out.2.1,g.out.2.2⟩
    ·obtain ⟨j,hj,rfl⟩:=List.mem_iff_getElem.1 p;exact g.out.1.le j hj (by omega)
    ·rcases g.out.1.hd with ⟨e1,e2⟩ | ⟨e1,e2,e3⟩
     ·exact .inl ⟨List.eq_nil_of_length_eq_zero (by omega),e2⟩
     ·match ks,e2,e3 with
      | q :: r,_,e3=>exact .inr ⟨q,r,rfl,e3⟩
   have i1:¬ ((i:Int) + 1 < (c.length:Int) + 1):=by omega
   clear g m;go_wp2;go_ret;exact F.out
end
section
structure St where
 cs:List Rec
 tr:List Nat
 ch:List Nat
 lev:Nat->Nat
 rea:Nat->Int
 wl:Nat->List Nat
 P:Nat
 sp:Nat
 f:Nat->Value
 V:Nat->Value
 X:Nat->List Value
 gone:Nat->Prop
 ls:List (Bool × List Nat)
 L:List Cl
 m:Nat
 k:Nat
 r:Nat
 lc:Nat
 ws:Nat
 mo:Nat
 Rs:Nat->Prop
 Ro:Nat->Prop
 Rd:Nat->Prop
 Rk:Nat->Prop
def K3 (L0:List Cl) (C:iR):Prop:=∀ c ∈ L0,(∃ x ∈ c,-x ∈ c/\x ≠ 0)\/∃ a d,C a=some d/\d.kind=0/\∀ x:Int,x ∈ c↔∃ y ∈ d.lits,wr y=x
theorem K3.same {L0:List Cl} {C k:iR} (h:K3 L0 C) (l:RU C k):K3 L0 k:=fun c m=>by
 rcases h c m with b | ⟨a,d,b,p,o⟩
 ·exact .inl b
 ·rcases l a with ⟨g,_⟩ | ⟨e,r,g1,g2,q,j⟩
  ·rw [b] at g;cases g
  ·rw [b] at g1;cases g1
   exact .inr ⟨a,r,g2,q.trans p,fun x=>(o x).trans ⟨fun ⟨y,i,e⟩=>⟨y,j.mem_iff.2 i,e⟩,fun ⟨y,i,e⟩=>⟨y,j.mem_iff.1 i,e⟩⟩⟩
theorem K3.new {L0:List Cl} {C:iR} (h:K3 L0 C) {a:Nat} {c:xJ} (j:C a=none):K3 L0 (kD C a c):=fun d hd=>by
 rcases h d hd with i | ⟨b,e,i,l,k⟩
 ·exact .inl i
 ·refine .inr ⟨b,e,?_,l,k⟩;rw [dK _ _ (fun g=>by rw [g,j] at i;cases i)];exact i
theorem K3.met {L0:List Cl} {C:iR} {n:Nat} {tr ch:List Nat} {lev:Nat->Nat} (h:K3 L0 C) (t:jm n tr ch lev) (g:xk n C) (u:qI C tr lev tr.length) (r:wm C tr lev) (l:∀ v,v < n->∃ x ∈ tr,x / 2=v) (q:∀ c ∈ L0,∀ x ∈ c,∃ y,y < 2 * n/\wr y=x):
  ∀ c ∈ L0,∃ y ∈ tr,wr y ∈ c:=fun c k=>by
 rcases h c k with ⟨x,b,i,m⟩ | ⟨a,d,b,i,m⟩
 ·obtain ⟨y,A,rfl⟩:=q c k x b;obtain ⟨z,j,e⟩:=l (y / 2) (by omega)
  rcases qQ e with rfl | rfl
  ·exact ⟨z,j,b⟩
  ·exact ⟨op y,j,by rw [Em];exact i⟩
 ·obtain ⟨x,p,o⟩:=UO t g u r l b (by rw [i];decide)
  exact ⟨x,o,(m _).2 ⟨x,p,rfl⟩⟩
theorem Ih.congr {n:Nat} {X X':Nat->List Value} (h:Ih n X) (e:X' 6=X 6):Ih n X':=⟨by rw [e];exact h.n6,by rw [e];exact h.t6⟩
theorem JW.congr {n:Nat} {X X':Nat->List Value} {fol:Nat->Bool} (h:JW n X fol) (e:X' 11=X 11):JW n X' fol:=⟨by rw [e];exact h.n11,by rw [e];exact h.t11⟩
def iN (cs:List Rec):Nat:=cs.countP fun c=>decide (c.kind=1)
def jc (cs:List Rec):Nat:=(cs.map fun c=>if c.kind=2 then 3 + c.lits.length else 0).sum
theorem sF (cs:List Rec) (c:Rec):iN (cs ++ [c])=iN cs + if c.kind=1 then 1 else 0:=by
 unfold iN;rw [List.countP_append,List.countP_cons,List.countP_nil];simp
theorem AZ (cs:List Rec) (c:Rec):jc (cs ++ [c])=jc cs + if c.kind=2 then 3 + c.lits.length else 0:=by
 unfold jc;rw [List.map_append,List.sum_append];simp
theorem EG {cs g:List Rec} (i:g.length=cs.length) (h:∀ k (h:k < cs.length) (h':k < g.length),(g[k]).kind=(cs[k]).kind/\(g[k]).lits.length=(cs[k]).lits.length):iN g=iN cs/\jc g=jc cs:=by
 have e:g.map (fun c=>(c.kind,c.lits.length))=cs.map (fun c=>(c.kind,c.lits.length)):=by
  refine List.ext_getElem (by simpa using i) fun k l j=>?_
  have:=h k (by simpa using j) (by simpa using l)
  simp [this.1,this.2]
 have a:∀ cs:List Rec,iN cs=(cs.map fun c=>(c.kind,c.lits.length)).countP fun p=>decide (p.1=1):=fun cs=>by
  unfold iN;rw [List.countP_map];rfl
 have b:∀ cs:List Rec,jc cs=((cs.map fun c=>(c.kind,c.lits.length)).map fun p=>if p.1=2 then 3 + p.2 else 0).sum:=fun cs=>by
  unfold jc;rw [List.map_map];rfl
 rw [a g,a cs,b g,b cs,e];exact ⟨rfl,rfl⟩
theorem iI.cnt {cs a:List Rec} (h:iI cs a):iN a=iN cs/\jc a=jc cs:=EG h.1 fun k c b=>⟨(h.2 k c b).1,(h.2 k c b).2.2.length_eq⟩
theorem fH.cnt {cs a:List Rec} (h:fH cs a):iN a=iN cs/\jc a=jc cs:=EG h.1 fun k c b=>⟨(h.2 k c b).1,by rw [(h.2 k c b).2]⟩
structure Main (Z:Nat->Prop) (sb ob hb kb n:Nat) (L0:List Cl) (N0:Nat) (brk:Bool) (w:World) (s:St):Prop where
 dJ:rJ Z sb ob hb kb n w (16 + 2 * n) s.f s.V s.X s.gone (dS s.ls) s.Rs s.Ro s.Rd s.Rk
 pi:PI n (mapOf s.cs) s.tr s.ch s.lev s.rea s.wl s.P
 x0:s.X 0=ints (enc s.cs)
 gD:lX n s.X s.tr s.ch s.lev s.rea
 gT:mJ n s.V s.X s.wl
 lam:Ih n s.X
 n10:(s.X 10).length=n
 o7:∃ fol,JW n s.X fol
 f0:s.f 0=.iface 105 (.pointer (some ⟨kb,0,none⟩))
 f3:s.f 3=.int .i64 ((s.lc:Nat):Int)
 f4:s.f 4=.int .i64 ((s.ws:Nat):Int)
 f7:s.f 7=.int .i64 ((s.sp:Nat):Int)
 f14:s.f 14=.bool brk
 f18:s.f 18=.int .i64 ((s.mo:Nat):Int)
 f20:s.f 20=.int .i64 ((s.r:Nat):Int)
 f21:s.f 21=.int .i64 (((50 * Lb.lub s.r s.r:Nat):Int) - ((s.k:Nat):Int))
 Bj:s.sp <= s.tr.length
 late:∀ q ∈ s.ch,q <= s.P
 sM:∀ v,v < n->s.gone v->∃ x ∈ s.tr,x / 2=v
 Ag:brk=false->wm (mapOf s.cs) s.tr s.lev
 bad:brk=true->El s.L []
 lines:jQ L0 (s.ls.map fun l=>(l.1,l.2.map wr)) s.L
 yY:∀ l ∈ s.ls,∀ x ∈ l.2,x < 2 * n
 uk:wC s.L (nW s.cs)
 Ej:K3 L0 (mapOf s.cs)
 num:(enc s.cs).length <= N0 + 33 * s.m
 xq:(dS s.ls).length + 125 * iN s.cs <= 250 * s.m
 cnt:s.lc=iN s.cs
 xm:s.ws=jc s.cs
 gN:2 * s.k <= gN n (bits s.tr.length s.ch)
 lcm:s.lc <= s.m
 km:s.k <= s.m
 n30:n <= 30
def Ready (s:St):Prop:=s.P=s.sp
variable {Z:Nat->Prop} {sb ob hb kb n:Nat} {L0:List Cl} {N0:Nat} {brk:Bool} {w w':World} {s:St}
theorem Main.Yl (h:Main Z sb ob hb kb n L0 N0 brk w s):(dS s.ls).length <= 250 * s.m:=by have:=h.xq;omega
theorem Main.later (h:Main Z sb ob hb kb n L0 N0 brk w s) (a:Below w.heap.size w w'):Main Z sb ob hb kb n L0 N0 brk w' s:={ h with dJ:=h.dJ.later a }
theorem wm.ext {C:iR} {tr Bc ch:List Nat} {lev vP:Nat->Nat} (h:wm C tr lev) (k:jm n tr ch lev) (b:jm n Bc ch vP) (l:∃ e,Bc=tr ++ e):wm C Bc vP:=fun a c p o m=>by
 obtain ⟨x,g1,g2,t⟩:=h a c p o m;obtain ⟨e,rfl⟩:=l;obtain ⟨i,g,q⟩:=List.mem_iff_getElem.1 g2;refine ⟨x,g1,List.mem_append_left _ g2,?_⟩;have r:=k.lev i g;have j:=b.lev i (by simp;omega)
 rw [List.getElem_append_left g] at j;rw [q] at r j;omega
theorem Main.spread (h:Main Z sb ob hb kb n L0 N0 brk w s) {b:Int} {P sp:Nat} {a:List Rec} {tr:List Nat} {lev:Nat->Nat} {rea:Nat->Int} {wl:Nat->List Nat} {i j:Nat->Value} {X':Nat->List Value}
  (g:gI (zz s.Rs w) sb w (16 + 2 * n) s.f s.X n s.ch s.cs s.tr b P sp a tr lev rea wl i j X' w'):
  Main Z sb ob hb kb n L0 N0 brk w' { s with cs:=a,tr:=tr,lev:=lev,rea:=rea,wl:=wl,P:=P,sp:=sp,f:=i,V:=j,X:=X',Rs:=(fun g=>zz s.Rs w g/\g < w'.heap.size),Rd:=(fun g=>zz s.Rd w g/\g < w'.heap.size) }/\dC Z w w':=by
 obtain ⟨l,k⟩:=h.dJ.gM g.dH g.eP (g.ff 12 (by decide) (by decide))
 refine ⟨{
  dJ:=l
  pi:=g.pi
  x0:=g.x0
  gD:=g.gD
  gT:=g.gT
  lam:=h.lam.congr (g.only 6 (by decide) (by decide) (by decide))
  n10:=by show (X' 10).length=n;rw [g.only 10 (by decide) (by decide) (by decide)];exact h.n10
  o7:=by
   obtain ⟨c,q⟩:=h.o7;exact ⟨c,q.congr (g.only 11 (by decide) (by decide) (by decide))⟩
  f0:=(g.ff 0 (by decide) (by decide)).trans h.f0
  f3:=(g.ff 3 (by decide) (by decide)).trans h.f3
  f4:=(g.ff 4 (by decide) (by decide)).trans h.f4
  f7:=g.f7
  f14:=(g.ff 14 (by decide) (by decide)).trans h.f14
  f18:=(g.ff 18 (by decide) (by decide)).trans h.f18
  f20:=(g.ff 20 (by decide) (by decide)).trans h.f20
  f21:=(g.ff 21 (by decide) (by decide)).trans h.f21
  Bj:=g.Bj
  late:=g.late
  sM:=fun v o p=>by
   obtain ⟨x,m,e⟩:=h.sM v o p;obtain ⟨r,rfl⟩:=g.ext;exact ⟨x,List.mem_append_left _ m,e⟩
  Ag:=fun hb=>((h.Ag hb).same g.perm.same).ext h.pi.dJ g.pi.dJ g.ext
  bad:=h.bad
  lines:=h.lines
  yY:=h.yY
  uk:=wC.perm g.perm h.uk
  Ej:=h.Ej.same g.perm.same
  num:=by show (enc a).length <= _;rw [g.perm.len];exact h.num
  xq:=by show (dS s.ls).length + 125 * iN a <= _;rw [g.perm.cnt.1];exact h.xq
  cnt:=by show s.lc=iN a;rw [g.perm.cnt.1];exact h.cnt
  xm:=by show s.ws=jc a;rw [g.perm.cnt.2];exact h.xm
  gN:=Mc h.pi.dJ g.pi.dJ (by obtain ⟨r,rfl⟩:=g.ext;simp) h.gN
  lcm:=h.lcm
  km:=h.km
  n30:=h.n30 },k⟩
end
section
variable {Z:Nat->Prop} {sb ob hb kb n:Nat} {L0:List Cl} {N0:Nat} {w0 w w':World} {s:St}
structure Mid (Z:Nat->Prop) (sb ob hb kb n:Nat) (w0:World) (s:St) (l:List UInt8) (w:World) (cs:List Rec) (f V:Nat->Value) (X:Nat->List Value) (Rs Ro Rd Rk:Nat->Prop):Prop where
 dJ:rJ Z sb ob hb kb n w (16 + 2 * n) f V X s.gone l Rs Ro Rd Rk
 x0:X 0=ints (enc cs)
 busy:fH s.cs cs
 gD:lX n X s.tr s.ch s.lev s.rea
 gT:mJ n V X s.wl
 lam:Ih n X
 n10:(X 10).length=n
 o7:∃ fol,JW n X fol
 ff:∀ j,j ≠ 15->j ≠ 21->j ≠ 1->f j=s.f j
 f21:f 21=.int .i64 (((50 * Lb.lub s.r s.r:Nat):Int) - ((s.k:Nat):Int) - 1)
 eP:dC Z w0 w
theorem mJ.YH {V b:Nat->Value} {X X':Nat->List Value} {wl:Nat->List Nat} (h:mJ n V X wl) (c:WK n b X') (g:X' 9=X 9) (e:∀ x,x < 2 * n->X' (16 + x)=X (16 + x)):mJ n b X' wl:=
 ⟨by rw [g];exact h.n9,c,fun x a=>by rw [e x a];exact h.row x a⟩
theorem Main.YT (h:Main Z sb ob hb kb n L0 N0 false w s):w.cell? ⟨sb,21,none⟩=some (.int .i64 (((50 * Lb.lub s.r s.r:Nat):Int) - ((s.k:Nat):Int)))/\w.frozen? ⟨sb,21,none⟩=false/\∃ i l,Mid Z sb ob hb kb n w s (dS s.ls) (w.setCell ⟨sb,21,none⟩ (.int .i64 (((50 * Lb.lub s.r s.r:Nat):Int) - ((s.k:Nat):Int) - 1))) s.cs (upd s.f 21 (.int .i64 (((50 * Lb.lub s.r s.r:Nat):Int) - ((s.k:Nat):Int) - 1))) s.V s.X i s.Ro l s.Rk:=by
 have a:=h.dJ.duo.dH.head 21 (by omega)
 rw [h.f21] at a;obtain ⟨c,b⟩:=h.dJ.gM (h.dJ.duo.dH.scalar 21 (.int .i64 (((50 * Lb.lub s.r s.r:Nat):Int) - ((s.k:Nat):Int) - 1)) fun k e=>(vX k e).2) ((dC.refl _).setCell h.dJ.duo.dH.jg _) (by rw [cz _ _ (by decide)])
 exact ⟨a.1,a.2,_,_,c,h.x0,fH.refl _,h.gD,h.gT,h.lam,h.n10,h.o7,fun j o g m=>cz _ _ g,cK ..,b⟩
def WV (Z:Nat->Prop) (sb ob hb kb n:Nat) (w0:World) (s:St) (c0:List Nat) (hd:0 < s.ch.length) (w:World):Prop:=
 ∃ (i:Nat) (hi:i < s.tr.length) (u:Lk) (cs:List Rec) (f V:Nat->Value) (X:Nat->List Value) (Rs Ro Rd Rk:Nat->Prop),Mid Z sb ob hb kb n w0 s (dS s.ls) w cs f V X Rs Ro Rd Rk/\Ig n X (op s.tr[i]:Nat) u.seen u.je/\xU s.tr s.ch s.lev (jf (mapOf s.cs) s.rea) s.ch[s.ch.length - 1] c0 (i + 1) u/\u.seen (s.tr[i] / 2)=true/\u.opn=1
theorem YS (h:Main Z sb ob hb kb n L0 N0 false w0 s) (z:n <= 50) (R:(enc s.cs).length <= 1000000000000) {k:Nat} (B:k < s.cs.length) (hd:0 < s.ch.length) (g:∀ y ∈ (s.cs[k]).lits,op y ∈ s.tr) {o:Nat} (b:o ∈ (s.cs[k]).lits) (c:s.lev (o / 2)=s.ch.length)
  {f:Nat->Value} {O Q:Nat->Prop} (M:Mid Z sb ob hb kb n w0 s (dS s.ls) w s.cs f s.V s.X O s.Ro Q s.Rk):
  Calls Tryz.prog 141 #[.pointer (some ⟨sb,0,none⟩),.int .i64 (dw s.cs k:Nat)] w fun e w'=>e=.returned (.tuple #[])/\WV Z sb ob hb kb n w0 s (s.cs[k]).lits hd w':=by
 refine (GD M.dJ.duo z M.x0 B (by omega) M.gD M.n10 M.gT.hd h.pi.dJ h.pi.pz h.pi.mg hd g b c).mono ?_
 rintro e w' ⟨rfl,i,C,u,m,I,L,J,N,P,r,q,H,a,G⟩;obtain ⟨v,t⟩:=M.dJ.yo a.duo a.eP;exact ⟨rfl,i,C,u,m,I,L,J,_,_,_,_,{
  dJ:=v
  x0:=a.x0
  busy:=G
  gD:=M.gD.congr fun j r q=>a.only j (by omega) (by omega) (by omega)
  gT:=M.gT.YH a.wk (a.only 9 (by decide) (by decide) (by decide)) fun x _=>a.only _ (by omega) (by omega) (by omega)
  lam:=M.lam.congr (a.only 6 (by decide) (by decide) (by decide))
  n10:=a.Ei.n10
  o7:=by
   obtain ⟨l,g⟩:=M.o7;exact ⟨l,g.congr (a.only 11 (by decide) (by decide) (by decide))⟩
  ff:=fun j p E D=>(a.ff j p).trans (M.ff j p E D)
  f21:=(a.ff 21 (by decide)).trans M.f21
  eP:=M.eP.trans t },a.Ei,r,q,H⟩
def WU (Z:Nat->Prop) (sb ob hb kb n:Nat) (w0:World) (s:St) (c0:List Nat) (hd:0 < s.ch.length) (w:World):Prop:=
 ∃ (i:Nat) (hi:i < s.tr.length) (u:Lk) (fol:Nat->Bool) (cs:List Rec) (f V:Nat->Value) (X:Nat->List Value) (Rs Ro Rd Rk:Nat->Prop),Mid Z sb ob hb kb n w0 s (dS s.ls) w cs f V X Rs Ro Rd Rk/\Ig n X (op s.tr[i]:Nat) u.seen (u.je.filter fun y=>!dX (jf (mapOf s.cs) s.rea) fol (y / 2))/\RJ s.tr (jf (mapOf s.cs) s.rea) u.seen s.ch[s.ch.length - 1] fol/\xU s.tr s.ch s.lev (jf (mapOf s.cs) s.rea) s.ch[s.ch.length - 1] c0 (i + 1) u/\u.seen (s.tr[i] / 2)=true/\u.opn=1
theorem YR (h:Main Z sb ob hb kb n L0 N0 false w0 s) (D:n <= 50) (Q:(enc s.cs).length <= 1000000000000) {r:List Nat} {hd:0 < s.ch.length} (M:WV Z sb ob hb kb n w0 s r hd w):
  Calls Tryz.prog 142 #[.pointer (some ⟨sb,0,none⟩)] w fun e w'=>e=.returned (.tuple #[])/\WU Z sb ob hb kb n w0 s r hd w':=by
 obtain ⟨i,E,u,N,f,V,X,S,T,W,U,M,hL,g,B,C⟩:=M;obtain ⟨q,H⟩:=M.o7;have c:=M.busy.map;have R:=M.busy.len;refine (CG (L:=s.L) M.dJ.duo.dH D M.x0 (by omega) M.gD H hL h.pi.dJ (by rw [c];exact h.pi.pz) (by rw [c];exact h.pi.mg) (by rw [c];exact h.pi.pz.trail h.pi.dJ h.uk.hL) hd (fun y z=>(g.tail h.pi.dJ z).1) (by have:=g.lk.len h.pi.dJ;omega)).mono ?_
 rintro e w' ⟨rfl,G,b,P,O,p,o,m,l,a⟩;rw [c] at m l;obtain ⟨v,t⟩:=M.dJ.gM p G (cz _ _ (by decide))
 exact ⟨rfl,i,E,u,b,N,_,_,O,_,_,_,_,{
  dJ:=v
  x0:=(a 0 (by decide) (by decide)).trans M.x0
  busy:=M.busy
  gD:=M.gD.congr fun j p o=>a j (by omega) (by omega)
  gT:=M.gT.congr (a 9 (by decide) (by decide)) (fun x _=>cz _ _ (by omega)) fun x _=>a _ (by omega) (by omega)
  lam:=M.lam.congr (a 6 (by decide) (by decide))
  n10:=by rw [a 10 (by decide) (by decide)];exact M.n10
  o7:=⟨b,o⟩
  ff:=fun j k J I=>(cz _ _ k).trans (M.ff j k J I)
  f21:=(cz _ _ (by decide)).trans M.f21
  eP:=M.eP.trans t },l,m,g,B,C⟩
def Eb (Z:Nat->Prop) (sb ob hb kb n:Nat) (w0:World) (s:St) (x:Nat) (ks:List Nat) (d:Nat) (l:List UInt8) (w:World):Prop:=
 ∃ (cs:List Rec) (f V:Nat->Value) (X:Nat->List Value) (Rs Ro Rd Rk:Nat->Prop),Mid Z sb ob hb kb n w0 s l w cs f V X Rs Ro Rd Rk/\X 7=dx (x :: ks)/\KZ s.tr s.ch s.lev x ks d/\El s.L ((x :: ks).map wr)
theorem YQ (h:Main Z sb ob hb kb n L0 N0 false w0 s) (E:n <= 50) {k:Nat} (G:k < s.cs.length) (m:(s.cs[k]).kind ≠ 2) (o:∀ y ∈ (s.cs[k]).lits,op y ∈ s.tr) {hd:0 < s.ch.length} (M:WU Z sb ob hb kb n w0 s (s.cs[k]).lits hd w):
  Calls Tryz.prog 143 #[.pointer (some ⟨sb,0,none⟩)] w fun e w'=>∃ x ks d,e=.returned (.int .i64 ((d:Nat):Int))/\Eb Z sb ob hb kb n w0 s x ks d (dS s.ls) w':=by
 obtain ⟨i,H,u,c,L,f,V,X,O,P,R,Q,M,hL,J,q,B,D⟩:=M;have r:∀ y ∈ u.je.filter (fun y=>!dX (jf (mapOf s.cs) s.rea) c (y / 2)),op y ∈ s.tr/\0 < s.lev (y / 2):=fun y g=>by
  obtain ⟨a,b,_⟩:=q.tail h.pi.dJ (List.mem_filter.1 g).1;exact ⟨a,b⟩
 refine (Am M.dJ.duo.dH E M.gD hL.l7 (fun y g=>by have:=wO (h.pi.dJ.lt _ (r y g).1);rwa [kr] at this) (fun y g=>(r y g).2) (by have:=q.lk.len h.pi.dJ;have:=List.length_filter_le (fun y=>!dX (jf (mapOf s.cs) s.rea) c (y / 2)) u.je;omega)).mono ?_
 rintro e w' ⟨d,ks,rfl,C,l,p,t,I⟩;obtain ⟨g1,g2⟩:=FJ h.uk.hL h.pi.dJ h.pi.pz hd (h.uk.hL _ _ (dP G) m) o q H B D J C l p;obtain ⟨z,v⟩:=M.dJ.gM t I rfl;exact ⟨_,ks,d,rfl,L,f,V,_,_,_,_,_,{
  dJ:=z
  x0:=(cz _ _ (by decide)).trans M.x0
  busy:=M.busy
  gD:=M.gD.congr fun j t N=>cz _ _ (by omega)
  gT:=M.gT.congr (cz _ _ (by decide)) (fun x _=>rfl) fun x _=>cz _ _ (by omega)
  lam:=M.lam.congr (cz _ _ (by decide))
  n10:=by rw [cz _ _ (by decide)];exact M.n10
  o7:=by
   obtain ⟨c,o⟩:=M.o7;exact ⟨c,o.congr (cz _ _ (by decide))⟩
  ff:=M.ff
  f21:=M.f21
  eP:=M.eP.trans v },by rw [cK];rfl,g1,g2⟩
theorem dQ.lies {f V:Nat->Value} {X:Nat->List Value} {K:Nat} {Z:Nat->Prop} (h:dQ Z sb w K f V X) {k j:Nat} (l:k < K) (y:j < K) (r:k ≠ j) {c:List Nat} (m:X k=dx c):NK sb (V j) w (V k) c:=by
 obtain ⟨a,C,e⟩:=h.eO.shape l;rw [m,df] at e;by_cases v:0 < c.length
 ·obtain ⟨g,o,t,b,hb,D,z⟩:=h.eO.block l (by rw [m,df];exact v)
  rw [m,df] at b;have q:=((h.eO.own k l).lt g (by rw [b];rfl)).2
  refine ⟨some ⟨g,0,none⟩,o,g,0,b,(fun h=>by cases h),fun _=>⟨rfl,q,h.far l g (by rw [b];rfl),fun B=>?_,fun i u=>?_⟩⟩
  ·rcases h.eO.apart k j l y r with p | p
   ·rw [b] at p;cases p
   ·exact p (by rw [B,b];rfl)
  ·have:=(h.eO.cell l b (j:=i) (by rw [m,df];exact u)).1
   rw [Nat.zero_add,this,m,iK _ _ u]
 ·refine ⟨a,C,0,0,e,fun A=>?_,fun h=>absurd h v⟩
  subst A
  rcases (h.eO.own k l).2 with ⟨b,_⟩ | ⟨g,o,t,b,_⟩
  ·rw [e] at b;exact (Value.slice.inj b).2.2
  ·rw [e] at b;cases (Value.slice.inj b).1
theorem Eb.head {x:Nat} {ks:List Nat} {d:Nat} {l:List UInt8} (M:Eb Z sb ob hb kb n w0 s x ks d l w):∃ g c,w.cell? ⟨sb,15,none⟩=some (.slice (some ⟨g,0,none⟩) (ks.length + 1) c):=by
 obtain ⟨h,f,V,X,i,m,p,o,M,b,_⟩:=M;obtain ⟨g,a,t,e,q,_⟩:=M.dJ.duo.dH.elem (k:=7) (j:=0) (n:=ks.length + 1) (by omega) (by rw [b,df];rfl) (by omega)
 exact ⟨g,a,q⟩
theorem xP {K:Nat} {f V:Nat->Value} {X:Nat->List Value} {a C p I G:Nat->Prop} {l:List UInt8} {c:List Nat} (T:rJ Z sb ob hb kb n w K f V X a l C p I G) (r:n <= 50) (u:f 0=.iface 105 (.pointer (some ⟨kb,0,none⟩))) (v:Value) (hL:NK sb (V 12) w v c) (t:c.length <= 50) (i:∀ x ∈ c,x < 2 * n) (g:l.length <= 70368744177664):
  Calls Tryz.prog 100 #[.pointer (some ⟨sb,0,none⟩),v] w fun e w'=>e=.returned .nilIface/\dC Z w w'/\∃ o y j m k,rJ Z sb ob hb kb n w' K (upd f 1 o) (upd V 12 o) (upd X 12 y) a (l ++ (jd false c ++ [10])) j p m k:=by
 have q:=hide (AX T r u ⟨#[]⟩ (by decide) v hL t i g)
 have E:eD (⟨#[]⟩:ByteArray).data.toList c c.length ++ [48,10]=jd false c ++ [10]:=by
  unfold eD jd;rw [List.take_length];simp
 rw [E] at q;clear T hL E;go_enter Tryz.func100,Tryz.ntmps100
 go_wp2_with (go_at_call 140;refine q.out.mono ?_;rintro N L ⟨rfl,h,M,B,H,D,b⟩;have J:=hide h;have z:=hide b;clear h b;simp only [])
 go_ret
 exact ⟨rfl,J.out,_,_,_,_,_,z.out⟩
end
section
variable {Z:Nat->Prop} {sb ob hb kb n:Nat} {L0:List Cl} {N0:Nat} {w0 w w':World} {s:St} {x:Nat} {ks:List Nat} {d:Nat}
theorem KZ.len {tr ch:List Nat} {lev:Nat->Nat} (h:KZ tr ch lev x ks d) (a:jm n tr ch lev):ks.length + 1 <= n:=jN h.vars (h.lt a)
theorem YP (h:Main Z sb ob hb kb n L0 N0 false w0 s) (o:n <= 50) (E:s.m <= 22000000000) (M:Eb Z sb ob hb kb n w0 s x ks d (dS s.ls) w) {v:Value} (l:w.cell? ⟨sb,15,none⟩=some v):
  Calls Tryz.prog 100 #[.pointer (some ⟨sb,0,none⟩),v] w fun e w'=>e=.returned .nilIface/\Eb Z sb ob hb kb n w0 s x ks d (dS (s.ls ++ [(false,x :: ks)])) w'/\w'.cell? ⟨sb,15,none⟩=some v:=by
 obtain ⟨u,f,V,X,L,N,P,O,M,a,hL,r⟩:=M;have G:=M.dJ.duo.dH.hK;have i:V 7=v:=by
  have:=(M.dJ.duo.dH.hd (k:=7) (by omega)).1
  rw [show cellOf 7=15 from rfl,l] at this
  exact (Option.some.inj this).symm
 have c:=M.dJ.duo.dH.lies (k:=7) (j:=12) (by omega) (by omega) (by decide) a
 rw [i] at c;have D:=h.Yl;refine (xP M.dJ o ((M.ff 0 (by decide) (by decide) (by decide)).trans h.f0) v c (by have:=hL.len h.pi.dJ;simp;omega) (hL.lt h.pi.dJ) (by omega)).mono ?_
 rintro e w' ⟨rfl,q,C,J,y,B,z,T⟩;refine ⟨rfl,⟨u,_,_,_,_,_,_,_,{
  dJ:=by rw [oD];exact T
  x0:=(cz _ _ (by decide)).trans M.x0
  busy:=M.busy
  gD:=M.gD.congr fun j I H=>cz _ _ (by omega)
  gT:=M.gT.congr (cz _ _ (by decide)) (fun x _=>cz _ _ (by omega)) fun x _=>cz _ _ (by omega)
  lam:=M.lam.congr (cz _ _ (by decide))
  n10:=by rw [cz _ _ (by decide)];exact M.n10
  o7:=by
   obtain ⟨b,p⟩:=M.o7;exact ⟨b,p.congr (cz _ _ (by decide))⟩
  ff:=fun j t a g=>(cz _ _ g).trans (M.ff j t a g)
  f21:=(cz _ _ (by decide)).trans M.f21
  eP:=M.eP.trans q },(cz _ _ (by decide)).trans a,hL,r⟩,?_⟩
 have:=(T.duo.dH.hd (k:=7) (by omega)).1
 rw [show cellOf 7=15 from rfl,cz _ _ (by decide),i] at this
 exact this
structure Y4 (Z:Nat->Prop) (sb ob hb kb n:Nat) (w0:World) (s:St) (x:Nat) (ks:List Nat) (d p:Nat) (v:Value) (w:World) (cs:List Rec) (f V:Nat->Value) (X:Nat->List Value) (gone Rs Ro Rd Rk:Nat->Prop):Prop where
 dJ:rJ Z sb ob hb kb n w (16 + 2 * n) f V X gone (dS (s.ls ++ [(false,x :: ks)])) Rs Ro Rd Rk
 x0:X 0=ints (enc cs)
 busy:fH s.cs cs
 gD:lX n X (s.tr.take p) (s.ch.take d) s.lev s.rea
 gT:mJ n V X s.wl
 lam:Ih n X
 n10:(X 10).length=n
 o7:∃ fol,JW n X fol
 x7:X 7=dx (x :: ks)
 v7:V 7=v
 ff:∀ j,j ≠ 15->j ≠ 21->j ≠ 1->j ≠ 6->j ≠ 7->j ≠ 8->f j=s.f j
 f7:f 7=.int .i64 ((p:Nat):Int)
 f21:f 21=.int .i64 (((50 * Lb.lub s.r s.r:Nat):Int) - ((s.k:Nat):Int) - 1)
 sM:∀ u,u < n->gone u->∃ y ∈ s.tr.take p,y / 2=u
 Eh:KZ s.tr s.ch s.lev x ks d
 right:El s.L ((x :: ks).map wr)
 hp:∃ hd:d < s.ch.length,p=s.ch[d]
 eP:dC Z w0 w
def Sc (Z:Nat->Prop) (sb ob hb kb n:Nat) (w0:World) (s:St) (x:Nat) (ks:List Nat) (d:Nat) (v:Value) (w:World):Prop:=∃ p cs f V X gone Rs Ro Rd Rk,Y4 Z sb ob hb kb n w0 s x ks d p v w cs f V X gone Rs Ro Rd Rk
theorem YO (h:Main Z sb ob hb kb n L0 N0 false w0 s) (z:n <= 50) (M:Eb Z sb ob hb kb n w0 s x ks d (dS (s.ls ++ [(false,x :: ks)])) w) {v:Value} (r:w.cell? ⟨sb,15,none⟩=some v):
  Calls Tryz.prog 137 #[.pointer (some ⟨sb,0,none⟩),.int .i64 ((d:Nat):Int)] w fun e w'=>e=.returned (.tuple #[])/\Sc Z sb ob hb kb n w0 s x ks d v w':=by
 obtain ⟨L,f,V,X,Rs,Ro,Rd,Rk,M,H,hL,G⟩:=M;have J:V 7=v:=by
  have:=(M.dJ.duo.dH.hd (k:=7) (by omega)).1
  rw [show cellOf 7=15 from rfl,r] at this
  exact (Option.some.inj this).symm
 refine (Bo M.dJ.duo z M.gD h.pi.dJ M.lam hL.dl).mono ?_;rintro e w' ⟨rfl,C,I,U,T,W,Y,D,i,E,l,g,a,c⟩;obtain ⟨q,p⟩:=M.dJ.yo D C;exact ⟨rfl,_,L,I,U,T,_,_,_,_,_,{
  dJ:=q
  x0:=(a 0 (by decide) (by decide) (by decide) (by decide)).trans M.x0
  busy:=M.busy
  gD:=E
  gT:=M.gT.congr (a 9 (by decide) (by decide) (by decide) (by decide)) (fun x _=>c _ (by omega) (by omega)) fun x _=>a _ (by omega) (by omega) (by omega) (by omega)
  lam:=i
  n10:=by rw [a 10 (by decide) (by decide) (by decide) (by decide)];exact M.n10
  o7:=by
   obtain ⟨m,B⟩:=M.o7;exact ⟨m,B.congr (a 11 (by decide) (by decide) (by decide) (by decide))⟩
  x7:=(a 7 (by decide) (by decide) (by decide) (by decide)).trans H
  v7:=(c 7 (by decide) (by decide)).trans J
  ff:=fun j S R Q P O N=>(g j P O N).trans (M.ff j S R Q)
  f7:=l
  f21:=(g 21 (by decide) (by decide) (by decide)).trans M.f21
  sM:=fun u t o=>by
   obtain ⟨y,b,e⟩:=h.sM u t o.1;rw [<- List.take_append_drop (s.ch[d]'hL.dl) s.tr] at b
   rcases List.mem_append.1 b with b | b
   ·exact ⟨y,b,e⟩
   ·exact absurd e (o.2 y b)
  Eh:=hL
  right:=G
  hp:=⟨hL.dl,rfl⟩
  eP:=M.eP.trans p }⟩
structure Yd (Z:Nat->Prop) (sb ob hb kb n:Nat) (w0:World) (s:St) (x:Nat) (ks:List Nat) (d p:Nat) (v:Value) (w:World) (cs:List Rec) (wl:Nat->List Nat) (f V:Nat->Value) (X:Nat->List Value) (gone Rs Ro Rd Rk:Nat->Prop):Prop where
 dJ:rJ Z sb ob hb kb n w (16 + 2 * n) f V X gone (dS (s.ls ++ [(false,x :: ks)])) Rs Ro Rd Rk
 x0:X 0=ints (enc (cs ++ [⟨1,0,x :: ks⟩]))
 busy:fH s.cs cs
 gD:lX n X (s.tr.take p) (s.ch.take d) s.lev s.rea
 gT:mJ n V X wl
 lam:Ih n X
 n10:(X 10).length=n
 o7:∃ fol,JW n X fol
 x7:X 7=dx (x :: ks)
 v7:V 7=v
 ff:∀ j,j ≠ 15->j ≠ 21->j ≠ 1->j ≠ 6->j ≠ 7->j ≠ 8->j ≠ 2->j ≠ 3->f j=s.f j
 f3:f 3=.int .i64 ((s.lc + 1:Nat):Int)
 f7:f 7=.int .i64 ((p:Nat):Int)
 f21:f 21=.int .i64 (((50 * Lb.lub s.r s.r:Nat):Int) - ((s.k:Nat):Int) - 1)
 sM:∀ u,u < n->gone u->∃ y ∈ s.tr.take p,y / 2=u
 Eh:KZ s.tr s.ch s.lev x ks d
 right:El s.L ((x :: ks).map wr)
 hp:∃ hd:d < s.ch.length,p=s.ch[d]
 eP:dC Z w0 w
def Ie (Z:Nat->Prop) (sb ob hb kb n:Nat) (w0:World) (s:St) (x:Nat) (ks:List Nat) (d:Nat) (v:Value) (w:World):Prop:=∃ p cs f V X gone Rs Ro Rd Rk,Yd Z sb ob hb kb n w0 s x ks d p v w cs s.wl f V X gone Rs Ro Rd Rk
theorem Q0 (cs:List Rec) (c:List Nat):ints (enc cs) ++ dx (c.length :: 1 :: 0 :: c)=ints (enc (cs ++ [⟨1,0,c⟩])):=by
 rw [gz,wV]
 congr 1
 simp [enc,enc1,ints,dx]
theorem YN (h:Main Z sb ob hb kb n L0 N0 false w0 s) (O:n <= 50) (Q:(enc s.cs).length <= 1000000000000) (P:s.m <= 22000000000) {v:Value} (M:Sc Z sb ob hb kb n w0 s x ks d v w):
  Calls Tryz.prog 132 #[.pointer (some ⟨sb,2,none⟩),v,.int .i64 1] w fun e w'=>e=.returned (.int .i64 (((enc s.cs).length:Nat):Int))/\Ie Z sb ob hb kb n w0 s x ks d v w':=by
 obtain ⟨p,l,f,V,X,i,U,W,Rd,Y,M⟩:=M;have R:=M.dJ.duo.dH.hK;have g:=M.dJ.duo.dH.lies (k:=7) (j:=0) (by omega) (by omega) (by decide) M.x7
 rw [M.v7] at g;have B:=(M.ff 3 (by decide) (by decide) (by decide) (by decide) (by decide) (by decide)).trans h.f3
 have z:=M.busy.len;have b:(X 0).length=(enc s.cs).length:=by rw [M.x0,fV,z]
 have t:=h.lcm;have c:=M.Eh.len h.pi.dJ;refine (Hw (x :: ks) 1 ((s.lc:Nat):Int) v M.dJ.duo.dH g (by simp;omega) (by decide) (by omega) B (by omega) (by omega)).mono ?_
 rintro e w' ⟨rfl,y,N,r⟩;obtain ⟨q,o⟩:=M.dJ.gM r y (by rw [cz _ _ (by decide),cz _ _ (by decide)])
 refine ⟨by rw [b],p,l,_,_,_,_,_,_,_,_,{
  dJ:=q
  x0:=by rw [cK,M.x0];exact Q0 l (x :: ks)
  busy:=M.busy
  gD:=M.gD.congr fun j T S=>cz _ _ (by omega)
  gT:=M.gT.congr (cz _ _ (by decide)) (fun x _=>cz _ _ (by omega)) fun x _=>cz _ _ (by omega)
  lam:=M.lam.congr (cz _ _ (by decide))
  n10:=by rw [cz _ _ (by decide)];exact M.n10
  o7:=by
   obtain ⟨a,u⟩:=M.o7;exact ⟨a,u.congr (cz _ _ (by decide))⟩
  x7:=(cz _ _ (by decide)).trans M.x7
  v7:=(cz _ _ (by decide)).trans M.v7
  ff:=fun j L J I H G E D C=>(cz _ _ C).trans ((cz _ _ D).trans (M.ff j L J I H G E))
  f3:=by rw [cK];rfl
  f7:=(cz _ _ (by decide)).trans ((cz _ _ (by decide)).trans M.f7)
  f21:=(cz _ _ (by decide)).trans ((cz _ _ (by decide)).trans M.f21)
  sM:=M.sM
  Eh:=M.Eh
  right:=M.right
  hp:=M.hp
  eP:=M.eP.trans o }⟩
def Xm (s:St) (x:Nat) (ks:List Nat):Nat->List Nat:=match ks with
 | []=>s.wl
 | q :: _=>xn s.wl (enc s.cs).length x q 2
def Ic (Z:Nat->Prop) (sb ob hb kb n:Nat) (w0:World) (s:St) (x:Nat) (ks:List Nat) (d:Nat) (v:Value) (w:World):Prop:=∃ p cs f V X gone Rs Ro Rd Rk,Yd Z sb ob hb kb n w0 s x ks d p v w cs (Xm s x ks) f V X gone Rs Ro Rd Rk
theorem Uk {v:Value} (M:Ie Z sb ob hb kb n w0 s x [] d v w):Ic Z sb ob hb kb n w0 s x [] d v w:=M
theorem YM (h:Main Z sb ob hb kb n L0 N0 false w0 s) (O:n <= 50) (S:(enc s.cs).length <= 1000000000000) {v:Value} {q:Nat} {r:List Nat} (M:Ie Z sb ob hb kb n w0 s x (q :: r) d v w):
  Calls Tryz.prog 133 #[.pointer (some ⟨sb,0,none⟩),.int .i64 (((enc s.cs).length:Nat):Int)] w fun e w'=>e=.returned (.tuple #[])/\Ic Z sb ob hb kb n w0 s x (q :: r) d v w':=by
 obtain ⟨p,o,f,V,X,m,Y,Ro,Rd,Rk,M⟩:=M;have T:=M.dJ.duo.dH.hK;have D:=M.busy.len;have N:=M.Eh.vars;have g:=M.Eh.lt h.pi.dJ;have i:=M.Eh.len h.pi.dJ;have E:dw (o ++ [⟨1,0,x :: q :: r⟩]) o.length=(enc s.cs).length:=by
  rw [nT _ lr,iD lr,D]
 have u:x ≠ q:=fun e=>by subst e;simp at N
 have l:(enc (o ++ [⟨1,0,x :: q :: r⟩])).length <= 1099511627776:=by
  rw [gz,List.length_append,D];simp [enc,fZ];simp at i;omega
 have t:∀ y,y < 2 * n->(s.wl y).length <= 1099511627776:=fun y J=>by have:=h.pi.oM.len J;omega
 rw [<- E];refine (AY (k:=o.length) (p:=x) (q:=q) (r:=r) M.dJ.duo.dH rfl M.x0 (by simp) (by simp) u (g x (by simp)) (g q (by simp)) O l M.gT t).mono ?_
 rintro e w' ⟨rfl,Q,G,R,C,L,c⟩;obtain ⟨I,H⟩:=M.dJ.gM C Q rfl;have z:G 7=V 7:=by
  have a:=C.hdr 7 (by omega)
  have b:=M.dJ.duo.dH.hdr 7 (by omega)
  rw [<- a,<- b]
 refine ⟨rfl,p,o,f,G,R,m,_,_,_,_,{
  dJ:=I
  x0:=(c 0 (by decide) (by decide)).trans M.x0
  busy:=M.busy
  gD:=M.gD.congr fun j W U=>c j (by omega) (by omega)
  gT:=by unfold Xm;rw [<- E];exact L
  lam:=M.lam.congr (c 6 (by decide) (by decide))
  n10:=by rw [c 10 (by decide) (by decide)];exact M.n10
  o7:=by
   obtain ⟨B,P⟩:=M.o7;exact ⟨B,P.congr (c 11 (by decide) (by decide))⟩
  x7:=(c 7 (by decide) (by decide)).trans M.x7
  v7:=z.trans M.v7
  ff:=M.ff
  f3:=M.f3
  f7:=M.f7
  f21:=M.f21
  sM:=M.sM
  Eh:=M.Eh
  right:=M.right
  hp:=M.hp
  eP:=M.eP.trans H }⟩
structure Sb (s s':St):Prop where
 k:s'.k=s.k + 1
 m:s'.m=s.m + 1
 r:s'.r=s.r
 lc:s'.lc=s.lc + 1
 mo:s'.mo=s.mo
 ch:s'.ch.length < s.ch.length
theorem YL (h:Main Z sb ob hb kb n L0 N0 false w0 s) (hn:n <= 50) {k:Nat} (hk:k < s.cs.length) (S:(s.cs[k]).kind ≠ 2) (U:∀ y ∈ (s.cs[k]).lits,op y ∈ s.tr) {v:Value} (M:Ic Z sb ob hb kb n w0 s x ks d v w):
  (∃ g c,v=.slice (some ⟨g,0,none⟩) (ks.length + 1) c/\w.cell? ⟨g,0,none⟩=some (.int .i64 ((x:Nat):Int)))/\∀ E,Below w.heap.size w E->
  Calls Tryz.prog 136 #[.pointer (some ⟨sb,6,none⟩),.int .i64 ((x:Nat):Int),.int .i64 (((enc s.cs).length:Nat):Int)] E fun e w'=>e=.returned (.tuple #[])/\dC Z w0 w'/\∃ O,Main Z sb ob hb kb n L0 N0 false w' O/\Ready O/\Sb s O:=by
 obtain ⟨p,cs,f,V,X,gone,Rs,Ro,Rd,Rk,M⟩:=M;have hK:=M.dJ.duo.dH.hK;have em:=M.busy.map;have el:=M.busy.len;obtain ⟨hd,rfl⟩:=M.hp;have ho:=M.Eh.open h.pi.dJ;have G:x < 2 * n:=M.Eh.lt h.pi.dJ x (by simp)
 have tl:=h.pi.dJ.len;have ad:s.ch[d] < s.tr.length:=h.pi.dJ.iC.2 _ (List.getElem_mem hd);have J:(s.ch.take d).length=d:=by rw [List.length_take];omega
 have i:(s.tr.take s.ch[d]).length=s.ch[d]:=by rw [List.length_take];omega
 refine ⟨?_,fun E I=>?_⟩
 ·obtain ⟨g,Y,t,e,q,r,r2,_⟩:=M.dJ.duo.dH.elem (k:=7) (j:=0) (n:=ks.length + 1) (by omega) (by rw [M.x7,df];rfl) (by omega)
  rw [M.v7] at e;refine ⟨g,Y,e,?_⟩;rw [r,<- r2,M.x7];rfl
 ·have T:=M.dJ.later I;refine (qA x n d (((enc s.cs).length:Nat):Int) G hn T.duo.dH (by rw [M.gD.l1,df,i];omega) (by rw [M.gD.l2,df];exact J) M.gD.n3 M.gD.n4 M.gD.n5).mono ?_
  rintro e w' ⟨rfl,hc,N,hs⟩;obtain ⟨t1,t2⟩:=T.gM hs hc (cz _ _ (by decide))
  have D:∀ j,j ≠ 1->j ≠ 3->j ≠ 4->j ≠ 5->fw X x (((enc s.cs).length:Nat):Int) d j=X j:=fun j a b c e=>iG _ _ _ _ a b c e
  have o:mapOf (cs ++ [⟨1,0,x :: ks⟩])=kD (mapOf s.cs) (enc s.cs).length ⟨1,x :: ks⟩:=by rw [p9,em,el]
  have C:mapOf s.cs (enc s.cs).length=none:=lq _;have hP:=h.pi.learn M.Eh h.late C (Xm s x ks) (fun q r e=>by
   subst e;have ab:x ≠ q:=fun e=>by have hv:=M.Eh.vars;subst e;simp at hv
   unfold Xm xn;refine ⟨by simp,by simp,fun y h1 h2=>by simp [h1,h2]⟩) (fun e=>by subst e;rfl)
  have hU:=(h.Ag rfl).learn (a:=(enc s.cs).length) h.pi.dJ M.Eh;have ac:=Re h.pi.wK (h.Ag rfl) h.pi.dJ h.pi.mg (dP hk) S U;have R:=h.late _ (List.getElem_mem hd);have Q:=EP (n:=n) (k:=s.k) h.pi.dJ.iC hd tl (by omega) h.gN
  have aa:=M.Eh.len h.pi.dJ;have ae:=h.n30;have B:∀ j,j ≠ 6->upd f 6 N j=f j:=fun j hj=>cz _ _ hj
  refine ⟨rfl,(M.eP.trans (dC.of_below I)).trans t2,{ s with
   cs:=cs ++ [⟨1,0,x :: ks⟩],tr:=s.tr.take s.ch[d] ++ [x],ch:=s.ch.take d,lev:=eG s.lev (x / 2) d,rea:=eG s.rea (x / 2) (((enc s.cs).length:Nat):Int),wl:=Xm s x ks,P:=s.ch[d],sp:=s.ch[d],
   f:=upd f 6 N,V:=upd V 1 N,X:=fw X x (((enc s.cs).length:Nat):Int) d,gone:=gone,ls:=s.ls ++ [(false,x :: ks)],L:=s.L ++ [(x :: ks).map wr],m:=s.m + 1,k:=s.k + 1,lc:=s.lc + 1,
   Rs:=(fun g=>zz Rs E g/\g < w'.heap.size),Ro:=Ro,Rd:=(fun g=>zz Rd E g/\g < w'.heap.size),Rk:=Rk },{
   dJ:=t1
   pi:=by rw [o];exact hP
   x0:=(D 0 (by decide) (by decide) (by decide) (by decide)).trans M.x0
   gD:=M.gD.assign G ho (((enc s.cs).length:Nat):Int) (X':=X) (ch':=s.ch.take d) M.gD.l2 (fun _ _=>rfl)
   gT:=M.gT.congr (D 9 (by decide) (by decide) (by decide) (by decide)) (fun x _=>cz _ _ (by omega)) fun x _=>D _ (by omega) (by omega) (by omega) (by omega)
   lam:=M.lam.congr (D 6 (by decide) (by decide) (by decide) (by decide))
   n10:=(congrArg List.length (D 10 (by decide) (by decide) (by decide) (by decide))).trans M.n10
   o7:=by
    obtain ⟨W,U⟩:=M.o7;exact ⟨W,U.congr (D 11 (by decide) (by decide) (by decide) (by decide))⟩
   f0:=(B 0 (by decide)).trans ((M.ff 0 (by decide) (by decide) (by decide) (by decide) (by decide) (by decide) (by decide) (by decide)).trans h.f0)
   f3:=(B 3 (by decide)).trans M.f3
   f4:=(B 4 (by decide)).trans ((M.ff 4 (by decide) (by decide) (by decide) (by decide) (by decide) (by decide) (by decide) (by decide)).trans h.f4)
   f7:=(B 7 (by decide)).trans M.f7
   f14:=(B 14 (by decide)).trans ((M.ff 14 (by decide) (by decide) (by decide) (by decide) (by decide) (by decide) (by decide) (by decide)).trans h.f14)
   f18:=(B 18 (by decide)).trans ((M.ff 18 (by decide) (by decide) (by decide) (by decide) (by decide) (by decide) (by decide) (by decide)).trans h.f18)
   f20:=(B 20 (by decide)).trans ((M.ff 20 (by decide) (by decide) (by decide) (by decide) (by decide) (by decide) (by decide) (by decide)).trans h.f20)
   f21:=by
    refine (B 21 (by decide)).trans (M.f21.trans ?_)
    congr 1
    show (((50 * Lb.lub s.r s.r:Nat):Int) - ((s.k:Nat):Int) - 1:Int)=((50 * Lb.lub s.r s.r:Nat):Int) - ((s.k + 1:Nat):Int)
    omega
   Bj:=by show s.ch[d] <= (s.tr.take s.ch[d] ++ [x]).length;rw [List.length_append,i];omega
   late:=fun q hq=>by
    have:=(BZ h.pi.dJ.iC hd).2 q hq;exact Nat.le_of_lt this
   sM:=fun u hu hg=>by
    obtain ⟨y,hy,e⟩:=M.sM u hu hg;exact ⟨y,List.mem_append_left _ hy,e⟩
   Ag:=fun _=>by rw [o];exact hU
   bad:=fun e=>by cases e
   lines:=by
    rw [List.map_append];exact h.lines.add (by simp) M.right
   yY:=fun l H=>by
    rcases List.mem_append.1 H with H | H
    ·exact h.yY l H
    ·rw [List.mem_singleton.1 H];exact M.Eh.lt h.pi.dJ
   uk:=by
    rw [qb _ _ (show (1:Nat) ≠ 2 by decide),M.busy.nW]
    exact h.uk.add (x :: ks) fun z=>by rw [List.mem_map]
   Ej:=by rw [o];exact h.Ej.new C
   num:=by
    have:=h.num;show (enc (cs ++ [⟨1,0,x :: ks⟩])).length <= N0 + 33 * (s.m + 1)
    rw [gz,List.length_append,el];simp [enc,fZ];omega
   xq:=by
    have:=h.xq;show (dS (s.ls ++ [(false,x :: ks)])).length + 125 * iN (cs ++ [⟨1,0,x :: ks⟩]) <= 250 * (s.m + 1)
    rw [sF,if_pos (show ((⟨1,0,x :: ks⟩:Rec)).kind=1 from rfl),M.busy.cnt.1,oD,List.length_append,List.length_append]
    have l2:(jd false (x :: ks)).length <= 4 * (ks.length + 1) + 3:=by
     have a:=nL hn (st:=[]) (c:=x :: ks) (M.Eh.lt h.pi.dJ) (by simp) (x :: ks).length lr
     have b:jd false (x :: ks)=eD [] (x :: ks) (x :: ks).length ++ [48]:=by
      unfold eD jd;rw [List.take_length];simp
     rw [b,List.length_append];simp at a ⊢;omega
    simp only [List.length_cons,List.length_nil];omega
   cnt:=by show s.lc + 1=iN (cs ++ [⟨1,0,x :: ks⟩]);rw [sF,M.busy.cnt.1,<- h.cnt];rfl
   xm:=by show s.ws=jc (cs ++ [⟨1,0,x :: ks⟩]);rw [AZ,M.busy.cnt.2,<- h.xm];rfl
   gN:=by
    show 2 * (s.k + 1) <= gN n (bits (s.tr.take s.ch[d] ++ [x]).length (s.ch.take d))
    rw [List.length_append,i];exact Q
   lcm:=by show s.lc + 1 <= s.m + 1;have:=h.lcm;omega
   km:=by show s.k + 1 <= s.m + 1;have:=h.km;omega
   n30:=h.n30 },rfl,⟨rfl,rfl,rfl,rfl,rfl,by show (s.ch.take d).length < s.ch.length;omega⟩⟩
theorem XI {brk:Bool} (h:Main Z sb ob hb kb n L0 N0 brk w s) (i:Ready s):
  w.cell? ⟨sb,12,none⟩=some (.pointer (some ⟨ob,0,none⟩))/\Calls Tryz.prog 144 #[.pointer (some ⟨ob,0,none⟩)] w fun e w'=>e=.returned (.tuple #[])/\dC Z w w'/\∃ a,Main Z sb ob hb kb n L0 N0 brk w' a/\Ready a/\a.tr=s.tr/\a.ch=s.ch/\a.k=s.k/\a.m=s.m/\a.r=s.r/\a.lc=s.lc/\a.mo=s.mo:=by
 refine ⟨?_,(UQ h.dJ.duo.ord).mono ?_⟩
 ·have:=(h.dJ.duo.dH.head 12 (by omega)).1
  rw [h.dJ.duo.f12] at this;exact this
 ·rintro e w' ⟨rfl,l,j⟩;obtain ⟨c,b⟩:=h.dJ.yn j l
  exact ⟨rfl,b,{ s with Ro:=(fun g=>zz s.Ro w g/\g < w'.heap.size),Rd:=(fun g=>zz s.Rd w g/\g < w'.heap.size) },{ h with dJ:=c },i,rfl,rfl,rfl,rfl,rfl,rfl,rfl⟩
end
section
variable {Z:Nat->Prop} {sb ob hb kb n:Nat} {L0:List Cl} {N0:Nat} {w0 w w':World} {s:St}
theorem qy (w:World) (j:Nat):Below w.heap.size w (w.drewN j):=⟨rfl,rfl,rfl,lr,fun _ _=>rfl⟩
def u7 (Z:Nat->Prop) (sb ob hb kb n:Nat) (L0:List Cl) (N0:Nat) (Q:St->Prop):Prop:=
 ∀ w s,Main Z sb ob hb kb n L0 N0 false w s->Ready s->Q s->Calls Tryz.prog 145 #[.pointer (some ⟨sb,0,none⟩)] w fun e w'=>e=.returned .nilIface/\dC Z w w'/\∃ s',Main Z sb ob hb kb n L0 N0 false w' s'/\Ready s'/\s'.k=s.k/\s'.m=s.m/\s'.r=s.r/\(s.lc <= s.mo->s'.mo=s.mo)/\s'.mo <= s.mo + 100/\s'.ch=s.ch
theorem DL:u7 Z sb ob hb kb n L0 N0 (fun s=>s.lc <= s.mo/\s.mo <= 4611686018427387904):=fun w s h hr ⟨hq,hq2⟩=>by
 have b:=(h.dJ.duo.dH.head 3 (by omega)).1
 have a:=(h.dJ.duo.dH.head 18 (by omega)).1
 rw [h.f3] at b;rw [h.f18] at a;have F:Hid (∀ j,Main Z sb ob hb kb n L0 N0 false (w.drewN j) s/\dC Z w (w.drewN j)):=fun j=>⟨h.later (qy w j),dC.of_below (qy w j)⟩
 have c:(s.lc:Int) <= (s.mo:Int):=by omega
 clear h;go_enter Tryz.func145,Tryz.ntmps145
 go_upto_region 1 with fail
 go_quiet (fail)
 go_wp2;go_ret
 exact ⟨rfl,(F.out _).2,s,(F.out _).1,hr,rfl,rfl,rfl,by intros;rfl,by omega,rfl⟩
theorem MP {Q:St->Prop} (h:Main Z sb ob hb kb n L0 N0 false w s) (S:n <= 50) (hN:(enc s.cs).length <= 1000000000000) (hm:s.m <= 22000000000) (hr:s.r <= 134217727) {k:Nat} (hk:k < s.cs.length) (al:(s.cs[k]).kind ≠ 2) (hd:0 < s.ch.length) (hf:∀ y ∈ (s.cs[k]).lits,op y ∈ s.tr) {y0:Nat} (ah:y0 ∈ (s.cs[k]).lits) (ak:s.lev (y0 / 2)=s.ch.length)
  (FG:u7 Z sb ob hb kb n L0 N0 Q) (hQ:∀ j,j.k=s.k + 1->j.m=s.m + 1->j.r=s.r->j.lc=s.lc + 1->j.mo=s.mo->Q j):
  Calls Tryz.prog 101 #[.pointer (some ⟨sb,0,none⟩),.int .i64 ((dw s.cs k:Nat):Int)] w fun e w'=>e=.returned .nilIface/\dC Z w w'/\∃ j,Main Z sb ob hb kb n L0 N0 false w' j/\Ready j/\j.k=s.k + 1/\j.m=s.m + 1/\j.r=s.r/\(s.lc + 1 <= s.mo->j.mo=s.mo)/\j.mo <= s.mo + 100/\j.ch.length < s.ch.length:=by
 obtain ⟨am,an,ay,az,M1⟩:=h.YT;have ai:Lb.lub s.r s.r <= 134217727:=by
  rcases Nat.eq_zero_or_pos s.r with e | e
  ·rw [e];simp [Lb.lub]
  ·exact Nat.le_trans (Jc s.r s.r e (by omega)) (by omega)
 have aq:=h.km;have QE:=hide (fun i Rs Rd (M:Mid Z sb ob hb kb n w s (dS s.ls) i s.cs (upd s.f 21 (.int .i64 (((50 * Lb.lub s.r s.r:Nat):Int) - ((s.k:Nat):Int) - 1))) s.V s.X Rs s.Ro Rd s.Rk)=>YS h S hN hk hd hf ah ak M)
 have QS:=hide (fun i (M:WV Z sb ob hb kb n w s (s.cs[k]).lits hd i)=>YR h S hN M)
 have QP:=hide (fun i (M:WU Z sb ob hb kb n w s (s.cs[k]).lits hd i)=>YQ h S hk al hf M)
 have HD:=hide (fun i x ks d l (M:Eb Z sb ob hb kb n w s x ks d l i)=>M.head)
 have QA:=hide (fun i x ks d (M:Eb Z sb ob hb kb n w s x ks d (dS s.ls) i) v hv=>YP h S hm M (v:=v) hv)
 have QB:=hide (fun i x ks d (M:Eb Z sb ob hb kb n w s x ks d (dS (s.ls ++ [(false,x :: ks)])) i) v hv=>YO h S M (v:=v) hv)
 have QC:=hide (fun i x ks d v (M:Sc Z sb ob hb kb n w s x ks d v i)=>YN h S hN hm M)
 have QW:=hide (fun i x q r d v (M:Ie Z sb ob hb kb n w s x (q :: r) d v i)=>YM h S hN M)
 have QG:=hide (fun i x ks d v (M:Ic Z sb ob hb kb n w s x ks d v i)=>YL h S hk al hf M)
 have ad:=hide (fun i x d v (M:Ie Z sb ob hb kb n w s x [] d v i)=>Uk M)
 have QO:=hide (fun i j (hm':Main Z sb ob hb kb n L0 N0 false i j) (hr':Ready j)=>XI hm' hr')
 have QF:=hide (fun i j (hm':Main Z sb ob hb kb n L0 N0 false i j) (hr':Ready j) a b c d e=>FG i j hm' hr' (hQ j a b c d e))
 have ar:(s.k:Int) <= 22000000000:=by omega
 have ap:((50 * Lb.lub s.r s.r:Nat):Int) <= 6710886350:=by omega
 have aj:(0:Int) <= ((50 * Lb.lub s.r s.r:Nat):Int):=by omega
 have au:(0:Int) <= (s.k:Int):=by omega
 obtain ⟨left,L⟩:∃ left:Int,left=((50 * Lb.lub s.r s.r:Nat):Int) - ((s.k:Nat):Int):=⟨_,rfl⟩;rw [<- L] at am M1 QE;have ax:left <= 6710886350:=by omega
 have aw:-22000000000 <= left:=by omega
 have ae:=hide M1;clear M1 h hf ah ak L aq ai ar ap aj au FG hQ hN hm;go_enter Tryz.func101,Tryz.ntmps101
 go_upto_region 2 with fail
 generalize av:w.setCell ⟨sb,21,none⟩ (.int .i64 (left - 1))=W1 at ae ⊢;clear av am an;go_upto_region 3 with (go_at_call 141;refine (QE.out _ _ _ ae.out).mono ?_;rintro e2 w2 ⟨rfl,m2⟩;have M2:=hide m2;clear m2;simp only [])
 clear QE ae;go_upto_region 4 with (go_at_call 142;refine (QS.out _ M2.out).mono ?_;rintro e3 w3 ⟨rfl,m3⟩;have M3:=hide m3;clear m3;simp only [])
 clear QS M2;go_upto_region 5 with (go_at_call 143;refine (QP.out _ M3.out).mono ?_;rintro e4 w4 ⟨x,ks,d,rfl,m4⟩;have M4:=hide m4;obtain ⟨g7,c7,ag⟩:=HD.out _ _ _ _ _ m4;clear m4;simp only [])
 clear QP M3 HD;go_upto_region 7 with (go_at_call 100;refine (QA.out _ _ _ _ M4.out _ ag).mono ?_;rintro e5 w5 ⟨rfl,m5,q5⟩;have M5:=hide m5;clear m5;simp only [])
 clear QA M4 ag;go_upto_region 10 with (go_at_call 137;refine (QB.out _ _ _ _ M5.out _ q5).mono ?_;rintro e6 w6 ⟨rfl,m6⟩;have M6:=hide m6;clear m6;simp only [])
 clear QB M5 q5;go_upto_region 11 with (go_at_call 132;refine (QC.out _ _ _ _ _ M6.out).mono ?_;rintro e7 w7 ⟨rfl,m7⟩;have M7:=hide m7;clear m7;simp only [])
 clear QC M6;have z:Hid (∀ w8,Ic Z sb ob hb kb n w s x ks d (.slice (some ⟨g7,0,none⟩) (ks.length + 1) c7) w8->w8.cell? ⟨g7,0,none⟩=some (.int .i64 ((x:Nat):Int))/\∀ i,Below w8.heap.size w8 i->Calls Tryz.prog 136 #[.pointer (some ⟨sb,6,none⟩),.int .i64 ((x:Nat):Int),.int .i64 (((enc s.cs).length:Nat):Int)] i fun e w'=>e=.returned (.tuple #[])/\dC Z w w'/\∃ j,Main Z sb ob hb kb n L0 N0 false w' j/\Ready j/\Sb s j):=fun w8 m8=>by
  obtain ⟨⟨g,c,hv,c0⟩,hq⟩:=QG.out _ _ _ _ _ m8;obtain ⟨y1,_,_⟩:=Value.slice.inj hv;obtain rfl:g7=g:=by have:=Option.some.inj y1;exact congrArg Addr.block this
  exact ⟨c0,hq⟩
 clear QG
 cases ks with
 | nil=>
  have M8:=hide (ad.out _ _ _ _ M7.out);obtain ⟨c0,B⟩:=z.out _ M8.out;have ac:=hide B;clear QW ad M7 M8 z B;go_upto_region 13 with fail
  go_region_with (go_at_call 136;refine (ac.out _ (by first | exact bR | exact bR.drew)).mono ?_;rintro e9 w9 ⟨rfl,R,s9,u,t,N⟩;have C9:=hide R;have M9:=hide u;have R9:=hide t;have o:=hide N;obtain ⟨ao,qo⟩:=QO.out _ _ u t;have aa:=hide qo;clear R u t N qo;simp only [])
  all_goals
   go_wp2_with (first | (go_at_call 144;refine aa.out.mono ?_;rintro eA wA ⟨rfl,P,sA,J,H,-,ca,ka,Y,T,la,W⟩;have CA:=hide P;have ab:=hide (QF.out wA sA J H (ka.trans o.out.k) (Y.trans o.out.m) (T.trans o.out.r) (la.trans o.out.lc) (W.trans o.out.mo));have KA:=hide ka;have MA:=hide Y;have RA:=hide T;have LA:=hide la;have OA:=hide W;have af:=hide ca;clear P J H ka Y T la W ca;simp only []) | (go_at_call 145;refine ab.out.mono ?_;rintro eB wB ⟨rfl,O,p,I,G,E,mb,rb,D,U,C⟩;have CB:=hide O;have MB:=hide I;have RB:=hide G;have FB:Hid (p.k=s.k + 1/\p.m=s.m + 1/\p.r=s.r/\(s.lc + 1 <= s.mo->p.mo=s.mo)/\p.mo <= s.mo + 100/\p.ch.length < s.ch.length):=⟨E.trans (KA.out.trans o.out.k),mb.trans (MA.out.trans o.out.m),rb.trans (RA.out.trans o.out.r),fun hh=>(D (by rw [LA.out,OA.out,o.out.lc,o.out.mo];exact hh)).trans (OA.out.trans o.out.mo),by have e1:=OA.out;have e2:=o.out.mo;omega,by rw [C,af.out];exact o.out.ch⟩;clear O I G E mb rb D U C;simp only []))
   go_ret
   exact ⟨rfl,(C9.out.trans CA.out).trans CB.out,p,MB.out,RB.out,FB.out⟩
 | cons q r=>
  have rl:(2:Int) <= ((r.length + 1 + 1:Nat):Int):=by omega
  go_upto_region 13 with (go_at_call 133;refine (QW.out _ _ _ _ _ _ M7.out).mono ?_;rintro e8 w8 ⟨rfl,m8⟩;have M8:=hide m8;clear m8;simp only [])
  obtain ⟨c0,B⟩:=z.out _ M8.out;have ac:=hide B;clear QW ad M7 M8 z B
  go_region_with (go_at_call 136;refine (ac.out _ (by first | exact bR | exact bR.drew)).mono ?_;rintro e9 w9 ⟨rfl,R,s9,u,t,N⟩;have C9:=hide R;have M9:=hide u;have R9:=hide t;have o:=hide N;obtain ⟨ao,qo⟩:=QO.out _ _ u t;have aa:=hide qo;clear R u t N qo;simp only [])
  all_goals
   go_wp2_with (first | (go_at_call 144;refine aa.out.mono ?_;rintro eA wA ⟨rfl,P,sA,J,H,-,ca,ka,Y,T,la,W⟩;have CA:=hide P;have ab:=hide (QF.out wA sA J H (ka.trans o.out.k) (Y.trans o.out.m) (T.trans o.out.r) (la.trans o.out.lc) (W.trans o.out.mo));have KA:=hide ka;have MA:=hide Y;have RA:=hide T;have LA:=hide la;have OA:=hide W;have af:=hide ca;clear P J H ka Y T la W ca;simp only []) | (go_at_call 145;refine ab.out.mono ?_;rintro eB wB ⟨rfl,O,p,I,G,E,mb,rb,D,U,C⟩;have CB:=hide O;have MB:=hide I;have RB:=hide G;have FB:Hid (p.k=s.k + 1/\p.m=s.m + 1/\p.r=s.r/\(s.lc + 1 <= s.mo->p.mo=s.mo)/\p.mo <= s.mo + 100/\p.ch.length < s.ch.length):=⟨E.trans (KA.out.trans o.out.k),mb.trans (MA.out.trans o.out.m),rb.trans (RA.out.trans o.out.r),fun hh=>(D (by rw [LA.out,OA.out,o.out.lc,o.out.mo];exact hh)).trans (OA.out.trans o.out.mo),by have e1:=OA.out;have e2:=o.out.mo;omega,by rw [C,af.out];exact o.out.ch⟩;clear O I G E mb rb D U C;simp only []))
   go_ret
   exact ⟨rfl,(C9.out.trans CA.out).trans CB.out,p,MB.out,RB.out,FB.out⟩
end
end
end So
end Go.Proofs.YtceahffmenbibaaGreatDoor
