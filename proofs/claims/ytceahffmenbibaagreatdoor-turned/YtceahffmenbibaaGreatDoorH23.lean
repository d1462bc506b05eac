/- Sput Ssta Slea Sleb Slew Sstp Ttxt. -/
import Derived.Test.YtceahffmenbibaaGreatDoorH05
import Derived.Test.YtceahffmenbibaaGreatDoorH19
import Derived.Test.YtceahffmenbibaaGreatDoorH20
import Derived.Test.YtceahffmenbibaaGreatDoorH22
set_option linter.unusedVariables false
set_option linter.unusedSimpArgs false
set_option maxHeartbeats 4000000
set_option maxRecDepth 100000
namespace Go.Proofs.YtceahffmenbibaaGreatDoor
namespace So
section
open Go Go.RowKit Go.Deep Rd
section
variable {Z:Nat->Prop} {sb K n:Nat} {w:World} {f V:Nat->Value} {X:Nat->List Value} {tr ch:List Nat} {lev:Nat->Nat} {rea:Nat->Int}
structure Vi (lev:Nat->Nat) (jd ks:List Nat) (i d:Nat):Prop where
 perm:ks.Perm jd
 le:∀ j (h:j < ks.length),j < i->lev (ks[j] / 2) <= d
 hd:(i=0/\d=0)\/(0 < i/\∃ h:0 < ks.length,lev (ks[0] / 2)=d)
theorem Vi.SV {a ks:List Nat} {i d:Nat} (h:Vi lev a ks i d) (hi:i < ks.length) (g:lev (ks[i] / 2) <= d) (m:0 < lev (ks[i] / 2)):Vi lev a ks (i + 1) d where
 perm:=h.perm
 le:=fun j k b=>by
  rcases Nat.lt_succ_iff_lt_or_eq.1 b with c | c
  ·exact h.le j k c
  ·subst c;exact g
 hd:=by
  rcases h.hd with ⟨l,e⟩ | ⟨l,e⟩
  ·omega
  ·exact .inr ⟨by omega,e⟩
theorem IG {l:List Nat} {i:Nat} (hi:i < l.length) (c:0 < l.length):((l.set 0 l[i]).set i l[0]).Perm l:=by
 by_cases e:i=0
 ·subst e;have:(l.set 0 l[0]).set 0 l[0]=l:=by rw [List.set_set,List.set_getElem_self]
  rw [this]
 ·match l,c with
  | a :: r,_=>
   obtain ⟨k,rfl⟩:∃ k,i=k + 1:=⟨i - 1,by omega⟩;have b:k < r.length:=by simpa using hi
   simp only [List.getElem_cons_succ,List.set_cons_zero,List.set_cons_succ,List.getElem_cons_zero];have h:r=r.take k ++ r[k] :: r.drop (k + 1):=by rw [<- List.drop_eq_getElem_cons b,List.take_append_drop]
   have g:r.set k a=r.take k ++ a :: r.drop (k + 1):=by rw [List.set_eq_take_append_cons_drop,if_pos b]
   rw [g]
   conv=>rhs;rw [h]
   have p1:(r.take k ++ a :: r.drop (k + 1)).Perm (a :: (r.take k ++ r.drop (k + 1))):=List.perm_middle;have p2:(r.take k ++ r[k] :: r.drop (k + 1)).Perm (r[k] :: (r.take k ++ r.drop (k + 1))):=List.perm_middle;exact ((p1.cons r[k]).trans (List.Perm.swap ..)).trans (p2.symm.cons a)
theorem Vi.Oc {a ks:List Nat} {i d:Nat} (h:Vi lev a ks i d) (hi:i < ks.length) (m:d < lev (ks[i] / 2)):Vi lev a ((ks.set 0 ks[i]).set i (ks[0]'(by omega))) (i + 1) (lev (ks[i] / 2)) where
 perm:=(IG hi (by omega)).trans h.perm
 le:=fun j k b=>by
  have c:j < ks.length:=by simpa using k
  rcases Nat.lt_succ_iff_lt_or_eq.1 b with g | g
  ·rw [List.getElem_set_ne (by omega)];by_cases e:j=0
   ·subst e;rw [List.getElem_set_self];exact lr
   ·rw [List.getElem_set_ne (fun l=>e l.symm)];have:=h.le j c g;omega
  ·subst g;rw [List.getElem_set_self];by_cases e:j=0
   ·subst e;exact lr
   ·have:=h.le 0 (by omega) (by omega);omega
 hd:=.inr ⟨by omega,by simp;omega,by
  by_cases e:i=0
  ·subst e;rw [List.getElem_set_self]
  ·rw [List.getElem_set_ne e,List.getElem_set_self]⟩
def Rx (Z:Nat->Prop) (sb:Nat) (w:World) (K:Nat) (f V:Nat->Value) (X:Nat->List Value) (lev:Nat->Nat) (pre:Int) (jd:List Nat) (s3 s5:Value) (wr:World):Prop:=
 ∃ (i d:Nat) (ks:List Nat),s3=.int .i64 ((d:Nat):Int)/\s5=.int .i64 ((i + 1:Nat):Int)/\i <= jd.length/\Hid (Vi lev jd ks i d/\dQ Z sb wr K f V (upd X 7 (.int .i64 pre :: dw ks))/\dB Z w wr)
def Vh (Z:Nat->Prop) (sb:Nat) (w:World) (K:Nat) (f V:Nat->Value) (X:Nat->List Value) (lev:Nat->Nat) (pre:Int) (jd:List Nat) (e:Ending) (w':World):Prop:=
 ∃ (d:Nat) (ks:List Nat),e=.returned (.int .i64 ((d:Nat):Int))/\ks.Perm jd/\(∀ y ∈ ks,lev (y / 2) <= d)/\((ks=[]/\d=0)\/∃ q r,ks=q :: r/\lev (q / 2)=d)/\dQ Z sb w' K f V (upd X 7 (.int .i64 pre :: dw ks))/\dB Z w w'
theorem Ab {pre:Int} {c:List Nat} (h:dQ Z sb w K f V X) (hn:n <= 50) (hT:lU n X tr ch lev rea) (h7:X 7=.int .i64 pre :: dw c) (t:∀ y ∈ c,y < 2 * n) (D:∀ y ∈ c,0 < lev (y / 2)) (ao:c.length <= 50):
  Calls Tryz.prog 143 #[.pointer (some ⟨sb,0,none⟩)] w fun e w'=>Vh Z sb w K f V X lev pre c e w':=by
 have hK:=h.hK;have l7:(X 7).length=c.length + 1:=by rw [h7];simp [cZ]
 obtain ⟨l,c7,t7,e7,q7,-⟩:=h.elem (k:=7) (j:=0) (by omega) l7 (by omega);rw [show cellOf 7=15 from rfl] at q7;have S0:Hid (Vi lev c c 0 0/\dQ Z sb w K f V (upd X 7 (.int .i64 pre :: dw c))/\dB Z w w):=⟨⟨.refl _,fun j _ h=>absurd h (Nat.not_lt_zero _),.inl ⟨rfl,rfl⟩⟩,by rw [<- h7,upd_same];exact h,dB.refl _⟩;have aj:Hid (∀ wr ks,ks.length=c.length->dQ Z sb wr K f V (upd X 7 (.int .i64 pre :: dw ks))->(∀ i (hi:i < ks.length),wr.cell? ⟨l,i + 1,none⟩=some (.int .i64 (ks[i]:Nat))/\wr.frozen? ⟨l,i + 1,none⟩=false)/\∀ v,v < n->∃ U c4,wr.cell? ⟨sb,10,none⟩=some (.slice (some ⟨U,0,none⟩) n c4)/\wr.cell? ⟨U,v,none⟩=some (.int .i64 (lev v:Nat))):=fun wr ks m P=>by
  refine ⟨fun i hi=>?_,fun v hv=>?_⟩
  ·obtain ⟨a,b⟩:=P.eH.cell (k:=7) (by omega) e7 (j:=i + 1) (by rw [cz];simp [cZ];omega);rw [cz,List.getElem?_cons_succ,iK _ _ hi] at a;exact ⟨a,b⟩
  ·obtain ⟨U,c4,t4,e4,q4,r4,s4,-⟩:=P.elem (k:=4) (j:=v) (by omega) (by rw [cu _ _ (by decide)];exact hT.n4) hv;rw [cu _ _ (by decide),hT.t4 v hv] at s4;obtain rfl:=Option.some.inj s4;exact ⟨U,c4,q4,r4⟩
 have ah:Hid (∀ (wr Y:World) (ks:List Nat) i (hi:i < ks.length),ks.length=c.length->dQ Z sb Y K f V (upd X 7 (.int .i64 pre :: dw ks))->dQ Z sb ((Y.setCell ⟨l,1,none⟩ (.int .i64 (ks[i]:Nat))).setCell ⟨l,i + 1,none⟩ (.int .i64 ((ks[0]'(by omega):Nat):Int))) K f V (upd X 7 (.int .i64 pre :: dw ((ks.set 0 ks[i]).set i (ks[0]'(by omega)))))):=fun wr Y ks i hi m P=>by
  have O:=(P.set (k:=7) (by omega) e7 1 (.int .i64 (ks[i]:Nat))).set (k:=7) (by omega) e7 (i + 1) (.int .i64 ((ks[0]'(by omega):Nat):Int));rw [cz,cz,eP,eP] at O;rw [show (1:Nat)=0 + 1 from rfl,List.set_cons_succ,List.set_cons_succ,nG,nG] at O;exact O
 have zg:Z l:=h.al 7 (by omega) l (by rw [e7];rfl);have ai:=hide t;have ab:=hide D;clear h hT h7 l7 e7 t D;go_enter Tryz.func143,Tryz.ntmps143
 go_wp2_with fail
 go_loopw [3,5,6] (fun s3 s5 _ wr=>Rx Z sb w K f V X lev pre c s3 s5 wr) (fun _ s5 _ _=>c.length + 1 - (intOf s5).toNat)
 case atStart=>exact ⟨0,0,c,rfl,rfl,zl,S0⟩
 case round=>
  clear S0 q7;obtain ⟨i,d,ks,rfl,rfl,ap,g⟩:=hrel;have m:ks.length=c.length:=g.out.1.perm.length_eq;by_cases t:i < c.length
  ·obtain ⟨c1,c2⟩:=aj.out wr ks m g.out.2.1;have u:i < ks.length:=by omega
   obtain ⟨R,af⟩:=c1 i u;obtain ⟨S,ag⟩:=c1 0 (by omega);have H:ks[i] ∈ c:=g.out.1.perm.mem_iff.1 (List.getElem_mem _);obtain ⟨y,p⟩:∃ y,y=ks[i]:=⟨_,rfl⟩;have an:y < 2 * n:=by rw [p];exact ai.out _ H
   have ad:0 < lev (y / 2):=by rw [p];exact ab.out _ H
   obtain ⟨U,aq,q4,r4⟩:=c2 (y / 2) (by omega);have QV:Hid (∀ Y,Calls Tryz.prog 176 #[.int .i64 (y:Nat)] Y fun e w'=>e=.returned (.int .i64 ((y / 2:Nat):Int))/\w'=Y):=fun Y=>eQ y Y (by omega)
   have SW:=hide (fun Y P=>ah.out wr Y ks i u m P);obtain ⟨z,Q⟩:∃ z,z=ks[0]'(by omega):=⟨_,rfl⟩;rw [<- p] at R;rw [<- Q] at S;have NO:Hid (lev (y / 2) <= d->∀ W,Below wr.heap.size wr W->∀ G,G=.int .i64 ((i + 1 + 1:Nat):Int)->Rx Z sb w K f V X lev pre c (.int .i64 ((d:Nat):Int)) G W):=fun J W hW G I=>⟨i + 1,d,ks,rfl,I,t,g.out.1.SV u (by rw [<- p];exact J) (by rw [<- p];exact ad),g.out.2.1.later hW,g.out.2.2.trans (dB.of_below hW)⟩
   have aa:Hid (d < lev (y / 2)->∀ Y,Below wr.heap.size wr Y->∀ W',Below ((Y.setCell ⟨l,1,none⟩ (.int .i64 (y:Nat))).setCell ⟨l,i + 1,none⟩ (.int .i64 (z:Nat))).heap.size ((Y.setCell ⟨l,1,none⟩ (.int .i64 (y:Nat))).setCell ⟨l,i + 1,none⟩ (.int .i64 (z:Nat))) W'->∀ G,G=.int .i64 ((i + 1 + 1:Nat):Int)->Rx Z sb w K f V X lev pre c (.int .i64 ((lev (y / 2):Nat):Int)) G W'):=fun o Y hY W' T G I=>by
    have O:=SW.out Y (g.out.2.1.later hY);rw [<- p,<- Q] at O;have p1:=g.out.1.Oc u (by rw [<- p];exact o);rw [<- p,<- Q] at p1;exact ⟨i + 1,_,_,rfl,I,t,p1,O.later T,(((g.out.2.2.trans (dB.of_below hY)).setCell zg _).setCell zg _).trans (dB.of_below T)⟩
   have v0:(0:Int) <= ((y / 2:Nat):Int):=by omega
   have v1:((y / 2:Nat):Int) < (n:Int):=by omega
   have i0:(0:Int) <= (i:Int) + 1:=by omega
   have i1:(i:Int) + 1 < (c.length:Int) + 1:=by omega
   have i2:(i:Int) + 1 <= 51:=by omega
   have i3:((i:Int) + 1).toNat=i + 1:=by omega
   have i4:(1:Int) < (c.length:Int) + 1:=by omega
   have ac:Hid (i=0->y=z):=fun e=>by subst e;rw [p,Q]
   clear g p Q c1 c2 SW H m u;generalize y / 2=v at *
   go_upto_region 6 with fail
   go_quiet ((go_at_call 176;exact Calls.quiet_of_same (QV.out _)))
   obtain ⟨E,C⟩:∃ E,E=wr.drewN nq:=⟨_,rfl⟩;have M:Below wr.heap.size wr E:=by rw [C];exact Go.below_drewN bR _
   have L:E.heap=wr.heap:=by rw [C];rfl
   rw [<- C];rw [<- eX L] at R S;rw [<- nX L] at af ag;have N:=hide (fun J=>NO.out J E M);have B:=hide (fun o=>aa.out o E M);clear C M L NO aa q4 r4 QV;by_cases o:d < lev v
   ·have hg:(d:Int) < (lev v:Int):=by omega
    have Y1:=hide (B.out o);clear N B o;generalize lev v=lv at *
    by_cases ae:i=0
    ·subst ae;obtain rfl:=ac.out rfl;go_upto_region 9 with fail
     go_region_with fail
     all_goals
      have Y2:=hide (Y1.out ((E.setCell ⟨l,1,none⟩ (.int .i64 (y:Nat))).setCell ⟨l,0 + 1,none⟩ (.int .i64 (y:Nat))).drew bR.drew);clear Y1;go_wp2;go_roundw
      case rel=>exact Y2.out _ (by go_num)
      case measure=>simp [intOf];omega
    ·have am:¬ (i + 1=1):=by omega
     have ak:¬ (1=i + 1):=by omega
     go_upto_region 9 with fail
     go_region_with fail
     all_goals
      have Y2:=hide (Y1.out ((E.setCell ⟨l,1,none⟩ (.int .i64 (y:Nat))).setCell ⟨l,i + 1,none⟩ (.int .i64 (z:Nat))).drew bR.drew);clear Y1;go_wp2;go_roundw
      case rel=>exact Y2.out _ (by go_num)
      case measure=>simp [intOf];omega
   ·have hg:¬ ((d:Int) < (lev v:Int)):=by omega
    have N1:=hide (N.out (by omega));clear N B;generalize lev v=lv at *
    go_wp2;go_roundw
    case rel=>exact N1.out _ (by go_num)
    case measure=>simp [intOf];omega
  ·have ei:i=c.length:=by omega
   have F:Hid (Vh Z sb w K f V X lev pre c (.returned (.int .i64 ((d:Nat):Int))) wr):=by
    refine ⟨d,ks,rfl,g.out.1.perm,fun y p=>?_,?_,g.out.2.1,g.out.2.2⟩
    ·obtain ⟨j,hj,rfl⟩:=List.mem_iff_getElem.1 p;exact g.out.1.le j hj (by omega)
    ·rcases g.out.1.hd with ⟨e1,e2⟩ | ⟨e1,e2,e3⟩
     ·exact .inl ⟨List.eq_nil_of_length_eq_zero (by omega),e2⟩
     ·match ks,e2,e3 with
      | q :: r,_,e3=>exact .inr ⟨q,r,rfl,e3⟩
   have i1:¬ ((i:Int) + 1 < (c.length:Int) + 1):=by omega
   clear g m;go_wp2;go_ret;exact F.out
end
section
structure St where
 cs:List Rec
 tr:List Nat
 ch:List Nat
 lev:Nat->Nat
 rea:Nat->Int
 wl:Nat->List Nat
 P:Nat
 sp:Nat
 f:Nat->Value
 V:Nat->Value
 X:Nat->List Value
 gone:Nat->Prop
 ls:List (Bool × List Nat)
 L:List Cl
 m:Nat
 k:Nat
 r:Nat
 lc:Nat
 ws:Nat
 mo:Nat
 Rs:Nat->Prop
 Ro:Nat->Prop
 Rd:Nat->Prop
 Rk:Nat->Prop
def KG (L0:List Cl) (C:iQ):Prop:=∀ c ∈ L0,(∃ x ∈ c,-x ∈ c/\x ≠ 0)\/∃ a d,C a=some d/\d.kind=0/\∀ x:Int,x ∈ c↔∃ y ∈ d.lits,wr y=x
theorem KG.same {L0:List Cl} {C k:iQ} (h:KG L0 C) (l:Ru C k):KG L0 k:=fun c m=>by
 rcases h c m with b | ⟨a,d,b,p,o⟩
 ·exact .inl b
 ·rcases l a with ⟨g,_⟩ | ⟨e,r,g1,g2,q,j⟩
  ·rw [b] at g;cases g
  ·rw [b] at g1;cases g1
   exact .inr ⟨a,r,g2,q.trans p,fun x=>(o x).trans ⟨fun ⟨y,i,e⟩=>⟨y,j.mem_iff.2 i,e⟩,fun ⟨y,i,e⟩=>⟨y,j.mem_iff.1 i,e⟩⟩⟩
theorem KG.new {L0:List Cl} {C:iQ} (h:KG L0 C) {a:Nat} {c:xw} (j:C a=none):KG L0 (kC C a c):=fun d hd=>by
 rcases h d hd with i | ⟨b,e,i,l,k⟩
 ·exact .inl i
 ·refine .inr ⟨b,e,?_,l,k⟩;rw [dJ _ _ (fun g=>by rw [g,j] at i;cases i)];exact i
theorem KG.met {L0:List Cl} {C:iQ} {n:Nat} {tr ch:List Nat} {lev:Nat->Nat} (h:KG L0 C) (t:jh n tr ch lev) (g:wQ n C) (u:qA C tr lev tr.length) (r:vO C tr lev) (l:∀ v,v < n->∃ x ∈ tr,x / 2=v) (q:∀ c ∈ L0,∀ x ∈ c,∃ y,y < 2 * n/\wr y=x):
  ∀ c ∈ L0,∃ y ∈ tr,wr y ∈ c:=fun c k=>by
 rcases h c k with ⟨x,b,i,m⟩ | ⟨a,d,b,i,m⟩
 ·obtain ⟨y,A,rfl⟩:=q c k x b;obtain ⟨z,j,e⟩:=l (y / 2) (by omega)
  rcases qH e with rfl | rfl
  ·exact ⟨z,j,b⟩
  ·exact ⟨op y,j,by rw [D6];exact i⟩
 ·obtain ⟨x,p,o⟩:=UE t g u r l b (by rw [i];decide);exact ⟨x,o,(m _).2 ⟨x,p,rfl⟩⟩
theorem Ht.congr {n:Nat} {X X':Nat->List Value} (h:Ht n X) (e:X' 6=X 6):Ht n X':=⟨by rw [e];exact h.n6,by rw [e];exact h.t6⟩
theorem JH.congr {n:Nat} {X X':Nat->List Value} {fol:Nat->Bool} (h:JH n X fol) (e:X' 11=X 11):JH n X' fol:=⟨by rw [e];exact h.n11,by rw [e];exact h.t11⟩
def iM (cs:List Rec):Nat:=cs.countP fun c=>decide (c.kind=1)
def jc (cs:List Rec):Nat:=(cs.map fun c=>if c.kind=2 then 3 + c.lits.length else 0).sum
theorem rQ (cs:List Rec) (c:Rec):iM (cs ++ [c])=iM cs + if c.kind=1 then 1 else 0:=by
 unfold iM;rw [List.countP_append,List.countP_cons,List.countP_nil];simp
theorem Ay (cs:List Rec) (c:Rec):jc (cs ++ [c])=jc cs + if c.kind=2 then 3 + c.lits.length else 0:=by
 unfold jc;rw [List.map_append,List.sum_append];simp
theorem Ew {cs g:List Rec} (i:g.length=cs.length) (h:∀ k (h:k < cs.length) (h':k < g.length),(g[k]).kind=(cs[k]).kind/\(g[k]).lits.length=(cs[k]).lits.length):iM g=iM cs/\jc g=jc cs:=by
 have e:g.map (fun c=>(c.kind,c.lits.length))=cs.map (fun c=>(c.kind,c.lits.length)):=by
  refine List.ext_getElem (by simpa using i) fun k l j=>?_
  have:=h k (by simpa using j) (by simpa using l);simp [this.1,this.2]
 have a:∀ cs:List Rec,iM cs=(cs.map fun c=>(c.kind,c.lits.length)).countP fun p=>decide (p.1=1):=fun cs=>by
  unfold iM;rw [List.countP_map];rfl
 have b:∀ cs:List Rec,jc cs=((cs.map fun c=>(c.kind,c.lits.length)).map fun p=>if p.1=2 then 3 + p.2 else 0).sum:=fun cs=>by
  unfold jc;rw [List.map_map];rfl
 rw [a g,a cs,b g,b cs,e];exact ⟨rfl,rfl⟩
theorem iI.cnt {cs a:List Rec} (h:iI cs a):iM a=iM cs/\jc a=jc cs:=Ew h.1 fun k c b=>⟨(h.2 k c b).1,(h.2 k c b).2.2.length_eq⟩
theorem fF.cnt {cs a:List Rec} (h:fF cs a):iM a=iM cs/\jc a=jc cs:=Ew h.1 fun k c b=>⟨(h.2 k c b).1,by rw [(h.2 k c b).2]⟩
structure Main (Z:Nat->Prop) (sb ob hb kb n:Nat) (L0:List Cl) (N0:Nat) (brk:Bool) (w:World) (s:St):Prop where
 dI:rq Z sb ob hb kb n w (16 + 2 * n) s.f s.V s.X s.gone (dK s.ls) s.Rs s.Ro s.Rd s.Rk
 pi:PI n (mapOf s.cs) s.tr s.ch s.lev s.rea s.wl s.P
 x0:s.X 0=ints (enc s.cs)
 gB:lU n s.X s.tr s.ch s.lev s.rea
 gP:mH n s.V s.X s.wl
 lam:Ht n s.X
 n10:(s.X 10).length=n
 oV:∃ fol,JH n s.X fol
 f0:s.f 0=.iface 105 (.pointer (some ⟨kb,0,none⟩))
 f3:s.f 3=.int .i64 ((s.lc:Nat):Int)
 f4:s.f 4=.int .i64 ((s.ws:Nat):Int)
 f7:s.f 7=.int .i64 ((s.sp:Nat):Int)
 f14:s.f 14=.bool brk
 f18:s.f 18=.int .i64 ((s.mo:Nat):Int)
 f20:s.f 20=.int .i64 ((s.r:Nat):Int)
 f21:s.f 21=.int .i64 (((50 * Lb.lub s.r s.r:Nat):Int) - ((s.k:Nat):Int))
 AV:s.sp <= s.tr.length
 late:∀ q ∈ s.ch,q <= s.P
 rY:∀ v,v < n->s.gone v->∃ x ∈ s.tr,x / 2=v
 zU:brk=false->vO (mapOf s.cs) s.tr s.lev
 bad:brk=true->D5 s.L []
 lines:jF L0 (s.ls.map fun l=>(l.1,l.2.map wr)) s.L
 yJ:∀ l ∈ s.ls,∀ x ∈ l.2,x < 2 * n
 tN:vP s.L (nS s.cs)
 DZ:KG L0 (mapOf s.cs)
 num:(enc s.cs).length <= N0 + 33 * s.m
 wU:(dK s.ls).length + 125 * iM s.cs <= 250 * s.m
 cnt:s.lc=iM s.cs
 wR:s.ws=jc s.cs
 gM:2 * s.k <= gM n (bits s.tr.length s.ch)
 lcm:s.lc <= s.m
 km:s.k <= s.m
 n30:n <= 30
def Ready (s:St):Prop:=s.P=s.sp
variable {Z:Nat->Prop} {sb ob hb kb n:Nat} {L0:List Cl} {N0:Nat} {brk:Bool} {w w':World} {s:St}
theorem Main.Yc (h:Main Z sb ob hb kb n L0 N0 brk w s):(dK s.ls).length <= 250 * s.m:=by have:=h.wU;omega
theorem Main.later (h:Main Z sb ob hb kb n L0 N0 brk w s) (a:Below w.heap.size w w'):Main Z sb ob hb kb n L0 N0 brk w' s:={ h with dI:=h.dI.later a }
theorem vO.ext {C:iQ} {tr AB ch:List Nat} {lev vC:Nat->Nat} (h:vO C tr lev) (k:jh n tr ch lev) (b:jh n AB ch vC) (l:∃ e,AB=tr ++ e):vO C AB vC:=fun a c p o m=>by
 obtain ⟨x,g1,g2,t⟩:=h a c p o m;obtain ⟨e,rfl⟩:=l;obtain ⟨i,g,q⟩:=List.mem_iff_getElem.1 g2;refine ⟨x,g1,List.mem_append_left _ g2,?_⟩;have r:=k.lev i g;have j:=b.lev i (by simp;omega);rw [List.getElem_append_left g] at j;rw [q] at r j;omega
theorem Main.spread (h:Main Z sb ob hb kb n L0 N0 brk w s) {b:Int} {P sp:Nat} {a:List Rec} {tr:List Nat} {lev:Nat->Nat} {rea:Nat->Int} {wl:Nat->List Nat} {i j:Nat->Value} {X':Nat->List Value}
  (g:gH (zz s.Rs w) sb w (16 + 2 * n) s.f s.X n s.ch s.cs s.tr b P sp a tr lev rea wl i j X' w'):
  Main Z sb ob hb kb n L0 N0 brk w' { s with cs:=a,tr:=tr,lev:=lev,rea:=rea,wl:=wl,P:=P,sp:=sp,f:=i,V:=j,X:=X',Rs:=(fun g=>zz s.Rs w g/\g < w'.heap.size),Rd:=(fun g=>zz s.Rd w g/\g < w'.heap.size) }/\dB Z w w':=by
 obtain ⟨l,k⟩:=h.dI.gK g.dF g.eO (g.ff 12 (by decide) (by decide));refine ⟨{
  dI:=l
  pi:=g.pi
  x0:=g.x0
  gB:=g.gB
  gP:=g.gP
  lam:=h.lam.congr (g.only 6 (by decide) (by decide) (by decide))
  n10:=by show (X' 10).length=n;rw [g.only 10 (by decide) (by decide) (by decide)];exact h.n10
  oV:=by
   obtain ⟨c,q⟩:=h.oV;exact ⟨c,q.congr (g.only 11 (by decide) (by decide) (by decide))⟩
  f0:=(g.ff 0 (by decide) (by decide)).trans h.f0
  f3:=(g.ff 3 (by decide) (by decide)).trans h.f3
  f4:=(g.ff 4 (by decide) (by decide)).trans h.f4
  f7:=g.f7
  f14:=(g.ff 14 (by decide) (by decide)).trans h.f14
  f18:=(g.ff 18 (by decide) (by decide)).trans h.f18
  f20:=(g.ff 20 (by decide) (by decide)).trans h.f20
  f21:=(g.ff 21 (by decide) (by decide)).trans h.f21
  AV:=g.AV
  late:=g.late
  rY:=fun v o p=>by
   obtain ⟨x,m,e⟩:=h.rY v o p;obtain ⟨r,rfl⟩:=g.ext;exact ⟨x,List.mem_append_left _ m,e⟩
  zU:=fun hb=>((h.zU hb).same g.perm.same).ext h.pi.dI g.pi.dI g.ext
  bad:=h.bad
  lines:=h.lines
  yJ:=h.yJ
  tN:=vP.perm g.perm h.tN
  DZ:=h.DZ.same g.perm.same
  num:=by show (enc a).length <= _;rw [g.perm.len];exact h.num
  wU:=by show (dK s.ls).length + 125 * iM a <= _;rw [g.perm.cnt.1];exact h.wU
  cnt:=by show s.lc=iM a;rw [g.perm.cnt.1];exact h.cnt
  wR:=by show s.ws=jc a;rw [g.perm.cnt.2];exact h.wR
  gM:=Lt h.pi.dI g.pi.dI (by obtain ⟨r,rfl⟩:=g.ext;simp) h.gM
  lcm:=h.lcm
  km:=h.km
  n30:=h.n30 },k⟩
end
section
variable {Z:Nat->Prop} {sb ob hb kb n:Nat} {L0:List Cl} {N0:Nat} {w0 w w':World} {s:St}
structure Mid (Z:Nat->Prop) (sb ob hb kb n:Nat) (w0:World) (s:St) (l:List UInt8) (w:World) (cs:List Rec) (f V:Nat->Value) (X:Nat->List Value) (Rs Ro Rd Rk:Nat->Prop):Prop where
 dI:rq Z sb ob hb kb n w (16 + 2 * n) f V X s.gone l Rs Ro Rd Rk
 x0:X 0=ints (enc cs)
 busy:fF s.cs cs
 gB:lU n X s.tr s.ch s.lev s.rea
 gP:mH n V X s.wl
 lam:Ht n X
 n10:(X 10).length=n
 oV:∃ fol,JH n X fol
 ff:∀ j,j ≠ 15->j ≠ 21->j ≠ 1->f j=s.f j
 f21:f 21=.int .i64 (((50 * Lb.lub s.r s.r:Nat):Int) - ((s.k:Nat):Int) - 1)
 eO:dB Z w0 w
theorem mH.Yz {V b:Nat->Value} {X X':Nat->List Value} {wl:Nat->List Nat} (h:mH n V X wl) (c:WK n b X') (g:X' 9=X 9) (e:∀ x,x < 2 * n->X' (16 + x)=X (16 + x)):mH n b X' wl:=
 ⟨by rw [g];exact h.n9,c,fun x a=>by rw [e x a];exact h.row x a⟩
theorem Main.YM (h:Main Z sb ob hb kb n L0 N0 false w s):w.cell? ⟨sb,21,none⟩=some (.int .i64 (((50 * Lb.lub s.r s.r:Nat):Int) - ((s.k:Nat):Int)))/\w.frozen? ⟨sb,21,none⟩=false/\∃ i l,Mid Z sb ob hb kb n w s (dK s.ls) (w.setCell ⟨sb,21,none⟩ (.int .i64 (((50 * Lb.lub s.r s.r:Nat):Int) - ((s.k:Nat):Int) - 1))) s.cs (upd s.f 21 (.int .i64 (((50 * Lb.lub s.r s.r:Nat):Int) - ((s.k:Nat):Int) - 1))) s.V s.X i s.Ro l s.Rk:=by
 have a:=h.dI.duo.dF.head 21 (by omega);rw [h.f21] at a;obtain ⟨c,b⟩:=h.dI.gK (h.dI.duo.dF.scalar 21 (.int .i64 (((50 * Lb.lub s.r s.r:Nat):Int) - ((s.k:Nat):Int) - 1)) fun k e=>(vK k e).2) ((dB.refl _).setCell h.dI.duo.dF.jf _) (by rw [cu _ _ (by decide)]);exact ⟨a.1,a.2,_,_,c,h.x0,fF.refl _,h.gB,h.gP,h.lam,h.n10,h.oV,fun j o g m=>cu _ _ g,cz ..,b⟩
def WM (Z:Nat->Prop) (sb ob hb kb n:Nat) (w0:World) (s:St) (c0:List Nat) (hd:0 < s.ch.length) (w:World):Prop:=
 ∃ (i:Nat) (hi:i < s.tr.length) (u:Lk) (cs:List Rec) (f V:Nat->Value) (X:Nat->List Value) (Rs Ro Rd Rk:Nat->Prop),Mid Z sb ob hb kb n w0 s (dK s.ls) w cs f V X Rs Ro Rd Rk/\Hr n X (op s.tr[i]:Nat) u.seen u.jd/\xH s.tr s.ch s.lev (je (mapOf s.cs) s.rea) s.ch[s.ch.length - 1] c0 (i + 1) u/\u.seen (s.tr[i] / 2)=true/\u.opn=1
theorem YL (h:Main Z sb ob hb kb n L0 N0 false w0 s) (z:n <= 50) (R:(enc s.cs).length <= 1000000000000) {k:Nat} (B:k < s.cs.length) (hd:0 < s.ch.length) (g:∀ y ∈ (s.cs[k]).lits,op y ∈ s.tr) {o:Nat} (b:o ∈ (s.cs[k]).lits) (c:s.lev (o / 2)=s.ch.length)
  {f:Nat->Value} {O Q:Nat->Prop} (M:Mid Z sb ob hb kb n w0 s (dK s.ls) w s.cs f s.V s.X O s.Ro Q s.Rk):
  Calls Tryz.prog 141 #[.pointer (some ⟨sb,0,none⟩),.int .i64 (dn s.cs k:Nat)] w fun e w'=>e=.returned (.tuple #[])/\WM Z sb ob hb kb n w0 s (s.cs[k]).lits hd w':=by
 refine (Gq M.dI.duo z M.x0 B (by omega) M.gB M.n10 M.gP.hd h.pi.dI h.pi.o7 h.pi.lZ hd g b c).mono ?_;rintro e w' ⟨rfl,i,C,u,m,I,L,J,N,P,r,q,H,a,G⟩;obtain ⟨v,t⟩:=M.dI.xU a.duo a.eO;exact ⟨rfl,i,C,u,m,I,L,J,_,_,_,_,{
  dI:=v
  x0:=a.x0
  busy:=G
  gB:=M.gB.congr fun j r q=>a.only j (by omega) (by omega) (by omega)
  gP:=M.gP.Yz a.wk (a.only 9 (by decide) (by decide) (by decide)) fun x _=>a.only _ (by omega) (by omega) (by omega)
  lam:=M.lam.congr (a.only 6 (by decide) (by decide) (by decide))
  n10:=a.DY.n10
  oV:=by
   obtain ⟨l,g⟩:=M.oV;exact ⟨l,g.congr (a.only 11 (by decide) (by decide) (by decide))⟩
  ff:=fun j p E D=>(a.ff j p).trans (M.ff j p E D)
  f21:=(a.ff 21 (by decide)).trans M.f21
  eO:=M.eO.trans t },a.DY,r,q,H⟩
def WL (Z:Nat->Prop) (sb ob hb kb n:Nat) (w0:World) (s:St) (c0:List Nat) (hd:0 < s.ch.length) (w:World):Prop:=
 ∃ (i:Nat) (hi:i < s.tr.length) (u:Lk) (fol:Nat->Bool) (cs:List Rec) (f V:Nat->Value) (X:Nat->List Value) (Rs Ro Rd Rk:Nat->Prop),Mid Z sb ob hb kb n w0 s (dK s.ls) w cs f V X Rs Ro Rd Rk/\Hr n X (op s.tr[i]:Nat) u.seen (u.jd.filter fun y=>!dW (je (mapOf s.cs) s.rea) fol (y / 2))/\Rn s.tr (je (mapOf s.cs) s.rea) u.seen s.ch[s.ch.length - 1] fol/\xH s.tr s.ch s.lev (je (mapOf s.cs) s.rea) s.ch[s.ch.length - 1] c0 (i + 1) u/\u.seen (s.tr[i] / 2)=true/\u.opn=1
theorem YK (h:Main Z sb ob hb kb n L0 N0 false w0 s) (D:n <= 50) (Q:(enc s.cs).length <= 1000000000000) {r:List Nat} {hd:0 < s.ch.length} (M:WM Z sb ob hb kb n w0 s r hd w):
  Calls Tryz.prog 142 #[.pointer (some ⟨sb,0,none⟩)] w fun e w'=>e=.returned (.tuple #[])/\WL Z sb ob hb kb n w0 s r hd w':=by
 obtain ⟨i,E,u,N,f,V,X,S,T,W,U,M,hL,g,B,C⟩:=M;obtain ⟨q,H⟩:=M.oV;have c:=M.busy.map;have R:=M.busy.len;refine (Cr (L:=s.L) M.dI.duo.dF D M.x0 (by omega) M.gB H hL h.pi.dI (by rw [c];exact h.pi.o7) (by rw [c];exact h.pi.lZ) (by rw [c];exact h.pi.o7.trail h.pi.dI h.tN.hL) hd (fun y z=>(g.tail h.pi.dI z).1) (by have:=g.lk.len h.pi.dI;omega)).mono ?_;rintro e w' ⟨rfl,G,b,P,O,p,o,m,l,a⟩;rw [c] at m l;obtain ⟨v,t⟩:=M.dI.gK p G (cu _ _ (by decide));exact ⟨rfl,i,E,u,b,N,_,_,O,_,_,_,_,{
  dI:=v
  x0:=(a 0 (by decide) (by decide)).trans M.x0
  busy:=M.busy
  gB:=M.gB.congr fun j p o=>a j (by omega) (by omega)
  gP:=M.gP.congr (a 9 (by decide) (by decide)) (fun x _=>cu _ _ (by omega)) fun x _=>a _ (by omega) (by omega)
  lam:=M.lam.congr (a 6 (by decide) (by decide))
  n10:=by rw [a 10 (by decide) (by decide)];exact M.n10
  oV:=⟨b,o⟩
  ff:=fun j k J I=>(cu _ _ k).trans (M.ff j k J I)
  f21:=(cu _ _ (by decide)).trans M.f21
  eO:=M.eO.trans t },l,m,g,B,C⟩
def DL (Z:Nat->Prop) (sb ob hb kb n:Nat) (w0:World) (s:St) (x:Nat) (ks:List Nat) (d:Nat) (l:List UInt8) (w:World):Prop:=
 ∃ (cs:List Rec) (f V:Nat->Value) (X:Nat->List Value) (Rs Ro Rd Rk:Nat->Prop),Mid Z sb ob hb kb n w0 s l w cs f V X Rs Ro Rd Rk/\X 7=dw (x :: ks)/\KF s.tr s.ch s.lev x ks d/\D5 s.L ((x :: ks).map wr)
theorem YJ (h:Main Z sb ob hb kb n L0 N0 false w0 s) (E:n <= 50) {k:Nat} (G:k < s.cs.length) (m:(s.cs[k]).kind ≠ 2) (o:∀ y ∈ (s.cs[k]).lits,op y ∈ s.tr) {hd:0 < s.ch.length} (M:WL Z sb ob hb kb n w0 s (s.cs[k]).lits hd w):
  Calls Tryz.prog 143 #[.pointer (some ⟨sb,0,none⟩)] w fun e w'=>∃ x ks d,e=.returned (.int .i64 ((d:Nat):Int))/\DL Z sb ob hb kb n w0 s x ks d (dK s.ls) w':=by
 obtain ⟨i,H,u,c,L,f,V,X,O,P,R,Q,M,hL,J,q,B,D⟩:=M;have r:∀ y ∈ u.jd.filter (fun y=>!dW (je (mapOf s.cs) s.rea) c (y / 2)),op y ∈ s.tr/\0 < s.lev (y / 2):=fun y g=>by
  obtain ⟨a,b,_⟩:=q.tail h.pi.dI (List.mem_filter.1 g).1;exact ⟨a,b⟩
 refine (Ab M.dI.duo.dF E M.gB hL.l7 (fun y g=>by have:=wm (h.pi.dI.lt _ (r y g).1);rwa [ko] at this) (fun y g=>(r y g).2) (by have:=q.lk.len h.pi.dI;have:=List.length_filter_le (fun y=>!dW (je (mapOf s.cs) s.rea) c (y / 2)) u.jd;omega)).mono ?_;rintro e w' ⟨d,ks,rfl,C,l,p,t,I⟩;obtain ⟨g1,g2⟩:=Fq h.tN.hL h.pi.dI h.pi.o7 hd (h.tN.hL _ _ (dP G) m) o q H B D J C l p;obtain ⟨z,v⟩:=M.dI.gK t I rfl;exact ⟨_,ks,d,rfl,L,f,V,_,_,_,_,_,{
  dI:=z
  x0:=(cu _ _ (by decide)).trans M.x0
  busy:=M.busy
  gB:=M.gB.congr fun j t N=>cu _ _ (by omega)
  gP:=M.gP.congr (cu _ _ (by decide)) (fun x _=>rfl) fun x _=>cu _ _ (by omega)
  lam:=M.lam.congr (cu _ _ (by decide))
  n10:=by rw [cu _ _ (by decide)];exact M.n10
  oV:=by
   obtain ⟨c,o⟩:=M.oV;exact ⟨c,o.congr (cu _ _ (by decide))⟩
  ff:=M.ff
  f21:=M.f21
  eO:=M.eO.trans v },by rw [cz];rfl,g1,g2⟩
theorem dQ.lies {f V:Nat->Value} {X:Nat->List Value} {K:Nat} {Z:Nat->Prop} (h:dQ Z sb w K f V X) {k j:Nat} (l:k < K) (y:j < K) (r:k ≠ j) {c:List Nat} (m:X k=dw c):Nq sb (V j) w (V k) c:=by
 obtain ⟨a,C,e⟩:=h.eH.shape l;rw [m,cZ] at e;by_cases v:0 < c.length
 ·obtain ⟨g,o,t,b,hb,D,z⟩:=h.eH.block l (by rw [m,cZ];exact v);rw [m,cZ] at b;have q:=((h.eH.own k l).lt g (by rw [b];rfl)).2;refine ⟨some ⟨g,0,none⟩,o,g,0,b,(fun h=>by cases h),fun _=>⟨rfl,q,h.far l g (by rw [b];rfl),fun B=>?_,fun i u=>?_⟩⟩
  ·rcases h.eH.apart k j l y r with p | p
   ·rw [b] at p;cases p
   ·exact p (by rw [B,b];rfl)
  ·have:=(h.eH.cell l b (j:=i) (by rw [m,cZ];exact u)).1;rw [Nat.zero_add,this,m,iK _ _ u]
 ·refine ⟨a,C,0,0,e,fun A=>?_,fun h=>absurd h v⟩;subst A
  rcases (h.eH.own k l).2 with ⟨b,_⟩ | ⟨g,o,t,b,_⟩
  ·rw [e] at b;exact (Value.slice.inj b).2.2
  ·rw [e] at b;cases (Value.slice.inj b).1
theorem DL.head {x:Nat} {ks:List Nat} {d:Nat} {l:List UInt8} (M:DL Z sb ob hb kb n w0 s x ks d l w):∃ g c,w.cell? ⟨sb,15,none⟩=some (.slice (some ⟨g,0,none⟩) (ks.length + 1) c):=by
 obtain ⟨h,f,V,X,i,m,p,o,M,b,_⟩:=M;obtain ⟨g,a,t,e,q,_⟩:=M.dI.duo.dF.elem (k:=7) (j:=0) (n:=ks.length + 1) (by omega) (by rw [b,cZ];rfl) (by omega);exact ⟨g,a,q⟩
theorem xC {K:Nat} {f V:Nat->Value} {X:Nat->List Value} {a C p I G:Nat->Prop} {l:List UInt8} {c:List Nat} (T:rq Z sb ob hb kb n w K f V X a l C p I G) (r:n <= 50) (u:f 0=.iface 105 (.pointer (some ⟨kb,0,none⟩))) (v:Value) (hL:Nq sb (V 12) w v c) (t:c.length <= 50) (i:∀ x ∈ c,x < 2 * n) (g:l.length <= 70368744177664):
  Calls Tryz.prog 100 #[.pointer (some ⟨sb,0,none⟩),v] w fun e w'=>e=.returned .nilIface/\dB Z w w'/\∃ o y j m k,rq Z sb ob hb kb n w' K (upd f 1 o) (upd V 12 o) (upd X 12 y) a (l ++ (gQ false c ++ [10])) j p m k:=by
 have q:=hide (Av T r u ⟨#[]⟩ (by decide) v hL t i g);have E:eu (⟨#[]⟩:ByteArray).data.toList c c.length ++ [48,10]=gQ false c ++ [10]:=by
  unfold eu gQ;rw [List.take_length];simp
 rw [E] at q;clear T hL E;go_enter Tryz.func100,Tryz.ntmps100
 go_wp2_with (go_at_call 140;refine q.out.mono ?_;rintro N L ⟨rfl,h,M,B,H,D,b⟩;have J:=hide h;have z:=hide b;clear h b;simp only [])
 go_ret
 exact ⟨rfl,J.out,_,_,_,_,_,z.out⟩
end
section
variable {Z:Nat->Prop} {sb ob hb kb n:Nat} {L0:List Cl} {N0:Nat} {w0 w w':World} {s:St} {x:Nat} {ks:List Nat} {d:Nat}
theorem KF.len {tr ch:List Nat} {lev:Nat->Nat} (h:KF tr ch lev x ks d) (a:jh n tr ch lev):ks.length + 1 <= n:=jN h.vars (h.lt a)
theorem YI (h:Main Z sb ob hb kb n L0 N0 false w0 s) (o:n <= 50) (E:s.m <= 22000000000) (M:DL Z sb ob hb kb n w0 s x ks d (dK s.ls) w) {v:Value} (l:w.cell? ⟨sb,15,none⟩=some v):
  Calls Tryz.prog 100 #[.pointer (some ⟨sb,0,none⟩),v] w fun e w'=>e=.returned .nilIface/\DL Z sb ob hb kb n w0 s x ks d (dK (s.ls ++ [(false,x :: ks)])) w'/\w'.cell? ⟨sb,15,none⟩=some v:=by
 obtain ⟨u,f,V,X,L,N,P,O,M,a,hL,r⟩:=M;have G:=M.dI.duo.dF.hK;have i:V 7=v:=by
  have:=(M.dI.duo.dF.hd (k:=7) (by omega)).1;rw [show cellOf 7=15 from rfl,l] at this;exact (Option.some.inj this).symm
 have c:=M.dI.duo.dF.lies (k:=7) (j:=12) (by omega) (by omega) (by decide) a;rw [i] at c;have D:=h.Yc;refine (xC M.dI o ((M.ff 0 (by decide) (by decide) (by decide)).trans h.f0) v c (by have:=hL.len h.pi.dI;simp;omega) (hL.lt h.pi.dI) (by omega)).mono ?_;rintro e w' ⟨rfl,q,C,J,y,B,z,T⟩;refine ⟨rfl,⟨u,_,_,_,_,_,_,_,{
  dI:=by rw [oo];exact T
  x0:=(cu _ _ (by decide)).trans M.x0
  busy:=M.busy
  gB:=M.gB.congr fun j I H=>cu _ _ (by omega)
  gP:=M.gP.congr (cu _ _ (by decide)) (fun x _=>cu _ _ (by omega)) fun x _=>cu _ _ (by omega)
  lam:=M.lam.congr (cu _ _ (by decide))
  n10:=by rw [cu _ _ (by decide)];exact M.n10
  oV:=by
   obtain ⟨b,p⟩:=M.oV;exact ⟨b,p.congr (cu _ _ (by decide))⟩
  ff:=fun j t a g=>(cu _ _ g).trans (M.ff j t a g)
  f21:=(cu _ _ (by decide)).trans M.f21
  eO:=M.eO.trans q },(cu _ _ (by decide)).trans a,hL,r⟩,?_⟩
 have:=(T.duo.dF.hd (k:=7) (by omega)).1;rw [show cellOf 7=15 from rfl,cu _ _ (by decide),i] at this;exact this
structure YV (Z:Nat->Prop) (sb ob hb kb n:Nat) (w0:World) (s:St) (x:Nat) (ks:List Nat) (d p:Nat) (v:Value) (w:World) (cs:List Rec) (f V:Nat->Value) (X:Nat->List Value) (gone Rs Ro Rd Rk:Nat->Prop):Prop where
 dI:rq Z sb ob hb kb n w (16 + 2 * n) f V X gone (dK (s.ls ++ [(false,x :: ks)])) Rs Ro Rd Rk
 x0:X 0=ints (enc cs)
 busy:fF s.cs cs
 gB:lU n X (s.tr.take p) (s.ch.take d) s.lev s.rea
 gP:mH n V X s.wl
 lam:Ht n X
 n10:(X 10).length=n
 oV:∃ fol,JH n X fol
 x7:X 7=dw (x :: ks)
 v7:V 7=v
 ff:∀ j,j ≠ 15->j ≠ 21->j ≠ 1->j ≠ 6->j ≠ 7->j ≠ 8->f j=s.f j
 f7:f 7=.int .i64 ((p:Nat):Int)
 f21:f 21=.int .i64 (((50 * Lb.lub s.r s.r:Nat):Int) - ((s.k:Nat):Int) - 1)
 rY:∀ u,u < n->gone u->∃ y ∈ s.tr.take p,y / 2=u
 DX:KF s.tr s.ch s.lev x ks d
 right:D5 s.L ((x :: ks).map wr)
 hp:∃ hd:d < s.ch.length,p=s.ch[d]
 eO:dB Z w0 w
def RH (Z:Nat->Prop) (sb ob hb kb n:Nat) (w0:World) (s:St) (x:Nat) (ks:List Nat) (d:Nat) (v:Value) (w:World):Prop:=∃ p cs f V X gone Rs Ro Rd Rk,YV Z sb ob hb kb n w0 s x ks d p v w cs f V X gone Rs Ro Rd Rk
theorem YH (h:Main Z sb ob hb kb n L0 N0 false w0 s) (z:n <= 50) (M:DL Z sb ob hb kb n w0 s x ks d (dK (s.ls ++ [(false,x :: ks)])) w) {v:Value} (r:w.cell? ⟨sb,15,none⟩=some v):
  Calls Tryz.prog 137 #[.pointer (some ⟨sb,0,none⟩),.int .i64 ((d:Nat):Int)] w fun e w'=>e=.returned (.tuple #[])/\RH Z sb ob hb kb n w0 s x ks d v w':=by
 obtain ⟨L,f,V,X,Rs,Ro,Rd,Rk,M,H,hL,G⟩:=M;have J:V 7=v:=by
  have:=(M.dI.duo.dF.hd (k:=7) (by omega)).1;rw [show cellOf 7=15 from rfl,r] at this;exact (Option.some.inj this).symm
 refine (AZ M.dI.duo z M.gB h.pi.dI M.lam hL.dl).mono ?_;rintro e w' ⟨rfl,C,I,U,T,W,Y,D,i,E,l,g,a,c⟩;obtain ⟨q,p⟩:=M.dI.xU D C;exact ⟨rfl,_,L,I,U,T,_,_,_,_,_,{
  dI:=q
  x0:=(a 0 (by decide) (by decide) (by decide) (by decide)).trans M.x0
  busy:=M.busy
  gB:=E
  gP:=M.gP.congr (a 9 (by decide) (by decide) (by decide) (by decide)) (fun x _=>c _ (by omega) (by omega)) fun x _=>a _ (by omega) (by omega) (by omega) (by omega)
  lam:=i
  n10:=by rw [a 10 (by decide) (by decide) (by decide) (by decide)];exact M.n10
  oV:=by
   obtain ⟨m,B⟩:=M.oV;exact ⟨m,B.congr (a 11 (by decide) (by decide) (by decide) (by decide))⟩
  x7:=(a 7 (by decide) (by decide) (by decide) (by decide)).trans H
  v7:=(c 7 (by decide) (by decide)).trans J
  ff:=fun j S R Q P O N=>(g j P O N).trans (M.ff j S R Q)
  f7:=l
  f21:=(g 21 (by decide) (by decide) (by decide)).trans M.f21
  rY:=fun u t o=>by
   obtain ⟨y,b,e⟩:=h.rY u t o.1;rw [<- List.take_append_drop (s.ch[d]'hL.dl) s.tr] at b
   rcases List.mem_append.1 b with b | b
   ·exact ⟨y,b,e⟩
   ·exact absurd e (o.2 y b)
  DX:=hL
  right:=G
  hp:=⟨hL.dl,rfl⟩
  eO:=M.eO.trans p }⟩
structure XU (Z:Nat->Prop) (sb ob hb kb n:Nat) (w0:World) (s:St) (x:Nat) (ks:List Nat) (d p:Nat) (v:Value) (w:World) (cs:List Rec) (wl:Nat->List Nat) (f V:Nat->Value) (X:Nat->List Value) (gone Rs Ro Rd Rk:Nat->Prop):Prop where
 dI:rq Z sb ob hb kb n w (16 + 2 * n) f V X gone (dK (s.ls ++ [(false,x :: ks)])) Rs Ro Rd Rk
 x0:X 0=ints (enc (cs ++ [⟨1,0,x :: ks⟩]))
 busy:fF s.cs cs
 gB:lU n X (s.tr.take p) (s.ch.take d) s.lev s.rea
 gP:mH n V X wl
 lam:Ht n X
 n10:(X 10).length=n
 oV:∃ fol,JH n X fol
 x7:X 7=dw (x :: ks)
 v7:V 7=v
 ff:∀ j,j ≠ 15->j ≠ 21->j ≠ 1->j ≠ 6->j ≠ 7->j ≠ 8->j ≠ 2->j ≠ 3->f j=s.f j
 f3:f 3=.int .i64 ((s.lc + 1:Nat):Int)
 f7:f 7=.int .i64 ((p:Nat):Int)
 f21:f 21=.int .i64 (((50 * Lb.lub s.r s.r:Nat):Int) - ((s.k:Nat):Int) - 1)
 rY:∀ u,u < n->gone u->∃ y ∈ s.tr.take p,y / 2=u
 DX:KF s.tr s.ch s.lev x ks d
 right:D5 s.L ((x :: ks).map wr)
 hp:∃ hd:d < s.ch.length,p=s.ch[d]
 eO:dB Z w0 w
def Hq (Z:Nat->Prop) (sb ob hb kb n:Nat) (w0:World) (s:St) (x:Nat) (ks:List Nat) (d:Nat) (v:Value) (w:World):Prop:=∃ p cs f V X gone Rs Ro Rd Rk,XU Z sb ob hb kb n w0 s x ks d p v w cs s.wl f V X gone Rs Ro Rd Rk
theorem Qn (cs:List Rec) (c:List Nat):ints (enc cs) ++ dw (c.length :: 1 :: 0 :: c)=ints (enc (cs ++ [⟨1,0,c⟩])):=by
 rw [gy,wI]
 congr 1
 simp [enc,enc1,ints,dw]
theorem YG (h:Main Z sb ob hb kb n L0 N0 false w0 s) (O:n <= 50) (Q:(enc s.cs).length <= 1000000000000) (P:s.m <= 22000000000) {v:Value} (M:RH Z sb ob hb kb n w0 s x ks d v w):
  Calls Tryz.prog 132 #[.pointer (some ⟨sb,2,none⟩),v,.int .i64 1] w fun e w'=>e=.returned (.int .i64 (((enc s.cs).length:Nat):Int))/\Hq Z sb ob hb kb n w0 s x ks d v w':=by
 obtain ⟨p,l,f,V,X,i,U,W,Rd,Y,M⟩:=M;have R:=M.dI.duo.dF.hK;have g:=M.dI.duo.dF.lies (k:=7) (j:=0) (by omega) (by omega) (by decide) M.x7;rw [M.v7] at g;have B:=(M.ff 3 (by decide) (by decide) (by decide) (by decide) (by decide) (by decide)).trans h.f3;have z:=M.busy.len;have b:(X 0).length=(enc s.cs).length:=by rw [M.x0,fU,z]
 have t:=h.lcm;have c:=M.DX.len h.pi.dI;refine (Ha (x :: ks) 1 ((s.lc:Nat):Int) v M.dI.duo.dF g (by simp;omega) (by decide) (by omega) B (by omega) (by omega)).mono ?_;rintro e w' ⟨rfl,y,N,r⟩;obtain ⟨q,o⟩:=M.dI.gK r y (by rw [cu _ _ (by decide),cu _ _ (by decide)]);refine ⟨by rw [b],p,l,_,_,_,_,_,_,_,_,{
  dI:=q
  x0:=by rw [cz,M.x0];exact Qn l (x :: ks)
  busy:=M.busy
  gB:=M.gB.congr fun j T S=>cu _ _ (by omega)
  gP:=M.gP.congr (cu _ _ (by decide)) (fun x _=>cu _ _ (by omega)) fun x _=>cu _ _ (by omega)
  lam:=M.lam.congr (cu _ _ (by decide))
  n10:=by rw [cu _ _ (by decide)];exact M.n10
  oV:=by
   obtain ⟨a,u⟩:=M.oV;exact ⟨a,u.congr (cu _ _ (by decide))⟩
  x7:=(cu _ _ (by decide)).trans M.x7
  v7:=(cu _ _ (by decide)).trans M.v7
  ff:=fun j L J I H G E D C=>(cu _ _ C).trans ((cu _ _ D).trans (M.ff j L J I H G E))
  f3:=by rw [cz];rfl
  f7:=(cu _ _ (by decide)).trans ((cu _ _ (by decide)).trans M.f7)
  f21:=(cu _ _ (by decide)).trans ((cu _ _ (by decide)).trans M.f21)
  rY:=M.rY
  DX:=M.DX
  right:=M.right
  hp:=M.hp
  eO:=M.eO.trans o }⟩
def Xd (s:St) (x:Nat) (ks:List Nat):Nat->List Nat:=match ks with
 | []=>s.wl
 | q :: _=>wS s.wl (enc s.cs).length x q 2
def Ho (Z:Nat->Prop) (sb ob hb kb n:Nat) (w0:World) (s:St) (x:Nat) (ks:List Nat) (d:Nat) (v:Value) (w:World):Prop:=∃ p cs f V X gone Rs Ro Rd Rk,XU Z sb ob hb kb n w0 s x ks d p v w cs (Xd s x ks) f V X gone Rs Ro Rd Rk
theorem Uc {v:Value} (M:Hq Z sb ob hb kb n w0 s x [] d v w):Ho Z sb ob hb kb n w0 s x [] d v w:=M
theorem YF (h:Main Z sb ob hb kb n L0 N0 false w0 s) (O:n <= 50) (S:(enc s.cs).length <= 1000000000000) {v:Value} {q:Nat} {r:List Nat} (M:Hq Z sb ob hb kb n w0 s x (q :: r) d v w):
  Calls Tryz.prog 133 #[.pointer (some ⟨sb,0,none⟩),.int .i64 (((enc s.cs).length:Nat):Int)] w fun e w'=>e=.returned (.tuple #[])/\Ho Z sb ob hb kb n w0 s x (q :: r) d v w':=by
 obtain ⟨p,o,f,V,X,m,Y,Ro,Rd,Rk,M⟩:=M;have T:=M.dI.duo.dF.hK;have D:=M.busy.len;have N:=M.DX.vars;have g:=M.DX.lt h.pi.dI;have i:=M.DX.len h.pi.dI;have E:dn (o ++ [⟨1,0,x :: q :: r⟩]) o.length=(enc s.cs).length:=by
  rw [nP _ lr,iD lr,D]
 have u:x ≠ q:=fun e=>by subst e;simp at N
 have l:(enc (o ++ [⟨1,0,x :: q :: r⟩])).length <= 1099511627776:=by
  rw [gy,List.length_append,D];simp [enc,fV];simp at i;omega
 have t:∀ y,y < 2 * n->(s.wl y).length <= 1099511627776:=fun y J=>by have:=h.pi.oH.len J;omega
 rw [<- E];refine (Aw (k:=o.length) (p:=x) (q:=q) (r:=r) M.dI.duo.dF rfl M.x0 (by simp) (by simp) u (g x (by simp)) (g q (by simp)) O l M.gP t).mono ?_;rintro e w' ⟨rfl,Q,G,R,C,L,c⟩;obtain ⟨I,H⟩:=M.dI.gK C Q rfl;have z:G 7=V 7:=by
  have a:=C.hdr 7 (by omega);have b:=M.dI.duo.dF.hdr 7 (by omega);rw [<- a,<- b]
 refine ⟨rfl,p,o,f,G,R,m,_,_,_,_,{
  dI:=I
  x0:=(c 0 (by decide) (by decide)).trans M.x0
  busy:=M.busy
  gB:=M.gB.congr fun j W U=>c j (by omega) (by omega)
  gP:=by unfold Xd;rw [<- E];exact L
  lam:=M.lam.congr (c 6 (by decide) (by decide))
  n10:=by rw [c 10 (by decide) (by decide)];exact M.n10
  oV:=by
   obtain ⟨B,P⟩:=M.oV;exact ⟨B,P.congr (c 11 (by decide) (by decide))⟩
  x7:=(c 7 (by decide) (by decide)).trans M.x7
  v7:=z.trans M.v7
  ff:=M.ff
  f3:=M.f3
  f7:=M.f7
  f21:=M.f21
  rY:=M.rY
  DX:=M.DX
  right:=M.right
  hp:=M.hp
  eO:=M.eO.trans H }⟩
structure RG (s s':St):Prop where
 k:s'.k=s.k + 1
 m:s'.m=s.m + 1
 r:s'.r=s.r
 lc:s'.lc=s.lc + 1
 mo:s'.mo=s.mo
 ch:s'.ch.length < s.ch.length
theorem YD (h:Main Z sb ob hb kb n L0 N0 false w0 s) (hn:n <= 50) {k:Nat} (hk:k < s.cs.length) (S:(s.cs[k]).kind ≠ 2) (U:∀ y ∈ (s.cs[k]).lits,op y ∈ s.tr) {v:Value} (M:Ho Z sb ob hb kb n w0 s x ks d v w):
  (∃ g c,v=.slice (some ⟨g,0,none⟩) (ks.length + 1) c/\w.cell? ⟨g,0,none⟩=some (.int .i64 ((x:Nat):Int)))/\∀ E,Below w.heap.size w E->
  Calls Tryz.prog 136 #[.pointer (some ⟨sb,6,none⟩),.int .i64 ((x:Nat):Int),.int .i64 (((enc s.cs).length:Nat):Int)] E fun e w'=>e=.returned (.tuple #[])/\dB Z w0 w'/\∃ O,Main Z sb ob hb kb n L0 N0 false w' O/\Ready O/\RG s O:=by
 obtain ⟨p,cs,f,V,X,gone,Rs,Ro,Rd,Rk,M⟩:=M;have hK:=M.dI.duo.dF.hK;have em:=M.busy.map;have el:=M.busy.len;obtain ⟨hd,rfl⟩:=M.hp;have ho:=M.DX.open h.pi.dI;have G:x < 2 * n:=M.DX.lt h.pi.dI x (by simp);have tl:=h.pi.dI.len;have ad:s.ch[d] < s.tr.length:=h.pi.dI.iC.2 _ (List.getElem_mem hd);have J:(s.ch.take d).length=d:=by rw [List.length_take];omega
 have i:(s.tr.take s.ch[d]).length=s.ch[d]:=by rw [List.length_take];omega
 refine ⟨?_,fun E I=>?_⟩
 ·obtain ⟨g,Y,t,e,q,r,r2,_⟩:=M.dI.duo.dF.elem (k:=7) (j:=0) (n:=ks.length + 1) (by omega) (by rw [M.x7,cZ];rfl) (by omega);rw [M.v7] at e;refine ⟨g,Y,e,?_⟩;rw [r,<- r2,M.x7];rfl
 ·have T:=M.dI.later I;refine (qg x n d (((enc s.cs).length:Nat):Int) G hn T.duo.dF (by rw [M.gB.l1,cZ,i];omega) (by rw [M.gB.l2,cZ];exact J) M.gB.n3 M.gB.n4 M.gB.n5).mono ?_;rintro e w' ⟨rfl,hc,N,hs⟩;obtain ⟨t1,t2⟩:=T.gK hs hc (cu _ _ (by decide));have D:∀ j,j ≠ 1->j ≠ 3->j ≠ 4->j ≠ 5->fq X x (((enc s.cs).length:Nat):Int) d j=X j:=fun j a b c e=>iG _ _ _ _ a b c e
  have o:mapOf (cs ++ [⟨1,0,x :: ks⟩])=kC (mapOf s.cs) (enc s.cs).length ⟨1,x :: ks⟩:=by rw [pU,em,el]
  have C:mapOf s.cs (enc s.cs).length=none:=kZ _;have hP:=h.pi.learn M.DX h.late C (Xd s x ks) (fun q r e=>by
   subst e;have ab:x ≠ q:=fun e=>by have hv:=M.DX.vars;subst e;simp at hv
   unfold Xd wS;refine ⟨by simp,by simp,fun y h1 h2=>by simp [h1,h2]⟩) (fun e=>by subst e;rfl)
  have hU:=(h.zU rfl).learn (a:=(enc s.cs).length) h.pi.dI M.DX;have ac:=Qw h.pi.vX (h.zU rfl) h.pi.dI h.pi.lZ (dP hk) S U;have R:=h.late _ (List.getElem_mem hd);have Q:=EH (n:=n) (k:=s.k) h.pi.dI.iC hd tl (by omega) h.gM;have aa:=M.DX.len h.pi.dI;have ae:=h.n30;have B:∀ j,j ≠ 6->upd f 6 N j=f j:=fun j hj=>cu _ _ hj
  refine ⟨rfl,(M.eO.trans (dB.of_below I)).trans t2,{ s with
   cs:=cs ++ [⟨1,0,x :: ks⟩],tr:=s.tr.take s.ch[d] ++ [x],ch:=s.ch.take d,lev:=eF s.lev (x / 2) d,rea:=eF s.rea (x / 2) (((enc s.cs).length:Nat):Int),wl:=Xd s x ks,P:=s.ch[d],sp:=s.ch[d],
   f:=upd f 6 N,V:=upd V 1 N,X:=fq X x (((enc s.cs).length:Nat):Int) d,gone:=gone,ls:=s.ls ++ [(false,x :: ks)],L:=s.L ++ [(x :: ks).map wr],m:=s.m + 1,k:=s.k + 1,lc:=s.lc + 1,
   Rs:=(fun g=>zz Rs E g/\g < w'.heap.size),Ro:=Ro,Rd:=(fun g=>zz Rd E g/\g < w'.heap.size),Rk:=Rk },{
   dI:=t1
   pi:=by rw [o];exact hP
   x0:=(D 0 (by decide) (by decide) (by decide) (by decide)).trans M.x0
   gB:=M.gB.assign G ho (((enc s.cs).length:Nat):Int) (X':=X) (ch':=s.ch.take d) M.gB.l2 (fun _ _=>rfl)
   gP:=M.gP.congr (D 9 (by decide) (by decide) (by decide) (by decide)) (fun x _=>cu _ _ (by omega)) fun x _=>D _ (by omega) (by omega) (by omega) (by omega)
   lam:=M.lam.congr (D 6 (by decide) (by decide) (by decide) (by decide))
   n10:=(congrArg List.length (D 10 (by decide) (by decide) (by decide) (by decide))).trans M.n10
   oV:=by
    obtain ⟨W,U⟩:=M.oV;exact ⟨W,U.congr (D 11 (by decide) (by decide) (by decide) (by decide))⟩
   f0:=(B 0 (by decide)).trans ((M.ff 0 (by decide) (by decide) (by decide) (by decide) (by decide) (by decide) (by decide) (by decide)).trans h.f0)
   f3:=(B 3 (by decide)).trans M.f3
   f4:=(B 4 (by decide)).trans ((M.ff 4 (by decide) (by decide) (by decide) (by decide) (by decide) (by decide) (by decide) (by decide)).trans h.f4)
   f7:=(B 7 (by decide)).trans M.f7
   f14:=(B 14 (by decide)).trans ((M.ff 14 (by decide) (by decide) (by decide) (by decide) (by decide) (by decide) (by decide) (by decide)).trans h.f14)
   f18:=(B 18 (by decide)).trans ((M.ff 18 (by decide) (by decide) (by decide) (by decide) (by decide) (by decide) (by decide) (by decide)).trans h.f18)
   f20:=(B 20 (by decide)).trans ((M.ff 20 (by decide) (by decide) (by decide) (by decide) (by decide) (by decide) (by decide) (by decide)).trans h.f20)
   f21:=by
    refine (B 21 (by decide)).trans (M.f21.trans ?_)
    congr 1
    show (((50 * Lb.lub s.r s.r:Nat):Int) - ((s.k:Nat):Int) - 1:Int)=((50 * Lb.lub s.r s.r:Nat):Int) - ((s.k + 1:Nat):Int)
    omega
   AV:=by show s.ch[d] <= (s.tr.take s.ch[d] ++ [x]).length;rw [List.length_append,i];omega
   late:=fun q hq=>by
    have:=(BJ h.pi.dI.iC hd).2 q hq;exact Nat.le_of_lt this
   rY:=fun u hu hg=>by
    obtain ⟨y,hy,e⟩:=M.rY u hu hg;exact ⟨y,List.mem_append_left _ hy,e⟩
   zU:=fun _=>by rw [o];exact hU
   bad:=fun e=>by cases e
   lines:=by
    rw [List.map_append];exact h.lines.add (by simp) M.right
   yJ:=fun l H=>by
    rcases List.mem_append.1 H with H | H
    ·exact h.yJ l H
    ·rw [List.mem_singleton.1 H];exact M.DX.lt h.pi.dI
   tN:=by
    rw [pV _ _ (show (1:Nat) ≠ 2 by decide),M.busy.nS];exact h.tN.add (x :: ks) fun z=>by rw [List.mem_map]
   DZ:=by rw [o];exact h.DZ.new C
   num:=by
    have:=h.num;show (enc (cs ++ [⟨1,0,x :: ks⟩])).length <= N0 + 33 * (s.m + 1)
    rw [gy,List.length_append,el];simp [enc,fV];omega
   wU:=by
    have:=h.wU;show (dK (s.ls ++ [(false,x :: ks)])).length + 125 * iM (cs ++ [⟨1,0,x :: ks⟩]) <= 250 * (s.m + 1)
    rw [rQ,if_pos (show ((⟨1,0,x :: ks⟩:Rec)).kind=1 from rfl),M.busy.cnt.1,oo,List.length_append,List.length_append];have l2:(gQ false (x :: ks)).length <= 4 * (ks.length + 1) + 3:=by
     have a:=nH hn (st:=[]) (c:=x :: ks) (M.DX.lt h.pi.dI) (by simp) (x :: ks).length lr;have b:gQ false (x :: ks)=eu [] (x :: ks) (x :: ks).length ++ [48]:=by
      unfold eu gQ;rw [List.take_length];simp
     rw [b,List.length_append];simp at a ⊢;omega
    simp only [List.length_cons,List.length_nil];omega
   cnt:=by show s.lc + 1=iM (cs ++ [⟨1,0,x :: ks⟩]);rw [rQ,M.busy.cnt.1,<- h.cnt];rfl
   wR:=by show s.ws=jc (cs ++ [⟨1,0,x :: ks⟩]);rw [Ay,M.busy.cnt.2,<- h.wR];rfl
   gM:=by
    show 2 * (s.k + 1) <= gM n (bits (s.tr.take s.ch[d] ++ [x]).length (s.ch.take d))
    rw [List.length_append,i];exact Q
   lcm:=by show s.lc + 1 <= s.m + 1;have:=h.lcm;omega
   km:=by show s.k + 1 <= s.m + 1;have:=h.km;omega
   n30:=h.n30 },rfl,⟨rfl,rfl,rfl,rfl,rfl,by show (s.ch.take d).length < s.ch.length;omega⟩⟩
theorem Xx {brk:Bool} (h:Main Z sb ob hb kb n L0 N0 brk w s) (i:Ready s):
  w.cell? ⟨sb,12,none⟩=some (.pointer (some ⟨ob,0,none⟩))/\Calls Tryz.prog 144 #[.pointer (some ⟨ob,0,none⟩)] w fun e w'=>e=.returned (.tuple #[])/\dB Z w w'/\∃ a,Main Z sb ob hb kb n L0 N0 brk w' a/\Ready a/\a.tr=s.tr/\a.ch=s.ch/\a.k=s.k/\a.m=s.m/\a.r=s.r/\a.lc=s.lc/\a.mo=s.mo:=by
 refine ⟨?_,(UF h.dI.duo.ord).mono ?_⟩
 ·have:=(h.dI.duo.dF.head 12 (by omega)).1;rw [h.dI.duo.f12] at this;exact this
 ·rintro e w' ⟨rfl,l,j⟩;obtain ⟨c,b⟩:=h.dI.xS j l
  exact ⟨rfl,b,{ s with Ro:=(fun g=>zz s.Ro w g/\g < w'.heap.size),Rd:=(fun g=>zz s.Rd w g/\g < w'.heap.size) },{ h with dI:=c },i,rfl,rfl,rfl,rfl,rfl,rfl,rfl⟩
end
section
variable {Z:Nat->Prop} {sb ob hb kb n:Nat} {L0:List Cl} {N0:Nat} {w0 w w':World} {s:St}
theorem qc (w:World) (j:Nat):Below w.heap.size w (w.drewN j):=⟨rfl,rfl,rfl,lr,fun _ _=>rfl⟩
def uO (Z:Nat->Prop) (sb ob hb kb n:Nat) (L0:List Cl) (N0:Nat) (Q:St->Prop):Prop:=
 ∀ w s,Main Z sb ob hb kb n L0 N0 false w s->Ready s->Q s->Calls Tryz.prog 145 #[.pointer (some ⟨sb,0,none⟩)] w fun e w'=>e=.returned .nilIface/\dB Z w w'/\∃ s',Main Z sb ob hb kb n L0 N0 false w' s'/\Ready s'/\s'.k=s.k/\s'.m=s.m/\s'.r=s.r/\(s.lc <= s.mo->s'.mo=s.mo)/\s'.mo <= s.mo + 100/\s'.ch=s.ch
theorem Dt:uO Z sb ob hb kb n L0 N0 (fun s=>s.lc <= s.mo/\s.mo <= 4611686018427387904):=fun w s h hr ⟨hq,hq2⟩=>by
 have b:=(h.dI.duo.dF.head 3 (by omega)).1;have a:=(h.dI.duo.dF.head 18 (by omega)).1;rw [h.f3] at b;rw [h.f18] at a;have F:Hid (∀ j,Main Z sb ob hb kb n L0 N0 false (w.drewN j) s/\dB Z w (w.drewN j)):=fun j=>⟨h.later (qc w j),dB.of_below (qc w j)⟩
 have c:(s.lc:Int) <= (s.mo:Int):=by omega
 clear h;go_enter Tryz.func145,Tryz.ntmps145
 go_upto_region 1 with fail
 go_quiet (fail)
 go_wp2;go_ret
 exact ⟨rfl,(F.out _).2,s,(F.out _).1,hr,rfl,rfl,rfl,by intros;rfl,by omega,rfl⟩
theorem Mt {Q:St->Prop} (h:Main Z sb ob hb kb n L0 N0 false w s) (S:n <= 50) (hN:(enc s.cs).length <= 1000000000000) (hm:s.m <= 22000000000) (hr:s.r <= 134217727) {k:Nat} (hk:k < s.cs.length) (al:(s.cs[k]).kind ≠ 2) (hd:0 < s.ch.length) (hf:∀ y ∈ (s.cs[k]).lits,op y ∈ s.tr) {y0:Nat} (ah:y0 ∈ (s.cs[k]).lits) (ak:s.lev (y0 / 2)=s.ch.length)
  (FG:uO Z sb ob hb kb n L0 N0 Q) (hQ:∀ j,j.k=s.k + 1->j.m=s.m + 1->j.r=s.r->j.lc=s.lc + 1->j.mo=s.mo->Q j):
  Calls Tryz.prog 101 #[.pointer (some ⟨sb,0,none⟩),.int .i64 ((dn s.cs k:Nat):Int)] w fun e w'=>e=.returned .nilIface/\dB Z w w'/\∃ j,Main Z sb ob hb kb n L0 N0 false w' j/\Ready j/\j.k=s.k + 1/\j.m=s.m + 1/\j.r=s.r/\(s.lc + 1 <= s.mo->j.mo=s.mo)/\j.mo <= s.mo + 100/\j.ch.length < s.ch.length:=by
 obtain ⟨am,an,ay,az,M1⟩:=h.YM;have ai:Lb.lub s.r s.r <= 134217727:=by
  rcases Nat.eq_zero_or_pos s.r with e | e
  ·rw [e];simp [Lb.lub]
  ·exact Nat.le_trans (IV s.r s.r e (by omega)) (by omega)
 have aq:=h.km;have QE:=hide (fun i Rs Rd (M:Mid Z sb ob hb kb n w s (dK s.ls) i s.cs (upd s.f 21 (.int .i64 (((50 * Lb.lub s.r s.r:Nat):Int) - ((s.k:Nat):Int) - 1))) s.V s.X Rs s.Ro Rd s.Rk)=>YL h S hN hk hd hf ah ak M);have QS:=hide (fun i (M:WM Z sb ob hb kb n w s (s.cs[k]).lits hd i)=>YK h S hN M);have QP:=hide (fun i (M:WL Z sb ob hb kb n w s (s.cs[k]).lits hd i)=>YJ h S hk al hf M);have HD:=hide (fun i x ks d l (M:DL Z sb ob hb kb n w s x ks d l i)=>M.head);have QA:=hide (fun i x ks d (M:DL Z sb ob hb kb n w s x ks d (dK s.ls) i) v hv=>YI h S hm M (v:=v) hv);have QB:=hide (fun i x ks d (M:DL Z sb ob hb kb n w s x ks d (dK (s.ls ++ [(false,x :: ks)])) i) v hv=>YH h S M (v:=v) hv);have QC:=hide (fun i x ks d v (M:RH Z sb ob hb kb n w s x ks d v i)=>YG h S hN hm M);have QW:=hide (fun i x q r d v (M:Hq Z sb ob hb kb n w s x (q :: r) d v i)=>YF h S hN M);have QG:=hide (fun i x ks d v (M:Ho Z sb ob hb kb n w s x ks d v i)=>YD h S hk al hf M);have ad:=hide (fun i x d v (M:Hq Z sb ob hb kb n w s x [] d v i)=>Uc M);have QO:=hide (fun i j (hm':Main Z sb ob hb kb n L0 N0 false i j) (hr':Ready j)=>Xx hm' hr');have QF:=hide (fun i j (hm':Main Z sb ob hb kb n L0 N0 false i j) (hr':Ready j) a b c d e=>FG i j hm' hr' (hQ j a b c d e));have ar:(s.k:Int) <= 22000000000:=by omega
 have ap:((50 * Lb.lub s.r s.r:Nat):Int) <= 6710886350:=by omega
 have aj:(0:Int) <= ((50 * Lb.lub s.r s.r:Nat):Int):=by omega
 have au:(0:Int) <= (s.k:Int):=by omega
 obtain ⟨left,L⟩:∃ left:Int,left=((50 * Lb.lub s.r s.r:Nat):Int) - ((s.k:Nat):Int):=⟨_,rfl⟩;rw [<- L] at am M1 QE;have ax:left <= 6710886350:=by omega
 have aw:-22000000000 <= left:=by omega
 have ae:=hide M1;clear M1 h hf ah ak L aq ai ar ap aj au FG hQ hN hm;go_enter Tryz.func101,Tryz.ntmps101
 go_upto_region 2 with fail
 generalize av:w.setCell ⟨sb,21,none⟩ (.int .i64 (left - 1))=W1 at ae ⊢;clear av am an;go_upto_region 3 with (go_at_call 141;refine (QE.out _ _ _ ae.out).mono ?_;rintro e2 w2 ⟨rfl,m2⟩;have M2:=hide m2;clear m2;simp only [])
 clear QE ae;go_upto_region 4 with (go_at_call 142;refine (QS.out _ M2.out).mono ?_;rintro e3 w3 ⟨rfl,m3⟩;have M3:=hide m3;clear m3;simp only [])
 clear QS M2;go_upto_region 5 with (go_at_call 143;refine (QP.out _ M3.out).mono ?_;rintro e4 w4 ⟨x,ks,d,rfl,m4⟩;have M4:=hide m4;obtain ⟨g7,c7,ag⟩:=HD.out _ _ _ _ _ m4;clear m4;simp only [])
 clear QP M3 HD;go_upto_region 7 with (go_at_call 100;refine (QA.out _ _ _ _ M4.out _ ag).mono ?_;rintro e5 w5 ⟨rfl,m5,q5⟩;have M5:=hide m5;clear m5;simp only [])
 clear QA M4 ag;go_upto_region 10 with (go_at_call 137;refine (QB.out _ _ _ _ M5.out _ q5).mono ?_;rintro e6 w6 ⟨rfl,m6⟩;have M6:=hide m6;clear m6;simp only [])
 clear QB M5 q5;go_upto_region 11 with (go_at_call 132;refine (QC.out _ _ _ _ _ M6.out).mono ?_;rintro e7 w7 ⟨rfl,m7⟩;have M7:=hide m7;clear m7;simp only [])
 clear QC M6;have z:Hid (∀ w8,Ho Z sb ob hb kb n w s x ks d (.slice (some ⟨g7,0,none⟩) (ks.length + 1) c7) w8->w8.cell? ⟨g7,0,none⟩=some (.int .i64 ((x:Nat):Int))/\∀ i,Below w8.heap.size w8 i->Calls Tryz.prog 136 #[.pointer (some ⟨sb,6,none⟩),.int .i64 ((x:Nat):Int),.int .i64 (((enc s.cs).length:Nat):Int)] i fun e w'=>e=.returned (.tuple #[])/\dB Z w w'/\∃ j,Main Z sb ob hb kb n L0 N0 false w' j/\Ready j/\RG s j):=fun w8 m8=>by
  obtain ⟨⟨g,c,hv,c0⟩,hq⟩:=QG.out _ _ _ _ _ m8;obtain ⟨y1,_,_⟩:=Value.slice.inj hv;obtain rfl:g7=g:=by have:=Option.some.inj y1;exact congrArg Addr.block this
  exact ⟨c0,hq⟩
 clear QG
 cases ks with
 | nil=>
  have M8:=hide (ad.out _ _ _ _ M7.out);obtain ⟨c0,B⟩:=z.out _ M8.out;have ac:=hide B;clear QW ad M7 M8 z B;go_upto_region 13 with fail
  go_region_with (go_at_call 136;refine (ac.out _ (by first | exact bR | exact bR.drew)).mono ?_;rintro e9 w9 ⟨rfl,R,s9,u,t,N⟩;have C9:=hide R;have M9:=hide u;have R9:=hide t;have o:=hide N;obtain ⟨ao,qo⟩:=QO.out _ _ u t;have aa:=hide qo;clear R u t N qo;simp only [])
  all_goals
   go_wp2_with (first | (go_at_call 144;refine aa.out.mono ?_;rintro eA wA ⟨rfl,P,sA,J,H,-,ca,ka,Y,T,la,W⟩;have CA:=hide P;have ab:=hide (QF.out wA sA J H (ka.trans o.out.k) (Y.trans o.out.m) (T.trans o.out.r) (la.trans o.out.lc) (W.trans o.out.mo));have KA:=hide ka;have MA:=hide Y;have RA:=hide T;have LA:=hide la;have OA:=hide W;have af:=hide ca;clear P J H ka Y T la W ca;simp only []) | (go_at_call 145;refine ab.out.mono ?_;rintro eB wB ⟨rfl,O,p,I,G,E,mb,rb,D,U,C⟩;have CB:=hide O;have MB:=hide I;have RB:=hide G;have FB:Hid (p.k=s.k + 1/\p.m=s.m + 1/\p.r=s.r/\(s.lc + 1 <= s.mo->p.mo=s.mo)/\p.mo <= s.mo + 100/\p.ch.length < s.ch.length):=⟨E.trans (KA.out.trans o.out.k),mb.trans (MA.out.trans o.out.m),rb.trans (RA.out.trans o.out.r),fun hh=>(D (by rw [LA.out,OA.out,o.out.lc,o.out.mo];exact hh)).trans (OA.out.trans o.out.mo),by have e1:=OA.out;have e2:=o.out.mo;omega,by rw [C,af.out];exact o.out.ch⟩;clear O I G E mb rb D U C;simp only []))
   go_ret
   exact ⟨rfl,(C9.out.trans CA.out).trans CB.out,p,MB.out,RB.out,FB.out⟩
 | cons q r=>
  have rl:(2:Int) <= ((r.length + 1 + 1:Nat):Int):=by omega
  go_upto_region 13 with (go_at_call 133;refine (QW.out _ _ _ _ _ _ M7.out).mono ?_;rintro e8 w8 ⟨rfl,m8⟩;have M8:=hide m8;clear m8;simp only [])
  obtain ⟨c0,B⟩:=z.out _ M8.out;have ac:=hide B;clear QW ad M7 M8 z B
  go_region_with (go_at_call 136;refine (ac.out _ (by first | exact bR | exact bR.drew)).mono ?_;rintro e9 w9 ⟨rfl,R,s9,u,t,N⟩;have C9:=hide R;have M9:=hide u;have R9:=hide t;have o:=hide N;obtain ⟨ao,qo⟩:=QO.out _ _ u t;have aa:=hide qo;clear R u t N qo;simp only [])
  all_goals
   go_wp2_with (first | (go_at_call 144;refine aa.out.mono ?_;rintro eA wA ⟨rfl,P,sA,J,H,-,ca,ka,Y,T,la,W⟩;have CA:=hide P;have ab:=hide (QF.out wA sA J H (ka.trans o.out.k) (Y.trans o.out.m) (T.trans o.out.r) (la.trans o.out.lc) (W.trans o.out.mo));have KA:=hide ka;have MA:=hide Y;have RA:=hide T;have LA:=hide la;have OA:=hide W;have af:=hide ca;clear P J H ka Y T la W ca;simp only []) | (go_at_call 145;refine ab.out.mono ?_;rintro eB wB ⟨rfl,O,p,I,G,E,mb,rb,D,U,C⟩;have CB:=hide O;have MB:=hide I;have RB:=hide G;have FB:Hid (p.k=s.k + 1/\p.m=s.m + 1/\p.r=s.r/\(s.lc + 1 <= s.mo->p.mo=s.mo)/\p.mo <= s.mo + 100/\p.ch.length < s.ch.length):=⟨E.trans (KA.out.trans o.out.k),mb.trans (MA.out.trans o.out.m),rb.trans (RA.out.trans o.out.r),fun hh=>(D (by rw [LA.out,OA.out,o.out.lc,o.out.mo];exact hh)).trans (OA.out.trans o.out.mo),by have e1:=OA.out;have e2:=o.out.mo;omega,by rw [C,af.out];exact o.out.ch⟩;clear O I G E mb rb D U C;simp only []))
   go_ret
   exact ⟨rfl,(C9.out.trans CA.out).trans CB.out,p,MB.out,RB.out,FB.out⟩
end
section
variable {Z:Nat->Prop} {sb ob hb kb n:Nat} {L0:List Cl} {N0:Nat} {brk:Bool} {w0 w w':World} {s:St}
def si (Z:Nat->Prop) (kb n:Nat) (L0:List Cl) (mx:Nat) (w:World):Prop:=
 ∃ (ls:List (Bool × List Nat)) (L:List Cl),nR Z kb w (dK ls ++ [48,10])/\jF L0 (ls.map fun l=>(l.1,l.2.map wr)) L/\D5 L []/\(∀ l ∈ ls,∀ x ∈ l.2,x < 2 * n)/\(dK ls).length <= 250 * mx
def Going (s s':St):Prop:=
 (s'.k=s.k + 1/\s'.m=s.m + 1/\s'.r=s.r/\(s.lc + 1 <= s.mo->s'.mo=s.mo)/\s'.mo <= s.mo + 100/\s'.ch.length < s.ch.length)\/(s'.r=s.r + 1/\s'.k=0/\s'.m=s.m/\s'.mo=s.mo/\50 * Lb.lub s.r s.r <= s.k)\/(s'.k=s.k/\s'.m=s.m/\s'.r=s.r/\s'.mo=s.mo/\s.tr.length < s'.tr.length/\s.k < 50 * Lb.lub s.r s.r)
structure YW (s s':St):Prop where
 k:s'.k=s.k
 m:s'.m=s.m
 r:s'.r=s.r
 lc:s'.lc=s.lc
 mo:s'.mo=s.mo
 ch:s'.ch=s.ch
 tr:s.tr.length <= s'.tr.length
theorem Main.Xl (h:Main Z sb ob hb kb n L0 N0 brk w s) (a:Ready s):ru (zz s.Rs w) sb w (16 + 2 * n) s.f s.X n s.ch s.cs s.tr s.sp s.cs s.tr s.lev s.rea s.wl s.f s.V s.X w where
 pi:=by have:=h.pi;rw [show s.P=s.sp from a] at this;exact this
 dF:=h.dI.duo.dF
 x0:=h.x0
 gB:=h.gB
 gP:=h.gP
 perm:=iI.refl _
 only:=fun _ _ _ _=>rfl
 ff:=fun _ _ _=>rfl
 f7:=h.f7
 AV:=h.AV
 late:=by have:=h.late;rw [show s.P=s.sp from a] at this;exact this
 ext:=⟨[],by simp⟩
 eO:=dB.refl _
def zJ (Z:Nat->Prop) (sb ob hb kb n:Nat) (L0:List Cl) (N0:Nat) (brk:Bool) (w:World) (s:St) (res:Int) (w':World) (s':St):Prop:=
 Main Z sb ob hb kb n L0 N0 brk w' s'/\dB Z w w'/\YW s s'/\((res=-1/\Ready s'/\s'.P=s'.tr.length)\/∃ k,∃ hk:k < s'.cs.length,res=((dn s'.cs k:Nat):Int)/\(s'.cs[k]).kind ≠ 2/\(∀ y ∈ (s'.cs[k]).lits,op y ∈ s'.tr)/\∃ y ∈ (s'.cs[k]).lits,s'.lev (y / 2)=s'.ch.length)
theorem vV (h:Main Z sb ob hb kb n L0 N0 brk w s) (o:Ready s) (p:n <= 50) (y:(enc s.cs).length <= 1000000000000):
  Calls Tryz.prog 98 #[.pointer (some ⟨sb,0,none⟩)] w fun e w'=>∃ a j,e=.returned (.int .i64 a)/\zJ Z sb ob hb kb n L0 N0 brk w s a w' j:=by
 refine (sK (h.Xl o) rfl p (by omega)).mono ?_;rintro e w' ⟨a,P,v,t,tr,lev,rea,u,z,D,C,rfl,g⟩;obtain ⟨m,l⟩:=h.spread g;refine ⟨a,_,rfl,m,l,⟨rfl,rfl,rfl,rfl,rfl,rfl,by obtain ⟨B,rfl⟩:=g.ext;simp⟩,?_⟩
 rcases g.res with ⟨i,b,c⟩ | ⟨k,q,i,b,c,r⟩
 ·exact .inl ⟨i,b.trans c.symm,b⟩
 ·exact .inr ⟨k,q,i,b,c,r⟩
theorem yx (h:Main Z sb ob hb kb n L0 N0 brk w s) (a:n <= 50) (r:s.m <= 22000000000) (j:D5 s.L []):
  Calls Tryz.prog 100 #[.pointer (some ⟨sb,0,none⟩),.slice none 0 0] w fun e w'=>e=.returned .nilIface/\dB Z w w'/\si Z kb n L0 s.m w':=by
 have q:=h.Yc;refine (xC (c:=[]) h.dI a h.f0 (.slice none 0 0) ⟨none,0,0,0,rfl,fun _=>rfl,fun h=>by simp at h⟩ (by simp) (by simp) (by omega)).mono ?_;rintro e w' ⟨rfl,i,p,t,k,o,l,T⟩;refine ⟨rfl,i,s.ls,s.L,?_,h.lines,j,h.yJ,h.Yc⟩;have:=T.Og.Lj (Z':=Z) (fun g _ b=>T.xJ T.zk g b) T.az;exact this
theorem IA (h:Main Z sb ob hb kb n L0 N0 brk w s) (hd:s.ch=[]) {k:Nat} (e:k < s.cs.length) (a:(s.cs[k]).kind ≠ 2) (g:∀ y ∈ (s.cs[k]).lits,op y ∈ s.tr):D5 s.L []:=by
 have b:=h.pi.dI;have c:=h.pi.o7;rw [hd] at b c;exact Bb (yA b c h.tN.hL (h.tN.hL _ _ (dP e) a) g)
theorem zD (h:Main Z sb ob hb kb n L0 N0 brk w s) (S:Ready s) (U:n <= 50) (u:s.r < 134217727):
  Calls Tryz.prog 97 #[.pointer (some ⟨sb,0,none⟩)] w fun e w'=>e=.returned (.tuple #[])/\dB Z w w'/\∃ b,Main Z sb ob hb kb n L0 N0 brk w' b/\Ready b/\b.r=s.r + 1/\b.k=0/\b.m=s.m/\b.mo=s.mo/\b.lc=s.lc:=by
 refine (Nl h.dI.duo U h.gB h.pi.dI h.lam h.f20 u).mono ?_;rintro e w' ⟨rfl,hc,w1,c,V1,X1,a,aa,J,t,A,I,D⟩;obtain ⟨Q,O⟩:=h.dI.xU D hc;have p:∃ (sp:Nat),c 7=.int .i64 ((sp:Nat):Int)/\sp <= (s.tr.take t).length/\PI n (mapOf s.cs) (s.tr.take t) [] s.lev s.rea s.wl sp/\(brk=false->vO (mapOf s.cs) (s.tr.take t) s.lev)/\∀ v,v < n->a v->∃ x ∈ s.tr.take t,x / 2=v:=by
  rcases A.how with ⟨e1,H,G,E⟩ | ⟨hd,H,G,E⟩
  ·subst H G;rw [List.take_length];have o:=h.pi;rw [e1] at o;refine ⟨s.sp,E.trans h.f7,h.AV,?_,h.zU,h.rY⟩;rw [<- show s.P=s.sp from S];exact o
  ·subst H G;have Y:s.ch[0] < s.tr.length:=h.pi.dI.iC.2 _ (List.getElem_mem hd);have N:s.ch.take 0=[]:=List.take_zero;refine ⟨s.ch[0],E,by rw [List.length_take];omega,⟨N ▸ h.pi.dI.back hd,N ▸ h.pi.o7.back h.pi.dI hd,h.pi.lZ,h.pi.oH,h.pi.vX.back h.pi.dI hd (h.late _ (List.getElem_mem hd))⟩,fun hb=>(h.zU hb).back h.pi.dI hd,fun v R M=>?_⟩;obtain ⟨y,i,e⟩:=h.rY v R M.1;rw [<- List.take_append_drop s.ch[0] s.tr] at i
   rcases List.mem_append.1 i with i | i
   ·exact ⟨y,i,e⟩
   ·exact absurd e (M.2 y i)
 obtain ⟨sp,b1,b2,b3,b4,b5⟩:=p;have L:∀ j,j ≠ 20->j ≠ 21->upd (upd c 20 (.int .i64 ((s.r + 1:Nat):Int))) 21 (.int .i64 ((50 * Lb.lub (s.r + 1) (s.r + 1):Nat):Int)) j=c j:=fun j B z=>(cu _ _ z).trans (cu _ _ B)
 have l:∀ j,j ≠ 20->j ≠ 21->j ≠ 6->j ≠ 7->j ≠ 8->upd (upd c 20 (.int .i64 ((s.r + 1:Nat):Int))) 21 (.int .i64 ((50 * Lb.lub (s.r + 1) (s.r + 1):Nat):Int)) j=s.f j:=fun j B z h3 h4 h5=>(L j B z).trans (A.kf j h3 h4 h5)
 refine ⟨rfl,O,{ s with tr:=s.tr.take t,ch:=[],P:=sp,sp:=sp,f:=upd (upd c 20 (.int .i64 ((s.r + 1:Nat):Int))) 21 (.int .i64 ((50 * Lb.lub (s.r + 1) (s.r + 1):Nat):Int)),V:=V1,X:=X1,gone:=a,k:=0,r:=s.r + 1,Rs:=I,Ro:=J,Rd:=(fun g=>zz s.Rd w g/\g < w'.heap.size) },{
  dI:=Q
  pi:=b3
  x0:=(A.kx 0 (by decide) (by decide) (by decide) (by decide)).trans h.x0
  gB:=A.gB
  gP:=h.gP.congr (A.kx 9 (by decide) (by decide) (by decide) (by decide)) (fun x _=>A.kv _ (by omega) (by omega)) fun x _=>A.kx _ (by omega) (by omega) (by omega) (by omega)
  lam:=A.lam
  n10:=(congrArg List.length (A.kx 10 (by decide) (by decide) (by decide) (by decide))).trans h.n10
  oV:=by
   obtain ⟨C,W⟩:=h.oV;exact ⟨C,W.congr (A.kx 11 (by decide) (by decide) (by decide) (by decide))⟩
  f0:=(l 0 (by decide) (by decide) (by decide) (by decide) (by decide)).trans h.f0
  f3:=(l 3 (by decide) (by decide) (by decide) (by decide) (by decide)).trans h.f3
  f4:=(l 4 (by decide) (by decide) (by decide) (by decide) (by decide)).trans h.f4
  f7:=(L 7 (by decide) (by decide)).trans b1
  f14:=(l 14 (by decide) (by decide) (by decide) (by decide) (by decide)).trans h.f14
  f18:=(l 18 (by decide) (by decide) (by decide) (by decide) (by decide)).trans h.f18
  f20:=by
   show upd (upd c 20 (.int .i64 ((s.r + 1:Nat):Int))) 21 (.int .i64 ((50 * Lb.lub (s.r + 1) (s.r + 1):Nat):Int)) 20=Value.int .i64 ((s.r + 1:Nat):Int)
   rw [cu _ _ (by decide),cz]
  f21:=by
   show upd (upd c 20 (.int .i64 ((s.r + 1:Nat):Int))) 21 (.int .i64 ((50 * Lb.lub (s.r + 1) (s.r + 1):Nat):Int)) 21=Value.int .i64 (((50 * Lb.lub (s.r + 1) (s.r + 1):Nat):Int) - ((0:Nat):Int))
   rw [cz];congr 1
  AV:=b2
  late:=fun q T=>by cases T
  rY:=b5
  zU:=b4
  bad:=h.bad
  lines:=h.lines
  yJ:=h.yJ
  tN:=h.tN
  DZ:=h.DZ
  num:=h.num
  wU:=h.wU
  cnt:=h.cnt
  wR:=h.wR
  gM:=zl
  lcm:=h.lcm
  km:=zl
  n30:=h.n30 },rfl,rfl,rfl,rfl,rfl,rfl⟩
theorem NT (h:Main Z sb ob hb kb n L0 N0 false w s) (L:Ready s) (hP:s.P=s.tr.length) (M:n <= 50):
  Calls Tryz.prog 102 #[.pointer (some ⟨sb,0,none⟩)] w fun e w'=>dB Z w w'/\((e=.returned (.bool false)/\(∀ v,v < n->∃ x ∈ s.tr,x / 2=v)/\∃ a,Main Z sb ob hb kb n L0 N0 false w' a/\a.tr=s.tr/\a.cs=s.cs/\a.lev=s.lev/\a.P=s.P/\a.m=s.m)\/(e=.returned (.bool true)/\∃ a,Main Z sb ob hb kb n L0 N0 false w' a/\Ready a/\a.k=s.k/\a.m=s.m/\a.r=s.r/\a.mo=s.mo/\s.tr.length < a.tr.length)):=by
 refine (Cj h.dI.duo M h.gB h.pi.dI h.lam h.rY).mono ?_
 rintro e w' ⟨G,⟨rfl,c,fB,i,l,D⟩ | ⟨x,fB,i,l,u,y,rfl,E,t,Q,D⟩⟩
 ·obtain ⟨B,z⟩:=h.dI.xU D G
  refine ⟨z,.inl ⟨rfl,c,{ s with gone:=fB,Rs:=i,Ro:=l,Rd:=(fun g=>zz s.Rd w g/\g < w'.heap.size) },{ h with dI:=B,rY:=fun v J _=>c v J },rfl,rfl,rfl,rfl,rfl⟩⟩
 ·obtain ⟨B,z⟩:=h.dI.xU D G;have H:(s.X 2).length=s.ch.length:=by rw [h.gB.l2,cZ]
  have I:(s.X 1).length=s.tr.length:=by rw [h.gB.l1,cZ]
  have b:∀ j,j ≠ 8->j ≠ 6->upd (upd s.f 8 u) 6 y j=s.f j:=fun j S R=>(cu _ _ R).trans (cu _ _ S)
  have o:∀ j,j ≠ 1->j ≠ 2->j ≠ 3->j ≠ 4->j ≠ 5->fq (upd s.X 2 (s.X 2 ++ [.int .i64 ((s.X 1).length:Nat)])) x (-1) ((s.X 2).length + 1) j=s.X j:=fun j a1 Y W U T=>(iG _ _ _ _ a1 W U T).trans (cu _ _ Y)
  refine ⟨z,.inr ⟨rfl,{ s with tr:=s.tr ++ [x],ch:=s.ch ++ [s.tr.length],lev:=eF s.lev (x / 2) (s.ch.length + 1),rea:=eF s.rea (x / 2) (-1),f:=upd (upd s.f 8 u) 6 y,V:=upd (upd s.V 2 u) 1 y,X:=fq (upd s.X 2 (s.X 2 ++ [.int .i64 ((s.X 1).length:Nat)])) x (-1) ((s.X 2).length + 1),gone:=fB,Rs:=i,Ro:=l,Rd:=(fun g=>zz s.Rd w g/\g < w'.heap.size) },{
   dI:=B
   pi:=⟨h.pi.dI.choose E t,h.pi.o7.choose h.pi.dI t,h.pi.lZ,h.pi.oH,h.pi.vX.assign (by show s.P <= s.tr.length;omega) t⟩
   x0:=(o 0 (by decide) (by decide) (by decide) (by decide) (by decide)).trans h.x0
   gB:=by
    have:=h.gB.assign (X':=upd s.X 2 (s.X 2 ++ [.int .i64 ((s.X 1).length:Nat)])) (ch':=s.ch ++ [s.tr.length]) E t (-1) (d:=(s.X 2).length + 1) (by rw [cz,h.gB.l2,I,jr];rfl) (fun k N=>cu _ _ N);rw [H] at this ⊢;exact this
   gP:=h.gP.congr (o 9 (by decide) (by decide) (by decide) (by decide) (by decide)) (fun x _=>(cu _ _ (by omega)).trans (cu _ _ (by omega))) fun x _=>o _ (by omega) (by omega) (by omega) (by omega) (by omega)
   lam:=h.lam.congr (o 6 (by decide) (by decide) (by decide) (by decide) (by decide))
   n10:=(congrArg List.length (o 10 (by decide) (by decide) (by decide) (by decide) (by decide))).trans h.n10
   oV:=by
    obtain ⟨C,O⟩:=h.oV;exact ⟨C,O.congr (o 11 (by decide) (by decide) (by decide) (by decide) (by decide))⟩
   f0:=(b 0 (by decide) (by decide)).trans h.f0
   f3:=(b 3 (by decide) (by decide)).trans h.f3
   f4:=(b 4 (by decide) (by decide)).trans h.f4
   f7:=(b 7 (by decide) (by decide)).trans h.f7
   f14:=(b 14 (by decide) (by decide)).trans h.f14
   f18:=(b 18 (by decide) (by decide)).trans h.f18
   f20:=(b 20 (by decide) (by decide)).trans h.f20
   f21:=(b 21 (by decide) (by decide)).trans h.f21
   AV:=by show s.sp <= (s.tr ++ [x]).length;have:=h.AV;simp;omega
   late:=fun q p=>by
    rcases List.mem_append.1 p with p | p
    ·exact h.late q p
    ·simp at p;show q <= s.P;omega
   rY:=Q
   zU:=fun _=>(h.zU rfl).assign t
   bad:=fun e=>by cases e
   lines:=h.lines
   yJ:=h.yJ
   tN:=h.tN
   DZ:=h.DZ
   num:=h.num
   wU:=h.wU
   cnt:=h.cnt
   wR:=h.wR
   gM:=by
    show 2 * s.k <= gM n (bits (s.tr ++ [x]).length (s.ch ++ [s.tr.length]))
    rw [List.length_append];exact EI h.pi.dI.iC.2 h.gM
   lcm:=h.lcm
   km:=h.km
   n30:=h.n30 },L,rfl,rfl,rfl,rfl,by show s.tr.length < (s.tr ++ [x]).length;simp⟩⟩
def jS (Z:Nat->Prop) (sb ob hb kb n:Nat) (L0:List Cl) (N0:Nat) (w:World) (s:St) (e:Ending) (w':World):Prop:=
 dB Z w w'/\((e=.returned (.tuple #[.int .i64 2,.nilIface])/\si Z kb n L0 s.m w')\/(e=.returned (.tuple #[.int .i64 0,.nilIface])/\∃ s',Main Z sb ob hb kb n L0 N0 false w' s'/\Ready s'/\Going s s') \/
  (e=.returned (.tuple #[.int .i64 1,.nilIface])/\∃ s',Main Z sb ob hb kb n L0 N0 false w' s'/\(∀ v,v < n->∃ x ∈ s'.tr,x / 2=v)/\s'.P=s'.tr.length/\s'.m=s.m))
theorem Es (h:Main Z sb ob hb kb n L0 N0 true w s) (p:Ready s) (q:n <= 50) (u:(enc s.cs).length <= 1000000000000) (t:s.m <= 22000000000):
  Calls Tryz.prog 57 #[.pointer (some ⟨sb,0,none⟩)] w fun e w'=>jS Z sb ob hb kb n L0 N0 w s e w':=by
 have y:=hide (vV h p q u);have k:Hid (∀ a b j,zJ Z sb ob hb kb n L0 N0 true w s a b j->b.cell? ⟨sb,14,none⟩=some (.bool true)/\Calls Tryz.prog 100 #[.pointer (some ⟨sb,0,none⟩),.slice none 0 0] b fun e w'=>e=.returned .nilIface/\dB Z w w'/\si Z kb n L0 s.m w'):=fun a b j ⟨m1,c1,k1,_⟩=>by
  refine ⟨?_,(yx m1 q (by rw [k1.m];exact t) (m1.bad rfl)).mono ?_⟩
  ·have:=(m1.dI.duo.dF.head 14 (by omega)).1;rw [m1.f14] at this;exact this
  ·rintro e w' ⟨rfl,v,o⟩;rw [k1.m] at o;exact ⟨rfl,c1.trans v,o⟩
 clear h p;go_enter Tryz.func57,Tryz.ntmps57
 go_wp2_with (first | (go_at_call 98;refine y.out.mono ?_;rintro G b ⟨a,j,rfl,c⟩;obtain ⟨r,l⟩:=k.out _ _ _ c;have z:=hide l;clear c l;simp only []) | (go_at_call 100;refine z.out.mono ?_;rintro E D ⟨rfl,i,g⟩;have C:=hide i;have B:=hide g;clear i g;simp only []))
 go_ret2
 exact ⟨C.out,.inl ⟨rfl,B.out⟩⟩
theorem Od {Q:St->Prop} (h:Main Z sb ob hb kb n L0 N0 false w s) (hr:Ready s) (R:n <= 50) (hN:N0 + 33 * s.m <= 1000000000000) (hm:s.m <= 22000000000) (ac:s.r < 134217727) (FG:uO Z sb ob hb kb n L0 N0 Q) (hQ:∀ z,z.k=s.k + 1->z.m=s.m + 1->z.r=s.r->z.lc=s.lc + 1->z.mo=s.mo->Q z):
  Calls Tryz.prog 57 #[.pointer (some ⟨sb,0,none⟩)] w fun e w'=>jS Z sb ob hb kb n L0 N0 w s e w':=by
 have QS:=hide (vV h hr R (Nat.le_trans h.num hN));have HE:Hid (∀ g,YW s g->Main Z sb ob hb kb n L0 N0 false w s->True):=fun _ _ _=>trivial
 have aa:Hid (∀ l g,Main Z sb ob hb kb n L0 N0 false l g->l.cell? ⟨sb,14,none⟩=some (.bool false)/\(∃ a c,l.cell? ⟨sb,8,none⟩=some (.slice a g.ch.length c))/\l.cell? ⟨sb,21,none⟩=some (.int .i64 (((50 * Lb.lub g.r g.r:Nat):Int) - ((g.k:Nat):Int)))):=fun l g p=>by
  refine ⟨?_,?_,?_⟩
  ·have:=(p.dI.duo.dF.head 14 (by omega)).1;rw [p.f14] at this;exact this
  ·obtain ⟨B,t,U⟩:=p.dI.duo.dF.eH.shape (k:=2) (by omega);have q2:=(p.dI.duo.dF.hd (k:=2) (by omega)).1;rw [show cellOf 2=8 from rfl,U,p.gB.l2,cZ] at q2;exact ⟨B,t,q2⟩
  ·have:=(p.dI.duo.dF.head 21 (by omega)).1;rw [p.f21] at this;exact this
 have ai:Hid (∀ g,YW s g->g.r=s.r/\g.k=s.k):=fun g i=>⟨i.r,i.k⟩
 have QB:Hid (∀ l g,zJ Z sb ob hb kb n L0 N0 false w s (-1) l g->Ready g->g.P=g.tr.length->50 * Lb.lub g.r g.r <= g.k->Calls Tryz.prog 97 #[.pointer (some ⟨sb,0,none⟩)] l fun e w'=>e=.returned (.tuple #[])/\jS Z sb ob hb kb n L0 N0 w s (.returned (.tuple #[.int .i64 0,.nilIface])) w'):=fun l g ⟨p,u,i,_⟩ r1 p1 J=>by
  refine (zD p r1 R (by rw [i.r];exact ac)).mono ?_;rintro e w' ⟨rfl,t,E,G,N,C,B,M,H,_⟩;exact ⟨rfl,u.trans t,.inr (.inl ⟨rfl,E,G,N,.inr (.inl ⟨by rw [C,i.r],B,by rw [M,i.m],by rw [H,i.mo],by rw [<- i.r,<- i.k];exact J⟩)⟩)⟩
 have W:Hid (∀ l g,zJ Z sb ob hb kb n L0 N0 false w s (-1) l g->Ready g->g.P=g.tr.length->¬ 50 * Lb.lub g.r g.r <= g.k->Calls Tryz.prog 102 #[.pointer (some ⟨sb,0,none⟩)] l fun e w'=>(e=.returned (.bool false)/\jS Z sb ob hb kb n L0 N0 w s (.returned (.tuple #[.int .i64 1,.nilIface])) w')\/(e=.returned (.bool true)/\jS Z sb ob hb kb n L0 N0 w s (.returned (.tuple #[.int .i64 0,.nilIface])) w')):=fun l g ⟨p,u,i,_⟩ r1 p1 hnl=>by
  refine (NT p r1 p1 R).mono ?_
  rintro e w' ⟨t,⟨rfl,T,E,G,C,B,M,H,a5⟩ | ⟨rfl,E,G,N,C,B,M,H,a5⟩⟩
  ·exact .inl ⟨rfl,u.trans t,.inr (.inr ⟨rfl,E,G,by rw [C];exact T,by rw [H,C];exact p1,by rw [a5,i.m]⟩)⟩
  ·exact .inr ⟨rfl,u.trans t,.inr (.inl ⟨rfl,E,G,N,.inr (.inr ⟨by rw [C,i.k],by rw [B,i.m],by rw [M,i.r],by rw [H,i.mo],by have:=i.tr;omega,by rw [i.r,i.k] at hnl;omega⟩)⟩)⟩
 have QC:Hid (∀ o l g,zJ Z sb ob hb kb n L0 N0 false w s o l g->o ≠ -1->(0 <= o)/\(g.ch=[]->Calls Tryz.prog 100 #[.pointer (some ⟨sb,0,none⟩),.slice none 0 0] l fun e w'=>e=.returned .nilIface/\jS Z sb ob hb kb n L0 N0 w s (.returned (.tuple #[.int .i64 2,.nilIface])) w')/\(g.ch ≠ []->Calls Tryz.prog 101 #[.pointer (some ⟨sb,0,none⟩),.int .i64 o] l fun e w'=>e=.returned .nilIface/\jS Z sb ob hb kb n L0 N0 w s (.returned (.tuple #[.int .i64 0,.nilIface])) w')):=fun o l g ⟨p,u,i,hc⟩ hne=>by
  rcases hc with ⟨e,_⟩ | ⟨k,hk,rfl,S,hf,y0,ab,ad⟩
  ·exact absurd e hne
  ·refine ⟨by omega,fun v=>(yx p R (by rw [i.m];exact hm) (IA p v hk S hf)).mono ?_,fun v=>?_⟩
   ·rintro e w' ⟨rfl,t,nv⟩;rw [i.m] at nv;exact ⟨rfl,u.trans t,.inl ⟨rfl,nv⟩⟩
   ·have hd:0 < g.ch.length:=List.length_pos_iff.2 v;have af:(enc g.cs).length <= 1000000000000:=by
     have:=p.num;rw [i.m] at this;omega
    refine (Mt p R af (by rw [i.m];exact hm) (by rw [i.r];omega) hk S hd hf ab ad FG (fun z a b c d e=>hQ z (by rw [a,i.k]) (by rw [b,i.m]) (by rw [c,i.r]) (by rw [d,i.lc]) (by rw [e,i.mo]))).mono ?_;rintro e w' ⟨rfl,t,E,G,N,C,B,M,H,a5,a6⟩;exact ⟨rfl,u.trans t,.inr (.inl ⟨rfl,E,G,N,.inl ⟨by rw [C,i.k],by rw [B,i.m],by rw [M,i.r],fun hh=>(H (by rw [i.lc,i.mo];exact hh)).trans i.mo,by rw [<- i.mo];exact a5,by rw [<- i.ch];exact a6⟩⟩)⟩
 generalize jS Z sb ob hb kb n L0 N0 w s=RR at *
 clear FG hQ;go_enter Tryz.func57,Tryz.ntmps57
 go_upto_region 2 with (go_at_call 98;refine QS.out.mono ?_;rintro e1 l ⟨o,g,rfl,O⟩;have y:=hide O;clear O;simp only [])
 obtain ⟨ak,⟨a8,c8,q8⟩,aj⟩:=aa.out _ _ y.out.1;have Y:Hid (Calls Tryz.prog 99 #[.pointer (some ⟨sb,6,none⟩)] l fun e w'=>e=.returned (.int .i64 (g.ch.length:Nat))/\w'=l):=ni sb 6 g.ch.length c8 l a8 q8;clear QS aa HE ai h q8;by_cases q:o=-1
 ·subst q
  obtain ⟨p,u,i,L | ⟨k,hk,e,_⟩⟩:=y.out
  ·have I:=hide (W.out _ _ y.out L.2.1 L.2.2);by_cases J:50 * Lb.lub g.r g.r <= g.k
   ·have ah:=hide (QB.out _ _ y.out L.2.1 L.2.2 J);have ae:((50 * Lb.lub g.r g.r:Nat):Int) - ((g.k:Nat):Int) <= 0:=by omega
    generalize ((50 * Lb.lub g.r g.r:Nat):Int) - ((g.k:Nat):Int)=left at *
    clear y p u i L W I QB QC Y J;go_wp2_with (go_at_call 97;refine ah.out.mono ?_;rintro U w2 ⟨rfl,j⟩;have D:=hide j;clear j;simp only [])
    exact D.out
   ·have ae:¬ ((50 * Lb.lub g.r g.r:Nat):Int) - ((g.k:Nat):Int) <= 0:=by omega
    generalize ((50 * Lb.lub g.r g.r:Nat):Int) - ((g.k:Nat):Int)=left at *
    have ag:=hide (I.out J);clear y p u i L W QB QC Y I J;go_upto_region 9 with fail
    go_wp2_with (go_at_call 102;refine ag.out.mono ?_;rintro U w2 (⟨rfl,j⟩ | ⟨rfl,j⟩) <;> (have D:=hide j;clear j;simp only []))
    ·exact D.out
    ·exact D.out
  ·omega
 ·obtain ⟨r0,qn,ql⟩:=QC.out _ _ _ y.out q;have am:(o == -1)=false:=by simpa using q
  have al:(o != -1)=true:=by simpa using q
  by_cases v:g.ch=[]
  ·have QN:=hide (qn v);rw [v] at Y;clear y W QB QC qn ql v
   go_wp2_with (first | (go_at_call 99;refine Y.out.mono ?_;rintro e3 w3 ⟨rfl,rfl⟩;simp only []) | (go_at_call 100;refine QN.out.mono ?_;rintro U w2 ⟨rfl,j⟩;have D:=hide j;clear j;simp only []))
   exact D.out
  ·have QL:=hide (ql v);have hd:((g.ch.length:Int) == 0)=false:=by simpa using v
   clear y W QB QC qn ql
   go_wp2_with (first | (go_at_call 99;refine Y.out.mono ?_;rintro e3 w3 ⟨rfl,rfl⟩;simp only []) | (go_at_call 101;refine QL.out.mono ?_;rintro U w2 ⟨rfl,j⟩;have D:=hide j;clear j;simp only []))
   exact D.out
end
end
section
open Rd
def lW (n:Nat) (x:Int):Prop:=x ≠ 0/\x.natAbs <= n
theorem vG {n:Nat} {x:Int} (h:lW n x):∃ y,y < 2 * n/\wr y=x:=by
 obtain ⟨c,b⟩:=h;by_cases a:0 < x
 ·refine ⟨2 * (x.natAbs - 1),by omega,?_⟩;unfold wr;rw [if_pos (by omega)];omega
 ·refine ⟨2 * (x.natAbs - 1) + 1,by omega,?_⟩;unfold wr;rw [if_neg (by omega)];omega
def H8 (c:Cl):Bs:=c.flatMap (fun x=>Lib.itoa x ++ [32]) ++ [48,10]
def fG (n:Nat) (l:List Cl):Bs:=[112,32,99,110,102,32] ++ Lib.decDigits n ++ [32] ++ Lib.decDigits l.length ++ [10] ++ l.flatMap H8
def uR (l:List Cl):List Bs:=l.flatMap fun c=>c.map Lib.itoa ++ [[48]]
theorem Ck:∀ (tok w:Bs) (g:UInt8) (r:Bs),(∀ x ∈ tok,gap x=false)->gap g=true->w ++ tok ≠ []->iB w (tok ++ g :: r)=(w ++ tok) :: iB [] r
 | [],w,g,r,h,hg,hn=>by
  show iB w (g :: r)=_
  rw [show iB w (g :: r)=if gap g then (if w.isEmpty then iB [] r else w :: iB [] r) else iB (w ++ [g]) r from rfl,hg,if_pos rfl,if_neg (by simpa using hn),List.append_nil]
 | x :: tok,w,g,r,h,hg,hn=>by
  show iB w (x :: (tok ++ g :: r))=_
  rw [show iB w (x :: (tok ++ g :: r))=if gap x then (if w.isEmpty then iB [] (tok ++ g :: r) else w :: iB [] (tok ++ g :: r)) else iB (w ++ [x]) (tok ++ g :: r) from rfl,h x (by simp),if_neg (by simp),Ck tok (w ++ [x]) g r (fun y a=>h y (by simp [a])) hg (by simp)];simp
theorem Qf {t:Bs} (e:rC 32 t) (c:rC 9 t) (b:rC 10 t):∀ x ∈ t,gap x=false:=fun x a=>by
 unfold gap;rw [e x a,c x a,b x a];rfl
theorem JQ {n:Nat} (i:n <= 50) (r:Bs):∀ (c:Cl),(∀ x ∈ c,lW n x)->iB [] (H8 c ++ r)=(c.map Lib.itoa ++ [[48]]) ++ iB [] r
 | [],_=>by
  show iB [] ([48] ++ 10 :: r)=_
  rw [Ck [48] [] 10 r (by intro x g;simp at g;subst g;decide) (by decide) (by simp)];rfl
 | x :: c,h=>by
  obtain ⟨y,l,rfl⟩:=vG (h x (by simp));obtain ⟨_,_,a,b,_,m,_,_,j⟩:=mg i l;have e:H8 (wr y :: c) ++ r=Lib.itoa (wr y) ++ 32 :: (H8 c ++ r):=by unfold H8;simp
  rw [e,Ck _ [] 32 _ (Qf a m b) (by decide) (by simpa using j),JQ i r c (fun z k=>h z (by simp [k]))];rfl
theorem AJ {n:Nat} (b:n <= 50):∀ (l:List Cl),(∀ c ∈ l,∀ x ∈ c,lW n x)->toks (l.flatMap H8)=uR l
 | [],_=>rfl
 | c :: l,h=>by
  have a:=AJ b l (fun d hd=>h d (by simp [hd]));unfold toks at a ⊢;rw [List.flatMap_cons,JQ b _ c (h c (by simp)),a];unfold uR;rw [List.flatMap_cons]
theorem GK {n:Nat} (g:n <= 50):∀ (c:Cl) (b:List Cl) (a:Cl),(∀ x ∈ c,lW n x)->(c.map Lib.itoa ++ [[48]]).foldl (fun e t=>if zero t then (e.1 ++ [e.2],[]) else (e.1,e.2 ++ [fD t])) (b,a)=(b ++ [a ++ c],[])
 | [],b,a,_=>by simp [zero]
 | x :: c,b,a,h=>by
  obtain ⟨y,l,rfl⟩:=vG (h x (by simp));obtain ⟨_,j,_,_,_,_,_,i,_⟩:=mg g l;rw [List.map_cons,List.cons_append,List.foldl_cons];simp only [i,j,Bool.false_eq_true,if_false];rw [GK g c b (a ++ [wr y]) (fun z k=>h z (by simp [k]))];simp
theorem Qz {n:Nat} (i:n <= 50) (l:List Cl) (h:∀ c ∈ l,∀ x ∈ c,lW n x):fE (uR l)=(l,[]):=by
 have g:∀ (l:List Cl) (a:List Cl),(∀ c ∈ l,∀ x ∈ c,lW n x)->(uR l).foldl (fun b t=>if zero t then (b.1 ++ [b.2],[]) else (b.1,b.2 ++ [fD t])) (a,[])=(a ++ l,[]):=by
  intro l
  induction l with
  | nil=>intro a _;simp [uR]
  | cons c l ih=>
   intro a h;have e:uR (c :: l)=(c.map Lib.itoa ++ [[48]]) ++ uR l:=by unfold uR;rw [List.flatMap_cons]
   rw [e,List.foldl_append,GK i c a [] (h c (by simp)),ih _ (fun d hd=>h d (by simp [hd]))];simp
 have:=g l [] h;unfold fE;rw [this];simp
theorem Tz {n:Nat} (g:n <= 50) (l:List Cl) (h:∀ c ∈ l,∀ x ∈ c,lW n x):kS (Lib.decDigits n) (uR l)=true:=by
 unfold kS;rw [List.all_eq_true];intro t a;obtain ⟨c,i,a⟩:=List.mem_flatMap.1 a
 rcases List.mem_append.1 a with a | a
 ·obtain ⟨x,e,rfl⟩:=List.mem_map.1 a;obtain ⟨y,b,rfl⟩:=vG (h c i x e);rw [(mg g b).1];simp
 ·simp at a;subst a;rw [show zero [48]=true from rfl];rfl
def yN (l:List Cl):Nat:=(l.map List.length).sum
theorem Kg {n:Nat} (a:n <= 50):∀ (c:Cl),(∀ x ∈ c,lW n x)->((c.map Lib.itoa ++ [[48]]).filter fun t=>!zero t).length=c.length
 | [],_=>by decide
 | x :: c,h=>by
  obtain ⟨y,e,rfl⟩:=vG (h x (by simp));rw [List.map_cons,List.cons_append,List.filter_cons,(mg a e).2.2.2.2.2.2.2.1];simp only [Bool.not_false,if_true,List.length_cons];rw [Kg a c (fun z b=>h z (by simp [b]))]
theorem Bt {n:Nat} (b:n <= 50):∀ (l:List Cl),(∀ c ∈ l,∀ x ∈ c,lW n x)->lits (uR l)=yN l
 | [],_=>rfl
 | c :: l,h=>by
  have a:=Bt b l (fun d hd=>h d (by simp [hd]));have e:uR (c :: l)=(c.map Lib.itoa ++ [[48]]) ++ uR l:=by unfold uR;rw [List.flatMap_cons]
  unfold lits at a ⊢;rw [e,List.filter_append,List.length_append,Kg b c (h c (by simp)),a];simp [yN]
theorem uH:∀ m,m < 1000->gY (Lib.decDigits m)=true/\(Lib.decDigits m).all (fun b=>!(b == 32) && !(b == 10) && !(b == 45) && !(b == 9))=true/\(Lib.decDigits m).length <= 3:=by decide +kernel
theorem Sl:∀ m,m < 51->above (Lib.decDigits m) [53,48]=false/\gU (Lib.decDigits m)=(m:Int):=by decide +kernel
theorem Gw {m:Nat} (h:m < 1000):rC 32 (Lib.decDigits m)/\rC 10 (Lib.decDigits m):=by
 have:=List.all_eq_true.1 (uH m h).2.1;constructor
 all_goals
  intro b hb;have:=this b hb;simp at this ⊢;simp [this]
theorem U1 {c:UInt8}:∀ {a:Bs} (r:Bs),rC c a->(a ++ c :: r).takeWhile (fun x=>!(x == c))=a
 | [],r,_=>by simp
 | x :: a,r,h=>by
  rw [List.cons_append,List.takeWhile_cons,h x (by simp)];simp only [Bool.not_false,if_true];rw [U1 (a:=a) r (fun y b=>h y (by simp [b]))]
theorem Ll {n:Nat} (i:n <= 50) {l:List Cl} (u:l.length < 1000) (h:∀ c ∈ l,∀ x ∈ c,lW n x) (z:yN l <= 700) (F:(fG n l).length <= 20000):lM (fG n l)=((n:Int),l,0):=by
 obtain ⟨k,o⟩:=Gw (m:=n) (by omega);obtain ⟨p,q⟩:=Gw (m:=l.length) u;have a:=(uH n (by omega)).1;have g:=(uH l.length u).1;obtain ⟨y,v⟩:=Sl n (by omega);unfold lM;rw [if_neg (by omega)];generalize j:([112,32,99,110,102,32] ++ Lib.decDigits n ++ [32] ++ Lib.decDigits l.length:Bs)=H;have e:fG n l=H ++ 10 :: l.flatMap H8:=by unfold fG;rw [<- j];simp
 have A:rC 10 H:=by
  rw [<- j];intro b hb;simp only [List.mem_append] at hb
  rcases hb with ((hb | hb) | hb) | hb
  ·revert b;decide
  ·exact o b hb
  ·simp at hb;subst hb;decide
  ·exact q b hb
 have t:line (fG n l)=H:=by unfold line;rw [e];exact U1 _ A
 have E:ended (fG n l)=true:=by unfold ended;rw [t,e];simp
 have D:rest (fG n l)=l.flatMap H8:=by
  unfold rest;rw [t,e,List.drop_append];simp
 have C:comment H=false:=by rw [<- j];unfold comment Lib.hasPrefix;simp [List.isPrefixOf]
 have B:uq H=some (Lib.decDigits n,Lib.decDigits l.length):=by
  unfold uq;have:splitB 32 H=[[112],[99,110,102],Lib.decDigits n,Lib.decDigits l.length]:=by
   rw [rG,<- j];rw [show ([112,32,99,110,102,32] ++ Lib.decDigits n ++ [32] ++ Lib.decDigits l.length:Bs)=[112] ++ 32 :: ([99,110,102] ++ 32 :: (Lib.decDigits n ++ 32 :: Lib.decDigits l.length)) by simp];rw [mQ _ (by intro x r;simp at r;subst r;decide),mQ _ (by intro x r;revert x;decide),mQ _ k,vW p]
  rw [this];simp only [a,g];rfl
 rw [show pE ((fG n l).length + 1) (fG n l)=if ended (fG n l) then (if comment (line (fG n l)) then pE (fG n l).length (rest (fG n l)) else (uq (line (fG n l))).map fun x=>(x.1,x.2,rest (fG n l))) else none from rfl,E,if_pos rfl,t,C,if_neg (by simp),B];simp only [Option.map_some];unfold body;rw [D,AJ i l h,Tz i l h,if_pos rfl,Qz i l h,Bt i l h,y,v];simp only [List.isEmpty_nil,Bool.true_and,beq_self_eq_true,if_true,Bool.false_or];rw [if_neg (by simpa using z)]
theorem Ku {n:Nat} (b:n <= 50):∀ (c:Cl),(∀ x ∈ c,lW n x)->(H8 c).length <= 4 * c.length + 2
 | [],_=>by decide
 | x :: c,h=>by
  obtain ⟨y,g,rfl⟩:=vG (h x (by simp));have i:=(mg b g).2.2.2.2.2.2.1;have a:=Ku b c (fun z e=>h z (by simp [e]));unfold H8 at a ⊢;rw [List.flatMap_cons];simp only [List.length_append,List.length_cons,List.length_nil] at a ⊢;omega
theorem Ei {n:Nat} (b:n <= 50) {l:List Cl} (e:l.length < 1000) (h:∀ c ∈ l,∀ x ∈ c,lW n x):(fG n l).length <= 14 + 4 * yN l + 2 * l.length:=by
 have a:∀ (l:List Cl),(∀ c ∈ l,∀ x ∈ c,lW n x)->(l.flatMap H8).length <= 4 * yN l + 2 * l.length:=by
  intro l
  induction l with
  | nil=>intro _;simp
  | cons c l ih=>
   intro h;have i:=Ku b c (h c (by simp));have g:=ih (fun d hd=>h d (by simp [hd]));rw [List.flatMap_cons,List.length_append,List.length_cons];have:yN (c :: l)=c.length + yN l:=by simp [yN]
   omega
 have i:=a l h;have g:=(uH n (by omega)).2.2;have j:=(uH l.length e).2.2;unfold fG;simp only [List.length_append,List.length_cons,List.length_nil];omega
end
end So
end Go.Proofs.YtceahffmenbibaaGreatDoor
