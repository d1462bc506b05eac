/- Sasg Sdel Sbck Sadd Sles Spro. -/
import Derived.Test.YtceahffmenbibaaGreatDoorJ01
import Derived.Deep.CutRange
import Derived.Deep.RegionWith
import Derived.Outline
import Derived.Test.YtceahffmenbibaaGreatDoorJ00
set_option linter.unusedVariables false
set_option linter.unusedSimpArgs false
set_option maxHeartbeats 2000000
set_option maxRecDepth 100000
namespace Go.Proofs.YtceahffmenbibaaGreatDoor
namespace So
section
open Go Go.RowKit Go.Deep Rd
section
variable {Z:Nat->Prop} {sb K:Nat} {w w':World} {f V:Nat->Value} {X:Nat->List Value}
theorem Tryz.gB:(Tryz.prog.info? 3).map (fun i=>(i.zero,i.size,i.bytes))=some (some (.int .i64 0),1,8):=by kernel_rfl
def fe (X:Nat->List Value) (x:Nat) (r:Int) (d:Nat):Nat->List Value:=
 upd (upd (upd (upd X 1 (X 1 ++ [.int .i64 x])) 3 (((X 3).set x (.int .i64 1)).set (op x) (.int .i64 (-1)))) 4 ((X 4).set (x / 2) (.int .i64 d))) 5 ((X 5).set (x / 2) (.int .i64 r))
theorem pV (x vars d:Nat) (r:Int) (hx:x < 2 * vars) (U:vars <= 50) (h:dX Z sb w K f V X) (h1:(X 1).length <= 1000) (h2:(X 2).length=d) (h3:(X 3).length=2 * vars) (h4:(X 4).length=vars) (h5:(X 5).length=vars):
  Calls Tryz.prog 136 #[.pointer (some ⟨sb,6,none⟩),.int .i64 x,.int .i64 r] w fun e w'=>e=.returned (.tuple #[])/\dD Z w w'/\∃ v',dX Z sb w' K (upd f 6 v') (upd V 1 v') (fe X x r d):=by
 obtain ⟨i0,hi,S,R,Q⟩:=info_parts Tryz.gB;have N:=hide h;have hK:=h.hK;obtain ⟨a1,c1,L⟩:=h.fG.shape (k:=1) (by omega);have o:=(h.hd (k:=1) (by omega)).1;have B:=(h.hd (k:=1) (by omega)).2;rw [show cellOf 1=6 from rfl] at o B;rw [L] at o;have O1:Hid (w.ownsRow 0 3 1 (.slice a1 (X 1).length c1) (X 1).length (X 1)):=by
  have:=h.fG.own 1 (by omega);rw [L] at this;exact this
 have E1:=hide L;have ag:=h.row.lt;have ah:=h.jA;have ns:¬ (sb=w.heap.size):=by omega
 clear h L;go_enter Tryz.func136,Tryz.ntmps136
 go_wp2_with (at_builtin;refine dF _ rfl _ _ 43 rfl 0 3 i0 (.int .i64 0) 1 8 Tryz.underlying43 hi S R Q rfl (by decide) _ _ _ rfl (O1.out.alloc (.cells #[.int .i64 (x:Int)] 3)) (.slice (some ⟨w.heap.size,0,none⟩) 1 1) 1 [.int .i64 (x:Int)] rfl (.inr ⟨⟨w.heap.size,0,none⟩,1,rfl,(cell_one_new w _ _)⟩) rfl (by simp [Value.oneCell']) (by unfold maxLen;omega) (by omega) zl ?_)
 intro v6 w6 A6;have J:dz (w.alloc (.cells #[.int .i64 (x:Int)] 3)) 0 (ni 1) 1 (V 1) (X 1).length (X 1) 1 [.int .i64 (x:Int)] v6 w6:=by rw [E1.out];exact A6
 have y:=hide (N.out.push (k:=1) (m:=1) (news:=[.int .i64 (x:Int)]) (by omega) rfl J);have B6:=hide (N.out.oV (k:=1) (by omega) J 6 v6);have g6:=(N.out.lu (k:=1) (by omega) J 6 (by omega)).1;have z6:=(N.out.lu (k:=1) (by omega) J 6 (by omega)).2;obtain ⟨n,l,W⟩:=dI A6.own;subst W;rw [show cellOf 1=6 from rfl] at y;clear A6 J o B O1;go_upto_region 1 with fail
 generalize ab:w6.setCell ⟨sb,6,none⟩ (.slice n ((X 1).length + 1) l)=W1 at y B6 ⊢;clear ab g6 z6;obtain ⟨H,s⟩:∃ F,F=upd f 6 (.slice n ((X 1).length + 1) l):=⟨_,rfl⟩;obtain ⟨C,q⟩:∃ V',V'=upd V 1 (.slice n ((X 1).length + 1) l):=⟨_,rfl⟩;obtain ⟨b,g⟩:∃ X',X'=upd X 1 (X 1 ++ [.int .i64 (x:Int)]):=⟨_,rfl⟩;rw [<- s,<- q,<- g] at y;have L2:(b 2).length=d:=by rw [g,cu _ _ (by decide)];exact h2
 have L3:(b 3).length=2 * vars:=by rw [g,cu _ _ (by decide)];exact h3
 have L4:(b 4).length=vars:=by rw [g,cu _ _ (by decide)];exact h4
 have L5:(b 5).length=vars:=by rw [g,cu _ _ (by decide)];exact h5
 have t:Hid (upd (upd (upd (upd b 3 ((b 3).set x (.int .i64 1))) 3 (((upd b 3 ((b 3).set x (.int .i64 1))) 3).set (op x) (.int .i64 (-1)))) 4 ((b 4).set (x / 2) (.int .i64 d))) 5 ((b 5).set (x / 2) (.int .i64 r))=fe X x r d):=by
  unfold Hid;rw [cK,g];unfold fe
  funext k
  unfold upd;by_cases k5:k=5
  ·simp [k5]
  ·by_cases k4:k=4
   ·simp [k4]
   ·by_cases k3:k=3
    ·simp [k3]
    ·simp [k5,k4,k3]
 have ae:=hide s;have ad:=hide q;clear g s q;have x0:(0:Int) <= (x:Int):=by omega
 have x1:(x:Int) < ((2 * vars:Nat):Int):=by omega
 obtain ⟨g3,c3,t3,e3,q3,r3,_,z3,b3,l3,n3⟩:=y.out.elem (k:=3) (j:=x) (by omega) L3 hx;rw [show cellOf 3=9 from rfl] at q3;have M:=hide (y.out.set (k:=3) (by omega) e3 x (.int .i64 1));have B7:Hid (dD Z w (W1.setCell ⟨g3,x,none⟩ (.int .i64 1))):=B6.out.setCell b3 _;have E3:=hide e3;clear e3;go_upto_region 2 with fail
 generalize aa:W1.setCell ⟨g3,x,none⟩ (.int .i64 1)=W2 at M B7 ⊢;clear aa q3 r3 z3 l3 n3 y B6;have P:op x < 2 * vars:=by unfold op;split <;> omega
 have M3:((upd b 3 ((b 3).set x (.int .i64 1))) 3).length=2 * vars:=by rw [cK,List.length_set];exact L3
 obtain ⟨g4,c4,t4,e4,q4,r4,_,z4,b4,l4,n4⟩:=M.out.elem (k:=3) (j:=op x) (by omega) M3 P;rw [show cellOf 3=9 from rfl] at q4;have S8:=hide (fun (Y:World) (p:dX Z sb Y K H C (upd b 3 ((b 3).set x (.int .i64 1))))=>p.set (k:=3) (by omega) e4 (op x) (.int .i64 (-1)));have QO:=hide (fun Y=>ko x Y (by omega));have o0:(0:Int) <= ((op x:Nat):Int):=by omega
 have o1:((op x:Nat):Int) < ((2 * vars:Nat):Int):=by omega
 clear e4;generalize op x=ox at *
 go_cut [] from 6 (fun z=>Hid (dX Z sb z K H C (upd (upd b 3 ((b 3).set x (.int .i64 1))) 3 (((upd b 3 ((b 3).set x (.int .i64 1))) 3).set ox (.int .i64 (-1)))))/\Hid (dD Z w z))
 case first=>
  go_region_with (go_at_call 139;refine (QO.out _).mono ?_;rintro e7 w7 ⟨rfl,rfl⟩;simp only [])
  all_goals
   go_wp2_with fail
   go_meet;exact ⟨(S8.out _ M.out).later bR.drew,(B7.out.setCell b4 _).drew⟩
 case rest=>
  obtain ⟨u,B9⟩:=hcut;clear M S8 B7 q4 r4 z4 l4 n4 QO;generalize i:upd (upd b 3 ((b 3).set x (.int .i64 1))) 3 (((upd b 3 ((b 3).set x (.int .i64 1))) 3).set ox (.int .i64 (-1)))=c at u t;have P2:(c 2).length=d:=by rw [<- i,cu _ _ (by decide),cu _ _ (by decide)];exact L2
  have P4:(c 4).length=vars:=by rw [<- i,cu _ _ (by decide),cu _ _ (by decide)];exact L4
  have E4:Hid (b 4=c 4):=by unfold Hid;rw [<- i,cu _ _ (by decide),cu _ _ (by decide)]
  have I:Hid (b 5=c 5):=by unfold Hid;rw [<- i,cu _ _ (by decide),cu _ _ (by decide)]
  have P5:(c 5).length=vars:=by rw [<- I.out];exact L5
  have ai:(c 4).length=vars:=P4;rw [E4.out,I.out] at t;clear i E4 I M3;have vl:x / 2 < vars:=by omega
  have QV:=hide (fun Y=>fB x Y (by omega));have v0:(0:Int) <= ((x / 2:Nat):Int):=by omega
  have v1:((x / 2:Nat):Int) < (vars:Int):=by omega
  obtain ⟨g5,c5,t5,e5,q5,r5,_,z5,b5,l5,n5⟩:=u.out.elem (k:=4) (j:=x / 2) (by omega) P4 vl;rw [show cellOf 4=10 from rfl] at q5;obtain ⟨a2,c2,e2⟩:=u.out.fG.shape (k:=2) (by omega);have O:=(u.out.hd (k:=2) (by omega)).1;rw [show cellOf 2=8 from rfl,e2,P2] at O;have QD:Hid (∀ Y:World,Y.heap=wc.heap->Calls Tryz.prog 99 #[.pointer (some ⟨sb,6,none⟩)] Y fun e w'=>e=.returned (.int .i64 d)/\w'=Y):=fun Y p=>mH sb 6 d c2 Y a2 (by rw [show Y.cell? ⟨sb,6 + 2,none⟩=wc.cell? ⟨sb,8,none⟩ from World.cell?_of_block (a:=⟨sb,8,none⟩) (by rw [p])];exact O)
  have G:=hide (fun (Y:World) (p:dX Z sb Y K H C c)=>p.set (k:=4) (by omega) e5 (x / 2) (.int .i64 d));clear e5 e2;generalize x / 2=v at *
  go_upto_region 3 with fail
  go_cut [] from 6 (fun z=>Hid (dX Z sb z K H C (upd c 4 ((c 4).set v (.int .i64 d))))/\Hid (dD Z w z))
  case first=>
   go_region_with (first
    |(go_at_call 176;refine (QV.out _).mono ?_;rintro e7 w7 ⟨rfl,rfl⟩;simp only [])
    |(go_at_call 99;refine (QD.out _ (by rfl)).mono ?_;rintro e8 w8 ⟨rfl,rfl⟩;simp only []))
   all_goals
    go_wp2_with fail
    go_meet;exact ⟨(G.out _ u.out).later bR.drew,(B9.out.setCell b5 _).drew⟩
  case rest=>
   obtain ⟨E,af⟩:=hcut;clear u G B9 q5 r5 z5 l5 n5 QD O;have ac:((upd c 4 ((c 4).set v (.int .i64 d))) 5).length=vars:=by rw [cu _ _ (by decide)];exact P5
   have I:Hid ((upd c 4 ((c 4).set v (.int .i64 d))) 5=c 5):=cu _ _ (by decide);obtain ⟨g6,c6,t6,e6,q6,r6,_,z6,b6,l6,n6⟩:=E.out.elem (k:=5) (j:=v) (by omega) ac vl;rw [show cellOf 5=11 from rfl] at q6;have D:=hide (fun (Y:World) (p:dX Z sb Y K H C (upd c 4 ((c 4).set v (.int .i64 d))))=>p.set (k:=5) (by omega) e6 v (.int .i64 r));rw [I.out,t.out] at D;clear e6;go_upto_region 4 with fail
   go_region_with (go_at_call 176;refine (QV.out _).mono ?_;rintro e7 w7 ⟨rfl,rfl⟩;simp only [])
   all_goals
    go_wp2;go_end0
    have SE:=(D.out _ E.out).later bR.drew;rw [ae.out,ad.out] at SE;exact ⟨rfl,(af.out.setCell b6 _).drew,_,SE⟩
end
section
variable {Z:Nat->Prop} {sb K:Nat} {w w':World} {f V:Nat->Value} {X:Nat->List Value}
theorem zR (n:Int) (c:0 <= n) (a:n < 2 ^ 63):IntKind.i64.wrap n=n:=by
 have b:n < 9223372036854775808:=a;rw [IntKind.wrap_i64];omega
end
section
variable {Z:Nat->Prop} {sb K:Nat} {w w':World} {f V:Nat->Value} {X:Nat->List Value}
theorem gm {α:Type} (f:Nat->α) (k:Nat) (a b:α):upd (upd f k a) k b=upd f k b:=by funext j;unfold upd;split <;> simp_all
def dC (l:List Nat):List Value:=l.map fun (n:Nat)=>Value.int .i64 (n:Int)
theorem dh (l:List Nat):(dC l).length=l.length:=by simp [dC]
theorem iZ (l:List Nat) (i:Nat) (h:i < l.length):(dC l)[i]? = some (.int .i64 (l[i]:Nat)):=by simp [dC,h]
def oD (T:List Value):List Nat->List Value
 | []=>T
 | x :: r=>oD ((T.set x (.int .i64 0)).set (op x) (.int .i64 0)) r
theorem JA (T:List Value) (l:List Nat) (x:Nat):oD T (l ++ [x])=((oD T l).set x (.int .i64 0)).set (op x) (.int .i64 0):=by
 induction l generalizing T with
 | nil=>rfl
 | cons y r ih=>exact ih _
theorem xm (T:List Value) (l:List Nat):(oD T l).length=T.length:=by
 induction l generalizing T with
 | nil=>rfl
 | cons y r ih=>rw [oD,ih];simp
def Uj (Z:Nat->Prop) (sb:Nat) (w:World) (K:Nat) (f V:Nat->Value) (X:Nat->List Value) (tr:List Nat) (i28:Value) (wr:World):Prop:=
 ∃ i:Nat,i28=.int .i64 i/\i <= tr.length/\Hid (dX Z sb wr K f V (upd X 3 (oD (X 3) (tr.take i)))/\dD Z w wr)
theorem Rn (b:Nat) (h:dX Z sb w K f V X) (hd:(X 2).length <= b) (g:b <= 1000):
  Calls Tryz.prog 177 #[.pointer (some ⟨sb,6,none⟩),.int .i64 b] w fun e w'=>e=.returned (.slice none 0 0)/\w'=w:=by
 have q:=h.hK;obtain ⟨l,j,d⟩:=h.fG.shape (k:=2) (by omega);have c:=(h.hd (k:=2) (by omega)).1;rw [show cellOf 2=8 from rfl,d] at c;have m:Hid (∀ Y:World,Y.heap=w.heap->Calls Tryz.prog 99 #[.pointer (some ⟨sb,6,none⟩)] Y fun e w'=>e=.returned (.int .i64 (X 2).length)/\w'=Y):=fun Y i=>mH sb 6 (X 2).length j Y l (by rw [show Y.cell? ⟨sb,6 + 2,none⟩=w.cell? ⟨sb,8,none⟩ from World.cell?_of_block (a:=⟨sb,8,none⟩) (by rw [i])];exact c)
 generalize (X 2).length=n at *
 have p:(n:Int) <= (b:Int):=by omega
 clear h d;go_enter Tryz.func177,Tryz.ntmps177
 go_wp2_with (go_at_call 99;refine (m.out _ (by rfl)).mono ?_;rintro r o ⟨rfl,rfl⟩)
 go_ret
 exact ⟨rfl,rfl⟩
def Dj (Z:Nat->Prop) (sb:Nat) (w:World) (K:Nat) (f V:Nat->Value) (X:Nat->List Value) (tr ch:List Nat) (s d0:Nat) (e:Ending) (w':World):Prop:=
 ∃ g1 c1 g2 c2,V 1=.slice (some ⟨g1,0,none⟩) tr.length c1/\V 2=.slice (some ⟨g2,0,none⟩) ch.length c2/\e=.returned (.slice (some ⟨g1,s,none⟩) (tr.length - s) (c1 - s))/\dD Z w w'/\(∀ j (hj:j < tr.length),w'.cell? ⟨g1,j,none⟩=some (.int .i64 (tr[j]:Nat)))/\
  dX Z sb w' K (upd (upd (upd f 6 (.slice (some ⟨g1,0,none⟩) s c1)) 8 (.slice (some ⟨g2,0,none⟩) d0 c2)) 7 (.int .i64 s)) (upd (upd V 1 (.slice (some ⟨g1,0,none⟩) s c1)) 2 (.slice (some ⟨g2,0,none⟩) d0 c2)) (upd (upd (upd X 3 (oD (X 3) (tr.drop s))) 1 (dC (tr.take s))) 2 (dC (ch.take d0)))
theorem Oq (c vars s:Nat) (b d:List Nat) (h:dX Z sb w K f V X) (N:X 1=dC b) (h2:X 2=dC d) (hd:c < d.length) (hs:d[c]=s) (ab:s < b.length) (h3:(X 3).length=2 * vars) (hl:∀ x ∈ b,x < 2 * vars) (aa:vars <= 50) (hn:b.length <= 1000) (hc:d.length <= 1000):
  Calls Tryz.prog 177 #[.pointer (some ⟨sb,6,none⟩),.int .i64 c] w fun e w'=>Dj Z sb w K f V X b d s c e w':=by
 have hK:=h.hK;have HS:=hide h;have J:(X 1).length=b.length:=by rw [N,dh]
 have U:(X 2).length=d.length:=by rw [h2,dh]
 obtain ⟨g2,o,t2,e2,q2,r2,R,z2,b2,l2,m2⟩:=h.elem (k:=2) (j:=c) (by omega) U hd;rw [h2,iZ d c hd,hs] at R;obtain rfl:=Option.some.inj R;obtain ⟨g1,l,t1,O,q1,r1,s1,z1,b1,l1,W⟩:=h.elem (k:=1) (j:=s) (by omega) J ab;rw [show cellOf 1=6 from rfl] at q1;rw [show cellOf 2=8 from rfl] at q2;have QD:Hid (∀ Y:World,Y.heap=w.heap->Calls Tryz.prog 99 #[.pointer (some ⟨sb,6,none⟩)] Y fun e w'=>e=.returned (.int .i64 d.length)/\w'=Y):=fun Y hY=>mH sb 6 d.length o Y (some ⟨g2,0,none⟩) (by rw [show Y.cell? ⟨sb,6 + 2,none⟩=w.cell? ⟨sb,8,none⟩ from World.cell?_of_block (a:=⟨sb,8,none⟩) (by rw [hY])];exact q2)
 have af:b.length <= l:=by
  rcases (h.fG.own 1 (by omega)).2 with ⟨e,_⟩ | ⟨g,cap,ad,e,_,_,B,_⟩
  ·rw [O] at e;cases e
  ·rw [O] at e;obtain ⟨_,_,q⟩:=Value.slice.inj e;rw [J] at B;omega
 have hh:¬ ((d.length:Int) <= (c:Int)):=by omega
 have d1:(0:Int) <= (c:Int):=by omega
 have d2:(c:Int) < (d.length:Int):=by omega
 have k0:(0:Int) <= (s:Int):=by omega
 have k1:(s:Int) <= (b.length:Int):=by omega
 have k2:(s:Int) <= (l:Int):=by omega
 have k3:¬ (l=s):=by omega
 have E1:=hide O;have H:=hide e2;clear h e2 O s1 R;go_enter Tryz.func177,Tryz.ntmps177
 go_wp2_with (go_at_call 99;refine (QD.out _ (by rfl)).mono ?_;rintro e7 I ⟨rfl,rfl⟩)
 have an:=H;have LT:=hide hl;obtain ⟨u,M⟩:∃ u,u=b.drop s:=⟨_,rfl⟩;have Q:u.length=b.length - s:=by rw [M];simp
 have ua:Hid (∀ i (h:i < u.length) (h':s + i < b.length),u[i]=b[s + i]):=fun i h h'=>by simp [M]
 rw [<- Q,show decide (d.length <= c)=false from decide_eq_false (by omega)];have UL:=hide Q;have HU:=hide M;have um:u.length <= 1000:=by omega
 clear hh hl Q M;go_loopw [8,28] (fun _ i wr=>Uj Z sb I K f V X u i wr) (fun _ i _=>u.length - (intOf i).toNat)
 case atStart=>exact ⟨0,rfl,zl,by rw [List.take_zero,show oD (X 3) []=X 3 from rfl,upd_same];exact ⟨HS.out,dD.refl _⟩⟩
 case round=>
  obtain ⟨i,rfl,am,T⟩:=hrel;by_cases C:i < u.length
  ·have p:s + i < b.length:=by have:=UL.out;omega
   have D:=(T.out.1.fG.cell (k:=1) (by omega) E1.out (j:=s + i) (by rw [cu _ _ (by decide),J];exact p)).1;rw [cu _ _ (by decide),N,iZ b (s + i) p,<- ua.out i C p] at D;have hx:u[i] < 2 * vars:=by rw [ua.out i C p];exact LT.out _ (List.getElem_mem _)
   have NX:Hid (oD (X 3) (u.take (i + 1))=((oD (X 3) (u.take i)).set u[i] (.int .i64 0)).set (op u[i]) (.int .i64 0)):=by
    unfold Hid;rw [List.take_add_one,List.getElem?_eq_getElem C,Option.toList_some,JA]
   have A3:((upd X 3 (oD (X 3) (u.take i))) 3).length=2 * vars:=by rw [cK,xm];exact h3
   obtain ⟨x,L⟩:∃ x,u[i]=x:=⟨_,rfl⟩;rw [L] at D hx NX;obtain ⟨g3,c3,t3,e3,q3,r3,_,z3,b3,l3,m3⟩:=T.out.1.elem (k:=3) (j:=x) (by omega) A3 hx;rw [show cellOf 3=9 from rfl] at q3;have P:=hide (T.out.1.set (k:=3) (by omega) e3 x (.int .i64 0));rw [cK,gm] at P;have B1:Hid (dD Z I (wr.setCell ⟨g3,x,none⟩ (.int .i64 0))):=T.out.2.setCell b3 _;have i0:(0:Int) <= (i:Int):=by omega
   have i1:(i:Int) < (u.length:Int):=by omega
   have x0:(0:Int) <= (x:Int):=by omega
   have x1:(x:Int) < ((2 * vars:Nat):Int):=by omega
   clear e3 L;go_upto_region 9 with fail
   generalize ac:wr.setCell ⟨g3,x,none⟩ (.int .i64 0)=W2 at P B1 ⊢;clear ac q3 r3 z3 l3 m3 D;have S:op x < 2 * vars:=by unfold op;split <;> omega
   have A4:((upd X 3 ((oD (X 3) (u.take i)).set x (.int .i64 0))) 3).length=2 * vars:=by rw [cK,List.length_set,xm];exact h3
   obtain ⟨g4,c4,t4,e4,q4,r4,_,z4,b4,l4,m4⟩:=P.out.elem (k:=3) (j:=op x) (by omega) A4 S;rw [show cellOf 3=9 from rfl] at q4;have S2:=hide (P.out.set (k:=3) (by omega) e4 (op x) (.int .i64 0));rw [cK,gm,<- NX.out] at S2;have QO:=hide (fun Y=>ko x Y (by omega));have o0:(0:Int) <= ((op x:Nat):Int):=by omega
   have o1:((op x:Nat):Int) < ((2 * vars:Nat):Int):=by omega
   clear e4 NX;generalize op x=ox at *
   have T2:Hid (dX Z sb (W2.setCell ⟨g4,ox,none⟩ (.int .i64 0)).drew K f V (upd X 3 (oD (X 3) (u.take (i + 1))))/\dD Z I (W2.setCell ⟨g4,ox,none⟩ (.int .i64 0)).drew):=⟨S2.out.later bR.drew,(B1.out.setCell b4 _).drew⟩;go_region_with (go_at_call 139;refine (QO.out _).mono ?_;rintro e8 w8 ⟨rfl,rfl⟩;simp only [])
   all_goals
    go_wp2;go_roundw
    case rel=>exact ⟨i + 1,by go_num,by omega,T2⟩
    case measure=>simp [intOf];omega
  ·have ei:i=u.length:=by omega
   have G:=hide T.out.1;have B0:=hide T.out.2;rw [ei,List.take_length,HU.out] at G;have r:=E1.out;have z:Hid (dX Z sb (wr.setCell ⟨sb,6,none⟩ (.slice (some ⟨g1,0,none⟩) s l)) K (upd f 6 (.slice (some ⟨g1,0,none⟩) s l)) (upd V 1 (.slice (some ⟨g1,0,none⟩) s l)) (upd (upd X 3 (oD (X 3) (b.drop s))) 1 (dC (b.take s)))):=by
    have t:=G.out.cut (k:=1) (m:=s) (by omega) r (by rw [cu _ _ (by decide),J];omega);rw [cu X _ (by decide:(1:Nat) ≠ 3),N,show (dC b).take s=dC (b.take s) by unfold dC;rw [List.map_take]] at t;exact t
   have y:Hid (dX Z sb ((wr.setCell ⟨sb,6,none⟩ (.slice (some ⟨g1,0,none⟩) s l)).setCell ⟨sb,8,none⟩ (.slice (some ⟨g2,0,none⟩) c o)) K (upd (upd f 6 (.slice (some ⟨g1,0,none⟩) s l)) 8 (.slice (some ⟨g2,0,none⟩) c o)) (upd (upd V 1 (.slice (some ⟨g1,0,none⟩) s l)) 2 (.slice (some ⟨g2,0,none⟩) c o)) (upd (upd (upd X 3 (oD (X 3) (b.drop s))) 1 (dC (b.take s))) 2 (dC (d.take c)))):=by
    have t:=z.out.cut (k:=2) (m:=c) (a:=some ⟨g2,0,none⟩) (n:=d.length) (cap:=o) (by omega) (by rw [cu _ _ (by decide)];exact H.out) (by rw [cu _ _ (by decide),cu _ _ (by decide),U];omega);rw [cu _ _ (by decide:(2:Nat) ≠ 1),cu X _ (by decide:(2:Nat) ≠ 3),h2,show (dC d).take c=dC (d.take c) by unfold dC;rw [List.map_take]] at t;exact t
   have v:=hide (y.out.scalar 7 (.int .i64 s) (by decide +kernel));have CL:Hid (∀ j (hj:j < b.length),(((wr.setCell ⟨sb,6,none⟩ (.slice (some ⟨g1,0,none⟩) s l)).setCell ⟨sb,8,none⟩ (.slice (some ⟨g2,0,none⟩) c o)).setCell ⟨sb,7,none⟩ (.int .i64 s)).cell? ⟨g1,j,none⟩=some (.int .i64 (b[j]:Nat))):=fun j hj=>by
    rw [World.cell?_setCell_far _ _ _ _ (by simpa using fun e=>W e.symm),World.cell?_setCell_far _ _ _ _ (by simpa using fun e=>W e.symm),World.cell?_setCell_far _ _ _ _ (by simpa using fun e=>W e.symm)];have t:=(G.out.fG.cell (k:=1) (by omega) r (j:=j) (by rw [cu _ _ (by decide),J];exact hj)).1;rw [cu _ _ (by decide),N,iZ b j hj] at t;exact t
   have E:=HS.out.jA;have BF:Hid (dD Z I (((wr.setCell ⟨sb,6,none⟩ (.slice (some ⟨g1,0,none⟩) s l)).setCell ⟨sb,8,none⟩ (.slice (some ⟨g2,0,none⟩) c o)).setCell ⟨sb,7,none⟩ (.int .i64 s))):=((B0.out.setCell E _).setCell E _).setCell E _;have y1:=(G.out.hd (k:=1) (by omega));have y2:=(G.out.hd (k:=2) (by omega));rw [show cellOf 1=6 from rfl,r] at y1;rw [show cellOf 2=8 from rfl,H.out] at y2;obtain ⟨al,ak⟩:=y1;obtain ⟨aj,ai⟩:=y2;obtain ⟨ah,ag⟩:=G.out.head 7 (by omega);have ae:d.length <= o:=by
    rcases (HS.out.fG.own 2 (by omega)).2 with ⟨e,_⟩ | ⟨g,cap,ad,e,_,_,B,_⟩
    ·rw [H.out] at e;cases e
    ·rw [H.out] at e;obtain ⟨_,_,q⟩:=Value.slice.inj e;rw [U] at B;omega
   have dc:(c:Int) <= (o:Int):=by omega
   subst ei;clear r;have FE:Hid (Dj Z sb I K f V X b d s c (.returned (.slice (some ⟨g1,s,none⟩) (b.length - s) (l - s))) (((wr.setCell ⟨sb,6,none⟩ (.slice (some ⟨g1,0,none⟩) s l)).setCell ⟨sb,8,none⟩ (.slice (some ⟨g2,0,none⟩) c o)).setCell ⟨sb,7,none⟩ (.int .i64 s))):=
    ⟨g1,l,g2,o,E1.out,H.out,rfl,BF.out,CL.out,v.out⟩
   rw [<- UL.out] at FE;clear CL BF z y v G B0;go_wp2;go_ret;exact FE.out
end
section
variable {Z:Nat->Prop} {sb K:Nat} {w w':World} {f V:Nat->Value} {X:Nat->List Value}
theorem dX.UJ (h:dX Z sb w K f V X) {k:Nat} (p:k < 13) {v':Value} {w6:World} {m:Nat} {news:List Value} (o:news.length=m) (A:dz w 0 (ni k) 1 (V k) (X k).length (X k) m news v' w6):
  dX Z sb (w6.setCell ⟨sb,cellOf k,none⟩ v') K (upd f (cellOf k) v') (upd V k v') (upd X k (X k ++ news))/\dD Z w (w6.setCell ⟨sb,cellOf k,none⟩ v')/\∀ j,j < 22->w6.cell? ⟨sb,j,none⟩=some (f j)/\w6.frozen? ⟨sb,j,none⟩=false:=by
 have b:k < K:=by have:=h.hK;omega
 have n:=h.row.lt;have l:=h.row.of_block (A.grew.block sb n (fun e=>h.far b sb e.symm rfl));refine ⟨h.header p l (h.fG.push b o A) rfl (fun i d g a=>?_) A.grew.size (fun i d g a=>?_),((dD.refl w).grown A.grew (fun g a=>h.al k b g a)).setCell h.jA _,fun j q=>⟨l.cell q,l.frozen j⟩⟩
 ·by_cases e:i=k
  ·subst e;rw [cK] at a
   rcases A.at' with c | c
   ·rw [c] at a;exact h.far d g a
   ·rw [c] at a;have:=Option.some.inj a;omega
  ·rw [cu _ _ e] at a;exact h.far d g a
 ·by_cases e:i=k
  ·subst e;rw [cK] at a
   rcases A.at' with c | c
   ·rw [c] at a;exact h.al i d g a
   ·rw [c] at a;have:=Option.some.inj a;exact h.az g (by omega)
  ·rw [cu _ _ e] at a;exact h.al i d g a
def OM (sb:Nat) (V0:Value) (w:World) (v:Value) (c:List Nat):Prop:=∃ (a:Option Addr) (cp bs off:Nat),v=.slice a c.length cp/\(a=none->cp=0)/\(0 < c.length->a=some ⟨bs,off,none⟩/\bs < w.heap.size/\bs ≠ sb/\V0.ownBlock ≠ some bs/\∀ j (hj:j < c.length),w.cell? ⟨bs,off + j,none⟩=some (.int .i64 (c[j]:Nat)))
theorem FW (c:List Nat) (b:Nat) (l:Int) (v:Value) (h:dX Z sb w K f V X) (hL:OM sb (V 0) w v c) (hc:c.length <= 1000) (hk:b <= 2) (hn:(X 0).length <= 1099511627776) (hl:f 3=.int .i64 l) (l0:0 <= l) (l1:l <= 4611686018427387904):
  Calls Tryz.prog 132 #[.pointer (some ⟨sb,2,none⟩),v,.int .i64 b] w fun e w'=>e=.returned (.int .i64 (X 0).length)/\dD Z w w'/\∃ v',dX Z sb w' K (upd (upd f 2 v') 3 (.int .i64 (if b=1 then l + 1 else l))) (upd V 0 v') (upd X 0 (X 0 ++ dC (c.length :: b :: 0 :: c))):=by
 obtain ⟨i0,hi,G,E,D⟩:=info_parts Tryz.gB;obtain ⟨a,P,p,off,rfl,Y,hL⟩:=hL;have M:=hide h;have HL:=hide hL;have hK:=h.hK;obtain ⟨a0,c0,O⟩:=h.fG.shape (k:=0) (by omega);have B:=(h.hd (k:=0) (by omega)).1;rw [show cellOf 0=2 from rfl,O] at B;have O0:Hid (w.ownsRow 0 3 1 (.slice a0 (X 0).length c0) (X 0).length (X 0)):=by
  have:=h.fG.own 0 (by omega);rw [O] at this;exact this
 have E0:=hide O;have ah:=h.row.lt;have ns:¬ (sb=w.heap.size):=by omega
 clear h O hL;go_enter Tryz.func132,Tryz.ntmps132
 go_wp2_with (at_builtin;refine dF _ rfl _ _ 43 rfl 0 3 i0 (.int .i64 0) 1 8 Tryz.underlying43 hi G E D rfl (by decide) _ _ _ rfl (O0.out.alloc (.cells #[.int .i64 (c.length:Int),.int .i64 (b:Int),.int .i64 0] 3)) (.slice (some ⟨w.heap.size,0,none⟩) 3 3) 3 [.int .i64 (c.length:Int),.int .i64 (b:Int),.int .i64 0] rfl (.inr ⟨⟨w.heap.size,0,none⟩,3,rfl,World.news_of_block (cs:=#[.int .i64 (c.length:Int),.int .i64 (b:Int),.int .i64 0]) (t:=3) (fr:=(0,0)) (heap_alloc_new w _)⟩) rfl (by simp [Value.oneCell']) (by unfold maxLen;omega) (by omega) zl ?_)
 intro N R A6;have x:dz (w.alloc (.cells #[.int .i64 (c.length:Int),.int .i64 (b:Int),.int .i64 0] 3)) 0 (ni 0) 1 (V 0) (X 0).length (X 0) 3 [.int .i64 (c.length:Int),.int .i64 (b:Int),.int .i64 0] N R:=by rw [E0.out];exact A6
 have s:=hide (M.out.push (k:=0) (m:=3) (news:=[.int .i64 (c.length:Int),.int .i64 (b:Int),.int .i64 0]) (by omega) rfl x);have B6:=hide (M.out.oV (k:=0) (by omega) x 2 N);have g6:=(M.out.lu (k:=0) (by omega) x 2 (by omega)).1;have z6:=(M.out.lu (k:=0) (by omega) x 2 (by omega)).2;have C6:Hid (0 < c.length->∀ j (H:j < c.length),(R.setCell ⟨sb,2,none⟩ N).cell? ⟨p,off + j,none⟩=some (.int .i64 (c[j]:Nat))):=fun z j H=>by
  obtain ⟨_,h2,I,h4,h5⟩:=HL.out z;rw [World.cell?_setCell_far _ _ _ _ (by simpa using fun e=>I e.symm),World.cell?_of_block (w:=w) (a:=⟨p,off + j,none⟩) ((x.grew.block p (by simp;omega) (fun e=>h4 e.symm)).trans (Below.heap_alloc w _ p h2))];exact h5 j H
 have V6:Hid (N.ownBlock=some p->0 < c.length->False):=fun e z=>by
  obtain ⟨_,h2,I,h4,h5⟩:=HL.out z
  rcases x.at' with h1 | h1
  ·rw [h1] at e;exact h4 e
  ·rw [h1] at e;have:=Option.some.inj e;simp at this;omega
 obtain ⟨r,q,W⟩:=dI A6.own;subst W;rw [show cellOf 0=2 from rfl] at s;clear A6 x B O0;go_upto_region 3 with fail
 generalize ab:R.setCell ⟨sb,2,none⟩ (.slice r ((X 0).length + 3) q)=W1 at s B6 C6 ⊢;clear ab g6 z6;obtain ⟨d,o⟩:∃ l,l=X 0 ++ [.int .i64 (c.length:Int),.int .i64 (b:Int),.int .i64 0]:=⟨_,rfl⟩;have C:d.length=(X 0).length + 3:=by rw [o];simp
 rw [<- o] at s;have B:=(s.out.hd (k:=0) (by omega)).1;rw [show cellOf 0=2 from rfl,cK,<- C] at B;have O1:Hid (W1.ownsRow 0 3 1 (.slice r d.length q) d.length d):=by
  have:=s.out.fG.own 0 (by omega);rw [cK,cK,<- C] at this;exact this
 have J:Hid (Src W1 (.slice a c.length P) c.length (dC c)):=by
  unfold Hid Src
  rcases Nat.eq_zero_or_pos c.length with e | z
  ·have cn:c=[]:=List.eq_nil_of_length_eq_zero e;subst cn
   cases a with
   | none=>exact .inl ⟨by rw [Y rfl];rfl,rfl,rfl⟩
   | some ad=>exact .inr ⟨ad,P,rfl,fun j u n=>by simp [dC] at n⟩
  ·refine .inr ?_;obtain ⟨ha,_⟩:=HL.out z;refine ⟨⟨p,off,none⟩,P,by rw [ha],fun j u n=>?_⟩;have H:j < c.length:=by
    rcases Nat.lt_or_ge j c.length with h | h
    ·exact h
    ·rw [List.getElem?_eq_none (by rw [dh];exact h)] at n;cases n
   rw [iZ c j H] at n;obtain rfl:=Option.some.inj n;rw [show (Addr.add ⟨p,off,none⟩ j:Addr)=⟨p,off + j,none⟩ by simp [Addr.add]];exact C6.out z j H
 have ae:=hide o;have NL:=hide C;have ag:d.length <= 1099511627779:=by omega
 have ac:(dC c).length=c.length * 1:=by rw [dh];omega
 have one:∀ u ∈ dC c,u.oneCell'=true:=fun u n=>by
  unfold dC at n;obtain ⟨y,_,rfl⟩:=List.mem_map.1 n;rfl
 rw [<- C] at s ⊢;clear o C;go_wp2_with (at_builtin;refine dF _ rfl _ _ 43 rfl 0 3 i0 (.int .i64 0) 1 8 Tryz.underlying43 hi G E D rfl (by decide) _ _ _ rfl O1.out (.slice a c.length P) c.length (dC c) rfl J.out ac one (by unfold maxLen;omega) (by omega) zl ?_)
 intro v8 w8 A8;have A9:dz W1 0 (ni 0) 1 ((upd V 0 (.slice r d.length q)) 0) ((upd X 0 d) 0).length ((upd X 0 d) 0) c.length (dC c) v8 w8:=by rw [cK,cK];exact A8
 obtain ⟨S,b8,c8⟩:=s.out.UJ (k:=0) (by omega) (dh c) A9;rw [show cellOf 0=2 from rfl] at S b8;have L:=hide S;have B8:=hide (B6.out.trans b8);obtain ⟨g8,z8⟩:=c8 2 (by omega);obtain ⟨i,g,U⟩:=dI A8.own;subst U;clear S b8 c8 A8 A9 B O1 J;go_upto_region 4 with fail
 generalize aa:w8.setCell ⟨sb,2,none⟩ (.slice i (d.length + c.length) g)=W2 at L B8 ⊢;clear aa g8 z8;have FX:Hid ((upd (upd X 0 d) 0 ((upd X 0 d) 0 ++ dC c))=upd X 0 (X 0 ++ dC (c.length :: b :: 0 :: c))):=by
  unfold Hid;rw [cK,gm,ae.out,List.append_assoc];rfl
 rw [FX.out,gm,gm] at L;obtain ⟨Q,af⟩:=L.out.head 3 (by omega);rw [cu _ _ (by decide),hl] at Q;by_cases k1:b=1
 ·subst k1;have S9:=hide (L.out.scalar 3 (.int .i64 (l + 1)) (by decide +kernel));have B9:Hid (dD Z w (W2.setCell ⟨sb,3,none⟩ (.int .i64 (l + 1)))):=B8.out.setCell M.out.jA _;go_wp2;go_ret;exact ⟨rfl,B9.out,_,S9.out⟩
 ·have kb:((b:Int) == 1)=false:=by simp;omega
  have S9:Hid (dX Z sb W2 K (upd (upd f 2 (.slice i (d.length + c.length) g)) 3 (.int .i64 l)) (upd V 0 (.slice i (d.length + c.length) g)) (upd X 0 (X 0 ++ dC (c.length :: b :: 0 :: c)))):=by
   have e:upd (upd f 2 (.slice i (d.length + c.length) g)) 3 (.int .i64 l)=upd f 2 (.slice i (d.length + c.length) g):=by
    funext j;unfold upd
    by_cases I:j=3
    ·subst I;simp [hl]
    ·simp [I]
   rw [e];exact L.out
  go_wp2;go_ret
  exact ⟨rfl,B8.out,_,S9.out⟩
end
end
section
open Rd
def By (tr:List Nat) (rs:Nat->Option (List Nat)) (p:Nat->Prop) (i:Nat):Prop:=∃ h:i < tr.length,∃ c r,rs (tr[i] / 2)=some c/\c=tr[i] :: r/\∀ y ∈ r,p (y / 2)
structure Il (tr:List Nat) (rs:Nat->Option (List Nat)) (lev:Nat->Nat) (last:Nat) (c0:List Nat) (seen fol:Nat->Prop) (iu:Nat) (kept:List Nat):Prop where
 hiu:iu < tr.length
 first:∀ y ∈ c0,lev (y / 2)=0\/seen (y / 2)
 behind:∀ i (h:i < tr.length),iu < i->seen (tr[i] / 2)->By tr rs (fun v=>lev v=0\/seen v) i
 low:∀ i (h:i < tr.length),last <= i->i < iu->¬ seen (tr[i] / 2)
 UR:last <= iu
 follows:∀ i (h:i < tr.length),i < last->fol (tr[i] / 2)->seen (tr[i] / 2)\/By tr rs fol i
 Sg:∀ i (h:i < tr.length),i < last->seen (tr[i] / 2)->op tr[i] ∈ kept\/By tr rs fol i
 zero:∀ i (h:i < tr.length),lev (tr[i] / 2)=0->By tr rs (fun v=>lev v=0) i
 EM:∀ v,fol v->∃ i,∃ h:i < tr.length,i < last/\tr[i] / 2=v
theorem By.mono {b:List Nat} {d:Nat->Option (List Nat)} {p q:Nat->Prop} {i:Nat} (h:By b d p i) (a:∀ v,p v->q v):By b d q i:=by
 obtain ⟨g,c,r,l,k,j⟩:=h;exact ⟨g,c,r,l,k,fun y e=>a _ (j y e)⟩
theorem Il.conf {L:List Cl} {a:List Nat} {k:Nat->Option (List Nat)} {lev:Nat->Nat} {last:Nat} {q:List Nat} {seen fol:Nat->Prop} {l:Nat} {kept:List Nat} (H:Il a k lev last q seen fol l kept) (T:Trail L a k) (B:There L q) (z:∀ y ∈ q,op y ∈ a):
  mq L (((a[l]'H.hiu) :: kept.map op).map wr):=by
 refine x9 (N:=fun v=>lev v=0\/seen v\/fol v) T (fun i h A=>?_) B z (fun y t=>(H.first y t).imp id .inl);have fin:By a k (fun v=>lev v=0\/seen v\/fol v) i->a[i] ∈ (a[l]'H.hiu) :: kept.map op\/∃ c r,k (a[i] / 2)=some c/\c=a[i] :: r/\∀ y ∈ r,(lev (y / 2)=0\/seen (y / 2)\/fol (y / 2)):=fun o=>by
  obtain ⟨_,r⟩:=o;exact .inr r
 have early:i < last->seen (a[i] / 2)\/fol (a[i] / 2)->a[i] ∈ (a[l]'H.hiu) :: kept.map op\/∃ c r,k (a[i] / 2)=some c/\c=a[i] :: r/\∀ y ∈ r,(lev (y / 2)=0\/seen (y / 2)\/fol (y / 2)):=fun m b=>by
  have n:seen (a[i] / 2)->a[i] ∈ (a[l]'H.hiu) :: kept.map op\/∃ c r,k (a[i] / 2)=some c/\c=a[i] :: r/\∀ y ∈ r,(lev (y / 2)=0\/seen (y / 2)\/fol (y / 2)):=fun b=>by
   rcases H.Sg i h m b with u | o
   ·exact .inl (List.mem_cons_of_mem _ (List.mem_map.2 ⟨_,u,jT _⟩))
   ·exact fin (o.mono fun v d=>.inr (.inr d))
  rcases b with b | b
  ·exact n b
  ·rcases H.follows i h m b with b | o
   ·exact n b
   ·exact fin (o.mono fun v d=>.inr (.inr d))
 rcases A with s | b | b
 ·exact fin ((H.zero i h s).mono fun v d=>.inl d)
 ·rcases Nat.lt_or_ge i last with m | m
  ·exact early m (.inl b)
  ·rcases Nat.lt_trichotomy i l with g | g | g
   ·exact absurd b (H.low i h m g)
   ·subst g;exact .inl (List.mem_cons_self ..)
   ·exact fin ((H.behind i h g b).mono fun v d=>d.imp id .inl)
 ·obtain ⟨j,x,p,e⟩:=H.EM _ b;have:j=i:=by
   have g:(a.map (· / 2))[j]'(by simpa using x)=(a.map (· / 2))[i]'(by simpa using h):=by simpa using e
   exact (List.getElem_inj T.nodup).1 g
  subst this;exact early p (.inr b)
end
def ic:Nat->List Bool->Nat
 | 0,_=>0
 | _ + 1,[]=>0
 | n + 1,b :: r=>(if b then 2 ^ n else 0) + ic n r
theorem D8 (n:Nat):ic n []=0:=by cases n <;> rfl
theorem BS:∀ (n:Nat) (l:List Bool),ic n l < 2 ^ n
 | 0,_=>by simp [ic]
 | n + 1,[]=>by simp only [ic];exact Nat.pos_of_ne_zero (by simp)
 | n + 1,b :: r=>by
  have:=BS n r;simp only [ic];rw [Nat.pow_succ];cases b <;> simp <;> omega
theorem sG:∀ (n:Nat) (l:List Bool),ic n (l ++ [false])=ic n l
 | 0,l=>rfl
 | n + 1,[]=>by simp [ic,D8]
 | n + 1,b :: r=>by
  simp only [List.cons_append,ic];rw [sG n r]
theorem uM:∀ (n:Nat) (p r:List Bool),p.length < n->ic n (p ++ false :: r) < ic n (p ++ [true])
 | 0,p,r,h=>by simp at h
 | n + 1,[],r,h=>by
  have:=BS n r;simp only [List.nil_append,ic,D8];simp;omega
 | n + 1,b :: p,r,h=>by
  have:=uM n p r (by simpa using h);simp only [List.cons_append,ic];omega
theorem JX (n:Nat) (l:List Bool) (h:l.length < n):ic n l < ic n (l ++ [true]):=by
 have a:=uM n l [] h;rw [sG] at a;exact a
def bits (len:Nat) (ch:List Nat):List Bool:=(List.range len).map fun p=>!ch.contains p
theorem yS (len:Nat) (a:List Nat):(bits len a).length=len:=by simp [bits]
theorem wh {len:Nat} {a:List Nat} (h:∀ p ∈ a,p < len):bits (len + 1) a=bits len a ++ [true]:=by
 unfold bits;rw [List.range_succ,List.map_append]
 congr 1
 have:¬ len ∈ a:=fun b=>by have:=h len b;omega
 simp [this]
theorem FL {len:Nat} {a:List Nat} (h:∀ p ∈ a,p < len):bits (len + 1) (a ++ [len])=bits len a ++ [false]:=by
 unfold bits;rw [List.range_succ,List.map_append]
 congr 1
 ·apply List.map_congr_left
  intro p b;have b:=List.mem_range.1 b;have:p ≠ len:=by omega
  simp [List.contains_eq_mem,this]
 ·simp
def Gb (ch:List Nat) (len:Nat):Prop:=ch.Pairwise (· < ·)/\∀ p ∈ ch,p < len
theorem KV {len:Nat} {a:List Nat} (h:Gb a len) {d:Nat} (hd:d < a.length):∃ r,bits len a=bits a[d] (a.take d) ++ false :: r:=by
 have m:a[d] < len:=h.2 _ (List.getElem_mem hd);refine ⟨((List.range len).drop (a[d] + 1)).map fun p=>!a.contains p,?_⟩;unfold bits;have e:List.range len=List.range a[d] ++ a[d] :: (List.range len).drop (a[d] + 1):=by
  refine List.ext_getElem? fun i=>?_
  rcases Nat.lt_trichotomy i a[d] with b | b | b
  ·rw [List.getElem?_append_left (by simpa using b),List.getElem?_range b,List.getElem?_range (by omega)]
  ·rw [b,List.getElem?_append_right (by simp)];simp [m]
  ·rw [List.getElem?_append_right (by simp;omega)];simp only [List.length_range];obtain ⟨k,n⟩:∃ k,i - a[d]=k + 1:=⟨i - a[d] - 1,by omega⟩;rw [n,List.getElem?_cons_succ,List.getElem?_drop]
   congr 1;omega
 conv=>lhs;rw [e]
 rw [List.map_append,List.map_cons];have pw:=h.1
 congr 1
 ·apply List.map_congr_left
  intro p l;have l:=List.mem_range.1 l
  congr 1
  rw [List.contains_eq_mem,List.contains_eq_mem];apply decide_eq_decide.2;constructor
  ·intro c;obtain ⟨j,o,rfl⟩:=List.mem_iff_getElem.1 c;refine List.mem_iff_getElem.2 ⟨j,?_,List.getElem_take⟩;rw [List.length_take]
   rcases Nat.lt_or_ge j d with b | b
   ·omega
   ·rcases Nat.eq_or_lt_of_le b with g | g
    ·subst g;omega
    ·have:=List.pairwise_iff_getElem.1 pw d j hd o g;omega
  ·exact fun c=>List.mem_of_mem_take c
 ·have:a.contains a[d]=true:=by rw [List.contains_iff_mem];exact List.getElem_mem hd
  rw [this];rfl
theorem GG {n len:Nat} {a:List Nat} (h:Gb a len) {d:Nat} (hd:d < a.length) (i:len <= n):ic n (bits len a) < ic n (bits (a[d] + 1) (a.take d)):=by
 obtain ⟨r,e⟩:=KV h hd;have g:a[d] < len:=h.2 _ (List.getElem_mem hd);rw [e,wh (fun p b=>by
  obtain ⟨j,c,rfl⟩:=List.mem_iff_getElem.1 b;rw [List.length_take] at c;rw [List.getElem_take];exact List.pairwise_iff_getElem.1 h.1 j d (by omega) hd (by omega))]
 exact uM n _ _ (by rw [yS];omega)
end So
end Go.Proofs.YtceahffmenbibaaGreatDoor
