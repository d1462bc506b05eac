/- Sasg Sdel Sbck Sadd Sles Spro Sinv Sfal Sops. -/
import Derived.Test.YtceahffmenbibaaGreatDoorH00
import Derived.Deep.CutRange
set_option linter.unusedVariables false
set_option linter.unusedSimpArgs false
set_option maxHeartbeats 2000000
set_option maxRecDepth 100000
namespace Go.Proofs.YtceahffmenbibaaGreatDoor
namespace So
section
open Go Go.RowKit Go.Deep Rd
section
variable {Z:Nat->Prop} {sb K:Nat} {w w':World} {f V:Nat->Value} {X:Nat->List Value}
theorem Tryz.fO:(Tryz.prog.info? 3).map (fun i=>(i.zero,i.size,i.bytes))=some (some (.int .i64 0),1,8):=by kernel_rfl
def fq (X:Nat->List Value) (x:Nat) (r:Int) (d:Nat):Nat->List Value:=
 upd (upd (upd (upd X 1 (X 1 ++ [.int .i64 x])) 3 (((X 3).set x (.int .i64 1)).set (op x) (.int .i64 (-1)))) 4 ((X 4).set (x / 2) (.int .i64 d))) 5 ((X 5).set (x / 2) (.int .i64 r))
theorem qg (x vars d:Nat) (r:Int) (hx:x < 2 * vars) (ae:vars <= 50) (h:dQ Z sb w K f V X) (h1:(X 1).length <= 1000) (h2:(X 2).length=d) (h3:(X 3).length=2 * vars) (h4:(X 4).length=vars) (h5:(X 5).length=vars):
  Calls Tryz.prog 136 #[.pointer (some ⟨sb,6,none⟩),.int .i64 x,.int .i64 r] w fun e w'=>e=.returned (.tuple #[])/\dB Z w w'/\∃ v',dQ Z sb w' K (upd f 6 v') (upd V 1 v') (fq X x r d):=by
 obtain ⟨i0,hi,ad,ac,ab⟩:=info_parts Tryz.fO;have U:=hide h;have hK:=h.hK;obtain ⟨a1,c1,R⟩:=h.eH.shape (k:=1) (by omega);have t:=(h.hd (k:=1) (by omega)).1;have H:=(h.hd (k:=1) (by omega)).2;rw [show cellOf 1=6 from rfl] at t H;rw [R] at t;have O1:Hid (w.ownsRow 0 3 1 (.slice a1 (X 1).length c1) (X 1).length (X 1)):=by
  have:=h.eH.own 1 (by omega);rw [R] at this;exact this
 have E1:=hide R;have am:=h.row.lt;have an:=h.jf;have ns:¬ (sb=w.heap.size):=by omega
 clear h R;go_enter Tryz.func136,Tryz.ntmps136
 go_wp2_with (at_builtin;refine dR _ rfl _ _ 43 rfl 0 3 i0 (.int .i64 0) 1 8 Tryz.underlying43 hi ad ac ab rfl (by decide) _ _ _ rfl (O1.out.alloc (.cells #[.int .i64 (x:Int)] 3)) (.slice (some ⟨w.heap.size,0,none⟩) 1 1) 1 [.int .i64 (x:Int)] rfl (.inr ⟨⟨w.heap.size,0,none⟩,1,rfl,(cell_one_new w _ _)⟩) rfl (by simp [Value.oneCell']) (by unfold maxLen;omega) (by omega) zl ?_)
 intro v6 w6 A6;have Q:dz (w.alloc (.cells #[.int .i64 (x:Int)] 3)) 0 (kM 1) 1 (V 1) (X 1).length (X 1) 1 [.int .i64 (x:Int)] v6 w6:=by rw [E1.out];exact A6
 have E:=hide (U.out.push (k:=1) (m:=1) (news:=[.int .i64 (x:Int)]) (by omega) rfl Q);have B6:=hide (U.out.nO (k:=1) (by omega) Q 6 v6);have g6:=(U.out.jQ (k:=1) (by omega) Q 6 (by omega)).1;have z6:=(U.out.jQ (k:=1) (by omega) Q 6 (by omega)).2;obtain ⟨s,q,af⟩:=dH A6.own;subst af;rw [show cellOf 1=6 from rfl] at E;clear A6 Q t H O1;go_upto_region 1 with fail
 generalize ah:w6.setCell ⟨sb,6,none⟩ (.slice s ((X 1).length + 1) q)=W1 at E B6 ⊢;clear ah g6 z6;obtain ⟨N,z⟩:∃ F,F=upd f 6 (.slice s ((X 1).length + 1) q):=⟨_,rfl⟩;obtain ⟨I,y⟩:∃ V',V'=upd V 1 (.slice s ((X 1).length + 1) q):=⟨_,rfl⟩;obtain ⟨b,l⟩:∃ X',X'=upd X 1 (X 1 ++ [.int .i64 (x:Int)]):=⟨_,rfl⟩;rw [<- z,<- y,<- l] at E;have L2:(b 2).length=d:=by rw [l,cu _ _ (by decide)];exact h2
 have L3:(b 3).length=2 * vars:=by rw [l,cu _ _ (by decide)];exact h3
 have L4:(b 4).length=vars:=by rw [l,cu _ _ (by decide)];exact h4
 have L5:(b 5).length=vars:=by rw [l,cu _ _ (by decide)];exact h5
 have B:Hid (upd (upd (upd (upd b 3 ((b 3).set x (.int .i64 1))) 3 (((upd b 3 ((b 3).set x (.int .i64 1))) 3).set (op x) (.int .i64 (-1)))) 4 ((b 4).set (x / 2) (.int .i64 d))) 5 ((b 5).set (x / 2) (.int .i64 r))=fq X x r d):=by
  unfold Hid;rw [cz,l];unfold fq
  funext k
  unfold upd;by_cases k5:k=5
  ·simp [k5]
  ·by_cases k4:k=4
   ·simp [k4]
   ·by_cases k3:k=3
    ·simp [k3]
    ·simp [k5,k4,k3]
 have ak:=hide z;have aj:=hide y;clear l z y;have x0:(0:Int) <= (x:Int):=by omega
 have x1:(x:Int) < ((2 * vars:Nat):Int):=by omega
 obtain ⟨g3,c3,t3,e3,q3,r3,_,z3,b3,l3,n3⟩:=E.out.elem (k:=3) (j:=x) (by omega) L3 hx;rw [show cellOf 3=9 from rfl] at q3;have S:=hide (E.out.set (k:=3) (by omega) e3 x (.int .i64 1));have B7:Hid (dB Z w (W1.setCell ⟨g3,x,none⟩ (.int .i64 1))):=B6.out.setCell b3 _;have E3:=hide e3;clear e3;go_upto_region 2 with fail
 generalize ag:W1.setCell ⟨g3,x,none⟩ (.int .i64 1)=W2 at S B7 ⊢;clear ag q3 r3 z3 l3 n3 E B6;have aa:op x < 2 * vars:=by unfold op;split <;> omega
 have M3:((upd b 3 ((b 3).set x (.int .i64 1))) 3).length=2 * vars:=by rw [cz,List.length_set];exact L3
 obtain ⟨g4,c4,t4,e4,q4,r4,_,z4,b4,l4,n4⟩:=S.out.elem (k:=3) (j:=op x) (by omega) M3 aa;rw [show cellOf 3=9 from rfl] at q4;have S8:=hide (fun (Y:World) (u:dQ Z sb Y K N I (upd b 3 ((b 3).set x (.int .i64 1))))=>u.set (k:=3) (by omega) e4 (op x) (.int .i64 (-1)));have QO:=hide (fun Y=>kE x Y (by omega));have o0:(0:Int) <= ((op x:Nat):Int):=by omega
 have o1:((op x:Nat):Int) < ((2 * vars:Nat):Int):=by omega
 clear e4;generalize op x=ox at *
 go_cut [] from 6 (fun G=>Hid (dQ Z sb G K N I (upd (upd b 3 ((b 3).set x (.int .i64 1))) 3 (((upd b 3 ((b 3).set x (.int .i64 1))) 3).set ox (.int .i64 (-1)))))/\Hid (dB Z w G))
 case first=>
  go_region_with (go_at_call 139;refine (QO.out _).mono ?_;rintro e7 w7 ⟨rfl,rfl⟩;simp only [])
  all_goals
   go_wp2_with fail
   go_meet;exact ⟨(S8.out _ S.out).later bR.drew,(B7.out.setCell b4 _).drew⟩
 case rest=>
  obtain ⟨D,B9⟩:=hcut;clear S S8 B7 q4 r4 z4 l4 n4 QO;generalize o:upd (upd b 3 ((b 3).set x (.int .i64 1))) 3 (((upd b 3 ((b 3).set x (.int .i64 1))) 3).set ox (.int .i64 (-1)))=g at D B;have P2:(g 2).length=d:=by rw [<- o,cu _ _ (by decide),cu _ _ (by decide)];exact L2
  have P4:(g 4).length=vars:=by rw [<- o,cu _ _ (by decide),cu _ _ (by decide)];exact L4
  have E4:Hid (b 4=g 4):=by unfold Hid;rw [<- o,cu _ _ (by decide),cu _ _ (by decide)]
  have O:Hid (b 5=g 5):=by unfold Hid;rw [<- o,cu _ _ (by decide),cu _ _ (by decide)]
  have P5:(g 5).length=vars:=by rw [<- O.out];exact L5
  have ao:(g 4).length=vars:=P4;rw [E4.out,O.out] at B;clear o E4 O M3;have vl:x / 2 < vars:=by omega
  have QV:=hide (fun Y=>eQ x Y (by omega));have v0:(0:Int) <= ((x / 2:Nat):Int):=by omega
  have v1:((x / 2:Nat):Int) < (vars:Int):=by omega
  obtain ⟨g5,c5,t5,e5,q5,r5,_,z5,b5,l5,n5⟩:=D.out.elem (k:=4) (j:=x / 2) (by omega) P4 vl;rw [show cellOf 4=10 from rfl] at q5;obtain ⟨a2,c2,e2⟩:=D.out.eH.shape (k:=2) (by omega);have q2:=(D.out.hd (k:=2) (by omega)).1;rw [show cellOf 2=8 from rfl,e2,P2] at q2;have QD:Hid (∀ Y:World,Y.heap=wc.heap->Calls Tryz.prog 99 #[.pointer (some ⟨sb,6,none⟩)] Y fun e w'=>e=.returned (.int .i64 d)/\w'=Y):=fun Y u=>ni sb 6 d c2 Y a2 (by rw [show Y.cell? ⟨sb,6 + 2,none⟩=wc.cell? ⟨sb,8,none⟩ from World.cell?_of_block (a:=⟨sb,8,none⟩) (by rw [u])];exact q2)
  have M:=hide (fun (Y:World) (u:dQ Z sb Y K N I g)=>u.set (k:=4) (by omega) e5 (x / 2) (.int .i64 d));clear e5 e2;generalize x / 2=v at *
  go_upto_region 3 with fail
  go_cut [] from 6 (fun G=>Hid (dQ Z sb G K N I (upd g 4 ((g 4).set v (.int .i64 d))))/\Hid (dB Z w G))
  case first=>
   go_region_with (first
    |(go_at_call 176;refine (QV.out _).mono ?_;rintro e7 w7 ⟨rfl,rfl⟩;simp only [])
    |(go_at_call 99;refine (QD.out _ (by rfl)).mono ?_;rintro e8 w8 ⟨rfl,rfl⟩;simp only []))
   all_goals
    go_wp2_with fail
    go_meet;exact ⟨(M.out _ D.out).later bR.drew,(B9.out.setCell b5 _).drew⟩
  case rest=>
   obtain ⟨L,al⟩:=hcut;clear D M B9 q5 r5 z5 l5 n5 QD q2;have ai:((upd g 4 ((g 4).set v (.int .i64 d))) 5).length=vars:=by rw [cu _ _ (by decide)];exact P5
   have O:Hid ((upd g 4 ((g 4).set v (.int .i64 d))) 5=g 5):=cu _ _ (by decide);obtain ⟨g6,c6,t6,e6,q6,r6,_,z6,b6,l6,n6⟩:=L.out.elem (k:=5) (j:=v) (by omega) ai vl;rw [show cellOf 5=11 from rfl] at q6;have J:=hide (fun (Y:World) (u:dQ Z sb Y K N I (upd g 4 ((g 4).set v (.int .i64 d))))=>u.set (k:=5) (by omega) e6 v (.int .i64 r));rw [O.out,B.out] at J;clear e6;go_upto_region 4 with fail
   go_region_with (go_at_call 176;refine (QV.out _).mono ?_;rintro e7 w7 ⟨rfl,rfl⟩;simp only [])
   all_goals
    go_wp2;go_end0
    have SE:=(J.out _ L.out).later bR.drew;rw [ak.out,aj.out] at SE;exact ⟨rfl,(al.out.setCell b6 _).drew,_,SE⟩
end
section
variable {Z:Nat->Prop} {sb K:Nat} {w w':World} {f V:Nat->Value} {X:Nat->List Value}
theorem vR (n:Int) (e:0 <= n) (b:n < 2 ^ 63):IntKind.i64.wrap n=n:=by
 have d:n < 9223372036854775808:=b;rw [IntKind.wrap_i64];omega
theorem Jq (x n m:Nat) (l ws:Int) (h:dQ Z sb w K f V X) (R:(X 0).length=n) (hx:x + 2 < n) (hb:n <= 17592186044416) (T:(X 0)[x]? = some (.int .i64 m)) (S:m <= 1000) (U:f 3=.int .i64 l) (Q:f 4=.int .i64 ws) (l0:-4611686018427387904 <= l) (l1:l <= 4611686018427387904) (w0:0 <= ws) (w1:ws <= 4611686018427387904):
  Calls Tryz.prog 187 #[.pointer (some ⟨sb,2,none⟩),.int .i64 x] w fun e w'=>e=.returned (.tuple #[])/\dB Z w w'/\dQ Z sb w' K (upd (upd f 3 (.int .i64 (l - 1))) 4 (.int .i64 (ws + (3 + m)))) V (upd X 0 ((X 0).set (x + 1) (.int .i64 2))):=by
 obtain ⟨g,z,t',y,G,O,q,M,b1,g1,n1⟩:=h.elem (k:=0) (j:=x + 1) (by omega) R (by omega);rw [show cellOf 0=2 from rfl] at G;have hK:=h.hK;have r:=hide (h.set (k:=0) (by omega) y (x + 1) (.int .i64 2));have D:Hid (dB Z w (w.setCell ⟨g,x + 1,none⟩ (.int .i64 2))):=(dB.refl _).setCell b1 _;have x0:(0:Int) <= (x:Int) + 1:=by omega
 have x1:(x:Int) + 1 < (n:Int):=by omega
 have x2:((x:Int) + 1).toNat=x + 1:=by omega
 have d:=h.jf;have J:=hide y;have HM:=hide T;clear h q y;go_enter Tryz.func187,Tryz.ntmps187
 go_upto_region 1 with fail
 generalize v:w.setCell ⟨g,x + 1,none⟩ (.int .i64 2)=I at r D ⊢;clear v G O M;obtain ⟨b,t⟩:=r.out.head 3 (by omega);rw [U] at b;have o:=hide (r.out.scalar 3 (.int .i64 (l - 1)) (by decide +kernel));have L:Hid (dB Z w (I.setCell ⟨sb,3,none⟩ (.int .i64 (l - 1)))):=D.out.setCell d _;go_upto_region 2 with fail
 generalize u:I.setCell ⟨sb,3,none⟩ (.int .i64 (l - 1))=B at o L ⊢;clear u b t r D;obtain ⟨s,N⟩:=o.out.head 4 (by omega);rw [cu _ _ (by decide),Q] at s;have E:=(o.out.hd (k:=0) (by omega)).1;rw [show cellOf 0=2 from rfl,J.out] at E;have q:=(o.out.eH.cell (k:=0) (by omega) J.out (j:=x) (by rw [cz,List.length_set];omega)).1;rw [cz,List.getElem?_set_ne (by omega),HM.out] at q;have S3:=hide (o.out.scalar 4 (.int .i64 (ws + (3 + m))) (by decide +kernel));have QS:Hid (∀ Y:World,Y.heap=B.heap->Calls Tryz.prog 220 #[.pointer (some ⟨sb,2,none⟩),.int .i64 x] Y fun e w'=>e=.returned (.int .i64 m)/\w'=Y):=fun Y H=>jq sb 2 g n z x m Y (by rw [show Y.cell? ⟨sb,2,none⟩=B.cell? ⟨sb,2,none⟩ from World.cell?_of_block (a:=⟨sb,2,none⟩) (by rw [H])];exact E) (by omega) (by unfold maxLen;omega) (by rw [show Y.cell? ⟨g,x,none⟩=B.cell? ⟨g,x,none⟩ from World.cell?_of_block (a:=⟨g,x,none⟩) (by rw [H])];exact q)
 have p1:IntKind.i64.wrap (3 + (m:Int))=3 + (m:Int):=vR _ (by omega) (by omega);have p2:IntKind.i64.wrap (ws + (3 + (m:Int)))=ws + (3 + (m:Int)):=vR _ (by omega) (by omega);go_region_with (go_at_call 220;refine (QS.out _ (by rfl)).mono ?_;rintro e8 w8 ⟨rfl,rfl⟩;simp only [])
 all_goals
  go_wp2;go_end0
  exact ⟨rfl,(L.out.setCell d _).drew,S3.out.later bR.drew⟩
end
section
variable {Z:Nat->Prop} {sb K:Nat} {w w':World} {f V:Nat->Value} {X:Nat->List Value}
theorem eP {α:Type} (f:Nat->α) (k:Nat) (a b:α):upd (upd f k a) k b=upd f k b:=by funext j;unfold upd;split <;> simp_all
def dw (l:List Nat):List Value:=l.map fun (n:Nat)=>Value.int .i64 (n:Int)
theorem cZ (l:List Nat):(dw l).length=l.length:=by simp [dw]
theorem iK (l:List Nat) (i:Nat) (h:i < l.length):(dw l)[i]? = some (.int .i64 (l[i]:Nat)):=by simp [dw,h]
def oW (T:List Value):List Nat->List Value
 | []=>T
 | x :: r=>oW ((T.set x (.int .i64 0)).set (op x) (.int .i64 0)) r
theorem KM (T:List Value) (l:List Nat) (x:Nat):oW T (l ++ [x])=((oW T l).set x (.int .i64 0)).set (op x) (.int .i64 0):=by
 induction l generalizing T with
 | nil=>rfl
 | cons y r ih=>exact ih _
theorem xQ (T:List Value) (l:List Nat):(oW T l).length=T.length:=by
 induction l generalizing T with
 | nil=>rfl
 | cons y r ih=>rw [oW,ih];simp
def WS (Z:Nat->Prop) (sb:Nat) (w:World) (K:Nat) (f V:Nat->Value) (X:Nat->List Value) (tr:List Nat) (i28:Value) (wr:World):Prop:=
 ∃ i:Nat,i28=.int .i64 i/\i <= tr.length/\Hid (dQ Z sb wr K f V (upd X 3 (oW (X 3) (tr.take i)))/\dB Z w wr)
theorem UD (b:Nat) (h:dQ Z sb w K f V X) (hd:(X 2).length <= b) (j:b <= 1000):
  Calls Tryz.prog 177 #[.pointer (some ⟨sb,6,none⟩),.int .i64 b] w fun e w'=>e=.returned (.slice none 0 0)/\w'=w:=by
 have t:=h.hK;obtain ⟨o,m,g⟩:=h.eH.shape (k:=2) (by omega);have d:=(h.hd (k:=2) (by omega)).1;rw [show cellOf 2=8 from rfl,g] at d;have q:Hid (∀ Y:World,Y.heap=w.heap->Calls Tryz.prog 99 #[.pointer (some ⟨sb,6,none⟩)] Y fun e w'=>e=.returned (.int .i64 (X 2).length)/\w'=Y):=fun Y l=>ni sb 6 (X 2).length m Y o (by rw [show Y.cell? ⟨sb,6 + 2,none⟩=w.cell? ⟨sb,8,none⟩ from World.cell?_of_block (a:=⟨sb,8,none⟩) (by rw [l])];exact d)
 generalize (X 2).length=n at *
 have s:(n:Int) <= (b:Int):=by omega
 clear h g;go_enter Tryz.func177,Tryz.ntmps177
 go_wp2_with (go_at_call 99;refine (q.out _ (by rfl)).mono ?_;rintro u r ⟨rfl,rfl⟩)
 go_ret
 exact ⟨rfl,rfl⟩
def DU (Z:Nat->Prop) (sb:Nat) (w:World) (K:Nat) (f V:Nat->Value) (X:Nat->List Value) (tr ch:List Nat) (s d0:Nat) (e:Ending) (w':World):Prop:=
 ∃ g1 c1 g2 c2,V 1=.slice (some ⟨g1,0,none⟩) tr.length c1/\V 2=.slice (some ⟨g2,0,none⟩) ch.length c2/\e=.returned (.slice (some ⟨g1,s,none⟩) (tr.length - s) (c1 - s))/\dB Z w w'/\(∀ j (hj:j < tr.length),w'.cell? ⟨g1,j,none⟩=some (.int .i64 (tr[j]:Nat)))/\
  dQ Z sb w' K (upd (upd (upd f 6 (.slice (some ⟨g1,0,none⟩) s c1)) 8 (.slice (some ⟨g2,0,none⟩) d0 c2)) 7 (.int .i64 s)) (upd (upd V 1 (.slice (some ⟨g1,0,none⟩) s c1)) 2 (.slice (some ⟨g2,0,none⟩) d0 c2)) (upd (upd (upd X 3 (oW (X 3) (tr.drop s))) 1 (dw (tr.take s))) 2 (dw (ch.take d0)))
theorem Rb (b vars s:Nat) (tr ch:List Nat) (h:dQ Z sb w K f V X) (O:X 1=dw tr) (h2:X 2=dw ch) (hd:b < ch.length) (hs:ch[b]=s) (ac:s < tr.length) (h3:(X 3).length=2 * vars) (hl:∀ x ∈ tr,x < 2 * vars) (ab:vars <= 50) (hn:tr.length <= 1000) (hc:ch.length <= 1000):
  Calls Tryz.prog 177 #[.pointer (some ⟨sb,6,none⟩),.int .i64 b] w fun e w'=>DU Z sb w K f V X tr ch s b e w':=by
 have hK:=h.hK;have HS:=hide h;have L:(X 1).length=tr.length:=by rw [O,cZ]
 have n2:(X 2).length=ch.length:=by rw [h2,cZ]
 obtain ⟨g2,l,t2,e2,q2,r2,U,z2,b2,l2,m2⟩:=h.elem (k:=2) (j:=b) (by omega) n2 hd;rw [h2,iK ch b hd,hs] at U;obtain rfl:=Option.some.inj U;obtain ⟨g1,d,t1,Q,q1,r1,s1,z1,b1,l1,m1⟩:=h.elem (k:=1) (j:=s) (by omega) L ac;rw [show cellOf 1=6 from rfl] at q1;rw [show cellOf 2=8 from rfl] at q2;have QD:Hid (∀ Y:World,Y.heap=w.heap->Calls Tryz.prog 99 #[.pointer (some ⟨sb,6,none⟩)] Y fun e w'=>e=.returned (.int .i64 ch.length)/\w'=Y):=fun Y hY=>ni sb 6 ch.length l Y (some ⟨g2,0,none⟩) (by rw [show Y.cell? ⟨sb,6 + 2,none⟩=w.cell? ⟨sb,8,none⟩ from World.cell?_of_block (a:=⟨sb,8,none⟩) (by rw [hY])];exact q2)
 have ag:tr.length <= d:=by
  rcases (h.eH.own 1 (by omega)).2 with ⟨e,_⟩ | ⟨g,cap,ae,e,_,_,B,_⟩
  ·rw [Q] at e;cases e
  ·rw [Q] at e;obtain ⟨_,_,q⟩:=Value.slice.inj e;rw [L] at B;omega
 have hh:¬ ((ch.length:Int) <= (b:Int)):=by omega
 have d1:(0:Int) <= (b:Int):=by omega
 have d2:(b:Int) < (ch.length:Int):=by omega
 have k0:(0:Int) <= (s:Int):=by omega
 have k1:(s:Int) <= (tr.length:Int):=by omega
 have k2:(s:Int) <= (d:Int):=by omega
 have k3:¬ (d=s):=by omega
 have E1:=hide Q;have I:=hide e2;clear h e2 Q s1 U;go_enter Tryz.func177,Tryz.ntmps177
 go_wp2_with (go_at_call 99;refine (QD.out _ (by rfl)).mono ?_;rintro e7 J ⟨rfl,rfl⟩)
 have ao:=I;have LT:=hide hl;obtain ⟨u,N⟩:∃ u,u=tr.drop s:=⟨_,rfl⟩;have S:u.length=tr.length - s:=by rw [N];simp
 have ua:Hid (∀ i (h:i < u.length) (h':s + i < tr.length),u[i]=tr[s + i]):=fun i h h'=>by simp [N]
 rw [<- S,show decide (ch.length <= b)=false from decide_eq_false (by omega)];have UL:=hide S;have HU:=hide N;have um:u.length <= 1000:=by omega
 clear hh hl S N;go_loopw [8,28] (fun _ i wr=>WS Z sb J K f V X u i wr) (fun _ i _=>u.length - (intOf i).toNat)
 case atStart=>exact ⟨0,rfl,zl,by rw [List.take_zero,show oW (X 3) []=X 3 from rfl,upd_same];exact ⟨HS.out,dB.refl _⟩⟩
 case round=>
  obtain ⟨i,rfl,an,T⟩:=hrel;by_cases D:i < u.length
  ·have o:s + i < tr.length:=by have:=UL.out;omega
   have E:=(T.out.1.eH.cell (k:=1) (by omega) E1.out (j:=s + i) (by rw [cu _ _ (by decide),L];exact o)).1;rw [cu _ _ (by decide),O,iK tr (s + i) o,<- ua.out i D o] at E;have hx:u[i] < 2 * vars:=by rw [ua.out i D o];exact LT.out _ (List.getElem_mem _)
   have NX:Hid (oW (X 3) (u.take (i + 1))=((oW (X 3) (u.take i)).set u[i] (.int .i64 0)).set (op u[i]) (.int .i64 0)):=by
    unfold Hid;rw [List.take_add_one,List.getElem?_eq_getElem D,Option.toList_some,KM]
   have A3:((upd X 3 (oW (X 3) (u.take i))) 3).length=2 * vars:=by rw [cz,xQ];exact h3
   obtain ⟨x,M⟩:∃ x,u[i]=x:=⟨_,rfl⟩;rw [M] at E hx NX;obtain ⟨g3,c3,t3,e3,q3,r3,_,z3,b3,l3,m3⟩:=T.out.1.elem (k:=3) (j:=x) (by omega) A3 hx;rw [show cellOf 3=9 from rfl] at q3;have R:=hide (T.out.1.set (k:=3) (by omega) e3 x (.int .i64 0));rw [cz,eP] at R;have B1:Hid (dB Z J (wr.setCell ⟨g3,x,none⟩ (.int .i64 0))):=T.out.2.setCell b3 _;have i0:(0:Int) <= (i:Int):=by omega
   have i1:(i:Int) < (u.length:Int):=by omega
   have x0:(0:Int) <= (x:Int):=by omega
   have x1:(x:Int) < ((2 * vars:Nat):Int):=by omega
   clear e3 M;go_upto_region 9 with fail
   generalize ad:wr.setCell ⟨g3,x,none⟩ (.int .i64 0)=W2 at R B1 ⊢;clear ad q3 r3 z3 l3 m3 E;have aa:op x < 2 * vars:=by unfold op;split <;> omega
   have A4:((upd X 3 ((oW (X 3) (u.take i)).set x (.int .i64 0))) 3).length=2 * vars:=by rw [cz,List.length_set,xQ];exact h3
   obtain ⟨g4,c4,t4,e4,q4,r4,_,z4,b4,l4,m4⟩:=R.out.elem (k:=3) (j:=op x) (by omega) A4 aa;rw [show cellOf 3=9 from rfl] at q4;have S2:=hide (R.out.set (k:=3) (by omega) e4 (op x) (.int .i64 0));rw [cz,eP,<- NX.out] at S2;have QO:=hide (fun Y=>kE x Y (by omega));have o0:(0:Int) <= ((op x:Nat):Int):=by omega
   have o1:((op x:Nat):Int) < ((2 * vars:Nat):Int):=by omega
   clear e4 NX;generalize op x=ox at *
   have T2:Hid (dQ Z sb (W2.setCell ⟨g4,ox,none⟩ (.int .i64 0)).drew K f V (upd X 3 (oW (X 3) (u.take (i + 1))))/\dB Z J (W2.setCell ⟨g4,ox,none⟩ (.int .i64 0)).drew):=⟨S2.out.later bR.drew,(B1.out.setCell b4 _).drew⟩;go_region_with (go_at_call 139;refine (QO.out _).mono ?_;rintro e8 w8 ⟨rfl,rfl⟩;simp only [])
   all_goals
    go_wp2;go_roundw
    case rel=>exact ⟨i + 1,by go_num,by omega,T2⟩
    case measure=>simp [intOf];omega
  ·have ei:i=u.length:=by omega
   have H:=hide T.out.1;have B0:=hide T.out.2;rw [ei,List.take_length,HU.out] at H;have r:=E1.out;have z:Hid (dQ Z sb (wr.setCell ⟨sb,6,none⟩ (.slice (some ⟨g1,0,none⟩) s d)) K (upd f 6 (.slice (some ⟨g1,0,none⟩) s d)) (upd V 1 (.slice (some ⟨g1,0,none⟩) s d)) (upd (upd X 3 (oW (X 3) (tr.drop s))) 1 (dw (tr.take s)))):=by
    have t:=H.out.cut (k:=1) (m:=s) (by omega) r (by rw [cu _ _ (by decide),L];omega);rw [cu X _ (by decide:(1:Nat) ≠ 3),O,show (dw tr).take s=dw (tr.take s) by unfold dw;rw [List.map_take]] at t;exact t
   have y:Hid (dQ Z sb ((wr.setCell ⟨sb,6,none⟩ (.slice (some ⟨g1,0,none⟩) s d)).setCell ⟨sb,8,none⟩ (.slice (some ⟨g2,0,none⟩) b l)) K (upd (upd f 6 (.slice (some ⟨g1,0,none⟩) s d)) 8 (.slice (some ⟨g2,0,none⟩) b l)) (upd (upd V 1 (.slice (some ⟨g1,0,none⟩) s d)) 2 (.slice (some ⟨g2,0,none⟩) b l)) (upd (upd (upd X 3 (oW (X 3) (tr.drop s))) 1 (dw (tr.take s))) 2 (dw (ch.take b)))):=by
    have t:=z.out.cut (k:=2) (m:=b) (a:=some ⟨g2,0,none⟩) (n:=ch.length) (cap:=l) (by omega) (by rw [cu _ _ (by decide)];exact I.out) (by rw [cu _ _ (by decide),cu _ _ (by decide),n2];omega);rw [cu _ _ (by decide:(2:Nat) ≠ 1),cu X _ (by decide:(2:Nat) ≠ 3),h2,show (dw ch).take b=dw (ch.take b) by unfold dw;rw [List.map_take]] at t;exact t
   have v:=hide (y.out.scalar 7 (.int .i64 s) (by decide +kernel));have CL:Hid (∀ j (hj:j < tr.length),(((wr.setCell ⟨sb,6,none⟩ (.slice (some ⟨g1,0,none⟩) s d)).setCell ⟨sb,8,none⟩ (.slice (some ⟨g2,0,none⟩) b l)).setCell ⟨sb,7,none⟩ (.int .i64 s)).cell? ⟨g1,j,none⟩=some (.int .i64 (tr[j]:Nat))):=fun j hj=>by
    rw [World.cell?_setCell_far _ _ _ _ (by simpa using fun e=>m1 e.symm),World.cell?_setCell_far _ _ _ _ (by simpa using fun e=>m1 e.symm),World.cell?_setCell_far _ _ _ _ (by simpa using fun e=>m1 e.symm)];have t:=(H.out.eH.cell (k:=1) (by omega) r (j:=j) (by rw [cu _ _ (by decide),L];exact hj)).1;rw [cu _ _ (by decide),O,iK tr j hj] at t;exact t
   have G:=HS.out.jf;have BF:Hid (dB Z J (((wr.setCell ⟨sb,6,none⟩ (.slice (some ⟨g1,0,none⟩) s d)).setCell ⟨sb,8,none⟩ (.slice (some ⟨g2,0,none⟩) b l)).setCell ⟨sb,7,none⟩ (.int .i64 s))):=((B0.out.setCell G _).setCell G _).setCell G _;have y1:=(H.out.hd (k:=1) (by omega));have y2:=(H.out.hd (k:=2) (by omega));rw [show cellOf 1=6 from rfl,r] at y1;rw [show cellOf 2=8 from rfl,I.out] at y2;obtain ⟨am,al⟩:=y1;obtain ⟨ak,aj⟩:=y2;obtain ⟨ai,ah⟩:=H.out.head 7 (by omega);have af:ch.length <= l:=by
    rcases (HS.out.eH.own 2 (by omega)).2 with ⟨e,_⟩ | ⟨g,cap,ae,e,_,_,B,_⟩
    ·rw [I.out] at e;cases e
    ·rw [I.out] at e;obtain ⟨_,_,q⟩:=Value.slice.inj e;rw [n2] at B;omega
   have dc:(b:Int) <= (l:Int):=by omega
   subst ei;clear r;have FE:Hid (DU Z sb J K f V X tr ch s b (.returned (.slice (some ⟨g1,s,none⟩) (tr.length - s) (d - s))) (((wr.setCell ⟨sb,6,none⟩ (.slice (some ⟨g1,0,none⟩) s d)).setCell ⟨sb,8,none⟩ (.slice (some ⟨g2,0,none⟩) b l)).setCell ⟨sb,7,none⟩ (.int .i64 s))):=
    ⟨g1,d,g2,l,E1.out,I.out,rfl,BF.out,CL.out,v.out⟩
   rw [<- UL.out] at FE;clear CL BF z y v H B0;go_wp2;go_ret;exact FE.out
end
section
variable {Z:Nat->Prop} {sb K:Nat} {w w':World} {f V:Nat->Value} {X:Nat->List Value}
theorem dQ.U2 (h:dQ Z sb w K f V X) {k:Nat} (t:k < 13) {v':Value} {w6:World} {m:Nat} {news:List Value} (s:news.length=m) (A:dz w 0 (kM k) 1 (V k) (X k).length (X k) m news v' w6):
  dQ Z sb (w6.setCell ⟨sb,cellOf k,none⟩ v') K (upd f (cellOf k) v') (upd V k v') (upd X k (X k ++ news))/\dB Z w (w6.setCell ⟨sb,cellOf k,none⟩ v')/\∀ j,j < 22->w6.cell? ⟨sb,j,none⟩=some (f j)/\w6.frozen? ⟨sb,j,none⟩=false:=by
 have d:k < K:=by have:=h.hK;omega
 have r:=h.row.lt;have q:=h.row.of_block (A.grew.block sb r (fun e=>h.far d sb e.symm rfl));refine ⟨h.header t q (h.eH.push d s A) rfl (fun i o g b=>?_) A.grew.size (fun i o g b=>?_),((dB.refl w).grown A.grew (fun g b=>h.al k d g b)).setCell h.jf _,fun j u=>⟨q.cell u,q.frozen j⟩⟩
 ·by_cases e:i=k
  ·subst e;rw [cz] at b
   rcases A.at' with l | l
   ·rw [l] at b;exact h.far o g b
   ·rw [l] at b;have:=Option.some.inj b;omega
  ·rw [cu _ _ e] at b;exact h.far o g b
 ·by_cases e:i=k
  ·subst e;rw [cz] at b
   rcases A.at' with l | l
   ·rw [l] at b;exact h.al i o g b
   ·rw [l] at b;have:=Option.some.inj b;exact h.az g (by omega)
  ·rw [cu _ _ e] at b;exact h.al i o g b
def Nq (sb:Nat) (V0:Value) (w:World) (v:Value) (c:List Nat):Prop:=∃ (a:Option Addr) (cp bs off:Nat),v=.slice a c.length cp/\(a=none->cp=0)/\(0 < c.length->a=some ⟨bs,off,none⟩/\bs < w.heap.size/\bs ≠ sb/\V0.ownBlock ≠ some bs/\∀ j (hj:j < c.length),w.cell? ⟨bs,off + j,none⟩=some (.int .i64 (c[j]:Nat)))
theorem Ha (c:List Nat) (b:Nat) (l:Int) (v:Value) (h:dQ Z sb w K f V X) (hL:Nq sb (V 0) w v c) (hc:c.length <= 1000) (hk:b <= 2) (hn:(X 0).length <= 1099511627776) (hl:f 3=.int .i64 l) (l0:0 <= l) (l1:l <= 4611686018427387904):
  Calls Tryz.prog 132 #[.pointer (some ⟨sb,2,none⟩),v,.int .i64 b] w fun e w'=>e=.returned (.int .i64 (X 0).length)/\dB Z w w'/\∃ v',dQ Z sb w' K (upd (upd f 2 v') 3 (.int .i64 (if b=1 then l + 1 else l))) (upd V 0 v') (upd X 0 (X 0 ++ dw (c.length :: b :: 0 :: c))):=by
 obtain ⟨i0,hi,L,J,I⟩:=info_parts Tryz.fO;obtain ⟨a,Y,s,off,rfl,ae,hL⟩:=hL;have R:=hide h;have HL:=hide hL;have hK:=h.hK;obtain ⟨a0,c0,U⟩:=h.eH.shape (k:=0) (by omega);have G:=(h.hd (k:=0) (by omega)).1;rw [show cellOf 0=2 from rfl,U] at G;have O0:Hid (w.ownsRow 0 3 1 (.slice a0 (X 0).length c0) (X 0).length (X 0)):=by
  have:=h.eH.own 0 (by omega);rw [U] at this;exact this
 have E0:=hide U;have al:=h.row.lt;have ns:¬ (sb=w.heap.size):=by omega
 clear h U hL;go_enter Tryz.func132,Tryz.ntmps132
 go_wp2_with (at_builtin;refine dR _ rfl _ _ 43 rfl 0 3 i0 (.int .i64 0) 1 8 Tryz.underlying43 hi L J I rfl (by decide) _ _ _ rfl (O0.out.alloc (.cells #[.int .i64 (c.length:Int),.int .i64 (b:Int),.int .i64 0] 3)) (.slice (some ⟨w.heap.size,0,none⟩) 3 3) 3 [.int .i64 (c.length:Int),.int .i64 (b:Int),.int .i64 0] rfl (.inr ⟨⟨w.heap.size,0,none⟩,3,rfl,World.news_of_block (cs:=#[.int .i64 (c.length:Int),.int .i64 (b:Int),.int .i64 0]) (t:=3) (fr:=(0,0)) (heap_alloc_new w _)⟩) rfl (by simp [Value.oneCell']) (by unfold maxLen;omega) (by omega) zl ?_)
 intro S w6 A6;have D:dz (w.alloc (.cells #[.int .i64 (c.length:Int),.int .i64 (b:Int),.int .i64 0] 3)) 0 (kM 0) 1 (V 0) (X 0).length (X 0) 3 [.int .i64 (c.length:Int),.int .i64 (b:Int),.int .i64 0] S w6:=by rw [E0.out];exact A6
 have B:=hide (R.out.push (k:=0) (m:=3) (news:=[.int .i64 (c.length:Int),.int .i64 (b:Int),.int .i64 0]) (by omega) rfl D);have B6:=hide (R.out.nO (k:=0) (by omega) D 2 S);have g6:=(R.out.jQ (k:=0) (by omega) D 2 (by omega)).1;have z6:=(R.out.jQ (k:=0) (by omega) D 2 (by omega)).2;have C6:Hid (0 < c.length->∀ j (M:j < c.length),(w6.setCell ⟨sb,2,none⟩ S).cell? ⟨s,off + j,none⟩=some (.int .i64 (c[j]:Nat))):=fun E j M=>by
  obtain ⟨_,h2,N,h4,h5⟩:=HL.out E;rw [World.cell?_setCell_far _ _ _ _ (by simpa using fun e=>N e.symm),World.cell?_of_block (w:=w) (a:=⟨s,off + j,none⟩) ((D.grew.block s (by simp;omega) (fun e=>h4 e.symm)).trans (Below.heap_alloc w _ s h2))];exact h5 j M
 have V6:Hid (S.ownBlock=some s->0 < c.length->False):=fun e E=>by
  obtain ⟨_,h2,N,h4,h5⟩:=HL.out E
  rcases D.at' with h1 | h1
  ·rw [h1] at e;exact h4 e
  ·rw [h1] at e;have:=Option.some.inj e;simp at this;omega
 obtain ⟨z,x,ac⟩:=dH A6.own;subst ac;rw [show cellOf 0=2 from rfl] at B;clear A6 D G O0;go_upto_region 3 with fail
 generalize ag:w6.setCell ⟨sb,2,none⟩ (.slice z ((X 0).length + 3) x)=W1 at B B6 C6 ⊢;clear ag g6 z6;obtain ⟨d,r⟩:∃ l,l=X 0 ++ [.int .i64 (c.length:Int),.int .i64 (b:Int),.int .i64 0]:=⟨_,rfl⟩;have H:d.length=(X 0).length + 3:=by rw [r];simp
 rw [<- r] at B;have G:=(B.out.hd (k:=0) (by omega)).1;rw [show cellOf 0=2 from rfl,cz,<- H] at G;have O1:Hid (W1.ownsRow 0 3 1 (.slice z d.length x) d.length d):=by
  have:=B.out.eH.own 0 (by omega);rw [cz,cz,<- H] at this;exact this
 have O:Hid (Src W1 (.slice a c.length Y) c.length (dw c)):=by
  unfold Hid Src
  rcases Nat.eq_zero_or_pos c.length with e | E
  ·have cn:c=[]:=List.eq_nil_of_length_eq_zero e;subst cn
   cases a with
   | none=>exact .inl ⟨by rw [ae rfl];rfl,rfl,rfl⟩
   | some ad=>exact .inr ⟨ad,Y,rfl,fun j u q=>by simp [dw] at q⟩
  ·refine .inr ?_;obtain ⟨ha,_⟩:=HL.out E;refine ⟨⟨s,off,none⟩,Y,by rw [ha],fun j u q=>?_⟩;have M:j < c.length:=by
    rcases Nat.lt_or_ge j c.length with h | h
    ·exact h
    ·rw [List.getElem?_eq_none (by rw [cZ];exact h)] at q;cases q
   rw [iK c j M] at q;obtain rfl:=Option.some.inj q;rw [show (Addr.add ⟨s,off,none⟩ j:Addr)=⟨s,off + j,none⟩ by simp [Addr.add]];exact C6.out E j M
 have ai:=hide r;have NL:=hide H;have ak:d.length <= 1099511627779:=by omega
 have ah:(dw c).length=c.length * 1:=by rw [cZ];omega
 have one:∀ u ∈ dw c,u.oneCell'=true:=fun u q=>by
  unfold dw at q;obtain ⟨y,_,rfl⟩:=List.mem_map.1 q;rfl
 rw [<- H] at B ⊢;clear r H;go_wp2_with (at_builtin;refine dR _ rfl _ _ 43 rfl 0 3 i0 (.int .i64 0) 1 8 Tryz.underlying43 hi L J I rfl (by decide) _ _ _ rfl O1.out (.slice a c.length Y) c.length (dw c) rfl O.out ah one (by unfold maxLen;omega) (by omega) zl ?_)
 intro v8 w8 A8;have A9:dz W1 0 (kM 0) 1 ((upd V 0 (.slice z d.length x)) 0) ((upd X 0 d) 0).length ((upd X 0 d) 0) c.length (dw c) v8 w8:=by rw [cz,cz];exact A8
 obtain ⟨s8,b8,c8⟩:=B.out.U2 (k:=0) (by omega) (cZ c) A9;rw [show cellOf 0=2 from rfl] at s8 b8;have Q:=hide s8;have B8:=hide (B6.out.trans b8);obtain ⟨g8,z8⟩:=c8 2 (by omega);obtain ⟨o,g,ab⟩:=dH A8.own;subst ab;clear s8 b8 c8 A8 A9 G O1 O;go_upto_region 4 with fail
 generalize af:w8.setCell ⟨sb,2,none⟩ (.slice o (d.length + c.length) g)=W2 at Q B8 ⊢;clear af g8 z8;have FX:Hid ((upd (upd X 0 d) 0 ((upd X 0 d) 0 ++ dw c))=upd X 0 (X 0 ++ dw (c.length :: b :: 0 :: c))):=by
  unfold Hid;rw [cz,eP,ai.out,List.append_assoc];rfl
 rw [FX.out,eP,eP] at Q;obtain ⟨aa,aj⟩:=Q.out.head 3 (by omega);rw [cu _ _ (by decide),hl] at aa;by_cases k1:b=1
 ·subst k1;have S9:=hide (Q.out.scalar 3 (.int .i64 (l + 1)) (by decide +kernel));have B9:Hid (dB Z w (W2.setCell ⟨sb,3,none⟩ (.int .i64 (l + 1)))):=B8.out.setCell R.out.jf _;go_wp2;go_ret;exact ⟨rfl,B9.out,_,S9.out⟩
 ·have kb:((b:Int) == 1)=false:=by simp;omega
  have S9:Hid (dQ Z sb W2 K (upd (upd f 2 (.slice o (d.length + c.length) g)) 3 (.int .i64 l)) (upd V 0 (.slice o (d.length + c.length) g)) (upd X 0 (X 0 ++ dw (c.length :: b :: 0 :: c)))):=by
   have e:upd (upd f 2 (.slice o (d.length + c.length) g)) 3 (.int .i64 l)=upd f 2 (.slice o (d.length + c.length) g):=by
    funext j;unfold upd
    by_cases N:j=3
    ·subst N;simp [hl]
    ·simp [N]
   rw [e];exact Q.out
  go_wp2;go_ret
  exact ⟨rfl,B8.out,_,S9.out⟩
end
end
section
open Rd
def By (tr:List Nat) (rs:Nat->Option (List Nat)) (p:Nat->Prop) (i:Nat):Prop:=∃ h:i < tr.length,∃ c r,rs (tr[i] / 2)=some c/\c=tr[i] :: r/\∀ y ∈ r,p (y / 2)
structure JD (tr:List Nat) (rs:Nat->Option (List Nat)) (lev:Nat->Nat) (last:Nat) (c0:List Nat) (seen fol:Nat->Prop) (iu:Nat) (kept:List Nat):Prop where
 hiu:iu < tr.length
 first:∀ y ∈ c0,lev (y / 2)=0\/seen (y / 2)
 behind:∀ i (h:i < tr.length),iu < i->seen (tr[i] / 2)->By tr rs (fun v=>lev v=0\/seen v) i
 low:∀ i (h:i < tr.length),last <= i->i < iu->¬ seen (tr[i] / 2)
 Xy:last <= iu
 follows:∀ i (h:i < tr.length),i < last->fol (tr[i] / 2)->seen (tr[i] / 2)\/By tr rs fol i
 U8:∀ i (h:i < tr.length),i < last->seen (tr[i] / 2)->op tr[i] ∈ kept\/By tr rs fol i
 zero:∀ i (h:i < tr.length),lev (tr[i] / 2)=0->By tr rs (fun v=>lev v=0) i
 Gj:∀ v,fol v->∃ i,∃ h:i < tr.length,i < last/\tr[i] / 2=v
theorem By.mono {tr:List Nat} {d:Nat->Option (List Nat)} {p q:Nat->Prop} {i:Nat} (h:By tr d p i) (b:∀ v,p v->q v):By tr d q i:=by
 obtain ⟨g,c,r,l,k,j⟩:=h;exact ⟨g,c,r,l,k,fun y e=>b _ (j y e)⟩
theorem JD.conf {L:List Cl} {tr:List Nat} {k:Nat->Option (List Nat)} {lev:Nat->Nat} {last:Nat} {t:List Nat} {seen fol:Nat->Prop} {l:Nat} {kept:List Nat} (H:JD tr k lev last t seen fol l kept) (T:Trail L tr k) (E:There L t) (B:∀ y ∈ t,op y ∈ tr):
  jk L (((tr[l]'H.hiu) :: kept.map op).map wr):=by
 refine yQ (N:=fun v=>lev v=0\/seen v\/fol v) T (fun i h D=>?_) E B (fun y x=>(H.first y x).imp id .inl);have fin:By tr k (fun v=>lev v=0\/seen v\/fol v) i->tr[i] ∈ (tr[l]'H.hiu) :: kept.map op\/∃ c r,k (tr[i] / 2)=some c/\c=tr[i] :: r/\∀ y ∈ r,(lev (y / 2)=0\/seen (y / 2)\/fol (y / 2)):=fun q=>by
  obtain ⟨_,r⟩:=q;exact .inr r
 have early:i < last->seen (tr[i] / 2)\/fol (tr[i] / 2)->tr[i] ∈ (tr[l]'H.hiu) :: kept.map op\/∃ c r,k (tr[i] / 2)=some c/\c=tr[i] :: r/\∀ y ∈ r,(lev (y / 2)=0\/seen (y / 2)\/fol (y / 2)):=fun m b=>by
  have o:seen (tr[i] / 2)->tr[i] ∈ (tr[l]'H.hiu) :: kept.map op\/∃ c r,k (tr[i] / 2)=some c/\c=tr[i] :: r/\∀ y ∈ r,(lev (y / 2)=0\/seen (y / 2)\/fol (y / 2)):=fun b=>by
   rcases H.U8 i h m b with z | q
   ·exact .inl (List.mem_cons_of_mem _ (List.mem_map.2 ⟨_,z,ko _⟩))
   ·exact fin (q.mono fun v d=>.inr (.inr d))
  rcases b with b | b
  ·exact o b
  ·rcases H.follows i h m b with b | q
   ·exact o b
   ·exact fin (q.mono fun v d=>.inr (.inr d))
 rcases D with u | b | b
 ·exact fin ((H.zero i h u).mono fun v d=>.inl d)
 ·rcases Nat.lt_or_ge i last with m | m
  ·exact early m (.inl b)
  ·rcases Nat.lt_trichotomy i l with g | g | g
   ·exact absurd b (H.low i h m g)
   ·subst g;exact .inl (List.mem_cons_self ..)
   ·exact fin ((H.behind i h g b).mono fun v d=>d.imp id .inl)
 ·obtain ⟨j,A,s,e⟩:=H.Gj _ b;have:j=i:=by
   have g:(tr.map (· / 2))[j]'(by simpa using A)=(tr.map (· / 2))[i]'(by simpa using h):=by simpa using e
   exact (List.getElem_inj T.nodup).1 g
  subst this;exact early s (.inr b)
end
def gM:Nat->List Bool->Nat
 | 0,_=>0
 | _ + 1,[]=>0
 | n + 1,b :: r=>(if b then 2 ^ n else 0) + gM n r
theorem EG (n:Nat):gM n []=0:=by cases n <;> rfl
theorem CE:∀ (n:Nat) (l:List Bool),gM n l < 2 ^ n
 | 0,_=>by simp [gM]
 | n + 1,[]=>by simp only [gM];exact Nat.pos_of_ne_zero (by simp)
 | n + 1,b :: r=>by
  have:=CE n r;simp only [gM];rw [Nat.pow_succ];cases b <;> simp <;> omega
theorem sP:∀ (n:Nat) (l:List Bool),gM n (l ++ [false])=gM n l
 | 0,l=>rfl
 | n + 1,[]=>by simp [gM,EG]
 | n + 1,b :: r=>by
  simp only [List.cons_append,gM];rw [sP n r]
theorem uZ:∀ (n:Nat) (p r:List Bool),p.length < n->gM n (p ++ false :: r) < gM n (p ++ [true])
 | 0,p,r,h=>by simp at h
 | n + 1,[],r,h=>by
  have:=CE n r;simp only [List.nil_append,gM,EG];simp;omega
 | n + 1,b :: p,r,h=>by
  have:=uZ n p r (by simpa using h);simp only [List.cons_append,gM];omega
theorem Lr (n:Nat) (l:List Bool) (h:l.length < n):gM n l < gM n (l ++ [true]):=by
 have b:=uZ n l [] h;rw [sP] at b;exact b
def bits (len:Nat) (ch:List Nat):List Bool:=(List.range len).map fun p=>!ch.contains p
theorem zC (len:Nat) (ch:List Nat):(bits len ch).length=len:=by simp [bits]
theorem wL {len:Nat} {ch:List Nat} (h:∀ p ∈ ch,p < len):bits (len + 1) ch=bits len ch ++ [true]:=by
 unfold bits;rw [List.range_succ,List.map_append]
 congr 1
 have:¬ len ∈ ch:=fun b=>by have:=h len b;omega
 simp [this]
theorem GV {len:Nat} {ch:List Nat} (h:∀ p ∈ ch,p < len):bits (len + 1) (ch ++ [len])=bits len ch ++ [false]:=by
 unfold bits;rw [List.range_succ,List.map_append]
 congr 1
 ·apply List.map_congr_left
  intro p b;have b:=List.mem_range.1 b;have:p ≠ len:=by omega
  simp [List.contains_eq_mem,this]
 ·simp
def Hu (ch:List Nat) (len:Nat):Prop:=ch.Pairwise (· < ·)/\∀ p ∈ ch,p < len
theorem Nj {len:Nat} {ch:List Nat} (h:Hu ch len) {d:Nat} (hd:d < ch.length):∃ r,bits len ch=bits ch[d] (ch.take d) ++ false :: r:=by
 have o:ch[d] < len:=h.2 _ (List.getElem_mem hd);refine ⟨((List.range len).drop (ch[d] + 1)).map fun p=>!ch.contains p,?_⟩;unfold bits;have e:List.range len=List.range ch[d] ++ ch[d] :: (List.range len).drop (ch[d] + 1):=by
  refine List.ext_getElem? fun i=>?_
  rcases Nat.lt_trichotomy i ch[d] with b | b | b
  ·rw [List.getElem?_append_left (by simpa using b),List.getElem?_range b,List.getElem?_range (by omega)]
  ·rw [b,List.getElem?_append_right (by simp)];simp [o]
  ·rw [List.getElem?_append_right (by simp;omega)];simp only [List.length_range];obtain ⟨k,q⟩:∃ k,i - ch[d]=k + 1:=⟨i - ch[d] - 1,by omega⟩;rw [q,List.getElem?_cons_succ,List.getElem?_drop]
   congr 1;omega
 conv=>lhs;rw [e]
 rw [List.map_append,List.map_cons];have pw:=h.1
 congr 1
 ·apply List.map_congr_left
  intro p m;have m:=List.mem_range.1 m
  congr 1
  rw [List.contains_eq_mem,List.contains_eq_mem];apply decide_eq_decide.2;constructor
  ·intro g;obtain ⟨j,s,rfl⟩:=List.mem_iff_getElem.1 g;refine List.mem_iff_getElem.2 ⟨j,?_,List.getElem_take⟩;rw [List.length_take]
   rcases Nat.lt_or_ge j d with b | b
   ·omega
   ·rcases Nat.eq_or_lt_of_le b with l | l
    ·subst l;omega
    ·have:=List.pairwise_iff_getElem.1 pw d j hd s l;omega
  ·exact fun g=>List.mem_of_mem_take g
 ·have:ch.contains ch[d]=true:=by rw [List.contains_iff_mem];exact List.getElem_mem hd
  rw [this];rfl
theorem IE {n len:Nat} {ch:List Nat} (h:Hu ch len) {d:Nat} (hd:d < ch.length) (l:len <= n):gM n (bits len ch) < gM n (bits (ch[d] + 1) (ch.take d)):=by
 obtain ⟨r,e⟩:=Nj h hd;have k:ch[d] < len:=h.2 _ (List.getElem_mem hd);rw [e,wL (fun p b=>by
  obtain ⟨j,g,rfl⟩:=List.mem_iff_getElem.1 b;rw [List.length_take] at g;rw [List.getElem_take];exact List.pairwise_iff_getElem.1 h.1 j d (by omega) hd (by omega))]
 exact uZ n _ _ (by rw [zC];omega)
section
structure xw where
 kind:Nat
 lits:List Nat
abbrev iQ:Type:=Nat->Option xw
def cnt (ch:List Nat) (i:Nat):Nat:=(ch.filter fun p=>decide (p <= i)).length
structure jh (n:Nat) (tr ch:List Nat) (lev:Nat->Nat):Prop where
 lt:∀ x ∈ tr,x < 2 * n
 nodup:(tr.map (· / 2)).Nodup
 iC:Hu ch tr.length
 lev:∀ (i:Nat) (h:i < tr.length),lev (tr[i] / 2)=cnt ch i
def tv (tr:List Nat) (x:Nat):Int:=if x ∈ tr then 1 else if op x ∈ tr then -1 else 0
variable {n:Nat} {tr ch:List Nat} {lev:Nat->Nat} {C:iQ} {rea:Nat->Int}
theorem jh.pQ (h:jh n tr ch lev) {i j:Nat} (hi:i < tr.length) (b:j < tr.length) (e:tr[i] / 2=tr[j] / 2):i=j:=by
 have d:(tr.map (· / 2))[i]'(by simpa using hi)=(tr.map (· / 2))[j]'(by simpa using b):=by simpa using e
 exact (List.getElem_inj h.nodup).1 d
theorem jh.nE (h:jh n tr ch lev) {x:Nat} (l:x ∈ tr) (k:op x ∈ tr):False:=by
 obtain ⟨i,g,d⟩:=List.mem_iff_getElem.1 l;obtain ⟨j,e,b⟩:=List.mem_iff_getElem.1 k;have:i=j:=h.pQ g e (by rw [d,b,gG]);subst this;rw [d] at b;exact J2 x b.symm
theorem Ci {x:Nat}:tv tr x=1↔x ∈ tr:=by
 unfold tv;split
 ·simp_all
 ·split <;> simp_all
theorem jh.oZ (h:jh n tr ch lev) {x:Nat}:tv tr x=-1↔op x ∈ tr:=by
 unfold tv;split
 ·rename_i d;exact ⟨fun e=>by omega,fun e=>(h.nE d e).elim⟩
 ·split
  ·rename_i b;exact ⟨fun _=>b,fun _=>rfl⟩
  ·rename_i b;exact ⟨fun e=>by omega,fun e=>absurd e b⟩
theorem tT {x:Nat}:tv tr x=0↔x ∉ tr/\op x ∉ tr:=by
 unfold tv;split
 ·simp_all
 ·split <;> simp_all
theorem Vt (x:Nat):tv [] x=0:=rfl
theorem wm {x:Nat} (h:x < 2 * n):op x < 2 * n:=by unfold op;split <;> omega
theorem Dy (ch:List Nat) (i:Nat):cnt ch i <= ch.length:=List.length_filter_le ..
theorem uI {ch:List Nat} {i:Nat} (h:∀ p ∈ ch,p <= i):cnt ch i=ch.length:=by
 unfold cnt;rw [List.filter_eq_self.2 (fun p b=>by simpa using h p b)]
theorem cnt_mono (ch:List Nat) {i j:Nat} (h:i <= j):cnt ch i <= cnt ch j:=by
 unfold cnt
 induction ch with
 | nil=>simp
 | cons p r ih=>
  simp only [List.filter_cons];by_cases d:p <= i
  ·have b:p <= j:=by omega
   simp only [d,b,decide_true,if_true,List.length_cons];omega
  ·simp only [d,decide_false];by_cases b:p <= j
   ·simp only [b,decide_true,if_true,List.length_cons];simp;omega
   ·simp only [b,decide_false];simpa using ih
theorem Jt (ch:List Nat) (q i:Nat):cnt (ch ++ [q]) i=cnt ch i + if q <= i then 1 else 0:=by
 unfold cnt;rw [List.filter_append,List.length_append];by_cases h:q <= i <;> simp [h]
theorem cnt_lt {ch:List Nat} {len:Nat} (h:Hu ch len) {d:Nat} (hd:d < ch.length) {i:Nat}:cnt ch i <= d↔i < ch[d]:=by
 have split:ch=ch.take d ++ ch[d] :: ch.drop (d + 1):=by
  rw [<- List.drop_eq_getElem_cons hd,List.take_append_drop]
 have pw:=h.1;have l:∀ p ∈ ch.take d,p < ch[d]:=fun p b=>by
  obtain ⟨j,g,rfl⟩:=List.mem_iff_getElem.1 b;rw [List.length_take] at g;rw [List.getElem_take];exact List.pairwise_iff_getElem.1 pw j d (by omega) hd (by omega)
 have m:∀ p ∈ ch.drop (d + 1),ch[d] < p:=fun p b=>by
  obtain ⟨j,g,rfl⟩:=List.mem_iff_getElem.1 b;rw [List.length_drop] at g;rw [List.getElem_drop];exact List.pairwise_iff_getElem.1 pw d _ hd (by omega) (by omega)
 have e:cnt ch i=cnt (ch.take d) i + ((if ch[d] <= i then 1 else 0) + cnt (ch.drop (d + 1)) i):=by
  unfold cnt
  conv=>lhs;rw [split]
  rw [List.filter_append,List.length_append,List.filter_cons];by_cases h:ch[d] <= i
  ·simp only [h,decide_true,if_true,List.length_cons];omega
  ·simp only [h,decide_false];simp
 constructor
 ·intro o
  rcases Nat.lt_or_ge i ch[d] with k | k
  ·exact k
  ·have:cnt (ch.take d) i=d:=by
    rw [uI (fun p b=>by have:=l p b;omega),List.length_take];omega
   rw [this,if_pos k] at e;omega
 ·intro o;have z:cnt (ch.drop (d + 1)) i=0:=by
   unfold cnt;rw [List.length_eq_zero_iff,List.filter_eq_nil_iff];intro p b;have:=m p b;simp;omega
  have:=Dy (ch.take d) i;rw [List.length_take] at this;rw [z,if_neg (by omega)] at e;omega
def eF {α:Type} (f:Nat->α) (k:Nat) (a:α):Nat->α:=fun j=>if j=k then a else f j
theorem dE {α:Type} (f:Nat->α) (k:Nat) (a:α):eF f k a k=a:=by unfold eF;rw [if_pos rfl]
theorem df {α:Type} (f:Nat->α) {k j:Nat} (a:α) (h:j ≠ k):eF f k a j=f j:=by unfold eF;rw [if_neg h]
theorem ma {x y:Nat} (d:tv tr x=0) (b:y ∈ tr):y / 2 ≠ x / 2:=fun e=>by
 obtain ⟨h,g⟩:=tT.1 d
 rcases qH e with rfl | rfl
 ·exact h b
 ·exact g b
theorem KP {x:Nat} (d:tv tr x=0) (y:Nat):tv (tr ++ [x]) y=if y=x then 1 else if y=op x then -1 else tv tr y:=by
 obtain ⟨j,g⟩:=tT.1 d;unfold tv;by_cases e:y=x
 ·subst e;simp
 ·by_cases b:y=op x
  ·subst b;simp [g,J2,ko]
  ·have:op y ≠ x:=fun h=>b (by rw [<- h,ko])
   simp [e,b,this]
theorem jh.assign (h:jh n tr ch lev) {x:Nat} (q:x < 2 * n) (j:tv tr x=0):jh n (tr ++ [x]) ch (eF lev (x / 2) ch.length) where
 lt:=fun y d=>by
  rcases List.mem_append.1 d with d | d
  ·exact h.lt y d
  ·simp at d;omega
 nodup:=by
  rw [List.map_append];refine List.nodup_append.2 ⟨h.nodup,by simp,fun a m b k=>?_⟩;obtain ⟨y,d,rfl⟩:=List.mem_map.1 m;simp at k;subst k;exact ma j d
 iC:=⟨h.iC.1,fun p g=>by have:=h.iC.2 p g;simp;omega⟩
 lev:=fun i l=>by
  by_cases e:i < tr.length
  ·rw [List.getElem_append_left e,df _ _ (ma j (List.getElem_mem e)),h.lev i e]
  ·have o:i=tr.length:=by simp at l;omega
   subst o;rw [List.getElem_append_right lr];simp only [Nat.sub_self,List.getElem_cons_zero];rw [dE,uI (fun p g=>by have:=h.iC.2 p g;omega)]
theorem jh.choose (h:jh n tr ch lev) {x:Nat} (j:x < 2 * n) (g:tv tr x=0):jh n (tr ++ [x]) (ch ++ [tr.length]) (eF lev (x / 2) (ch.length + 1)) where
 lt:=(h.assign j g).lt
 nodup:=(h.assign j g).nodup
 iC:=by
  refine ⟨List.pairwise_append.2 ⟨h.iC.1,by simp,fun a m b k=>?_⟩,fun p d=>?_⟩
  ·simp at k;subst k;exact h.iC.2 a m
  ·rcases List.mem_append.1 d with d | d
   ·have:=h.iC.2 p d;simp;omega
   ·simp at d;subst d;simp
 lev:=fun i l=>by
  rw [Jt];by_cases e:i < tr.length
  ·rw [List.getElem_append_left e,df _ _ (ma g (List.getElem_mem e)),h.lev i e,if_neg (by omega),Nat.add_zero]
  ·have o:i=tr.length:=by simp at l;omega
   subst o;rw [List.getElem_append_right lr];simp only [Nat.sub_self,List.getElem_cons_zero];rw [dE,uI (fun p d=>by have:=h.iC.2 p d;omega),if_pos lr]
theorem BJ {len:Nat} (h:Hu ch len) {d:Nat} (hd:d < ch.length):Hu (ch.take d) ch[d]:=
 ⟨h.1.sublist (List.take_sublist ..),fun p b=>by
  obtain ⟨j,e,rfl⟩:=List.mem_iff_getElem.1 b;rw [List.length_take] at e;rw [List.getElem_take];exact List.pairwise_iff_getElem.1 h.1 j d (by omega) hd (by omega)⟩
theorem Qx {len:Nat} (h:Hu ch len) {d:Nat} (hd:d < ch.length) {i:Nat} (hi:i < ch[d]):cnt (ch.take d) i=cnt ch i:=by
 have e:ch=ch.take d ++ ch.drop d:=(List.take_append_drop d ch).symm;have z:∀ p ∈ ch.drop d,i < p:=fun p b=>by
  obtain ⟨j,k,rfl⟩:=List.mem_iff_getElem.1 b;rw [List.length_drop] at k;rw [List.getElem_drop]
  rcases Nat.eq_zero_or_pos j with g | g
  ·subst g;exact hi
  ·have:=List.pairwise_iff_getElem.1 h.1 d (d + j) hd (by omega) (by omega);omega
 unfold cnt
 conv=>rhs;rw [e]
 rw [List.filter_append,List.length_append];have:(ch.drop d).filter (fun p=>decide (p <= i))=[]:=by
  rw [List.filter_eq_nil_iff];intro p b;have:=z p b;simp;omega
 rw [this];simp
theorem jh.back (h:jh n tr ch lev) {d:Nat} (hd:d < ch.length):jh n (tr.take ch[d]) (ch.take d) lev where
 lt:=fun x b=>h.lt x (List.mem_of_mem_take b)
 nodup:=by rw [List.map_take];exact h.nodup.sublist (List.take_sublist ..)
 iC:=by
  have:=BJ h.iC hd;have g:ch[d] < tr.length:=h.iC.2 _ (List.getElem_mem hd);rw [List.length_take,Nat.min_eq_left (by omega)];exact this
 lev:=fun i e=>by
  rw [List.length_take] at e;rw [List.getElem_take,h.lev i (by omega),Qx h.iC hd (by omega)]
def Why (C:iQ) (tr:List Nat) (rea:Nat->Int) (i:Nat) (h:i < tr.length):Prop:=∃ a c r,rea (tr[i] / 2)=(a:Nat)/\C a=some c/\c.kind ≠ 2/\c.lits=tr[i] :: r/\∀ y ∈ r,∃ j,∃ hj:j < tr.length,j < i/\tr[j]=op y
structure oP (C:iQ) (tr ch:List Nat) (rea:Nat->Int):Prop where
 Kv:∀ i (h:i < tr.length),i ∈ ch->rea (tr[i] / 2)=-1
 why:∀ i (h:i < tr.length),i ∉ ch->Why C tr rea i h
theorem xM {C:iQ} {tr:List Nat} {rea uo:Nat->Int} {x i:Nat} (h:i < tr.length) (u:i < (tr ++ [x]).length) (k:uo (tr[i] / 2)=rea (tr[i] / 2)) (g:Why C tr rea i h):Why C (tr ++ [x]) uo i u:=by
 obtain ⟨a,c,r,t,s,q,o,m⟩:=g;have e:(tr ++ [x])[i]=tr[i]:=List.getElem_append_left h;refine ⟨a,c,r,by rw [e,k];exact t,s,q,by rw [e];exact o,fun y d=>?_⟩;obtain ⟨j,l,b,v⟩:=m y d;exact ⟨j,by simp;omega,b,by rw [List.getElem_append_left l];exact v⟩
theorem oP.assign (h:oP C tr ch rea) (o:jh n tr ch lev) {x a:Nat} {c:xw} {r:List Nat} (g:tv tr x=0) (u:C a=some c) (s:c.kind ≠ 2) (q:c.lits=x :: r) (t:∀ y ∈ r,op y ∈ tr):oP C (tr ++ [x]) ch (eF rea (x / 2) (a:Nat)) where
 Kv:=fun i d b=>by
  have e:=o.iC.2 i b;rw [List.getElem_append_left e,df _ _ (ma g (List.getElem_mem e))];exact h.Kv i e b
 why:=fun i d b=>by
  by_cases e:i < tr.length
  ·exact xM e d (df _ _ (ma g (List.getElem_mem e))) (h.why i e b)
  ·have z:i=tr.length:=by simp at d;omega
   subst z;have l:(tr ++ [x])[tr.length]=x:=by rw [List.getElem_append_right lr];simp
   refine ⟨a,c,r,by rw [l,dE],u,s,by rw [l];exact q,fun y m=>?_⟩;obtain ⟨j,k,v⟩:=List.mem_iff_getElem.1 (t y m);exact ⟨j,by simp;omega,k,by rw [List.getElem_append_left k];exact v⟩
theorem oP.choose (h:oP C tr ch rea) (k:jh n tr ch lev) {x:Nat} (g:tv tr x=0):oP C (tr ++ [x]) (ch ++ [tr.length]) (eF rea (x / 2) (-1)) where
 Kv:=fun i d b=>by
  rcases List.mem_append.1 b with b | b
  ·have e:=k.iC.2 i b;rw [List.getElem_append_left e,df _ _ (ma g (List.getElem_mem e))];exact h.Kv i e b
  ·simp at b;subst b;rw [List.getElem_append_right lr];simp only [Nat.sub_self,List.getElem_cons_zero];exact dE ..
 why:=fun i d b=>by
  have e:i < tr.length:=by
   rcases Nat.lt_or_ge i tr.length with j | j
   ·exact j
   ·have:i=tr.length:=by simp at d;omega
    exact absurd (by simp [this]) b
  exact xM e d (df _ _ (ma g (List.getElem_mem e))) (h.why i e (fun l=>b (List.mem_append_left _ l)))
theorem oP.back (h:oP C tr ch rea) (t:jh n tr ch lev) {d:Nat} (hd:d < ch.length):oP C (tr.take ch[d]) (ch.take d) rea where
 Kv:=fun i m o=>by
  rw [List.length_take] at m;rw [List.getElem_take];exact h.Kv i (by omega) (List.mem_of_mem_take o)
 why:=fun i m o=>by
  rw [List.length_take] at m;have k:i ∉ ch:=fun u=>o (by
   obtain ⟨j,q,e⟩:=List.mem_iff_getElem.1 u;refine List.mem_iff_getElem.2 ⟨j,?_,by rw [List.getElem_take];exact e⟩;rw [List.length_take]
   rcases Nat.lt_or_ge j d with g | g
   ·omega
   ·have:ch[d] <= ch[j]:=by
     rcases Nat.eq_or_lt_of_le g with b | b
     ·subst b;exact lr
     ·exact Nat.le_of_lt (List.pairwise_iff_getElem.1 t.iC.1 d j hd q b)
    omega)
  obtain ⟨a,c,r,g,b,z,x,v⟩:=h.why i (by omega) k;refine ⟨a,c,r,by rw [List.getElem_take];exact g,b,z,by rw [List.getElem_take];exact x,fun y s=>?_⟩;obtain ⟨j,q,l,A⟩:=v y s;exact ⟨j,by rw [List.length_take];omega,l,by rw [List.getElem_take];exact A⟩
theorem oP.congr {C':iQ} (h:oP C tr ch rea) (s:∀ a c x r,C a=some c->c.kind ≠ 2->c.lits=x :: r->x ∈ tr->rea (x / 2)=(a:Nat)->∃ b,C' a=some b/\b.kind ≠ 2/\∃ d,b.lits=x :: d/\∀ y,y ∈ d->y ∈ r):oP C' tr ch rea where
 Kv:=h.Kv
 why:=fun i e q=>by
  obtain ⟨a,c,r,g,z,v,u,t⟩:=h.why i e q;obtain ⟨b,m,l,d,k,j⟩:=s a c _ r z v u (List.getElem_mem e) g;exact ⟨a,b,d,g,m,l,k,fun y o=>t y (j y o)⟩
def Aq (tr:List Nat) (lev:Nat->Nat) (P p q:Nat):Prop:=∀ i (h:i < tr.length),i < P->tr[i]=op p->q ∈ tr/\lev (q / 2) <= lev (p / 2)
def qA (C:iQ) (tr:List Nat) (lev:Nat->Nat) (P:Nat):Prop:=∀ a c p q r,C a=some c->c.kind ≠ 2->c.lits=p :: q :: r->Aq tr lev P p q/\Aq tr lev P q p
variable {P:Nat}
theorem qA.none (C:iQ) (tr:List Nat) (lev:Nat->Nat):qA C tr lev 0:=fun a c p q r _ _ _=>⟨fun i _ h=>by omega,fun i _ h=>by omega⟩
theorem Aq.assign {p q x v:Nat} (h:Aq tr lev P p q) (o:P <= tr.length) (d:tv tr x=0):Aq (tr ++ [x]) (eF lev (x / 2) v) P p q:=fun i m k e=>by
 have b:i < tr.length:=by omega
 rw [List.getElem_append_left b] at e;obtain ⟨g,l⟩:=h i b k e;refine ⟨List.mem_append_left _ g,?_⟩;have j:p / 2 ≠ x / 2:=by
  have:=ma d (List.getElem_mem b);rw [e,gG] at this;exact this
 rw [df _ _ (ma d g),df _ _ j];exact l
theorem qA.assign {x v:Nat} (h:qA C tr lev P) (d:P <= tr.length) (b:tv tr x=0):qA C (tr ++ [x]) (eF lev (x / 2) v) P:=fun a c p q r j g e=>
 ⟨(h a c p q r j g e).1.assign d b,(h a c p q r j g e).2.assign d b⟩
theorem Aq.back {p q:Nat} (h:Aq tr lev P p q) (g:jh n tr ch lev) {d:Nat} (hd:d < ch.length) (t:ch[d] <= P):Aq (tr.take ch[d]) lev ch[d] p q:=fun i o l e=>by
 rw [List.length_take] at o;rw [List.getElem_take] at e;have b:i < tr.length:=by omega
 obtain ⟨s,r⟩:=h i b (by omega) e;refine ⟨?_,r⟩;obtain ⟨j,m,k⟩:=List.mem_iff_getElem.1 s;have v:lev (p / 2)=cnt ch i:=by rw [<- g.lev i b,e,gG]
 have u:lev (q / 2)=cnt ch j:=by rw [<- g.lev j m,k]
 have y:cnt ch i <= d:=(cnt_lt g.iC hd).2 l;have x:j < ch[d]:=(cnt_lt g.iC hd).1 (by omega);exact List.mem_iff_getElem.2 ⟨j,by rw [List.length_take];omega,by rw [List.getElem_take];exact k⟩
theorem qA.back (h:qA C tr lev P) (b:jh n tr ch lev) {d:Nat} (hd:d < ch.length) (e:ch[d] <= P):qA C (tr.take ch[d]) lev ch[d]:=fun a c p q r k j g=>
 ⟨(h a c p q r k j g).1.back b hd e,(h a c p q r k j g).2.back b hd e⟩
def Hm (C:iQ) (a:Nat) (c:xw):Prop:=C a=some c/\c.kind ≠ 2/\2 <= c.lits.length
structure tO (n:Nat) (C:iQ) (wl:Nat->List Nat):Prop where
 lists:∀ x,x < 2 * n->∀ a ∈ wl x,∃ c,Hm C a c/\(c.lits[0]? = some x\/c.lits[1]? = some x)
 two:∀ a c,Hm C a c->∀ x,c.lits[0]? = some x\/c.lits[1]? = some x->a ∈ wl x
 nodup:∀ x,x < 2 * n->(wl x).Nodup
structure wQ (n:Nat) (C:iQ):Prop where
 vars:∀ a c,C a=some c->(c.lits.map (· / 2)).Nodup
 lt:∀ a c,C a=some c->∀ x ∈ c.lits,x < 2 * n
variable {wl W:Nat->List Nat} {a:Nat} {c:xw}
def kC (C:iQ) (a:Nat) (c:xw):iQ:=eF C a (some c)
theorem dU (C:iQ) (a:Nat) (c:xw):kC C a c a=some c:=dE ..
theorem dJ (C:iQ) {a b:Nat} (c:xw) (h:b ≠ a):kC C a c b=C b:=df _ _ h
theorem wQ.put (h:wQ n C) (k:C a=some c) {l:xw} (j:l.lits.Perm c.lits):wQ n (kC C a l) where
 vars:=fun b d hd=>by
  by_cases e:b=a
  ·subst e;rw [dU] at hd;cases hd
   exact (j.map _).nodup_iff.2 (h.vars b c k)
  ·rw [dJ _ _ e] at hd;exact h.vars b d hd
 lt:=fun b d hd x g=>by
  by_cases e:b=a
  ·subst e;rw [dU] at hd;cases hd
   exact h.lt b c k x (j.mem_iff.1 g)
  ·rw [dJ _ _ e] at hd;exact h.lt b d hd x g
theorem tO.swap (h:tO n C W) (s:C a=some c) {p q:Nat} {r:List Nat} (m:c.lits=p :: q :: r):tO n (kC C a ⟨c.kind,q :: p :: r⟩) W where
 lists:=fun x j b t=>by
  obtain ⟨d,⟨g,k,o⟩,l⟩:=h.lists x j b t;by_cases e:b=a
  ·subst e;rw [s] at g;cases g
   refine ⟨_,⟨dU ..,k,by simp⟩,?_⟩;rw [m] at l;simp only [List.getElem?_cons_zero,List.getElem?_cons_succ] at l ⊢;exact l.symm
  ·exact ⟨d,⟨by rw [dJ _ _ e];exact g,k,o⟩,l⟩
 two:=fun b d ⟨g,k,o⟩ x j=>by
  by_cases e:b=a
  ·subst e;rw [dU] at g;cases g
   refine h.two b c ⟨s,k,by rw [m];simp⟩ x ?_;rw [m];simp only [List.getElem?_cons_zero,List.getElem?_cons_succ] at j ⊢;exact j.symm
  ·rw [dJ _ _ e] at g;exact h.two b d ⟨g,k,o⟩ x j
 nodup:=h.nodup
theorem qA.swap (h:qA C tr lev P) (t:C a=some c) {p q:Nat} {r:List Nat} (s:c.lits=p :: q :: r):qA (kC C a ⟨c.kind,q :: p :: r⟩) tr lev P:=fun b d o m l g k j=>by
 by_cases e:b=a
 ·subst e;rw [dU] at g;cases g
  simp only [List.cons.injEq] at j;obtain ⟨rfl,rfl,rfl⟩:=j;exact (h b c p q r t k s).symm
 ·rw [dJ _ _ e] at g;exact h b d o m l g k j
theorem oP.put (h:oP C tr ch rea) {q:xw} (l:C a=some c) (k:∀ x r,c.lits=x :: r->x ∈ tr->False):oP (kC C a q) tr ch rea:=
 h.congr fun b d x r g o j m s=>by
  by_cases e:b=a
  ·subst e;rw [l] at g;cases g
   exact (k x r j m).elim
  ·exact ⟨d,by rw [dJ _ _ e];exact g,o,r,j,fun _ h=>h⟩
theorem tO.move (h:tO n C W) (T:wQ n C) (E:C a=some c) (Y:c.kind ≠ 2) {q lit o k:Nat} {r kl rest:List Nat} (A:c.lits=q :: lit :: r) (hr:r[k]? = some o) (D:W lit=kl ++ a :: rest) {W':Nat->List Nat} (H:W' lit=kl ++ rest) (G:W' o=W o ++ [a]) (F:∀ x,x ≠ lit->x ≠ o->W' x=W x) (v:lit < 2 * n):
  tO n (kC C a ⟨c.kind,q :: o :: r.set k lit⟩) W':=by
 have N:=T.vars a c E;rw [A] at N;simp only [List.map_cons,List.nodup_cons,List.mem_cons,List.mem_map,not_or,not_exists,not_and] at N;obtain ⟨⟨Q,O⟩,S,_⟩:=N;have u:o ∈ r:=List.mem_of_getElem? hr;have I:q ≠ lit:=fun e=>Q (by rw [e])
 have L:o ≠ lit:=fun e=>S o u (by rw [e])
 have J:o ≠ q:=fun e=>O o u (by rw [e])
 have M:a ∉ kl ++ rest:=by
  have:=h.nodup lit v;rw [D,List.nodup_append] at this;obtain ⟨_,g2,B⟩:=this;rw [List.nodup_cons] at g2;intro g
  rcases List.mem_append.1 g with g | g
  ·exact B _ g _ (List.mem_cons_self ..) rfl
  ·exact g2.1 g
 have lv:Hm C a c:=⟨E,Y,by rw [A];simp⟩;have ao:o < 2 * n->a ∉ W o:=fun ho g=>by
  obtain ⟨d,⟨g1,_,_⟩,g2⟩:=h.lists o ho a g;rw [E] at g1;cases g1
  rw [A] at g2;simp only [List.getElem?_cons_zero,List.getElem?_cons_succ,Option.some.injEq] at g2
  rcases g2 with e | e
  ·exact J e.symm
  ·exact L e.symm
 have sub:∀ x b,b ≠ a->b ∈ W' x->b ∈ W x:=fun x b s g=>by
  by_cases j:x=lit
  ·subst j;rw [H] at g;rw [D]
   rcases List.mem_append.1 g with g | g
   ·exact List.mem_append_left _ g
   ·exact List.mem_append_right _ (List.mem_cons_of_mem _ g)
  ·by_cases m:x=o
   ·subst m;rw [G] at g
    rcases List.mem_append.1 g with g | g
    ·exact g
    ·simp at g;exact absurd g s
   ·rw [F x j m] at g;exact g
 have t:∀ x b,(b=a->x ≠ lit)->b ∈ W x->b ∈ W' x:=fun x b s g=>by
  by_cases j:x=lit
  ·subst j;have R:b ≠ a:=fun e=>s e rfl
   rw [D] at g;rw [H]
   rcases List.mem_append.1 g with g | g
   ·exact List.mem_append_left _ g
   ·rcases List.mem_cons.1 g with g | g
    ·exact absurd g R
    ·exact List.mem_append_right _ g
  ·by_cases m:x=o
   ·subst m;rw [G];exact List.mem_append_left _ g
   ·rw [F x j m];exact g
 exact {
  lists:=fun x l b s=>by
   by_cases e:b=a
   ·subst e;refine ⟨_,⟨dU ..,Y,by simp⟩,?_⟩;simp only [List.getElem?_cons_zero,List.getElem?_cons_succ,Option.some.injEq];by_cases j:x=lit
    ·subst j;rw [H] at s;exact absurd s M
    ·by_cases m:x=o
     ·exact .inr m.symm
     ·rw [F x j m] at s;obtain ⟨d,⟨g1,_,_⟩,g2⟩:=h.lists x l b s;rw [E] at g1;cases g1
      rw [A] at g2;simp only [List.getElem?_cons_zero,List.getElem?_cons_succ,Option.some.injEq] at g2
      rcases g2 with e | e
      ·exact .inl e
      ·exact absurd e.symm j
   ·obtain ⟨d,⟨g1,g2,B⟩,g4⟩:=h.lists x l b (sub x b e s);exact ⟨d,⟨by rw [dJ _ _ e];exact g1,g2,B⟩,g4⟩
  two:=fun b d ⟨g1,g2,B⟩ x l=>by
   by_cases e:b=a
   ·subst e;rw [dU] at g1;cases g1
    simp only [List.getElem?_cons_zero,List.getElem?_cons_succ,Option.some.injEq] at l
    rcases l with e | e
    ·subst e;exact t _ _ (fun _=>I) (h.two b c lv q (by rw [A];exact .inl rfl))
    ·subst e;rw [G];simp
   ·rw [dJ _ _ e] at g1;exact t x b (fun e'=>absurd e' e) (h.two b d ⟨g1,g2,B⟩ x l)
  nodup:=fun x l=>by
   by_cases j:x=lit
   ·subst j;rw [H];have:=h.nodup x l;rw [D] at this;exact this.sublist ((List.Sublist.refl kl).append (List.sublist_cons_self _ _))
   ·by_cases m:x=o
    ·subst m;rw [G];refine List.nodup_append.2 ⟨h.nodup x l,by simp,fun y hy z U=>?_⟩;simp at U;subst U;exact fun e=>ao l (e ▸ hy)
    ·rw [F x j m];exact h.nodup x l }
theorem Bg {q lit o k:Nat} {r:List Nat} (d:r[k]? = some o):(q :: o :: r.set k lit).Perm (q :: lit :: r):=by
 refine List.Perm.cons _ ?_;obtain ⟨b,e⟩:=List.getElem?_eq_some_iff.1 d;have h:r=r.take k ++ o :: r.drop (k + 1):=by rw [<- e,<- List.drop_eq_getElem_cons b,List.take_append_drop]
 have g:r.set k lit=r.take k ++ lit :: r.drop (k + 1):=by
  rw [List.set_eq_take_append_cons_drop,if_pos b]
 rw [g]
 conv=>rhs;rw [h]
 have p1:(r.take k ++ lit :: r.drop (k + 1)).Perm (lit :: (r.take k ++ r.drop (k + 1))):=List.perm_middle;have p2:(r.take k ++ o :: r.drop (k + 1)).Perm (o :: (r.take k ++ r.drop (k + 1))):=List.perm_middle;exact ((p1.cons o).trans (List.Perm.swap ..)).trans (p2.symm.cons lit)
end
section
variable {n:Nat} {tr ch:List Nat} {lev:Nat->Nat} {C:iQ} {rea:Nat->Int} {P:Nat} {wl:Nat->List Nat}
def Ru (C C':iQ):Prop:=∀ a,(C a=none/\C' a=none)\/∃ c c',C a=some c/\C' a=some c'/\c'.kind=c.kind/\c'.lits.Perm c.lits
structure FI (n lit p:Nat) (ch cK:List Nat) (i:Nat) (C:iQ) (tr:List Nat) (lev:Nat->Nat) (rea:Nat->Int) (wl:Nat->List Nat) (kl:List Nat):Prop where
 dI:jh n tr ch lev
 o7:oP C tr ch rea
 lZ:wQ n C
 oH:tO n C (fun x=>if x=lit then kl ++ cK.drop i else wl x)
 vX:qA C tr lev p
 kept:∀ a ∈ kl,∃ c q r,C a=some c/\c.lits=q :: lit :: r/\q ∈ tr/\lev (q / 2) <= lev (lit / 2)
 hp:p < tr.length
 Nn:tr[p]? = some (op lit)
 late:∀ q ∈ ch,q <= p
 o8:kl.length <= i
 vH:i <= cK.length
variable {lit p i:Nat} {cK kl:List Nat}
theorem FI.pW (h:FI n lit p ch cK i C tr lev rea wl kl):lit < 2 * n:=by
 have:=h.dI.lt _ (List.mem_of_getElem? h.Nn);have:=wm this
 rwa [ko] at this
theorem FI.rX (h:FI n lit p ch cK i C tr lev rea wl kl):op lit ∈ tr:=List.mem_of_getElem? h.Nn
theorem FI.CQ (h:FI n lit p ch cK i C tr lev rea wl kl):lit ∉ tr:=fun b=>h.dI.nE b h.rX
theorem FI.Ki (h:FI n lit p ch cK i C tr lev rea wl kl):lev (lit / 2)=ch.length:=by
 obtain ⟨b,e⟩:=List.getElem?_eq_some_iff.1 h.Nn;have:=h.dI.lev p b;rw [e,gG] at this;rw [this,uI h.late]
theorem FI.VY (h:FI n lit p ch cK i C tr lev rea wl kl) {q:Nat} (b:q ∈ tr):lev (q / 2) <= lev (lit / 2):=by
 obtain ⟨j,d,e⟩:=List.mem_iff_getElem.1 b;have:=h.dI.lev j d;rw [e] at this;rw [this,h.Ki];exact Dy ..
theorem FI.start (g:jh n tr ch lev) (j:oP C tr ch rea) (l:wQ n C) (d:tO n C wl) (h:qA C tr lev p) (b:tr[p]? = some (op lit)) (k:∀ q ∈ ch,q <= p):FI n lit p ch (wl lit) 0 C tr lev rea wl [] where
 dI:=g
 o7:=j
 lZ:=l
 oH:=by
  have e:(fun x=>if x=lit then [] ++ (wl lit).drop 0 else wl x)=wl:=by
   funext x;split
   ·rename_i e;subst e;rfl
   ·rfl
  rw [e];exact d
 vX:=h
 kept:=fun a b=>by simp at b
 hp:=(List.getElem?_eq_some_iff.1 b).1
 Nn:=b
 late:=k
 o8:=zl
 vH:=zl
theorem FI.next (h:FI n lit p ch cK i C tr lev rea wl kl) (hi:i < cK.length):∃ c,Hm C cK[i] c/\(c.lits[0]? = some lit\/c.lits[1]? = some lit):=
 h.oH.lists lit h.pW cK[i] (by
  show cK[i] ∈ (if lit=lit then kl ++ cK.drop i else wl lit)
  rw [if_pos rfl,List.drop_eq_getElem_cons hi];exact List.mem_append_right _ (List.mem_cons_self ..))
theorem FI.J8 (h:FI n lit p ch cK i C tr lev rea wl kl) (hi:i < cK.length):cK[i] ∉ kl:=fun b=>by
 have:=h.oH.nodup lit h.pW;simp only [if_true] at this;rw [List.drop_eq_getElem_cons hi,List.nodup_append] at this;exact this.2.2 _ b _ (List.mem_cons_self ..) rfl
theorem FI.swap (h:FI n lit p ch cK i C tr lev rea wl kl) (hi:i < cK.length) {c:xw} (d:C cK[i]=some c) {q:Nat} {r:List Nat} (b:c.lits=lit :: q :: r):FI n lit p ch cK i (kC C cK[i] ⟨c.kind,q :: lit :: r⟩) tr lev rea wl kl where
 dI:=h.dI
 o7:=h.o7.put d fun x l e k=>by
  rw [b] at e;obtain ⟨rfl,_⟩:=List.cons.inj e;exact h.CQ k
 lZ:=h.lZ.put d (by rw [b];exact List.Perm.swap ..)
 oH:=h.oH.swap d b
 vX:=h.vX.swap d b
 kept:=fun a g=>by
  have j:a ≠ cK[i]:=fun e=>h.J8 hi (e ▸ g)
  rw [dJ _ _ j];exact h.kept a g
 hp:=h.hp
 Nn:=h.Nn
 late:=h.late
 o8:=h.o8
 vH:=h.vH
theorem FI.Kk (h:FI n lit p ch cK i C tr lev rea wl kl) (hi:i < cK.length):tO n C (fun x=>if x=lit then (kl ++ [cK[i]]) ++ cK.drop (i + 1) else wl x):=by
 have e:(kl ++ [cK[i]]) ++ cK.drop (i + 1)=kl ++ cK.drop i:=by rw [List.drop_eq_getElem_cons hi];simp
 rw [e];exact h.oH
theorem FI.keep (h:FI n lit p ch cK i C tr lev rea wl kl) (hi:i < cK.length) {c:xw} (g:C cK[i]=some c) {q:Nat} {r:List Nat} (e:c.lits=q :: lit :: r) (d:q ∈ tr):FI n lit p ch cK (i + 1) C tr lev rea wl (kl ++ [cK[i]]) where
 dI:=h.dI
 o7:=h.o7
 lZ:=h.lZ
 oH:=h.Kk hi
 vX:=h.vX
 kept:=fun a b=>by
  rcases List.mem_append.1 b with b | b
  ·exact h.kept a b
  ·simp at b;subst b;exact ⟨c,q,r,g,e,d,h.VY d⟩
 hp:=h.hp
 Nn:=h.Nn
 late:=h.late
 o8:=by have:=h.o8;simp;omega
 vH:=hi
theorem FI.unit (h:FI n lit p ch cK i C tr lev rea wl kl) (hi:i < cK.length) {c:xw} (l:C cK[i]=some c) (v:c.kind ≠ 2) {q:Nat} {r:List Nat} (k:c.lits=q :: lit :: r) (e:tv tr q=0) (u:∀ y ∈ r,op y ∈ tr):
  FI n lit p ch cK (i + 1) C (tr ++ [q]) (eF lev (q / 2) ch.length) (eF rea (q / 2) (cK[i]:Nat)) wl (kl ++ [cK[i]]):=by
 have j:q < 2 * n:=h.lZ.lt _ _ l q (by rw [k];simp);have m:lit / 2 ≠ q / 2:=by
  have:=ma e h.rX;rw [gG] at this;exact this
 exact {
  dI:=h.dI.assign j e
  o7:=h.o7.assign h.dI e l v k fun y g=>by
   rcases List.mem_cons.1 g with rfl | g
   ·exact h.rX
   ·exact u y g
  lZ:=h.lZ
  oH:=h.Kk hi
  vX:=h.vX.assign (Nat.le_of_lt h.hp) e
  kept:=fun a b=>by
   rcases List.mem_append.1 b with b | b
   ·obtain ⟨d,t,s,A,z,o,x⟩:=h.kept a b;refine ⟨d,t,s,A,z,List.mem_append_left _ o,?_⟩;rw [df _ _ (ma e o),df _ _ m];exact x
   ·simp at b;subst b;refine ⟨c,q,r,l,k,by simp,?_⟩;rw [dE,df _ _ m,h.Ki];exact lr
  hp:=by have:=h.hp;simp;omega
  Nn:=by rw [List.getElem?_append_left h.hp];exact h.Nn
  late:=h.late
  o8:=by have:=h.o8;simp;omega
  vH:=hi }
theorem FI.move (h:FI n lit p ch cK i C tr lev rea wl kl) (hi:i < cK.length) {c:xw} (s:C cK[i]=some c) (B:c.kind ≠ 2) {q o k:Nat} {r:List Nat} (l:c.lits=q :: lit :: r) (J:q ∉ tr) (u:r[k]? = some o) (L:op o ∉ tr):
  FI n lit p ch cK (i + 1) (kC C cK[i] ⟨c.kind,q :: o :: r.set k lit⟩) tr lev rea (fun x=>if x=o then wl x ++ [cK[i]] else wl x) kl:=by
 have t:=h.lZ.vars _ _ s;rw [l] at t;simp only [List.map_cons,List.nodup_cons,List.mem_cons,List.mem_map,not_or,not_exists,not_and] at t;have g:o ≠ lit:=fun e=>t.2.1 o (List.mem_of_getElem? u) (by rw [e])
 exact {
  dI:=h.dI
  o7:=h.o7.put s fun x A e I=>by
   rw [l] at e;obtain ⟨rfl,_⟩:=List.cons.inj e;exact J I
  lZ:=h.lZ.put s (by rw [l];exact Bg u)
  oH:=h.oH.move h.lZ s B l u (kl:=kl) (rest:=cK.drop (i + 1)) (by
    show (if lit=lit then kl ++ cK.drop i else wl lit)=_
    rw [if_pos rfl,List.drop_eq_getElem_cons hi]) (by simp) (by
    show (if o=lit then _ else _)=(if o=lit then _ else _) ++ [_]
    rw [if_neg g,if_neg g,if_pos rfl]) (fun x E M=>by
    show (if x=lit then _ else _)=(if x=lit then _ else _)
    rw [if_neg E,if_neg E,if_neg M]) h.pW
  vX:=fun b d G F A g1 g2 y=>by
   by_cases e:b=cK[i]
   ·rw [e,dU] at g1;cases g1
    simp only [List.cons.injEq] at y;obtain ⟨rfl,rfl,rfl⟩:=y;refine ⟨fun j v m z=>?_,fun j v m z=>?_⟩
    ·exact absurd ((h.vX _ c _ lit r s B l).1 j v m z).1 h.CQ
    ·exact absurd (z ▸ List.getElem_mem v) L
   ·rw [dJ _ _ e] at g1;exact h.vX b d G F A g1 g2 y
  kept:=fun a D=>by
   have H:a ≠ cK[i]:=fun e=>h.J8 hi (e ▸ D)
   rw [dJ _ _ H];exact h.kept a D
  hp:=h.hp
  Nn:=h.Nn
  late:=h.late
  o8:=Nat.le_succ_of_le h.o8
  vH:=hi }
theorem FI.done (h:FI n lit p ch cK cK.length C tr lev rea wl kl):qA C tr lev (p + 1)/\tO n C (fun x=>if x=lit then kl else wl x):=by
 have t:=h.oH;have e:kl ++ cK.drop cK.length=kl:=by simp
 rw [e] at t;refine ⟨fun a c g b r g1 g2 m=>?_,t⟩;obtain ⟨O,B⟩:=List.getElem?_eq_some_iff.1 h.Nn;have E:Hm C a c:=⟨g1,g2,by rw [m];simp⟩;have o:∀ x,(c.lits[0]? = some x\/c.lits[1]? = some x)->∀ y,(x=g/\y=b\/x=b/\y=g)->op lit=op x->y ∈ tr/\lev (y / 2) <= lev (x / 2):=fun x H y G e=>by
  have I:x=lit:=(OZ e).symm;subst I;have A:=t.two a c E x H;rw [if_pos rfl] at A;obtain ⟨d,N,M,z,s,v,F⟩:=h.kept a A;rw [g1] at z;cases z
  rw [m] at s;simp only [List.cons.injEq] at s;obtain ⟨rfl,rfl,rfl⟩:=s;have D:g ≠ b:=fun J=>h.CQ (J ▸ v)
  rcases G with ⟨L,_⟩ | ⟨_,rfl⟩
  ·exact absurd L.symm D
  ·exact ⟨v,F⟩
 refine ⟨fun j u k q=>?_,fun j u k q=>?_⟩
 ·rcases Nat.lt_succ_iff_lt_or_eq.1 k with l | l
  ·exact (h.vX a c g b r g1 g2 m).1 j u l q
  ·subst l;exact o g (.inl (by rw [m];rfl)) b (.inl ⟨rfl,rfl⟩) (by rw [<- B,q])
 ·rcases Nat.lt_succ_iff_lt_or_eq.1 k with l | l
  ·exact (h.vX a c g b r g1 g2 m).2 j u l q
  ·subst l;exact o b (.inr (by rw [m];rfl)) g (.inr ⟨rfl,rfl⟩) (by rw [<- B,q])
end
section
variable {n:Nat} {tr ch:List Nat} {lev:Nat->Nat} {C C':iQ} {rea:Nat->Int} {P a:Nat} {W W':Nat->List Nat} {c:xw}
theorem wQ.new (h:wQ n C) (g:(c.lits.map (· / 2)).Nodup) (j:∀ x ∈ c.lits,x < 2 * n):wQ n (kC C a c) where
 vars:=fun b d hd=>by
  by_cases e:b=a
  ·subst e;rw [dU] at hd;cases hd;exact g
  ·rw [dJ _ _ e] at hd;exact h.vars b d hd
 lt:=fun b d hd=>by
  by_cases e:b=a
  ·subst e;rw [dU] at hd;cases hd;exact j
  ·rw [dJ _ _ e] at hd;exact h.lt b d hd
theorem oP.new (h:oP C tr ch rea) (j:C a=none):oP (kC C a c) tr ch rea:=
 h.congr fun b d x r g l k o m=>by
  have e:b ≠ a:=fun e=>by rw [e,j] at g;cases g
  exact ⟨d,by rw [dJ _ _ e];exact g,l,r,k,fun _ h=>h⟩
theorem qA.new (h:qA C tr lev P) (l:∀ p q r,c.kind ≠ 2->c.lits=p :: q :: r->Aq tr lev P p q/\Aq tr lev P q p):qA (kC C a c) tr lev P:=fun b d p q r g k j=>by
 by_cases e:b=a
 ·subst e;rw [dU] at g;cases g;exact l p q r k j
 ·rw [dJ _ _ e] at g;exact h b d p q r g k j
theorem tO.fresh (h:tO n C W) (e:C a=none) {x:Nat} (b:x < 2 * n):a ∉ W x:=fun g=>by
 obtain ⟨d,⟨g1,_,_⟩,_⟩:=h.lists x b a g;rw [e] at g1;cases g1
theorem tO.TI (h:tO n C W) (l:C a=none) (o:c.lits.length < 2):tO n (kC C a c) W where
 lists:=fun x g b k=>by
  have e:b ≠ a:=fun e=>h.fresh l g (e ▸ k)
  obtain ⟨d,⟨g1,g2,j⟩,m⟩:=h.lists x g b k;exact ⟨d,⟨by rw [dJ _ _ e];exact g1,g2,j⟩,m⟩
 two:=fun b d ⟨g1,g2,j⟩ x g=>by
  by_cases e:b=a
  ·subst e;rw [dU] at g1;cases g1;omega
  ·rw [dJ _ _ e] at g1;exact h.two b d ⟨g1,g2,j⟩ x g
 nodup:=h.nodup
theorem tO.Xv (h:tO n C W) (B:C a=none) (F:c.kind ≠ 2) {p q:Nat} {r:List Nat} (t:c.lits=p :: q :: r) (E:p ≠ q) (H:W' p=W p ++ [a]) (G:W' q=W q ++ [a]) (o:∀ x,x ≠ p->x ≠ q->W' x=W x):tO n (kC C a c) W':=by
 have m:∀ x,(x=p\/x=q)->W' x=W x ++ [a]:=fun x j=>by
  rcases j with rfl | rfl
  ·exact H
  ·exact G
 have s:∀ x b,b ∈ W x->b ∈ W' x:=fun x b g=>by
  by_cases e:x=p\/x=q
  ·rw [m x e];exact List.mem_append_left _ g
  ·rw [o x (fun l=>e (.inl l)) (fun l=>e (.inr l))];exact g
 exact {
  lists:=fun x j b g=>by
   by_cases e:b=a
   ·subst e;refine ⟨c,⟨dU ..,F,by rw [t];simp⟩,?_⟩;rw [t];simp only [List.getElem?_cons_zero,List.getElem?_cons_succ,Option.some.injEq];by_cases l:x=p\/x=q
    ·exact l.imp Eq.symm Eq.symm
    ·rw [o x (fun k=>l (.inl k)) (fun k=>l (.inr k))] at g;exact absurd g (h.fresh B j)
   ·have u:b ∈ W x:=by
     by_cases l:x=p\/x=q
     ·rw [m x l] at g
      rcases List.mem_append.1 g with g | g
      ·exact g
      ·simp at g;exact absurd g e
     ·rw [o x (fun k=>l (.inl k)) (fun k=>l (.inr k))] at g;exact g
    obtain ⟨d,⟨g1,g2,v⟩,I⟩:=h.lists x j b u;exact ⟨d,⟨by rw [dJ _ _ e];exact g1,g2,v⟩,I⟩
  two:=fun b d ⟨g1,g2,v⟩ x j=>by
   by_cases e:b=a
   ·subst e;rw [dU] at g1;cases g1
    rw [t] at j;simp only [List.getElem?_cons_zero,List.getElem?_cons_succ,Option.some.injEq] at j;rw [m x (j.imp Eq.symm Eq.symm)];simp
   ·rw [dJ _ _ e] at g1;exact s x b (h.two b d ⟨g1,g2,v⟩ x j)
  nodup:=fun x j=>by
   by_cases e:x=p\/x=q
   ·rw [m x e];refine List.nodup_append.2 ⟨h.nodup x j,by simp,fun y D z A=>?_⟩;simp at A;subst A;exact fun e=>h.fresh B j (e ▸ D)
   ·rw [o x (fun k=>e (.inl k)) (fun k=>e (.inr k))];exact h.nodup x j }
def JM (C C':iQ):Prop:=∀ a,C' a=C a\/∃ c,C a=some c/\C' a=some ⟨2,c.lits⟩
theorem JM.back (h:JM C C') {d:xw} (hd:C' a=some d) (b:d.kind ≠ 2):C a=some d:=by
 rcases h a with e | ⟨c,_,e⟩
 ·rw [<- e];exact hd
 ·rw [e] at hd;cases hd;exact absurd rfl b
theorem wQ.del (h:wQ n C) (hd:JM C C'):wQ n C' where
 vars:=fun b d g=>by
  rcases hd b with e | ⟨c,k,j⟩
  ·exact h.vars b d (by rw [<- e];exact g)
  ·rw [j] at g;cases g;exact h.vars b c k
 lt:=fun b d g=>by
  rcases hd b with e | ⟨c,k,j⟩
  ·exact h.lt b d (by rw [<- e];exact g)
  ·rw [j] at g;cases g;exact h.lt b c k
theorem qA.del (h:qA C tr lev P) (hd:JM C C'):qA C' tr lev P:=fun b d p q r j e g=>h b d p q r (hd.back j e) e g
theorem oP.del (h:oP C tr ch rea) (hd:JM C C') (k:∀ b c x r,C b=some c->c.kind ≠ 2->c.lits=x :: r->x ∈ tr->rea (x / 2)=(b:Nat)->C' b=C b):oP C' tr ch rea:=
 h.congr fun b d x r j g e m l=>⟨d,by rw [k b d x r j g e m l];exact j,g,r,e,fun _ h=>h⟩
theorem tO.del (h:tO n C W) (hd:JM C C') (o:∀ x,x < 2 * n->W' x=(W x).filter fun b=>decide (∀ d,C' b=some d->d.kind ≠ 2)) (s:wQ n C):tO n C' W' where
 lists:=fun x g b k=>by
  rw [o x g,List.mem_filter] at k;obtain ⟨k,m⟩:=k;have m:=of_decide_eq_true m;obtain ⟨d,⟨g1,g2,q⟩,t⟩:=h.lists x g b k
  rcases hd b with e | ⟨c,v,u⟩
  ·exact ⟨d,⟨by rw [e];exact g1,g2,q⟩,t⟩
  ·exact absurd rfl (m _ u)
 two:=fun b d ⟨g1,g2,q⟩ x g=>by
  have r:=hd.back g1 g2;have l:x < 2 * n:=s.lt b d r x (by
   rcases g with g | g <;> exact List.mem_of_getElem? g)
  rw [o x l,List.mem_filter];refine ⟨h.two b d ⟨r,g2,q⟩ x g,decide_eq_true ?_⟩;intro y j;rw [g1] at j;cases j;exact g2
 nodup:=fun x g=>by rw [o x g];exact (h.nodup x g).sublist List.filter_sublist
structure Hl (C C':iQ) (ro:Nat->Nat):Prop where
 X5:∀ a c,C a=some c->c.kind ≠ 2->C' (ro a)=some c
 from':∀ b c,C' b=some c->∃ a,C a=some c/\c.kind ≠ 2/\b=ro a
 inj:∀ a b c d,C a=some c->c.kind ≠ 2->C b=some d->d.kind ≠ 2->ro a=ro b->a=b
variable {ro:Nat->Nat}
theorem wQ.Pk (h:wQ n C) (j:Hl C C' ro):wQ n C' where
 vars:=fun b d e=>by obtain ⟨a,g,_,_⟩:=j.from' b d e;exact h.vars a d g
 lt:=fun b d e=>by obtain ⟨a,g,_,_⟩:=j.from' b d e;exact h.lt a d g
theorem qA.Pk (h:qA C tr lev P) (e:Hl C C' ro):qA C' tr lev P:=fun b d p q r j k g=>by
 obtain ⟨a,g1,g2,_⟩:=e.from' b d j
 exact h a d p q r g1 g2 g
theorem oP.Pk {uo:Nat->Int} (h:oP C tr ch rea) (j:Hl C C' ro) (e:∀ x ∈ tr,(rea (x / 2)=-1->uo (x / 2)=-1)/\∀ a:Nat,rea (x / 2)=a->uo (x / 2)=ro a):oP C' tr ch uo where
 Kv:=fun i b d=>(e _ (List.getElem_mem b)).1 (h.Kv i b d)
 why:=fun i b d=>by
  obtain ⟨a,c,r,o,m,g,l,k⟩:=h.why i b d;exact ⟨ro a,c,r,(e _ (List.getElem_mem b)).2 a o,j.X5 a c m g,g,l,k⟩
theorem tO.Pk (h:tO n C W) (q:Hl C C' ro) (v:wQ n C) (s:∀ x,x < 2 * n->W' x=(W x).map ro):tO n C' W' where
 lists:=fun x g b l=>by
  rw [s x g] at l;obtain ⟨a,r,rfl⟩:=List.mem_map.1 l;obtain ⟨d,⟨g1,g2,t⟩,y⟩:=h.lists x g a r;exact ⟨d,⟨q.X5 a d g1 g2,g2,t⟩,y⟩
 two:=fun b d ⟨g1,g2,t⟩ x g=>by
  obtain ⟨a,k,m,rfl⟩:=q.from' b d g1
  have o:x < 2 * n:=v.lt a d k x (by
   rcases g with g | g <;> exact List.mem_of_getElem? g)
  rw [s x o];exact List.mem_map.2 ⟨a,h.two a d ⟨k,m,t⟩ x g,rfl⟩
 nodup:=fun x g=>by
  rw [s x g];refine List.Pairwise.map ro (fun a b j=>j) ?_;have u:=h.nodup x g;refine u.imp_of_mem fun {a b} r l j=>?_
  intro e;obtain ⟨c,⟨g1,g2,_⟩,_⟩:=h.lists x g a r;obtain ⟨d,⟨k,m,_⟩,_⟩:=h.lists x g b l;exact j (q.inj a b c d g1 g2 k m e)
end
end So
end Go.Proofs.YtceahffmenbibaaGreatDoor
