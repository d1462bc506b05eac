/- Sasg Sdel Sbck Sadd Sles Spro. -/
import Derived.Test.YtceahffmenbibaaGreatDoorG01
import Derived.Deep.CutRange
import Derived.Deep.RegionWith
import Derived.Outline
import Derived.Test.YtceahffmenbibaaGreatDoorG00
set_option linter.unusedVariables false
set_option linter.unusedSimpArgs false
set_option maxHeartbeats 2000000
set_option maxRecDepth 100000
namespace Go.Proofs.YtceahffmenbibaaGreatDoor
namespace So
section
open Go Go.RowKit Go.Deep Rd
variable {Z:Nat->Prop} {sb K:Nat} {w w':World} {f V:Nat->Value} {X:Nat->List Value}
theorem Tryz.cu:(Tryz.prog.info? 3).map (fun i=>(i.zero,i.size,i.bytes))=some (some (.int .i64 0),1,8):=by kernel_rfl
def bN (X:Nat->List Value) (x:Nat) (r:Int) (d:Nat):Nat->List Value:=
 upd (upd (upd (upd X 1 (X 1 ++ [.int .i64 x])) 3 (((X 3).set x (.int .i64 1)).set (op x) (.int .i64 (-1)))) 4 ((X 4).set (x / 2) (.int .i64 d))) 5 ((X 5).set (x / 2) (.int .i64 r))
theorem mW (x vars d:Nat) (r:Int) (hx:x < 2 * vars) (hvars:vars <= 50) (h:aQ Z sb w K f V X) (h1:(X 1).length <= 1000) (h2:(X 2).length=d) (h3:(X 3).length=2 * vars) (h4:(X 4).length=vars) (h5:(X 5).length=vars):
  Calls Tryz.prog 136 #[.pointer (some ⟨sb,6,none⟩),.int .i64 x,.int .i64 r] w fun e w'=>e=.returned (.tuple #[])/\aC Z w w'/\∃ v',aQ Z sb w' K (upd f 6 v') (upd V 1 v') (bN X x r d):=by
 obtain ⟨i0,hi,hz0,hz1,hz2⟩:=info_parts Tryz.cu;have HS:=hide h;have hK:=h.hK;obtain ⟨a1,c1,e1⟩:=h.bC.shape (k:=1) (by omega)
 have hd1:=(h.hd (k:=1) (by omega)).1
 have fz1:=(h.hd (k:=1) (by omega)).2
 rw [show cellOf 1=6 from rfl] at hd1 fz1
 rw [e1] at hd1;have O1:Hid (w.ownsRow 0 3 1 (.slice a1 (X 1).length c1) (X 1).length (X 1)):=by
  have:=h.bC.own 1 (by omega)
  rw [e1] at this;exact this
 have E1:=hide e1;have hsb:=h.row.lt;have fZ:=h.fZ;have ns:¬ (sb=w.heap.size):=by omega
 clear h e1;go_enter Tryz.func136,Tryz.ntmps136
 go_wp2_with (at_builtin;refine aU _ rfl _ _ 43 rfl 0 3 i0 (.int .i64 0) 1 8 Tryz.underlying43 hi hz0 hz1 hz2 rfl (by decide) _ _ _ rfl (O1.out.alloc (Obj.cells #[.int .i64 (x:Int)] 3)) (.slice (some ⟨w.heap.size,0,none⟩) 1 1) 1 [.int .i64 (x:Int)] rfl (.inr ⟨⟨w.heap.size,0,none⟩,1,rfl,(cell_one_new w _ _)⟩) rfl (by simp [Value.oneCell']) (by unfold maxLen;omega) (by omega) (Nat.zero_le _) ?_)
 intro v6 w6 A6;have A7:aB (w.alloc (Obj.cells #[.int .i64 (x:Int)] 3)) 0 (iC 1) 1 (V 1) (X 1).length (X 1) 1 [.int .i64 (x:Int)] v6 w6:=by rw [E1.out];exact A6
 have S6:=hide (HS.out.push (k:=1) (m:=1) (news:=[.int .i64 (x:Int)]) (by omega) rfl A7)
 have B6:=hide (HS.out.jY (k:=1) (by omega) A7 6 v6)
 have g6:=(HS.out.gM (k:=1) (by omega) A7 6 (by omega)).1
 have z6:=(HS.out.gM (k:=1) (by omega) A7 6 (by omega)).2
 obtain ⟨qL,qK,hv6⟩:=aH A6.own;subst hv6;rw [show cellOf 1=6 from rfl] at S6
 clear A6 A7 hd1 fz1 O1;go_upto_region 1 with fail
 generalize hW1:w6.setCell ⟨sb,6,none⟩ (.slice qL ((X 1).length + 1) qK)=W1 at S6 B6 ⊢;clear hW1 g6 z6;obtain ⟨F1,hF1⟩:∃ F,F=upd f 6 (.slice qL ((X 1).length + 1) qK):=⟨_,rfl⟩;obtain ⟨V1,hV1⟩:∃ V',V'=upd V 1 (.slice qL ((X 1).length + 1) qK):=⟨_,rfl⟩;obtain ⟨X1,hX1⟩:∃ X',X'=upd X 1 (X 1 ++ [.int .i64 (x:Int)]):=⟨_,rfl⟩;rw [<- hF1,<- hV1,<- hX1] at S6;have L2:(X1 2).length=d:=by rw [hX1,aa _ _ (by decide)];exact h2
 have L3:(X1 3).length=2 * vars:=by rw [hX1,aa _ _ (by decide)];exact h3
 have L4:(X1 4).length=vars:=by rw [hX1,aa _ _ (by decide)];exact h4
 have L5:(X1 5).length=vars:=by rw [hX1,aa _ _ (by decide)];exact h5
 have FIN:Hid (upd (upd (upd (upd X1 3 ((X1 3).set x (.int .i64 1))) 3 (((upd X1 3 ((X1 3).set x (.int .i64 1))) 3).set (op x) (.int .i64 (-1)))) 4 ((X1 4).set (x / 2) (.int .i64 d))) 5 ((X1 5).set (x / 2) (.int .i64 r))=bN X x r d):=by
  unfold Hid;rw [ae,hX1];unfold bN
  funext k
  unfold upd;by_cases k5:k=5
  ·simp [k5]
  ·by_cases k4:k=4
   ·simp [k4]
   ·by_cases k3:k=3
    ·simp [k3]
    ·simp [k5,k4,k3]
 have HF1:=hide hF1;have HV1:=hide hV1;clear hX1 hF1 hV1;have x0:(0:Int) <= (x:Int):=by omega
 have x1:(x:Int) < ((2 * vars:Nat):Int):=by omega
 obtain ⟨g3,c3,t3,e3,q3,r3,_,z3,b3,l3,n3⟩:=S6.out.elem (k:=3) (j:=x) (by omega) L3 hx
 rw [show cellOf 3=9 from rfl] at q3
 have S7:=hide (S6.out.set (k:=3) (by omega) e3 x (.int .i64 1))
 have B7:Hid (aC Z w (W1.setCell ⟨g3,x,none⟩ (.int .i64 1))):=B6.out.setCell b3 _;have E3:=hide e3;clear e3;go_upto_region 2 with fail
 generalize hW2:W1.setCell ⟨g3,x,none⟩ (.int .i64 1)=W2 at S7 B7 ⊢;clear hW2 q3 r3 z3 l3 n3 S6 B6;have oxl:op x < 2 * vars:=by unfold op;split <;> omega
 have M3:((upd X1 3 ((X1 3).set x (.int .i64 1))) 3).length=2 * vars:=by rw [ae,List.length_set];exact L3
 obtain ⟨g4,c4,t4,e4,q4,r4,_,z4,b4,l4,n4⟩:=S7.out.elem (k:=3) (j:=op x) (by omega) M3 oxl
 rw [show cellOf 3=9 from rfl] at q4
 have S8:=hide (fun (Y:World) (hY:aQ Z sb Y K F1 V1 (upd X1 3 ((X1 3).set x (.int .i64 1))))=>hY.set (k:=3) (by omega) e4 (op x) (.int .i64 (-1)))
 have QO:=hide (fun Y=>iw x Y (by omega))
 have o0:(0:Int) <= ((op x:Nat):Int):=by omega
 have o1:((op x:Nat):Int) < ((2 * vars:Nat):Int):=by omega
 clear e4;generalize op x=ox at *
 go_cut [] from 6 (fun wx=>Hid (aQ Z sb wx K F1 V1 (upd (upd X1 3 ((X1 3).set x (.int .i64 1))) 3 (((upd X1 3 ((X1 3).set x (.int .i64 1))) 3).set ox (.int .i64 (-1)))))/\Hid (aC Z w wx))
 case first=>
  go_region_with (go_at_call 139;refine (QO.out _).mono ?_;rintro e7 w7 ⟨rfl,rfl⟩;simp only [])
  all_goals
   go_wp2_with fail
   go_meet;exact ⟨(S8.out _ S7.out).later (Below.refl _ _).drew,(B7.out.setCell b4 _).drew⟩
 case rest=>
  obtain ⟨S9,B9⟩:=hcut;clear S7 S8 B7 q4 r4 z4 l4 n4 QO;generalize ZE:upd (upd X1 3 ((X1 3).set x (.int .i64 1))) 3 (((upd X1 3 ((X1 3).set x (.int .i64 1))) 3).set ox (.int .i64 (-1)))=X3 at S9 FIN;have P2:(X3 2).length=d:=by rw [<- ZE,aa _ _ (by decide),aa _ _ (by decide)];exact L2
  have P4:(X3 4).length=vars:=by rw [<- ZE,aa _ _ (by decide),aa _ _ (by decide)];exact L4
  have E4:Hid (X1 4=X3 4):=by unfold Hid;rw [<- ZE,aa _ _ (by decide),aa _ _ (by decide)]
  have E5:Hid (X1 5=X3 5):=by unfold Hid;rw [<- ZE,aa _ _ (by decide),aa _ _ (by decide)]
  have P5:(X3 5).length=vars:=by rw [<- E5.out];exact L5
  have P4':(X3 4).length=vars:=P4;rw [E4.out,E5.out] at FIN;clear ZE E4 E5 M3;have vl:x / 2 < vars:=by omega
  have QV:=hide (fun Y=>bF x Y (by omega))
  have v0:(0:Int) <= ((x / 2:Nat):Int):=by omega
  have v1:((x / 2:Nat):Int) < (vars:Int):=by omega
  obtain ⟨g5,c5,t5,e5,q5,r5,_,z5,b5,l5,n5⟩:=S9.out.elem (k:=4) (j:=x / 2) (by omega) P4 vl
  rw [show cellOf 4=10 from rfl] at q5
  obtain ⟨a2,c2,e2⟩:=S9.out.bC.shape (k:=2) (by omega)
  have q2:=(S9.out.hd (k:=2) (by omega)).1
  rw [show cellOf 2=8 from rfl,e2,P2] at q2
  have QD:Hid (∀ Y:World,Y.heap=wc.heap->Calls Tryz.prog 99 #[.pointer (some ⟨sb,6,none⟩)] Y fun e w'=>e=.returned (.int .i64 d)/\w'=Y):=fun Y hY=>jH sb 6 d c2 Y a2 (by rw [show Y.cell? ⟨sb,6 + 2,none⟩=wc.cell? ⟨sb,8,none⟩ from World.cell?_of_block (a:=⟨sb,8,none⟩) (by rw [hY])];exact q2)
  have Z0:=hide (fun (Y:World) (hY:aQ Z sb Y K F1 V1 X3)=>hY.set (k:=4) (by omega) e5 (x / 2) (.int .i64 d))
  clear e5 e2;generalize x / 2=v at *
  go_upto_region 3 with fail
  go_cut [] from 6 (fun wx=>Hid (aQ Z sb wx K F1 V1 (upd X3 4 ((X3 4).set v (.int .i64 d))))/\Hid (aC Z w wx))
  case first=>
   go_region_with (first
    |(go_at_call 176;refine (QV.out _).mono ?_;rintro e7 w7 ⟨rfl,rfl⟩;simp only [])
    |(go_at_call 99;refine (QD.out _ (by rfl)).mono ?_;rintro e8 w8 ⟨rfl,rfl⟩;simp only []))
   all_goals
    go_wp2_with fail
    go_meet;exact ⟨(Z0.out _ S9.out).later (Below.refl _ _).drew,(B9.out.setCell b5 _).drew⟩
  case rest=>
   obtain ⟨S11,B11⟩:=hcut;clear S9 Z0 B9 q5 r5 z5 l5 n5 QD q2;have P5':((upd X3 4 ((X3 4).set v (.int .i64 d))) 5).length=vars:=by rw [aa _ _ (by decide)];exact P5
   have E5:Hid ((upd X3 4 ((X3 4).set v (.int .i64 d))) 5=X3 5):=aa _ _ (by decide)
   obtain ⟨g6,c6,t6,e6,q6,r6,_,z6,b6,l6,n6⟩:=S11.out.elem (k:=5) (j:=v) (by omega) P5' vl
   rw [show cellOf 5=11 from rfl] at q6
   have ZZ:=hide (fun (Y:World) (hY:aQ Z sb Y K F1 V1 (upd X3 4 ((X3 4).set v (.int .i64 d))))=>hY.set (k:=5) (by omega) e6 v (.int .i64 r))
   rw [E5.out,FIN.out] at ZZ;clear e6;go_upto_region 4 with fail
   go_region_with (go_at_call 176;refine (QV.out _).mono ?_;rintro e7 w7 ⟨rfl,rfl⟩;simp only [])
   all_goals
    go_wp2;go_end0
    have SE:=(ZZ.out _ S11.out).later (Below.refl _ _).drew;rw [HF1.out,HV1.out] at SE;exact ⟨rfl,(B11.out.setCell b6 _).drew,_,SE⟩
end
section
open Go Go.RowKit Go.Deep Rd
variable {Z:Nat->Prop} {sb K:Nat} {w w':World} {f V:Nat->Value} {X:Nat->List Value}
theorem tY (n:Int) (h0:0 <= n) (h1:n < 2 ^ 63):IntKind.i64.wrap n=n:=by
 have h2:n < 9223372036854775808:=h1;rw [IntKind.wrap_i64];omega
theorem Hq (x n m:Nat) (l ws:Int) (h:aQ Z sb w K f V X) (hn:(X 0).length=n) (hx:x + 2 < n) (hb:n <= 17592186044416) (hm:(X 0)[x]? = some (.int .i64 m)) (hmb:m <= 1000) (hl:f 3=.int .i64 l) (hw:f 4=.int .i64 ws) (l0:-4611686018427387904 <= l) (l1:l <= 4611686018427387904) (w0:0 <= ws) (w1:ws <= 4611686018427387904):
  Calls Tryz.prog 187 #[.pointer (some ⟨sb,2,none⟩),.int .i64 x] w fun e w'=>e=.returned (.tuple #[])/\aC Z w w'/\aQ Z sb w' K (upd (upd f 3 (.int .i64 (l - 1))) 4 (.int .i64 (ws + (3 + m)))) V (upd X 0 ((X 0).set (x + 1) (.int .i64 2))):=by
 obtain ⟨g,cap,t',e1,q1,r1,r2,z1,b1,g1,n1⟩:=h.elem (k:=0) (j:=x + 1) (by omega) hn (by omega)
 rw [show cellOf 0=2 from rfl] at q1
 have hK:=h.hK;have S1:=hide (h.set (k:=0) (by omega) e1 (x + 1) (.int .i64 2))
 have B1:Hid (aC Z w (w.setCell ⟨g,x + 1,none⟩ (.int .i64 2))):=(aC.refl _).setCell b1 _;have x0:(0:Int) <= (x:Int) + 1:=by omega
 have x1:(x:Int) + 1 < (n:Int):=by omega
 have x2:((x:Int) + 1).toNat=x + 1:=by omega
 have fZ:=h.fZ;have E1:=hide e1;have HM:=hide hm;clear h r2 e1;go_enter Tryz.func187,Tryz.ntmps187
 go_upto_region 1 with fail
 generalize hW1:w.setCell ⟨g,x + 1,none⟩ (.int .i64 2)=W1 at S1 B1 ⊢;clear hW1 q1 r1 z1;obtain ⟨y31,y32⟩:=S1.out.head 3 (by omega)
 rw [hl] at y31;have S2:=hide (S1.out.scalar 3 (.int .i64 (l - 1)) (by decide +kernel))
 have B2:Hid (aC Z w (W1.setCell ⟨sb,3,none⟩ (.int .i64 (l - 1)))):=B1.out.setCell fZ _;go_upto_region 2 with fail
 generalize hW2:W1.setCell ⟨sb,3,none⟩ (.int .i64 (l - 1))=W2 at S2 B2 ⊢;clear hW2 y31 y32 S1 B1;obtain ⟨y41,y42⟩:=S2.out.head 4 (by omega)
 rw [aa _ _ (by decide),hw] at y41
 have q2:=(S2.out.hd (k:=0) (by omega)).1
 rw [show cellOf 0=2 from rfl,E1.out] at q2
 have r2:=(S2.out.bC.cell (k:=0) (by omega) E1.out (j:=x) (by rw [ae,List.length_set];omega)).1
 rw [ae,List.getElem?_set_ne (by omega),HM.out] at r2
 have S3:=hide (S2.out.scalar 4 (.int .i64 (ws + (3 + m))) (by decide +kernel))
 have QS:Hid (∀ Y:World,Y.heap=W2.heap->Calls Tryz.prog 220 #[.pointer (some ⟨sb,2,none⟩),.int .i64 x] Y fun e w'=>e=.returned (.int .i64 m)/\w'=Y):=fun Y hY=>gZ sb 2 g n cap x m Y (by rw [show Y.cell? ⟨sb,2,none⟩=W2.cell? ⟨sb,2,none⟩ from World.cell?_of_block (a:=⟨sb,2,none⟩) (by rw [hY])];exact q2) (by omega) (by unfold maxLen;omega) (by rw [show Y.cell? ⟨g,x,none⟩=W2.cell? ⟨g,x,none⟩ from World.cell?_of_block (a:=⟨g,x,none⟩) (by rw [hY])];exact r2)
 have p1:IntKind.i64.wrap (3 + (m:Int))=3 + (m:Int):=tY _ (by omega) (by omega)
 have p2:IntKind.i64.wrap (ws + (3 + (m:Int)))=ws + (3 + (m:Int)):=tY _ (by omega) (by omega)
 go_region_with (go_at_call 220;refine (QS.out _ (by rfl)).mono ?_;rintro e8 w8 ⟨rfl,rfl⟩;simp only [])
 all_goals
  go_wp2;go_end0
  exact ⟨rfl,(B2.out.setCell fZ _).drew,S3.out.later (Below.refl _ _).drew⟩
end
section
open Go Go.RowKit Go.Deep Rd
variable {Z:Nat->Prop} {sb K:Nat} {w w':World} {f V:Nat->Value} {X:Nat->List Value}
theorem bE {α:Type} (f:Nat->α) (k:Nat) (a b:α):upd (upd f k a) k b=upd f k b:=by funext j;unfold upd;split <;> simp_all
def au (l:List Nat):List Value:=l.map fun (n:Nat)=>Value.int .i64 (n:Int)
theorem ag (l:List Nat):(au l).length=l.length:=by simp [au]
theorem eH (l:List Nat) (i:Nat) (h:i < l.length):(au l)[i]? = some (.int .i64 (l[i]:Nat)):=by simp [au,h]
def lG (T:List Value):List Nat->List Value
 | []=>T
 | x :: r=>lG ((T.set x (.int .i64 0)).set (op x) (.int .i64 0)) r
theorem Jv (T:List Value) (l:List Nat) (x:Nat):lG T (l ++ [x])=((lG T l).set x (.int .i64 0)).set (op x) (.int .i64 0):=by
 induction l generalizing T with
 | nil=>rfl
 | cons y r ih=>exact ih _
theorem vM (T:List Value) (l:List Nat):(lG T l).length=T.length:=by
 induction l generalizing T with
 | nil=>rfl
 | cons y r ih=>rw [lG,ih];simp
def XL (Z:Nat->Prop) (sb:Nat) (w:World) (K:Nat) (f V:Nat->Value) (X:Nat->List Value) (tr:List Nat) (i28:Value) (wr:World):Prop:=
 ∃ i:Nat,i28=.int .i64 i/\i <= tr.length/\Hid (aQ Z sb wr K f V (upd X 3 (lG (X 3) (tr.take i)))/\aC Z w wr)
theorem Ur (d0:Nat) (h:aQ Z sb w K f V X) (hd:(X 2).length <= d0) (hd2:d0 <= 1000):
  Calls Tryz.prog 177 #[.pointer (some ⟨sb,6,none⟩),.int .i64 d0] w fun e w'=>e=.returned (.slice none 0 0)/\w'=w:=by
 have hK:=h.hK;obtain ⟨a2,c2,e2⟩:=h.bC.shape (k:=2) (by omega)
 have q2:=(h.hd (k:=2) (by omega)).1
 rw [show cellOf 2=8 from rfl,e2] at q2
 have QD:Hid (∀ Y:World,Y.heap=w.heap->Calls Tryz.prog 99 #[.pointer (some ⟨sb,6,none⟩)] Y fun e w'=>e=.returned (.int .i64 (X 2).length)/\w'=Y):=fun Y hY=>jH sb 6 (X 2).length c2 Y a2 (by rw [show Y.cell? ⟨sb,6 + 2,none⟩=w.cell? ⟨sb,8,none⟩ from World.cell?_of_block (a:=⟨sb,8,none⟩) (by rw [hY])];exact q2)
 generalize (X 2).length=n at *
 have hh:(n:Int) <= (d0:Int):=by omega
 clear h e2;go_enter Tryz.func177,Tryz.ntmps177
 go_wp2_with (go_at_call 99;refine (QD.out _ (by rfl)).mono ?_;rintro e7 w7 ⟨rfl,rfl⟩)
 go_ret
 exact ⟨rfl,rfl⟩
def BP (Z:Nat->Prop) (sb:Nat) (w:World) (K:Nat) (f V:Nat->Value) (X:Nat->List Value) (tr ch:List Nat) (s d0:Nat) (e:Ending) (w':World):Prop:=
 ∃ g1 c1 g2 c2,V 1=.slice (some ⟨g1,0,none⟩) tr.length c1/\V 2=.slice (some ⟨g2,0,none⟩) ch.length c2/\e=.returned (.slice (some ⟨g1,s,none⟩) (tr.length - s) (c1 - s))/\aC Z w w'/\(∀ j (hj:j < tr.length),w'.cell? ⟨g1,j,none⟩=some (.int .i64 (tr[j]:Nat)))/\
  aQ Z sb w' K (upd (upd (upd f 6 (.slice (some ⟨g1,0,none⟩) s c1)) 8 (.slice (some ⟨g2,0,none⟩) d0 c2)) 7 (.int .i64 s)) (upd (upd V 1 (.slice (some ⟨g1,0,none⟩) s c1)) 2 (.slice (some ⟨g2,0,none⟩) d0 c2)) (upd (upd (upd X 3 (lG (X 3) (tr.drop s))) 1 (au (tr.take s))) 2 (au (ch.take d0)))
theorem P6 (d0 vars s:Nat) (tr ch:List Nat) (h:aQ Z sb w K f V X) (h1:X 1=au tr) (h2:X 2=au ch) (hd:d0 < ch.length) (hs:ch[d0]=s) (hst:s < tr.length) (h3:(X 3).length=2 * vars) (hl:∀ x ∈ tr,x < 2 * vars) (hvars:vars <= 50) (hn:tr.length <= 1000) (hc:ch.length <= 1000):
  Calls Tryz.prog 177 #[.pointer (some ⟨sb,6,none⟩),.int .i64 d0] w fun e w'=>BP Z sb w K f V X tr ch s d0 e w':=by
 have hK:=h.hK;have HS:=hide h;have n1:(X 1).length=tr.length:=by rw [h1,ag]
 have n2:(X 2).length=ch.length:=by rw [h2,ag]
 obtain ⟨g2,c2,t2,e2,q2,r2,s2,z2,b2,l2,m2⟩:=h.elem (k:=2) (j:=d0) (by omega) n2 hd
 rw [h2,eH ch d0 hd,hs] at s2;obtain rfl:=Option.some.inj s2;obtain ⟨g1,c1,t1,e1,q1,r1,s1,z1,b1,l1,m1⟩:=h.elem (k:=1) (j:=s) (by omega) n1 hst
 rw [show cellOf 1=6 from rfl] at q1
 rw [show cellOf 2=8 from rfl] at q2
 have QD:Hid (∀ Y:World,Y.heap=w.heap->Calls Tryz.prog 99 #[.pointer (some ⟨sb,6,none⟩)] Y fun e w'=>e=.returned (.int .i64 ch.length)/\w'=Y):=fun Y hY=>jH sb 6 ch.length c2 Y (some ⟨g2,0,none⟩) (by rw [show Y.cell? ⟨sb,6 + 2,none⟩=w.cell? ⟨sb,8,none⟩ from World.cell?_of_block (a:=⟨sb,8,none⟩) (by rw [hY])];exact q2)
 have Uq:tr.length <= c1:=by
  rcases (h.bC.own 1 (by omega)).2 with ⟨e,_⟩ | ⟨g,cap,cur,e,_,_,hn',_⟩
  ·rw [e1] at e;cases e
  ·rw [e1] at e;obtain ⟨_,_,q⟩:=Value.slice.inj e;rw [n1] at hn';omega
 have hh:¬ ((ch.length:Int) <= (d0:Int)):=by omega
 have d1:(0:Int) <= (d0:Int):=by omega
 have d2:(d0:Int) < (ch.length:Int):=by omega
 have k0:(0:Int) <= (s:Int):=by omega
 have k1:(s:Int) <= (tr.length:Int):=by omega
 have k2:(s:Int) <= (c1:Int):=by omega
 have k3:¬ (c1=s):=by omega
 have E1:=hide e1;have E2:=hide e2;clear h e2 e1 s1 s2;go_enter Tryz.func177,Tryz.ntmps177
 go_wp2_with (go_at_call 99;refine (QD.out _ (by rfl)).mono ?_;rintro e7 w7 ⟨rfl,rfl⟩)
 have E2':=E2;have LT:=hide hl;obtain ⟨u,hu⟩:∃ u,u=tr.drop s:=⟨_,rfl⟩;have ul:u.length=tr.length - s:=by rw [hu];simp
 have ua:Hid (∀ i (h:i < u.length) (h':s + i < tr.length),u[i]=tr[s + i]):=fun i h h'=>by simp [hu]
 rw [<- ul,show decide (ch.length <= d0)=false from decide_eq_false (by omega)]
 have UL:=hide ul;have HU:=hide hu;have um:u.length <= 1000:=by omega
 clear hh hl ul hu;go_loopw [8,28] (fun _ i wr=>XL Z sb w7 K f V X u i wr) (fun _ i _=>u.length - (intOf i).toNat)
 case atStart=>exact ⟨0,rfl,Nat.zero_le _,by rw [List.take_zero,show lG (X 3) []=X 3 from rfl,upd_same];exact ⟨HS.out,aC.refl _⟩⟩
 case round=>
  obtain ⟨i,rfl,hil,T⟩:=hrel;by_cases hlt:i < u.length
  ·have hsi:s + i < tr.length:=by have:=UL.out;omega
   have hc1:=(T.out.1.bC.cell (k:=1) (by omega) E1.out (j:=s + i) (by rw [aa _ _ (by decide),n1];exact hsi)).1
   rw [aa _ _ (by decide),h1,eH tr (s + i) hsi,<- ua.out i hlt hsi] at hc1
   have hx:u[i] < 2 * vars:=by rw [ua.out i hlt hsi];exact LT.out _ (List.getElem_mem _)
   have NX:Hid (lG (X 3) (u.take (i + 1))=((lG (X 3) (u.take i)).set u[i] (.int .i64 0)).set (op u[i]) (.int .i64 0)):=by
    unfold Hid;rw [List.take_add_one,List.getElem?_eq_getElem hlt,Option.toList_some,Jv]
   have A3:((upd X 3 (lG (X 3) (u.take i))) 3).length=2 * vars:=by rw [ae,vM];exact h3
   obtain ⟨x,hxe⟩:∃ x,u[i]=x:=⟨_,rfl⟩;rw [hxe] at hc1 hx NX;obtain ⟨g3,c3,t3,e3,q3,r3,_,z3,b3,l3,m3⟩:=T.out.1.elem (k:=3) (j:=x) (by omega) A3 hx
   rw [show cellOf 3=9 from rfl] at q3
   have S1:=hide (T.out.1.set (k:=3) (by omega) e3 x (.int .i64 0))
   rw [ae,bE] at S1;have B1:Hid (aC Z w7 (wr.setCell ⟨g3,x,none⟩ (.int .i64 0))):=T.out.2.setCell b3 _;have i0:(0:Int) <= (i:Int):=by omega
   have i1:(i:Int) < (u.length:Int):=by omega
   have x0:(0:Int) <= (x:Int):=by omega
   have x1:(x:Int) < ((2 * vars:Nat):Int):=by omega
   clear e3 hxe;go_upto_region 9 with fail
   generalize hW2:wr.setCell ⟨g3,x,none⟩ (.int .i64 0)=W2 at S1 B1 ⊢;clear hW2 q3 r3 z3 l3 m3 hc1;have oxl:op x < 2 * vars:=by unfold op;split <;> omega
   have A4:((upd X 3 ((lG (X 3) (u.take i)).set x (.int .i64 0))) 3).length=2 * vars:=by rw [ae,List.length_set,vM];exact h3
   obtain ⟨g4,c4,t4,e4,q4,r4,_,z4,b4,l4,m4⟩:=S1.out.elem (k:=3) (j:=op x) (by omega) A4 oxl
   rw [show cellOf 3=9 from rfl] at q4
   have S2:=hide (S1.out.set (k:=3) (by omega) e4 (op x) (.int .i64 0))
   rw [ae,bE,<- NX.out] at S2;have QO:=hide (fun Y=>iw x Y (by omega))
   have o0:(0:Int) <= ((op x:Nat):Int):=by omega
   have o1:((op x:Nat):Int) < ((2 * vars:Nat):Int):=by omega
   clear e4 NX;generalize op x=ox at *
   have T2:Hid (aQ Z sb (W2.setCell ⟨g4,ox,none⟩ (.int .i64 0)).drew K f V (upd X 3 (lG (X 3) (u.take (i + 1))))/\aC Z w7 (W2.setCell ⟨g4,ox,none⟩ (.int .i64 0)).drew):=⟨S2.out.later (Below.refl _ _).drew,(B1.out.setCell b4 _).drew⟩;go_region_with (go_at_call 139;refine (QO.out _).mono ?_;rintro e8 w8 ⟨rfl,rfl⟩;simp only [])
   all_goals
    go_wp2;go_roundw
    case rel=>exact ⟨i + 1,by go_num,by omega,T2⟩
    case measure=>simp [intOf];omega
  ·have ei:i=u.length:=by omega
   have S0:=hide T.out.1;have B0:=hide T.out.2;rw [ei,List.take_length,HU.out] at S0;have FL:=E1.out;have ZQ:Hid (aQ Z sb (wr.setCell ⟨sb,6,none⟩ (.slice (some ⟨g1,0,none⟩) s c1)) K (upd f 6 (.slice (some ⟨g1,0,none⟩) s c1)) (upd V 1 (.slice (some ⟨g1,0,none⟩) s c1)) (upd (upd X 3 (lG (X 3) (tr.drop s))) 1 (au (tr.take s)))):=by
    have h9:=S0.out.cut (k:=1) (m:=s) (by omega) FL (by rw [aa _ _ (by decide),n1];omega)
    rw [aa X _ (by decide:(1:Nat) ≠ 3),h1,show (au tr).take s=au (tr.take s) by unfold au;rw [List.map_take]] at h9
    exact h9
   have ZP:Hid (aQ Z sb ((wr.setCell ⟨sb,6,none⟩ (.slice (some ⟨g1,0,none⟩) s c1)).setCell ⟨sb,8,none⟩ (.slice (some ⟨g2,0,none⟩) d0 c2)) K (upd (upd f 6 (.slice (some ⟨g1,0,none⟩) s c1)) 8 (.slice (some ⟨g2,0,none⟩) d0 c2)) (upd (upd V 1 (.slice (some ⟨g1,0,none⟩) s c1)) 2 (.slice (some ⟨g2,0,none⟩) d0 c2)) (upd (upd (upd X 3 (lG (X 3) (tr.drop s))) 1 (au (tr.take s))) 2 (au (ch.take d0)))):=by
    have h9:=ZQ.out.cut (k:=2) (m:=d0) (a:=some ⟨g2,0,none⟩) (n:=ch.length) (cap:=c2) (by omega) (by rw [aa _ _ (by decide)];exact E2.out) (by rw [aa _ _ (by decide),aa _ _ (by decide),n2];omega)
    rw [aa _ _ (by decide:(2:Nat) ≠ 1),aa X _ (by decide:(2:Nat) ≠ 3),h2,show (au ch).take d0=au (ch.take d0) by unfold au;rw [List.map_take]] at h9
    exact h9
   have ZO:=hide (ZP.out.scalar 7 (.int .i64 s) (by decide +kernel))
   have CL:Hid (∀ j (hj:j < tr.length),(((wr.setCell ⟨sb,6,none⟩ (.slice (some ⟨g1,0,none⟩) s c1)).setCell ⟨sb,8,none⟩ (.slice (some ⟨g2,0,none⟩) d0 c2)).setCell ⟨sb,7,none⟩ (.int .i64 s)).cell? ⟨g1,j,none⟩=some (.int .i64 (tr[j]:Nat))):=fun j hj=>by
    rw [World.cell?_setCell_far _ _ _ _ (by simpa using fun e=>m1 e.symm),World.cell?_setCell_far _ _ _ _ (by simpa using fun e=>m1 e.symm),World.cell?_setCell_far _ _ _ _ (by simpa using fun e=>m1 e.symm)]
    have h9:=(S0.out.bC.cell (k:=1) (by omega) FL (j:=j) (by rw [aa _ _ (by decide),n1];exact hj)).1
    rw [aa _ _ (by decide),h1,eH tr j hj] at h9
    exact h9
   have fZ:=HS.out.fZ;have BF:Hid (aC Z w7 (((wr.setCell ⟨sb,6,none⟩ (.slice (some ⟨g1,0,none⟩) s c1)).setCell ⟨sb,8,none⟩ (.slice (some ⟨g2,0,none⟩) d0 c2)).setCell ⟨sb,7,none⟩ (.int .i64 s))):=((B0.out.setCell fZ _).setCell fZ _).setCell fZ _;have y1:=(S0.out.hd (k:=1) (by omega))
   have y2:=(S0.out.hd (k:=2) (by omega))
   rw [show cellOf 1=6 from rfl,FL] at y1
   rw [show cellOf 2=8 from rfl,E2.out] at y2
   obtain ⟨y11,y12⟩:=y1;obtain ⟨y21,y22⟩:=y2;obtain ⟨y71,y72⟩:=S0.out.head 7 (by omega)
   have cap2:ch.length <= c2:=by
    rcases (HS.out.bC.own 2 (by omega)).2 with ⟨e,_⟩ | ⟨g,cap,cur,e,_,_,hn',_⟩
    ·rw [E2.out] at e;cases e
    ·rw [E2.out] at e;obtain ⟨_,_,q⟩:=Value.slice.inj e;rw [n2] at hn';omega
   have dc:(d0:Int) <= (c2:Int):=by omega
   subst ei;clear FL;have FE:Hid (BP Z sb w7 K f V X tr ch s d0 (.returned (.slice (some ⟨g1,s,none⟩) (tr.length - s) (c1 - s))) (((wr.setCell ⟨sb,6,none⟩ (.slice (some ⟨g1,0,none⟩) s c1)).setCell ⟨sb,8,none⟩ (.slice (some ⟨g2,0,none⟩) d0 c2)).setCell ⟨sb,7,none⟩ (.int .i64 s))):=
    ⟨g1,c1,g2,c2,E1.out,E2.out,rfl,BF.out,CL.out,ZO.out⟩
   rw [<- UL.out] at FE;clear CL BF ZQ ZP ZO S0 B0;go_wp2;go_ret;exact FE.out
end
section
open Go Go.RowKit Go.Deep Rd
variable {Z:Nat->Prop} {sb K:Nat} {w w':World} {f V:Nat->Value} {X:Nat->List Value}
theorem aQ.UK (h:aQ Z sb w K f V X) {k:Nat} (hk:k < 13) {v':Value} {w6:World} {m:Nat} {news:List Value} (hm:news.length=m) (A:aB w 0 (iC k) 1 (V k) (X k).length (X k) m news v' w6):
  aQ Z sb (w6.setCell ⟨sb,cellOf k,none⟩ v') K (upd f (cellOf k) v') (upd V k v') (upd X k (X k ++ news))/\aC Z w (w6.setCell ⟨sb,cellOf k,none⟩ v')/\∀ j,j < 22->w6.cell? ⟨sb,j,none⟩=some (f j)/\w6.frozen? ⟨sb,j,none⟩=false:=by
 have wW:k < K:=by have:=h.hK;omega
 have hlt:=h.row.lt;have hr:=h.row.of_block (A.grew.block sb hlt (fun e=>h.far wW sb e.symm rfl))
 refine ⟨h.header hk hr (h.bC.push wW hm A) rfl (fun i hi g hg=>?_) A.grew.size (fun i hi g hg=>?_),((aC.refl w).grown A.grew (fun g hg=>h.al k wW g hg)).setCell h.fZ _,fun j hj=>⟨hr.cell hj,hr.frozen j⟩⟩
 ·by_cases e:i=k
  ·subst e;rw [ae] at hg
   rcases A.at' with h1 | h1
   ·rw [h1] at hg;exact h.far hi g hg
   ·rw [h1] at hg;have:=Option.some.inj hg;omega
  ·rw [aa _ _ e] at hg;exact h.far hi g hg
 ·by_cases e:i=k
  ·subst e;rw [ae] at hg
   rcases A.at' with h1 | h1
   ·rw [h1] at hg;exact h.al i hi g hg
   ·rw [h1] at hg;have:=Option.some.inj hg;exact h.az g (by omega)
  ·rw [aa _ _ e] at hg;exact h.al i hi g hg
def LP (sb:Nat) (V0:Value) (w:World) (v:Value) (c:List Nat):Prop:=∃ (a:Option Addr) (cp bs off:Nat),v=.slice a c.length cp/\(a=none->cp=0)/\(0 < c.length->a=some ⟨bs,off,none⟩/\bs < w.heap.size/\bs ≠ sb/\V0.ownBlock ≠ some bs/\∀ j (hj:j < c.length),w.cell? ⟨bs,off + j,none⟩=some (.int .i64 (c[j]:Nat)))
theorem Fg (c:List Nat) (kind:Nat) (l:Int) (v:Value) (h:aQ Z sb w K f V X) (hL:LP sb (V 0) w v c) (hc:c.length <= 1000) (hk:kind <= 2) (hn:(X 0).length <= 1099511627776) (hl:f 3=.int .i64 l) (l0:0 <= l) (l1:l <= 4611686018427387904):
  Calls Tryz.prog 132 #[.pointer (some ⟨sb,2,none⟩),v,.int .i64 kind] w fun e w'=>e=.returned (.int .i64 (X 0).length)/\aC Z w w'/\∃ v',aQ Z sb w' K (upd (upd f 2 v') 3 (.int .i64 (if kind=1 then l + 1 else l))) (upd V 0 v') (upd X 0 (X 0 ++ au (c.length :: kind :: 0 :: c))):=by
 obtain ⟨i0,hi,hz0,hz1,hz2⟩:=info_parts Tryz.cu;obtain ⟨a,cp,bs,off,rfl,hna,hL⟩:=hL;have HS:=hide h;have HL:=hide hL;have hK:=h.hK;obtain ⟨a0,c0,e0⟩:=h.bC.shape (k:=0) (by omega)
 have q0:=(h.hd (k:=0) (by omega)).1
 rw [show cellOf 0=2 from rfl,e0] at q0
 have O0:Hid (w.ownsRow 0 3 1 (.slice a0 (X 0).length c0) (X 0).length (X 0)):=by
  have:=h.bC.own 0 (by omega)
  rw [e0] at this;exact this
 have E0:=hide e0;have hsb:=h.row.lt;have ns:¬ (sb=w.heap.size):=by omega
 clear h e0 hL;go_enter Tryz.func132,Tryz.ntmps132
 go_wp2_with (at_builtin;refine aU _ rfl _ _ 43 rfl 0 3 i0 (.int .i64 0) 1 8 Tryz.underlying43 hi hz0 hz1 hz2 rfl (by decide) _ _ _ rfl (O0.out.alloc (Obj.cells #[.int .i64 (c.length:Int),.int .i64 (kind:Int),.int .i64 0] 3)) (.slice (some ⟨w.heap.size,0,none⟩) 3 3) 3 [.int .i64 (c.length:Int),.int .i64 (kind:Int),.int .i64 0] rfl (.inr ⟨⟨w.heap.size,0,none⟩,3,rfl,World.news_of_block (cs:=#[.int .i64 (c.length:Int),.int .i64 (kind:Int),.int .i64 0]) (t:=3) (fr:=(0,0)) (heap_alloc_new w _)⟩) rfl (by simp [Value.oneCell']) (by unfold maxLen;omega) (by omega) (Nat.zero_le _) ?_)
 intro v6 w6 A6;have A7:aB (w.alloc (Obj.cells #[.int .i64 (c.length:Int),.int .i64 (kind:Int),.int .i64 0] 3)) 0 (iC 0) 1 (V 0) (X 0).length (X 0) 3 [.int .i64 (c.length:Int),.int .i64 (kind:Int),.int .i64 0] v6 w6:=by rw [E0.out];exact A6
 have S6:=hide (HS.out.push (k:=0) (m:=3) (news:=[.int .i64 (c.length:Int),.int .i64 (kind:Int),.int .i64 0]) (by omega) rfl A7)
 have B6:=hide (HS.out.jY (k:=0) (by omega) A7 2 v6)
 have g6:=(HS.out.gM (k:=0) (by omega) A7 2 (by omega)).1
 have z6:=(HS.out.gM (k:=0) (by omega) A7 2 (by omega)).2
 have C6:Hid (0 < c.length->∀ j (hj:j < c.length),(w6.setCell ⟨sb,2,none⟩ v6).cell? ⟨bs,off + j,none⟩=some (.int .i64 (c[j]:Nat))):=fun hp j hj=>by
  obtain ⟨_,h2,h3,h4,h5⟩:=HL.out hp;rw [World.cell?_setCell_far _ _ _ _ (by simpa using fun e=>h3 e.symm),World.cell?_of_block (w:=w) (a:=⟨bs,off + j,none⟩) ((A7.grew.block bs (by simp;omega) (fun e=>h4 e.symm)).trans (Below.heap_alloc w _ bs h2))]
  exact h5 j hj
 have V6:Hid (v6.ownBlock=some bs->0 < c.length->False):=fun e hp=>by
  obtain ⟨_,h2,h3,h4,h5⟩:=HL.out hp
  rcases A7.at' with h1 | h1
  ·rw [h1] at e;exact h4 e
  ·rw [h1] at e;have:=Option.some.inj e;simp at this;omega
 obtain ⟨qL,qK,hv6⟩:=aH A6.own;subst hv6;rw [show cellOf 0=2 from rfl] at S6
 clear A6 A7 q0 O0;go_upto_region 3 with fail
 generalize hW1:w6.setCell ⟨sb,2,none⟩ (.slice qL ((X 0).length + 3) qK)=W1 at S6 B6 C6 ⊢;clear hW1 g6 z6;obtain ⟨N0,hN0⟩:∃ l,l=X 0 ++ [.int .i64 (c.length:Int),.int .i64 (kind:Int),.int .i64 0]:=⟨_,rfl⟩;have nl:N0.length=(X 0).length + 3:=by rw [hN0];simp
 rw [<- hN0] at S6;have q0:=(S6.out.hd (k:=0) (by omega)).1
 rw [show cellOf 0=2 from rfl,ae,<- nl] at q0
 have O1:Hid (W1.ownsRow 0 3 1 (.slice qL N0.length qK) N0.length N0):=by
  have:=S6.out.bC.own 0 (by omega)
  rw [ae,ae,<- nl] at this;exact this
 have SRC:Hid (Src W1 (.slice a c.length cp) c.length (au c)):=by
  unfold Hid Src
  rcases Nat.eq_zero_or_pos c.length with e | hp
  ·have cn:c=[]:=List.eq_nil_of_length_eq_zero e;subst cn
   cases a with
   | none=>exact .inl ⟨by rw [hna rfl];rfl,rfl,rfl⟩
   | some ad=>exact .inr ⟨ad,cp,rfl,fun j u hu=>by simp [au] at hu⟩
  ·refine .inr ?_;obtain ⟨ha,_⟩:=HL.out hp;refine ⟨⟨bs,off,none⟩,cp,by rw [ha],fun j u hu=>?_⟩
   have hj:j < c.length:=by
    rcases Nat.lt_or_ge j c.length with h | h
    ·exact h
    ·rw [List.getElem?_eq_none (by rw [ag];exact h)] at hu;cases hu
   rw [eH c j hj] at hu;obtain rfl:=Option.some.inj hu;rw [show (Addr.add ⟨bs,off,none⟩ j:Addr)=⟨bs,off + j,none⟩ by simp [Addr.add]]
   exact C6.out hp j hj
 have HN0:=hide hN0;have NL:=hide nl;have nlb:N0.length <= 1099511627779:=by omega
 have cl1:(au c).length=c.length * 1:=by rw [ag];omega
 have one:∀ u ∈ au c,u.oneCell'=true:=fun u hu=>by
  unfold au at hu;obtain ⟨y,_,rfl⟩:=List.mem_map.1 hu;rfl
 rw [<- nl] at S6 ⊢;clear hN0 nl;go_wp2_with (at_builtin;refine aU _ rfl _ _ 43 rfl 0 3 i0 (.int .i64 0) 1 8 Tryz.underlying43 hi hz0 hz1 hz2 rfl (by decide) _ _ _ rfl O1.out (.slice a c.length cp) c.length (au c) rfl SRC.out cl1 one (by unfold maxLen;omega) (by omega) (Nat.zero_le _) ?_)
 intro v8 w8 A8;have A9:aB W1 0 (iC 0) 1 ((upd V 0 (.slice qL N0.length qK)) 0) ((upd X 0 N0) 0).length ((upd X 0 N0) 0) c.length (au c) v8 w8:=by rw [ae,ae];exact A8
 obtain ⟨s8,b8,c8⟩:=S6.out.UK (k:=0) (by omega) (ag c) A9
 rw [show cellOf 0=2 from rfl] at s8 b8
 have S8:=hide s8;have B8:=hide (B6.out.trans b8);obtain ⟨g8,z8⟩:=c8 2 (by omega)
 obtain ⟨XR,XQ,hv8⟩:=aH A8.own;subst hv8;clear s8 b8 c8 A8 A9 q0 O1 SRC;go_upto_region 4 with fail
 generalize hW2:w8.setCell ⟨sb,2,none⟩ (.slice XR (N0.length + c.length) XQ)=W2 at S8 B8 ⊢;clear hW2 g8 z8;have FX:Hid ((upd (upd X 0 N0) 0 ((upd X 0 N0) 0 ++ au c))=upd X 0 (X 0 ++ au (c.length :: kind :: 0 :: c))):=by
  unfold Hid;rw [ae,bE,HN0.out,List.append_assoc];rfl
 rw [FX.out,bE,bE] at S8;obtain ⟨y31,y32⟩:=S8.out.head 3 (by omega)
 rw [aa _ _ (by decide),hl] at y31
 by_cases k1:kind=1
 ·subst k1;have S9:=hide (S8.out.scalar 3 (.int .i64 (l + 1)) (by decide +kernel))
  have B9:Hid (aC Z w (W2.setCell ⟨sb,3,none⟩ (.int .i64 (l + 1)))):=B8.out.setCell HS.out.fZ _;go_wp2;go_ret;exact ⟨rfl,B9.out,_,S9.out⟩
 ·have kb:((kind:Int) == 1)=false:=by simp;omega
  have S9:Hid (aQ Z sb W2 K (upd (upd f 2 (.slice XR (N0.length + c.length) XQ)) 3 (.int .i64 l)) (upd V 0 (.slice XR (N0.length + c.length) XQ)) (upd X 0 (X 0 ++ au (c.length :: kind :: 0 :: c)))):=by
   have e:upd (upd f 2 (.slice XR (N0.length + c.length) XQ)) 3 (.int .i64 l)=upd f 2 (.slice XR (N0.length + c.length) XQ):=by
    funext j;unfold upd
    by_cases h3:j=3
    ·subst h3;simp [hl]
    ·simp [h3]
   rw [e];exact S8.out
  go_wp2;go_ret
  exact ⟨rfl,B8.out,_,S9.out⟩
end
section
open Rd
def By (tr:List Nat) (rs:Nat->Option (List Nat)) (p:Nat->Prop) (i:Nat):Prop:=∃ h:i < tr.length,∃ c r,rs (tr[i] / 2)=some c/\c=tr[i] :: r/\∀ y ∈ r,p (y / 2)
structure Ie (tr:List Nat) (rs:Nat->Option (List Nat)) (lev:Nat->Nat) (last:Nat) (c0:List Nat) (seen fol:Nat->Prop) (iu:Nat) (kept:List Nat):Prop where
 hiu:iu < tr.length
 first:∀ y ∈ c0,lev (y / 2)=0\/seen (y / 2)
 behind:∀ i (h:i < tr.length),iu < i->seen (tr[i] / 2)->By tr rs (fun v=>lev v=0\/seen v) i
 low:∀ i (h:i < tr.length),last <= i->i < iu->¬ seen (tr[i] / 2)
 YZ:last <= iu
 follows:∀ i (h:i < tr.length),i < last->fol (tr[i] / 2)->seen (tr[i] / 2)\/By tr rs fol i
 UZ:∀ i (h:i < tr.length),i < last->seen (tr[i] / 2)->op tr[i] ∈ kept\/By tr rs fol i
 zero:∀ i (h:i < tr.length),lev (tr[i] / 2)=0->By tr rs (fun v=>lev v=0) i
 Er:∀ v,fol v->∃ i,∃ h:i < tr.length,i < last/\tr[i] / 2=v
theorem By.mono {tr:List Nat} {rs:Nat->Option (List Nat)} {p q:Nat->Prop} {i:Nat} (h:By tr rs p i) (hpq:∀ v,p v->q v):By tr rs q i:=by
 obtain ⟨hi,c,r,h1,h2,h3⟩:=h;exact ⟨hi,c,r,h1,h2,fun y hy=>hpq _ (h3 y hy)⟩
theorem Ie.conf {L:List Cl} {tr:List Nat} {rs:Nat->Option (List Nat)} {lev:Nat->Nat} {last:Nat} {c0:List Nat} {seen fol:Nat->Prop} {iu:Nat} {kept:List Nat} (H:Ie tr rs lev last c0 seen fol iu kept) (T:Trail L tr rs) (h0:There L c0) (hf:∀ y ∈ c0,op y ∈ tr):
  nJ L (((tr[iu]'H.hiu) :: kept.map op).map wr):=by
 refine wO (N:=fun v=>lev v=0\/seen v\/fol v) T (fun i h hN=>?_) h0 hf (fun y hy=>(H.first y hy).imp id .inl)
 have fin:By tr rs (fun v=>lev v=0\/seen v\/fol v) i->tr[i] ∈ (tr[iu]'H.hiu) :: kept.map op\/∃ c r,rs (tr[i] / 2)=some c/\c=tr[i] :: r/\∀ y ∈ r,(lev (y / 2)=0\/seen (y / 2)\/fol (y / 2)):=fun hb=>by
  obtain ⟨_,r⟩:=hb;exact .inr r
 have early:i < last->seen (tr[i] / 2)\/fol (tr[i] / 2)->tr[i] ∈ (tr[iu]'H.hiu) :: kept.map op\/∃ c r,rs (tr[i] / 2)=some c/\c=tr[i] :: r/\∀ y ∈ r,(lev (y / 2)=0\/seen (y / 2)\/fol (y / 2)):=fun hl hs=>by
  have key:seen (tr[i] / 2)->tr[i] ∈ (tr[iu]'H.hiu) :: kept.map op\/∃ c r,rs (tr[i] / 2)=some c/\c=tr[i] :: r/\∀ y ∈ r,(lev (y / 2)=0\/seen (y / 2)\/fol (y / 2)):=fun hs=>by
   rcases H.UZ i h hl hs with hk | hb
   ·exact .inl (List.mem_cons_of_mem _ (List.mem_map.2 ⟨_,hk,gQ _⟩))
   ·exact fin (hb.mono fun v hv=>.inr (.inr hv))
  rcases hs with hs | hs
  ·exact key hs
  ·rcases H.follows i h hl hs with hs | hb
   ·exact key hs
   ·exact fin (hb.mono fun v hv=>.inr (.inr hv))
 rcases hN with hz | hs | hs
 ·exact fin ((H.zero i h hz).mono fun v hv=>.inl hv)
 ·rcases Nat.lt_or_ge i last with hl | hl
  ·exact early hl (.inl hs)
  ·rcases Nat.lt_trichotomy i iu with h1 | h1 | h1
   ·exact absurd hs (H.low i h hl h1)
   ·subst h1;exact .inl (List.mem_cons_self ..)
   ·exact fin ((H.behind i h h1 hs).mono fun v hv=>hv.imp id .inl)
 ·obtain ⟨j,hj,hjl,e⟩:=H.Er _ hs;have:j=i:=by
   have h1:(tr.map (· / 2))[j]'(by simpa using hj)=(tr.map (· / 2))[i]'(by simpa using h):=by simpa using e
   exact (List.getElem_inj T.nodup).1 h1
  subst this;exact early hjl (.inr hs)
end
def dI:Nat->List Bool->Nat
 | 0,_=>0
 | _ + 1,[]=>0
 | n + 1,b :: r=>(if b then 2 ^ n else 0) + dI n r
theorem CY (n:Nat):dI n []=0:=by cases n <;> rfl
theorem Aw:∀ (n:Nat) (l:List Bool),dI n l < 2 ^ n
 | 0,_=>by simp [dI]
 | n + 1,[]=>by simp only [dI];exact Nat.pos_of_ne_zero (by simp)
 | n + 1,b :: r=>by
  have:=Aw n r;simp only [dI];rw [Nat.pow_succ];cases b <;> simp <;> omega
theorem qy:∀ (n:Nat) (l:List Bool),dI n (l ++ [false])=dI n l
 | 0,l=>rfl
 | n + 1,[]=>by simp [dI,CY]
 | n + 1,b :: r=>by
  simp only [List.cons_append,dI];rw [qy n r]
theorem sI:∀ (n:Nat) (p r:List Bool),p.length < n->dI n (p ++ false :: r) < dI n (p ++ [true])
 | 0,p,r,h=>by simp at h
 | n + 1,[],r,h=>by
  have:=Aw n r;simp only [List.nil_append,dI,CY];simp;omega
 | n + 1,b :: p,r,h=>by
  have:=sI n p r (by simpa using h)
  simp only [List.cons_append,dI];omega
theorem JZ (n:Nat) (l:List Bool) (h:l.length < n):dI n l < dI n (l ++ [true]):=by
 have h1:=sI n l [] h;rw [qy] at h1;exact h1
def bits (len:Nat) (ch:List Nat):List Bool:=(List.range len).map fun p=>!ch.contains p
theorem xI (len:Nat) (ch:List Nat):(bits len ch).length=len:=by simp [bits]
theorem uF {len:Nat} {ch:List Nat} (h:∀ p ∈ ch,p < len):bits (len + 1) ch=bits len ch ++ [true]:=by
 unfold bits;rw [List.range_succ,List.map_append]
 congr 1
 have:¬ len ∈ ch:=fun hm=>by have:=h len hm;omega
 simp [this]
theorem EU {len:Nat} {ch:List Nat} (h:∀ p ∈ ch,p < len):bits (len + 1) (ch ++ [len])=bits len ch ++ [false]:=by
 unfold bits;rw [List.range_succ,List.map_append]
 congr 1
 ·apply List.map_congr_left
  intro p hp;have hp:=List.mem_range.1 hp;have:p ≠ len:=by omega
  simp [List.contains_eq_mem,this]
 ·simp
def Fz (ch:List Nat) (len:Nat):Prop:=ch.Pairwise (· < ·)/\∀ p ∈ ch,p < len
theorem LD {len:Nat} {ch:List Nat} (h:Fz ch len) {d:Nat} (hd:d < ch.length):∃ r,bits len ch=bits ch[d] (ch.take d) ++ false :: r:=by
 have hs:ch[d] < len:=h.2 _ (List.getElem_mem hd);refine ⟨((List.range len).drop (ch[d] + 1)).map fun p=>!ch.contains p,?_⟩
 unfold bits;have e:List.range len=List.range ch[d] ++ ch[d] :: (List.range len).drop (ch[d] + 1):=by
  refine List.ext_getElem? fun i=>?_
  rcases Nat.lt_trichotomy i ch[d] with h1 | h1 | h1
  ·rw [List.getElem?_append_left (by simpa using h1),List.getElem?_range h1,List.getElem?_range (by omega)]
  ·rw [h1,List.getElem?_append_right (by simp)]
   simp [hs]
  ·rw [List.getElem?_append_right (by simp;omega)]
   simp only [List.length_range];obtain ⟨k,hk⟩:∃ k,i - ch[d]=k + 1:=⟨i - ch[d] - 1,by omega⟩
   rw [hk,List.getElem?_cons_succ,List.getElem?_drop]
   congr 1;omega
 conv=>lhs;rw [e]
 rw [List.map_append,List.map_cons];have pw:=h.1
 congr 1
 ·apply List.map_congr_left
  intro p hp;have hp:=List.mem_range.1 hp
  congr 1
  rw [List.contains_eq_mem,List.contains_eq_mem];apply decide_eq_decide.2;constructor
  ·intro hm;obtain ⟨j,hj,rfl⟩:=List.mem_iff_getElem.1 hm;refine List.mem_iff_getElem.2 ⟨j,?_,List.getElem_take⟩;rw [List.length_take]
   rcases Nat.lt_or_ge j d with h1 | h1
   ·omega
   ·rcases Nat.eq_or_lt_of_le h1 with h2 | h2
    ·subst h2;omega
    ·have:=List.pairwise_iff_getElem.1 pw d j hd hj h2;omega
  ·exact fun hm=>List.mem_of_mem_take hm
 ·have:ch.contains ch[d]=true:=by rw [List.contains_iff_mem];exact List.getElem_mem hd
  rw [this];rfl
theorem Gn {n len:Nat} {ch:List Nat} (h:Fz ch len) {d:Nat} (hd:d < ch.length) (hl:len <= n):dI n (bits len ch) < dI n (bits (ch[d] + 1) (ch.take d)):=by
 obtain ⟨r,e⟩:=LD h hd;have hs:ch[d] < len:=h.2 _ (List.getElem_mem hd);rw [e,uF (fun p hp=>by
  obtain ⟨j,hj,rfl⟩:=List.mem_iff_getElem.1 hp;rw [List.length_take] at hj;rw [List.getElem_take];exact List.pairwise_iff_getElem.1 h.1 j d (by omega) hd (by omega))]
 exact sI n _ _ (by rw [xI];omega)
end So
end Go.Proofs.YtceahffmenbibaaGreatDoor
