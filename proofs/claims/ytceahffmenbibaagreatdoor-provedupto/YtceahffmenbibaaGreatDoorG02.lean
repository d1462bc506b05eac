/- Slit Srd Scl Sasg Sdel Sbck Sadd Sles. -/
import Derived.Test.YtceahffmenbibaaGreatDoorG01
import Derived.Test.YtceahffmenbibaaGreatDoorG00
import Derived.BigQuiet
import Derived.Deep.CutRange
import Derived.Deep.RegionWith
import Derived.Outline
set_option linter.unusedVariables false
set_option linter.unusedSimpArgs false
namespace Go.Proofs.YtceahffmenbibaaGreatDoor
namespace So
open Go Go.RowKit
theorem variableOf_any (x:Nat) (w:World) (hx:x ≤ 1000):Calls Tryz.prog 176 #[.int .i64 x] w fun e w'=>e=.returned (.int .i64 ((x / 2:Nat):Int))∧w'=w:=by
 have hd:Int.tdiv (x:Int) 2=((x / 2:Nat):Int):=by rw [Int.tdiv_eq_ediv_of_nonneg (by omega)];omega
 go_enter Tryz.func176,Tryz.ntmps176
 go_wp2
 go_ret
 exact ⟨rfl,rfl⟩
theorem saysTrue_any (x:Nat) (w:World) (hx:x ≤ 1000):Calls Tryz.prog 215 #[.int .i64 x] w fun e w'=>e=.returned (.bool (decide (x % 2=0)))∧w'=w:=by
 have hd:Int.tmod (x:Int) 2=((x % 2:Nat):Int):=by rw [Int.tmod_eq_emod_of_nonneg (by omega)];omega
 go_enter Tryz.func215,Tryz.ntmps215
 go_wp2
 go_ret
 refine ⟨?_,rfl⟩
 congr 2
 rcases Nat.mod_two_eq_zero_or_one x with h | h
 ·simp [h];omega
 ·simp [h];omega
theorem xor_one:∀ x:Nat,x < 128→Go.bits .xor .i64 (x:Int) 1=((op x:Nat):Int):=by decide +kernel
theorem opposite_any (x:Nat) (w:World) (hx:x < 128):Calls Tryz.prog 139 #[.int .i64 x] w fun e w'=>e=.returned (.int .i64 ((op x:Nat):Int))∧w'=w:=by
 have hb:=xor_one x hx
 go_enter Tryz.func139,Tryz.ntmps139
 go_wp2
 go_ret
 exact ⟨rfl,rfl⟩
def lit (z:Int):Nat:=if z < 0 then 2 * ((-z).toNat - 1) + 1 else 2 * (z.toNat - 1)
theorem wr_lit {z:Int} (h:z ≠ 0):wr (lit z)=z:=by
 unfold wr lit
 split <;> split <;> omega
theorem literalOf_any (z:Int) (w:World) (hz:z ≠ 0) (h1:-64 ≤ z) (h2:z ≤ 64):Calls Tryz.prog 95 #[.int .i64 z] w fun e w'=>e=.returned (.int .i64 ((lit z:Nat):Int))∧w'=w:=by
 by_cases h:z < 0
 ·have hl:((lit z:Nat):Int)=2 * (-z - 1) + 1:=by unfold lit;rw [if_pos h];omega
  rw [hl]
  go_enter Tryz.func95,Tryz.ntmps95
  go_wp2
  go_ret
  exact ⟨rfl,rfl⟩
 ·have hl:((lit z:Nat):Int)=2 * (z - 1):=by unfold lit;rw [if_neg h];omega
  rw [hl]
  go_enter Tryz.func95,Tryz.ntmps95
  go_wp2
  go_ret
  exact ⟨rfl,rfl⟩
theorem writtenOf_any (x:Nat) (w:World) (hx:x ≤ 1000):Calls Tryz.prog 181 #[.int .i64 x] w fun e w'=>e=.returned (.int .i64 (wr x))∧w'=w:=by
 obtain ⟨t,ht⟩:∃ t,decide (x % 2=0)=t:=⟨_,rfl⟩
 have QV:=Rd.hide (fun V=>variableOf_any x V hx)
 have QS:=Rd.hide (fun V=>saysTrue_any x V hx)
 rw [ht] at QS
 have hd:(x / 2:Nat) ≤ 500:=by omega
 have HW:Hid (wr x=if t then ((x / 2:Nat):Int) + 1 else -(((x / 2:Nat):Int) + 1)):=by
  unfold Hid wr
  subst ht
  by_cases h:x % 2=0 <;> simp [h]
 generalize x / 2=v at QV hd HW
 clear ht
 go_enter Tryz.func181,Tryz.ntmps181
 cases t with
 | true=>
  go_wp2_with (first | (go_at_call 176;refine (Rd.unhide QV _).mono ?_;rintro e w' ⟨rfl,rfl⟩) | (go_at_call 215;refine (Rd.unhide QS _).mono ?_;rintro e w' ⟨rfl,rfl⟩))
  go_ret
  exact ⟨by rw [Rd.unhide HW];rfl,rfl⟩
 | false=>
  go_wp2_with (first | (go_at_call 176;refine (Rd.unhide QV _).mono ?_;rintro e w' ⟨rfl,rfl⟩) | (go_at_call 215;refine (Rd.unhide QS _).mono ?_;rintro e w' ⟨rfl,rfl⟩))
  go_ret
  exact ⟨by rw [Rd.unhide HW];rfl,rfl⟩
end So
end Go.Proofs.YtceahffmenbibaaGreatDoor
namespace Go.Proofs.YtceahffmenbibaaGreatDoor
namespace So
open Go Go.RowKit
variable (sb o g n cap x:Nat) (t:Int) (w:World)
theorem isTrue_any (h0:w.cell? ⟨sb,o + 3,none⟩=some (.slice (some ⟨g,0,none⟩) n cap)) (hx:x < n) (hc:w.cell? ⟨g,x,none⟩=some (.int .i64 t)):
  Calls Tryz.prog 103 #[.pointer (some ⟨sb,o,none⟩),.int .i64 x] w fun e w'=>e=.returned (.bool (decide (0 < t)))∧w'=w:=by
 have x0:(0:Int) ≤ (x:Int):=by omega
 have x1:(x:Int) < (n:Int):=by omega
 go_enter Tryz.func103,Tryz.ntmps103
 go_wp2
 go_ret
 exact ⟨rfl,rfl⟩
theorem isFalse_any (h0:w.cell? ⟨sb,o + 3,none⟩=some (.slice (some ⟨g,0,none⟩) n cap)) (hx:x < n) (hc:w.cell? ⟨g,x,none⟩=some (.int .i64 t)):
  Calls Tryz.prog 134 #[.pointer (some ⟨sb,o,none⟩),.int .i64 x] w fun e w'=>e=.returned (.bool (decide (t < 0)))∧w'=w:=by
 have x0:(0:Int) ≤ (x:Int):=by omega
 have x1:(x:Int) < (n:Int):=by omega
 go_enter Tryz.func134,Tryz.ntmps134
 go_wp2
 go_ret
 exact ⟨rfl,rfl⟩
theorem isOpen_any (h0:w.cell? ⟨sb,o + 3,none⟩=some (.slice (some ⟨g,0,none⟩) n cap)) (hx:x < n) (hc:w.cell? ⟨g,x,none⟩=some (.int .i64 t)):
  Calls Tryz.prog 135 #[.pointer (some ⟨sb,o,none⟩),.int .i64 x] w fun e w'=>e=.returned (.bool (t == 0))∧w'=w:=by
 have x0:(0:Int) ≤ (x:Int):=by omega
 have x1:(x:Int) < (n:Int):=by omega
 go_enter Tryz.func135,Tryz.ntmps135
 go_wp2
 go_ret
 exact ⟨rfl,rfl⟩
theorem depth_any (a:Option Addr) (h0:w.cell? ⟨sb,o + 2,none⟩=some (.slice a n cap)):
  Calls Tryz.prog 99 #[.pointer (some ⟨sb,o,none⟩)] w fun e w'=>e=.returned (.int .i64 n)∧w'=w:=by
 go_enter Tryz.func99,Tryz.ntmps99
 go_wp2
 go_ret
 exact ⟨rfl,rfl⟩
theorem size_any (h0:w.cell? ⟨sb,o,none⟩=some (.slice (some ⟨g,0,none⟩) n cap)) (hx:x < n) (hn:n ≤ maxLen) (hc:w.cell? ⟨g,x,none⟩=some (.int .i64 t)):
  Calls Tryz.prog 220 #[.pointer (some ⟨sb,o,none⟩),.int .i64 x] w fun e w'=>e=.returned (.int .i64 t)∧w'=w:=by
 unfold maxLen at hn
 have x0:(0:Int) ≤ (x:Int):=by omega
 have x1:(x:Int) < (n:Int):=by omega
 go_enter Tryz.func220,Tryz.ntmps220
 go_wp2
 go_ret
 exact ⟨rfl,rfl⟩
end So
end Go.Proofs.YtceahffmenbibaaGreatDoor
namespace Go.Proofs.YtceahffmenbibaaGreatDoor
namespace So
open Go Go.RowKit
variable (sb o g n cap x m:Nat) (w:World)
theorem behind_any (h0:w.cell? ⟨sb,o,none⟩=some (.slice (some ⟨g,0,none⟩) n cap)) (hx:x + 3 + m ≤ n) (hn:n ≤ maxLen) (hc:w.cell? ⟨g,x,none⟩=some (.int .i64 m)):
  Calls Tryz.prog 213 #[.pointer (some ⟨sb,o,none⟩),.int .i64 x] w fun e w'=>e=.returned (.int .i64 ((x + 3 + m:Nat):Int))∧w'=w:=by
 have QS:=Rd.hide (fun (V:World) (hV:V.cell? ⟨sb,o,none⟩=some (.slice (some ⟨g,0,none⟩) n cap)) (hc:V.cell? ⟨g,x,none⟩=some (.int .i64 m))=>size_any sb o g n cap x m V hV (by omega) hn hc)
 unfold maxLen at hn
 have e:Hid (((x + 3 + m:Nat):Int)=(x:Int) + 3 + m):=by unfold Hid;omega
 go_enter Tryz.func213,Tryz.ntmps213
 go_wp2_with (go_at_call 220;refine (Rd.unhide QS _ h0 hc).mono ?_;rintro e w' ⟨rfl,rfl⟩)
 go_ret
 refine ⟨?_,rfl⟩
 rw [Rd.unhide e]
 rfl
def litsAt (g x m cap:Nat):Value:=.slice (if cap=x + 3 then some ⟨g,0,none⟩ else some ⟨g,x + 3,none⟩) m (cap - (x + 3))
set_option maxHeartbeats 1000000 in
theorem literals_any (h0:w.cell? ⟨sb,o,none⟩=some (.slice (some ⟨g,0,none⟩) n cap)) (hx:x + 3 + m ≤ n) (hn:n ≤ maxLen) (hcap:n ≤ cap) (hc:w.cell? ⟨g,x,none⟩=some (.int .i64 m)):
  Calls Tryz.prog 175 #[.pointer (some ⟨sb,o,none⟩),.int .i64 x] w fun e w'=>e=.returned (litsAt g x m cap)∧∃ k,w'=w.drewN k:=by
 have QB:=Rd.hide (fun (V:World) (hV:V.cell? ⟨sb,o,none⟩=some (.slice (some ⟨g,0,none⟩) n cap)) (hc:V.cell? ⟨g,x,none⟩=some (.int .i64 m))=>behind_any sb o g n cap x m V hV hx hn hc)
 unfold maxLen at hn
 have a0:(0:Int) ≤ (x:Int) + 3:=by omega
 have a1:(x:Int) + 3 ≤ ((x + 3 + m:Nat):Int):=by omega
 have a2:((x + 3 + m:Nat):Int) ≤ (cap:Int):=by omega
 have a3:((x:Int) + 3).toNat=x + 3:=by omega
 have a4:(((x + 3 + m:Nat):Int)).toNat=x + 3 + m:=by omega
 go_enter Tryz.func175,Tryz.ntmps175
 go_wp2_with fail
 go_quiet ((go_at_call 213;exact Calls.quiet_of_same (Rd.unhide QB _ h0 hc)))
 go_wp2
 ·go_ret
  exact ⟨by unfold litsAt;rw [if_pos rfl];simp,_,rfl⟩
 ·go_ret
  refine ⟨?_,_,rfl⟩
  unfold litsAt
  rw [if_neg (by assumption)]
  rfl
end So
end Go.Proofs.YtceahffmenbibaaGreatDoor
namespace Go.Proofs.YtceahffmenbibaaGreatDoor
namespace So
open Go Go.RowKit Go.Deep Rd
variable {Z:Nat→Prop} {sb K:Nat} {w w':World} {f V:Nat→Value} {X:Nat→List Value}
theorem Tryz.infoInt9:(Tryz.prog.info? 3).map (fun i=>(i.zero,i.size,i.bytes))=some (some (.int .i64 0),1,8):=by kernel_rfl
def assignX (X:Nat→List Value) (x:Nat) (r:Int) (d:Nat):Nat→List Value:=
 upd (upd (upd (upd X 1 (X 1 ++ [.int .i64 x])) 3 (((X 3).set x (.int .i64 1)).set (op x) (.int .i64 (-1)))) 4 ((X 4).set (x / 2) (.int .i64 d))) 5 ((X 5).set (x / 2) (.int .i64 r))
set_option maxHeartbeats 2000000 in
set_option maxRecDepth 100000 in
theorem assign_any (x vars d:Nat) (r:Int) (hx:x < 2 * vars) (hvars:vars ≤ 50) (h:Sol Z sb w K f V X) (h1:(X 1).length ≤ 1000) (h2:(X 2).length=d) (h3:(X 3).length=2 * vars) (h4:(X 4).length=vars) (h5:(X 5).length=vars):
  Calls Tryz.prog 136 #[.pointer (some ⟨sb,6,none⟩),.int .i64 x,.int .i64 r] w fun e w'=>e=.returned (.tuple #[])∧Chg Z w w'∧∃ v',Sol Z sb w' K (upd f 6 v') (upd V 1 v') (assignX X x r d):=by
 obtain ⟨i0,hi,hz0,hz1,hz2⟩:=info_parts Tryz.infoInt9
 have HS:=hide h
 have hK:=h.hK
 obtain ⟨a1,c1,e1⟩:=h.fam.shape (k:=1) (by omega)
 have hd1:=(h.hd (k:=1) (by omega)).1
 have fz1:=(h.hd (k:=1) (by omega)).2
 rw [show cellOf 1=6 from rfl] at hd1 fz1
 rw [e1] at hd1
 have O1:Hid (w.ownsRow 0 3 1 (.slice a1 (X 1).length c1) (X 1).length (X 1)):=by
  have:=h.fam.own 1 (by omega)
  rw [e1] at this;exact this
 have E1:=hide e1
 have hsb:=h.row.lt
 have bsb:=h.bsb
 have ns:¬ (sb=w.heap.size):=by omega
 clear h e1
 go_enter Tryz.func136,Tryz.ntmps136
 go_wp2_with (at_builtin;refine wpList_append_any _ rfl _ _ 43 rfl 0 3 i0 (.int .i64 0) 1 8 Tryz.underlying43 hi hz0 hz1 hz2 rfl (by decide) _ _ _ rfl ((unhide O1).alloc (Obj.cells #[.int .i64 (x:Int)] 3)) (.slice (some ⟨w.heap.size,0,none⟩) 1 1) 1 [.int .i64 (x:Int)] rfl (.inr ⟨⟨w.heap.size,0,none⟩,1,rfl,(cell_one_new w _ _)⟩) rfl (by simp [Value.oneCell']) (by unfold maxLen;omega) (by omega) (Nat.zero_le _) ?_)
 intro v6 w6 A6
 have A7:Appended (w.alloc (Obj.cells #[.int .i64 (x:Int)] 3)) 0 (famT 1) 1 (V 1) (X 1).length (X 1) 1 [.int .i64 (x:Int)] v6 w6:=by rw [unhide E1];exact A6
 have S6:=hide ((unhide HS).push (k:=1) (m:=1) (news:=[.int .i64 (x:Int)]) (by omega) rfl A7)
 have B6:=hide ((unhide HS).belowApp (k:=1) (by omega) A7 6 v6)
 have g6:=((unhide HS).headApp (k:=1) (by omega) A7 6 (by omega)).1
 have z6:=((unhide HS).headApp (k:=1) (by omega) A7 6 (by omega)).2
 obtain ⟨va6,vc6,hv6⟩:=own_shape A6.own
 subst hv6
 rw [show cellOf 1=6 from rfl] at S6
 clear A6 A7 hd1 fz1 O1
 go_upto_region 1 with fail
 generalize hW1:w6.setCell ⟨sb,6,none⟩ (.slice va6 ((X 1).length + 1) vc6)=W1 at S6 B6 ⊢
 clear hW1 g6 z6
 obtain ⟨F1,hF1⟩:∃ F,F=upd f 6 (.slice va6 ((X 1).length + 1) vc6):=⟨_,rfl⟩
 obtain ⟨V1,hV1⟩:∃ V',V'=upd V 1 (.slice va6 ((X 1).length + 1) vc6):=⟨_,rfl⟩
 obtain ⟨X1,hX1⟩:∃ X',X'=upd X 1 (X 1 ++ [.int .i64 (x:Int)]):=⟨_,rfl⟩
 rw [← hF1,← hV1,← hX1] at S6
 have L2:(X1 2).length=d:=by rw [hX1,upd_other _ _ (by decide)];exact h2
 have L3:(X1 3).length=2 * vars:=by rw [hX1,upd_other _ _ (by decide)];exact h3
 have L4:(X1 4).length=vars:=by rw [hX1,upd_other _ _ (by decide)];exact h4
 have L5:(X1 5).length=vars:=by rw [hX1,upd_other _ _ (by decide)];exact h5
 have FIN:Hid (upd (upd (upd (upd X1 3 ((X1 3).set x (.int .i64 1))) 3 (((upd X1 3 ((X1 3).set x (.int .i64 1))) 3).set (op x) (.int .i64 (-1)))) 4 ((X1 4).set (x / 2) (.int .i64 d))) 5 ((X1 5).set (x / 2) (.int .i64 r))=assignX X x r d):=by
  unfold Hid
  rw [upd_self,hX1]
  unfold assignX
  funext k
  unfold upd
  by_cases k5:k=5
  ·simp [k5]
  ·by_cases k4:k=4
   ·simp [k4]
   ·by_cases k3:k=3
    ·simp [k3]
    ·simp [k5,k4,k3]
 have HF1:=hide hF1
 have HV1:=hide hV1
 clear hX1 hF1 hV1
 have x0:(0:Int) ≤ (x:Int):=by omega
 have x1:(x:Int) < ((2 * vars:Nat):Int):=by omega
 obtain ⟨g3,c3,t3,e3,q3,r3,_,z3,b3,l3,n3⟩:=(unhide S6).elem (k:=3) (j:=x) (by omega) L3 hx
 rw [show cellOf 3=9 from rfl] at q3
 have S7:=hide ((unhide S6).set (k:=3) (by omega) e3 x (.int .i64 1))
 have B7:Hid (Chg Z w (W1.setCell ⟨g3,x,none⟩ (.int .i64 1))):=(unhide B6).setCell b3 _
 have E3:=hide e3
 clear e3
 go_upto_region 2 with fail
 generalize hW2:W1.setCell ⟨g3,x,none⟩ (.int .i64 1)=W2 at S7 B7 ⊢
 clear hW2 q3 r3 z3 l3 n3 S6 B6
 have oxl:op x < 2 * vars:=by unfold op;split <;> omega
 have M3:((upd X1 3 ((X1 3).set x (.int .i64 1))) 3).length=2 * vars:=by rw [upd_self,List.length_set];exact L3
 obtain ⟨g4,c4,t4,e4,q4,r4,_,z4,b4,l4,n4⟩:=(unhide S7).elem (k:=3) (j:=op x) (by omega) M3 oxl
 rw [show cellOf 3=9 from rfl] at q4
 have S8:=hide (fun (Y:World) (hY:Sol Z sb Y K F1 V1 (upd X1 3 ((X1 3).set x (.int .i64 1))))=>hY.set (k:=3) (by omega) e4 (op x) (.int .i64 (-1)))
 have QO:=hide (fun Y=>opposite_any x Y (by omega))
 have o0:(0:Int) ≤ ((op x:Nat):Int):=by omega
 have o1:((op x:Nat):Int) < ((2 * vars:Nat):Int):=by omega
 clear e4
 generalize op x=ox at *
 go_cut [] from 6 (fun wx=>Hid (Sol Z sb wx K F1 V1 (upd (upd X1 3 ((X1 3).set x (.int .i64 1))) 3 (((upd X1 3 ((X1 3).set x (.int .i64 1))) 3).set ox (.int .i64 (-1)))))∧Hid (Chg Z w wx))
 case first=>
  go_region_with (go_at_call 139;refine (unhide QO _).mono ?_;rintro e7 w7 ⟨rfl,rfl⟩;simp only [])
  all_goals
   go_wp2_with fail
   go_meet
   exact ⟨(unhide S8 _ (unhide S7)).later (Below.refl _ _).drew,((unhide B7).setCell b4 _).drew⟩
 case rest=>
  obtain ⟨S9,B9⟩:=hcut
  clear S7 S8 B7 q4 r4 z4 l4 n4 QO
  generalize hX3:upd (upd X1 3 ((X1 3).set x (.int .i64 1))) 3 (((upd X1 3 ((X1 3).set x (.int .i64 1))) 3).set ox (.int .i64 (-1)))=X3 at S9 FIN
  have P2:(X3 2).length=d:=by rw [← hX3,upd_other _ _ (by decide),upd_other _ _ (by decide)];exact L2
  have P4:(X3 4).length=vars:=by rw [← hX3,upd_other _ _ (by decide),upd_other _ _ (by decide)];exact L4
  have E4:Hid (X1 4=X3 4):=by unfold Hid;rw [← hX3,upd_other _ _ (by decide),upd_other _ _ (by decide)]
  have E5:Hid (X1 5=X3 5):=by unfold Hid;rw [← hX3,upd_other _ _ (by decide),upd_other _ _ (by decide)]
  have P5:(X3 5).length=vars:=by rw [← unhide E5];exact L5
  have P4':(X3 4).length=vars:=P4
  rw [unhide E4,unhide E5] at FIN
  clear hX3 E4 E5 M3
  have vl:x / 2 < vars:=by omega
  have QV:=hide (fun Y=>variableOf_any x Y (by omega))
  have v0:(0:Int) ≤ ((x / 2:Nat):Int):=by omega
  have v1:((x / 2:Nat):Int) < (vars:Int):=by omega
  obtain ⟨g5,c5,t5,e5,q5,r5,_,z5,b5,l5,n5⟩:=(unhide S9).elem (k:=4) (j:=x / 2) (by omega) P4 vl
  rw [show cellOf 4=10 from rfl] at q5
  obtain ⟨a2,c2,e2⟩:=(unhide S9).fam.shape (k:=2) (by omega)
  have q2:=((unhide S9).hd (k:=2) (by omega)).1
  rw [show cellOf 2=8 from rfl,e2,P2] at q2
  have QD:Hid (∀ Y:World,Y.heap=wc.heap→Calls Tryz.prog 99 #[.pointer (some ⟨sb,6,none⟩)] Y fun e w'=>e=.returned (.int .i64 d)∧w'=Y):=fun Y hY=>depth_any sb 6 d c2 Y a2 (by rw [show Y.cell? ⟨sb,6 + 2,none⟩=wc.cell? ⟨sb,8,none⟩ from World.cell?_of_block (a:=⟨sb,8,none⟩) (by rw [hY])];exact q2)
  have S10:=hide (fun (Y:World) (hY:Sol Z sb Y K F1 V1 X3)=>hY.set (k:=4) (by omega) e5 (x / 2) (.int .i64 d))
  clear e5 e2
  generalize x / 2=v at *
  go_upto_region 3 with fail
  go_cut [] from 6 (fun wx=>Hid (Sol Z sb wx K F1 V1 (upd X3 4 ((X3 4).set v (.int .i64 d))))∧Hid (Chg Z w wx))
  case first=>
   go_region_with (first
    |(go_at_call 176;refine (unhide QV _).mono ?_;rintro e7 w7 ⟨rfl,rfl⟩;simp only [])
    |(go_at_call 99;refine (unhide QD _ (by rfl)).mono ?_;rintro e8 w8 ⟨rfl,rfl⟩;simp only []))
   all_goals
    go_wp2_with fail
    go_meet
    exact ⟨(unhide S10 _ (unhide S9)).later (Below.refl _ _).drew,((unhide B9).setCell b5 _).drew⟩
  case rest=>
   obtain ⟨S11,B11⟩:=hcut
   clear S9 S10 B9 q5 r5 z5 l5 n5 QD q2
   have P5':((upd X3 4 ((X3 4).set v (.int .i64 d))) 5).length=vars:=by rw [upd_other _ _ (by decide)];exact P5
   have E5:Hid ((upd X3 4 ((X3 4).set v (.int .i64 d))) 5=X3 5):=upd_other _ _ (by decide)
   obtain ⟨g6,c6,t6,e6,q6,r6,_,z6,b6,l6,n6⟩:=(unhide S11).elem (k:=5) (j:=v) (by omega) P5' vl
   rw [show cellOf 5=11 from rfl] at q6
   have S12:=hide (fun (Y:World) (hY:Sol Z sb Y K F1 V1 (upd X3 4 ((X3 4).set v (.int .i64 d))))=>hY.set (k:=5) (by omega) e6 v (.int .i64 r))
   rw [unhide E5,unhide FIN] at S12
   clear e6
   go_upto_region 4 with fail
   go_region_with (go_at_call 176;refine (unhide QV _).mono ?_;rintro e7 w7 ⟨rfl,rfl⟩;simp only [])
   all_goals
    go_wp2
    go_end0
    have SE:=(unhide S12 _ (unhide S11)).later (Below.refl _ _).drew
    rw [unhide HF1,unhide HV1] at SE
    exact ⟨rfl,((unhide B11).setCell b6 _).drew,_,SE⟩
end So
end Go.Proofs.YtceahffmenbibaaGreatDoor
namespace Go.Proofs.YtceahffmenbibaaGreatDoor
namespace So
open Go Go.RowKit Go.Deep Rd
variable {Z:Nat→Prop} {sb K:Nat} {w w':World} {f V:Nat→Value} {X:Nat→List Value}
theorem wrapS (n:Int) (h0:0 ≤ n) (h1:n < 2 ^ 63):IntKind.i64.wrap n=n:=by
 have h2:n < 9223372036854775808:=h1
 rw [IntKind.wrap_i64];omega
end So
end Go.Proofs.YtceahffmenbibaaGreatDoor
namespace Go.Proofs.YtceahffmenbibaaGreatDoor
namespace So
open Go Go.RowKit Go.Deep Rd
variable {Z:Nat→Prop} {sb K:Nat} {w w':World} {f V:Nat→Value} {X:Nat→List Value}
theorem upd_upd {α:Type} (f:Nat→α) (k:Nat) (a b:α):upd (upd f k a) k b=upd f k b:=by funext j;unfold upd;split <;> simp_all
def nats (l:List Nat):List Value:=l.map fun (n:Nat)=>Value.int .i64 (n:Int)
theorem nats_len (l:List Nat):(nats l).length=l.length:=by simp [nats]
theorem nats_at (l:List Nat) (i:Nat) (h:i < l.length):(nats l)[i]? = some (.int .i64 (l[i]:Nat)):=by simp [nats,h]
def undo (T:List Value):List Nat→List Value
 | []=>T
 | x :: r=>undo ((T.set x (.int .i64 0)).set (op x) (.int .i64 0)) r
theorem undo_snoc (T:List Value) (l:List Nat) (x:Nat):undo T (l ++ [x])=((undo T l).set x (.int .i64 0)).set (op x) (.int .i64 0):=by
 induction l generalizing T with
 | nil=>rfl
 | cons y r ih=>exact ih _
theorem undo_len (T:List Value) (l:List Nat):(undo T l).length=T.length:=by
 induction l generalizing T with
 | nil=>rfl
 | cons y r ih=>rw [undo,ih];simp
def BckRel (Z:Nat→Prop) (sb:Nat) (w:World) (K:Nat) (f V:Nat→Value) (X:Nat→List Value) (tr:List Nat) (i28:Value) (wr:World):Prop:=
 ∃ i:Nat,i28=.int .i64 i∧i ≤ tr.length∧Hid (Sol Z sb wr K f V (upd X 3 (undo (X 3) (tr.take i)))∧Chg Z w wr)
set_option maxHeartbeats 2000000 in
set_option maxRecDepth 100000 in
theorem back_no (d0:Nat) (h:Sol Z sb w K f V X) (hd:(X 2).length ≤ d0) (hd2:d0 ≤ 1000):
  Calls Tryz.prog 177 #[.pointer (some ⟨sb,6,none⟩),.int .i64 d0] w fun e w'=>e=.returned (.slice none 0 0)∧w'=w:=by
 have hK:=h.hK
 obtain ⟨a2,c2,e2⟩:=h.fam.shape (k:=2) (by omega)
 have q2:=(h.hd (k:=2) (by omega)).1
 rw [show cellOf 2=8 from rfl,e2] at q2
 have QD:Hid (∀ Y:World,Y.heap=w.heap→Calls Tryz.prog 99 #[.pointer (some ⟨sb,6,none⟩)] Y fun e w'=>e=.returned (.int .i64 (X 2).length)∧w'=Y):=fun Y hY=>depth_any sb 6 (X 2).length c2 Y a2 (by rw [show Y.cell? ⟨sb,6 + 2,none⟩=w.cell? ⟨sb,8,none⟩ from World.cell?_of_block (a:=⟨sb,8,none⟩) (by rw [hY])];exact q2)
 generalize (X 2).length=n at *
 have hh:(n:Int) ≤ (d0:Int):=by omega
 clear h e2
 go_enter Tryz.func177,Tryz.ntmps177
 go_wp2_with (go_at_call 99;refine (unhide QD _ (by rfl)).mono ?_;rintro e7 w7 ⟨rfl,rfl⟩)
 go_ret
 exact ⟨rfl,rfl⟩
def BackRet (Z:Nat→Prop) (sb:Nat) (w:World) (K:Nat) (f V:Nat→Value) (X:Nat→List Value) (tr ch:List Nat) (s d0:Nat) (e:Ending) (w':World):Prop:=
 ∃ g1 c1 g2 c2,V 1=.slice (some ⟨g1,0,none⟩) tr.length c1∧V 2=.slice (some ⟨g2,0,none⟩) ch.length c2∧e=.returned (.slice (some ⟨g1,s,none⟩) (tr.length - s) (c1 - s))∧Chg Z w w'∧(∀ j (hj:j < tr.length),w'.cell? ⟨g1,j,none⟩=some (.int .i64 (tr[j]:Nat)))∧
  Sol Z sb w' K (upd (upd (upd f 6 (.slice (some ⟨g1,0,none⟩) s c1)) 8 (.slice (some ⟨g2,0,none⟩) d0 c2)) 7 (.int .i64 s)) (upd (upd V 1 (.slice (some ⟨g1,0,none⟩) s c1)) 2 (.slice (some ⟨g2,0,none⟩) d0 c2)) (upd (upd (upd X 3 (undo (X 3) (tr.drop s))) 1 (nats (tr.take s))) 2 (nats (ch.take d0)))
set_option maxHeartbeats 2000000 in
set_option maxRecDepth 100000 in
theorem back_any (d0 vars s:Nat) (tr ch:List Nat) (h:Sol Z sb w K f V X) (h1:X 1=nats tr) (h2:X 2=nats ch) (hd:d0 < ch.length) (hs:ch[d0]=s) (hst:s < tr.length) (h3:(X 3).length=2 * vars) (hl:∀ x ∈ tr,x < 2 * vars) (hvars:vars ≤ 50) (hn:tr.length ≤ 1000) (hc:ch.length ≤ 1000):
  Calls Tryz.prog 177 #[.pointer (some ⟨sb,6,none⟩),.int .i64 d0] w fun e w'=>BackRet Z sb w K f V X tr ch s d0 e w':=by
 have hK:=h.hK
 have HS:=hide h
 have n1:(X 1).length=tr.length:=by rw [h1,nats_len]
 have n2:(X 2).length=ch.length:=by rw [h2,nats_len]
 obtain ⟨g2,c2,t2,e2,q2,r2,s2,z2,b2,l2,m2⟩:=h.elem (k:=2) (j:=d0) (by omega) n2 hd
 rw [h2,nats_at ch d0 hd,hs] at s2
 obtain rfl:=Option.some.inj s2
 obtain ⟨g1,c1,t1,e1,q1,r1,s1,z1,b1,l1,m1⟩:=h.elem (k:=1) (j:=s) (by omega) n1 hst
 rw [show cellOf 1=6 from rfl] at q1
 rw [show cellOf 2=8 from rfl] at q2
 have QD:Hid (∀ Y:World,Y.heap=w.heap→Calls Tryz.prog 99 #[.pointer (some ⟨sb,6,none⟩)] Y fun e w'=>e=.returned (.int .i64 ch.length)∧w'=Y):=fun Y hY=>depth_any sb 6 ch.length c2 Y (some ⟨g2,0,none⟩) (by rw [show Y.cell? ⟨sb,6 + 2,none⟩=w.cell? ⟨sb,8,none⟩ from World.cell?_of_block (a:=⟨sb,8,none⟩) (by rw [hY])];exact q2)
 have cap1:tr.length ≤ c1:=by
  rcases (h.fam.own 1 (by omega)).2 with ⟨e,_⟩ | ⟨g,cap,cur,e,_,_,hn',_⟩
  ·rw [e1] at e;cases e
  ·rw [e1] at e
   obtain ⟨_,_,q⟩:=Value.slice.inj e
   rw [n1] at hn';omega
 have hh:¬ ((ch.length:Int) ≤ (d0:Int)):=by omega
 have d1:(0:Int) ≤ (d0:Int):=by omega
 have d2:(d0:Int) < (ch.length:Int):=by omega
 have k0:(0:Int) ≤ (s:Int):=by omega
 have k1:(s:Int) ≤ (tr.length:Int):=by omega
 have k2:(s:Int) ≤ (c1:Int):=by omega
 have k3:¬ (c1=s):=by omega
 have E1:=hide e1
 have E2:=hide e2
 clear h e2 e1 s1 s2
 go_enter Tryz.func177,Tryz.ntmps177
 go_wp2_with (go_at_call 99;refine (unhide QD _ (by rfl)).mono ?_;rintro e7 w7 ⟨rfl,rfl⟩)
 have E2':=E2
 have LT:=hide hl
 obtain ⟨u,hu⟩:∃ u,u=tr.drop s:=⟨_,rfl⟩
 have ul:u.length=tr.length - s:=by rw [hu];simp
 have ua:Hid (∀ i (h:i < u.length) (h':s + i < tr.length),u[i]=tr[s + i]):=fun i h h'=>by simp [hu]
 rw [← ul,show decide (ch.length ≤ d0)=false from decide_eq_false (by omega)]
 have UL:=hide ul
 have HU:=hide hu
 have um:u.length ≤ 1000:=by omega
 clear hh hl ul hu
 go_loopw [8,28] (fun _ i wr=>BckRel Z sb w7 K f V X u i wr) (fun _ i _=>u.length - (intOf i).toNat)
 case atStart=>exact ⟨0,rfl,Nat.zero_le _,by rw [List.take_zero,show undo (X 3) []=X 3 from rfl,upd_same];exact ⟨unhide HS,Chg.refl _⟩⟩
 case round=>
  obtain ⟨i,rfl,hil,T⟩:=hrel
  by_cases hlt:i < u.length
  ·have hsi:s + i < tr.length:=by have:=unhide UL;omega
   have hc1:=((unhide T).1.fam.cell (k:=1) (by omega) (unhide E1) (j:=s + i) (by rw [upd_other _ _ (by decide),n1];exact hsi)).1
   rw [upd_other _ _ (by decide),h1,nats_at tr (s + i) hsi,← unhide ua i hlt hsi] at hc1
   have hx:u[i] < 2 * vars:=by rw [unhide ua i hlt hsi];exact unhide LT _ (List.getElem_mem _)
   have NX:Hid (undo (X 3) (u.take (i + 1))=((undo (X 3) (u.take i)).set u[i] (.int .i64 0)).set (op u[i]) (.int .i64 0)):=by
    unfold Hid;rw [List.take_add_one,List.getElem?_eq_getElem hlt,Option.toList_some,undo_snoc]
   have A3:((upd X 3 (undo (X 3) (u.take i))) 3).length=2 * vars:=by rw [upd_self,undo_len];exact h3
   obtain ⟨x,hxe⟩:∃ x,u[i]=x:=⟨_,rfl⟩
   rw [hxe] at hc1 hx NX
   obtain ⟨g3,c3,t3,e3,q3,r3,_,z3,b3,l3,m3⟩:=(unhide T).1.elem (k:=3) (j:=x) (by omega) A3 hx
   rw [show cellOf 3=9 from rfl] at q3
   have S1:=hide ((unhide T).1.set (k:=3) (by omega) e3 x (.int .i64 0))
   rw [upd_self,upd_upd] at S1
   have B1:Hid (Chg Z w7 (wr.setCell ⟨g3,x,none⟩ (.int .i64 0))):=(unhide T).2.setCell b3 _
   have i0:(0:Int) ≤ (i:Int):=by omega
   have i1:(i:Int) < (u.length:Int):=by omega
   have x0:(0:Int) ≤ (x:Int):=by omega
   have x1:(x:Int) < ((2 * vars:Nat):Int):=by omega
   clear e3 hxe
   go_upto_region 9 with fail
   generalize hW2:wr.setCell ⟨g3,x,none⟩ (.int .i64 0)=W2 at S1 B1 ⊢
   clear hW2 q3 r3 z3 l3 m3 hc1
   have oxl:op x < 2 * vars:=by unfold op;split <;> omega
   have A4:((upd X 3 ((undo (X 3) (u.take i)).set x (.int .i64 0))) 3).length=2 * vars:=by rw [upd_self,List.length_set,undo_len];exact h3
   obtain ⟨g4,c4,t4,e4,q4,r4,_,z4,b4,l4,m4⟩:=(unhide S1).elem (k:=3) (j:=op x) (by omega) A4 oxl
   rw [show cellOf 3=9 from rfl] at q4
   have S2:=hide ((unhide S1).set (k:=3) (by omega) e4 (op x) (.int .i64 0))
   rw [upd_self,upd_upd,← unhide NX] at S2
   have QO:=hide (fun Y=>opposite_any x Y (by omega))
   have o0:(0:Int) ≤ ((op x:Nat):Int):=by omega
   have o1:((op x:Nat):Int) < ((2 * vars:Nat):Int):=by omega
   clear e4 NX
   generalize op x=ox at *
   have T2:Hid (Sol Z sb (W2.setCell ⟨g4,ox,none⟩ (.int .i64 0)).drew K f V (upd X 3 (undo (X 3) (u.take (i + 1))))∧Chg Z w7 (W2.setCell ⟨g4,ox,none⟩ (.int .i64 0)).drew):=⟨(unhide S2).later (Below.refl _ _).drew,((unhide B1).setCell b4 _).drew⟩
   go_region_with (go_at_call 139;refine (unhide QO _).mono ?_;rintro e8 w8 ⟨rfl,rfl⟩;simp only [])
   all_goals
    go_wp2
    go_roundw
    case rel=>exact ⟨i + 1,by go_num,by omega,T2⟩
    case measure=>simp [intOf];omega
  ·have ei:i=u.length:=by omega
   have S0:=hide (unhide T).1
   have B0:=hide (unhide T).2
   rw [ei,List.take_length,unhide HU] at S0
   have e1':=unhide E1
   have cut1:Hid (Sol Z sb (wr.setCell ⟨sb,6,none⟩ (.slice (some ⟨g1,0,none⟩) s c1)) K (upd f 6 (.slice (some ⟨g1,0,none⟩) s c1)) (upd V 1 (.slice (some ⟨g1,0,none⟩) s c1)) (upd (upd X 3 (undo (X 3) (tr.drop s))) 1 (nats (tr.take s)))):=by
    have h9:=(unhide S0).cut (k:=1) (m:=s) (by omega) e1' (by rw [upd_other _ _ (by decide),n1];omega)
    rw [upd_other X _ (by decide:(1:Nat) ≠ 3),h1,show (nats tr).take s=nats (tr.take s) by unfold nats;rw [List.map_take]] at h9
    exact h9
   have cut2:Hid (Sol Z sb ((wr.setCell ⟨sb,6,none⟩ (.slice (some ⟨g1,0,none⟩) s c1)).setCell ⟨sb,8,none⟩ (.slice (some ⟨g2,0,none⟩) d0 c2)) K (upd (upd f 6 (.slice (some ⟨g1,0,none⟩) s c1)) 8 (.slice (some ⟨g2,0,none⟩) d0 c2)) (upd (upd V 1 (.slice (some ⟨g1,0,none⟩) s c1)) 2 (.slice (some ⟨g2,0,none⟩) d0 c2)) (upd (upd (upd X 3 (undo (X 3) (tr.drop s))) 1 (nats (tr.take s))) 2 (nats (ch.take d0)))):=by
    have h9:=(unhide cut1).cut (k:=2) (m:=d0) (a:=some ⟨g2,0,none⟩) (n:=ch.length) (cap:=c2) (by omega) (by rw [upd_other _ _ (by decide)];exact unhide E2) (by rw [upd_other _ _ (by decide),upd_other _ _ (by decide),n2];omega)
    rw [upd_other _ _ (by decide:(2:Nat) ≠ 1),upd_other X _ (by decide:(2:Nat) ≠ 3),h2,show (nats ch).take d0=nats (ch.take d0) by unfold nats;rw [List.map_take]] at h9
    exact h9
   have cut3:=hide ((unhide cut2).scalar 7 (.int .i64 s) (by decide +kernel))
   have CL:Hid (∀ j (hj:j < tr.length),(((wr.setCell ⟨sb,6,none⟩ (.slice (some ⟨g1,0,none⟩) s c1)).setCell ⟨sb,8,none⟩ (.slice (some ⟨g2,0,none⟩) d0 c2)).setCell ⟨sb,7,none⟩ (.int .i64 s)).cell? ⟨g1,j,none⟩=some (.int .i64 (tr[j]:Nat))):=fun j hj=>by
    rw [World.cell?_setCell_far _ _ _ _ (by simpa using fun e=>m1 e.symm),World.cell?_setCell_far _ _ _ _ (by simpa using fun e=>m1 e.symm),World.cell?_setCell_far _ _ _ _ (by simpa using fun e=>m1 e.symm)]
    have h9:=((unhide S0).fam.cell (k:=1) (by omega) e1' (j:=j) (by rw [upd_other _ _ (by decide),n1];exact hj)).1
    rw [upd_other _ _ (by decide),h1,nats_at tr j hj] at h9
    exact h9
   have bsb:=(unhide HS).bsb
   have BF:Hid (Chg Z w7 (((wr.setCell ⟨sb,6,none⟩ (.slice (some ⟨g1,0,none⟩) s c1)).setCell ⟨sb,8,none⟩ (.slice (some ⟨g2,0,none⟩) d0 c2)).setCell ⟨sb,7,none⟩ (.int .i64 s))):=(((unhide B0).setCell bsb _).setCell bsb _).setCell bsb _
   have y1:=((unhide S0).hd (k:=1) (by omega))
   have y2:=((unhide S0).hd (k:=2) (by omega))
   rw [show cellOf 1=6 from rfl,e1'] at y1
   rw [show cellOf 2=8 from rfl,unhide E2] at y2
   obtain ⟨y11,y12⟩:=y1
   obtain ⟨y21,y22⟩:=y2
   obtain ⟨y71,y72⟩:=(unhide S0).head 7 (by omega)
   have cap2:ch.length ≤ c2:=by
    rcases ((unhide HS).fam.own 2 (by omega)).2 with ⟨e,_⟩ | ⟨g,cap,cur,e,_,_,hn',_⟩
    ·rw [unhide E2] at e;cases e
    ·rw [unhide E2] at e
     obtain ⟨_,_,q⟩:=Value.slice.inj e
     rw [n2] at hn';omega
   have dc:(d0:Int) ≤ (c2:Int):=by omega
   subst ei
   clear e1'
   have FE:Hid (BackRet Z sb w7 K f V X tr ch s d0 (.returned (.slice (some ⟨g1,s,none⟩) (tr.length - s) (c1 - s))) (((wr.setCell ⟨sb,6,none⟩ (.slice (some ⟨g1,0,none⟩) s c1)).setCell ⟨sb,8,none⟩ (.slice (some ⟨g2,0,none⟩) d0 c2)).setCell ⟨sb,7,none⟩ (.int .i64 s))):=
    ⟨g1,c1,g2,c2,unhide E1,unhide E2,rfl,unhide BF,unhide CL,unhide cut3⟩
   rw [← unhide UL] at FE
   clear CL BF cut1 cut2 cut3 S0 B0
   go_wp2
   go_ret
   exact unhide FE
end So
end Go.Proofs.YtceahffmenbibaaGreatDoor
namespace Go.Proofs.YtceahffmenbibaaGreatDoor
namespace So
open Go Go.RowKit Go.Deep Rd
variable {Z:Nat→Prop} {sb K:Nat} {w w':World} {f V:Nat→Value} {X:Nat→List Value}
theorem Sol.push0 (h:Sol Z sb w K f V X) {k:Nat} (hk:k < 13) {v':Value} {w6:World} {m:Nat} {news:List Value} (hm:news.length=m) (A:Appended w 0 (famT k) 1 (V k) (X k).length (X k) m news v' w6):
  Sol Z sb (w6.setCell ⟨sb,cellOf k,none⟩ v') K (upd f (cellOf k) v') (upd V k v') (upd X k (X k ++ news))∧Chg Z w (w6.setCell ⟨sb,cellOf k,none⟩ v')∧∀ j,j < 22→w6.cell? ⟨sb,j,none⟩=some (f j)∧w6.frozen? ⟨sb,j,none⟩=false:=by
 have hkK:k < K:=by have:=h.hK;omega
 have hlt:=h.row.lt
 have hr:=h.row.of_block (A.grew.block sb hlt (fun e=>h.far hkK sb e.symm rfl))
 refine ⟨h.header hk hr (h.fam.push hkK hm A) rfl (fun i hi g hg=>?_) A.grew.size (fun i hi g hg=>?_),((Chg.refl w).grown A.grew (fun g hg=>h.al k hkK g hg)).setCell h.bsb _,fun j hj=>⟨hr.cell hj,hr.frozen j⟩⟩
 ·by_cases e:i=k
  ·subst e
   rw [upd_self] at hg
   rcases A.at' with h1 | h1
   ·rw [h1] at hg;exact h.far hi g hg
   ·rw [h1] at hg
    have:=Option.some.inj hg
    omega
  ·rw [upd_other _ _ e] at hg;exact h.far hi g hg
 ·by_cases e:i=k
  ·subst e
   rw [upd_self] at hg
   rcases A.at' with h1 | h1
   ·rw [h1] at hg;exact h.al i hi g hg
   ·rw [h1] at hg
    have:=Option.some.inj hg
    exact h.az g (by omega)
  ·rw [upd_other _ _ e] at hg;exact h.al i hi g hg
def Lies (sb:Nat) (V0:Value) (w:World) (v:Value) (c:List Nat):Prop:=∃ (a:Option Addr) (cp bs off:Nat),v=.slice a c.length cp∧(a=none→cp=0)∧(0 < c.length→a=some ⟨bs,off,none⟩∧bs < w.heap.size∧bs ≠ sb∧V0.ownBlock ≠ some bs∧∀ j (hj:j < c.length),w.cell? ⟨bs,off + j,none⟩=some (.int .i64 (c[j]:Nat)))
set_option maxHeartbeats 2000000 in
set_option maxRecDepth 100000 in
theorem addC_any (c:List Nat) (kind:Nat) (l:Int) (v:Value) (h:Sol Z sb w K f V X) (hL:Lies sb (V 0) w v c) (hc:c.length ≤ 1000) (hk:kind ≤ 2) (hn:(X 0).length ≤ 1099511627776) (hl:f 3=.int .i64 l) (l0:0 ≤ l) (l1:l ≤ 4611686018427387904):
  Calls Tryz.prog 132 #[.pointer (some ⟨sb,2,none⟩),v,.int .i64 kind] w fun e w'=>e=.returned (.int .i64 (X 0).length)∧Chg Z w w'∧∃ v',Sol Z sb w' K (upd (upd f 2 v') 3 (.int .i64 (if kind=1 then l + 1 else l))) (upd V 0 v') (upd X 0 (X 0 ++ nats (c.length :: kind :: 0 :: c))):=by
 obtain ⟨i0,hi,hz0,hz1,hz2⟩:=info_parts Tryz.infoInt9
 obtain ⟨a,cp,bs,off,rfl,hna,hL⟩:=hL
 have HS:=hide h
 have HL:=hide hL
 have hK:=h.hK
 obtain ⟨a0,c0,e0⟩:=h.fam.shape (k:=0) (by omega)
 have q0:=(h.hd (k:=0) (by omega)).1
 rw [show cellOf 0=2 from rfl,e0] at q0
 have O0:Hid (w.ownsRow 0 3 1 (.slice a0 (X 0).length c0) (X 0).length (X 0)):=by
  have:=h.fam.own 0 (by omega)
  rw [e0] at this;exact this
 have E0:=hide e0
 have hsb:=h.row.lt
 have ns:¬ (sb=w.heap.size):=by omega
 clear h e0 hL
 go_enter Tryz.func132,Tryz.ntmps132
 go_wp2_with (at_builtin;refine wpList_append_any _ rfl _ _ 43 rfl 0 3 i0 (.int .i64 0) 1 8 Tryz.underlying43 hi hz0 hz1 hz2 rfl (by decide) _ _ _ rfl ((unhide O0).alloc (Obj.cells #[.int .i64 (c.length:Int),.int .i64 (kind:Int),.int .i64 0] 3)) (.slice (some ⟨w.heap.size,0,none⟩) 3 3) 3 [.int .i64 (c.length:Int),.int .i64 (kind:Int),.int .i64 0] rfl (.inr ⟨⟨w.heap.size,0,none⟩,3,rfl,World.news_of_block (cs:=#[.int .i64 (c.length:Int),.int .i64 (kind:Int),.int .i64 0]) (t:=3) (fr:=(0,0)) (heap_alloc_new w _)⟩) rfl (by simp [Value.oneCell']) (by unfold maxLen;omega) (by omega) (Nat.zero_le _) ?_)
 intro v6 w6 A6
 have A7:Appended (w.alloc (Obj.cells #[.int .i64 (c.length:Int),.int .i64 (kind:Int),.int .i64 0] 3)) 0 (famT 0) 1 (V 0) (X 0).length (X 0) 3 [.int .i64 (c.length:Int),.int .i64 (kind:Int),.int .i64 0] v6 w6:=by rw [unhide E0];exact A6
 have S6:=hide ((unhide HS).push (k:=0) (m:=3) (news:=[.int .i64 (c.length:Int),.int .i64 (kind:Int),.int .i64 0]) (by omega) rfl A7)
 have B6:=hide ((unhide HS).belowApp (k:=0) (by omega) A7 2 v6)
 have g6:=((unhide HS).headApp (k:=0) (by omega) A7 2 (by omega)).1
 have z6:=((unhide HS).headApp (k:=0) (by omega) A7 2 (by omega)).2
 have C6:Hid (0 < c.length→∀ j (hj:j < c.length),(w6.setCell ⟨sb,2,none⟩ v6).cell? ⟨bs,off + j,none⟩=some (.int .i64 (c[j]:Nat))):=fun hp j hj=>by
  obtain ⟨_,h2,h3,h4,h5⟩:=unhide HL hp
  rw [World.cell?_setCell_far _ _ _ _ (by simpa using fun e=>h3 e.symm),World.cell?_of_block (w:=w) (a:=⟨bs,off + j,none⟩) ((A7.grew.block bs (by simp;omega) (fun e=>h4 e.symm)).trans (Below.heap_alloc w _ bs h2))]
  exact h5 j hj
 have V6:Hid (v6.ownBlock=some bs→0 < c.length→False):=fun e hp=>by
  obtain ⟨_,h2,h3,h4,h5⟩:=unhide HL hp
  rcases A7.at' with h1 | h1
  ·rw [h1] at e;exact h4 e
  ·rw [h1] at e
   have:=Option.some.inj e
   simp at this;omega
 obtain ⟨va6,vc6,hv6⟩:=own_shape A6.own
 subst hv6
 rw [show cellOf 0=2 from rfl] at S6
 clear A6 A7 q0 O0
 go_upto_region 3 with fail
 generalize hW1:w6.setCell ⟨sb,2,none⟩ (.slice va6 ((X 0).length + 3) vc6)=W1 at S6 B6 C6 ⊢
 clear hW1 g6 z6
 obtain ⟨N0,hN0⟩:∃ l,l=X 0 ++ [.int .i64 (c.length:Int),.int .i64 (kind:Int),.int .i64 0]:=⟨_,rfl⟩
 have nl:N0.length=(X 0).length + 3:=by rw [hN0];simp
 rw [← hN0] at S6
 have q0:=((unhide S6).hd (k:=0) (by omega)).1
 rw [show cellOf 0=2 from rfl,upd_self,← nl] at q0
 have O1:Hid (W1.ownsRow 0 3 1 (.slice va6 N0.length vc6) N0.length N0):=by
  have:=(unhide S6).fam.own 0 (by omega)
  rw [upd_self,upd_self,← nl] at this;exact this
 have SRC:Hid (Src W1 (.slice a c.length cp) c.length (nats c)):=by
  unfold Hid Src
  rcases Nat.eq_zero_or_pos c.length with e | hp
  ·have cn:c=[]:=List.eq_nil_of_length_eq_zero e
   subst cn
   cases a with
   | none=>exact .inl ⟨by rw [hna rfl];rfl,rfl,rfl⟩
   | some ad=>exact .inr ⟨ad,cp,rfl,fun j u hu=>by simp [nats] at hu⟩
  ·refine .inr ?_
   obtain ⟨ha,_⟩:=unhide HL hp
   refine ⟨⟨bs,off,none⟩,cp,by rw [ha],fun j u hu=>?_⟩
   have hj:j < c.length:=by
    rcases Nat.lt_or_ge j c.length with h | h
    ·exact h
    ·rw [List.getElem?_eq_none (by rw [nats_len];exact h)] at hu;cases hu
   rw [nats_at c j hj] at hu
   obtain rfl:=Option.some.inj hu
   rw [show (Addr.add ⟨bs,off,none⟩ j:Addr)=⟨bs,off + j,none⟩ by simp [Addr.add]]
   exact unhide C6 hp j hj
 have HN0:=hide hN0
 have NL:=hide nl
 have nlb:N0.length ≤ 1099511627779:=by omega
 have cl1:(nats c).length=c.length * 1:=by rw [nats_len];omega
 have one:∀ u ∈ nats c,u.oneCell'=true:=fun u hu=>by
  unfold nats at hu
  obtain ⟨y,_,rfl⟩:=List.mem_map.1 hu
  rfl
 rw [← nl] at S6 ⊢
 clear hN0 nl
 go_wp2_with (at_builtin;refine wpList_append_any _ rfl _ _ 43 rfl 0 3 i0 (.int .i64 0) 1 8 Tryz.underlying43 hi hz0 hz1 hz2 rfl (by decide) _ _ _ rfl (unhide O1) (.slice a c.length cp) c.length (nats c) rfl (unhide SRC) cl1 one (by unfold maxLen;omega) (by omega) (Nat.zero_le _) ?_)
 intro v8 w8 A8
 have A9:Appended W1 0 (famT 0) 1 ((upd V 0 (.slice va6 N0.length vc6)) 0) ((upd X 0 N0) 0).length ((upd X 0 N0) 0) c.length (nats c) v8 w8:=by rw [upd_self,upd_self];exact A8
 obtain ⟨s8,b8,c8⟩:=(unhide S6).push0 (k:=0) (by omega) (nats_len c) A9
 rw [show cellOf 0=2 from rfl] at s8 b8
 have S8:=hide s8
 have B8:=hide ((unhide B6).trans b8)
 obtain ⟨g8,z8⟩:=c8 2 (by omega)
 obtain ⟨va8,vc8,hv8⟩:=own_shape A8.own
 subst hv8
 clear s8 b8 c8 A8 A9 q0 O1 SRC
 go_upto_region 4 with fail
 generalize hW2:w8.setCell ⟨sb,2,none⟩ (.slice va8 (N0.length + c.length) vc8)=W2 at S8 B8 ⊢
 clear hW2 g8 z8
 have FX:Hid ((upd (upd X 0 N0) 0 ((upd X 0 N0) 0 ++ nats c))=upd X 0 (X 0 ++ nats (c.length :: kind :: 0 :: c))):=by
  unfold Hid;rw [upd_self,upd_upd,unhide HN0,List.append_assoc];rfl
 rw [unhide FX,upd_upd,upd_upd] at S8
 obtain ⟨y31,y32⟩:=(unhide S8).head 3 (by omega)
 rw [upd_other _ _ (by decide),hl] at y31
 by_cases k1:kind=1
 ·subst k1
  have S9:=hide ((unhide S8).scalar 3 (.int .i64 (l + 1)) (by decide +kernel))
  have B9:Hid (Chg Z w (W2.setCell ⟨sb,3,none⟩ (.int .i64 (l + 1)))):=(unhide B8).setCell (unhide HS).bsb _
  go_wp2
  go_ret
  exact ⟨rfl,unhide B9,_,unhide S9⟩
 ·have kb:((kind:Int) == 1)=false:=by simp;omega
  have S9:Hid (Sol Z sb W2 K (upd (upd f 2 (.slice va8 (N0.length + c.length) vc8)) 3 (.int .i64 l)) (upd V 0 (.slice va8 (N0.length + c.length) vc8)) (upd X 0 (X 0 ++ nats (c.length :: kind :: 0 :: c)))):=by
   have e:upd (upd f 2 (.slice va8 (N0.length + c.length) vc8)) 3 (.int .i64 l)=upd f 2 (.slice va8 (N0.length + c.length) vc8):=by
    funext j;unfold upd
    by_cases h3:j=3
    ·subst h3;simp [hl]
    ·simp [h3]
   rw [e];exact unhide S8
  go_wp2
  go_ret
  exact ⟨rfl,unhide B8,_,unhide S9⟩
end So
end Go.Proofs.YtceahffmenbibaaGreatDoor
namespace Go.Proofs.YtceahffmenbibaaGreatDoor
namespace So
open Rd
def By (tr:List Nat) (rs:Nat→Option (List Nat)) (p:Nat→Prop) (i:Nat):Prop:=∃ h:i < tr.length,∃ c r,rs (tr[i] / 2)=some c∧c=tr[i] :: r∧∀ y ∈ r,p (y / 2)
structure Lesson (tr:List Nat) (rs:Nat→Option (List Nat)) (lev:Nat→Nat) (last:Nat) (c0:List Nat) (seen fol:Nat→Prop) (iu:Nat) (kept:List Nat):Prop where
 hiu:iu < tr.length
 first:∀ y ∈ c0,lev (y / 2)=0∨seen (y / 2)
 behind:∀ i (h:i < tr.length),iu < i→seen (tr[i] / 2)→By tr rs (fun v=>lev v=0∨seen v) i
 low:∀ i (h:i < tr.length),last ≤ i→i < iu→¬ seen (tr[i] / 2)
 lastu:last ≤ iu
 follows:∀ i (h:i < tr.length),i < last→fol (tr[i] / 2)→seen (tr[i] / 2)∨By tr rs fol i
 kepts:∀ i (h:i < tr.length),i < last→seen (tr[i] / 2)→op tr[i] ∈ kept∨By tr rs fol i
 zero:∀ i (h:i < tr.length),lev (tr[i] / 2)=0→By tr rs (fun v=>lev v=0) i
 folEarly:∀ v,fol v→∃ i,∃ h:i < tr.length,i < last∧tr[i] / 2=v
theorem By.mono {tr:List Nat} {rs:Nat→Option (List Nat)} {p q:Nat→Prop} {i:Nat} (h:By tr rs p i) (hpq:∀ v,p v→q v):By tr rs q i:=by
 obtain ⟨hi,c,r,h1,h2,h3⟩:=h
 exact ⟨hi,c,r,h1,h2,fun y hy=>hpq _ (h3 y hy)⟩
theorem Lesson.conf {L:List Cl} {tr:List Nat} {rs:Nat→Option (List Nat)} {lev:Nat→Nat} {last:Nat} {c0:List Nat} {seen fol:Nat→Prop} {iu:Nat} {kept:List Nat} (H:Lesson tr rs lev last c0 seen fol iu kept) (T:Trail L tr rs) (h0:There L c0) (hf:∀ y ∈ c0,op y ∈ tr):
  Conf L (((tr[iu]'H.hiu) :: kept.map op).map wr):=by
 refine learn_conf (N:=fun v=>lev v=0∨seen v∨fol v) T (fun i h hN=>?_) h0 hf (fun y hy=>(H.first y hy).imp id .inl)
 have fin:By tr rs (fun v=>lev v=0∨seen v∨fol v) i→tr[i] ∈ (tr[iu]'H.hiu) :: kept.map op∨∃ c r,rs (tr[i] / 2)=some c∧c=tr[i] :: r∧∀ y ∈ r,(lev (y / 2)=0∨seen (y / 2)∨fol (y / 2)):=fun hb=>by
  obtain ⟨_,r⟩:=hb
  exact .inr r
 have early:i < last→seen (tr[i] / 2)∨fol (tr[i] / 2)→tr[i] ∈ (tr[iu]'H.hiu) :: kept.map op∨∃ c r,rs (tr[i] / 2)=some c∧c=tr[i] :: r∧∀ y ∈ r,(lev (y / 2)=0∨seen (y / 2)∨fol (y / 2)):=fun hl hs=>by
  have key:seen (tr[i] / 2)→tr[i] ∈ (tr[iu]'H.hiu) :: kept.map op∨∃ c r,rs (tr[i] / 2)=some c∧c=tr[i] :: r∧∀ y ∈ r,(lev (y / 2)=0∨seen (y / 2)∨fol (y / 2)):=fun hs=>by
   rcases H.kepts i h hl hs with hk | hb
   ·exact .inl (List.mem_cons_of_mem _ (List.mem_map.2 ⟨_,hk,op_op _⟩))
   ·exact fin (hb.mono fun v hv=>.inr (.inr hv))
  rcases hs with hs | hs
  ·exact key hs
  ·rcases H.follows i h hl hs with hs | hb
   ·exact key hs
   ·exact fin (hb.mono fun v hv=>.inr (.inr hv))
 rcases hN with hz | hs | hs
 ·exact fin ((H.zero i h hz).mono fun v hv=>.inl hv)
 ·rcases Nat.lt_or_ge i last with hl | hl
  ·exact early hl (.inl hs)
  ·rcases Nat.lt_trichotomy i iu with h1 | h1 | h1
   ·exact absurd hs (H.low i h hl h1)
   ·subst h1;exact .inl (List.mem_cons_self ..)
   ·exact fin ((H.behind i h h1 hs).mono fun v hv=>hv.imp id .inl)
 ·obtain ⟨j,hj,hjl,e⟩:=H.folEarly _ hs
  have:j=i:=by
   have h1:(tr.map (· / 2))[j]'(by simpa using hj)=(tr.map (· / 2))[i]'(by simpa using h):=by simpa using e
   exact (List.getElem_inj T.nodup).1 h1
  subst this
  exact early hjl (.inr hs)
end So
end Go.Proofs.YtceahffmenbibaaGreatDoor
