/- Sgiw. -/
import Derived.Test.YtceahffmenbibaaGreatDoorG27
import Derived.Test.YtceahffmenbibaaGreatDoorG07
set_option linter.unusedVariables false
set_option linter.unusedSimpArgs false
set_option maxHeartbeats 4000000
set_option maxRecDepth 100000
namespace Go.Proofs.YtceahffmenbibaaGreatDoor
namespace So
section
open Go Go.RowKit Go.Deep Rd
section
variable {Z:Nat->Prop} {sb ob hb kb n:Nat} {L0:List Cl} {N0:Nat} {brk:Bool} {w w' W:World} {s:St} {zs:Cl}
def Ik (w:World) (zs:Cl) (i:Nat) (wr:World):Prop:=Below w.heap.size w wr/\wr.rowIs w.heap.size 3 zs.length (fun j=>.int .i64 (if j < i then ((lit (zs.getD j 0):Nat):Int) else 0))
def Ye (w:World) (zs:Cl) (sv:Value) (wr:World):Prop:=∃ i:Nat,sv=.int .i64 ((i:Nat):Int)/\i <= zs.length/\Hid (Ik w zs i wr)
theorem Ik.step {i:Nat} {wr:World} (h:Ik w zs i wr) (hi:i < zs.length):Ik w zs (i + 1) (wr.setCell ⟨w.heap.size,i,none⟩ (.int .i64 ((lit zs[i]:Nat):Int))):=by
 refine ⟨h.1.setCell lr _,(h.2.set i _).congr fun j b=>?_⟩
 by_cases e:j=i
 ·subst e;rw [if_pos rfl,if_pos (by omega),List.getD_eq_getElem?_getD,List.getElem?_eq_getElem hi];rfl
 ·rw [if_neg e];by_cases a:j < i
  ·rw [if_pos a,if_pos (by omega)]
  ·rw [if_neg a,if_neg (by omega)]
theorem Ik.num {wr:World} (h:Ik w zs zs.length wr):Num wr w.heap.size (ci (zs.map lit)):=fun j b=>by
 have a:j < zs.length:=by simpa using b
 refine ⟨?_,h.2.frozen j⟩;rw [h.2.cell a,if_pos a,List.getD_eq_getElem?_getD,List.getElem?_eq_getElem a];simp [ci]
theorem below_grown {g:Nat} {a b:World} (h:Below w.heap.size w a) (d:a.grownBy b (some g)) (c:w.heap.size <= g):Below w.heap.size w b:=h.grown d h.size (fun k e=>by cases e;exact c)
theorem qd {z:Int} (h:mQ n z):lit z < 2 * n:=by
 obtain ⟨b,a⟩:=h;unfold lit;split <;> omega
theorem Wt (g:∀ z ∈ zs,mQ n z):∃ c:List Nat,Lib.compact ((ci (zs.map lit)).mergeSort fun x y=>decide (x <= y))=ci c/\c.length <= zs.length/\(∀ y ∈ c,y < 2 * n)/\((∃ j,∃ h:j + 1 < c.length,c[j + 1]=op c[j])->∃ x ∈ zs,-x ∈ zs/\x ≠ 0)/\((¬ ∃ j,∃ h:j + 1 < c.length,c[j + 1]=op c[j])->Vt n zs c):=by
 obtain ⟨c,q,t,o⟩:=Lm (zs.map lit);have k:∀ y,y ∈ c↔∃ z ∈ zs,lit z=y:=fun y=>by rw [t,List.mem_map]
 have l:∀ y ∈ c,y < 2 * n:=fun y i=>by
  obtain ⟨z,d,rfl⟩:=(k y).1 i;exact qd (g z d)
 have f:c.length <= zs.length:=by
  have a:=Lib.compact_length_le ((ci (zs.map lit)).mergeSort fun x y=>decide (x <= y))
  rw [q,List.length_mergeSort] at a;simpa using a
 refine ⟨c,q,f,l,fun m=>?_,fun m=>?_⟩
 ·obtain ⟨x,a,b⟩:=(Ev o).1 m;obtain ⟨z,d,rfl⟩:=(k x).1 a;obtain ⟨y,i,e⟩:=(k _).1 b;refine ⟨z,d,?_,(g z d).1⟩;have:y=-z:=by
   have r:=congrArg wr e;rw [Em,Cr (g y i).1,Cr (g z d).1] at r;exact r
  rw [<- this];exact i
 ·refine ⟨fun x=>⟨fun p=>⟨lit x,(k _).2 ⟨x,p,rfl⟩,Cr (g x p).1⟩,?_⟩,f,IB o (fun h=>m ((Ev o).2 h)),l⟩
  rintro ⟨y,i,rfl⟩;obtain ⟨z,d,rfl⟩:=(k y).1 i;rw [Cr (g z d).1];exact d
theorem Qo (h:Main Z sb ob hb kb n L0 N0 brk w s) (p:Pre s) (hn:n <= 50) (hN:(enc s.cs).length <= 1000000000000) (al:Option Addr) (N lo cp:Nat) (ai:0 < zs.length->al=some ⟨N,lo,none⟩) (ay:N < w.heap.size) (B:∀ j (hj:j < zs.length),w.cell? ⟨N,lo + j,none⟩=some (.int .i64 zs[j])) (hz:∀ z ∈ zs,mQ n z) (aD:zs.length <= 20001):
  Calls Tryz.prog 96 #[.pointer (some ⟨sb,0,none⟩),.slice al zs.length cp] w fun e w'=>e=.returned (.tuple #[])/\NN Z sb ob hb kb n L0 N0 w zs w':=by
 have aw:=run_make_row' (P:=Tryz.prog) 43 3 (.int .i64 0) 8 Tryz.underlying43 Tryz.fP rfl .i64 .i64 zs.length (by omega) (by omega)
 obtain ⟨c,ad,aI,aA,ac,ab⟩:=Wt hz;have M0:Hid (Ik w zs 0 (w.alloc (.cells (madeCells #[.int .i64 0] zs.length) 3))):=
  ⟨bR.alloc lr _,(World.rowIs_made w (.int .i64 0) zs.length 3).congr fun i hi=>by simp⟩
 have QS:Hid (∀ wr,Ik w zs zs.length wr->Calls Tryz.prog 129 #[.slice (some ⟨w.heap.size,0,none⟩) zs.length zs.length] wr fun e w'=>e=.returned (.tuple #[])/\Below w.heap.size w w'/\w.heap.size < w'.heap.size/\Num w' w.heap.size ((ci (zs.map lit)).mergeSort fun x y=>decide (x <= y))):=fun wr E=>by
  have O:(ci (zs.map lit)).length=zs.length:=by simp
  have:=OC w.heap.size zs.length (ci (zs.map lit)) wr E.2.lt E.num (by rw [O];omega)
  rw [O] at this;refine this.mono ?_;rintro e w' ⟨rfl,t,l⟩;exact ⟨rfl,below_grown E.1 t lr,Nat.lt_of_lt_of_le E.2.lt t.size,l⟩
 have QC:Hid (∀ wr,Below w.heap.size w wr->w.heap.size < wr.heap.size->Num wr w.heap.size ((ci (zs.map lit)).mergeSort fun x y=>decide (x <= y))->Calls Tryz.prog 130 #[.slice (some ⟨w.heap.size,0,none⟩) zs.length zs.length] wr fun e w'=>e=.returned (.slice (some ⟨w.heap.size,0,none⟩) c.length zs.length)/\Below w.heap.size w w'/\w.heap.size < w'.heap.size/\Num w' w.heap.size (ci c)):=fun wr C E l=>by
  have O:((ci (zs.map lit)).mergeSort fun x y=>decide (x <= y)).length=zs.length:=by rw [List.length_mergeSort];simp
  have:=G9 w.heap.size zs.length _ wr E l (by rw [O];omega) (by rw [O];omega)
  rw [O,ad] at this;refine this.mono ?_;rintro e w' ⟨rfl,t,Q⟩;exact ⟨by simp,below_grown C t lr,Nat.lt_of_lt_of_le E t.size,Q⟩
 have QM:Hid (∀ wr,Num wr w.heap.size (ci c)->Calls Tryz.prog 131 #[.slice (some ⟨w.heap.size,0,none⟩) c.length zs.length] wr fun e w'=>K5 wr c e w'):=fun wr l=>xy c _ w.heap.size 0 zs.length wr (fun _=>rfl) (fun j hj=>by rw [Nat.zero_add];exact l.at hj) (fun x hx=>by have:=aA x hx;omega) (by omega)
 have J:Hid (∀ wr j,Below w.heap.size w wr->(∃ j,∃ h:j + 1 < c.length,c[j + 1]=op c[j])->NN Z sb ob hb kb n L0 N0 w zs (wr.drewN j)):=fun wr j C ht=>by
  have ah:Below w.heap.size w (wr.drewN j):=C.trans ⟨rfl,rfl,rfl,lr,fun _ _=>rfl⟩
  obtain ⟨s',m',p'⟩:=(h.later ah).Yx p (ac ht);exact ⟨dC.of_below ah,brk,s',m',p'⟩
 have QA:Hid (∀ wr j,Below w.heap.size w wr->w.heap.size < wr.heap.size->Num wr w.heap.size (ci c)->Vt n zs c->Calls Tryz.prog 132 #[.pointer (some ⟨sb,2,none⟩),.slice (some ⟨w.heap.size,0,none⟩) c.length zs.length,.int .i64 0] (wr.drewN j) fun e w'=>e=.returned (.int .i64 (((enc s.cs).length:Nat):Int))/\AU Z sb ob hb kb n w s c w.heap.size w'):=fun wr j C E l aa=>Qp (W:=wr.drewN j) h p hN (by have:=jN aa.nd aa.lt;omega) (C.trans ⟨rfl,rfl,rfl,lr,fun _ _=>rfl⟩) lr E l _
 have H:=hide h;have HZ:=hide hz;have ao:=hide B;have aC:=hide ai;have ap:=hide ab;clear h hz B ai ad ac ab;go_enter Tryz.func96,Tryz.ntmps96
 go_wp2_with fail
 go_loopw [5,6,13] (fun _ _ K wr=>Ye w zs K wr) (fun _ _ K _=>zs.length - (intOf K).toNat)
 case atStart=>exact ⟨0,rfl,zl,M0⟩
 case round=>
  clear M0;obtain ⟨i,rfl,aG,g⟩:=hrel;by_cases D:i < zs.length
  ·obtain rfl:=aC.out (by omega)
   have aH:wr.cell? ⟨N,lo + i,none⟩=some (.int .i64 zs[i]):=by
    rw [World.cell?_of_block (w:=w) (a:=⟨N,lo + i,none⟩) (g.out.1.block N ay)];exact ao.out i D
   have r0:=g.out.2.cell D;have z0:=g.out.2.frozen i;have G:=HZ.out zs[i] (List.getElem_mem _);have NX:=hide (g.out.step D);generalize zs[i]=z at *
   have ax:z ≠ 0:=G.1;have ar:-64 <= z:=by have:=G.2;omega
   have aq:z <= 64:=by have:=G.2;omega
   have QL:=hide (fun Y=>oQ z Y ax ar aq)
   have i0:(0:Int) <= (i:Int):=by omega
   have i1:(i:Int) < (zs.length:Int):=by omega
   have i2:(i:Int) <= 20001:=by omega
   have aE:w.heap.size < wr.heap.size:=g.out.2.lt;clear g G;generalize w.heap.size=hs at *
   go_wp2_with (go_at_call 95;refine (QL.out _).mono ?_;rintro e7 w7 ⟨rfl,rfl⟩;simp only [])
   go_roundw
   case rel=>exact ⟨i + 1,by go_num,D,NX⟩
   case measure=>simp [intOf];omega
  ·have ei:i=zs.length:=by omega
   subst ei;have aj:=hide (QS.out wr g.out);clear g QS
   go_upto_region 8 with (first | (go_at_call 129;refine aj.out.mono ?_;rintro e7 w7 ⟨rfl,ag,X,S⟩;have am:=hide (QC.out _ ag X S);clear ag X S;simp only []) | (go_at_call 130;refine am.out.mono ?_;rintro e8 w8 ⟨rfl,af,V,R⟩;have B8:=hide af;have G8:=hide V;have N8:=hide R;clear af V R;simp only []))
   have ak:=hide (QM.out _ N8.out);clear aj am QC QM;go_upto_region 9 with (go_at_call 131;refine ak.out.mono ?_;rintro e9 w9 ⟨⟨j9,rfl⟩,b,rfl,ae⟩;have L:=hide ae;clear ae;cases b <;> simp only [])
   ·have f:=ap.out (fun hh=>by have:=L.out.2 hh;cases this)
    have an:=hide (QA.out _ j9 B8.out G8.out N8.out f);clear ak QA J B8 G8 N8 L ap ao HZ;go_upto_region 10 with (go_at_call 132;refine an.out.mono ?_;rintro eA M ⟨rfl,U⟩;have o:=hide U;clear U;simp only [])
    clear an aw;have aF:n <= 50:=hn
    match c,f,o with
    | x :: q :: r,f,o=>
     have QW:=hide (Jm H.out p hn hN f o.out);have rl:(2:Int) <= ((r.length + 1 + 1:Nat):Int):=by omega
     clear o f H;go_wp2_with (go_at_call 133;refine QW.out.mono ?_;rintro eB wB ⟨rfl,u⟩;have GB:=hide u;clear u;simp only [])
     go_end0
     exact ⟨rfl,GB.out⟩
    | [],f,o=>
     have BR:=hide (fun j=>wW (W:=M.drewN j) H.out p f (by simp) (by simp) (o.out.later (qy M j)))
     clear o f H;have aK:((0:Int) == 0)=true:=rfl;go_upto_region 12 with fail
     go_quiet (fail)
     obtain ⟨au,⟨Zi,av⟩,ge⟩:=BR.out nq;have GE:=hide ge;clear BR ge;go_wp2;go_end0;exact ⟨rfl,GE.out⟩
    | [x],f,o=>
     obtain ⟨qf,qo,q0⟩:=vV H.out p f o.out;have QF:=hide qf;clear qf qo;have aJ:((1:Int) == 0)=false:=rfl;by_cases d:tv s.tr x < 0
     ·have BR:=hide (fun j=>wW (W:=M.drewN j) H.out p f (by simp) (fun y hy=>by
       simp at hy;subst hy;refine H.out.pi.dJ.o9.1 ?_;unfold tv at d ⊢;split at d
       ·omega
       ·split at d
        ·rename_i h1 h2;rw [if_neg h1,if_pos h2]
        ·omega) (o.out.later (qy M j)))
      rw [show decide (tv s.tr x < 0)=true by simpa using d] at QF
      clear o f H;go_upto_region 12 with fail
      go_quiet ((go_at_call 134;exact Calls.quiet_of_same (QF.out _)))
      obtain ⟨au,⟨Zi,av⟩,ge⟩:=BR.out nq;have GE:=hide ge;clear BR ge;go_wp2;go_end0;exact ⟨rfl,GE.out⟩
     ·rw [show decide (tv s.tr x < 0)=false by simpa using d] at QF
      go_upto_region 12 with fail
      go_quiet ((go_at_call 134;exact Calls.quiet_of_same (QF.out _)))
      have m:=hide (o.out.later (qy M nq));generalize M.drewN nq=W1 at m ⊢;obtain ⟨-,qo,q1⟩:=vV H.out p f m.out;have QO:=hide qo;clear qo QF o q0;by_cases k:tv s.tr x=0
      ·rw [show (tv s.tr x == 0)=true by simpa using k] at QO
       go_upto_region 14 with fail
       go_quiet ((go_at_call 135;exact Calls.quiet_of_same (QO.out _)))
       have I:=hide (m.out.later (qy W1 nq));generalize W1.drewN nq=W2 at I ⊢;have q2:=(vV H.out p f I.out).2.2;have aB:=hide (fun wx (hb:Below W2.heap.size W2 wx)=>Gm H.out p hn f k I.out hb)
       clear m I QO q1 H f;go_upto_region 15 with fail
       go_region_with (go_at_call 136;refine (aB.out _ (by first | exact bR | exact bR.drew)).mono ?_;rintro eB wB ⟨rfl,u⟩;have GB:=hide u;clear u;simp only [])
       all_goals
        go_wp2;go_end0
        exact ⟨rfl,GB.out⟩
      ·rw [show (tv s.tr x == 0)=false by simpa using k] at QO
       have az:x ∈ s.tr:=by
        unfold tv at k d;split at k
        ·assumption
        ·split at k
         ·rename_i h1 h2;rw [if_neg h1,if_pos h2] at d;omega
         ·exact absurd rfl k
       have FT:=hide (fun j=>Nj H.out p f az m.out (qy W1 j))
       clear m H f;go_upto_region 14 with fail
       go_quiet ((go_at_call 135;exact Calls.quiet_of_same (QO.out _)))
       have F:=hide (FT.out nq);go_wp2;go_end0;exact ⟨rfl,F.out⟩
   ·have F:=hide (J.out w8 j9 B8.out (L.out.1 (by first | trivial | rfl)))
    go_wp2
    first | go_end0 | refine bodyPost_ret (v:=.tuple #[]) (by simp [results,Tryz.results96,go_sem]) rfl ?_
    exact ⟨rfl,F.out⟩
end
end
end So
end Go.Proofs.YtceahffmenbibaaGreatDoor
