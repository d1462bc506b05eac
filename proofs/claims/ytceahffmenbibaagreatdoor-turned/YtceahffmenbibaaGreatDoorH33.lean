/- Sfiw Sunw Sfgd Sfge Sfgf Sfgw Ssh1 Ssh2 Ssh3. -/
import Derived.Test.YtceahffmenbibaaGreatDoorH32
import Derived.Test.YtceahffmenbibaaGreatDoorH23
set_option linter.unusedVariables false
set_option linter.unusedSimpArgs false
set_option maxHeartbeats 4000000
set_option maxRecDepth 100000
namespace Go.Proofs.YtceahffmenbibaaGreatDoor
namespace So
section
open Go Go.RowKit Go.Deep Rd
section
variable {Z:Nat->Prop} {sb K n:Nat} {w:World} {f V:Nat->Value} {X:Nat->List Value} {cs:List Rec} {tr ch:List Nat} {lev:Nat->Nat} {rea:Nat->Int}
theorem Jz {k:Nat} {Y:World} {o p:Nat->Value} {d:Nat->List Value} (a:k < cs.length) (v:(enc cs).length <= 1099511627776) (h:dQ Z sb Y K o p d) (m:d 0=ints (enc cs)):
  Calls Tryz.prog 213 #[.pointer (some ⟨sb,2,none⟩),.int .i64 (dn cs k:Nat)] Y fun e w'=>e=.returned (.int .i64 ((dn cs (k + 1):Nat):Int))/\w'=Y:=by
 obtain ⟨g,c,x,j,l,u,r,q,i,-,-,-,-⟩:=fH h m a;have b:=eD a;have:=qd sb 2 g _ c (dn cs k) (cs[k]).lits.length Y j (by omega) (by unfold maxLen;omega) i;rw [show dn cs k + 3 + (cs[k]).lits.length=dn cs (k + 1) by rw [gD a];omega] at this;exact this
theorem jR (w:World) (j:Nat):Below w.heap.size w (w.drewN j):=⟨rfl,rfl,rfl,lr,fun _ _=>rfl⟩
theorem PY (h:dQ Z sb w K f V X) {a:Option Addr} {c:Nat} (b:V 8=.slice a (X 8).length c):R8 Z sb w K f V X [] (w.setCell ⟨sb,19,none⟩ (.slice a 0 c)):=
 ⟨(dB.refl w).setCell h.jf _,_,by
  have:=h.cut (k:=8) (m:=0) (by omega) b zl;rw [show cellOf 8=19 from rfl,List.take_zero] at this;exact this⟩
theorem Dv (h:dQ Z sb w K f V X) (h0:X 0=ints (enc cs)) (hT:lU n X tr ch lev rea) (hn:n <= 50) (z:∀ c ∈ cs,∀ x ∈ c.lits,x < 2 * n) (hN:(enc cs).length <= 1099511627776):
  Calls Tryz.prog 185 #[.pointer (some ⟨sb,0,none⟩)] w fun e w'=>RQ Z sb w K f V X tr rea cs e w':=by
 have hK:=h.hK;obtain ⟨i0,hi,ac,ab,aa⟩:=info_parts Tryz.fO;have HL:=hide z;have HT:=hide hT;have H0:=hide h0;clear z hT h0;obtain ⟨a8,c8,e8⟩:=h.eH.shape (k:=8) (by omega);have D:=(h.hd (k:=8) (by omega));rw [show cellOf 8=19 from rfl,e8] at D;obtain ⟨D,z8⟩:=D;have S0:=hide (PY h e8);have HA:Hid (a8=none->(X 8).length=0/\c8=0):=fun e=>by
  have o:=h.eH.own 8 (by omega);rw [e8,e] at o
  rcases o.2 with ⟨e1,_⟩ | ⟨g,c,ao,e1,_⟩
  ·obtain ⟨_,q2,q3⟩:=Value.slice.inj e1;exact ⟨q2,q3⟩
  ·cases e1
 clear h e8;go_enter Tryz.func185,Tryz.ntmps185
 go_upto_region 0 with fail
 go_cut [] from 3 to 10 (fun wx=>R8 Z sb w K f V X [] wx)
 case first=>
  cases a8 with
  | none=>
   obtain ⟨q1,rfl⟩:=HA.out rfl;rw [q1] at D;go_wp2;go_meet;exact S0.out
  | some p=>
   go_wp2;go_meet
   exact S0.out
 case rest=>
  clear S0 D z8 HA;have C0:=hide hcut;clear hcut;go_wp2;go_loopw [2] (fun s2 wr=>WQ Z sb w K f V X tr rea cs s2 wr) (fun s2 _=>(enc cs).length - (intOf s2).toNat)
  case atStart=>exact ⟨0,[],by rw [jP];rfl,zl,⟨List.nodup_nil,fun a ha=>by cases ha⟩,C0.out⟩
  case round=>
   clear C0;obtain ⟨k,d,rfl,am,q⟩:=hrel;by_cases l:k < cs.length
   ·obtain ⟨v,I⟩:=q.out.2.2;have U:(upd X 8 (dw d)) 0=ints (enc cs):=by rw [cu _ _ (by decide)];exact H0.out
    have W:lU n (upd X 8 (dw d)) tr ch lev rea:=HT.out.congr fun k E H=>cu _ _ (by omega)
    obtain ⟨g,c,e0,L,ag,lg,ng,zg,r0,r1,r2,r3,-⟩:=fH I U l;have aj:=eD l;have r:Hid (dn cs k < dn cs (k + 1)/\dn cs (k + 1) <= (enc cs).length):=by
     unfold Hid;rw [gD l];omega
    have QK:Hid (∀ j,Calls Tryz.prog 219 #[.pointer (some ⟨sb,2,none⟩),.int .i64 (dn cs k:Nat)] (wr.drewN j) fun e w'=>e=.returned (.int .i64 ((cs[k]).kind:Nat))/\w'=wr.drewN j):=fun j=>yR sb 2 g (enc cs).length c (dn cs k) _ (wr.drewN j) L (by omega) (by unfold maxLen;omega) r1
    have QZ:Hid (∀ j,Calls Tryz.prog 220 #[.pointer (some ⟨sb,2,none⟩),.int .i64 (dn cs k:Nat)] (wr.drewN j) fun e w'=>e=.returned (.int .i64 ((cs[k]).lits.length:Nat))/\w'=wr.drewN j):=fun j=>jq sb 2 g (enc cs).length c (dn cs k) _ (wr.drewN j) L (by omega) (by unfold maxLen;omega) r0
    have QL:Hid (∀ j,0 < (cs[k]).lits.length->Calls Tryz.prog 175 #[.pointer (some ⟨sb,2,none⟩),.int .i64 (dn cs k:Nat)] (wr.drewN j) fun e w'=>e=.returned (.slice (some ⟨g,dn cs k + 3,none⟩) (cs[k]).lits.length (c - (dn cs k + 3)))/\∃ i,w'=(wr.drewN j).drewN i):=fun j hp=>by
     have:=iY sb 2 g (enc cs).length c (dn cs k) (cs[k]).lits.length (wr.drewN j) L (by omega) (by unfold maxLen;omega) ag r0;unfold jw at this;rw [if_neg (by omega)] at this;exact this
    have QR:Hid (∀ j x,x < 2 * n->Calls Tryz.prog 221 #[.pointer (some ⟨sb,6,none⟩),.int .i64 (dn cs k:Nat),.int .i64 (x:Nat)] (wr.drewN j) fun e w'=>e=.returned (.bool (decide (0 < tv tr x) && (rea (x / 2) == ((dn cs k:Nat):Int))))/\∃ i,w'=(wr.drewN j).drewN i):=fun j x M=>Dn _ (I.later (jR wr j)) W M hn
    have LT:=hide (HL.out _ (List.getElem_mem l));have R3:=hide r3;have a0:(0:Int) <= (dn cs k:Int):=by omega
    have a3:(dn cs k:Int) < ((enc cs).length:Int):=by omega
    have HD:Hid (∀ hk:k < cs.length,(cs[k]).kind=1->2 < (cs[k]).lits.length->(∀ x,(cs[k]).lits[0]? = some x->¬ (0 < tv tr x/\rea (x / 2)=((dn cs k:Nat):Int)))->sJ tr rea cs k):=fun hk E H h3=>⟨hk,E,H,h3⟩
    have QB:Hid (∀ Y f1 V1 X1,dQ Z sb Y K f1 V1 X1->X1 0=ints (enc cs)->Calls Tryz.prog 213 #[.pointer (some ⟨sb,2,none⟩),.int .i64 (dn cs k:Nat)] Y fun e w'=>e=.returned (.int .i64 ((dn cs (k + 1):Nat):Int))/\w'=Y):=fun Y f1 V1 X1 E H=>Jz l hN E H
    clear e0 lg ng zg r0 r1 r2 r3 I U W;go_upto_region 4 with fail
    go_cut [52] from 11 to 62 (fun v wx=>XW tr rea cs k wr v wx)
    case first=>
     clear QB;by_cases E:(cs[k]).kind=1
     ·by_cases H:2 < (cs[k]).lits.length
      ·obtain ⟨x,M⟩:∃ x,x=(cs[k]).lits[0]'(by omega):=⟨_,rfl⟩;have ad:x < 2 * n:=by rw [M];exact LT.out _ (List.getElem_mem _)
       have r4:=R3.out 0 (by omega);rw [<- M] at r4;have HI:Hid ((decide (0 < tv tr x) && (rea (x / 2) == ((dn cs k:Nat):Int)))=false->sJ tr rea cs k):=fun hf=>HD.out l E H fun y hy=>by
        rw [List.getElem?_eq_getElem (by omega),<- M] at hy;cases hy
        intro ⟨g1,g2⟩;simp [g1,g2] at hf
       have ah:=hide (fun j=>QR.out j x ad);have ai:=hide (fun j=>QL.out j (by omega));have R:(((cs[k]).kind:Int) == 1)=true:=by simp;omega
       have af:decide ((2:Int) < ((cs[k]).lits.length:Int))=true:=by simp;omega
       have al:(0:Int) < ((cs[k]).lits.length:Int):=by omega
       clear LT R3 HD QR QL M E H r;generalize (decide (0 < tv tr x) && (rea (x / 2) == ((dn cs k:Nat):Int)))=b at *
       generalize (cs[k]).kind=kd at *
       generalize (cs[k]).lits.length=m at *
       rw [Nat.add_zero] at r4;go_quiet ((first
        |(go_at_call 219;exact Calls.quiet_of_same (QK.out _))
        |(go_at_call 220;exact Calls.quiet_of_same (QZ.out _))
        |(go_at_call 175;exact Calls.quiet_of (ai.out _))
        |(go_at_call 221;exact Calls.quiet_of (ah.out _))))
       go_wp2;go_meet
       exact ⟨!b,rfl,fun hb=>HI.out (by simpa using hb),nq,rfl⟩
      ·have R:(((cs[k]).kind:Int) == 1)=true:=by simp;omega
       have af:decide ((2:Int) < ((cs[k]).lits.length:Int))=false:=by simp;omega
       clear LT R3 HD QR QL r E H;generalize (cs[k]).kind=kd at *
       generalize (cs[k]).lits.length=m at *
       go_quiet ((first
        |(go_at_call 219;exact Calls.quiet_of_same (QK.out _))
        |(go_at_call 220;exact Calls.quiet_of_same (QZ.out _))))
       go_wp2;go_meet
       exact ⟨false,rfl,fun h=>(by cases h),nq,rfl⟩
     ·have R:(((cs[k]).kind:Int) == 1)=false:=by simp;omega
      clear LT R3 HD QR QL QZ r E;generalize (cs[k]).kind=kd at *
      go_quiet (((go_at_call 219;exact Calls.quiet_of_same (QK.out _))))
      go_wp2;go_meet
      exact ⟨false,rfl,fun h=>(by cases h),nq,rfl⟩
    case rest=>
     obtain ⟨b,rfl,hb,j,rfl⟩:=hcut;clear QK QZ QL QR LT R3 HD L;have ST:=hide (And.intro q.out.1 (q.out.2.later (jR wr j)));clear q;generalize wr.drewN j=O at *
     obtain ⟨v1,u⟩:=ST.out.2.2;have B:=hide u;cases b
     ·clear hb;have J:=hide (QB.out _ _ _ _ u (by rw [cu _ _ (by decide)];exact H0.out));clear QB u;go_wp2_with (go_at_call 213;(with_reducible refine J.out.mono ?_);rintro e7 w7 ⟨rfl,rfl⟩;simp only [])
      go_roundw
      case rel=>exact ⟨k + 1,d,rfl,l,ST.out.1.none,ST.out.2⟩
      case measure=>have:=r.out;simp [intOf];omega
     ·have HI:=hide (hb rfl);clear hb;have D:=(u.hd (k:=8) (by omega));rw [show cellOf 8=19 from rfl,cz] at D;have O8:Hid (O.ownsRow 0 3 1 v1 d.length (dw d)):=by
       have o:=u.eH.own 8 (by omega);rw [cz,cz,cZ] at o;exact o
      obtain ⟨va,vc,hv⟩:=dH O8.out;subst hv;obtain ⟨D,z8⟩:=D;have ak:=u.row.lt;have ns:¬ (sb=O.heap.size):=by omega
      have an:=ST.out.1.len (Nat.le_of_lt l);clear u;go_upto_region 3 with (at_builtin;refine dR _ rfl _ _ 43 rfl 0 3 i0 (.int .i64 0) 1 8 Tryz.underlying43 hi ac ab aa rfl (by decide) _ _ _ rfl (O8.out.alloc (.cells #[.int .i64 (dn cs k:Int)] 3)) (.slice (some ⟨O.heap.size,0,none⟩) 1 1) 1 [.int .i64 (dn cs k:Int)] rfl (.inr ⟨⟨O.heap.size,0,none⟩,1,rfl,(cell_one_new O _ _)⟩) rfl (by simp [Value.oneCell']) (by unfold maxLen;omega) (by omega) zl ?_;intro v6 w6 A6;have A7:dz (O.alloc (.cells #[.int .i64 (dn cs k:Int)] 3)) 0 (kM 8) 1 (upd V 8 (.slice va d.length vc) 8) (upd X 8 (dw d) 8).length (upd X 8 (dw d) 8) 1 [.int .i64 (dn cs k:Int)] v6 w6:=(by rw [cz,cz,cZ];exact A6);have S6:=hide (B.out.push (k:=8) (m:=1) (news:=[.int .i64 (dn cs k:Int)]) (by omega) rfl A7);have B6:=hide (B.out.nO (k:=8) (by omega) A7 19 v6);have g6:=(B.out.jQ (k:=8) (by omega) A7 19 (by omega)).1;have z6:=(B.out.jQ (k:=8) (by omega) A7 19 (by omega)).2;clear A7 O8;obtain ⟨Q,P,ae⟩:=dH A6.own;subst ae;clear A6)
      rw [show cellOf 8=19 from rfl,eP,eP,eP,cz,show dw d ++ [Value.int .i64 (dn cs k:Int)]=dw (d ++ [dn cs k]) by unfold dw;rw [List.map_append];rfl] at S6;have I6:Hid (R8 Z sb w K f V X (d ++ [dn cs k]) (w6.setCell ⟨sb,19,none⟩ (.slice Q (d.length + 1) P))):=⟨ST.out.2.1.trans B6.out,_,S6.out⟩;have J:=hide (QB.out _ _ _ _ S6.out (by rw [cu _ _ (by decide)];exact H0.out));clear QB S6 B6 g6 z6 B D z8;generalize w6.setCell ⟨sb,19,none⟩ (.slice Q (d.length + 1) P)=W2 at *
      go_wp2_with (go_at_call 213;(with_reducible refine J.out.mono ?_);rintro e7 w7 ⟨rfl,rfl⟩;simp only [])
      go_roundw
      case rel=>exact ⟨k + 1,_,rfl,l,ST.out.1.snoc HI.out,I6.out⟩
      case measure=>have:=r.out;simp [intOf];omega
   ·have ek:k=cs.length:=by omega
    subst ek;obtain ⟨v,I⟩:=q.out.2.2;have L:=(I.hd (k:=0) (by omega)).1;obtain ⟨a0,c0,e0⟩:=I.eH.shape (k:=0) (by omega);rw [show cellOf 0=2 from rfl,e0,cu _ _ (by decide),H0.out,fU] at L;obtain ⟨a,c,q8,QS⟩:=Qh hN H0.out q.out.1 q.out.2;have HQ:=hide QS;have S:dn cs cs.length=(enc cs).length:=iD lr;rw [S];clear QS q I e0 S;generalize (enc cs).length=N at *
    go_wp2_with (go_at_call 222;(with_reducible refine HQ.out.mono ?_);rintro e7 w7 hr;have HR:=hide hr;obtain ⟨rfl,-⟩:=hr;simp only [])
    go_end0
    exact HR.out
end
section
variable {Z:Nat->Prop} {sb K n:Nat} {w:World} {f V:Nat->Value} {X:Nat->List Value} {cs:List Rec} {wl:Nat->List Nat}
def mG (cs:List Rec) (a:Nat):Bool:=match mapOf cs a with | some c=>decide (c.kind=2) | none=>false
theorem P6 {k:Nat} (a:k < cs.length):mG cs (dn cs k)=decide ((cs[k]).kind=2):=by
 unfold mG;rw [dP a]
def Ny (cs:List Rec) (wl:Nat->List Nat) (i:Nat) (x:Nat):List Nat:=if x < i then Df.qz (mG cs) (wl x) else wl x
def Wt (Z:Nat->Prop) (sb:Nat) (w:World) (K:Nat) (f:Nat->Value) (X:Nat->List Value) (n:Nat) (cs:List Rec) (wl:Nat->List Nat) (g9 c9:Nat) (s:Value) (wr:World):Prop:=
 ∃ (i:Nat) (V':Nat->Value) (X':Nat->List Value),s=.int .i64 ((i:Nat):Int)/\i <= 2 * n/\Hid (dQ Z sb wr K f V' X'/\mH n V' X' (Ny cs wl i)/\zP X X'/\V' 9=.slice (some ⟨g9,0,none⟩) (2 * n) c9/\dB Z w wr)
def Rj (Z:Nat->Prop) (sb K:Nat) (f V:Nat->Value) (X':Nat->List Value) (x len:Nat) (W:World):Prop:=∃ wM,dQ Z sb W K f V wM/\(∀ k,k ≠ 16 + x->wM k=X' k)/\(wM (16 + x)).length=len
theorem Sn {x g c len:Nat} {ys:List Nat} {X':Nat->List Value} (i:16 + x < K) (e:ys.length ≠ 0->V (16 + x)=.slice (some ⟨g,0,none⟩) ys.length c) (m:X' 0=ints (enc cs)) (l:(enc cs).length <= 1099511627776) (h:∀ a ∈ ys,∃ k,∃ b:k < cs.length,a=dn cs k):
  Df.Yl 224 sb g 0 ys.length (mG cs) ys (Rj Z sb K f V X' x ys.length) where
 drew:=fun W d ⟨wM,h1,h2,h3⟩=>⟨wM,h1.later (Go.below_drewN bR _),h2,h3⟩
 set:=fun W j u hj ⟨wM,h1,h2,h3⟩=>by
  rw [Nat.zero_add];exact ⟨_,h1.set i (e (by omega)) j (.int .i64 (u:Nat)),fun k b=>by rw [cu _ _ b];exact h2 k b,by rw [cz,List.length_set];exact h3⟩
 is:=.inr rfl
 call:=fun W ⟨wM,h1,h2,h3⟩ y hy=>by
  obtain ⟨k,b,rfl⟩:=h y hy;rw [P6 b];exact Ah h1 (by rw [h2 0 (by omega)];exact m) b l
theorem dQ.VW {wr wx:World} {X':Nat->List Value} {x g c:Nat} {ys d:List Nat} {post:List Value} (h:dQ Z sb wr K f V X') (m:16 + x < K) (e:V (16 + x)=.slice (some ⟨g,0,none⟩) ys.length c) (A:X' (16 + x)=dw ys) (o:d.length=ys.length) (z:wr.heap[g]? = some (.cells (([]:List Value) ++ dw ys ++ post).toArray 3 (0,0))) (i:wx.heap[g]? = some (.cells (([]:List Value) ++ dw d ++ post).toArray 3 (0,0))) (u:∀ k,k ≠ g->wx.heap[k]? = wr.heap[k]?) (hb:Below 0 wr wx):
  dQ Z sb wx K f V (upd X' (16 + x) (dw d))/\dB Z wr wx:=by
 refine h.xA m e ?_ u hb;have b:=h.eH.own (16 + x) m;rw [uF] at b ⊢;rw [e] at b ⊢;rw [A,cZ] at b;rw [cZ,o];refine ⟨by rw [cZ,o,Nat.mul_one],?_⟩
 rcases b.2 with ⟨l,_⟩ | ⟨D,q,p,l,j,a,v,y,r,B⟩
 ·cases l
 ·cases l
  rw [z] at a;cases a
  refine .inr ⟨g,c,_,rfl,j,i,v,y,?_,?_⟩
  ·simp only [List.size_toArray,List.length_append,List.length_nil,cZ] at r ⊢;omega
  ·simp only [Nat.mul_one];rw [List.nil_append,List.take_append_of_le_length (by rw [cZ];omega),List.take_of_length_le (by rw [cZ];omega)]
theorem Nw (i:Nat):(fun y=>if y=i then Df.qz (mG cs) (wl i) else Ny cs wl i y)=Ny cs wl (i + 1):=by
 funext y
 unfold Ny;by_cases e:y=i
 ·subst e;rw [if_pos rfl,if_pos (by omega)]
 ·rw [if_neg e];by_cases h:y < i
  ·rw [if_pos h,if_pos (by omega)]
  ·rw [if_neg h,if_neg (by omega)]
theorem Ea (h:dQ Z sb w K f V X) (h0:X 0=ints (enc cs)) (hN:(enc cs).length <= 1099511627776) (hW:mH n V X wl) (I:K=16 + 2 * n) (hn:n <= 50) (av:0 < n) (ah:∀ x,x < 2 * n->∀ a ∈ wl x,∃ k,∃ hk:k < cs.length,a=dn cs k) (U:∀ x,x < 2 * n->(wl x).length <= 1099511627776):
  Calls Tryz.prog 189 #[.pointer (some ⟨sb,0,none⟩)] w fun e w'=>e=.returned (.tuple #[])/\dB Z w w'/\∃ u X',dQ Z sb w' K f u X'/\mH n u X' (fun x=>Df.qz (mG cs) (wl x))/\zP X X':=by
 obtain ⟨z,c9,_,_,e9,-,q9,-⟩:=hW.at' h I (x:=0) (by omega);have S0:Hid (dQ Z sb w K f V X/\mH n V X (Ny cs wl 0)/\zP X X/\V 9=.slice (some ⟨z,0,none⟩) (2 * n) c9/\dB Z w w):=⟨h,by rw [show Ny cs wl 0=wl by funext x;unfold Ny;rw [if_neg (by omega)]];exact hW,fun _ _ _=>rfl,e9,dB.refl _⟩;clear h hW e9;go_enter Tryz.func189,Tryz.ntmps189
 go_wp2_with fail
 go_loopw [2,3,9] (fun _ _ s wr=>Wt Z sb w K f X n cs wl z c9 s wr) (fun _ _ s _=>2 * n - (intOf s).toNat)
 case atStart=>exact ⟨0,V,X,rfl,zl,S0⟩
 case round=>
  clear S0 q9;obtain ⟨i,u,X',rfl,ax,v⟩:=hrel;by_cases b:i < 2 * n
  ·obtain ⟨O,r,T,l,hc⟩:=v.out;obtain ⟨am,az,Q,wc,J,P,q9,r9,z9,l9,n9,af,own⟩:=r.at' O I b;rw [l] at J;obtain ⟨y1,_,y3⟩:=Value.slice.inj J;obtain rfl:z=am:=by have:=Option.some.inj y1;simpa using this
   subst y3;have ab:Ny cs wl i i=wl i:=by unfold Ny;rw [if_neg (by omega)]
   rw [ab] at P r9 own;have ak:X' 0=ints (enc cs):=by rw [T 0 (by decide) (by decide)];exact h0
   have row:=r.row i b;rw [ab] at row;obtain ⟨g,post,y,H,W⟩:∃ (g:Nat) (post:List Value),((wl i).length ≠ 0->Q=some ⟨g,0,none⟩)/\((wl i).length ≠ 0->Df.xq g [] post (wl i) wr)/\(wl i).length <= wc:=by
    rcases own.2 with ⟨e',hz⟩ | ⟨g',ap,ac,e',_,ai,ag,_,au,R⟩
    ·obtain ⟨_,a2,L⟩:=Value.slice.inj e';exact ⟨0,[],fun h=>absurd a2 h,fun h=>absurd a2 h,by omega⟩
    ·obtain ⟨a1,a2,L⟩:=Value.slice.inj e';subst a1 L;refine ⟨g',ac.toList.drop (wl i).length,fun _=>rfl,fun _=>?_,by simpa [cZ] using ag⟩;unfold Df.xq;rw [ai]
     congr 2
     simp only [Nat.mul_one] at R;rw [List.nil_append,<- R,List.take_append_drop]
   have CB:=Sn (Z:=Z) (sb:=sb) (K:=K) (f:=f) (V:=u) (X':=X') (x:=i) (g:=g) (c:=wc) (len:=0) (ys:=wl i) (by omega) (fun h=>by rw [P,y h]) ak hN (ah i b);have SI:Rj Z sb K f u X' i (wl i).length wr:=⟨X',O,fun _ _=>rfl,by rw [row,cZ]⟩;have M:=hide (fun d=>Df.qV (g:=g) (cap:=wc) (pre:=[]) (post:=post) (al:=Q) (w:=wr.drewN d) CB y (CB.drew _ d SI) (fun h=>(H h).drew d) (U i b) W);have ae:Hid (∀ d p D,D.length=(wl i).length->D.take (Df.qz (mG cs) (wl i)).length=Df.qz (mG cs) (wl i)->Below 0 (wr.drewN d) p->(∀ k,k ≠ g->p.heap[k]? = (wr.drewN d).heap[k]?)->((wl i).length ≠ 0->Df.xq g [] post D p)->((wl i).length=0->p.heap=(wr.drewN d).heap)->p.cell? ⟨sb,5,none⟩=some (.slice (some ⟨z,0,none⟩) (2 * n) c9)/\p.cell? ⟨z,i,none⟩=some (.slice Q (wl i).length wc)/\p.frozen? ⟨z,i,none⟩=false/\∃ V2 X2,dQ Z sb (p.setCell ⟨z,i,none⟩ (.slice Q (Df.qz (mG cs) (wl i)).length wc)) K f V2 X2/\mH n V2 X2 (Ny cs wl (i + 1))/\zP X X2/\V2 9=.slice (some ⟨z,0,none⟩) (2 * n) c9/\dB Z w (p.setCell ⟨z,i,none⟩ (.slice Q (Df.qz (mG cs) (wl i)).length wc))):=fun d p D a1 a2 L a4 a5 a6=>by
    have aa:Below wr.heap.size wr (wr.drewN d):=Go.below_drewN bR _;have S:=O.later aa;have aj:=hc.trans (dB.of_below aa);obtain ⟨s1,c1⟩:dQ Z sb p K f u (upd X' (16 + i) (dw D))/\dB Z (wr.drewN d) p:=by
     by_cases E:(wl i).length=0
     ·have e2:D=[]:=List.eq_nil_of_length_eq_zero (by rw [a1];exact E);have e1:wl i=[]:=List.eq_nil_of_length_eq_zero E;have Y:Below (wr.drewN d).heap.size (wr.drewN d) p:=⟨L.os,L.tape,L.output,by rw [a6 E];exact lr,fun k _=>by rw [a6 E]⟩;refine ⟨?_,dB.of_below Y⟩;rw [e2,<- e1,<- row,upd_same];exact S.later Y
     ·exact S.VW (by omega) (by rw [P,y E]) row a1 (H E) (a5 E) a4 L
    have h9:(upd X' (16 + i) (dw D)) 9=X' 9:=cu _ _ (by omega);obtain ⟨b1,b2⟩:=s1.eH.cell (k:=9) (by omega) l (j:=i) (by rw [h9,r.n9];exact b);rw [h9,r.hd i b,P] at b1;have ay:(Df.qz (mG cs) (wl i)).length <= (wl i).length:=List.length_filter_le ..;have s2:=s1.XG (x:=i) (m:=(Df.qz (mG cs) (wl i)).length) (by omega) l P (by rw [cz,cZ];omega);rw [cz,eP,h9,mX,a2] at s2;have q:=(s1.hd (k:=9) (by omega)).1;rw [show cellOf 9=5 from rfl,l] at q;refine ⟨q,b1,b2,_,_,s2,?_,fun k h1 h2=>?_,by rw [cu _ _ (by omega)];exact l,(aj.trans c1).setCell af _⟩
    ·rw [<- Nw];exact r.put b rfl _
    ·rw [cu _ _ h1,cu _ _ (by omega)];exact T k h1 h2
   have ar:(0:Int) <= (i:Int):=by omega
   have aq:(i:Int) < 2 * (n:Int):=by omega
   have aw:∀ (fn:Fn) (first cap:Array Value) (w:World),(Instr.makeFunc fn first cap).run Tryz.prog w=.ok (.func fn first cap) w:=fun _ _ _ _=>rfl
   clear v O r T l hc CB SI y H own row P J y1;obtain ⟨len,o⟩:∃ len,len=(wl i).length:=⟨_,rfl⟩;rw [<- o] at ae M r9 W;have N:=hide o;clear o;go_upto_region 3 with fail
   have ad:=hide (M.out 1);rw [show wr.drewN 1=wr.drew from rfl] at ad;clear M;go_region_with (go_at_call 184;refine ad.out.mono ?_;rintro e8 w8 ⟨l8,b1,b2,rfl,b3,b4,b5,b6⟩;obtain ⟨u0,u1,u2,u3⟩:=ae.out 1 w8 l8 (by rw [N.out];exact b1) b2 b3 b4 (fun h=>b5 (by rw [<- N.out];exact h)) (fun h=>b6 (by rw [<- N.out];exact h));have U3:=hide u3;clear u3 b1 b2 b3 b4 b5 b6;simp only [])
   all_goals
    obtain ⟨V2,X2,B⟩:=U3.out;have an:=hide B;clear B U3;go_wp2;go_roundw
    case rel=>exact ⟨i + 1,V2,X2,by go_num,b,an⟩
    case measure=>simp [intOf];omega
  ·have ei:i=2 * n:=by omega
   subst ei;have ao:Hid (dB Z w wr/\∃ u X',dQ Z sb wr K f u X'/\mH n u X' (fun x=>Df.qz (mG cs) (wl x))/\zP X X'):=by
    obtain ⟨O,r,T,l,hc⟩:=v.out;refine ⟨hc,u,X',O,⟨r.n9,r.hd,fun x hx=>?_⟩,T⟩;rw [r.row x hx];unfold Ny;rw [if_pos hx]
   have j1:¬ (2 * (n:Int) < 2 * (n:Int)):=by omega
   clear v I;go_wp2;go_end0;exact ⟨rfl,ao.out⟩
end
section
variable {Z:Nat->Prop} {sb ob hb kb n:Nat} {L0:List Cl} {N0:Nat} {w w':World} {s t:St}
theorem OQ {K:Nat} {f V:Nat->Value} {X:Nat->List Value} {a H p M J:Nat->Prop} {l:List UInt8} {c:List Nat} (T:rq Z sb ob hb kb n w K f V X a l H p M J) (r:n <= 50) (y:f 0=.iface 105 (.pointer (some ⟨kb,0,none⟩))) (v:Value) (hL:Nq sb (V 12) w v c) (u:c.length <= 50) (h:∀ x ∈ c,x < 2 * n) (d:l.length <= 70368744177664):
  Calls Tryz.prog 186 #[.pointer (some ⟨sb,0,none⟩),v] w fun e w'=>e=.returned .nilIface/\dB Z w w'/\∃ o z i m j,rq Z sb ob hb kb n w' K (upd f 1 o) (upd V 12 o) (upd X 12 z) a (l ++ (gQ true c ++ [10])) i p m j:=by
 have q:=hide (Av T r y ⟨#[100,32]⟩ (by decide) v hL u h d);have E:eu (⟨#[100,32]⟩:ByteArray).data.toList c c.length ++ [48,10]=gQ true c ++ [10]:=by
  unfold eu gQ;rw [List.take_length];simp
 rw [E] at q;clear T hL E;go_enter Tryz.func186,Tryz.ntmps186
 go_wp2_with (go_at_call 140;refine q.out.mono ?_;rintro Q O ⟨rfl,g,P,D,L,I,b⟩;have N:=hide g;have B:=hide b;clear g b;simp only [])
 go_ret
 exact ⟨rfl,N.out,_,_,_,_,_,B.out⟩
theorem Lc {cs:List Rec} {k:Nat} (a:k < cs.length) (c:Rec):cs.set k c=cs.take k ++ c :: cs.drop (k + 1)/\cs=cs.take k ++ cs[k] :: cs.drop (k + 1):=by
 refine ⟨List.set_eq_take_append_cons_drop.trans (by rw [if_pos a]),?_⟩;rw [<- List.drop_eq_getElem_cons a,List.take_append_drop]
theorem Kq {cs:List Rec} {k:Nat} (g:k < cs.length) (i:(cs[k]).kind=1) (b:Int):iM (cs.set k ⟨2,b,(cs[k]).lits⟩) + 1=iM cs/\jc (cs.set k ⟨2,b,(cs[k]).lits⟩)=jc cs + (3 + (cs[k]).lits.length):=by
 obtain ⟨j,a⟩:=Lc g ⟨2,b,(cs[k]).lits⟩;have e:∀ A (c:Rec) B,iM (A ++ c :: B)=iM A + ((if c.kind=1 then 1 else 0) + iM B):=fun A c B=>by
  unfold iM;rw [List.countP_append,List.countP_cons];by_cases h:c.kind=1 <;> simp [h] <;> omega
 have d:∀ A (c:Rec) B,jc (A ++ c :: B)=jc A + ((if c.kind=2 then 3 + c.lits.length else 0) + jc B):=fun A c B=>by
  unfold jc;rw [List.map_append,List.sum_append,List.map_cons,List.sum_cons]
 rw [j,e,d];have m:iM cs=iM (cs.take k) + ((if (cs[k]).kind=1 then 1 else 0) + iM (cs.drop (k + 1))):=by
  rw [<- e];exact congrArg iM a
 have l:jc cs=jc (cs.take k) + ((if (cs[k]).kind=2 then 3 + (cs[k]).lits.length else 0) + jc (cs.drop (k + 1))):=by
  rw [<- d];exact congrArg jc a
 rw [if_pos i] at m;rw [if_neg (by omega)] at l;simp;omega
def Dl (tr:List Nat) (rea:Nat->Int) (cs cs':List Rec):Prop:=cs'.length=cs.length/\∀ k (h:k < cs.length) (h':k < cs'.length),(cs'[k]).lits=(cs[k]).lits/\((cs'[k]).kind=(cs[k]).kind\/((cs'[k]).kind=2/\sJ tr rea cs k))
variable {tr:List Nat} {rea:Nat->Int} {cs cs':List Rec}
theorem Dl.refl:Dl tr rea cs cs:=⟨rfl,fun k _ _=>⟨rfl,.inl rfl⟩⟩
theorem Dl.dn (h:Dl tr rea cs cs'):∀ k,k <= cs.length->dn cs' k=dn cs k
 | 0,_=>by rw [jP,jP]
 | k + 1,hk=>by
  have a:k < cs.length:=by omega
  have b:k < cs'.length:=by rw [h.1];exact a
  rw [gD a,gD b,Dl.dn h k (by omega),(h.2 k a b).1]
theorem Dl.len (h:Dl tr rea cs cs'):(enc cs').length=(enc cs).length:=by
 rw [<- iD (cs:=cs') lr,h.1,h.dn _ lr,iD lr]
theorem Dl.set (h:Dl tr rea cs cs') {k:Nat} (i:k < cs'.length) (d:sJ tr rea cs k) (b:Int):Dl tr rea cs (cs'.set k ⟨2,b,(cs'[k]).lits⟩):=⟨by rw [List.length_set];exact h.1,fun j c g=>by
 have a:j < cs'.length:=by simpa using g
 by_cases e:k=j
 ·subst e;rw [List.getElem_set_self];exact ⟨(h.2 k c a).1,.inr ⟨rfl,d⟩⟩
 ·rw [List.getElem_set_ne e];exact h.2 j c a⟩
theorem Dl.YR (h:Dl tr rea cs cs'):JM (mapOf cs) (mapOf cs'):=fun a=>by
 cases g:mapOf cs a with
 | none=>
  left
  cases e:mapOf cs' a with
  | none=>rfl
  | some c=>
   obtain ⟨k,d,rfl,_⟩:=dO e;have b:k < cs.length:=by rw [<- h.1];exact d
   rw [h.dn k (by omega),dP b] at g;cases g
 | some c=>
  obtain ⟨k,d,rfl,rfl⟩:=dO g;have b:k < cs'.length:=by rw [h.1];exact d
  obtain ⟨g1,g2⟩:=h.2 k d b;rw [<- h.dn k (by omega),dP b,g1]
  rcases g2 with g2 | ⟨g2,_⟩
  ·rw [g2];exact .inl rfl
  ·rw [g2];exact .inr ⟨_,rfl,rfl⟩
theorem Dl.keeps (h:Dl tr rea cs cs') (g:∀ x ∈ tr,0 < tv tr x):∀ b c x r,mapOf cs b=some c->c.kind ≠ 2->c.lits=x :: r->x ∈ tr->rea (x / 2)=(b:Nat)->mapOf cs' b=mapOf cs b:=fun b c x r e o l j i=>by
 obtain ⟨k,d,rfl,rfl⟩:=dO e;have a:k < cs'.length:=by rw [h.1];exact d
 obtain ⟨g1,g2⟩:=h.2 k d a;rw [e,<- h.dn k (by omega),dP a,g1]
 rcases g2 with g2 | ⟨_,_,_,_,m⟩
 ·rw [g2]
 ·refine absurd ⟨g x j,i⟩ (m x ?_);rw [show (cs[k]).lits=x :: r from l];rfl
theorem Dl.given (h:Dl tr rea cs cs') (j:KG L0 (mapOf cs)):KG L0 (mapOf cs'):=fun c l=>by
 rcases j c l with e | ⟨a,d,e,i,m⟩
 ·exact .inl e
 ·refine .inr ⟨a,d,?_,i,m⟩;obtain ⟨k,g,rfl,rfl⟩:=dO e;have b:k < cs'.length:=by rw [h.1];exact g
  obtain ⟨g1,g2⟩:=h.2 k g b;rw [<- h.dn k (by omega),dP b,g1]
  rcases g2 with g2 | ⟨_,_,o,_⟩
  ·rw [g2]
  ·have:(cs[k]).kind=0:=i;omega
end
section
variable {Z:Nat->Prop} {sb ob hb kb n:Nat} {L0:List Cl} {N0:Nat} {w0 w w':World} {s t:St}
structure JI (Z:Nat->Prop) (sb ob hb kb n:Nat) (L0:List Cl) (w0:World) (s:St) (ids:List Nat) (i:Nat) (w:World) (t:St):Prop where
 dI:rq Z sb ob hb kb n w (16 + 2 * n) t.f t.V t.X s.gone (dK t.ls) t.Rs s.Ro t.Rd t.Rk
 eO:dB Z w0 w
 x0:t.X 0=ints (enc t.cs)
 x8:t.X 8=dw ids
 xs:∀ j,j ≠ 0->j ≠ 8->j ≠ 12->t.X j=s.X j
 vs:∀ j,j ≠ 8->j ≠ 12->t.V j=s.V j
 ff:∀ j,j ≠ 1->j ≠ 3->j ≠ 4->j ≠ 18->j ≠ 19->t.f j=s.f j
 f3:t.f 3=.int .i64 ((t.lc:Nat):Int)
 f4:t.f 4=.int .i64 ((t.ws:Nat):Int)
 f18:t.f 18=.int .i64 ((s.mo + 100:Nat):Int)
 del:Dl s.tr s.rea s.cs t.cs
 WY:∀ k (h:k < s.cs.length) (h':k < t.cs.length),(t.cs[k]).kind ≠ (s.cs[k]).kind->dn s.cs k ∈ ids.take i
 lines:jF L0 (t.ls.map fun l=>(l.1,l.2.map wr)) t.L
 yJ:∀ l ∈ t.ls,∀ x ∈ l.2,x < 2 * n
 tN:vP t.L (nS t.cs)
 wU:(dK t.ls).length + 125 * iM t.cs <= 250 * s.m
 cnt:t.lc=iM t.cs
 wR:t.ws=jc t.cs
 WX:t.lc <= s.lc
theorem JI.later {a:List Nat} {i:Nat} (h:JI Z sb ob hb kb n L0 w0 s a i w t) (b:Below w.heap.size w w'):JI Z sb ob hb kb n L0 w0 s a i w' t:={ h with dI:=h.dI.later b,eO:=h.eO.trans (dB.of_below b) }
def YY (Z:Nat->Prop) (sb ob hb kb n:Nat) (w0:World) (s t:St) (c:List Nat) (w':World):Prop:=
 dB Z w0 w'/\∃ v' X' H9 Rd' Zk,rq Z sb ob hb kb n w' (16 + 2 * n) (upd t.f 1 v') (upd t.V 12 v') (upd t.X 12 X') s.gone (dK t.ls ++ (gQ true c ++ [10])) H9 s.Ro Rd' Zk
theorem Mr {c:List Nat} (d:n <= 50) (e:∀ x ∈ c,x < 2 * n):(gQ true c).length <= 4 * c.length + 3:=by
 have a:=nH d (st:=[100,32]) (c:=c) e (by simp) c.length lr;have b:gQ true c=eu [100,32] c c.length ++ [48]:=by
  unfold eu gQ;rw [List.take_length];simp
 rw [b,List.length_append];simp at a ⊢;omega
theorem JI.next {a:List Nat} {i:Nat} (h:JI Z sb ob hb kb n L0 w0 s a i w t) (l:Hw s.tr s.rea s.cs s.cs.length a) (hi:i < a.length):
  ∃ k,∃ (c:k < s.cs.length) (b:k < t.cs.length),a[i]=dn s.cs k/\a[i]=dn t.cs k/\sJ s.tr s.rea s.cs k/\(t.cs[k]).kind=1/\(t.cs[k]).lits=(s.cs[k]).lits:=by
 obtain ⟨k,c,g,e⟩:=l.2 _ (List.getElem_mem hi);have b:k < t.cs.length:=by rw [h.del.1];exact c
 refine ⟨k,c,b,e,by rw [h.del.dn k (by omega)];exact e,g,?_,(h.del.2 k c b).1⟩;obtain ⟨_,q,_⟩:=id g;refine Classical.byContradiction fun o=>?_
 have d:=h.WY k c b (by omega);rw [<- e] at d;obtain ⟨j,p,m⟩:=List.mem_iff_getElem.1 d;rw [List.length_take] at p;rw [List.getElem_take] at m;exact (List.pairwise_iff_getElem.1 l.1 j i (by omega) hi (by omega)) m
theorem MO {a:List Nat} (h:Main Z sb ob hb kb n L0 N0 false w s) (e:R8 (zz s.Rs w) sb (w.setCell ⟨sb,18,none⟩ (.int .i64 ((s.mo + 100:Nat):Int))) (16 + 2 * n) (upd s.f 18 (.int .i64 ((s.mo + 100:Nat):Int))) s.V s.X a w'):
  ∃ t,JI Z sb ob hb kb n L0 w s a 0 w' t:=by
 obtain ⟨i,v,l⟩:=e;have b:dB (zz s.Rs w) w w':=((dB.refl w).setCell h.dI.duo.dF.jf _).trans i;obtain ⟨d,c⟩:=h.dI.gK l b (by rw [cu _ _ (by decide),cu _ _ (by decide)])
 exact ⟨{ s with f:=upd (upd s.f 18 (.int .i64 ((s.mo + 100:Nat):Int))) 19 v,V:=upd s.V 8 v,X:=upd s.X 8 (dw a),Rs:=(fun g=>zz s.Rs w g/\g < w'.heap.size),Rd:=(fun g=>zz s.Rd w g/\g < w'.heap.size) },{
  dI:=d
  eO:=c
  x0:=(cu (k:=8) (j:=0) s.X (dw a) (by decide)).trans h.x0
  x8:=cz s.X 8 (dw a)
  xs:=fun j _ p _=>cu _ _ p
  vs:=fun j q _=>cu _ _ q
  ff:=fun j _ _ _ o m=>(cu _ _ m).trans (cu _ _ o)
  f3:=((cu (k:=19) (j:=3) (upd s.f 18 (.int .i64 ((s.mo + 100:Nat):Int))) v (by decide)).trans (cu (k:=18) (j:=3) s.f (.int .i64 ((s.mo + 100:Nat):Int)) (by decide))).trans h.f3
  f4:=((cu (k:=19) (j:=4) (upd s.f 18 (.int .i64 ((s.mo + 100:Nat):Int))) v (by decide)).trans (cu (k:=18) (j:=4) s.f (.int .i64 ((s.mo + 100:Nat):Int)) (by decide))).trans h.f4
  f18:=(cu (k:=19) (j:=18) (upd s.f 18 (.int .i64 ((s.mo + 100:Nat):Int))) v (by decide)).trans (cz s.f 18 _)
  del:=Dl.refl
  WY:=fun k _ _ h=>absurd rfl h
  lines:=h.lines
  yJ:=h.yJ
  tN:=h.tN
  wU:=h.wU
  cnt:=h.cnt
  wR:=h.wR
  WX:=lr }⟩
theorem JI.lits {a:List Nat} {i:Nat} (h:JI Z sb ob hb kb n L0 w0 s a i w t) (b:Main Z sb ob hb kb n L0 N0 false w0 s) {k:Nat} (c:k < s.cs.length):(s.cs[k]).lits.length <= n/\∀ x ∈ (s.cs[k]).lits,x < 2 * n:=
 ⟨jN (b.pi.lZ.vars _ _ (dP c)) (b.pi.lZ.lt _ _ (dP c)),b.pi.lZ.lt _ _ (dP c)⟩
theorem Ji {a:List Nat} {i k:Nat} {z:World} (h:JI Z sb ob hb kb n L0 w0 s a i w t) (T:Main Z sb ob hb kb n L0 N0 false w0 s) (hn:n <= 50) (hN:(enc s.cs).length <= 1099511627776) (ab:s.m <= 1099511627776) (hi:i < a.length)
  (hk:k < s.cs.length) (b:k < t.cs.length) (e1:a[i]=dn s.cs k) (e2:a[i]=dn t.cs k) (hI:sJ s.tr s.rea s.cs k) (Y:(t.cs[k]).kind=1) (D:(t.cs[k]).lits=(s.cs[k]).lits) (hw:YY Z sb ob hb kb n w0 s t (s.cs[k]).lits z):
  Calls Tryz.prog 187 #[.pointer (some ⟨sb,2,none⟩),.int .i64 (a[i]:Nat)] z fun e w'=>e=.returned (.tuple #[])/\∃ R,JI Z sb ob hb kb n L0 w0 s a (i + 1) w' R/\R.f 19=t.f 19:=by
 obtain ⟨H,y,q,M,O,N,T1⟩:=hw;obtain ⟨ln,lt⟩:=h.lits T hk;have W:=eD b;have U:=h.del.len;have u:(upd t.X 12 q) 0=ints (enc t.cs):=by rw [cu _ _ (by decide)];exact h.x0
 have S:1 <= iM t.cs:=by have:=(Kq b Y 0).1;omega
 have ad:t.lc <= 2 * s.m:=by have:=h.wU;have:=h.cnt;omega
 have aa:t.ws <= (enc t.cs).length:=by
  rw [h.wR];have B:∀ cs:List Rec,jc cs <= (enc cs).length:=fun cs=>by
   induction cs with
   | nil=>exact lr
   | cons c r ih=>
    have e:(enc (c :: r)).length=(3 + c.lits.length) + (enc r).length:=by simp [enc,fV]
    have e':jc (c :: r)=(if c.kind=2 then 3 + c.lits.length else 0) + jc r:=by unfold jc;rw [List.map_cons,List.sum_cons]
    rw [e,e'];split <;> omega
  exact B _
 have hg:((upd t.X 12 q) 0)[dn t.cs k]? = some (.int .i64 (((s.cs[k]).lits.length:Nat):Int)):=by
  rw [u,lN,Gt b,D];rfl
 rw [e2];refine (Jq (dn t.cs k) (enc t.cs).length (s.cs[k]).lits.length (t.lc:Nat) (t.ws:Nat) T1.duo.dF (by rw [u,fU]) (by omega) (by omega) hg (by omega) ((cu (k:=1) (j:=3) _ _ (by decide)).trans h.f3) ((cu (k:=1) (j:=4) _ _ (by decide)).trans h.f4) (by omega) (by omega) (by omega) (by omega)).mono ?_;rintro e w' ⟨rfl,E,hS⟩;obtain ⟨t1,t2⟩:=T1.gK hS E (by rw [cu _ _ (by decide),cu _ _ (by decide)]);obtain ⟨c1,c2⟩:=Kq b Y (t.cs[k]).busy;obtain ⟨L',r1,r2⟩:=h.tN.delete b (by omega) (t.cs[k]).busy (d:=(s.cs[k]).lits.map wr) (fun x=>by rw [D,List.mem_map]);have ac:=Mr hn lt;have ae:=h.cnt;have P:upd (upd (upd t.f 1 y) 3 (.int .i64 (((t.lc:Nat):Int) - 1))) 4 (.int .i64 (((t.ws:Nat):Int) + (3 + ((s.cs[k]).lits.length:Nat)))) 19=t.f 19:=by
  rw [cu _ _ (by decide),cu _ _ (by decide),cu _ _ (by decide)]
 have Q:upd (upd (upd t.f 1 y) 3 (.int .i64 (((t.lc:Nat):Int) - 1))) 4 (.int .i64 (((t.ws:Nat):Int) + (3 + ((s.cs[k]).lits.length:Nat)))) 18=.int .i64 ((s.mo + 100:Nat):Int):=by
  rw [cu _ _ (by decide),cu _ _ (by decide),cu _ _ (by decide)];exact h.f18
 have X8:upd (upd t.X 12 q) 0 (((upd t.X 12 q) 0).set (dn t.cs k + 1) (.int .i64 2)) 8=dw a:=by
  rw [cu _ _ (by decide),cu _ _ (by decide)];exact h.x8
 have X0:upd (upd t.X 12 q) 0 (((upd t.X 12 q) 0).set (dn t.cs k + 1) (.int .i64 2)) 0=ints (enc (t.cs.set k ⟨2,(t.cs[k]).busy,(t.cs[k]).lits⟩)):=by
  rw [cz,u];exact (ints_set _ _ 2).trans (congrArg ints (Gv b 2).symm)
 have F3:upd (upd (upd t.f 1 y) 3 (.int .i64 (((t.lc:Nat):Int) - 1))) 4 (.int .i64 (((t.ws:Nat):Int) + (3 + ((s.cs[k]).lits.length:Nat)))) 3=.int .i64 ((t.lc - 1:Nat):Int):=by
  rw [cu _ _ (by decide),cz]
  congr 1
  omega
 have F4:upd (upd (upd t.f 1 y) 3 (.int .i64 (((t.lc:Nat):Int) - 1))) 4 (.int .i64 (((t.ws:Nat):Int) + (3 + ((s.cs[k]).lits.length:Nat)))) 4=.int .i64 ((t.ws + (3 + (s.cs[k]).lits.length):Nat):Int):=by
  rw [cz]
  congr 1
 refine ⟨rfl,{ t with cs:=t.cs.set k ⟨2,(t.cs[k]).busy,(t.cs[k]).lits⟩,f:=upd (upd (upd t.f 1 y) 3 (.int .i64 (((t.lc:Nat):Int) - 1))) 4 (.int .i64 (((t.ws:Nat):Int) + (3 + ((s.cs[k]).lits.length:Nat)))),V:=upd t.V 12 y,X:=upd (upd t.X 12 q) 0 (((upd t.X 12 q) 0).set (dn t.cs k + 1) (.int .i64 2)),ls:=t.ls ++ [(true,(s.cs[k]).lits)],L:=L',lc:=t.lc - 1,ws:=t.ws + (3 + (s.cs[k]).lits.length),Rs:=(fun g=>zz M z g/\g < w'.heap.size),Rd:=(fun g=>zz O z g/\g < w'.heap.size),Rk:=N },{
  dI:=by rw [oo];exact t1
  eO:=H.trans t2
  x0:=X0
  x8:=X8
  xs:=fun j o p v=>((cu _ _ o).trans (cu _ _ v)).trans (h.xs j o p v)
  vs:=fun j o p=>(cu _ _ p).trans (h.vs j o p)
  ff:=fun j o p v a4 a5=>((cu _ _ v).trans ((cu _ _ p).trans (cu _ _ o))).trans (h.ff j o p v a4 a5)
  f3:=F3
  f4:=F4
  f18:=Q
  del:=h.del.set b hI _
  WY:=fun j o p v=>by
   by_cases e:k=j
   ·subst e;rw [<- e1];rw [List.take_succ_eq_append_getElem hi];exact List.mem_append_right _ (List.mem_singleton.2 rfl)
   ·have J:j < t.cs.length:=by simpa using p
    have I:(t.cs[j]).kind ≠ (s.cs[j]).kind:=by
     have:=v;simp only [List.getElem_set_ne e] at this;exact this
    rw [List.take_succ_eq_append_getElem hi];exact List.mem_append_left _ (h.WY j o J I)
  lines:=by
   rw [List.map_append];exact h.lines.del r1
  yJ:=fun l o=>by
   rcases List.mem_append.1 o with o | o
   ·exact h.yJ l o
   ·rw [List.mem_singleton.1 o];exact lt
  tN:=r2
  wU:=by
   show (dK (t.ls ++ [(true,(s.cs[k]).lits)])).length + 125 * iM (t.cs.set k ⟨2,(t.cs[k]).busy,(t.cs[k]).lits⟩) <= 250 * s.m
   rw [oo,List.length_append,List.length_append];have:=h.wU;have:=T.n30;simp only [List.length_cons,List.length_nil];omega
  cnt:=by
   show t.lc - 1=iM (t.cs.set k ⟨2,(t.cs[k]).busy,(t.cs[k]).lits⟩)
   have:=h.cnt;omega
  wR:=by
   show t.ws + (3 + (s.cs[k]).lits.length)=jc (t.cs.set k ⟨2,(t.cs[k]).busy,(t.cs[k]).lits⟩)
   rw [c2,h.wR,D]
  WX:=by show t.lc - 1 <= s.lc;have:=h.WX;omega },P⟩
end
section
variable {Z:Nat->Prop} {sb ob hb kb n:Nat} {L0:List Cl} {N0:Nat} {w0 w w':World} {s t:St}
theorem Qj {b:List Nat} {i k:Nat} (h:JI Z sb ob hb kb n L0 w0 s b i w t) (B:Main Z sb ob hb kb n L0 N0 false w0 s) (P:n <= 50) (hN:(enc s.cs).length <= 1099511627776) (N:s.m <= 137438953472) (hi:i < b.length)
  (Q:k < s.cs.length) (d:k < t.cs.length) (E:b[i]=dn t.cs k) (R:sJ s.tr s.rea s.cs k) (o:(t.cs[k]).lits=(s.cs[k]).lits):
  ∃ g c:Nat,(∀ j,Calls Tryz.prog 175 #[.pointer (some ⟨sb,2,none⟩),.int .i64 (b[i]:Nat)] (w.drewN j) fun e w'=>e=.returned (.slice (some ⟨g,b[i] + 3,none⟩) (s.cs[k]).lits.length (c - (b[i] + 3)))/\∃ q,w'=(w.drewN j).drewN q)/\
   ∀ j,Calls Tryz.prog 186 #[.pointer (some ⟨sb,0,none⟩),.slice (some ⟨g,b[i] + 3,none⟩) (s.cs[k]).lits.length (c - (b[i] + 3))] (w.drewN j) fun e w'=>e=.returned .nilIface/\YY Z sb ob hb kb n w0 s t (s.cs[k]).lits w':=by
 have D:=h.del.len;obtain ⟨ln,lt⟩:=h.lits B Q;obtain ⟨_,_,l2,_⟩:=id R;have l:=eD d;rw [o] at l;obtain ⟨g,c,W,J,p,M,L,zg,y,r1,r2,I,-⟩:=fH h.dI.duo.dF h.x0 d;rw [o] at y;refine ⟨g,c,fun j=>?_,fun j=>?_⟩
 ·have:=iY sb 2 g (enc t.cs).length c (dn t.cs k) (s.cs[k]).lits.length (w.drewN j) J (by omega) (by unfold maxLen;omega) p y;unfold jw at this;rw [if_neg (by omega)] at this;rw [E];exact this
 ·have hK:=h.dI.duo.dF.hK;have r:(t.V 12).ownBlock ≠ some g:=by
   have S:(t.V 0).ownBlock=some g:=by rw [W];rfl
   rcases h.dI.duo.dF.eH.apart 12 0 (by omega) (by omega) (by decide) with a | a
   ·rw [a];simp
   ·rw [S] at a;exact a
  have U:t.f 0=.iface 105 (.pointer (some ⟨kb,0,none⟩)):=(h.ff 0 (by decide) (by decide) (by decide) (by decide) (by decide)).trans B.f0;have z:=h.wU;refine (OQ (h.dI.later (jR w j)) P U _ (c:=(s.cs[k]).lits) ⟨some ⟨g,b[i] + 3,none⟩,_,g,b[i] + 3,rfl,(fun e=>by cases e),fun _=>⟨rfl,M,L,r,fun q O=>?_⟩⟩ (by omega) lt (by omega)).mono ?_
  ·rw [E];have:=I q (by rw [o];exact O);simp only [o] at this;exact this
  ·rintro e w' ⟨rfl,Y,H,X',u,x,v,T⟩;exact ⟨rfl,h.eO.trans ((dB.of_below (jR w j)).trans Y),H,X',u,x,v,T⟩
theorem Dl.busy {tr:List Nat} {rea:Nat->Int} {cs cs' a:List Rec} (h:Dl tr rea cs cs') (hb:fF cs' a):Dl tr rea cs a:=⟨hb.1.trans h.1,fun k c d=>by
 have b:k < cs'.length:=by rw [h.1];exact c
 obtain ⟨j,i⟩:=hb.2 k b d;obtain ⟨g,e⟩:=h.2 k c b;exact ⟨i.trans g,by rw [j];exact e⟩⟩
theorem Qi {b:List Nat} {i:Nat} (h:JI Z sb ob hb kb n L0 w0 s b i w t) (u:(enc s.cs).length <= 1099511627776):
  Calls Tryz.prog 188 #[.pointer (some ⟨sb,2,none⟩)] w fun e w'=>e=.returned (.tuple #[])/\∃ p,JI Z sb ob hb kb n L0 w0 s b i w' p:=by
 refine (Ox h.dI.duo.dF h.x0 (by rw [h.del.len];omega)).mono ?_;rintro e w' ⟨rfl,q,cs',a,r⟩;obtain ⟨o,m⟩:=h.dI.gK r q rfl
 exact ⟨rfl,{ t with cs:=cs',X:=upd t.X 0 (ints (enc cs')),Rs:=(fun g=>zz t.Rs w g/\g < w'.heap.size),Rd:=(fun g=>zz t.Rd w g/\g < w'.heap.size) },{
  dI:=o
  eO:=h.eO.trans m
  x0:=cz t.X 0 _
  x8:=(cu (k:=0) (j:=8) t.X (ints (enc cs')) (by decide)).trans h.x8
  xs:=fun j d c l=>(cu _ _ d).trans (h.xs j d c l)
  vs:=h.vs
  ff:=h.ff
  f3:=h.f3
  f4:=h.f4
  f18:=h.f18
  del:=h.del.busy a
  WY:=fun k d c l=>h.WY k d (by rw [<- a.1];exact c) (by
   have:=(a.2 k (by rw [<- a.1];exact c) c).1;rw [<- this];exact l)
  lines:=h.lines
  yJ:=h.yJ
  tN:=by rw [a.nS];exact h.tN
  wU:=by show (dK t.ls).length + 125 * iM cs' <= _;rw [a.cnt.1];exact h.wU
  cnt:=by show t.lc=iM cs';rw [a.cnt.1];exact h.cnt
  wR:=by show t.ws=jc cs';rw [a.cnt.2];exact h.wR
  WX:=h.WX }⟩
theorem Vs {tr:List Nat}:∀ x ∈ tr,0 < tv tr x:=fun x a=>by unfold tv;rw [if_pos a];decide
theorem ER {l:List Nat} {N:Nat} (h:l.Nodup) (b:∀ x ∈ l,x < N):l.length <= N:=by
 have c:l ⊆ List.range N:=fun x a=>List.mem_range.2 (b x a)
 have:=h.length_le_of_subset c;simpa using this
theorem Gp {H:List Nat} {i:Nat} (h:JI Z sb ob hb kb n L0 w0 s H i w t) (b:Main Z sb ob hb kb n L0 N0 false w0 s) (T:Ready s) (U:n <= 50) (I:0 < n) (hN:(enc s.cs).length <= 1099511627776):
  Calls Tryz.prog 189 #[.pointer (some ⟨sb,0,none⟩)] w fun e w'=>e=.returned (.tuple #[])/\dB Z w0 w'/\∃ p,Main Z sb ob hb kb n L0 N0 false w' p/\Ready p/\p.k=s.k/\p.m=s.m/\p.r=s.r/\p.mo=s.mo + 100/\p.ch=s.ch:=by
 have y:=h.del.len;have l:=h.del.YR;have hW:mH n t.V t.X s.wl:=b.gP.congr (h.xs 9 (by decide) (by decide) (by decide)) (fun x _=>h.vs _ (by omega) (by omega)) (fun x _=>h.xs _ (by omega) (by omega) (by omega));have o:∀ x,x < 2 * n->∀ a ∈ s.wl x,∃ k,∃ u:k < s.cs.length,a=dn s.cs k:=fun x q a v=>by
  obtain ⟨c,⟨g1,_⟩,_⟩:=b.pi.oH.lists x q a v;obtain ⟨k,u,e,_⟩:=dO g1;exact ⟨k,u,e⟩
 refine (Ea h.dI.duo.dF h.x0 (by omega) hW rfl U I (fun x q a v=>?_) (fun x q=>?_)).mono ?_
 ·obtain ⟨k,u,e⟩:=o x q a v;exact ⟨k,by rw [h.del.1];exact u,by rw [h.del.dn k (by omega)];exact e⟩
 ·refine Nat.le_trans (ER (b.pi.oH.nodup x q) (N:=(enc s.cs).length) fun a v=>?_) (by omega);obtain ⟨k,u,rfl⟩:=o x q a v;have:=eD u;omega
 ·rintro e w' ⟨rfl,Y,V',P,hS,J,Q⟩;obtain ⟨S,R⟩:=h.dI.gK hS Y rfl;have D:∀ j,j ≠ 0->j ≠ 8->j ≠ 9->j ≠ 12->j < 16->P j=s.X j:=fun j E B O a4 a5=>(Q j O a5).trans (h.xs j E B a4)
  have z:∀ j,j ≠ 1->j ≠ 3->j ≠ 4->j ≠ 18->j ≠ 19->t.f j=s.f j:=h.ff
  refine ⟨rfl,h.eO.trans R,{ s with cs:=t.cs,wl:=fun x=>Df.qz (mG t.cs) (s.wl x),f:=t.f,V:=V',X:=P,ls:=t.ls,L:=t.L,lc:=t.lc,ws:=t.ws,mo:=s.mo + 100,Rs:=(fun g=>zz t.Rs w g/\g < w'.heap.size),Rd:=(fun g=>zz t.Rd w g/\g < w'.heap.size),Rk:=t.Rk },{
   dI:=S
   pi:={
    dI:=b.pi.dI
    o7:=b.pi.o7.del l (h.del.keeps Vs)
    lZ:=b.pi.lZ.del l
    oH:=b.pi.oH.del l (fun x q=>by
     show Df.qz (mG t.cs) (s.wl x)=_
     unfold Df.qz;refine List.filter_congr fun a v=>?_
     unfold mG
     cases hq:mapOf t.cs a with
     | none=>simp
     | some d=>by_cases hd:d.kind=2 <;> simp [hd]) b.pi.lZ
    vX:=b.pi.vX.del l }
   x0:=(Q 0 (by decide) (by decide)).trans h.x0
   gB:=b.gB.congr fun j E B=>D j (by omega) (by omega) (by omega) (by omega) (by omega)
   gP:=J
   lam:=b.lam.congr (D 6 (by decide) (by decide) (by decide) (by decide) (by decide))
   n10:=by show (P 10).length=n;rw [D 10 (by decide) (by decide) (by decide) (by decide) (by decide)];exact b.n10
   oV:=by
    obtain ⟨M,W⟩:=b.oV;exact ⟨M,W.congr (D 11 (by decide) (by decide) (by decide) (by decide) (by decide))⟩
   f0:=(z 0 (by decide) (by decide) (by decide) (by decide) (by decide)).trans b.f0
   f3:=h.f3
   f4:=h.f4
   f7:=(z 7 (by decide) (by decide) (by decide) (by decide) (by decide)).trans b.f7
   f14:=(z 14 (by decide) (by decide) (by decide) (by decide) (by decide)).trans b.f14
   f18:=h.f18
   f20:=(z 20 (by decide) (by decide) (by decide) (by decide) (by decide)).trans b.f20
   f21:=(z 21 (by decide) (by decide) (by decide) (by decide) (by decide)).trans b.f21
   AV:=b.AV
   late:=b.late
   rY:=b.rY
   zU:=fun hb a c E B O=>b.zU hb a c (l.back E B) B O
   bad:=fun e=>by cases e
   lines:=h.lines
   yJ:=h.yJ
   tN:=h.tN
   DZ:=h.del.given b.DZ
   num:=by show (enc t.cs).length <= _;rw [y];exact b.num
   wU:=h.wU
   cnt:=h.cnt
   wR:=h.wR
   gM:=b.gM
   lcm:=Nat.le_trans h.WX b.lcm
   km:=b.km
   n30:=b.n30 },T,rfl,rfl,rfl,rfl,rfl⟩
end
section
variable {Z:Nat->Prop} {sb ob hb kb n:Nat} {L0:List Cl} {N0:Nat} {w0 w w':World} {s t:St}
def zL (Z:Nat->Prop) (sb ob hb kb n:Nat) (L0:List Cl) (N0:Nat):Prop:=
 ∀ w s,Main Z sb ob hb kb n L0 N0 false w s->Ready s->0 < s.ws->(enc s.cs).length <= 1099511627776->Calls Tryz.prog 190 #[.pointer (some ⟨sb,0,none⟩)] w fun e w'=>e=.returned (.tuple #[])/\dB Z w w'/\∃ s',Main Z sb ob hb kb n L0 N0 false w' s'/\Ready s'/\s'.k=s.k/\s'.m=s.m/\s'.r=s.r/\s'.mo=s.mo/\s'.ch=s.ch
def WO (Z:Nat->Prop) (sb ob hb kb n:Nat) (L0:List Cl) (N0:Nat) (w:World) (s:St) (w':World):Prop:=
 dB Z w w'/\∃ s',Main Z sb ob hb kb n L0 N0 false w' s'/\Ready s'/\s'.k=s.k/\s'.m=s.m/\s'.r=s.r/\s'.mo=s.mo + 100/\s'.ch=s.ch
def Half (Z:Nat->Prop) (sb ob hb kb n:Nat) (L0:List Cl) (w0:World) (s:St) (ids:List Nat) (v:Value) (i:Nat) (w:World):Prop:=∃ t,JI Z sb ob hb kb n L0 w0 s ids i w t/\t.f 19=v
theorem Half.later {a:List Nat} {v:Value} {i:Nat} (h:Half Z sb ob hb kb n L0 w0 s a v i w) (b:Below w.heap.size w w'):Half Z sb ob hb kb n L0 w0 s a v i w':=by
 obtain ⟨t,h,e⟩:=h;exact ⟨t,h.later b,e⟩
theorem Half.idle {a:List Nat} {v:Value} {i:Nat} (h:Half Z sb ob hb kb n L0 w0 s a v i w):w.cell? ⟨sb,19,none⟩=some v/\((v=.slice none 0 0/\a.length=0)\/∃ g c,v=.slice (some ⟨g,0,none⟩) a.length c/\a.length <= c):=by
 obtain ⟨t,h,e⟩:=h;have p:=h.dI.duo.dF.hK;have hd:=(h.dI.duo.dF.hd (k:=8) (by omega)).1;have d:=h.dI.duo.dF.hdr 8 (by omega);rw [show cellOf 8=19 from rfl] at hd d;rw [<- d,e] at hd;have o:=h.dI.duo.dF.eH.own 8 (by omega);rw [h.x8,cZ,<- d,e] at o;refine ⟨hd,?_⟩
 rcases o.2 with ⟨e,b⟩ | ⟨g,c,l,e,_,m,j,u,r,q⟩
 ·exact .inl ⟨e,b⟩
 ·exact .inr ⟨g,c,e,j⟩
theorem Half.at {a:List Nat} {g c i:Nat} (h:Half Z sb ob hb kb n L0 w0 s a (.slice (some ⟨g,0,none⟩) a.length c) i w):∀ j (b:j < a.length),w.cell? ⟨g,j,none⟩=some (.int .i64 (a[j]:Nat)):=fun j b=>by
 obtain ⟨t,h,e⟩:=h;have l:=h.dI.duo.dF.hK;have d:=h.dI.duo.dF.hdr 8 (by omega);rw [show cellOf 8=19 from rfl] at d;have o:=h.dI.duo.dF.eH.own 8 (by omega);rw [h.x8,cZ,<- d,e] at o;have:=o.cells (g:=g) rfl j (.int .i64 (a[j]:Nat)) (by rw [iK a j b]);simpa [Addr.add_lit] using this
theorem Gf (h:Main Z sb ob hb kb n L0 N0 false w s) (i:n <= 50) (p:(enc s.cs).length <= 1099511627776):
  Calls Tryz.prog 185 #[.pointer (some ⟨sb,0,none⟩)] (w.setCell ⟨sb,18,none⟩ (.int .i64 ((s.mo + 100:Nat):Int))) fun e w'=>e=.returned (.tuple #[])/\∃ a v,Hw s.tr s.rea s.cs s.cs.length a/\Half Z sb ob hb kb n L0 w s a v 0 w':=by
 have o:=h.dI.duo.dF.scalar 18 (.int .i64 ((s.mo + 100:Nat):Int)) (fun k b=>by
  match k,b with
  | 0,_=>decide
  | 1,_=>decide
  | 2,_=>decide
  | 3,_=>decide
  | 4,_=>decide
  | 5,_=>decide
  | 6,_=>decide
  | 7,_=>decide
  | 8,_=>decide
  | 9,_=>decide
  | 10,_=>decide
  | 11,_=>decide
  | 12,_=>decide)
 refine (Dv (n:=n) o h.x0 h.gB i (fun c j x d=>?_) (by omega)).mono ?_
 ·obtain ⟨k,b,rfl⟩:=List.mem_iff_getElem.1 j;exact h.pi.lZ.lt _ _ (dP b) x d
 ·rintro e w' ⟨rfl,a,m,l⟩;obtain ⟨t,g⟩:=MO h l;exact ⟨rfl,a,_,m,t,g,rfl⟩
theorem Jc {d:List Nat} {v:Value} {i:Nat} (E:Main Z sb ob hb kb n L0 N0 false w0 s) (D:n <= 50) (L:(enc s.cs).length <= 1099511627776) (o:s.m <= 137438953472) (U:Hw s.tr s.rea s.cs s.cs.length d) (h:Half Z sb ob hb kb n L0 w0 s d v i w) (hi:i < d.length):
  ∃ (u:Value) (P:World->Prop),(∃ a b c,u=.slice a b c)/\(∀ Y,(∃ j,Y=w.drewN j)->Calls Tryz.prog 175 #[.pointer (some ⟨sb,2,none⟩),.int .i64 (d[i]:Nat)] Y fun e w'=>e=.returned u/\∃ j,w'=w.drewN j)/\
   (∀ Y,(∃ j,Y=w.drewN j)->Calls Tryz.prog 186 #[.pointer (some ⟨sb,0,none⟩),u] Y fun e w'=>e=.returned .nilIface/\P w')/\
   (∀ Y,P Y->∀ j,P (Y.drewN j))/\
   ∀ Y,P Y->Calls Tryz.prog 187 #[.pointer (some ⟨sb,2,none⟩),.int .i64 (d[i]:Nat)] Y fun e w'=>e=.returned (.tuple #[])/\Half Z sb ob hb kb n L0 w0 s d v (i + 1) w':=by
 obtain ⟨t,h,e⟩:=h;obtain ⟨k,I,l,W,M,J,p,H⟩:=h.next U hi;obtain ⟨g,c,R,Q⟩:=Qj h E D L o hi I l M J H;refine ⟨.slice (some ⟨g,d[i] + 3,none⟩) (s.cs[k]).lits.length (c - (d[i] + 3)),YY Z sb ob hb kb n w0 s t (s.cs[k]).lits,⟨_,_,_,rfl⟩,fun Y ⟨j,hY⟩=>?_,fun Y ⟨j,hY⟩=>?_,fun Y r j=>?_,fun Y r=>?_⟩
 ·subst hY;exact (R j).mono fun e w' ⟨a,q,b⟩=>⟨a,j + q,by rw [b,World.drewN_drewN]⟩
 ·subst hY;exact Q j
 ·obtain ⟨c1,N,X',y,B,z,T⟩:=r;exact ⟨c1.trans (dB.of_below (jR Y j)),N,X',y,B,z,T.later (jR Y j)⟩
 ·refine (Ji h E D L (by omega) hi I l W M J p H r).mono ?_;rintro e' w' ⟨rfl,O,S,x⟩;exact ⟨rfl,O,S,x.trans e⟩
theorem Ch:∀ cs:List Rec,jc cs <= (enc cs).length
 | []=>lr
 | c :: r=>by
  have b:=Ch r;have e:(enc (c :: r)).length=(3 + c.lits.length) + (enc r).length:=by simp [enc,fV]
  have a:jc (c :: r)=(if c.kind=2 then 3 + c.lits.length else 0) + jc r:=by unfold jc;rw [List.map_cons,List.sum_cons]
  rw [e,a];split <;> omega
theorem Gd (SH:zL Z sb ob hb kb n L0 N0) (h:Main Z sb ob hb kb n L0 N0 false w s) (hr:Ready s) (hn:n <= 50) (aa:0 < n) (ad:N0 + 33 * s.m <= 1099511627776) (Y:s.m <= 137438953472) (ah:s.mo <= 4611686018427387904) (ac:s.mo < s.lc):
  Calls Tryz.prog 145 #[.pointer (some ⟨sb,0,none⟩)] w fun e w'=>e=.returned .nilIface/\WO Z sb ob hb kb n L0 N0 w s w':=by
 have R:(enc s.cs).length <= 1099511627776:=Nat.le_trans h.num ad;have c3:=(h.dI.duo.dF.head 3 (by omega)).1;have O:=(h.dI.duo.dF.head 18 (by omega)).1;rw [h.f3] at c3;rw [h.f18] at O;have HM:=hide h;have HR:=hide hr;have af:=hide SH;have le:¬ (s.lc:Int) <= (s.mo:Int):=by omega
 clear h hr SH;go_enter Tryz.func145,Tryz.ntmps145
 go_upto_region 1 with fail
 go_quiet (fail)
 have l:=hide (HM.out.later (jR w nq));have HW:=hide (jR w nq);have T:=(l.out.dI.duo.dF.head 18 (by omega)).2;have r:=(l.out.dI.duo.dF.head 18 (by omega)).1;rw [l.out.f18] at r;clear c3 O HM;generalize w.drewN nq=w1 at *
 have Q1:=hide (Gf l.out hn R);obtain ⟨M,hM⟩:∃ M,M=s.mo + 100:=⟨_,rfl⟩;have L:(s.mo:Int) + 100=(M:Int):=by omega
 rw [<- hM] at Q1;clear hM;go_upto_region 5 with (go_at_call 185;(with_reducible refine Q1.out.mono ?_);rintro e2 w2 ⟨rfl,d,v,hI,hh⟩;have HI:=hide hI;have S:=hide hh;clear hI hh Q1;simp only [])
 clear T r L;go_cut [35,36,37] from 16 to 37 (fun a b c U=>∃ (av:Option Addr) (cp:Nat),a=.slice av (d.length / 2) cp/\b=.int .i64 ((d.length / 2:Nat):Int)/\c=.int .i64 0/\(0 < d.length / 2->∃ g c,av=some ⟨g,0,none⟩/\v=.slice (some ⟨g,0,none⟩) d.length c)/\Half Z sb ob hb kb n L0 w1 s d v 0 U)
 case first=>
  obtain ⟨an,hv⟩:=S.out.idle;have e2:((d.length:Nat):Int) / 2=((d.length / 2:Nat):Int):=by omega
  rcases hv with ⟨rfl,H⟩ | ⟨g,c,rfl,ac⟩
  ·go_quiet (fail)
   have F:=hide (S.out.later (jR w2 nq));go_wp2;go_meet;exact ⟨none,0,by rw [H],by rw [H];rfl,rfl,fun hp=>by omega,F.out⟩
  ·obtain ⟨N,j⟩:∃ N,N=d.length / 2:=⟨_,rfl⟩;rw [<- j] at e2;have aj:(N:Int) <= (c:Int):=by omega
   have y:(d.length:Int) <= 1099511627776:=by
    have:=HI.out.len lr;omega
   have q:=hide j;clear j;go_quiet (fail)
   have F:=hide (S.out.later (jR w2 nq));go_wp2;go_meet;exact ⟨some ⟨g,0,none⟩,c,by rw [<- q.out],by rw [<- q.out],rfl,fun _=>⟨g,c,rfl,rfl⟩,F.out⟩
 case rest=>
  obtain ⟨av,cp,rfl,rfl,rfl,I,J⟩:=hcut;have z:=hide I;have H0:=hide J;clear I J S;obtain ⟨N,j⟩:∃ N,N=d.length / 2:=⟨_,rfl⟩;have al:N <= d.length:=by omega
  have am:N <= 1099511627776:=by
   have:=HI.out.len lr;omega
  rw [<- j] at z ⊢;have q:=hide j;clear j;go_wp2;go_loopw [37] (fun D wr=>∃ i:Nat,D=.int .i64 ((i:Nat):Int)/\i <= N/\Hid (Half Z sb ob hb kb n L0 w1 s d v i wr)) (fun D _=>N - (intOf D).toNat)
  case atStart=>exact ⟨0,rfl,zl,H0⟩
  case round=>
   clear H0;obtain ⟨i,rfl,ak,o⟩:=hrel;by_cases ai:i < N
   ·have ab:(i:Int) < (N:Int):=by omega
    obtain ⟨g,c,rfl,rfl⟩:=z.out (by omega);have y:i < d.length:=by omega
    have ci:=o.out.at i y;obtain ⟨u,P,⟨ua,ub,uc,rfl⟩,q1,q2,q3,q4⟩:=Jc l.out hn R Y HI.out o.out y;have QL:=hide q1;have QP:=hide q2;have QW:=hide q3;have QD:=hide q4;clear q1 q2 q3 q4 o;generalize d[i]=x at *
    go_upto_region 8 with fail
    go_cut [5,37] from 37 to 58 (fun ev D U=>ev=.nilIface/\D=.int .i64 ((i:Nat):Int)/\P U)
    case first=>
     go_region_with (first
      |(go_at_call 175;refine (QL.out _ (by first | exact ⟨0,rfl⟩ | exact ⟨1,rfl⟩)).mono ?_;rintro e3 w3 ⟨rfl,j3,rfl⟩;simp only [])
      |(go_at_call 186;refine (QP.out _ ⟨_,rfl⟩).mono ?_;rintro e4 w4 ⟨rfl,E⟩;have P4:=hide E;clear E;simp only []))
     all_goals
      go_wp2_with fail
      go_meet
      exact ⟨rfl,rfl,(by first | exact P4.out | exact QW.out _ P4.out 1)⟩
    case rest=>
     obtain ⟨rfl,rfl,hp⟩:=hcut;have Q:=hide (QD.out _ hp);clear QD QL QP QW hp;go_wp2_with (go_at_call 187;(with_reducible refine Q.out.mono ?_);rintro e5 w5 ⟨rfl,h5⟩;have H5:=hide h5;clear h5 Q;simp only [])
     go_roundw
     case rel=>exact ⟨i + 1,by go_num,by omega,H5⟩
     case measure=>simp [intOf];omega
   ·have ab:¬ (i:Int) < (N:Int):=by omega
    obtain ⟨t,ht,_⟩:=o.out;have QR:=hide (Qi ht R);clear o ht z q;go_upto_region 14 with (go_at_call 188;(with_reducible refine QR.out.mono ?_);rintro e6 w6 ⟨rfl,t6,h6⟩;have H6:=hide h6;clear h6 QR;simp only [])
    have QU:=hide (Gp H6.out l.out HR.out hn aa R);clear H6;go_upto_region 15 with (go_at_call 189;(with_reducible refine QU.out.mono ?_);rintro e7 W ⟨rfl,c7,B,m7,r7,k7⟩;have C7:=hide c7;have p:=hide m7;have R7:=hide r7;have K7:=hide k7;clear c7 m7 r7 k7 QU;simp only [])
    have d4:=(p.out.dI.duo.dF.head 4 (by omega)).1;rw [p.out.f4] at d4;obtain ⟨a0,c0,e0⟩:=p.out.dI.duo.dF.eH.shape (k:=0) (by omega);have d2:=(p.out.dI.duo.dF.hd (k:=0) (by omega)).1;rw [show cellOf 0=2 from rfl,e0,p.out.x0,fU] at d2;have ae:(enc B.cs).length <= 1099511627776:=by
     have:=p.out.num;rw [K7.out.2.1] at this;omega
    have ag:B.ws <= 4611686018427387904:=by
     rw [p.out.wR];exact Nat.le_trans (Ch _) (by omega)
    clear e0;go_quiet (fail)
    have M8:=hide (p.out.later (jR W nq));have C8:=hide (((dB.of_below HW.out).trans C7.out).trans (dB.of_below (Z:=Z) (jR W nq)));clear p C7 d4 d2;generalize W.drewN nq=w8 at *
    have QS:=hide (fun hq=>af.out w8 B M8.out R7.out hq ae);generalize (enc B.cs).length=N7 at *
    by_cases hw:(N7:Int) / 2 < (B.ws:Int)
    ·clear M8;go_wp2_with (go_at_call 190;(with_reducible refine (QS.out (by omega)).mono ?_);rintro e9 w9 ⟨rfl,c9,s9,m9,r9,k9⟩;have C9:=hide c9;have M9:=hide (And.intro m9 (And.intro r9 k9));clear c9 m9 r9 k9 QS;simp only [])
     go_ret
     obtain ⟨a1,a2,a3,a4,a5,a6,a7⟩:=M9.out;obtain ⟨b1,b2,b3,b4,b5⟩:=K7.out;exact ⟨rfl,C8.out.trans C9.out,s9,a1,a2,a3.trans b1,a4.trans b2,a5.trans b3,a6.trans b4,a7.trans b5⟩
    ·clear QS;go_wp2;go_ret;exact ⟨rfl,C8.out,B,M8.out,R7.out,K7.out⟩
theorem Jd (u:zL Z sb ob hb kb n L0 N0) (g:n <= 50) (a:0 < n):uO Z sb ob hb kb n L0 N0 (fun s=>N0 + 33 * s.m <= 1099511627776/\s.m <= 137438953472/\s.mo <= 4611686018427387904):=fun w s h hr ⟨q1,q2,q3⟩=>by
 by_cases c:s.lc <= s.mo
 ·exact Dt w s h hr ⟨c,q3⟩
 ·refine (Gd u h hr g a q1 q2 q3 (by omega)).mono ?_;rintro e w' ⟨rfl,i,d,r,q,p,o,l,v,j⟩;exact ⟨rfl,i,d,r,q,p,o,l,fun b=>absurd b c,by omega,j⟩
end
section
variable {Z:Nat->Prop} {sb K n:Nat} {w w':World} {f V:Nat->Value} {X:Nat->List Value} {cs jH:List Rec}
theorem dQ.keep {G:Nat} (h:dQ Z sb w K f V X) (d:dB (fun k=>k=G) w w') (i:G ≠ sb) (c:∀ k,k < K->(V k).ownBlock ≠ some G):dQ Z sb w' K f V X:=by
 have keep:∀ k,k < w.heap.size->k ≠ G->w'.heap[k]? = w.heap[k]? := fun k a e=>d.block k a e
 refine ⟨h.row.of_block (keep sb h.row.lt (Ne.symm i)),⟨fun k a=>?_,h.eH.apart⟩,h.hdr,h.jf,h.al,fun k a=>h.az k (Nat.le_trans d.size a),h.hK⟩;exact ownB (h.eH.own k a) fun g b=>keep g ((h.eH.own k a).lt g b).2 fun e=>c k a (by rw [b,e])
theorem dQ.Wh {v':Value} {g:Nat} (h:dQ Z sb w K f V X) (hb:Below w.heap.size w w') (x:w'.ownsRow 0 (kM 0) 1 v' 0 []) (o:v'.ownBlock=some g) (y:w.heap.size <= g):dQ Z sb (w'.setCell ⟨sb,2,none⟩ v') K (upd f 2 v') (upd V 0 v') (upd X 0 []):=by
 have A:=h.hK;have c:=h.later hb;have l:rD 0 w' K kM (upd V 0 v') (upd X 0 []):={
  own:=fun k m=>by
   by_cases e:k=0
   ·subst e;rw [cz,cz];exact x
   ·rw [cu _ _ e,cu _ _ e];exact c.eH.own k m
  apart:=fun k p m d b=>by
   have far:∀ j,j < K->(V j).ownBlock ≠ some g:=fun j z e=>by
    have:=((h.eH.own j z).lt g e).2;omega
   by_cases e:k=0
   ·subst e;rw [cz,cu _ _ (Ne.symm b),o];exact .inr (Ne.symm (far p d))
   ·rw [cu _ _ e];by_cases u:p=0
    ·subst u;rw [cz,o];exact .inr (far k m)
    ·rw [cu _ _ u];exact c.eH.apart k p m d b }
 have v:=h.row.lt;refine c.header (k:=0) (by omega) c.row l rfl (fun i q r a=>?_) lr (fun i q r a=>?_)
 ·by_cases e:i=0
  ·subst e;rw [cz,o] at a;have:=Option.some.inj a;omega
  ·rw [cu _ _ e] at a;exact c.far q r a
 ·by_cases e:i=0
  ·subst e;rw [cz,o] at a;rw [<- Option.some.inj a];exact h.az g y
  ·rw [cu _ _ e] at a;exact h.al i q r a
def kQ (cs:List Rec) (k:Nat):List Rec:=(cs.take k).filter fun c=>!decide (c.kind=2)
theorem Po:kQ cs 0=[]:=rfl
theorem E5 {k:Nat} (a:k < cs.length) (hd:(cs[k]).kind=2):kQ cs (k + 1)=kQ cs k:=by
 unfold kQ;rw [List.take_succ_eq_append_getElem a,List.filter_append];simp [hd]
theorem yF {k:Nat} (a:k < cs.length) (hd:(cs[k]).kind ≠ 2):kQ cs (k + 1)=kQ cs k ++ [cs[k]]:=by
 unfold kQ;rw [List.take_succ_eq_append_getElem a,List.filter_append];simp [hd]
theorem y8 (a:List Rec) (c:Rec):enc (a ++ [c])=enc a ++ enc1 c:=by rw [gy];simp [enc]
theorem Dg:∀ k,k <= cs.length->(enc (kQ cs k)).length <= dn cs k
 | 0,_=>by rw [Po,jP];exact lr
 | k + 1,hk=>by
  have b:=Dg k (by omega);have a:k < cs.length:=by omega
  rw [gD a];by_cases hd:(cs[k]).kind=2
  ·rw [E5 a hd];omega
  ·rw [yF a hd,y8,List.length_append,fV];omega
structure zM (Z:Nat->Prop) (sb:Nat) (w:World) (K:Nat) (f V:Nat->Value) (X:Nat->List Value) (cs:List Rec) (G C OB:Nat) (k:Nat) (jH:List Rec) (v0:Value) (wr:World):Prop where
 dF:dQ Z sb wr K (upd (upd f 2 v0) 4 (.int .i64 0)) (upd V 0 v0) (upd X 0 (ints (enc (kQ cs k))))
 eO:dB Z w wr
 Q9:fF cs jH
 Wj:∀ i (h:i < jH.length) (h':i < cs.length),i < k->(cs[i]).kind ≠ 2->(jH[i]).busy=(((enc (kQ cs i)).length:Nat):Int)
 not:∀ i (h:i < jH.length) (h':i < cs.length),k <= i->(jH[i]).busy=(cs[i]).busy
 box:wr.cell? ⟨OB,0,none⟩=some (.slice (some ⟨G,0,none⟩) (enc cs).length C)
 old:wr.ownsRow 0 3 1 (.slice (some ⟨G,0,none⟩) (enc cs).length C) (enc cs).length (ints (enc jH))
 gs:G ≠ sb
 os:OB ≠ sb
 go:OB ≠ G
 zg:Z G
 ng:∀ j,j < K->(upd V 0 v0 j).ownBlock ≠ some G
 no:∀ j,j < K->(upd V 0 v0 j).ownBlock ≠ some OB
end
section
variable {Z:Nat->Prop} {sb K n:Nat} {w w' wr:World} {f V:Nat->Value} {X:Nat->List Value} {cs jH:List Rec} {G C OB k:Nat} {v0:Value}
theorem NI {α:Type} (f:Nat->α) {i j:Nat} (h:i ≠ j) (a b:α):upd (upd f i a) j b=upd (upd f j b) i a:=by
 funext x
 unfold upd;by_cases c:x=i
 ·subst c;simp [h]
 ·by_cases d:x=j
  ·subst d;simp [c]
  ·simp [c,d]
theorem zM.later (h:zM Z sb w K f V X cs G C OB k jH v0 wr) (hb:Below wr.heap.size wr w'):zM Z sb w K f V X cs G C OB k jH v0 w':={ h with
 dF:=h.dF.later hb
 eO:=h.eO.trans (dB.of_below hb)
 box:=by rw [hb.cell (p:=⟨OB,0,none⟩) (block_lt_of_cell h.box)];exact h.box
 old:=ownB h.old fun g a=>hb.block g (h.old.lt g a).2 }
theorem zM.dead (h:zM Z sb w K f V X cs G C OB k jH v0 wr) (d:k < cs.length) (hd:(cs[k]).kind=2):zM Z sb w K f V X cs G C OB (k + 1) jH v0 wr:={ h with
 dF:=by rw [E5 d hd];exact h.dF
 Wj:=fun i b a g c=>by
  by_cases e:i=k
  ·subst e;exact absurd hd c
  ·exact h.Wj i b a (by omega) c
 not:=fun i b a g=>h.not i b a (by omega) }
theorem zM.same (h:zM Z sb w K f V X cs G C OB k jH v0 wr) (e:k < cs.length):∃ d:k < jH.length,jH[k]=cs[k]/\dn jH k=dn cs k:=by
 have d:k < jH.length:=by rw [h.Q9.1];exact e
 refine ⟨d,?_,h.Q9.dn k (by omega)⟩;obtain ⟨j,i⟩:=h.Q9.2 k e d;have g:=h.not k d e lr
 cases l:jH[k] with
 | mk a b c=>
  cases m:cs[k] with
  | mk a' b' c'=>
   rw [l,m] at j i g;simp only at j i g;rw [j,i,g]
theorem zM.at (h:zM Z sb w K f V X cs G C OB k jH v0 wr) (b:k < cs.length):∀ j,j < 3 + (cs[k]).lits.length->wr.cell? ⟨G,dn cs k + j,none⟩=(ints (enc1 cs[k]))[j]? := fun j g=>by
 obtain ⟨a,e,i⟩:=h.same b;have d:=eD b;have c:=h.old.cellAt (dn cs k + j) (by omega);rw [c,lN,lN,<- i,p8 a j (by rw [e];exact g),e]
theorem zM.live {b:Value} {w6 W:World} (h:zM Z sb w K f V X cs G C OB k jH v0 wr) (y:k < cs.length) (hd:(cs[k]).kind ≠ 2)
  (A:dz wr 0 3 1 v0 (enc (kQ cs k)).length (ints (enc (kQ cs k))) (3 + (cs[k]).lits.length) (ints (enc1 cs[k])) b w6) (p:Below (w6.setCell ⟨sb,2,none⟩ b).heap.size (w6.setCell ⟨sb,2,none⟩ b) W):
  zM Z sb w K f V X cs G C OB (k + 1) (jH.set k ⟨(cs[k]).kind,(((enc (kQ cs k)).length:Nat):Int),(cs[k]).lits⟩) b (W.setCell ⟨G,dn cs k + 2,none⟩ (.int .i64 (((enc (kQ cs k)).length:Nat):Int))):=by
 have hK:=h.dF.hK;obtain ⟨m,N,M⟩:=h.same y;have L:=eD y;have E:G < wr.heap.size:=(h.old.lt G rfl).2;have D:OB < wr.heap.size:=block_lt_of_cell h.box;have d:v0.ownBlock ≠ some G:=by have:=h.ng 0 (by omega);rw [cz] at this;exact this
 have c:v0.ownBlock ≠ some OB:=by have:=h.no 0 (by omega);rw [cz] at this;exact this
 have A':dz wr 0 (kM 0) 1 ((upd V 0 v0) 0) ((upd X 0 (ints (enc (kQ cs k)))) 0).length ((upd X 0 (ints (enc (kQ cs k)))) 0) (3 + (cs[k]).lits.length) (ints (enc1 cs[k])) b w6:=by
  rw [cz,cz,fU];exact A
 obtain ⟨I,U,_⟩:=h.dF.U2 (k:=0) (by omega) (by rw [fU,fV]) A';rw [show cellOf 0=2 from rfl,NI _ (by decide),eP,eP,eP,cz,show ints (enc (kQ cs k)) ++ ints (enc1 cs[k])=ints (enc (kQ cs (k + 1))) by rw [yF y hd,y8];simp [ints]] at I;have P:wr.heap.size <= w6.heap.size:=A.grew.size;have J:w6.heap.size <= W.heap.size:=by have:=p.size;simp [World.setCell] at this;omega
 have r:b.ownBlock ≠ some G:=fun e=>by
  rcases A.at' with a | a
  ·rw [a] at e;exact d e
  ·rw [a] at e;have:=Option.some.inj e;omega
 have q:b.ownBlock ≠ some OB:=fun e=>by
  rcases A.at' with a | a
  ·rw [a] at e;exact c e
  ·rw [a] at e;have:=Option.some.inj e;omega
 have l:∀ j,j < K->(upd V 0 b j).ownBlock ≠ some G:=fun j z=>by
  by_cases e:j=0
  ·subst e;rw [cz];exact r
  ·have:=h.ng j z;rw [cu _ _ e] at this ⊢;exact this
 have v:∀ j,j < K->(upd V 0 b j).ownBlock ≠ some OB:=fun j z=>by
  by_cases e:j=0
  ·subst e;rw [cz];exact q
  ·have:=h.no j z;rw [cu _ _ e] at this ⊢;exact this
 have o:∀ g,g < wr.heap.size->g ≠ sb->v0.ownBlock ≠ some g->W.heap[g]? = wr.heap[g]? := fun g B R Q=>by
  rw [p.block g (by simp [World.setCell];omega),Below.heap_setCell _ _ _ _ (by simpa using R),A.grew.block g B (fun e=>Q e.symm)]
 exact {
  dF:=(I.later p).keep (dB.setCell (Z:=fun k=>k=G) (dB.refl W) (show (fun k=>k=G) G from rfl) _) h.gs l
  eO:=((h.eO.trans U).trans (dB.of_below p)).setCell h.zg _
  Q9:=by
   have:=h.Q9.trans (fF.set m (((enc (kQ cs k)).length:Nat):Int));rw [N] at this;exact this
  Wj:=fun i H F a3 a4=>by
   by_cases e:k=i
   ·subst e;rw [List.getElem_set_self]
   ·rw [List.getElem_set_ne e];exact h.Wj i (by simpa using H) F (by omega) a4
  not:=fun i H F a3=>by
   rw [List.getElem_set_ne (by omega)];exact h.not i (by simpa using H) F (by omega)
  box:=by
   have x:OB ≠ G:=h.go;have b1:W.cell? ⟨OB,0,none⟩=wr.cell? ⟨OB,0,none⟩:=by
    unfold World.cell?;simp only [o OB D h.os c]
   have Y:(W.setCell ⟨G,dn cs k + 2,none⟩ (.int .i64 (((enc (kQ cs k)).length:Nat):Int))).cell? ⟨OB,0,none⟩=W.cell? ⟨OB,0,none⟩:=by
    unfold World.cell?;simp only [Below.heap_setCell _ _ _ _ (show OB ≠ (⟨G,dn cs k + 2,none⟩:Addr).block from x)]
   rw [Y,b1];exact h.box
  old:=by
   have O:W.ownsRow 0 3 1 (.slice (some ⟨G,0,none⟩) (enc cs).length C) (enc cs).length (ints (enc jH)):=ownB h.old fun g B=>by
    have e:g=G:=(Option.some.inj B).symm;subst e;exact o _ E h.gs d
   have u:=(O.stored (dn cs k + 2) (.int .i64 (((enc (kQ cs k)).length:Nat):Int))).1;rw [ints_set,<- M] at u;have S:=qU m (((enc (kQ cs k)).length:Nat):Int);rw [<- S,N,M] at u;exact u
  gs:=h.gs
  os:=h.os
  go:=h.go
  zg:=h.zg
  ng:=l
  no:=v }
theorem zM.V5 (h:zM Z sb w K f V X cs G C OB k jH v0 wr) {i:Nat} (hi:i < cs.length):wr.cell? ⟨G,dn cs i,none⟩=some (.int .i64 (((cs[i]).lits.length:Nat):Int)):=by
 have a:i < jH.length:=by rw [h.Q9.1];exact hi
 have e:=h.Q9.dn i (by omega);obtain ⟨_,g⟩:=h.Q9.2 i hi a;have b:=eD hi;have c:=h.old.cellAt (dn cs i) (by omega);have d:=p8 a 0 (by omega);rw [Nat.add_zero,e] at d;rw [c,lN,d];show some _=_
 rw [g]
theorem zM.mid {d:Value} {w6:World} {m:Nat} {news:List Value} (h:zM Z sb w K f V X cs G C OB k jH v0 wr) (q:k < cs.length)
  (A:dz wr 0 3 1 v0 (enc (kQ cs k)).length (ints (enc (kQ cs k))) m news d w6):
  (w6.setCell ⟨sb,2,none⟩ d).cell? ⟨OB,0,none⟩=some (.slice (some ⟨G,0,none⟩) (enc cs).length C)/\(∃ u,(w6.setCell ⟨sb,2,none⟩ d).cell? ⟨G,dn cs k + 2,none⟩=some u)/\(w6.setCell ⟨sb,2,none⟩ d).frozen? ⟨G,dn cs k + 2,none⟩=false/\w6.frozen? ⟨sb,2,none⟩=false/\w6.cell? ⟨sb,2,none⟩=some v0:=by
 have B:=h.dF.hK;have r:=eD q;have l:G < wr.heap.size:=(h.old.lt G rfl).2;have p:OB < wr.heap.size:=block_lt_of_cell h.box;have b:v0.ownBlock ≠ some G:=by have:=h.ng 0 (by omega);rw [cz] at this;exact this
 have j:v0.ownBlock ≠ some OB:=by have:=h.no 0 (by omega);rw [cz] at this;exact this
 have i:v0.ownBlock ≠ some sb:=fun e=>by have:=h.dF.far (k:=0) (by omega) sb (by rw [cz];exact e);exact this rfl
 have c:∀ g,g < wr.heap.size->g ≠ sb->v0.ownBlock ≠ some g->(w6.setCell ⟨sb,2,none⟩ d).heap[g]? = wr.heap[g]? := fun g x z y=>by
  rw [Below.heap_setCell _ _ _ _ (by simpa using z),A.grew.block g x (fun e=>y e.symm)]
 have v:w6.heap[sb]? = wr.heap[sb]? := A.grew.block sb h.dF.row.lt (fun e=>i e.symm);have o:=h.dF.head 2 (by omega);rw [cu _ _ (by decide),cz] at o;refine ⟨?_,?_,?_,?_,?_⟩
 ·rw [World.cell?_of_block (a:=⟨OB,0,none⟩) (c OB p h.os j)];exact h.box
 ·rw [World.cell?_of_block (a:=⟨G,dn cs k + 2,none⟩) (c G l h.gs b),h.at q 2 (by omega)];exact ⟨_,rfl⟩
 ·rw [World.frozen?_of_block (a:=⟨G,dn cs k + 2,none⟩) (c G l h.gs b)];exact h.old.frozenAt _
 ·rw [World.frozen?_of_block (a:=⟨sb,2,none⟩) v];exact o.2
 ·rw [World.cell?_of_block (a:=⟨sb,2,none⟩) v];exact o.1
end
section
variable {Z:Nat->Prop} {sb K n:Nat} {w w' wr:World} {f V:Nat->Value} {X:Nat->List Value} {cs jH:List Rec} {G C OB k:Nat} {v0:Value}
theorem Mh (cap:Nat) (h:cap <= 1099511627776) (w:World):(Instr.makeSlice 43 (.int .i64 0) (.int .i64 (cap:Int))).run Tryz.prog w=.ok (.slice (some ⟨w.heap.size,0,none⟩) 0 cap) (w.alloc (.cells (madeCells #[.int .i64 0] cap) 3)):=by
 obtain ⟨e,g,c,b,a⟩:=info_parts Tryz.fO;have d:=run_make (P:=Tryz.prog) w 43 3 e (.int .i64 0) Tryz.underlying43 g c .i64 .i64 0 (cap:Int) (by omega) (by omega) (by rw [a];omega) (by omega);simp only [Int.toNat_natCast,b,Nat.mul_one] at d;exact d
theorem Vu {w:World} {x y z:Value} {t:TypeId}:(w.alloc (.cells #[x,y,z] t)).cell? ⟨w.heap.size,0,none⟩=some x/\(w.alloc (.cells #[x,y,z] t)).cell? ⟨w.heap.size,1,none⟩=some y/\Below w.heap.size w (w.alloc (.cells #[x,y,z] t)):=by
 have r:(w.alloc (.cells #[x,y,z] t)).rowIs w.heap.size t 3 (fun i=>if i=0 then x else if i=1 then y else z):=World.rowIs_alloc w _ _ _ fun i a=>match i,a with
  | 0,_=>rfl
  | 1,_=>rfl
  | 2,_=>rfl
 exact ⟨r.cell (i:=0) (by omega),r.cell (i:=1) (by omega),bR.alloc lr _⟩
theorem La (h:dQ Z sb w K f V X) (J:X 0=ints (enc cs)) {G C cap:Nat} {lv ws:Value} (v:V 0=.slice (some ⟨G,0,none⟩) (enc cs).length C) (P:cap <= 1099511627776) (zg:Z G) (ng:G ≠ sb) (E:G < w.heap.size):
  zM Z sb w K f V X cs G C w.heap.size 0 cs (.slice (some ⟨w.heap.size + 1,0,none⟩) 0 cap) ((((w.alloc (.cells #[.slice (some ⟨G,0,none⟩) (enc cs).length C,lv,ws] 165)).alloc (.cells (madeCells #[.int .i64 0] cap) 3)).setCell ⟨sb,2,none⟩ (.slice (some ⟨w.heap.size + 1,0,none⟩) 0 cap)).setCell ⟨sb,4,none⟩ (.int .i64 0)):=by
 have Q:=h.hK;have F:=h.row.lt;obtain ⟨L,R,M⟩:=Vu (w:=w) (x:=.slice (some ⟨G,0,none⟩) (enc cs).length C) (y:=lv) (z:=ws) (t:=165);generalize r:w.alloc (.cells #[.slice (some ⟨G,0,none⟩) (enc cs).length C,lv,ws] 165)=b at *
 have B:b.heap.size=w.heap.size + 1:=by rw [<- r];simp
 have A:Below b.heap.size b (b.alloc (.cells (madeCells #[.int .i64 0] cap) 3)):=bR.alloc lr _;have D:(b.alloc (.cells (madeCells #[.int .i64 0] cap) 3)).ownsRow 0 (kM 0) 1 (.slice (some ⟨w.heap.size + 1,0,none⟩) 0 cap) 0 []:=by
  have:=World.ownsRow_made (base:=0) (e:=kM 0) (size:=1) b (madeCells #[.int .i64 0] cap) cap zl (by unfold maxLen;omega) (by rw [size_madeCells];simp);rw [B] at this;exact this
 generalize I:b.alloc (.cells (madeCells #[.int .i64 0] cap) 3)=q at *
 have u:Below w.heap.size w q:=M.trans (A.mono (by omega));have O:=h.Wh (g:=w.heap.size + 1) u D rfl (by omega);have N:=O.scalar 4 (.int .i64 0) (fun k H=>by
  match k,H with
  | 0,_=>decide
  | 1,_=>decide
  | 2,_=>decide
  | 3,_=>decide
  | 4,_=>decide
  | 5,_=>decide
  | 6,_=>decide
  | 7,_=>decide
  | 8,_=>decide
  | 9,_=>decide
  | 10,_=>decide
  | 11,_=>decide
  | 12,_=>decide)
 have m:∀ g,g ≠ sb->((q.setCell ⟨sb,2,none⟩ (.slice (some ⟨w.heap.size + 1,0,none⟩) 0 cap)).setCell ⟨sb,4,none⟩ (.int .i64 0)).heap[g]? = q.heap[g]? := fun g c=>by
  rw [Below.heap_setCell _ _ _ _ (by simpa using c),Below.heap_setCell _ _ _ _ (by simpa using c)]
 have far:∀ j,j < K->∀ g,(V j).ownBlock=some g->g < w.heap.size:=fun j l g c=>((h.eH.own j l).lt g c).2
 exact {
  dF:=N
  eO:=(((dB.of_below u).setCell h.jf _).setCell h.jf _)
  Q9:=fF.refl _
  Wj:=fun i _ _ a _=>absurd a (Nat.not_lt_zero _)
  not:=fun i _ _ _=>rfl
  box:=by
   have e:((q.setCell ⟨sb,2,none⟩ (.slice (some ⟨w.heap.size + 1,0,none⟩) 0 cap)).setCell ⟨sb,4,none⟩ (.int .i64 0)).cell? ⟨w.heap.size,0,none⟩=q.cell? ⟨w.heap.size,0,none⟩:=by
    unfold World.cell?;simp only [m w.heap.size (by omega)]
   rw [e,A.cell (p:=⟨w.heap.size,0,none⟩) (by simp;omega)];exact L
  old:=by
   have o:=h.eH.own 0 (by omega);rw [v,J,fU] at o;refine ownB o fun g c=>?_
   have e:g=G:=(Option.some.inj c).symm;subst e;rw [m _ ng];exact u.block _ E
  gs:=ng
  os:=by omega
  go:=by omega
  zg:=zg
  ng:=fun j l e=>by
   by_cases d:j=0
   ·subst d;rw [cz] at e;have:=Option.some.inj e;simp only at this;omega
   ·rw [cu _ _ d] at e
    rcases h.eH.apart j 0 l (by omega) d with a | a
    ·rw [a] at e;cases e
    ·rw [e,v] at a;exact a rfl
  no:=fun j l e=>by
   by_cases d:j=0
   ·subst d;rw [cz] at e;have:=Option.some.inj e;simp only at this;omega
   ·rw [cu _ _ d] at e;have:=far j l _ e;omega }
def Rt (Z:Nat->Prop) (sb:Nat) (w:World) (K:Nat) (f V:Nat->Value) (X:Nat->List Value) (cs:List Rec) (e:Ending) (w':World):Prop:=
 ∃ G C OB jH v0,e=.returned (.func (.func 243) #[] #[.pointer (some ⟨OB,0,none⟩)])/\zM Z sb w K f V X cs G C OB cs.length jH v0 w'
theorem Cu (h:dQ Z sb w K f V X) (h0:X 0=ints (enc cs)) (hN:(enc cs).length <= 1099511627776) (hp:0 < cs.length) (R ws:Nat) (f3:f 3=.int .i64 ((R:Nat):Int)) (f4:f 4=.int .i64 ((ws:Nat):Int)) (ao:ws <= (enc cs).length):
  Calls Tryz.prog 225 #[.pointer (some ⟨sb,2,none⟩)] w fun e w'=>Rt Z sb w K f V X cs e w':=by
 have hK:=h.hK;obtain ⟨i0,hi,aa,W,U⟩:=info_parts Tryz.fO;obtain ⟨G,C,e0,q0,au,lg,ng,zg,D,-,-,-,-⟩:=fH h h0 hp;have z2:=(h.head 2 (by omega)).2;have c3:=(h.head 3 (by omega)).1;have c4:=(h.head 4 (by omega)).1;have z4:=(h.head 4 (by omega)).2;rw [f3] at c3;rw [f4] at c4;have ap:=h.row.lt;have ns:¬ (sb=w.heap.size):=by omega
 have am:¬ (sb=w.heap.size + 1):=by omega
 obtain ⟨g,E⟩:∃ g,g=(enc cs).length - ws:=⟨_,rfl⟩;have J:((enc cs).length:Int) - (ws:Int)=(g:Int):=by omega
 have q:g <= 1099511627776:=by omega
 have S0:=hide (La (lv:=.int .i64 ((R:Nat):Int)) (ws:=.int .i64 ((ws:Nat):Int)) h h0 e0 q zg ng lg);have mk:=Mh g q;rw [World.setCell_alloc_past _ _ _ _ (by simp;omega),World.setCell_alloc_past _ _ _ _ (by simp [World.setCell];omega),World.setCell_alloc_past _ _ _ _ (by omega),World.setCell_alloc_past _ _ _ _ (by simp [World.setCell];omega)] at S0;clear h E e0 D;go_enter Tryz.func225,Tryz.ntmps225
 go_upto_region 4 with fail
 clear mk z2 z4 c3 c4 q0 J q;generalize (((w.setCell ⟨sb,2,none⟩ (.slice (some ⟨w.heap.size + 1,0,none⟩) 0 g)).setCell ⟨sb,4,none⟩ (.int .i64 0)).alloc (.cells #[.slice (some ⟨G,0,none⟩) (enc cs).length C,.int .i64 ((R:Nat):Int),.int .i64 ((ws:Nat):Int)] 165)).alloc (.cells (madeCells #[.int .i64 0] g) 3)=w1 at *
 generalize w.heap.size=OB at *
 go_wp2;go_loopw [4] (fun S wr=>∃ (k:Nat) (jH:List Rec) (v0:Value),S=.int .i64 ((dn cs k:Nat):Int)/\k <= cs.length/\Hid (zM Z sb w K f V X cs G C OB k jH v0 wr)) (fun S _=>(enc cs).length - (intOf S).toNat)
 case atStart=>exact ⟨0,cs,_,by rw [jP];rfl,zl,S0⟩
 case round=>
  clear S0;obtain ⟨k,jH,v0,rfl,ad,b⟩:=hrel;have bx:=b.out.box;by_cases c:k < cs.length
  ·have ai:=eD c;have D:=b.out.at c 0 (by omega);have r1:=b.out.at c 1 (by omega);rw [Nat.add_zero,show (ints (enc1 cs[k]))[0]? = some (.int .i64 (((cs[k]).lits.length:Nat):Int)) from rfl] at D;rw [show (ints (enc1 cs[k]))[1]? = some (.int .i64 (((cs[k]).kind:Nat):Int)) from rfl] at r1;have QK:=hide (yR OB 0 G (enc cs).length C (dn cs k) (cs[k]).kind wr bx (by omega) (by unfold maxLen;omega) r1);have p:Hid (dn cs k < dn cs (k + 1)/\dn cs (k + 1) <= (enc cs).length):=by
    unfold Hid;rw [gD c];omega
   have O:Hid (∀ Y:World,Y.cell? ⟨OB,0,none⟩=some (.slice (some ⟨G,0,none⟩) (enc cs).length C)->Y.cell? ⟨G,dn cs k,none⟩=some (.int .i64 (((cs[k]).lits.length:Nat):Int))->Calls Tryz.prog 213 #[.pointer (some ⟨OB,0,none⟩),.int .i64 (dn cs k:Nat)] Y fun e w'=>e=.returned (.int .i64 ((dn cs (k + 1):Nat):Int))/\w'=Y):=fun Y h1 h2=>by
    have:=qd OB 0 G (enc cs).length C (dn cs k) (cs[k]).lits.length Y h1 (by omega) (by unfold maxLen;omega) h2;rw [show dn cs k + 3 + (cs[k]).lits.length=dn cs (k + 1) by rw [gD c];omega] at this;exact this
   have a3:(dn cs k:Int) < ((enc cs).length:Int):=by omega
   by_cases hd:(cs[k]).kind=2
   ·have ae:(((cs[k]).kind:Int) == 2)=true:=by simp;omega
    have ah:=hide (O.out wr bx D);have F:=hide (b.out.dead c hd);clear b O;generalize (cs[k]).kind=kd at *
    go_wp2_with (first
     |(go_at_call 219;(with_reducible refine QK.out.mono ?_);rintro e7 w7 ⟨rfl,rfl⟩;simp only [])
     |(go_at_call 213;(with_reducible refine ah.out.mono ?_);rintro e8 w8 ⟨rfl,rfl⟩;simp only []))
    go_roundw
    case rel=>exact ⟨k + 1,jH,v0,rfl,by omega,F⟩
    case measure=>have:=p.out;simp [intOf];omega
   ·have ae:(((cs[k]).kind:Int) == 2)=false:=by simp;omega
    have aj:=b.out.dF.hK;have Q:=b.out.dF.eH.own 0 (by omega);rw [cz,cz,fU] at Q;obtain ⟨B,z,ab⟩:=dH Q;subst ab;have q2:=(b.out.dF.head 2 (by omega)).1;rw [cu _ _ (by decide),cz] at q2;have aw:(enc (kQ cs k)).length <= dn cs k:=Dg k ad;have SD:=hide (b.out.later bR.drew);have OD:Hid (wr.drew.ownsRow 0 3 1 (.slice B (enc (kQ cs k)).length z) (enc (kQ cs k)).length (ints (enc (kQ cs k)))):=Q;have SR:Hid (Src wr.drew (.slice (some ⟨G,dn cs k,none⟩) (3 + (cs[k]).lits.length) (C - dn cs k)) (3 + (cs[k]).lits.length) (ints (enc1 cs[k]))):=.inr ⟨_,_,rfl,fun j u x=>by
     have hj:j < 3 + (cs[k]).lits.length:=by
      rcases Nat.lt_or_ge j (3 + (cs[k]).lits.length) with h | h
      ·exact h
      ·rw [List.getElem?_eq_none (by rw [fU,fV];exact h)] at x;cases x
     rw [show (Addr.add ⟨G,dn cs k,none⟩ j:Addr)=⟨G,dn cs k + j,none⟩ by simp [Addr.add],<- x,<- SD.out.at c j hj]⟩
    have ML:Hid (∀ d i,dz wr.drew 0 3 1 (.slice B (enc (kQ cs k)).length z) (enc (kQ cs k)).length (ints (enc (kQ cs k))) (3 + (cs[k]).lits.length) (ints (enc1 cs[k])) d i->_):=fun d i A=>SD.out.mid c A
    have LV:Hid (∀ d i,dz wr.drew 0 3 1 (.slice B (enc (kQ cs k)).length z) (enc (kQ cs k)).length (ints (enc (kQ cs k))) (3 + (cs[k]).lits.length) (ints (enc1 cs[k])) d i->_):=fun d i A=>SD.out.live c hd A bR
    have LN:Hid (∀ P l d,zM Z sb w K f V X cs G C OB (k + 1) l d P->P.cell? ⟨OB,0,none⟩=some (.slice (some ⟨G,0,none⟩) (enc cs).length C)/\P.cell? ⟨G,dn cs k,none⟩=some (.int .i64 (((cs[k]).lits.length:Nat):Int))):=fun P l d H=>⟨H.box,H.V5 c⟩
    have el:(ints (enc1 cs[k])).length=(3 + (cs[k]).lits.length) * 1:=by rw [fU,fV];omega
    have one:∀ u ∈ ints (enc1 cs[k]),u.oneCell'=true:=fun u x=>by
     unfold ints at x;obtain ⟨y,_,rfl⟩:=List.mem_map.1 x;rfl
    have r:dn cs (k + 1)=dn cs k + 3 + (cs[k]).lits.length:=by rw [gD c];omega
    rw [r] at O;have MD:=hide (show ¬ (cs[k]).kind=2 from hd);have s1:(0:Int) <= (dn cs k:Int) + 3 + ((cs[k]).lits.length:Int):=by omega
    have s2:(dn cs k:Int) + 3 + ((cs[k]).lits.length:Int) <= (C:Int):=by omega
    have s3:((dn cs k:Int) + 3 + ((cs[k]).lits.length:Int)).toNat=dn cs k + (3 + (cs[k]).lits.length):=by omega
    have s4:dn cs k + (3 + (cs[k]).lits.length) - dn cs k=3 + (cs[k]).lits.length:=by omega
    have s5:¬ (C=dn cs k):=by omega
    have s6:dn cs k <= dn cs k + (3 + (cs[k]).lits.length):=by omega
    have t0:(0:Int) <= (dn cs k:Int) + 2:=by omega
    have t1:(dn cs k:Int) + 2 < ((enc cs).length:Int):=by omega
    have t2:((dn cs k:Int) + 2).toNat=dn cs k + 2:=by omega
    have M:=hide r;have af:=hide (O.out wr.drew bx D);clear b Q r;generalize ar:(cs[k]).lits.length=m at *
    generalize aq:ints (enc1 cs[k])=o at *
    generalize (cs[k]).kind=kd at *
    generalize ax:(enc (kQ cs k)).length=L at *
    generalize an:ints (enc (kQ cs k))=xs at *
    generalize av:dn cs k=a at *
    go_upto_region 9 with (go_at_call 219;(with_reducible refine QK.out.mono ?_);rintro e7 w7 ⟨rfl,h7⟩;(have h8:=h7.symm);subst h8;clear h7;simp only [])
    go_cut [] from 22 to 56 (fun wx=>∃ d i,Hid (dz wr.drew 0 3 1 (.slice B L z) L xs (3 + m) o d i)/\wx=i.setCell ⟨sb,2,none⟩ d)
    case first=>
     go_region_law (first
      |(refine ik _ (by rfl) _ _ 43 (by rfl) 0 3 i0 (.int .i64 0) 1 8 Tryz.underlying43 hi aa W U (by rfl) (by decide) (.slice B L z) L xs (by rfl) OD.out (.slice (some ⟨G,a,none⟩) (3 + m) (C - a)) (3 + m) o (by rfl) SR.out el one (by unfold maxLen;omega) (by omega) zl ?_;intro d i v;obtain ⟨b1,⟨u,b2⟩,b3,b4,b5⟩:=ML.out d i v;have A7:=hide v;obtain ⟨al,ak,ac⟩:=dH v.own;subst ac;clear v)
      |(go_simp;go_at_call 213;(with_reducible refine af.out.mono ?_);rintro e7 w7 ⟨rfl,rfl⟩))
     all_goals
      go_wp2_with fail
      go_meet;exact ⟨_,_,A7,rfl⟩
    case rest=>
     obtain ⟨d,i,v,rfl⟩:=hcut;obtain ⟨b1,⟨u,b2⟩,b3,_⟩:=ML.out d i v.out;have L7:=hide (LV.out d i v.out);obtain ⟨l1,l2⟩:=LN.out _ _ _ L7.out;have ag:=hide (O.out _ l1 l2);go_wp2_with (go_at_call 213;(with_reducible refine ag.out.mono ?_);rintro e8 w8 ⟨rfl,rfl⟩;simp only [])
     go_roundw
     case rel=>exact ⟨k + 1,_,_,by rw [M.out],by omega,L7⟩
     case measure=>have:=p.out;have:=M.out;simp [intOf];omega
  ·have ek:k=cs.length:=by omega
   subst ek;have I:dn cs cs.length=(enc cs).length:=iD lr;rw [I];have F:Hid (Rt Z sb w K f V X cs (.returned (.func (.func 243) #[] #[.pointer (some ⟨OB,0,none⟩)])) wr):=⟨G,C,OB,jH,v0,rfl,b.out⟩;clear b I;generalize (enc cs).length=N at *
   go_wp2;go_ret
   exact F.out
end
end
end So
end Go.Proofs.YtceahffmenbibaaGreatDoor
