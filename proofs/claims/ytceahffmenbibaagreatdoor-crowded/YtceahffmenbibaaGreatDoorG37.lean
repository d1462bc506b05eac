/- Sfiw Sunw Sfgd Sfge Sfgf Sfgw Ssh1. -/
import Derived.Test.YtceahffmenbibaaGreatDoorG36
import Derived.Test.YtceahffmenbibaaGreatDoorG24
import Derived.Test.YtceahffmenbibaaGreatDoorG07
import Derived.Test.YtceahffmenbibaaGreatDoorG26
set_option linter.unusedVariables false
set_option linter.unusedSimpArgs false
set_option maxHeartbeats 4000000
set_option maxRecDepth 100000
namespace Go.Proofs.YtceahffmenbibaaGreatDoor
namespace So
section
open Go Go.RowKit Go.Deep Rd
section
variable {Z:Nat->Prop} {sb K n:Nat} {w:World} {f V:Nat->Value} {X:Nat->List Value} {cs:List Rec} {tr ch:List Nat} {lev:Nat->Nat} {rea:Nat->Int}
theorem JN {k:Nat} {Y:World} {o p:Nat->Value} {d:Nat->List Value} (a:k < cs.length) (v:(enc cs).length <= 1099511627776) (h:dQ Z sb Y K o p d) (m:d 0=ints (enc cs)):
  Calls Tryz.prog 213 #[.pointer (some ⟨sb,2,none⟩),.int .i64 (dw cs k:Nat)] Y fun e w'=>e=.returned (.int .i64 ((dw cs (k + 1):Nat):Int))/\w'=Y:=by
 obtain ⟨g,c,x,j,l,u,r,q,i,-,-,-,-⟩:=fJ h m a;have b:=eF a;have:=qz sb 2 g _ c (dw cs k) (cs[k]).lits.length Y j (by omega) (by unfold maxLen;omega) i
 rw [show dw cs k + 3 + (cs[k]).lits.length=dw cs (k + 1) by rw [gG a];omega] at this
 exact this
theorem jS (w:World) (j:Nat):Below w.heap.size w (w.drewN j):=⟨rfl,rfl,rfl,lr,fun _ _=>rfl⟩
theorem Qk (h:dQ Z sb w K f V X) {a:Option Addr} {c:Nat} (b:V 8=.slice a (X 8).length c):Sn Z sb w K f V X [] (w.setCell ⟨sb,19,none⟩ (.slice a 0 c)):=
 ⟨(dC.refl w).setCell h.jg _,_,by
  have:=h.cut (k:=8) (m:=0) (by omega) b zl
  rw [show cellOf 8=19 from rfl,List.take_zero] at this
  exact this⟩
theorem DT (h:dQ Z sb w K f V X) (h0:X 0=ints (enc cs)) (hT:lX n X tr ch lev rea) (hn:n <= 50) (z:∀ c ∈ cs,∀ x ∈ c.lits,x < 2 * n) (hN:(enc cs).length <= 1099511627776):
  Calls Tryz.prog 185 #[.pointer (some ⟨sb,0,none⟩)] w fun e w'=>Si Z sb w K f V X tr rea cs e w':=by
 have hK:=h.hK;obtain ⟨i0,hi,ac,ab,aa⟩:=info_parts Tryz.fP;have HL:=hide z;have HT:=hide hT;have H0:=hide h0;clear z hT h0;obtain ⟨a8,c8,e8⟩:=h.eO.shape (k:=8) (by omega)
 have C:=(h.hd (k:=8) (by omega))
 rw [show cellOf 8=19 from rfl,e8] at C
 obtain ⟨C,z8⟩:=C;have S0:=hide (Qk h e8);have HA:Hid (a8=none->(X 8).length=0/\c8=0):=fun e=>by
  have o:=h.eO.own 8 (by omega)
  rw [e8,e] at o
  rcases o.2 with ⟨e1,_⟩ | ⟨g,c,ao,e1,_⟩
  ·obtain ⟨_,q2,q3⟩:=Value.slice.inj e1;exact ⟨q2,q3⟩
  ·cases e1
 clear h e8;go_enter Tryz.func185,Tryz.ntmps185
 go_upto_region 0 with fail
 go_cut [] from 3 to 10 (fun wx=>Sn Z sb w K f V X [] wx)
 case first=>
  cases a8 with
  | none=>
   obtain ⟨q1,rfl⟩:=HA.out rfl;rw [q1] at C;go_wp2;go_meet;exact S0.out
  | some p=>
   go_wp2;go_meet
   exact S0.out
 case rest=>
  clear S0 C z8 HA;have C0:=hide hcut;clear hcut;go_wp2;go_loopw [2] (fun s2 wr=>WY Z sb w K f V X tr rea cs s2 wr) (fun s2 _=>(enc cs).length - (intOf s2).toNat)
  case atStart=>exact ⟨0,[],by rw [jP];rfl,zl,⟨List.nodup_nil,fun a ha=>by cases ha⟩,C0.out⟩
  case round=>
   clear C0;obtain ⟨k,d,rfl,am,q⟩:=hrel;by_cases l:k < cs.length
   ·obtain ⟨v,G⟩:=q.out.2.2;have R:(upd X 8 (dx d)) 0=ints (enc cs):=by rw [cz _ _ (by decide)];exact H0.out
    have S:lX n (upd X 8 (dx d)) tr ch lev rea:=HT.out.congr fun k D E=>cz _ _ (by omega)
    obtain ⟨g,c,e0,I,ag,lg,ng,zg,r0,r1,r2,r3,-⟩:=fJ G R l;have aj:=eF l;have r:Hid (dw cs k < dw cs (k + 1)/\dw cs (k + 1) <= (enc cs).length):=by
     unfold Hid;rw [gG l];omega
    have QK:Hid (∀ j,Calls Tryz.prog 219 #[.pointer (some ⟨sb,2,none⟩),.int .i64 (dw cs k:Nat)] (wr.drewN j) fun e w'=>e=.returned (.int .i64 ((cs[k]).kind:Nat))/\w'=wr.drewN j):=fun j=>zb sb 2 g (enc cs).length c (dw cs k) _ (wr.drewN j) I (by omega) (by unfold maxLen;omega) r1
    have QZ:Hid (∀ j,Calls Tryz.prog 220 #[.pointer (some ⟨sb,2,none⟩),.int .i64 (dw cs k:Nat)] (wr.drewN j) fun e w'=>e=.returned (.int .i64 ((cs[k]).lits.length:Nat))/\w'=wr.drewN j):=fun j=>jw sb 2 g (enc cs).length c (dw cs k) _ (wr.drewN j) I (by omega) (by unfold maxLen;omega) r0
    have QL:Hid (∀ j,0 < (cs[k]).lits.length->Calls Tryz.prog 175 #[.pointer (some ⟨sb,2,none⟩),.int .i64 (dw cs k:Nat)] (wr.drewN j) fun e w'=>e=.returned (.slice (some ⟨g,dw cs k + 3,none⟩) (cs[k]).lits.length (c - (dw cs k + 3)))/\∃ i,w'=(wr.drewN j).drewN i):=fun j hp=>by
     have:=iY sb 2 g (enc cs).length c (dw cs k) (cs[k]).lits.length (wr.drewN j) I (by omega) (by unfold maxLen;omega) ag r0
     unfold jB at this;rw [if_neg (by omega)] at this
     exact this
    have W:Hid (∀ j x,x < 2 * n->Calls Tryz.prog 221 #[.pointer (some ⟨sb,6,none⟩),.int .i64 (dw cs k:Nat),.int .i64 (x:Nat)] (wr.drewN j) fun e w'=>e=.returned (.bool (decide (0 < tv tr x) && (rea (x / 2) == ((dw cs k:Nat):Int))))/\∃ i,w'=(wr.drewN j).drewN i):=fun j x J=>DD _ (G.later (jS wr j)) S J hn
    have LT:=hide (HL.out _ (List.getElem_mem l));have U:=hide r3;have a0:(0:Int) <= (dw cs k:Int):=by omega
    have a3:(dw cs k:Int) < ((enc cs).length:Int):=by omega
    have HD:Hid (∀ hk:k < cs.length,(cs[k]).kind=1->2 < (cs[k]).lits.length->(∀ x,(cs[k]).lits[0]? = some x->¬ (0 < tv tr x/\rea (x / 2)=((dw cs k:Nat):Int)))->tK tr rea cs k):=fun hk D E h3=>⟨hk,D,E,h3⟩
    have QB:Hid (∀ Y f1 V1 X1,dQ Z sb Y K f1 V1 X1->X1 0=ints (enc cs)->Calls Tryz.prog 213 #[.pointer (some ⟨sb,2,none⟩),.int .i64 (dw cs k:Nat)] Y fun e w'=>e=.returned (.int .i64 ((dw cs (k + 1):Nat):Int))/\w'=Y):=fun Y f1 V1 X1 D E=>JN l hN D E
    clear e0 lg ng zg r0 r1 r2 r3 G R S;go_upto_region 4 with fail
    go_cut [52] from 11 to 62 (fun v wx=>Yf tr rea cs k wr v wx)
    case first=>
     clear QB;by_cases D:(cs[k]).kind=1
     ·by_cases E:2 < (cs[k]).lits.length
      ·obtain ⟨x,J⟩:∃ x,x=(cs[k]).lits[0]'(by omega):=⟨_,rfl⟩
       have ad:x < 2 * n:=by rw [J];exact LT.out _ (List.getElem_mem _)
       have r4:=U.out 0 (by omega)
       rw [<- J] at r4;have HI:Hid ((decide (0 < tv tr x) && (rea (x / 2) == ((dw cs k:Nat):Int)))=false->tK tr rea cs k):=fun hf=>HD.out l D E fun y hy=>by
        rw [List.getElem?_eq_getElem (by omega),<- J] at hy
        cases hy
        intro ⟨g1,g2⟩;simp [g1,g2] at hf
       have ah:=hide (fun j=>W.out j x ad)
       have ai:=hide (fun j=>QL.out j (by omega))
       have P:(((cs[k]).kind:Int) == 1)=true:=by simp;omega
       have af:decide ((2:Int) < ((cs[k]).lits.length:Int))=true:=by simp;omega
       have al:(0:Int) < ((cs[k]).lits.length:Int):=by omega
       clear LT U HD W QL J D E r;generalize (decide (0 < tv tr x) && (rea (x / 2) == ((dw cs k:Nat):Int)))=b at *
       generalize (cs[k]).kind=kd at *
       generalize (cs[k]).lits.length=m at *
       rw [Nat.add_zero] at r4;go_quiet ((first
        |(go_at_call 219;exact Calls.quiet_of_same (QK.out _))
        |(go_at_call 220;exact Calls.quiet_of_same (QZ.out _))
        |(go_at_call 175;exact Calls.quiet_of (ai.out _))
        |(go_at_call 221;exact Calls.quiet_of (ah.out _))))
       go_wp2;go_meet
       exact ⟨!b,rfl,fun hb=>HI.out (by simpa using hb),nq,rfl⟩
      ·have P:(((cs[k]).kind:Int) == 1)=true:=by simp;omega
       have af:decide ((2:Int) < ((cs[k]).lits.length:Int))=false:=by simp;omega
       clear LT U HD W QL r D E;generalize (cs[k]).kind=kd at *
       generalize (cs[k]).lits.length=m at *
       go_quiet ((first
        |(go_at_call 219;exact Calls.quiet_of_same (QK.out _))
        |(go_at_call 220;exact Calls.quiet_of_same (QZ.out _))))
       go_wp2;go_meet
       exact ⟨false,rfl,fun h=>(by cases h),nq,rfl⟩
     ·have P:(((cs[k]).kind:Int) == 1)=false:=by simp;omega
      clear LT U HD W QL QZ r D;generalize (cs[k]).kind=kd at *
      go_quiet (((go_at_call 219;exact Calls.quiet_of_same (QK.out _))))
      go_wp2;go_meet
      exact ⟨false,rfl,fun h=>(by cases h),nq,rfl⟩
    case rest=>
     obtain ⟨b,rfl,hb,j,rfl⟩:=hcut;clear QK QZ QL W LT U HD I;have ST:=hide (And.intro q.out.1 (q.out.2.later (jS wr j)));clear q;generalize wr.drewN j=L at *
     obtain ⟨v1,u⟩:=ST.out.2.2;have B:=hide u;cases b
     ·clear hb;have H:=hide (QB.out _ _ _ _ u (by rw [cz _ _ (by decide)];exact H0.out))
      clear QB u;go_wp2_with (go_at_call 213;(with_reducible refine H.out.mono ?_);rintro e7 w7 ⟨rfl,rfl⟩;simp only [])
      go_roundw
      case rel=>exact ⟨k + 1,d,rfl,l,ST.out.1.none,ST.out.2⟩
      case measure=>have:=r.out;simp [intOf];omega
     ·have HI:=hide (hb rfl);clear hb;have C:=(u.hd (k:=8) (by omega))
      rw [show cellOf 8=19 from rfl,cK] at C
      have O8:Hid (L.ownsRow 0 3 1 v1 d.length (dx d)):=by
       have o:=u.eO.own 8 (by omega)
       rw [cK,cK,df] at o;exact o
      obtain ⟨va,vc,hv⟩:=dG O8.out;subst hv;obtain ⟨C,z8⟩:=C;have ak:=u.row.lt;have ns:¬ (sb=L.heap.size):=by omega
      have an:=ST.out.1.len (Nat.le_of_lt l);clear u;go_upto_region 3 with (at_builtin;refine dR _ rfl _ _ 43 rfl 0 3 i0 (.int .i64 0) 1 8 Tryz.underlying43 hi ac ab aa rfl (by decide) _ _ _ rfl (O8.out.alloc (.cells #[.int .i64 (dw cs k:Int)] 3)) (.slice (some ⟨L.heap.size,0,none⟩) 1 1) 1 [.int .i64 (dw cs k:Int)] rfl (.inr ⟨⟨L.heap.size,0,none⟩,1,rfl,(cell_one_new L _ _)⟩) rfl (by simp [Value.oneCell']) (by unfold maxLen;omega) (by omega) zl ?_;intro v6 w6 A6;have A7:dB (L.alloc (.cells #[.int .i64 (dw cs k:Int)] 3)) 0 (kP 8) 1 (upd V 8 (.slice va d.length vc) 8) (upd X 8 (dx d) 8).length (upd X 8 (dx d) 8) 1 [.int .i64 (dw cs k:Int)] v6 w6:=(by rw [cK,cK,df];exact A6);have S6:=hide (B.out.push (k:=8) (m:=1) (news:=[.int .i64 (dw cs k:Int)]) (by omega) rfl A7);have B6:=hide (B.out.nS (k:=8) (by omega) A7 19 v6);have g6:=(B.out.jR (k:=8) (by omega) A7 19 (by omega)).1;have z6:=(B.out.jR (k:=8) (by omega) A7 19 (by omega)).2;clear A7 O8;obtain ⟨O,M,ae⟩:=dG A6.own;subst ae;clear A6)
      rw [show cellOf 8=19 from rfl,eQ,eQ,eQ,cK,show dx d ++ [Value.int .i64 (dw cs k:Int)]=dx (d ++ [dw cs k]) by unfold dx;rw [List.map_append];rfl] at S6
      have I6:Hid (Sn Z sb w K f V X (d ++ [dw cs k]) (w6.setCell ⟨sb,19,none⟩ (.slice O (d.length + 1) M))):=⟨ST.out.2.1.trans B6.out,_,S6.out⟩;have H:=hide (QB.out _ _ _ _ S6.out (by rw [cz _ _ (by decide)];exact H0.out))
      clear QB S6 B6 g6 z6 B C z8;generalize w6.setCell ⟨sb,19,none⟩ (.slice O (d.length + 1) M)=W2 at *
      go_wp2_with (go_at_call 213;(with_reducible refine H.out.mono ?_);rintro e7 w7 ⟨rfl,rfl⟩;simp only [])
      go_roundw
      case rel=>exact ⟨k + 1,_,rfl,l,ST.out.1.snoc HI.out,I6.out⟩
      case measure=>have:=r.out;simp [intOf];omega
   ·have ek:k=cs.length:=by omega
    subst ek;obtain ⟨v,G⟩:=q.out.2.2;have I:=(G.hd (k:=0) (by omega)).1
    obtain ⟨a0,c0,e0⟩:=G.eO.shape (k:=0) (by omega)
    rw [show cellOf 0=2 from rfl,e0,cz _ _ (by decide),H0.out,fV] at I
    obtain ⟨a,c,q8,QS⟩:=Qw hN H0.out q.out.1 q.out.2;have HQ:=hide QS;have Q:dw cs cs.length=(enc cs).length:=iD lr;rw [Q];clear QS q G e0 Q;generalize (enc cs).length=N at *
    go_wp2_with (go_at_call 222;(with_reducible refine HQ.out.mono ?_);rintro e7 w7 hr;have HR:=hide hr;obtain ⟨rfl,-⟩:=hr;simp only [])
    go_end0
    exact HR.out
end
section
variable {Z:Nat->Prop} {sb K n:Nat} {w:World} {f V:Nat->Value} {X:Nat->List Value} {cs:List Rec} {wl:Nat->List Nat}
def mI (cs:List Rec) (a:Nat):Bool:=match mapOf cs a with | some c=>decide (c.kind=2) | none=>false
theorem Qm {k:Nat} (a:k < cs.length):mI cs (dw cs k)=decide ((cs[k]).kind=2):=by
 unfold mI;rw [dP a]
def NV (cs:List Rec) (wl:Nat->List Nat) (i:Nat) (x:Nat):List Nat:=if x < i then Df.qH (mI cs) (wl x) else wl x
def Wx (Z:Nat->Prop) (sb:Nat) (w:World) (K:Nat) (f:Nat->Value) (X:Nat->List Value) (n:Nat) (cs:List Rec) (wl:Nat->List Nat) (g9 c9:Nat) (s:Value) (wr:World):Prop:=
 ∃ (i:Nat) (V':Nat->Value) (X':Nat->List Value),s=.int .i64 ((i:Nat):Int)/\i <= 2 * n/\Hid (dQ Z sb wr K f V' X'/\mJ n V' X' (NV cs wl i)/\Ab X X'/\V' 9=.slice (some ⟨g9,0,none⟩) (2 * n) c9/\dC Z w wr)
def RD (Z:Nat->Prop) (sb K:Nat) (f V:Nat->Value) (X':Nat->List Value) (x len:Nat) (W:World):Prop:=∃ wY,dQ Z sb W K f V wY/\(∀ k,k ≠ 16 + x->wY k=X' k)/\(wY (16 + x)).length=len
theorem SL {x g c len:Nat} {ys:List Nat} {X':Nat->List Value} (i:16 + x < K) (e:ys.length ≠ 0->V (16 + x)=.slice (some ⟨g,0,none⟩) ys.length c) (m:X' 0=ints (enc cs)) (l:(enc cs).length <= 1099511627776) (h:∀ a ∈ ys,∃ k,∃ b:k < cs.length,a=dw cs k):
  Df.Yu 224 sb g 0 ys.length (mI cs) ys (RD Z sb K f V X' x ys.length) where
 drew:=fun W d ⟨wY,h1,h2,h3⟩=>⟨wY,h1.later (Go.below_drewN bR _),h2,h3⟩
 set:=fun W j u hj ⟨wY,h1,h2,h3⟩=>by
  rw [Nat.zero_add];exact ⟨_,h1.set i (e (by omega)) j (.int .i64 (u:Nat)),fun k b=>by rw [cz _ _ b];exact h2 k b,by rw [cK,List.length_set];exact h3⟩
 is:=.inr rfl
 call:=fun W ⟨wY,h1,h2,h3⟩ y hy=>by
  obtain ⟨k,b,rfl⟩:=h y hy;rw [Qm b];exact Aw h1 (by rw [h2 0 (by omega)];exact m) b l
theorem dQ.V7 {wr wx:World} {X':Nat->List Value} {x g c:Nat} {ys d:List Nat} {post:List Value} (h:dQ Z sb wr K f V X') (m:16 + x < K) (e:V (16 + x)=.slice (some ⟨g,0,none⟩) ys.length c) (A:X' (16 + x)=dx ys) (o:d.length=ys.length) (z:wr.heap[g]? = some (.cells (([]:List Value) ++ dx ys ++ post).toArray 3 (0,0))) (i:wx.heap[g]? = some (.cells (([]:List Value) ++ dx d ++ post).toArray 3 (0,0))) (u:∀ k,k ≠ g->wx.heap[k]? = wr.heap[k]?) (hb:Below 0 wr wx):
  dQ Z sb wx K f V (upd X' (16 + x) (dx d))/\dC Z wr wx:=by
 refine h.xN m e ?_ u hb;have b:=h.eO.own (16 + x) m;rw [uS] at b ⊢;rw [e] at b ⊢;rw [A,df] at b;rw [df,o];refine ⟨by rw [df,o,Nat.mul_one],?_⟩
 rcases b.2 with ⟨l,_⟩ | ⟨C,q,p,l,j,a,v,y,r,B⟩
 ·cases l
 ·cases l
  rw [z] at a;cases a
  refine .inr ⟨g,c,_,rfl,j,i,v,y,?_,?_⟩
  ·simp only [List.size_toArray,List.length_append,List.length_nil,df] at r ⊢;omega
  ·simp only [Nat.mul_one];rw [List.nil_append,List.take_append_of_le_length (by rw [df];omega),List.take_of_length_le (by rw [df];omega)]
theorem NU (i:Nat):(fun y=>if y=i then Df.qH (mI cs) (wl i) else NV cs wl i y)=NV cs wl (i + 1):=by
 funext y
 unfold NV;by_cases e:y=i
 ·subst e;rw [if_pos rfl,if_pos (by omega)]
 ·rw [if_neg e];by_cases h:y < i
  ·rw [if_pos h,if_pos (by omega)]
  ·rw [if_neg h,if_neg (by omega)]
theorem Er (h:dQ Z sb w K f V X) (h0:X 0=ints (enc cs)) (hN:(enc cs).length <= 1099511627776) (hW:mJ n V X wl) (G:K=16 + 2 * n) (hn:n <= 50) (ar:0 < n) (af:∀ x,x < 2 * n->∀ a ∈ wl x,∃ k,∃ hk:k < cs.length,a=dw cs k) (S:∀ x,x < 2 * n->(wl x).length <= 1099511627776):
  Calls Tryz.prog 189 #[.pointer (some ⟨sb,0,none⟩)] w fun e w'=>e=.returned (.tuple #[])/\dC Z w w'/\∃ u X',dQ Z sb w' K f u X'/\mJ n u X' (fun x=>Df.qH (mI cs) (wl x))/\Ab X X':=by
 obtain ⟨z,c9,_,_,e9,-,q9,-⟩:=hW.at' h G (x:=0) (by omega)
 have S0:Hid (dQ Z sb w K f V X/\mJ n V X (NV cs wl 0)/\Ab X X/\V 9=.slice (some ⟨z,0,none⟩) (2 * n) c9/\dC Z w w):=⟨h,by rw [show NV cs wl 0=wl by funext x;unfold NV;rw [if_neg (by omega)]];exact hW,fun _ _ _=>rfl,e9,dC.refl _⟩
 clear h hW e9;go_enter Tryz.func189,Tryz.ntmps189
 go_wp2_with fail
 go_loopw [2,3,9] (fun _ _ s wr=>Wx Z sb w K f X n cs wl z c9 s wr) (fun _ _ s _=>2 * n - (intOf s).toNat)
 case atStart=>exact ⟨0,V,X,rfl,zl,S0⟩
 case round=>
  clear S0 q9;obtain ⟨i,u,X',rfl,av,v⟩:=hrel;by_cases b:i < 2 * n
  ·obtain ⟨M,r,R,l,hc⟩:=v.out;obtain ⟨aj,ax,O,wc,H,N,q9,r9,z9,l9,n9,ad,own⟩:=r.at' M G b;rw [l] at H;obtain ⟨y1,_,y3⟩:=Value.slice.inj H;obtain rfl:z=aj:=by have:=Option.some.inj y1;simpa using this
   subst y3;have Y:NV cs wl i i=wl i:=by unfold NV;rw [if_neg (by omega)]
   rw [Y] at N r9 own;have ai:X' 0=ints (enc cs):=by rw [R 0 (by decide) (by decide)];exact h0
   have row:=r.row i b;rw [Y] at row;obtain ⟨g,post,y,E,T⟩:∃ (g:Nat) (post:List Value),((wl i).length ≠ 0->O=some ⟨g,0,none⟩)/\((wl i).length ≠ 0->Df.xH g [] post (wl i) wr)/\(wl i).length <= wc:=by
    rcases own.2 with ⟨e',hz⟩ | ⟨g',an,aa,e',_,ag,ae,_,aq,P⟩
    ·obtain ⟨_,a2,I⟩:=Value.slice.inj e';exact ⟨0,[],fun h=>absurd a2 h,fun h=>absurd a2 h,by omega⟩
    ·obtain ⟨a1,a2,I⟩:=Value.slice.inj e';subst a1 I;refine ⟨g',aa.toList.drop (wl i).length,fun _=>rfl,fun _=>?_,by simpa [df] using ae⟩
     unfold Df.xH;rw [ag]
     congr 2
     simp only [Nat.mul_one] at P;rw [List.nil_append,<- P,List.take_append_drop]
   have CB:=SL (Z:=Z) (sb:=sb) (K:=K) (f:=f) (V:=u) (X':=X') (x:=i) (g:=g) (c:=wc) (len:=0) (ys:=wl i) (by omega) (fun h=>by rw [N,y h]) ai hN (af i b)
   have SI:RD Z sb K f u X' i (wl i).length wr:=⟨X',M,fun _ _=>rfl,by rw [row,df]⟩
   have J:=hide (fun d=>Df.rz (g:=g) (cap:=wc) (pre:=[]) (post:=post) (al:=O) (w:=wr.drewN d) CB y (CB.drew _ d SI) (fun h=>(E h).drew d) (S i b) T)
   have ac:Hid (∀ d p C,C.length=(wl i).length->C.take (Df.qH (mI cs) (wl i)).length=Df.qH (mI cs) (wl i)->Below 0 (wr.drewN d) p->(∀ k,k ≠ g->p.heap[k]? = (wr.drewN d).heap[k]?)->((wl i).length ≠ 0->Df.xH g [] post C p)->((wl i).length=0->p.heap=(wr.drewN d).heap)->p.cell? ⟨sb,5,none⟩=some (.slice (some ⟨z,0,none⟩) (2 * n) c9)/\p.cell? ⟨z,i,none⟩=some (.slice O (wl i).length wc)/\p.frozen? ⟨z,i,none⟩=false/\∃ V2 X2,dQ Z sb (p.setCell ⟨z,i,none⟩ (.slice O (Df.qH (mI cs) (wl i)).length wc)) K f V2 X2/\mJ n V2 X2 (NV cs wl (i + 1))/\Ab X X2/\V2 9=.slice (some ⟨z,0,none⟩) (2 * n) c9/\dC Z w (p.setCell ⟨z,i,none⟩ (.slice O (Df.qH (mI cs) (wl i)).length wc))):=fun d p C a1 a2 I a4 a5 a6=>by
    have W:Below wr.heap.size wr (wr.drewN d):=Go.below_drewN bR _;have Q:=M.later W;have ah:=hc.trans (dC.of_below W);obtain ⟨s1,c1⟩:dQ Z sb p K f u (upd X' (16 + i) (dx C))/\dC Z (wr.drewN d) p:=by
     by_cases D:(wl i).length=0
     ·have e2:C=[]:=List.eq_nil_of_length_eq_zero (by rw [a1];exact D)
      have e1:wl i=[]:=List.eq_nil_of_length_eq_zero D;have U:Below (wr.drewN d).heap.size (wr.drewN d) p:=⟨I.os,I.tape,I.output,by rw [a6 D];exact lr,fun k _=>by rw [a6 D]⟩
      refine ⟨?_,dC.of_below U⟩;rw [e2,<- e1,<- row,upd_same];exact Q.later U
     ·exact Q.V7 (by omega) (by rw [N,y D]) row a1 (E D) (a5 D) a4 I
    have h9:(upd X' (16 + i) (dx C)) 9=X' 9:=cz _ _ (by omega)
    obtain ⟨b1,b2⟩:=s1.eO.cell (k:=9) (by omega) l (j:=i) (by rw [h9,r.n9];exact b)
    rw [h9,r.hd i b,N] at b1;have aw:(Df.qH (mI cs) (wl i)).length <= (wl i).length:=List.length_filter_le ..;have s2:=s1.XT (x:=i) (m:=(Df.qH (mI cs) (wl i)).length) (by omega) l N (by rw [cK,df];omega)
    rw [cK,eQ,h9,mZ,a2] at s2;have q:=(s1.hd (k:=9) (by omega)).1
    rw [show cellOf 9=5 from rfl,l] at q
    refine ⟨q,b1,b2,_,_,s2,?_,fun k h1 h2=>?_,by rw [cz _ _ (by omega)];exact l,(ah.trans c1).setCell ad _⟩
    ·rw [<- NU];exact r.put b rfl _
    ·rw [cz _ _ h1,cz _ _ (by omega)];exact R k h1 h2
   have ap:(0:Int) <= (i:Int):=by omega
   have ao:(i:Int) < 2 * (n:Int):=by omega
   have au:∀ (fn:Fn) (first cap:Array Value) (w:World),(Instr.makeFunc fn first cap).run Tryz.prog w=.ok (.func fn first cap) w:=fun _ _ _ _=>rfl
   clear v M r R l hc CB SI y E own row N H y1;obtain ⟨len,o⟩:∃ len,len=(wl i).length:=⟨_,rfl⟩;rw [<- o] at ac J r9 T;have L:=hide o;clear o;go_upto_region 3 with fail
   have ab:=hide (J.out 1);rw [show wr.drewN 1=wr.drew from rfl] at ab
   clear J;go_region_with (go_at_call 184;refine ab.out.mono ?_;rintro e8 w8 ⟨l8,b1,b2,rfl,b3,b4,b5,b6⟩;obtain ⟨u0,u1,u2,u3⟩:=ac.out 1 w8 l8 (by rw [L.out];exact b1) b2 b3 b4 (fun h=>b5 (by rw [<- L.out];exact h)) (fun h=>b6 (by rw [<- L.out];exact h));have U3:=hide u3;clear u3 b1 b2 b3 b4 b5 b6;simp only [])
   all_goals
    obtain ⟨V2,X2,B⟩:=U3.out;have ak:=hide B;clear B U3;go_wp2;go_roundw
    case rel=>exact ⟨i + 1,V2,X2,by go_num,b,ak⟩
    case measure=>simp [intOf];omega
  ·have ei:i=2 * n:=by omega
   subst ei;have am:Hid (dC Z w wr/\∃ u X',dQ Z sb wr K f u X'/\mJ n u X' (fun x=>Df.qH (mI cs) (wl x))/\Ab X X'):=by
    obtain ⟨M,r,R,l,hc⟩:=v.out;refine ⟨hc,u,X',M,⟨r.n9,r.hd,fun x hx=>?_⟩,R⟩
    rw [r.row x hx];unfold NV;rw [if_pos hx]
   have j1:¬ (2 * (n:Int) < 2 * (n:Int)):=by omega
   clear v G;go_wp2;go_end0;exact ⟨rfl,am.out⟩
end
section
variable {Z:Nat->Prop} {sb ob hb kb n:Nat} {L0:List Cl} {N0:Nat} {w w':World} {s t:St}
theorem Pj {K:Nat} {f V:Nat->Value} {X:Nat->List Value} {a C o I G:Nat->Prop} {l:List UInt8} {c:List Nat} (T:rJ Z sb ob hb kb n w K f V X a l C o I G) (q:n <= 50) (u:f 0=.iface 105 (.pointer (some ⟨kb,0,none⟩))) (v:Value) (hL:NK sb (V 12) w v c) (r:c.length <= 50) (h:∀ x ∈ c,x < 2 * n) (d:l.length <= 70368744177664):
  Calls Tryz.prog 186 #[.pointer (some ⟨sb,0,none⟩),v] w fun e w'=>e=.returned .nilIface/\dC Z w w'/\∃ m y i k j,rJ Z sb ob hb kb n w' K (upd f 1 m) (upd V 12 m) (upd X 12 y) a (l ++ (jd true c ++ [10])) i o k j:=by
 have p:=hide (AX T q u ⟨#[100,32]⟩ (by decide) v hL r h d)
 have E:eD (⟨#[100,32]⟩:ByteArray).data.toList c c.length ++ [48,10]=jd true c ++ [10]:=by
  unfold eD jd;rw [List.take_length];simp
 rw [E] at p;clear T hL E;go_enter Tryz.func186,Tryz.ntmps186
 go_wp2_with (go_at_call 140;refine p.out.mono ?_;rintro N L ⟨rfl,g,M,B,H,D,b⟩;have J:=hide g;have z:=hide b;clear g b;simp only [])
 go_ret
 exact ⟨rfl,J.out,_,_,_,_,_,z.out⟩
theorem Lt {cs:List Rec} {k:Nat} (a:k < cs.length) (c:Rec):cs.set k c=cs.take k ++ c :: cs.drop (k + 1)/\cs=cs.take k ++ cs[k] :: cs.drop (k + 1):=by
 refine ⟨List.set_eq_take_append_cons_drop.trans (by rw [if_pos a]),?_⟩
 rw [<- List.drop_eq_getElem_cons a,List.take_append_drop]
theorem KL {cs:List Rec} {k:Nat} (g:k < cs.length) (i:(cs[k]).kind=1) (b:Int):iN (cs.set k ⟨2,b,(cs[k]).lits⟩) + 1=iN cs/\jc (cs.set k ⟨2,b,(cs[k]).lits⟩)=jc cs + (3 + (cs[k]).lits.length):=by
 obtain ⟨j,a⟩:=Lt g ⟨2,b,(cs[k]).lits⟩;have e:∀ A (c:Rec) B,iN (A ++ c :: B)=iN A + ((if c.kind=1 then 1 else 0) + iN B):=fun A c B=>by
  unfold iN;rw [List.countP_append,List.countP_cons];by_cases h:c.kind=1 <;> simp [h] <;> omega
 have d:∀ A (c:Rec) B,jc (A ++ c :: B)=jc A + ((if c.kind=2 then 3 + c.lits.length else 0) + jc B):=fun A c B=>by
  unfold jc;rw [List.map_append,List.sum_append,List.map_cons,List.sum_cons]
 rw [j,e,d];have m:iN cs=iN (cs.take k) + ((if (cs[k]).kind=1 then 1 else 0) + iN (cs.drop (k + 1))):=by
  rw [<- e];exact congrArg iN a
 have l:jc cs=jc (cs.take k) + ((if (cs[k]).kind=2 then 3 + (cs[k]).lits.length else 0) + jc (cs.drop (k + 1))):=by
  rw [<- d];exact congrArg jc a
 rw [if_pos i] at m;rw [if_neg (by omega)] at l
 simp;omega
def Dl (tr:List Nat) (rea:Nat->Int) (cs cs':List Rec):Prop:=cs'.length=cs.length/\∀ k (h:k < cs.length) (h':k < cs'.length),(cs'[k]).lits=(cs[k]).lits/\((cs'[k]).kind=(cs[k]).kind\/((cs'[k]).kind=2/\tK tr rea cs k))
variable {tr:List Nat} {rea:Nat->Int} {cs cs':List Rec}
theorem Dl.refl:Dl tr rea cs cs:=⟨rfl,fun k _ _=>⟨rfl,.inl rfl⟩⟩
theorem Dl.dw (h:Dl tr rea cs cs'):∀ k,k <= cs.length->dw cs' k=dw cs k
 | 0,_=>by rw [jP,jP]
 | k + 1,hk=>by
  have a:k < cs.length:=by omega
  have b:k < cs'.length:=by rw [h.1];exact a
  rw [gG a,gG b,Dl.dw h k (by omega),(h.2 k a b).1]
theorem Dl.len (h:Dl tr rea cs cs'):(enc cs').length=(enc cs).length:=by
 rw [<- iD (cs:=cs') lr,h.1,h.dw _ lr,iD lr]
theorem Dl.set (h:Dl tr rea cs cs') {k:Nat} (i:k < cs'.length) (d:tK tr rea cs k) (b:Int):Dl tr rea cs (cs'.set k ⟨2,b,(cs'[k]).lits⟩):=⟨by rw [List.length_set];exact h.1,fun j c g=>by
 have a:j < cs'.length:=by simpa using g
 by_cases e:k=j
 ·subst e;rw [List.getElem_set_self];exact ⟨(h.2 k c a).1,.inr ⟨rfl,d⟩⟩
 ·rw [List.getElem_set_ne e];exact h.2 j c a⟩
theorem Dl.YY (h:Dl tr rea cs cs'):J3 (mapOf cs) (mapOf cs'):=fun a=>by
 cases g:mapOf cs a with
 | none=>
  left
  cases e:mapOf cs' a with
  | none=>rfl
  | some c=>
   obtain ⟨k,d,rfl,_⟩:=dO e;have b:k < cs.length:=by rw [<- h.1];exact d
   rw [h.dw k (by omega),dP b] at g
   cases g
 | some c=>
  obtain ⟨k,d,rfl,rfl⟩:=dO g;have b:k < cs'.length:=by rw [h.1];exact d
  obtain ⟨g1,g2⟩:=h.2 k d b;rw [<- h.dw k (by omega),dP b,g1]
  rcases g2 with g2 | ⟨g2,_⟩
  ·rw [g2];exact .inl rfl
  ·rw [g2];exact .inr ⟨_,rfl,rfl⟩
theorem Dl.keeps (h:Dl tr rea cs cs') (g:∀ x ∈ tr,0 < tv tr x):∀ b c x r,mapOf cs b=some c->c.kind ≠ 2->c.lits=x :: r->x ∈ tr->rea (x / 2)=(b:Nat)->mapOf cs' b=mapOf cs b:=fun b c x r e o l j i=>by
 obtain ⟨k,d,rfl,rfl⟩:=dO e;have a:k < cs'.length:=by rw [h.1];exact d
 obtain ⟨g1,g2⟩:=h.2 k d a;rw [e,<- h.dw k (by omega),dP a,g1]
 rcases g2 with g2 | ⟨_,_,_,_,m⟩
 ·rw [g2]
 ·refine absurd ⟨g x j,i⟩ (m x ?_);rw [show (cs[k]).lits=x :: r from l];rfl
theorem Dl.given (h:Dl tr rea cs cs') (j:K3 L0 (mapOf cs)):K3 L0 (mapOf cs'):=fun c l=>by
 rcases j c l with e | ⟨a,d,e,i,m⟩
 ·exact .inl e
 ·refine .inr ⟨a,d,?_,i,m⟩;obtain ⟨k,g,rfl,rfl⟩:=dO e;have b:k < cs'.length:=by rw [h.1];exact g
  obtain ⟨g1,g2⟩:=h.2 k g b;rw [<- h.dw k (by omega),dP b,g1]
  rcases g2 with g2 | ⟨_,_,o,_⟩
  ·rw [g2]
  ·have:(cs[k]).kind=0:=i;omega
end
section
variable {Z:Nat->Prop} {sb ob hb kb n:Nat} {L0:List Cl} {N0:Nat} {w0 w w':World} {s t:St}
structure JX (Z:Nat->Prop) (sb ob hb kb n:Nat) (L0:List Cl) (w0:World) (s:St) (ids:List Nat) (i:Nat) (w:World) (t:St):Prop where
 dJ:rJ Z sb ob hb kb n w (16 + 2 * n) t.f t.V t.X s.gone (dS t.ls) t.Rs s.Ro t.Rd t.Rk
 eP:dC Z w0 w
 x0:t.X 0=ints (enc t.cs)
 x8:t.X 8=dx ids
 xs:∀ j,j ≠ 0->j ≠ 8->j ≠ 12->t.X j=s.X j
 vs:∀ j,j ≠ 8->j ≠ 12->t.V j=s.V j
 ff:∀ j,j ≠ 1->j ≠ 3->j ≠ 4->j ≠ 18->j ≠ 19->t.f j=s.f j
 f3:t.f 3=.int .i64 ((t.lc:Nat):Int)
 f4:t.f 4=.int .i64 ((t.ws:Nat):Int)
 f18:t.f 18=.int .i64 ((s.mo + 100:Nat):Int)
 del:Dl s.tr s.rea s.cs t.cs
 Xg:∀ k (h:k < s.cs.length) (h':k < t.cs.length),(t.cs[k]).kind ≠ (s.cs[k]).kind->dw s.cs k ∈ ids.take i
 lines:jQ L0 (t.ls.map fun l=>(l.1,l.2.map wr)) t.L
 yY:∀ l ∈ t.ls,∀ x ∈ l.2,x < 2 * n
 uk:wC t.L (nW t.cs)
 xq:(dS t.ls).length + 125 * iN t.cs <= 250 * s.m
 cnt:t.lc=iN t.cs
 xm:t.ws=jc t.cs
 Xf:t.lc <= s.lc
theorem JX.later {a:List Nat} {i:Nat} (h:JX Z sb ob hb kb n L0 w0 s a i w t) (b:Below w.heap.size w w'):JX Z sb ob hb kb n L0 w0 s a i w' t:={ h with dJ:=h.dJ.later b,eP:=h.eP.trans (dC.of_below b) }
def Y7 (Z:Nat->Prop) (sb ob hb kb n:Nat) (w0:World) (s t:St) (c:List Nat) (w':World):Prop:=
 dC Z w0 w'/\∃ v' X' Io Rd' Zq,rJ Z sb ob hb kb n w' (16 + 2 * n) (upd t.f 1 v') (upd t.V 12 v') (upd t.X 12 X') s.gone (dS t.ls ++ (jd true c ++ [10])) Io s.Ro Rd' Zq
theorem MN {c:List Nat} (d:n <= 50) (e:∀ x ∈ c,x < 2 * n):(jd true c).length <= 4 * c.length + 3:=by
 have a:=nL d (st:=[100,32]) (c:=c) e (by simp) c.length lr
 have b:jd true c=eD [100,32] c c.length ++ [48]:=by
  unfold eD jd;rw [List.take_length];simp
 rw [b,List.length_append];simp at a ⊢;omega
theorem JX.next {a:List Nat} {i:Nat} (h:JX Z sb ob hb kb n L0 w0 s a i w t) (l:Ij s.tr s.rea s.cs s.cs.length a) (hi:i < a.length):
  ∃ k,∃ (c:k < s.cs.length) (b:k < t.cs.length),a[i]=dw s.cs k/\a[i]=dw t.cs k/\tK s.tr s.rea s.cs k/\(t.cs[k]).kind=1/\(t.cs[k]).lits=(s.cs[k]).lits:=by
 obtain ⟨k,c,g,e⟩:=l.2 _ (List.getElem_mem hi);have b:k < t.cs.length:=by rw [h.del.1];exact c
 refine ⟨k,c,b,e,by rw [h.del.dw k (by omega)];exact e,g,?_,(h.del.2 k c b).1⟩
 obtain ⟨_,q,_⟩:=id g;refine Classical.byContradiction fun o=>?_
 have d:=h.Xg k c b (by omega)
 rw [<- e] at d;obtain ⟨j,p,m⟩:=List.mem_iff_getElem.1 d;rw [List.length_take] at p;rw [List.getElem_take] at m;exact (List.pairwise_iff_getElem.1 l.1 j i (by omega) hi (by omega)) m
theorem Nl {a:List Nat} (h:Main Z sb ob hb kb n L0 N0 false w s) (e:Sn (zz s.Rs w) sb (w.setCell ⟨sb,18,none⟩ (.int .i64 ((s.mo + 100:Nat):Int))) (16 + 2 * n) (upd s.f 18 (.int .i64 ((s.mo + 100:Nat):Int))) s.V s.X a w'):
  ∃ t,JX Z sb ob hb kb n L0 w s a 0 w' t:=by
 obtain ⟨i,v,l⟩:=e;have b:dC (zz s.Rs w) w w':=((dC.refl w).setCell h.dJ.duo.dH.jg _).trans i;obtain ⟨d,c⟩:=h.dJ.gM l b (by rw [cz _ _ (by decide),cz _ _ (by decide)])
 exact ⟨{ s with f:=upd (upd s.f 18 (.int .i64 ((s.mo + 100:Nat):Int))) 19 v,V:=upd s.V 8 v,X:=upd s.X 8 (dx a),Rs:=(fun g=>zz s.Rs w g/\g < w'.heap.size),Rd:=(fun g=>zz s.Rd w g/\g < w'.heap.size) },{
  dJ:=d
  eP:=c
  x0:=(cz (k:=8) (j:=0) s.X (dx a) (by decide)).trans h.x0
  x8:=cK s.X 8 (dx a)
  xs:=fun j _ p _=>cz _ _ p
  vs:=fun j q _=>cz _ _ q
  ff:=fun j _ _ _ o m=>(cz _ _ m).trans (cz _ _ o)
  f3:=((cz (k:=19) (j:=3) (upd s.f 18 (.int .i64 ((s.mo + 100:Nat):Int))) v (by decide)).trans (cz (k:=18) (j:=3) s.f (.int .i64 ((s.mo + 100:Nat):Int)) (by decide))).trans h.f3
  f4:=((cz (k:=19) (j:=4) (upd s.f 18 (.int .i64 ((s.mo + 100:Nat):Int))) v (by decide)).trans (cz (k:=18) (j:=4) s.f (.int .i64 ((s.mo + 100:Nat):Int)) (by decide))).trans h.f4
  f18:=(cz (k:=19) (j:=18) (upd s.f 18 (.int .i64 ((s.mo + 100:Nat):Int))) v (by decide)).trans (cK s.f 18 _)
  del:=Dl.refl
  Xg:=fun k _ _ h=>absurd rfl h
  lines:=h.lines
  yY:=h.yY
  uk:=h.uk
  xq:=h.xq
  cnt:=h.cnt
  xm:=h.xm
  Xf:=lr }⟩
theorem JX.lits {a:List Nat} {i:Nat} (h:JX Z sb ob hb kb n L0 w0 s a i w t) (b:Main Z sb ob hb kb n L0 N0 false w0 s) {k:Nat} (c:k < s.cs.length):(s.cs[k]).lits.length <= n/\∀ x ∈ (s.cs[k]).lits,x < 2 * n:=
 ⟨jN (b.pi.mg.vars _ _ (dP c)) (b.pi.mg.lt _ _ (dP c)),b.pi.mg.lt _ _ (dP c)⟩
theorem Jt {a:List Nat} {i k:Nat} {z:World} (h:JX Z sb ob hb kb n L0 w0 s a i w t) (R:Main Z sb ob hb kb n L0 N0 false w0 s) (hn:n <= 50) (hN:(enc s.cs).length <= 1099511627776) (ab:s.m <= 1099511627776) (hi:i < a.length)
  (hk:k < s.cs.length) (b:k < t.cs.length) (e1:a[i]=dw s.cs k) (e2:a[i]=dw t.cs k) (hI:tK s.tr s.rea s.cs k) (U:(t.cs[k]).kind=1) (C:(t.cs[k]).lits=(s.cs[k]).lits) (hw:Y7 Z sb ob hb kb n w0 s t (s.cs[k]).lits z):
  Calls Tryz.prog 187 #[.pointer (some ⟨sb,2,none⟩),.int .i64 (a[i]:Nat)] z fun e w'=>e=.returned (.tuple #[])/\∃ P,JX Z sb ob hb kb n L0 w0 s a (i + 1) w' P/\P.f 19=t.f 19:=by
 obtain ⟨E,y,q,I,M,J,W⟩:=hw;obtain ⟨ln,lt⟩:=h.lits R hk;have T:=eF b;have S:=h.del.len;have u:(upd t.X 12 q) 0=ints (enc t.cs):=by rw [cz _ _ (by decide)];exact h.x0
 have Q:1 <= iN t.cs:=by have:=(KL b U 0).1;omega
 have ad:t.lc <= 2 * s.m:=by have:=h.xq;have:=h.cnt;omega
 have aa:t.ws <= (enc t.cs).length:=by
  rw [h.xm];have B:∀ cs:List Rec,jc cs <= (enc cs).length:=fun cs=>by
   induction cs with
   | nil=>exact lr
   | cons c r ih=>
    have e:(enc (c :: r)).length=(3 + c.lits.length) + (enc r).length:=by simp [enc,fZ]
    have e':jc (c :: r)=(if c.kind=2 then 3 + c.lits.length else 0) + jc r:=by unfold jc;rw [List.map_cons,List.sum_cons]
    rw [e,e'];split <;> omega
  exact B _
 have hg:((upd t.X 12 q) 0)[dw t.cs k]? = some (.int .i64 (((s.cs[k]).lits.length:Nat):Int)):=by
  rw [u,lU,GI b,C];rfl
 rw [e2];refine (JD (dw t.cs k) (enc t.cs).length (s.cs[k]).lits.length (t.lc:Nat) (t.ws:Nat) W.duo.dH (by rw [u,fV]) (by omega) (by omega) hg (by omega) ((cz (k:=1) (j:=3) _ _ (by decide)).trans h.f3) ((cz (k:=1) (j:=4) _ _ (by decide)).trans h.f4) (by omega) (by omega) (by omega) (by omega)).mono ?_
 rintro e w' ⟨rfl,D,hS⟩;obtain ⟨t1,Y⟩:=W.gM hS D (by rw [cz _ _ (by decide),cz _ _ (by decide)])
 obtain ⟨c1,c2⟩:=KL b U (t.cs[k]).busy;obtain ⟨L',r1,r2⟩:=h.uk.delete b (by omega) (t.cs[k]).busy (d:=(s.cs[k]).lits.map wr) (fun x=>by rw [C,List.mem_map])
 have ac:=MN hn lt;have ae:=h.cnt;have N:upd (upd (upd t.f 1 y) 3 (.int .i64 (((t.lc:Nat):Int) - 1))) 4 (.int .i64 (((t.ws:Nat):Int) + (3 + ((s.cs[k]).lits.length:Nat)))) 19=t.f 19:=by
  rw [cz _ _ (by decide),cz _ _ (by decide),cz _ _ (by decide)]
 have O:upd (upd (upd t.f 1 y) 3 (.int .i64 (((t.lc:Nat):Int) - 1))) 4 (.int .i64 (((t.ws:Nat):Int) + (3 + ((s.cs[k]).lits.length:Nat)))) 18=.int .i64 ((s.mo + 100:Nat):Int):=by
  rw [cz _ _ (by decide),cz _ _ (by decide),cz _ _ (by decide)];exact h.f18
 have X8:upd (upd t.X 12 q) 0 (((upd t.X 12 q) 0).set (dw t.cs k + 1) (.int .i64 2)) 8=dx a:=by
  rw [cz _ _ (by decide),cz _ _ (by decide)];exact h.x8
 have X0:upd (upd t.X 12 q) 0 (((upd t.X 12 q) 0).set (dw t.cs k + 1) (.int .i64 2)) 0=ints (enc (t.cs.set k ⟨2,(t.cs[k]).busy,(t.cs[k]).lits⟩)):=by
  rw [cK,u];exact (ints_set _ _ 2).trans (congrArg ints (GK b 2).symm)
 have F3:upd (upd (upd t.f 1 y) 3 (.int .i64 (((t.lc:Nat):Int) - 1))) 4 (.int .i64 (((t.ws:Nat):Int) + (3 + ((s.cs[k]).lits.length:Nat)))) 3=.int .i64 ((t.lc - 1:Nat):Int):=by
  rw [cz _ _ (by decide),cK]
  congr 1
  omega
 have F4:upd (upd (upd t.f 1 y) 3 (.int .i64 (((t.lc:Nat):Int) - 1))) 4 (.int .i64 (((t.ws:Nat):Int) + (3 + ((s.cs[k]).lits.length:Nat)))) 4=.int .i64 ((t.ws + (3 + (s.cs[k]).lits.length):Nat):Int):=by
  rw [cK]
  congr 1
 refine ⟨rfl,{ t with cs:=t.cs.set k ⟨2,(t.cs[k]).busy,(t.cs[k]).lits⟩,f:=upd (upd (upd t.f 1 y) 3 (.int .i64 (((t.lc:Nat):Int) - 1))) 4 (.int .i64 (((t.ws:Nat):Int) + (3 + ((s.cs[k]).lits.length:Nat)))),V:=upd t.V 12 y,X:=upd (upd t.X 12 q) 0 (((upd t.X 12 q) 0).set (dw t.cs k + 1) (.int .i64 2)),ls:=t.ls ++ [(true,(s.cs[k]).lits)],L:=L',lc:=t.lc - 1,ws:=t.ws + (3 + (s.cs[k]).lits.length),Rs:=(fun g=>zz I z g/\g < w'.heap.size),Rd:=(fun g=>zz M z g/\g < w'.heap.size),Rk:=J },{
  dJ:=by rw [oD];exact t1
  eP:=E.trans Y
  x0:=X0
  x8:=X8
  xs:=fun j o p v=>((cz _ _ o).trans (cz _ _ v)).trans (h.xs j o p v)
  vs:=fun j o p=>(cz _ _ p).trans (h.vs j o p)
  ff:=fun j o p v a4 a5=>((cz _ _ v).trans ((cz _ _ p).trans (cz _ _ o))).trans (h.ff j o p v a4 a5)
  f3:=F3
  f4:=F4
  f18:=O
  del:=h.del.set b hI _
  Xg:=fun j o p v=>by
   by_cases e:k=j
   ·subst e;rw [<- e1];rw [List.take_succ_eq_append_getElem hi];exact List.mem_append_right _ (List.mem_singleton.2 rfl)
   ·have H:j < t.cs.length:=by simpa using p
    have G:(t.cs[j]).kind ≠ (s.cs[j]).kind:=by
     have:=v;simp only [List.getElem_set_ne e] at this;exact this
    rw [List.take_succ_eq_append_getElem hi];exact List.mem_append_left _ (h.Xg j o H G)
  lines:=by
   rw [List.map_append];exact h.lines.del r1
  yY:=fun l o=>by
   rcases List.mem_append.1 o with o | o
   ·exact h.yY l o
   ·rw [List.mem_singleton.1 o];exact lt
  uk:=r2
  xq:=by
   show (dS (t.ls ++ [(true,(s.cs[k]).lits)])).length + 125 * iN (t.cs.set k ⟨2,(t.cs[k]).busy,(t.cs[k]).lits⟩) <= 250 * s.m
   rw [oD,List.length_append,List.length_append];have:=h.xq;have:=R.n30;simp only [List.length_cons,List.length_nil];omega
  cnt:=by
   show t.lc - 1=iN (t.cs.set k ⟨2,(t.cs[k]).busy,(t.cs[k]).lits⟩)
   have:=h.cnt;omega
  xm:=by
   show t.ws + (3 + (s.cs[k]).lits.length)=jc (t.cs.set k ⟨2,(t.cs[k]).busy,(t.cs[k]).lits⟩)
   rw [c2,h.xm,C]
  Xf:=by show t.lc - 1 <= s.lc;have:=h.Xf;omega },N⟩
end
section
variable {Z:Nat->Prop} {sb ob hb kb n:Nat} {L0:List Cl} {N0:Nat} {w0 w w':World} {s t:St}
theorem Qy {b:List Nat} {i k:Nat} (h:JX Z sb ob hb kb n L0 w0 s b i w t) (B:Main Z sb ob hb kb n L0 N0 false w0 s) (N:n <= 50) (hN:(enc s.cs).length <= 1099511627776) (L:s.m <= 137438953472) (hi:i < b.length)
  (O:k < s.cs.length) (d:k < t.cs.length) (D:b[i]=dw t.cs k) (P:tK s.tr s.rea s.cs k) (o:(t.cs[k]).lits=(s.cs[k]).lits):
  ∃ g c:Nat,(∀ j,Calls Tryz.prog 175 #[.pointer (some ⟨sb,2,none⟩),.int .i64 (b[i]:Nat)] (w.drewN j) fun e w'=>e=.returned (.slice (some ⟨g,b[i] + 3,none⟩) (s.cs[k]).lits.length (c - (b[i] + 3)))/\∃ q,w'=(w.drewN j).drewN q)/\
   ∀ j,Calls Tryz.prog 186 #[.pointer (some ⟨sb,0,none⟩),.slice (some ⟨g,b[i] + 3,none⟩) (s.cs[k]).lits.length (c - (b[i] + 3))] (w.drewN j) fun e w'=>e=.returned .nilIface/\Y7 Z sb ob hb kb n w0 s t (s.cs[k]).lits w':=by
 have C:=h.del.len;obtain ⟨ln,lt⟩:=h.lits B O;obtain ⟨_,_,l2,_⟩:=id P;have l:=eF d;rw [o] at l;obtain ⟨g,c,S,H,p,J,I,Y,y,r1,r2,G,-⟩:=fJ h.dJ.duo.dH h.x0 d;rw [o] at y;refine ⟨g,c,fun j=>?_,fun j=>?_⟩
 ·have:=iY sb 2 g (enc t.cs).length c (dw t.cs k) (s.cs[k]).lits.length (w.drewN j) H (by omega) (by unfold maxLen;omega) p y
  unfold jB at this;rw [if_neg (by omega)] at this
  rw [D];exact this
 ·have hK:=h.dJ.duo.dH.hK;have r:(t.V 12).ownBlock ≠ some g:=by
   have Q:(t.V 0).ownBlock=some g:=by rw [S];rfl
   rcases h.dJ.duo.dH.eO.apart 12 0 (by omega) (by omega) (by decide) with a | a
   ·rw [a];simp
   ·rw [Q] at a;exact a
  have R:t.f 0=.iface 105 (.pointer (some ⟨kb,0,none⟩)):=(h.ff 0 (by decide) (by decide) (by decide) (by decide) (by decide)).trans B.f0
  have z:=h.xq;refine (Pj (h.dJ.later (jS w j)) N R _ (c:=(s.cs[k]).lits) ⟨some ⟨g,b[i] + 3,none⟩,_,g,b[i] + 3,rfl,(fun e=>by cases e),fun _=>⟨rfl,J,I,r,fun q M=>?_⟩⟩ (by omega) lt (by omega)).mono ?_
  ·rw [D];have:=G q (by rw [o];exact M)
   simp only [o] at this;exact this
  ·rintro e w' ⟨rfl,U,E,W,u,x,v,T⟩;exact ⟨rfl,h.eP.trans ((dC.of_below (jS w j)).trans U),E,W,u,x,v,T⟩
theorem Dl.busy {tr:List Nat} {rea:Nat->Int} {cs cs' a:List Rec} (h:Dl tr rea cs cs') (hb:fH cs' a):Dl tr rea cs a:=⟨hb.1.trans h.1,fun k c d=>by
 have b:k < cs'.length:=by rw [h.1];exact c
 obtain ⟨j,i⟩:=hb.2 k b d;obtain ⟨g,e⟩:=h.2 k c b;exact ⟨i.trans g,by rw [j];exact e⟩⟩
theorem Qx {b:List Nat} {i:Nat} (h:JX Z sb ob hb kb n L0 w0 s b i w t) (u:(enc s.cs).length <= 1099511627776):
  Calls Tryz.prog 188 #[.pointer (some ⟨sb,2,none⟩)] w fun e w'=>e=.returned (.tuple #[])/\∃ p,JX Z sb ob hb kb n L0 w0 s b i w' p:=by
 refine (OT h.dJ.duo.dH h.x0 (by rw [h.del.len];omega)).mono ?_
 rintro e w' ⟨rfl,q,cs',a,r⟩;obtain ⟨o,m⟩:=h.dJ.gM r q rfl
 exact ⟨rfl,{ t with cs:=cs',X:=upd t.X 0 (ints (enc cs')),Rs:=(fun g=>zz t.Rs w g/\g < w'.heap.size),Rd:=(fun g=>zz t.Rd w g/\g < w'.heap.size) },{
  dJ:=o
  eP:=h.eP.trans m
  x0:=cK t.X 0 _
  x8:=(cz (k:=0) (j:=8) t.X (ints (enc cs')) (by decide)).trans h.x8
  xs:=fun j d c l=>(cz _ _ d).trans (h.xs j d c l)
  vs:=h.vs
  ff:=h.ff
  f3:=h.f3
  f4:=h.f4
  f18:=h.f18
  del:=h.del.busy a
  Xg:=fun k d c l=>h.Xg k d (by rw [<- a.1];exact c) (by
   have:=(a.2 k (by rw [<- a.1];exact c) c).1
   rw [<- this];exact l)
  lines:=h.lines
  yY:=h.yY
  uk:=by rw [a.nW];exact h.uk
  xq:=by show (dS t.ls).length + 125 * iN cs' <= _;rw [a.cnt.1];exact h.xq
  cnt:=by show t.lc=iN cs';rw [a.cnt.1];exact h.cnt
  xm:=by show t.ws=jc cs';rw [a.cnt.2];exact h.xm
  Xf:=h.Xf }⟩
theorem VA {tr:List Nat}:∀ x ∈ tr,0 < tv tr x:=fun x a=>by unfold tv;rw [if_pos a];decide
theorem Fg {l:List Nat} {N:Nat} (h:l.Nodup) (b:∀ x ∈ l,x < N):l.length <= N:=by
 have c:l ⊆ List.range N:=fun x a=>List.mem_range.2 (b x a)
 have:=h.length_le_of_subset c;simpa using this
theorem GA {E:List Nat} {i:Nat} (h:JX Z sb ob hb kb n L0 w0 s E i w t) (b:Main Z sb ob hb kb n L0 N0 false w0 s) (R:Ready s) (S:n <= 50) (G:0 < n) (hN:(enc s.cs).length <= 1099511627776):
  Calls Tryz.prog 189 #[.pointer (some ⟨sb,0,none⟩)] w fun e w'=>e=.returned (.tuple #[])/\dC Z w0 w'/\∃ p,Main Z sb ob hb kb n L0 N0 false w' p/\Ready p/\p.k=s.k/\p.m=s.m/\p.r=s.r/\p.mo=s.mo + 100/\p.ch=s.ch:=by
 have y:=h.del.len;have l:=h.del.YY;have W:mJ n t.V t.X s.wl:=b.gT.congr (h.xs 9 (by decide) (by decide) (by decide)) (fun x _=>h.vs _ (by omega) (by omega)) (fun x _=>h.xs _ (by omega) (by omega) (by omega))
 have o:∀ x,x < 2 * n->∀ a ∈ s.wl x,∃ k,∃ u:k < s.cs.length,a=dw s.cs k:=fun x q a v=>by
  obtain ⟨c,⟨g1,_⟩,_⟩:=b.pi.oM.lists x q a v;obtain ⟨k,u,e,_⟩:=dO g1;exact ⟨k,u,e⟩
 refine (Er h.dJ.duo.dH h.x0 (by omega) W rfl S G (fun x q a v=>?_) (fun x q=>?_)).mono ?_
 ·obtain ⟨k,u,e⟩:=o x q a v;exact ⟨k,by rw [h.del.1];exact u,by rw [h.del.dw k (by omega)];exact e⟩
 ·refine Nat.le_trans (Fg (b.pi.oM.nodup x q) (N:=(enc s.cs).length) fun a v=>?_) (by omega)
  obtain ⟨k,u,rfl⟩:=o x q a v;have:=eF u;omega
 ·rintro e w' ⟨rfl,U,V',M,Y,H,O⟩;obtain ⟨Q,P⟩:=h.dJ.gM Y U rfl;have C:∀ j,j ≠ 0->j ≠ 8->j ≠ 9->j ≠ 12->j < 16->M j=s.X j:=fun j D B J a4 a5=>(O j J a5).trans (h.xs j D B a4)
  have z:∀ j,j ≠ 1->j ≠ 3->j ≠ 4->j ≠ 18->j ≠ 19->t.f j=s.f j:=h.ff
  refine ⟨rfl,h.eP.trans P,{ s with cs:=t.cs,wl:=fun x=>Df.qH (mI t.cs) (s.wl x),f:=t.f,V:=V',X:=M,ls:=t.ls,L:=t.L,lc:=t.lc,ws:=t.ws,mo:=s.mo + 100,Rs:=(fun g=>zz t.Rs w g/\g < w'.heap.size),Rd:=(fun g=>zz t.Rd w g/\g < w'.heap.size),Rk:=t.Rk },{
   dJ:=Q
   pi:={
    dJ:=b.pi.dJ
    pz:=b.pi.pz.del l (h.del.keeps VA)
    mg:=b.pi.mg.del l
    oM:=b.pi.oM.del l (fun x q=>by
     show Df.qH (mI t.cs) (s.wl x)=_
     unfold Df.qH;refine List.filter_congr fun a v=>?_
     unfold mI
     cases hq:mapOf t.cs a with
     | none=>simp
     | some d=>by_cases hd:d.kind=2 <;> simp [hd]) b.pi.mg
    wK:=b.pi.wK.del l }
   x0:=(O 0 (by decide) (by decide)).trans h.x0
   gD:=b.gD.congr fun j D B=>C j (by omega) (by omega) (by omega) (by omega) (by omega)
   gT:=H
   lam:=b.lam.congr (C 6 (by decide) (by decide) (by decide) (by decide) (by decide))
   n10:=by show (M 10).length=n;rw [C 10 (by decide) (by decide) (by decide) (by decide) (by decide)];exact b.n10
   o7:=by
    obtain ⟨I,T⟩:=b.o7;exact ⟨I,T.congr (C 11 (by decide) (by decide) (by decide) (by decide) (by decide))⟩
   f0:=(z 0 (by decide) (by decide) (by decide) (by decide) (by decide)).trans b.f0
   f3:=h.f3
   f4:=h.f4
   f7:=(z 7 (by decide) (by decide) (by decide) (by decide) (by decide)).trans b.f7
   f14:=(z 14 (by decide) (by decide) (by decide) (by decide) (by decide)).trans b.f14
   f18:=h.f18
   f20:=(z 20 (by decide) (by decide) (by decide) (by decide) (by decide)).trans b.f20
   f21:=(z 21 (by decide) (by decide) (by decide) (by decide) (by decide)).trans b.f21
   Bj:=b.Bj
   late:=b.late
   sM:=b.sM
   Ag:=fun hb a c D B J=>b.Ag hb a c (l.back D B) B J
   bad:=fun e=>by cases e
   lines:=h.lines
   yY:=h.yY
   uk:=h.uk
   Ej:=h.del.given b.Ej
   num:=by show (enc t.cs).length <= _;rw [y];exact b.num
   xq:=h.xq
   cnt:=h.cnt
   xm:=h.xm
   gN:=b.gN
   lcm:=Nat.le_trans h.Xf b.lcm
   km:=b.km
   n30:=b.n30 },R,rfl,rfl,rfl,rfl,rfl⟩
end
section
variable {Z:Nat->Prop} {sb ob hb kb n:Nat} {L0:List Cl} {N0:Nat} {w0 w w':World} {s t:St}
def zX (Z:Nat->Prop) (sb ob hb kb n:Nat) (L0:List Cl) (N0:Nat):Prop:=
 ∀ w s,Main Z sb ob hb kb n L0 N0 false w s->Ready s->0 < s.ws->(enc s.cs).length <= 1099511627776->Calls Tryz.prog 190 #[.pointer (some ⟨sb,0,none⟩)] w fun e w'=>e=.returned (.tuple #[])/\dC Z w w'/\∃ s',Main Z sb ob hb kb n L0 N0 false w' s'/\Ready s'/\s'.k=s.k/\s'.m=s.m/\s'.r=s.r/\s'.mo=s.mo/\s'.ch=s.ch
def WX (Z:Nat->Prop) (sb ob hb kb n:Nat) (L0:List Cl) (N0:Nat) (w:World) (s:St) (w':World):Prop:=
 dC Z w w'/\∃ s',Main Z sb ob hb kb n L0 N0 false w' s'/\Ready s'/\s'.k=s.k/\s'.m=s.m/\s'.r=s.r/\s'.mo=s.mo + 100/\s'.ch=s.ch
def Half (Z:Nat->Prop) (sb ob hb kb n:Nat) (L0:List Cl) (w0:World) (s:St) (ids:List Nat) (v:Value) (i:Nat) (w:World):Prop:=∃ t,JX Z sb ob hb kb n L0 w0 s ids i w t/\t.f 19=v
theorem Half.later {a:List Nat} {v:Value} {i:Nat} (h:Half Z sb ob hb kb n L0 w0 s a v i w) (b:Below w.heap.size w w'):Half Z sb ob hb kb n L0 w0 s a v i w':=by
 obtain ⟨t,h,e⟩:=h;exact ⟨t,h.later b,e⟩
theorem Half.idle {a:List Nat} {v:Value} {i:Nat} (h:Half Z sb ob hb kb n L0 w0 s a v i w):w.cell? ⟨sb,19,none⟩=some v/\((v=.slice none 0 0/\a.length=0)\/∃ g c,v=.slice (some ⟨g,0,none⟩) a.length c/\a.length <= c):=by
 obtain ⟨t,h,e⟩:=h;have p:=h.dJ.duo.dH.hK;have hd:=(h.dJ.duo.dH.hd (k:=8) (by omega)).1
 have d:=h.dJ.duo.dH.hdr 8 (by omega)
 rw [show cellOf 8=19 from rfl] at hd d
 rw [<- d,e] at hd;have o:=h.dJ.duo.dH.eO.own 8 (by omega)
 rw [h.x8,df,<- d,e] at o;refine ⟨hd,?_⟩
 rcases o.2 with ⟨e,b⟩ | ⟨g,c,l,e,_,m,j,u,r,q⟩
 ·exact .inl ⟨e,b⟩
 ·exact .inr ⟨g,c,e,j⟩
theorem Half.at {a:List Nat} {g c i:Nat} (h:Half Z sb ob hb kb n L0 w0 s a (.slice (some ⟨g,0,none⟩) a.length c) i w):∀ j (b:j < a.length),w.cell? ⟨g,j,none⟩=some (.int .i64 (a[j]:Nat)):=fun j b=>by
 obtain ⟨t,h,e⟩:=h;have k:=h.dJ.duo.dH.hK;have d:=h.dJ.duo.dH.hdr 8 (by omega)
 rw [show cellOf 8=19 from rfl] at d
 have o:=h.dJ.duo.dH.eO.own 8 (by omega)
 rw [h.x8,df,<- d,e] at o;have:=o.cells (g:=g) rfl j (.int .i64 (a[j]:Nat)) (by rw [iK a j b])
 simpa [Addr.add_lit] using this
theorem Gs (h:Main Z sb ob hb kb n L0 N0 false w s) (i:n <= 50) (p:(enc s.cs).length <= 1099511627776):
  Calls Tryz.prog 185 #[.pointer (some ⟨sb,0,none⟩)] (w.setCell ⟨sb,18,none⟩ (.int .i64 ((s.mo + 100:Nat):Int))) fun e w'=>e=.returned (.tuple #[])/\∃ a v,Ij s.tr s.rea s.cs s.cs.length a/\Half Z sb ob hb kb n L0 w s a v 0 w':=by
 have o:=h.dJ.duo.dH.scalar 18 (.int .i64 ((s.mo + 100:Nat):Int)) (fun k b=>by
  match k,b with
  | 0,_=>decide
  | 1,_=>decide
  | 2,_=>decide
  | 3,_=>decide
  | 4,_=>decide
  | 5,_=>decide
  | 6,_=>decide
  | 7,_=>decide
  | 8,_=>decide
  | 9,_=>decide
  | 10,_=>decide
  | 11,_=>decide
  | 12,_=>decide)
 refine (DT (n:=n) o h.x0 h.gD i (fun c j x d=>?_) (by omega)).mono ?_
 ·obtain ⟨k,b,rfl⟩:=List.mem_iff_getElem.1 j;exact h.pi.mg.lt _ _ (dP b) x d
 ·rintro e w' ⟨rfl,a,m,l⟩;obtain ⟨t,g⟩:=Nl h l;exact ⟨rfl,a,_,m,t,g,rfl⟩
theorem Jn {d:List Nat} {v:Value} {i:Nat} (D:Main Z sb ob hb kb n L0 N0 false w0 s) (C:n <= 50) (I:(enc s.cs).length <= 1099511627776) (o:s.m <= 137438953472) (R:Ij s.tr s.rea s.cs s.cs.length d) (h:Half Z sb ob hb kb n L0 w0 s d v i w) (hi:i < d.length):
  ∃ (u:Value) (P:World->Prop),(∃ a b c,u=.slice a b c)/\(∀ Y,(∃ j,Y=w.drewN j)->Calls Tryz.prog 175 #[.pointer (some ⟨sb,2,none⟩),.int .i64 (d[i]:Nat)] Y fun e w'=>e=.returned u/\∃ j,w'=w.drewN j)/\
   (∀ Y,(∃ j,Y=w.drewN j)->Calls Tryz.prog 186 #[.pointer (some ⟨sb,0,none⟩),u] Y fun e w'=>e=.returned .nilIface/\P w')/\
   (∀ Y,P Y->∀ j,P (Y.drewN j))/\
   ∀ Y,P Y->Calls Tryz.prog 187 #[.pointer (some ⟨sb,2,none⟩),.int .i64 (d[i]:Nat)] Y fun e w'=>e=.returned (.tuple #[])/\Half Z sb ob hb kb n L0 w0 s d v (i + 1) w':=by
 obtain ⟨t,h,e⟩:=h;obtain ⟨k,G,l,S,J,H,p,E⟩:=h.next R hi;obtain ⟨g,c,O,N⟩:=Qy h D C I o hi G l J H E;refine ⟨.slice (some ⟨g,d[i] + 3,none⟩) (s.cs[k]).lits.length (c - (d[i] + 3)),Y7 Z sb ob hb kb n w0 s t (s.cs[k]).lits,⟨_,_,_,rfl⟩,fun Y ⟨j,hY⟩=>?_,fun Y ⟨j,hY⟩=>?_,fun Y r j=>?_,fun Y r=>?_⟩
 ·subst hY;exact (O j).mono fun e w' ⟨a,q,b⟩=>⟨a,j + q,by rw [b,World.drewN_drewN]⟩
 ·subst hY;exact N j
 ·obtain ⟨U,L,W,y,B,z,T⟩:=r;exact ⟨U.trans (dC.of_below (jS Y j)),L,W,y,B,z,T.later (jS Y j)⟩
 ·refine (Jt h D C I (by omega) hi G l S J H p E r).mono ?_
  rintro e' w' ⟨rfl,M,Q,x⟩;exact ⟨rfl,M,Q,x.trans e⟩
theorem Ct:∀ cs:List Rec,jc cs <= (enc cs).length
 | []=>lr
 | c :: r=>by
  have b:=Ct r;have e:(enc (c :: r)).length=(3 + c.lits.length) + (enc r).length:=by simp [enc,fZ]
  have a:jc (c :: r)=(if c.kind=2 then 3 + c.lits.length else 0) + jc r:=by unfold jc;rw [List.map_cons,List.sum_cons]
  rw [e,a];split <;> omega
theorem Gr (SH:zX Z sb ob hb kb n L0 N0) (h:Main Z sb ob hb kb n L0 N0 false w s) (hr:Ready s) (hn:n <= 50) (Y:0 < n) (ac:N0 + 33 * s.m <= 1099511627776) (U:s.m <= 137438953472) (ag:s.mo <= 4611686018427387904) (ab:s.mo < s.lc):
  Calls Tryz.prog 145 #[.pointer (some ⟨sb,0,none⟩)] w fun e w'=>e=.returned .nilIface/\WX Z sb ob hb kb n L0 N0 w s w':=by
 have O:(enc s.cs).length <= 1099511627776:=Nat.le_trans h.num ac;have c3:=(h.dJ.duo.dH.head 3 (by omega)).1
 have J:=(h.dJ.duo.dH.head 18 (by omega)).1
 rw [h.f3] at c3;rw [h.f18] at J;have HM:=hide h;have HR:=hide hr;have ae:=hide SH;have le:¬ (s.lc:Int) <= (s.mo:Int):=by omega
 clear h hr SH;go_enter Tryz.func145,Tryz.ntmps145
 go_upto_region 1 with fail
 go_quiet (fail)
 have l:=hide (HM.out.later (jS w nq));have HW:=hide (jS w nq);have R:=(l.out.dJ.duo.dH.head 18 (by omega)).2
 have r:=(l.out.dJ.duo.dH.head 18 (by omega)).1
 rw [l.out.f18] at r;clear c3 J HM;generalize w.drewN nq=w1 at *
 have Q1:=hide (Gs l.out hn O);obtain ⟨M,hM⟩:∃ M,M=s.mo + 100:=⟨_,rfl⟩;have I:(s.mo:Int) + 100=(M:Int):=by omega
 rw [<- hM] at Q1;clear hM;go_upto_region 5 with (go_at_call 185;(with_reducible refine Q1.out.mono ?_);rintro e2 w2 ⟨rfl,d,v,hI,hh⟩;have HI:=hide hI;have Q:=hide hh;clear hI hh Q1;simp only [])
 clear R r I;go_cut [35,36,37] from 16 to 37 (fun a b c S=>∃ (av:Option Addr) (cp:Nat),a=.slice av (d.length / 2) cp/\b=.int .i64 ((d.length / 2:Nat):Int)/\c=.int .i64 0/\(0 < d.length / 2->∃ g c,av=some ⟨g,0,none⟩/\v=.slice (some ⟨g,0,none⟩) d.length c)/\Half Z sb ob hb kb n L0 w1 s d v 0 S)
 case first=>
  obtain ⟨am,hv⟩:=Q.out.idle;have e2:((d.length:Nat):Int) / 2=((d.length / 2:Nat):Int):=by omega
  rcases hv with ⟨rfl,E⟩ | ⟨g,c,rfl,ab⟩
  ·go_quiet (fail)
   have F:=hide (Q.out.later (jS w2 nq));go_wp2;go_meet;exact ⟨none,0,by rw [E],by rw [E];rfl,rfl,fun W=>by omega,F.out⟩
  ·obtain ⟨N,j⟩:∃ N,N=d.length / 2:=⟨_,rfl⟩;rw [<- j] at e2;have ai:(N:Int) <= (c:Int):=by omega
   have y:(d.length:Int) <= 1099511627776:=by
    have:=HI.out.len lr;omega
   have q:=hide j;clear j;go_quiet (fail)
   have F:=hide (Q.out.later (jS w2 nq));go_wp2;go_meet;exact ⟨some ⟨g,0,none⟩,c,by rw [<- q.out],by rw [<- q.out],rfl,fun _=>⟨g,c,rfl,rfl⟩,F.out⟩
 case rest=>
  obtain ⟨av,cp,rfl,rfl,rfl,G,H⟩:=hcut;have z:=hide G;have H0:=hide H;clear G H Q;obtain ⟨N,j⟩:∃ N,N=d.length / 2:=⟨_,rfl⟩;have ak:N <= d.length:=by omega
  have al:N <= 1099511627776:=by
   have:=HI.out.len lr;omega
  rw [<- j] at z ⊢;have q:=hide j;clear j;go_wp2;go_loopw [37] (fun C wr=>∃ i:Nat,C=.int .i64 ((i:Nat):Int)/\i <= N/\Hid (Half Z sb ob hb kb n L0 w1 s d v i wr)) (fun C _=>N - (intOf C).toNat)
  case atStart=>exact ⟨0,rfl,zl,H0⟩
  case round=>
   clear H0;obtain ⟨i,rfl,aj,o⟩:=hrel;by_cases ah:i < N
   ·have aa:(i:Int) < (N:Int):=by omega
    obtain ⟨g,c,rfl,rfl⟩:=z.out (by omega)
    have y:i < d.length:=by omega
    have ci:=o.out.at i y;obtain ⟨u,P,⟨ua,ub,uc,rfl⟩,q1,q2,q3,q4⟩:=Jn l.out hn O U HI.out o.out y;have QL:=hide q1;have QP:=hide q2;have QW:=hide q3;have QD:=hide q4;clear q1 q2 q3 q4 o;generalize d[i]=x at *
    go_upto_region 8 with fail
    go_cut [5,37] from 37 to 58 (fun ev C S=>ev=.nilIface/\C=.int .i64 ((i:Nat):Int)/\P S)
    case first=>
     go_region_with (first
      |(go_at_call 175;refine (QL.out _ (by first | exact ⟨0,rfl⟩ | exact ⟨1,rfl⟩)).mono ?_;rintro e3 w3 ⟨rfl,j3,rfl⟩;simp only [])
      |(go_at_call 186;refine (QP.out _ ⟨_,rfl⟩).mono ?_;rintro e4 w4 ⟨rfl,D⟩;have P4:=hide D;clear D;simp only []))
     all_goals
      go_wp2_with fail
      go_meet
      exact ⟨rfl,rfl,(by first | exact P4.out | exact QW.out _ P4.out 1)⟩
    case rest=>
     obtain ⟨rfl,rfl,W⟩:=hcut;have L:=hide (QD.out _ W);clear QD QL QP QW W;go_wp2_with (go_at_call 187;(with_reducible refine L.out.mono ?_);rintro e5 w5 ⟨rfl,h5⟩;have H5:=hide h5;clear h5 L;simp only [])
     go_roundw
     case rel=>exact ⟨i + 1,by go_num,by omega,H5⟩
     case measure=>simp [intOf];omega
   ·have aa:¬ (i:Int) < (N:Int):=by omega
    obtain ⟨t,ht,_⟩:=o.out;have QR:=hide (Qx ht O);clear o ht z q;go_upto_region 14 with (go_at_call 188;(with_reducible refine QR.out.mono ?_);rintro e6 w6 ⟨rfl,t6,h6⟩;have H6:=hide h6;clear h6 QR;simp only [])
    have QU:=hide (GA H6.out l.out HR.out hn Y O);clear H6;go_upto_region 15 with (go_at_call 189;(with_reducible refine QU.out.mono ?_);rintro e7 T ⟨rfl,c7,B,m7,r7,k7⟩;have C7:=hide c7;have p:=hide m7;have R7:=hide r7;have K7:=hide k7;clear c7 m7 r7 k7 QU;simp only [])
    have d4:=(p.out.dJ.duo.dH.head 4 (by omega)).1
    rw [p.out.f4] at d4;obtain ⟨a0,c0,e0⟩:=p.out.dJ.duo.dH.eO.shape (k:=0) (by omega)
    have d2:=(p.out.dJ.duo.dH.hd (k:=0) (by omega)).1
    rw [show cellOf 0=2 from rfl,e0,p.out.x0,fV] at d2
    have ad:(enc B.cs).length <= 1099511627776:=by
     have:=p.out.num;rw [K7.out.2.1] at this;omega
    have af:B.ws <= 4611686018427387904:=by
     rw [p.out.xm];exact Nat.le_trans (Ct _) (by omega)
    clear e0;go_quiet (fail)
    have M8:=hide (p.out.later (jS T nq));have C8:=hide (((dC.of_below HW.out).trans C7.out).trans (dC.of_below (Z:=Z) (jS T nq)));clear p C7 d4 d2;generalize T.drewN nq=w8 at *
    have QS:=hide (fun hq=>ae.out w8 B M8.out R7.out hq ad)
    generalize (enc B.cs).length=N7 at *
    by_cases hw:(N7:Int) / 2 < (B.ws:Int)
    ·clear M8;go_wp2_with (go_at_call 190;(with_reducible refine (QS.out (by omega)).mono ?_);rintro e9 w9 ⟨rfl,c9,s9,m9,r9,k9⟩;have C9:=hide c9;have M9:=hide (And.intro m9 (And.intro r9 k9));clear c9 m9 r9 k9 QS;simp only [])
     go_ret
     obtain ⟨a1,a2,a3,a4,a5,a6,a7⟩:=M9.out;obtain ⟨b1,b2,b3,b4,b5⟩:=K7.out;exact ⟨rfl,C8.out.trans C9.out,s9,a1,a2,a3.trans b1,a4.trans b2,a5.trans b3,a6.trans b4,a7.trans b5⟩
    ·clear QS;go_wp2;go_ret;exact ⟨rfl,C8.out,B,M8.out,R7.out,K7.out⟩
theorem Jo (r:zX Z sb ob hb kb n L0 N0) (g:n <= 50) (a:0 < n):u7 Z sb ob hb kb n L0 N0 (fun s=>N0 + 33 * s.m <= 1099511627776/\s.m <= 137438953472/\s.mo <= 4611686018427387904):=fun w s h hr ⟨q1,q2,q3⟩=>by
 by_cases c:s.lc <= s.mo
 ·exact DL w s h hr ⟨c,q3⟩
 ·refine (Gr r h hr g a q1 q2 q3 (by omega)).mono ?_
  rintro e w' ⟨rfl,i,d,q,p,o,l,k,u,j⟩;exact ⟨rfl,i,d,q,p,o,l,k,fun b=>absurd b c,by omega,j⟩
end
section
variable {Z:Nat->Prop} {sb K n:Nat} {w w':World} {f V:Nat->Value} {X:Nat->List Value} {cs jI:List Rec}
theorem dQ.keep {G:Nat} (h:dQ Z sb w K f V X) (d:dC (fun k=>k=G) w w') (i:G ≠ sb) (c:∀ k,k < K->(V k).ownBlock ≠ some G):dQ Z sb w' K f V X:=by
 have keep:∀ k,k < w.heap.size->k ≠ G->w'.heap[k]? = w.heap[k]? := fun k a e=>d.block k a e
 refine ⟨h.row.of_block (keep sb h.row.lt (Ne.symm i)),⟨fun k a=>?_,h.eO.apart⟩,h.hdr,h.jg,h.al,fun k a=>h.az k (Nat.le_trans d.size a),h.hK⟩
 exact ownB (h.eO.own k a) fun g b=>keep g ((h.eO.own k a).lt g b).2 fun e=>c k a (by rw [b,e])
theorem dQ.Wn {v':Value} {g:Nat} (h:dQ Z sb w K f V X) (hb:Below w.heap.size w w') (x:w'.ownsRow 0 (kP 0) 1 v' 0 []) (o:v'.ownBlock=some g) (y:w.heap.size <= g):dQ Z sb (w'.setCell ⟨sb,2,none⟩ v') K (upd f 2 v') (upd V 0 v') (upd X 0 []):=by
 have A:=h.hK;have c:=h.later hb;have l:rU 0 w' K kP (upd V 0 v') (upd X 0 []):={
  own:=fun k m=>by
   by_cases e:k=0
   ·subst e;rw [cK,cK];exact x
   ·rw [cz _ _ e,cz _ _ e];exact c.eO.own k m
  apart:=fun k p m d b=>by
   have far:∀ j,j < K->(V j).ownBlock ≠ some g:=fun j z e=>by
    have:=((h.eO.own j z).lt g e).2;omega
   by_cases e:k=0
   ·subst e;rw [cK,cz _ _ (Ne.symm b),o];exact .inr (Ne.symm (far p d))
   ·rw [cz _ _ e];by_cases u:p=0
    ·subst u;rw [cK,o];exact .inr (far k m)
    ·rw [cz _ _ u];exact c.eO.apart k p m d b }
 have v:=h.row.lt;refine c.header (k:=0) (by omega) c.row l rfl (fun i q r a=>?_) lr (fun i q r a=>?_)
 ·by_cases e:i=0
  ·subst e;rw [cK,o] at a;have:=Option.some.inj a;omega
  ·rw [cz _ _ e] at a;exact c.far q r a
 ·by_cases e:i=0
  ·subst e;rw [cK,o] at a;rw [<- Option.some.inj a];exact h.az g y
  ·rw [cz _ _ e] at a;exact h.al i q r a
def kS (cs:List Rec) (k:Nat):List Rec:=(cs.take k).filter fun c=>!decide (c.kind=2)
theorem PN:kS cs 0=[]:=rfl
theorem Fu {k:Nat} (a:k < cs.length) (hd:(cs[k]).kind=2):kS cs (k + 1)=kS cs k:=by
 unfold kS;rw [List.take_succ_eq_append_getElem a,List.filter_append];simp [hd]
theorem yT {k:Nat} (a:k < cs.length) (hd:(cs[k]).kind ≠ 2):kS cs (k + 1)=kS cs k ++ [cs[k]]:=by
 unfold kS;rw [List.take_succ_eq_append_getElem a,List.filter_append];simp [hd]
theorem zu (a:List Rec) (c:Rec):enc (a ++ [c])=enc a ++ enc1 c:=by rw [gz];simp [enc]
theorem Dv:∀ k,k <= cs.length->(enc (kS cs k)).length <= dw cs k
 | 0,_=>by rw [PN,jP];exact lr
 | k + 1,hk=>by
  have b:=Dv k (by omega)
  have a:k < cs.length:=by omega
  rw [gG a];by_cases hd:(cs[k]).kind=2
  ·rw [Fu a hd];omega
  ·rw [yT a hd,zu,List.length_append,fZ];omega
structure zY (Z:Nat->Prop) (sb:Nat) (w:World) (K:Nat) (f V:Nat->Value) (X:Nat->List Value) (cs:List Rec) (G C OB:Nat) (k:Nat) (jI:List Rec) (v0:Value) (wr:World):Prop where
 dH:dQ Z sb wr K (upd (upd f 2 v0) 4 (.int .i64 0)) (upd V 0 v0) (upd X 0 (ints (enc (kS cs k))))
 eP:dC Z w wr
 Rq:fH cs jI
 Wp:∀ i (h:i < jI.length) (h':i < cs.length),i < k->(cs[i]).kind ≠ 2->(jI[i]).busy=(((enc (kS cs i)).length:Nat):Int)
 not:∀ i (h:i < jI.length) (h':i < cs.length),k <= i->(jI[i]).busy=(cs[i]).busy
 box:wr.cell? ⟨OB,0,none⟩=some (.slice (some ⟨G,0,none⟩) (enc cs).length C)
 old:wr.ownsRow 0 3 1 (.slice (some ⟨G,0,none⟩) (enc cs).length C) (enc cs).length (ints (enc jI))
 gs:G ≠ sb
 os:OB ≠ sb
 go:OB ≠ G
 zg:Z G
 ng:∀ j,j < K->(upd V 0 v0 j).ownBlock ≠ some G
 no:∀ j,j < K->(upd V 0 v0 j).ownBlock ≠ some OB
end
end
end So
end Go.Proofs.YtceahffmenbibaaGreatDoor
