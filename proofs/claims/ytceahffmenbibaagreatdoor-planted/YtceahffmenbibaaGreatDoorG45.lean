/- Sfiw Sunw Sfgd Sfge. -/
import Derived.Test.YtceahffmenbibaaGreatDoorG44
import Derived.Test.YtceahffmenbibaaGreatDoorG32
import Derived.Test.YtceahffmenbibaaGreatDoorG10
import Derived.Test.YtceahffmenbibaaGreatDoorG35
set_option linter.unusedVariables false
set_option linter.unusedSimpArgs false
set_option maxHeartbeats 4000000
set_option maxRecDepth 100000
namespace Go.Proofs.YtceahffmenbibaaGreatDoor
namespace So
section
open Go Go.RowKit Go.Deep Rd
variable {Z:Nat->Prop} {sb K n:Nat} {w:World} {f V:Nat->Value} {X:Nat->List Value} {cs:List Rec} {tr ch:List Nat} {lev:Nat->Nat} {rea:Nat->Int}
theorem H8 {k:Nat} {Y:World} {f1 V1:Nat->Value} {X1:Nat->List Value} (hk:k < cs.length) (hN:(enc cs).length <= 1099511627776) (h:aQ Z sb Y K f1 V1 X1) (h0:X1 0=ints (enc cs)):
  Calls Tryz.prog 213 #[.pointer (some ⟨sb,2,none⟩),.int .i64 (aj cs k:Nat)] Y fun e w'=>e=.returned (.int .i64 ((aj cs (k + 1):Nat):Int))/\w'=Y:=by
 obtain ⟨g,c,e0,q0,Ef,lg,ng,zg,r0,-,-,-,-⟩:=bV h h0 hk;have hend:=bA hk;have:=mV sb 2 g _ c (aj cs k) (cs[k]).lits.length Y q0 (by omega) (by unfold maxLen;omega) r0
 rw [show aj cs k + 3 + (cs[k]).lits.length=aj cs (k + 1) by rw [dz hk];omega] at this
 exact this
theorem gN (w:World) (j:Nat):Below w.heap.size w (w.drewN j):=⟨rfl,rfl,rfl,Nat.le_refl _,fun _ _=>rfl⟩
theorem OE (h:aQ Z sb w K f V X) {a:Option Addr} {c:Nat} (e8:V 8=.slice a (X 8).length c):Rm Z sb w K f V X [] (w.setCell ⟨sb,19,none⟩ (.slice a 0 c)):=
 ⟨(aC.refl w).setCell h.fZ _,_,by
  have:=h.cut (k:=8) (m:=0) (by omega) e8 (Nat.zero_le _)
  rw [show cellOf 8=19 from rfl,List.take_zero] at this
  exact this⟩
theorem Bt (h:aQ Z sb w K f V X) (h0:X 0=ints (enc cs)) (hT:iW n X tr ch lev rea) (hn:n <= 50) (wV:∀ c ∈ cs,∀ x ∈ c.lits,x < 2 * n) (hN:(enc cs).length <= 1099511627776):
  Calls Tryz.prog 185 #[.pointer (some ⟨sb,0,none⟩)] w fun e w'=>Qz Z sb w K f V X tr rea cs e w':=by
 have hK:=h.hK;obtain ⟨i0,hi,hz0,hz1,hz2⟩:=info_parts Tryz.cu;have HL:=hide wV;have HT:=hide hT;have H0:=hide h0;clear wV hT h0;obtain ⟨a8,c8,e8⟩:=h.bC.shape (k:=8) (by omega)
 have d8:=(h.hd (k:=8) (by omega))
 rw [show cellOf 8=19 from rfl,e8] at d8
 obtain ⟨d8,z8⟩:=d8;have S0:=hide (OE h e8);have HA:Hid (a8=none->(X 8).length=0/\c8=0):=fun e=>by
  have o:=h.bC.own 8 (by omega)
  rw [e8,e] at o
  rcases o.2 with ⟨e1,_⟩ | ⟨g,c,cur,e1,_⟩
  ·obtain ⟨_,q2,q3⟩:=Value.slice.inj e1;exact ⟨q2,q3⟩
  ·cases e1
 clear h e8;go_enter Tryz.func185,Tryz.ntmps185
 go_upto_region 0 with fail
 go_cut [] from 3 to 10 (fun wx=>Rm Z sb w K f V X [] wx)
 case first=>
  cases a8 with
  | none=>
   obtain ⟨q1,rfl⟩:=HA.out rfl;rw [q1] at d8;go_wp2;go_meet;exact S0.out
  | some p=>
   go_wp2;go_meet
   exact S0.out
 case rest=>
  clear S0 d8 z8 HA;have C0:=hide hcut;clear hcut;go_wp2;go_loopw [2] (fun s2 wr=>XK Z sb w K f V X tr rea cs s2 wr) (fun s2 _=>(enc cs).length - (intOf s2).toNat)
  case atStart=>exact ⟨0,[],by rw [gK];rfl,Nat.zero_le _,⟨List.nodup_nil,fun a ha=>by cases ha⟩,C0.out⟩
  case round=>
   clear C0;obtain ⟨k,ids,rfl,hkl,hst⟩:=hrel;by_cases hlt:k < cs.length
   ·obtain ⟨v,hS⟩:=hst.out.2.2;have hX0:(upd X 8 (au ids)) 0=ints (enc cs):=by rw [aa _ _ (by decide)];exact H0.out
    have hTM:iW n (upd X 8 (au ids)) tr ch lev rea:=HT.out.congr fun k h1 h2=>aa _ _ (by omega)
    obtain ⟨g,c,e0,q0,Ef,lg,ng,zg,r0,r1,r2,r3,-⟩:=bV hS hX0 hlt;have hend:=bA hlt;have yP:Hid (aj cs k < aj cs (k + 1)/\aj cs (k + 1) <= (enc cs).length):=by
     unfold Hid;rw [dz hlt];omega
    have QK:Hid (∀ j,Calls Tryz.prog 219 #[.pointer (some ⟨sb,2,none⟩),.int .i64 (aj cs k:Nat)] (wr.drewN j) fun e w'=>e=.returned (.int .i64 ((cs[k]).kind:Nat))/\w'=wr.drewN j):=fun j=>wP sb 2 g (enc cs).length c (aj cs k) _ (wr.drewN j) q0 (by omega) (by unfold maxLen;omega) r1
    have QZ:Hid (∀ j,Calls Tryz.prog 220 #[.pointer (some ⟨sb,2,none⟩),.int .i64 (aj cs k:Nat)] (wr.drewN j) fun e w'=>e=.returned (.int .i64 ((cs[k]).lits.length:Nat))/\w'=wr.drewN j):=fun j=>gZ sb 2 g (enc cs).length c (aj cs k) _ (wr.drewN j) q0 (by omega) (by unfold maxLen;omega) r0
    have QL:Hid (∀ j,0 < (cs[k]).lits.length->Calls Tryz.prog 175 #[.pointer (some ⟨sb,2,none⟩),.int .i64 (aj cs k:Nat)] (wr.drewN j) fun e w'=>e=.returned (.slice (some ⟨g,aj cs k + 3,none⟩) (cs[k]).lits.length (c - (aj cs k + 3)))/\∃ i,w'=(wr.drewN j).drewN i):=fun j hp=>by
     have:=fu sb 2 g (enc cs).length c (aj cs k) (cs[k]).lits.length (wr.drewN j) q0 (by omega) (by unfold maxLen;omega) Ef r0
     unfold fV at this;rw [if_neg (by omega)] at this
     exact this
    have QR:Hid (∀ j x,x < 2 * n->Calls Tryz.prog 221 #[.pointer (some ⟨sb,6,none⟩),.int .i64 (aj cs k:Nat),.int .i64 (x:Nat)] (wr.drewN j) fun e w'=>e=.returned (.bool (decide (0 < tv tr x) && (rea (x / 2) == ((aj cs k:Nat):Int))))/\∃ i,w'=(wr.drewN j).drewN i):=fun j x hx=>Bi _ (hS.later (gN wr j)) hTM hx hn
    have LT:=hide (HL.out _ (List.getElem_mem hlt));have R3:=hide r3;have a0:(0:Int) <= (aj cs k:Int):=by omega
    have a3:(aj cs k:Int) < ((enc cs).length:Int):=by omega
    have HD:Hid (∀ hk:k < cs.length,(cs[k]).kind=1->2 < (cs[k]).lits.length->(∀ x,(cs[k]).lits[0]? = some x->¬ (0 < tv tr x/\rea (x / 2)=((aj cs k:Nat):Int)))->qd tr rea cs k):=fun hk h1 h2 h3=>⟨hk,h1,h2,h3⟩
    have QB:Hid (∀ Y f1 V1 X1,aQ Z sb Y K f1 V1 X1->X1 0=ints (enc cs)->Calls Tryz.prog 213 #[.pointer (some ⟨sb,2,none⟩),.int .i64 (aj cs k:Nat)] Y fun e w'=>e=.returned (.int .i64 ((aj cs (k + 1):Nat):Int))/\w'=Y):=fun Y f1 V1 X1 h1 h2=>H8 hlt hN h1 h2
    clear e0 lg ng zg r0 r1 r2 r3 hS hX0 hTM;go_upto_region 4 with fail
    go_cut [52] from 11 to 62 (fun v wx=>FidAt tr rea cs k wr v wx)
    case first=>
     clear QB;by_cases h1:(cs[k]).kind=1
     ·by_cases h2:2 < (cs[k]).lits.length
      ·obtain ⟨x,hx⟩:∃ x,x=(cs[k]).lits[0]'(by omega):=⟨_,rfl⟩
       have hx2:x < 2 * n:=by rw [hx];exact LT.out _ (List.getElem_mem _)
       have r4:=R3.out 0 (by omega)
       rw [<- hx] at r4;have HI:Hid ((decide (0 < tv tr x) && (rea (x / 2) == ((aj cs k:Nat):Int)))=false->qd tr rea cs k):=fun hf=>HD.out hlt h1 h2 fun y hy=>by
        rw [List.getElem?_eq_getElem (by omega),<- hx] at hy
        cases hy
        intro ⟨g1,g2⟩;simp [g1,g2] at hf
       have QR1:=hide (fun j=>QR.out j x hx2)
       have QL1:=hide (fun j=>QL.out j (by omega))
       have hk1:(((cs[k]).kind:Int) == 1)=true:=by simp;omega
       have hm1:decide ((2:Int) < ((cs[k]).lits.length:Int))=true:=by simp;omega
       have hm2:(0:Int) < ((cs[k]).lits.length:Int):=by omega
       clear LT R3 HD QR QL hx h1 h2 yP;generalize (decide (0 < tv tr x) && (rea (x / 2) == ((aj cs k:Nat):Int)))=b at *
       generalize (cs[k]).kind=kd at *
       generalize (cs[k]).lits.length=m at *
       rw [Nat.add_zero] at r4;go_quiet ((first
        |(go_at_call 219;exact Calls.quiet_of_same (QK.out _))
        |(go_at_call 220;exact Calls.quiet_of_same (QZ.out _))
        |(go_at_call 175;exact Calls.quiet_of (QL1.out _))
        |(go_at_call 221;exact Calls.quiet_of (QR1.out _))))
       go_wp2;go_meet
       exact ⟨!b,rfl,fun hb=>HI.out (by simpa using hb),nq,rfl⟩
      ·have hk1:(((cs[k]).kind:Int) == 1)=true:=by simp;omega
       have hm1:decide ((2:Int) < ((cs[k]).lits.length:Int))=false:=by simp;omega
       clear LT R3 HD QR QL yP h1 h2;generalize (cs[k]).kind=kd at *
       generalize (cs[k]).lits.length=m at *
       go_quiet ((first
        |(go_at_call 219;exact Calls.quiet_of_same (QK.out _))
        |(go_at_call 220;exact Calls.quiet_of_same (QZ.out _))))
       go_wp2;go_meet
       exact ⟨false,rfl,fun h=>(by cases h),nq,rfl⟩
     ·have hk1:(((cs[k]).kind:Int) == 1)=false:=by simp;omega
      clear LT R3 HD QR QL QZ yP h1;generalize (cs[k]).kind=kd at *
      go_quiet (((go_at_call 219;exact Calls.quiet_of_same (QK.out _))))
      go_wp2;go_meet
      exact ⟨false,rfl,fun h=>(by cases h),nq,rfl⟩
    case rest=>
     obtain ⟨b,rfl,hb,j,rfl⟩:=hcut;clear QK QZ QL QR LT R3 HD q0;have ST:=hide (And.intro hst.out.1 (hst.out.2.later (gN wr j)));clear hst;generalize wr.drewN j=W1 at *
     obtain ⟨v1,hS1⟩:=ST.out.2.2;have Vp:=hide hS1;cases b
     ·clear hb;have QB1:=hide (QB.out _ _ _ _ hS1 (by rw [aa _ _ (by decide)];exact H0.out))
      clear QB hS1;go_wp2_with (go_at_call 213;(with_reducible refine QB1.out.mono ?_);rintro e7 w7 ⟨rfl,rfl⟩;simp only [])
      go_roundw
      case rel=>exact ⟨k + 1,ids,rfl,hlt,ST.out.1.none,ST.out.2⟩
      case measure=>have:=yP.out;simp [intOf];omega
     ·have HI:=hide (hb rfl);clear hb;have d8:=(hS1.hd (k:=8) (by omega))
      rw [show cellOf 8=19 from rfl,ae] at d8
      have O8:Hid (W1.ownsRow 0 3 1 v1 ids.length (au ids)):=by
       have o:=hS1.bC.own 8 (by omega)
       rw [ae,ae,ag] at o;exact o
      obtain ⟨va,vc,hv⟩:=aH O8.out;subst hv;obtain ⟨d8,z8⟩:=d8;have hsb:=hS1.row.lt;have ns:¬ (sb=W1.heap.size):=by omega
      have hil:=ST.out.1.len (Nat.le_of_lt hlt);clear hS1;go_upto_region 3 with (at_builtin;refine aU _ rfl _ _ 43 rfl 0 3 i0 (.int .i64 0) 1 8 Tryz.underlying43 hi hz0 hz1 hz2 rfl (by decide) _ _ _ rfl (O8.out.alloc (Obj.cells #[.int .i64 (aj cs k:Int)] 3)) (.slice (some ⟨W1.heap.size,0,none⟩) 1 1) 1 [.int .i64 (aj cs k:Int)] rfl (.inr ⟨⟨W1.heap.size,0,none⟩,1,rfl,(cell_one_new W1 _ _)⟩) rfl (by simp [Value.oneCell']) (by unfold maxLen;omega) (by omega) (Nat.zero_le _) ?_;intro v6 w6 A6;have A7:aB (W1.alloc (Obj.cells #[.int .i64 (aj cs k:Int)] 3)) 0 (iC 8) 1 (upd V 8 (.slice va ids.length vc) 8) (upd X 8 (au ids) 8).length (upd X 8 (au ids) 8) 1 [.int .i64 (aj cs k:Int)] v6 w6:=(by rw [ae,ae,ag];exact A6);have S6:=hide (Vp.out.push (k:=8) (m:=1) (news:=[.int .i64 (aj cs k:Int)]) (by omega) rfl A7);have B6:=hide (Vp.out.jY (k:=8) (by omega) A7 19 v6);have g6:=(Vp.out.gM (k:=8) (by omega) A7 19 (by omega)).1;have z6:=(Vp.out.gM (k:=8) (by omega) A7 19 (by omega)).2;clear A7 O8;obtain ⟨qL,qK,hv6⟩:=aH A6.own;subst hv6;clear A6)
      rw [show cellOf 8=19 from rfl,bE,bE,bE,ae,show au ids ++ [Value.int .i64 (aj cs k:Int)]=au (ids ++ [aj cs k]) by unfold au;rw [List.map_append];rfl] at S6
      have I6:Hid (Rm Z sb w K f V X (ids ++ [aj cs k]) (w6.setCell ⟨sb,19,none⟩ (.slice qL (ids.length + 1) qK))):=⟨ST.out.2.1.trans B6.out,_,S6.out⟩;have QB1:=hide (QB.out _ _ _ _ S6.out (by rw [aa _ _ (by decide)];exact H0.out))
      clear QB S6 B6 g6 z6 Vp d8 z8;generalize w6.setCell ⟨sb,19,none⟩ (.slice qL (ids.length + 1) qK)=W2 at *
      go_wp2_with (go_at_call 213;(with_reducible refine QB1.out.mono ?_);rintro e7 w7 ⟨rfl,rfl⟩;simp only [])
      go_roundw
      case rel=>exact ⟨k + 1,_,rfl,hlt,ST.out.1.snoc HI.out,I6.out⟩
      case measure=>have:=yP.out;simp [intOf];omega
   ·have ek:k=cs.length:=by omega
    subst ek;obtain ⟨v,hS⟩:=hst.out.2.2;have q0:=(hS.hd (k:=0) (by omega)).1
    obtain ⟨a0,c0,e0⟩:=hS.bC.shape (k:=0) (by omega)
    rw [show cellOf 0=2 from rfl,e0,aa _ _ (by decide),H0.out,cZ] at q0
    obtain ⟨a,c,q8,QS⟩:=Pn hN H0.out hst.out.1 hst.out.2;have HQ:=hide QS;have hal:aj cs cs.length=(enc cs).length:=dY (Nat.le_refl _);rw [hal];clear QS hst hS e0 hal;generalize (enc cs).length=N at *
    go_wp2_with (go_at_call 222;(with_reducible refine HQ.out.mono ?_);rintro e7 w7 hr;have HR:=hide hr;obtain ⟨rfl,-⟩:=hr;simp only [])
    go_end0
    exact HR.out
end
section
open Go Go.RowKit Go.Deep Rd
variable {Z:Nat->Prop} {sb K n:Nat} {w:World} {f V:Nat->Value} {X:Nat->List Value} {cs:List Rec} {wl:Nat->List Nat}
def jk (cs:List Rec) (a:Nat):Bool:=match mapOf cs a with | some c=>decide (c.kind=2) | none=>false
theorem OV {k:Nat} (hk:k < cs.length):jk cs (aj cs k)=decide ((cs[k]).kind=2):=by
 unfold jk;rw [aP hk]
def Mk (cs:List Rec) (wl:Nat->List Nat) (i:Nat) (x:Nat):List Nat:=if x < i then Df.nG (jk cs) (wl x) else wl x
def Xo (Z:Nat->Prop) (sb:Nat) (w:World) (K:Nat) (f:Nat->Value) (X:Nat->List Value) (n:Nat) (cs:List Rec) (wl:Nat->List Nat) (g9 c9:Nat) (s:Value) (wr:World):Prop:=
 ∃ (i:Nat) (V':Nat->Value) (X':Nat->List Value),s=.int .i64 ((i:Nat):Int)/\i <= 2 * n/\Hid (aQ Z sb wr K f V' X'/\jm n V' X' (Mk cs wl i)/\xV X X'/\V' 9=.slice (some ⟨g9,0,none⟩) (2 * n) c9/\aC Z w wr)
def Qh (Z:Nat->Prop) (sb K:Nat) (f V:Nat->Value) (X':Nat->List Value) (x len:Nat) (W:World):Prop:=∃ qH,aQ Z sb W K f V qH/\(∀ k,k ≠ 16 + x->qH k=X' k)/\(qH (16 + x)).length=len
theorem RD {x g c len:Nat} {ys:List Nat} {X':Nat->List Value} (hx:16 + x < K) (e:ys.length ≠ 0->V (16 + x)=.slice (some ⟨g,0,none⟩) ys.length c) (h0:X' 0=ints (enc cs)) (hN:(enc cs).length <= 1099511627776) (hin:∀ a ∈ ys,∃ k,∃ hk:k < cs.length,a=aj cs k):
  Df.Cbk 224 sb g 0 ys.length (jk cs) ys (Qh Z sb K f V X' x ys.length) where
 drew:=fun W d ⟨qH,h1,h2,h3⟩=>⟨qH,h1.later (Go.below_drewN (Below.refl _ _) _),h2,h3⟩
 set:=fun W j u hj ⟨qH,h1,h2,h3⟩=>by
  rw [Nat.zero_add];exact ⟨_,h1.set hx (e (by omega)) j (.int .i64 (u:Nat)),fun k hk=>by rw [aa _ _ hk];exact h2 k hk,by rw [ae,List.length_set];exact h3⟩
 is:=.inr rfl
 call:=fun W ⟨qH,h1,h2,h3⟩ y hy=>by
  obtain ⟨k,hk,rfl⟩:=hin y hy;rw [OV hk];exact yC h1 (by rw [h2 0 (by omega)];exact h0) hk hN
theorem aQ.Wn {wr wx:World} {X':Nat->List Value} {x g c:Nat} {ys l':List Nat} {post:List Value} (h:aQ Z sb wr K f V X') (hx:16 + x < K) (e:V (16 + x)=.slice (some ⟨g,0,none⟩) ys.length c) (h7:X' (16 + x)=au ys) (hl:l'.length=ys.length) (hg:wr.heap[g]? = some (.cells (([]:List Value) ++ au ys ++ post).toArray 3 (0,0))) (hg':wx.heap[g]? = some (.cells (([]:List Value) ++ au l' ++ post).toArray 3 (0,0))) (ho:∀ k,k ≠ g->wx.heap[k]? = wr.heap[k]?) (hb:Below 0 wr wx):
  aQ Z sb wx K f V (upd X' (16 + x) (au l'))/\aC Z wr wx:=by
 refine h.ve hx e ?_ ho hb;have hw:=h.bC.own (16 + x) hx;rw [rJ] at hw ⊢;rw [e] at hw ⊢;rw [h7,ag] at hw;rw [ag,hl];refine ⟨by rw [ag,hl,Nat.mul_one],?_⟩
 rcases hw.2 with ⟨e',_⟩ | ⟨g',cap',cur',e',hb',hg2,hn,hm,hs,ht⟩
 ·cases e'
 ·cases e'
  rw [hg] at hg2;cases hg2
  refine .inr ⟨g,c,_,rfl,hb',hg',hn,hm,?_,?_⟩
  ·simp only [List.size_toArray,List.length_append,List.length_nil,ag] at hs ⊢;omega
  ·simp only [Nat.mul_one];rw [List.nil_append,List.take_append_of_le_length (by rw [ag];omega),List.take_of_length_le (by rw [ag];omega)]
theorem Mj (i:Nat):(fun y=>if y=i then Df.nG (jk cs) (wl i) else Mk cs wl i y)=Mk cs wl (i + 1):=by
 funext y
 unfold Mk;by_cases e:y=i
 ·subst e;rw [if_pos rfl,if_pos (by omega)]
 ·rw [if_neg e];by_cases h:y < i
  ·rw [if_pos h,if_pos (by omega)]
  ·rw [if_neg h,if_neg (by omega)]
theorem Cj (h:aQ Z sb w K f V X) (h0:X 0=ints (enc cs)) (hN:(enc cs).length <= 1099511627776) (hW:jm n V X wl) (hK2:K=16 + 2 * n) (hn:n <= 50) (hn0:0 < n) (hin:∀ x,x < 2 * n->∀ a ∈ wl x,∃ k,∃ hk:k < cs.length,a=aj cs k) (hlen:∀ x,x < 2 * n->(wl x).length <= 1099511627776):
  Calls Tryz.prog 189 #[.pointer (some ⟨sb,0,none⟩)] w fun e w'=>e=.returned (.tuple #[])/\aC Z w w'/\∃ V' X',aQ Z sb w' K f V' X'/\jm n V' X' (fun x=>Df.nG (jk cs) (wl x))/\xV X X':=by
 obtain ⟨g9,c9,_,_,e9,-,q9,-⟩:=hW.at' h hK2 (x:=0) (by omega)
 have S0:Hid (aQ Z sb w K f V X/\jm n V X (Mk cs wl 0)/\xV X X/\V 9=.slice (some ⟨g9,0,none⟩) (2 * n) c9/\aC Z w w):=⟨h,by rw [show Mk cs wl 0=wl by funext x;unfold Mk;rw [if_neg (by omega)]];exact hW,fun _ _ _=>rfl,e9,aC.refl _⟩
 clear h hW e9;go_enter Tryz.func189,Tryz.ntmps189
 go_wp2_with fail
 go_loopw [2,3,9] (fun _ _ s wr=>Xo Z sb w K f X n cs wl g9 c9 s wr) (fun _ _ s _=>2 * n - (intOf s).toNat)
 case atStart=>exact ⟨0,V,X,rfl,Nat.zero_le _,S0⟩
 case round=>
  clear S0 q9;obtain ⟨i,V',X',rfl,hil,hst⟩:=hrel;by_cases hlt:i < 2 * n
  ·obtain ⟨hs,hw,ho,sS,hc⟩:=hst.out;obtain ⟨g9',c9',wa,wc,Xb,ex,q9,r9,z9,l9,n9,zz9,own⟩:=hw.at' hs hK2 hlt;rw [sS] at Xb;obtain ⟨y1,_,y3⟩:=Value.slice.inj Xb;obtain rfl:g9=g9':=by have:=Option.some.inj y1;simpa using this
   subst y3;have ewl:Mk cs wl i i=wl i:=by unfold Mk;rw [if_neg (by omega)]
   rw [ewl] at ex r9 own;have hX0:X' 0=ints (enc cs):=by rw [ho 0 (by decide) (by decide)];exact h0
   have row:=hw.row i hlt;rw [ewl] at row;obtain ⟨g,post,hal,hLi,hcp⟩:∃ (g:Nat) (post:List Value),((wl i).length ≠ 0->wa=some ⟨g,0,none⟩)/\((wl i).length ≠ 0->Df.uX g [] post (wl i) wr)/\(wl i).length <= wc:=by
    rcases own.2 with ⟨e',hz⟩ | ⟨g',cap',cur',e',_,hg',hn',_,hs',ht'⟩
    ·obtain ⟨_,a2,a3⟩:=Value.slice.inj e';exact ⟨0,[],fun h=>absurd a2 h,fun h=>absurd a2 h,by omega⟩
    ·obtain ⟨a1,a2,a3⟩:=Value.slice.inj e';subst a1 a3;refine ⟨g',cur'.toList.drop (wl i).length,fun _=>rfl,fun _=>?_,by simpa [ag] using hn'⟩
     unfold Df.uX;rw [hg']
     congr 2
     simp only [Nat.mul_one] at ht';rw [List.nil_append,<- ht',List.take_append_drop]
   have CB:=RD (Z:=Z) (sb:=sb) (K:=K) (f:=f) (V:=V') (X':=X') (x:=i) (g:=g) (c:=wc) (len:=0) (ys:=wl i) (by omega) (fun h=>by rw [ex,hal h]) hX0 hN (hin i hlt)
   have SI:Qh Z sb K f V' X' i (wl i).length wr:=⟨X',hs,fun _ _=>rfl,by rw [row,ag]⟩
   have Vj:=hide (fun d=>Df.oD (g:=g) (cap:=wc) (pre:=[]) (post:=post) (al:=wa) (w:=wr.drewN d) CB hal (CB.drew _ d SI) (fun h=>(hLi h).drew d) (hlen i hlt) hcp)
   have BQ:Hid (∀ d wx l',l'.length=(wl i).length->l'.take (Df.nG (jk cs) (wl i)).length=Df.nG (jk cs) (wl i)->Below 0 (wr.drewN d) wx->(∀ k,k ≠ g->wx.heap[k]? = (wr.drewN d).heap[k]?)->((wl i).length ≠ 0->Df.uX g [] post l' wx)->((wl i).length=0->wx.heap=(wr.drewN d).heap)->wx.cell? ⟨sb,5,none⟩=some (.slice (some ⟨g9,0,none⟩) (2 * n) c9)/\wx.cell? ⟨g9,i,none⟩=some (.slice wa (wl i).length wc)/\wx.frozen? ⟨g9,i,none⟩=false/\∃ V2 X2,aQ Z sb (wx.setCell ⟨g9,i,none⟩ (.slice wa (Df.nG (jk cs) (wl i)).length wc)) K f V2 X2/\jm n V2 X2 (Mk cs wl (i + 1))/\xV X X2/\V2 9=.slice (some ⟨g9,0,none⟩) (2 * n) c9/\aC Z w (wx.setCell ⟨g9,i,none⟩ (.slice wa (Df.nG (jk cs) (wl i)).length wc))):=fun d wx l' a1 a2 a3 a4 a5 a6=>by
    have hbd:Below wr.heap.size wr (wr.drewN d):=Go.below_drewN (Below.refl _ _) _;have hsd:=hs.later hbd;have hcd:=hc.trans (aC.of_below hbd);obtain ⟨s1,c1⟩:aQ Z sb wx K f V' (upd X' (16 + i) (au l'))/\aC Z (wr.drewN d) wx:=by
     by_cases he:(wl i).length=0
     ·have e2:l'=[]:=List.eq_nil_of_length_eq_zero (by rw [a1];exact he)
      have e1:wl i=[]:=List.eq_nil_of_length_eq_zero he;have hbw:Below (wr.drewN d).heap.size (wr.drewN d) wx:=⟨a3.os,a3.tape,a3.output,by rw [a6 he];exact Nat.le_refl _,fun k _=>by rw [a6 he]⟩
      refine ⟨?_,aC.of_below hbw⟩;rw [e2,<- e1,<- row,upd_same];exact hsd.later hbw
     ·exact hsd.Wn (by omega) (by rw [ex,hal he]) row a1 (hLi he) (a5 he) a4 a3
    have h9:(upd X' (16 + i) (au l')) 9=X' 9:=aa _ _ (by omega)
    obtain ⟨b1,b2⟩:=s1.bC.cell (k:=9) (by omega) sS (j:=i) (by rw [h9,hw.n9];exact hlt)
    rw [h9,hw.hd i hlt,ex] at b1;have fl1:(Df.nG (jk cs) (wl i)).length <= (wl i).length:=List.length_filter_le ..;have s2:=s1.ZN (x:=i) (m:=(Df.nG (jk cs) (wl i)).length) (by omega) sS ex (by rw [ae,ag];omega)
    rw [ae,bE,h9,jE,a2] at s2;have q:=(s1.hd (k:=9) (by omega)).1
    rw [show cellOf 9=5 from rfl,sS] at q
    refine ⟨q,b1,b2,_,_,s2,?_,fun k h1 h2=>?_,by rw [aa _ _ (by omega)];exact sS,(hcd.trans c1).setCell zz9 _⟩
    ·rw [<- Mj];exact hw.put hlt rfl _
    ·rw [aa _ _ h1,aa _ _ (by omega)];exact ho k h1 h2
   have X9:(0:Int) <= (i:Int):=by omega
   have i11:(i:Int) < 2 * (n:Int):=by omega
   have hmf:∀ (fn:Fn) (first cap:Array Value) (w:World),(Instr.makeFunc fn first cap).run Tryz.prog w=.ok (.func fn first cap) w:=fun _ _ _ _=>rfl
   clear hst hs hw ho sS hc CB SI hal hLi own row ex Xb y1;obtain ⟨len,OJ⟩:∃ len,len=(wl i).length:=⟨_,rfl⟩;rw [<- OJ] at BQ Vj r9 hcp;have HL2:=hide OJ;clear OJ;go_upto_region 3 with fail
   have Z9:=hide (Vj.out 1);rw [show wr.drewN 1=wr.drew from rfl] at Z9
   clear Vj;go_region_with (go_at_call 184;refine Z9.out.mono ?_;rintro e8 w8 ⟨l8,b1,b2,rfl,b3,b4,b5,b6⟩;obtain ⟨u0,u1,u2,u3⟩:=BQ.out 1 w8 l8 (by rw [HL2.out];exact b1) b2 b3 b4 (fun h=>b5 (by rw [<- HL2.out];exact h)) (fun h=>b6 (by rw [<- HL2.out];exact h));have U3:=hide u3;clear u3 b1 b2 b3 b4 b5 b6;simp only [])
   all_goals
    obtain ⟨V2,X2,sU⟩:=U3.out;have HS2:=hide sU;clear sU U3;go_wp2;go_roundw
    case rel=>exact ⟨i + 1,V2,X2,by go_num,hlt,HS2⟩
    case measure=>simp [intOf];omega
  ·have ei:i=2 * n:=by omega
   subst ei;have FIN:Hid (aC Z w wr/\∃ V' X',aQ Z sb wr K f V' X'/\jm n V' X' (fun x=>Df.nG (jk cs) (wl x))/\xV X X'):=by
    obtain ⟨hs,hw,ho,sS,hc⟩:=hst.out;refine ⟨hc,V',X',hs,⟨hw.n9,hw.hd,fun x hx=>?_⟩,ho⟩
    rw [hw.row x hx];unfold Mk;rw [if_pos hx]
   have j1:¬ (2 * (n:Int) < 2 * (n:Int)):=by omega
   clear hst hK2;go_wp2;go_end0;exact ⟨rfl,FIN.out⟩
end
section
open Go Go.RowKit Go.Deep Rd
variable {Z:Nat->Prop} {sb ob hb kb n:Nat} {L0:List Cl} {N0:Nat} {w w':World} {s t:St}
theorem Nw {K:Nat} {f V:Nat->Value} {X:Nat->List Value} {gone Rs Ro Rd Rk:Nat->Prop} {l:List UInt8} {c:List Nat} (T:oJ Z sb ob hb kb n w K f V X gone l Rs Ro Rd Rk) (hn:n <= 50) (f0:f 0=.iface 105 (.pointer (some ⟨kb,0,none⟩))) (v:Value) (hL:LP sb (V 12) w v c) (hc:c.length <= 50) (hlt:∀ x ∈ c,x < 2 * n) (hlen:l.length <= 70368744177664):
  Calls Tryz.prog 186 #[.pointer (some ⟨sb,0,none⟩),v] w fun e w'=>e=.returned .nilIface/\aC Z w w'/\∃ v' X' ko Rd' Fp,oJ Z sb ob hb kb n w' K (upd f 1 v') (upd V 12 v') (upd X 12 X') gone (l ++ (jS true c ++ [10])) ko Ro Rd' Fp:=by
 have QW:=hide (yS T hn f0 ⟨#[100,32]⟩ (by decide) v hL hc hlt hlen)
 have E:bu (⟨#[100,32]⟩:ByteArray).data.toList c c.length ++ [48,10]=jS true c ++ [10]:=by
  unfold bu jS;rw [List.take_length];simp
 rw [E] at QW;clear T hL E;go_enter Tryz.func186,Tryz.ntmps186
 go_wp2_with (go_at_call 140;refine QW.out.mono ?_;rintro e1 w1 ⟨rfl,hc1,v1,qb,Rd1,Rk1,ht1⟩;have C1:=hide hc1;have T1:=hide ht1;clear hc1 ht1;simp only [])
 go_ret
 exact ⟨rfl,C1.out,_,_,_,_,_,T1.out⟩
theorem JL {cs:List Rec} {k:Nat} (hk:k < cs.length) (c:Rec):cs.set k c=cs.take k ++ c :: cs.drop (k + 1)/\cs=cs.take k ++ cs[k] :: cs.drop (k + 1):=by
 refine ⟨List.set_eq_take_append_cons_drop.trans (by rw [if_pos hk]),?_⟩
 rw [<- List.drop_eq_getElem_cons hk,List.take_append_drop]
theorem Jd {cs:List Rec} {k:Nat} (hk:k < cs.length) (h1:(cs[k]).kind=1) (b:Int):eQ (cs.set k ⟨2,b,(cs[k]).lits⟩) + 1=eQ cs/\fE (cs.set k ⟨2,b,(cs[k]).lits⟩)=fE cs + (3 + (cs[k]).lits.length):=by
 obtain ⟨e1,e2⟩:=JL hk ⟨2,b,(cs[k]).lits⟩;have a1:∀ A (c:Rec) B,eQ (A ++ c :: B)=eQ A + ((if c.kind=1 then 1 else 0) + eQ B):=fun A c B=>by
  unfold eQ;rw [List.countP_append,List.countP_cons];by_cases h:c.kind=1 <;> simp [h] <;> omega
 have a2:∀ A (c:Rec) B,fE (A ++ c :: B)=fE A + ((if c.kind=2 then 3 + c.lits.length else 0) + fE B):=fun A c B=>by
  unfold fE;rw [List.map_append,List.sum_append,List.map_cons,List.sum_cons]
 rw [e1,a1,a2];have b1:eQ cs=eQ (cs.take k) + ((if (cs[k]).kind=1 then 1 else 0) + eQ (cs.drop (k + 1))):=by
  rw [<- a1];exact congrArg eQ e2
 have b2:fE cs=fE (cs.take k) + ((if (cs[k]).kind=2 then 3 + (cs[k]).lits.length else 0) + fE (cs.drop (k + 1))):=by
  rw [<- a2];exact congrArg fE e2
 rw [if_pos h1] at b1;rw [if_neg (by omega)] at b2
 simp;omega
def Dl (tr:List Nat) (rea:Nat->Int) (cs cs':List Rec):Prop:=cs'.length=cs.length/\∀ k (h:k < cs.length) (h':k < cs'.length),(cs'[k]).lits=(cs[k]).lits/\((cs'[k]).kind=(cs[k]).kind\/((cs'[k]).kind=2/\qd tr rea cs k))
variable {tr:List Nat} {rea:Nat->Int} {cs cs':List Rec}
theorem Dl.refl:Dl tr rea cs cs:=⟨rfl,fun k _ _=>⟨rfl,.inl rfl⟩⟩
theorem Dl.aj (h:Dl tr rea cs cs'):∀ k,k <= cs.length->aj cs' k=aj cs k
 | 0,_=>by rw [gK,gK]
 | k + 1,hk=>by
  have h1:k < cs.length:=by omega
  have h2:k < cs'.length:=by rw [h.1];exact h1
  rw [dz h1,dz h2,Dl.aj h k (by omega),(h.2 k h1 h2).1]
theorem Dl.len (h:Dl tr rea cs cs'):(enc cs').length=(enc cs).length:=by
 rw [<- dY (cs:=cs') (Nat.le_refl _),h.1,h.aj _ (Nat.le_refl _),dY (Nat.le_refl _)]
theorem Dl.set (h:Dl tr rea cs cs') {k:Nat} (hk:k < cs'.length) (hI:qd tr rea cs k) (b:Int):Dl tr rea cs (cs'.set k ⟨2,b,(cs'[k]).lits⟩):=⟨by rw [List.length_set];exact h.1,fun j h1 h2=>by
 have h3:j < cs'.length:=by simpa using h2
 by_cases e:k=j
 ·subst e;rw [List.getElem_set_self];exact ⟨(h.2 k h1 h3).1,.inr ⟨rfl,hI⟩⟩
 ·rw [List.getElem_set_ne e];exact h.2 j h1 h3⟩
theorem Dl.delC (h:Dl tr rea cs cs'):Io (mapOf cs) (mapOf cs'):=fun a=>by
 cases hm:mapOf cs a with
 | none=>
  left
  cases hm':mapOf cs' a with
  | none=>rfl
  | some c=>
   obtain ⟨k,hk,rfl,_⟩:=aN hm';have hk2:k < cs.length:=by rw [<- h.1];exact hk
   rw [h.aj k (by omega),aP hk2] at hm
   cases hm
 | some c=>
  obtain ⟨k,hk,rfl,rfl⟩:=aN hm;have hk2:k < cs'.length:=by rw [h.1];exact hk
  obtain ⟨g1,g2⟩:=h.2 k hk hk2;rw [<- h.aj k (by omega),aP hk2,g1]
  rcases g2 with g2 | ⟨g2,_⟩
  ·rw [g2];exact .inl rfl
  ·rw [g2];exact .inr ⟨_,rfl,rfl⟩
theorem Dl.keeps (h:Dl tr rea cs cs') (hv:∀ x ∈ tr,0 < tv tr x):∀ b c x r,mapOf cs b=some c->c.kind ≠ 2->c.lits=x :: r->x ∈ tr->rea (x / 2)=(b:Nat)->mapOf cs' b=mapOf cs b:=fun b c x r h1 h2 h3 h4 h5=>by
 obtain ⟨k,hk,rfl,rfl⟩:=aN h1;have hk2:k < cs'.length:=by rw [h.1];exact hk
 obtain ⟨g1,g2⟩:=h.2 k hk hk2;rw [h1,<- h.aj k (by omega),aP hk2,g1]
 rcases g2 with g2 | ⟨_,_,_,_,g3⟩
 ·rw [g2]
 ·refine absurd ⟨hv x h4,h5⟩ (g3 x ?_);rw [show (cs[k]).lits=x :: r from h3];rfl
theorem Dl.given (h:Dl tr rea cs cs') (hg:Jo L0 (mapOf cs)):Jo L0 (mapOf cs'):=fun c hc=>by
 rcases hg c hc with h1 | ⟨a,d,h1,h2,h3⟩
 ·exact .inl h1
 ·refine .inr ⟨a,d,?_,h2,h3⟩;obtain ⟨k,hk,rfl,rfl⟩:=aN h1;have hk2:k < cs'.length:=by rw [h.1];exact hk
  obtain ⟨g1,g2⟩:=h.2 k hk hk2;rw [<- h.aj k (by omega),aP hk2,g1]
  rcases g2 with g2 | ⟨_,_,g3,_⟩
  ·rw [g2]
  ·have:(cs[k]).kind=0:=h2;omega
end
section
open Go Go.RowKit Go.Deep Rd
variable {Z:Nat->Prop} {sb ob hb kb n:Nat} {L0:List Cl} {N0:Nat} {w0 w w':World} {s t:St}
structure Ij (Z:Nat->Prop) (sb ob hb kb n:Nat) (L0:List Cl) (w0:World) (s:St) (ids:List Nat) (i:Nat) (w:World) (t:St):Prop where
 aI:oJ Z sb ob hb kb n w (16 + 2 * n) t.f t.V t.X s.gone (bJ t.ls) t.Rs s.Ro t.Rd t.Rk
 bD:aC Z w0 w
 x0:t.X 0=ints (enc t.cs)
 x8:t.X 8=au ids
 xs:∀ j,j ≠ 0->j ≠ 8->j ≠ 12->t.X j=s.X j
 vs:∀ j,j ≠ 8->j ≠ 12->t.V j=s.V j
 ff:∀ j,j ≠ 1->j ≠ 3->j ≠ 4->j ≠ 18->j ≠ 19->t.f j=s.f j
 f3:t.f 3=.int .i64 ((t.lc:Nat):Int)
 f4:t.f 4=.int .i64 ((t.ws:Nat):Int)
 f18:t.f 18=.int .i64 ((s.mo + 100:Nat):Int)
 del:Dl s.tr s.rea s.cs t.cs
 Yc:∀ k (h:k < s.cs.length) (h':k < t.cs.length),(t.cs[k]).kind ≠ (s.cs[k]).kind->aj s.cs k ∈ ids.take i
 lines:iD L0 (t.ls.map fun l=>(l.1,l.2.map wr)) t.L
 wK:∀ l ∈ t.ls,∀ x ∈ l.2,x < 2 * n
 qG:tQ t.L (kz t.cs)
 uM:(bJ t.ls).length + 125 * eQ t.cs <= 250 * s.m
 cnt:t.lc=eQ t.cs
 uJ:t.ws=fE t.cs
 XY:t.lc <= s.lc
theorem Ij.later {ids:List Nat} {i:Nat} (h:Ij Z sb ob hb kb n L0 w0 s ids i w t) (hb':Below w.heap.size w w'):Ij Z sb ob hb kb n L0 w0 s ids i w' t:={ h with aI:=h.aI.later hb',bD:=h.bD.trans (aC.of_below hb') }
def Fgl (Z:Nat->Prop) (sb ob hb kb n:Nat) (w0:World) (s t:St) (c:List Nat) (w':World):Prop:=
 aC Z w0 w'/\∃ v' X' ko Rd' Fp,oJ Z sb ob hb kb n w' (16 + 2 * n) (upd t.f 1 v') (upd t.V 12 v') (upd t.X 12 X') s.gone (bJ t.ls ++ (jS true c ++ [10])) ko s.Ro Rd' Fp
theorem Kv {c:List Nat} (hn:n <= 50) (hc:∀ x ∈ c,x < 2 * n):(jS true c).length <= 4 * c.length + 3:=by
 have a:=jR hn (st:=[100,32]) (c:=c) hc (by simp) c.length (Nat.le_refl _)
 have b:jS true c=bu [100,32] c c.length ++ [48]:=by
  unfold bu jS;rw [List.take_length];simp
 rw [b,List.length_append];simp at a ⊢;omega
theorem Ij.next {ids:List Nat} {i:Nat} (h:Ij Z sb ob hb kb n L0 w0 s ids i w t) (hI:FH s.tr s.rea s.cs s.cs.length ids) (hi:i < ids.length):
  ∃ k,∃ (hk:k < s.cs.length) (hk':k < t.cs.length),ids[i]=aj s.cs k/\ids[i]=aj t.cs k/\qd s.tr s.rea s.cs k/\(t.cs[k]).kind=1/\(t.cs[k]).lits=(s.cs[k]).lits:=by
 obtain ⟨k,hk,hc,e⟩:=hI.2 _ (List.getElem_mem hi);have hk':k < t.cs.length:=by rw [h.del.1];exact hk
 refine ⟨k,hk,hk',e,by rw [h.del.aj k (by omega)];exact e,hc,?_,(h.del.2 k hk hk').1⟩
 obtain ⟨_,h1,_⟩:=id hc;refine Classical.byContradiction fun hne=>?_
 have hm:=h.Yc k hk hk' (by omega)
 rw [<- e] at hm;obtain ⟨j,hj,ej⟩:=List.mem_iff_getElem.1 hm;rw [List.length_take] at hj;rw [List.getElem_take] at ej;exact (List.pairwise_iff_getElem.1 hI.1 j i (by omega) hi (by omega)) ej
theorem Lc {ids:List Nat} (h:Main Z sb ob hb kb n L0 N0 false w s) (hw:Rm (zz s.Rs w) sb (w.setCell ⟨sb,18,none⟩ (.int .i64 ((s.mo + 100:Nat):Int))) (16 + 2 * n) (upd s.f 18 (.int .i64 ((s.mo + 100:Nat):Int))) s.V s.X ids w'):
  ∃ t,Ij Z sb ob hb kb n L0 w s ids 0 w' t:=by
 obtain ⟨hc,v,hS⟩:=hw;have hc2:aC (zz s.Rs w) w w':=((aC.refl w).setCell h.aI.duo.aG.fZ _).trans hc;obtain ⟨t1,t2⟩:=h.aI.dH hS hc2 (by rw [aa _ _ (by decide),aa _ _ (by decide)])
 exact ⟨{ s with f:=upd (upd s.f 18 (.int .i64 ((s.mo + 100:Nat):Int))) 19 v,V:=upd s.V 8 v,X:=upd s.X 8 (au ids),Rs:=(fun g=>zz s.Rs w g/\g < w'.heap.size),Rd:=(fun g=>zz s.Rd w g/\g < w'.heap.size) },{
  aI:=t1
  bD:=t2
  x0:=(aa (k:=8) (j:=0) s.X (au ids) (by decide)).trans h.x0
  x8:=ae s.X 8 (au ids)
  xs:=fun j _ h2 _=>aa _ _ h2
  vs:=fun j h1 _=>aa _ _ h1
  ff:=fun j _ _ _ h4 h5=>(aa _ _ h5).trans (aa _ _ h4)
  f3:=((aa (k:=19) (j:=3) (upd s.f 18 (.int .i64 ((s.mo + 100:Nat):Int))) v (by decide)).trans (aa (k:=18) (j:=3) s.f (.int .i64 ((s.mo + 100:Nat):Int)) (by decide))).trans h.f3
  f4:=((aa (k:=19) (j:=4) (upd s.f 18 (.int .i64 ((s.mo + 100:Nat):Int))) v (by decide)).trans (aa (k:=18) (j:=4) s.f (.int .i64 ((s.mo + 100:Nat):Int)) (by decide))).trans h.f4
  f18:=(aa (k:=19) (j:=18) (upd s.f 18 (.int .i64 ((s.mo + 100:Nat):Int))) v (by decide)).trans (ae s.f 18 _)
  del:=Dl.refl
  Yc:=fun k _ _ h=>absurd rfl h
  lines:=h.lines
  wK:=h.wK
  qG:=h.qG
  uM:=h.uM
  cnt:=h.cnt
  uJ:=h.uJ
  XY:=Nat.le_refl _ }⟩
theorem Ij.lits {ids:List Nat} {i:Nat} (h:Ij Z sb ob hb kb n L0 w0 s ids i w t) (hm:Main Z sb ob hb kb n L0 N0 false w0 s) {k:Nat} (hk:k < s.cs.length):(s.cs[k]).lits.length <= n/\∀ x ∈ (s.cs[k]).lits,x < 2 * n:=
 ⟨fU (hm.pi.jc.vars _ _ (aP hk)) (hm.pi.jc.lt _ _ (aP hk)),hm.pi.jc.lt _ _ (aP hk)⟩
theorem Hd {ids:List Nat} {i k:Nat} {w1:World} (h:Ij Z sb ob hb kb n L0 w0 s ids i w t) (hm:Main Z sb ob hb kb n L0 N0 false w0 s) (hn:n <= 50) (hN:(enc s.cs).length <= 1099511627776) (hsm:s.m <= 1099511627776) (hi:i < ids.length)
  (hk:k < s.cs.length) (hk':k < t.cs.length) (e1:ids[i]=aj s.cs k) (e2:ids[i]=aj t.cs k) (hI:qd s.tr s.rea s.cs k) (h1:(t.cs[k]).kind=1) (hl:(t.cs[k]).lits=(s.cs[k]).lits) (hw:Fgl Z sb ob hb kb n w0 s t (s.cs[k]).lits w1):
  Calls Tryz.prog 187 #[.pointer (some ⟨sb,2,none⟩),.int .i64 (ids[i]:Nat)] w1 fun e w'=>e=.returned (.tuple #[])/\∃ t',Ij Z sb ob hb kb n L0 w0 s ids (i + 1) w' t'/\t'.f 19=t.f 19:=by
 obtain ⟨hc1,v',X',ko,Rd',Fp,T1⟩:=hw;obtain ⟨ln,lt⟩:=h.lits hm hk;have hend:=bA hk';have hlen:=h.del.len;have hx0:(upd t.X 12 X') 0=ints (enc t.cs):=by rw [aa _ _ (by decide)];exact h.x0
 have hpos:1 <= eQ t.cs:=by have:=(Jd hk' h1 0).1;omega
 have hlc:t.lc <= 2 * s.m:=by have:=h.uM;have:=h.cnt;omega
 have hws:t.ws <= (enc t.cs).length:=by
  rw [h.uJ];have key:∀ cs:List Rec,fE cs <= (enc cs).length:=fun cs=>by
   induction cs with
   | nil=>exact Nat.le_refl _
   | cons c r ih=>
    have e:(enc (c :: r)).length=(3 + c.lits.length) + (enc r).length:=by simp [enc,dh]
    have e':fE (c :: r)=(if c.kind=2 then 3 + c.lits.length else 0) + fE r:=by unfold fE;rw [List.map_cons,List.sum_cons]
    rw [e,e'];split <;> omega
  exact key _
 have hg:((upd t.X 12 X') 0)[aj t.cs k]? = some (.int .i64 (((s.cs[k]).lits.length:Nat):Int)):=by
  rw [hx0,iR,Ez hk',hl];rfl
 rw [e2];refine (Hq (aj t.cs k) (enc t.cs).length (s.cs[k]).lits.length (t.lc:Nat) (t.ws:Nat) T1.duo.aG (by rw [hx0,cZ]) (by omega) (by omega) hg (by omega) ((aa (k:=1) (j:=3) _ _ (by decide)).trans h.f3) ((aa (k:=1) (j:=4) _ _ (by decide)).trans h.f4) (by omega) (by omega) (by omega) (by omega)).mono ?_
 rintro e w' ⟨rfl,hc2,hS⟩;obtain ⟨t1,t2⟩:=T1.dH hS hc2 (by rw [aa _ _ (by decide),aa _ _ (by decide)])
 obtain ⟨c1,c2⟩:=Jd hk' h1 (t.cs[k]).busy;obtain ⟨L',r1,r2⟩:=h.qG.delete hk' (by omega) (t.cs[k]).busy (d:=(s.cs[k]).lits.map wr) (fun x=>by rw [hl,List.mem_map])
 have hll:=Kv hn lt;have hcn:=h.cnt;have F19:upd (upd (upd t.f 1 v') 3 (.int .i64 (((t.lc:Nat):Int) - 1))) 4 (.int .i64 (((t.ws:Nat):Int) + (3 + ((s.cs[k]).lits.length:Nat)))) 19=t.f 19:=by
  rw [aa _ _ (by decide),aa _ _ (by decide),aa _ _ (by decide)]
 have F18:upd (upd (upd t.f 1 v') 3 (.int .i64 (((t.lc:Nat):Int) - 1))) 4 (.int .i64 (((t.ws:Nat):Int) + (3 + ((s.cs[k]).lits.length:Nat)))) 18=.int .i64 ((s.mo + 100:Nat):Int):=by
  rw [aa _ _ (by decide),aa _ _ (by decide),aa _ _ (by decide)];exact h.f18
 have X8:upd (upd t.X 12 X') 0 (((upd t.X 12 X') 0).set (aj t.cs k + 1) (.int .i64 2)) 8=au ids:=by
  rw [aa _ _ (by decide),aa _ _ (by decide)];exact h.x8
 have X0:upd (upd t.X 12 X') 0 (((upd t.X 12 X') 0).set (aj t.cs k + 1) (.int .i64 2)) 0=ints (enc (t.cs.set k ⟨2,(t.cs[k]).busy,(t.cs[k]).lits⟩)):=by
  rw [ae,hx0];exact (ints_set _ _ 2).trans (congrArg ints (EB hk' 2).symm)
 have F3:upd (upd (upd t.f 1 v') 3 (.int .i64 (((t.lc:Nat):Int) - 1))) 4 (.int .i64 (((t.ws:Nat):Int) + (3 + ((s.cs[k]).lits.length:Nat)))) 3=.int .i64 ((t.lc - 1:Nat):Int):=by
  rw [aa _ _ (by decide),ae]
  congr 1
  omega
 have F4:upd (upd (upd t.f 1 v') 3 (.int .i64 (((t.lc:Nat):Int) - 1))) 4 (.int .i64 (((t.ws:Nat):Int) + (3 + ((s.cs[k]).lits.length:Nat)))) 4=.int .i64 ((t.ws + (3 + (s.cs[k]).lits.length):Nat):Int):=by
  rw [ae]
  congr 1
 refine ⟨rfl,{ t with cs:=t.cs.set k ⟨2,(t.cs[k]).busy,(t.cs[k]).lits⟩,f:=upd (upd (upd t.f 1 v') 3 (.int .i64 (((t.lc:Nat):Int) - 1))) 4 (.int .i64 (((t.ws:Nat):Int) + (3 + ((s.cs[k]).lits.length:Nat)))),V:=upd t.V 12 v',X:=upd (upd t.X 12 X') 0 (((upd t.X 12 X') 0).set (aj t.cs k + 1) (.int .i64 2)),ls:=t.ls ++ [(true,(s.cs[k]).lits)],L:=L',lc:=t.lc - 1,ws:=t.ws + (3 + (s.cs[k]).lits.length),Rs:=(fun g=>zz ko w1 g/\g < w'.heap.size),Rd:=(fun g=>zz Rd' w1 g/\g < w'.heap.size),Rk:=Fp },{
  aI:=by rw [kN];exact t1
  bD:=hc1.trans t2
  x0:=X0
  x8:=X8
  xs:=fun j a1 a2 a3=>((aa _ _ a1).trans (aa _ _ a3)).trans (h.xs j a1 a2 a3)
  vs:=fun j a1 a2=>(aa _ _ a2).trans (h.vs j a1 a2)
  ff:=fun j a1 a2 a3 a4 a5=>((aa _ _ a3).trans ((aa _ _ a2).trans (aa _ _ a1))).trans (h.ff j a1 a2 a3 a4 a5)
  f3:=F3
  f4:=F4
  f18:=F18
  del:=h.del.set hk' hI _
  Yc:=fun j a1 a2 a3=>by
   by_cases e:k=j
   ·subst e;rw [<- e1];rw [List.take_succ_eq_append_getElem hi];exact List.mem_append_right _ (List.mem_singleton.2 rfl)
   ·have a2':j < t.cs.length:=by simpa using a2
    have a3':(t.cs[j]).kind ≠ (s.cs[j]).kind:=by
     have:=a3;simp only [List.getElem_set_ne e] at this;exact this
    rw [List.take_succ_eq_append_getElem hi];exact List.mem_append_left _ (h.Yc j a1 a2' a3')
  lines:=by
   rw [List.map_append];exact h.lines.del r1
  wK:=fun l a1=>by
   rcases List.mem_append.1 a1 with a1 | a1
   ·exact h.wK l a1
   ·rw [List.mem_singleton.1 a1];exact lt
  qG:=r2
  uM:=by
   show (bJ (t.ls ++ [(true,(s.cs[k]).lits)])).length + 125 * eQ (t.cs.set k ⟨2,(t.cs[k]).busy,(t.cs[k]).lits⟩) <= 250 * s.m
   rw [kN,List.length_append,List.length_append];have:=h.uM;have:=hm.n30;simp only [List.length_cons,List.length_nil];omega
  cnt:=by
   show t.lc - 1=eQ (t.cs.set k ⟨2,(t.cs[k]).busy,(t.cs[k]).lits⟩)
   have:=h.cnt;omega
  uJ:=by
   show t.ws + (3 + (s.cs[k]).lits.length)=fE (t.cs.set k ⟨2,(t.cs[k]).busy,(t.cs[k]).lits⟩)
   rw [c2,h.uJ,hl]
  XY:=by show t.lc - 1 <= s.lc;have:=h.XY;omega },F19⟩
end
end So
end Go.Proofs.YtceahffmenbibaaGreatDoor
