/- Swot Scpy Slrn. -/
import Derived.Test.YtceahffmenbibaaGreatDoorG05
import Derived.Laws.CopyOwn
import Derived.Test.YtceahffmenbibaaGreatDoorG04
set_option linter.unusedVariables false
set_option linter.unusedSimpArgs false
set_option maxHeartbeats 4000000
set_option maxRecDepth 100000
namespace Go.Proofs.YtceahffmenbibaaGreatDoor
namespace So
section
open Go Go.RowKit Go.Deep Rd
variable {Z:Nat->Prop} {sb K:Nat} {w w':World} {f V:Nat->Value} {X:Nat->List Value} {n:Nat} {wl:Nat->List Nat} {tr ch:List Nat} {lev:Nat->Nat} {rea:Nat->Int}
theorem oU.K5 {B:Nat} {T:Nat->TypeId} (h:oU B w K T V X) {k:Nat} (hk:k < K) {g m cap:Nat} (hv:V k=.slice (some ⟨g,0,none⟩) m cap) (j:Nat):w.frozen? ⟨g,j,none⟩=false:=by
 have ho:=h.own k hk;rw [hv] at ho;have hn:m=(X k).length:=by
  obtain ⟨a,c,e⟩:=aH ho;exact (Value.slice.inj e).2.1
 subst hn;exact ho.frozenAt j
theorem Yv (tr:List Nat) (x:Nat):tv tr x < 0↔tv tr x=-1:=by unfold tv;split <;> (try split) <;> omega
theorem Yw (tr:List Nat) (x:Nat):0 < tv tr x↔tv tr x=1:=by unfold tv;split <;> (try split) <;> omega
theorem jD {cs:List Rec} (hs:aQ Z sb w K f V X) (h0:X 0=ints (enc cs)) {g N c:Nat} (e0:V 0=.slice (some ⟨g,0,none⟩) N c) {k:Nat} (hk:k < cs.length) {i:Nat} (hi:i < (cs[k]).lits.length):w.cell? ⟨g,aj cs k + 3 + i,none⟩=some (.int .i64 ((cs[k]).lits[i]:Nat)):=by
 have hend:=bA hk;have hl:(X 0).length=(enc cs).length:=by rw [h0,cZ]
 rw [(hs.bC.cell (k:=0) (by have:=hs.hK;omega) e0 (j:=aj cs k + 3 + i) (by omega)).1]
 exact Aq h0 (vw hk hi)
def xX (X X':Nat->List Value):Prop:=∀ k,k ≠ 0->k ≠ 9->k < 16->X' k=X k
def BK (Z:Nat->Prop) (sb:Nat) (w:World) (K:Nat) (f V:Nat->Value) (X:Nat->List Value) (n:Nat) (wl:Nat->List Nat) (tr:List Nat) (cs:List Rec) (k:Nat) (kd:Nat) (bs:Int) (lit q:Nat) (r:List Nat) (e:Ending) (w':World):Prop:=
 ∃ b V' X',e=.returned (.bool b)/\aC Z w w'/\aQ Z sb w' K f V' X'/\xX X X'/\V' (16 + lit)=V (16 + lit)/\
  ((b=false/\X' 0=ints (enc (cs.set k ⟨kd,bs,q :: lit :: r⟩))/\jm n V' X' wl/\(tv tr q=1\/(tv tr q ≠ 1/\∀ y ∈ r,tv tr y=-1))) \/
   (b=true/\tv tr q ≠ 1/\∃ j o,r[j]? = some o/\tv tr o ≠ -1/\X' 0=ints (enc (cs.set k ⟨kd,bs,q :: o :: r.set j lit⟩))/\jm n V' X' (fun x=>if x=o then wl x ++ [aj cs k] else wl x)))
def Qd (Z:Nat->Prop) (sb:Nat) (w:World) (K:Nat) (f V:Nat->Value) (X:Nat->List Value) (tr r:List Nat) (i8:Value) (wr:World):Prop:=
 ∃ i:Nat,i8=.int .i64 ((i + 2:Nat):Int)/\i <= r.length/\Hid ((∀ j (hj:j < r.length),j < i->tv tr r[j]=-1)/\aQ Z sb wr K f V X/\aC Z w wr)
theorem aQ.UW {cs:List Rec} (hs:aQ Z sb w K f V X) (h0:X 0=ints (enc cs)) {g N c:Nat} (e0:V 0=.slice (some ⟨g,0,none⟩) N c) {k:Nat} (hk:k < cs.length) {i j:Nat} (hi:i < (cs[k]).lits.length) (hj:j < (cs[k]).lits.length) (x y:Nat):
  aQ Z sb ((w.setCell ⟨g,aj cs k + 3 + i,none⟩ (.int .i64 (x:Nat))).setCell ⟨g,aj cs k + 3 + j,none⟩ (.int .i64 (y:Nat))) K f V (upd X 0 (ints (enc (cs.set k ⟨(cs[k]).kind,(cs[k]).busy,((cs[k]).lits.set i x).set j y⟩)))):=by
 have hK:0 < K:=by have:=hs.hK;omega
 have s1:=(hs.set (k:=0) hK e0 (aj cs k + 3 + i) (.int .i64 (x:Nat))).set (k:=0) hK e0 (aj cs k + 3 + j) (.int .i64 (y:Nat));rw [ae,bE,h0,ints_set,ints_set] at s1;have e1:=xk hk hi x;have hk2:k < (cs.set k ⟨(cs[k]).kind,(cs[k]).busy,(cs[k]).lits.set i x⟩).length:=by simpa using hk
 have e2:=xk (cs:=cs.set k ⟨(cs[k]).kind,(cs[k]).busy,(cs[k]).lits.set i x⟩) hk2 (i:=j) (by simpa using hj) y
 rw [kQ hk (by simp),e1] at e2
 simp only [List.getElem_set_self,List.set_set] at e2;rw [<- e2] at s1;exact s1
theorem rZ {cs:List Rec} {k lit q:Nat} {r:List Nat} (h:aQ Z sb w K f V X) (hK2:K=16 + 2 * n) (h0:X 0=ints (enc cs)) (hk:k < cs.length) (hl:(cs[k]).lits=lit :: q :: r\/(cs[k]).lits=q :: lit :: r) (hne:lit ≠ q) (hlr:lit ∉ r) (hlt:∀ y ∈ (cs[k]).lits,y < 2 * n) (hn:n <= 50) (hN:(enc cs).length <= 1099511627776) (hT:iW n X tr ch lev rea) (hW:jm n V X wl) (hwl:∀ x,x < 2 * n->(wl x).length <= 1099511627776):
  Calls Tryz.prog 179 #[.pointer (some ⟨sb,0,none⟩),.int .i64 (aj cs k:Nat),.int .i64 (lit:Nat)] w fun e w'=>BK Z sb w K f V X n wl tr cs k (cs[k]).kind (cs[k]).busy lit q r e w':=by
 obtain ⟨i0,hi,hz0,hz1,hz2⟩:=info_parts Tryz.cu;obtain ⟨g,c,e0,q0,hc,lg,ng,zg,r0,-,-,-,fz⟩:=bV h h0 hk;have hend:=bA hk;have HS:=hide h
 have hm:(cs[k]).lits.length=r.length + 2:=by rcases hl with e | e <;> rw [e] <;> simp
 have QL:Hid (∀ Y:World,Y.heap=w.heap->Calls Tryz.prog 175 #[.pointer (some ⟨sb,2,none⟩),.int .i64 (aj cs k:Nat)] Y fun e w'=>e=.returned (fV g (aj cs k) (cs[k]).lits.length c)/\∃ j,w'=Y.drewN j):=fun Y hY=>fu sb 2 g (enc cs).length c (aj cs k) (cs[k]).lits.length Y (by rw [show Y.cell? ⟨sb,2,none⟩=w.cell? ⟨sb,2,none⟩ from World.cell?_of_block (a:=⟨sb,2,none⟩) (by rw [hY])];exact q0) (by omega) (by unfold maxLen;omega) hc (by rw [show Y.cell? ⟨g,aj cs k,none⟩=w.cell? ⟨g,aj cs k,none⟩ from World.cell?_of_block (a:=⟨g,aj cs k,none⟩) (by rw [hY])];exact r0)
 have nc:¬ (c=aj cs k + 3):=by omega
 unfold fV at QL;rw [if_neg nc,hm] at QL;obtain ⟨cs1,hcs1⟩:∃ cs1,cs1=cs.set k ⟨(cs[k]).kind,(cs[k]).busy,q :: lit :: r⟩:=⟨_,rfl⟩;have hk1:k < cs1.length:=by rw [hcs1];simpa using hk
 have hc1:cs1[k]=⟨(cs[k]).kind,(cs[k]).busy,q :: lit :: r⟩:=by subst hcs1;simp
 have Xm:aj cs1 k=aj cs k:=by rw [hcs1];exact kQ hk (by simp [hm]) k
 have hx2:∀ y,y ∈ q :: lit :: r->y < 2 * n:=fun y hy=>hlt y (by
  simp only [List.mem_cons] at hy
  rcases hl with e | e <;> rw [e] <;> simp only [List.mem_cons]
  ·rcases hy with h1 | h1 | h1
   ·exact .inr (.inl h1)
   ·exact .inl h1
   ·exact .inr (.inr h1)
  ·exact hy)
 have CASES:Hid ((w.cell? ⟨g,aj cs k + 3,none⟩=some (.int .i64 (lit:Nat))/\w.cell? ⟨g,aj cs k + 3 + 1,none⟩=some (.int .i64 (q:Nat))/\∀ Y,aQ Z sb Y K f V X->aQ Z sb ((Y.setCell ⟨g,aj cs k + 3,none⟩ (.int .i64 (q:Nat))).setCell ⟨g,aj cs k + 3 + 1,none⟩ (.int .i64 (lit:Nat))) K f V (upd X 0 (ints (enc cs1)))) \/
   (w.cell? ⟨g,aj cs k + 3,none⟩=some (.int .i64 (q:Nat))/\∀ Y,aQ Z sb Y K f V X->aQ Z sb Y K f V (upd X 0 (ints (enc cs1))))):=by
  rcases hl with e | e
  ·refine .inl ⟨?_,?_,fun Y hY=>?_⟩
   ·have:=jD h h0 e0 hk (i:=0) (by omega)
    simpa [e] using this
   ·have:=jD h h0 e0 hk (i:=1) (by omega)
    simpa [e] using this
   ·have:=hY.UW h0 e0 hk (i:=0) (j:=1) (by omega) (by omega) q lit
    rw [hcs1];simpa [e] using this
  ·refine .inr ⟨?_,fun Y hY=>?_⟩
   ·have:=jD h h0 e0 hk (i:=0) (by omega)
    simpa [e] using this
   ·have e2:cs1=cs:=by rw [hcs1,<- e];exact List.set_getElem_self hk
    rw [e2,<- h0,upd_same];exact hY
 have HL1:Hid (∀ Y,aQ Z sb Y K f V (upd X 0 (ints (enc cs1)))->(Y.cell? ⟨g,aj cs k + 3,none⟩=some (.int .i64 (q:Nat))/\Y.cell? ⟨g,aj cs k + 3 + 1,none⟩=some (.int .i64 (lit:Nat))/\∀ j,Y.frozen? ⟨g,j,none⟩=false)/\∀ i (hi:i < r.length),Y.cell? ⟨g,aj cs k + 3 + (i + 2),none⟩=some (.int .i64 (r[i]:Nat))):=fun Y hY=>by
  have key:∀ i (hi:i < (cs1[k]).lits.length),Y.cell? ⟨g,aj cs1 k + 3 + i,none⟩=some (.int .i64 ((cs1[k]).lits[i]:Nat)):=fun i hi=>jD hY (ae ..) e0 hk1 hi
  rw [Xm] at key;simp only [hc1] at key;exact ⟨⟨by simpa using key 0 (by simp),by simpa using key 1 (by simp),fun j=>hY.bC.K5 (k:=0) (by have:=hY.hK;omega) e0 j⟩,fun i hi=>by simpa using key (i + 2) (by simp;omega)⟩
 have MOVE:Hid (∀ Y i (hi:i < r.length),aQ Z sb Y K f V (upd X 0 (ints (enc cs1)))->aQ Z sb ((Y.setCell ⟨g,aj cs k + 3 + 1,none⟩ (.int .i64 (r[i]:Nat))).setCell ⟨g,aj cs k + 3 + (i + 2),none⟩ (.int .i64 (lit:Nat))) K f V (upd X 0 (ints (enc (cs.set k ⟨(cs[k]).kind,(cs[k]).busy,q :: r[i] :: r.set i lit⟩))))):=fun Y i hi hY=>by
  have:=hY.UW (ae ..) e0 hk1 (i:=1) (j:=i + 2) (by rw [hc1];simp) (by rw [hc1];simp;omega) r[i] lit
  rw [Xm,bE] at this;simp only [hc1] at this;simpa [hcs1] using this
 have HC1:=hide hcs1;have QT:Hid (∀ Y XX,aQ Z sb Y K f V XX->XX 3=X 3->∀ x,x < 2 * n->∃ g3 c3,Y.cell? ⟨sb,9,none⟩=some (.slice (some ⟨g3,0,none⟩) (2 * n) c3)/\Y.cell? ⟨g3,x,none⟩=some (.int .i64 (tv tr x))):=fun Y XX hY e3 x hx=>by
  obtain ⟨g3,c3,t3,e3',q3,r3,s3,_⟩:=hY.elem (k:=3) (j:=x) (by omega) (by rw [e3];exact hT.n3) hx
  rw [e3,hT.t3 x hx] at s3;obtain rfl:=Option.some.inj s3;exact ⟨g3,c3,q3,r3⟩
 have HW:=hide hW;have hrb:r.length <= 1099511627776:=by omega
 have HADR:Hid (aj cs k=aj cs k):=rfl;have GR:q < 2 * n:=hx2 q (by simp)
 have hrl:Hid (∀ y ∈ r,y < 2 * n):=fun y hy=>hx2 y (by simp [hy])
 have Ve:Hid (∀ Y V' X' i (hi:i < r.length),aC Z w Y->aQ Z sb Y K f V' X'->X' 0=ints (enc (cs.set k ⟨(cs[k]).kind,(cs[k]).busy,q :: r[i] :: r.set i lit⟩))->xX X X'->V' (16 + lit)=V (16 + lit)->tv tr q ≠ 1->tv tr r[i] ≠ -1->jm n V' X' (fun x=>if x=r[i] then wl x ++ [aj cs k] else wl x)->BK Z sb w K f V X n wl tr cs k (cs[k]).kind (cs[k]).busy lit q r (.returned (.bool true)) Y):=fun Y V' X' i hi h1 h2 h3 h4 h8 h5 h6 h7=>⟨true,V',X',rfl,h1,h2,h4,h8,.inr ⟨rfl,h5,i,r[i],List.getElem?_eq_getElem hi,h6,h3,h7⟩⟩
 have Qf:Hid (∀ Y,aC Z w Y->aQ Z sb Y K f V (upd X 0 (ints (enc cs1)))->(tv tr q=1\/(tv tr q ≠ 1/\∀ y ∈ r,tv tr y=-1))->BK Z sb w K f V X n wl tr cs k (cs[k]).kind (cs[k]).busy lit q r (.returned (.bool false)) Y):=fun Y h1 h2 h3=>⟨false,V,_,rfl,h1,h2,fun j h4 h5 h6=>aa _ _ h4,rfl,.inl ⟨rfl,by rw [ae,hcs1],HW.out.congr (aa _ _ (by decide)) (fun _ _=>rfl) (fun x hx=>aa _ _ (by omega)),h3⟩⟩
 generalize BK Z sb w K f V X n wl tr cs k (cs[k]).kind (cs[k]).busy lit q r=RET at *
 clear h hl hlt h0 hT hW r0 q0 hc1 Xm hx2 hm hcs1 e0 HC1 hk1;generalize aj cs k=a at *
 generalize enc cs=ec at *
 generalize enc cs1=I9 at *
 go_enter Tryz.func179,Tryz.ntmps179
 go_upto_region 2 with (go_at_call 175;refine (QL.out _ (by rfl)).mono ?_;rintro e7 w7 ⟨rfl,j7,rfl⟩;simp only [])
 obtain ⟨W,hWd⟩:∃ W,W=w.drewN j7:=⟨_,rfl⟩;have bW:Below w.heap.size w W:=by rw [hWd];exact below_drewN (Below.refl _ _) _
 rw [<- hWd];have SW:=hide (HS.out.later bW);have CW:Hid (aC Z w W):=aC.of_below bW;have FZW:∀ j,W.frozen? ⟨g,j,none⟩=false:=fun j=>(bW.frozen (p:=⟨g,j,none⟩) lg).trans (fz j)
 have Q0:=CASES.out;rw [<- bW.cell (p:=⟨g,a + 3,none⟩) lg,<- bW.cell (p:=⟨g,a + 3 + 1,none⟩) lg] at Q0;have m0:(0:Int) < ((r.length + 2:Nat):Int):=by omega
 have m1:(1:Int) < ((r.length + 2:Nat):Int):=by omega
 obtain ⟨l0,cl0,Vt⟩:∃ l0:Nat,W.cell? ⟨g,a + 3,none⟩=some (.int .i64 (l0:Nat))/\Hid ((l0=lit/\W.cell? ⟨g,a + 3 + 1,none⟩=some (.int .i64 (q:Nat))/\∀ Y,aQ Z sb Y K f V X->aQ Z sb ((Y.setCell ⟨g,a + 3,none⟩ (.int .i64 (q:Nat))).setCell ⟨g,a + 3 + 1,none⟩ (.int .i64 (lit:Nat))) K f V (upd X 0 (ints I9)))\/(l0=q/\∀ Y,aQ Z sb Y K f V X->aQ Z sb Y K f V (upd X 0 (ints I9)))):=by
  rcases Q0 with ⟨ca,cb,cs2⟩ | ⟨ca,cs2⟩
  ·exact ⟨lit,ca,.inl ⟨rfl,cb,cs2⟩⟩
  ·exact ⟨q,ca,.inr ⟨rfl,cs2⟩⟩
 clear hWd bW QL CASES fz Q0;go_upto_if 19 with fail
 go_cut [] from 10 (fun wx=>Hid (aQ Z sb wx K f V (upd X 0 (ints I9))/\aC Z w wx))
 case first=>
  rcases Vt.out with ⟨rfl,cb,cs2⟩ | ⟨rfl,cs2⟩
  ·have S2:=hide (cs2 _ SW.out);have f0:=FZW (a + 3);have f1:=FZW (a + 3 + 1);have C2:Hid (aC Z w ((W.setCell ⟨g,a + 3,none⟩ (.int .i64 (q:Nat))).setCell ⟨g,a + 3 + 1,none⟩ (.int .i64 (l0:Nat)))):=(CW.out.setCell zg _).setCell zg _;clear cs2 FZW;go_upto_region 3 with fail
   go_region_with fail
   all_goals
    go_wp2_with fail
    go_meet;exact ⟨S2.out.later (Below.refl _ _).drew,C2.out.drew⟩
  ·have S2:=hide (cs2 _ SW.out);have nq:¬ ((l0:Int)=(lit:Int)):=by omega
   clear cs2 FZW;go_wp2_with fail
   go_meet;exact ⟨S2.out,CW.out⟩
 case rest=>
  clear Vt SW CW FZW cl0;have S1:=hide hcut.out.1;have C1:=hide hcut.out.2;clear hcut;obtain ⟨⟨cq,-,-⟩,CR⟩:=HL1.out wc S1.out;have QTR:Hid (∀ Y:World,Y.heap=wc.heap->Calls Tryz.prog 103 #[.pointer (some ⟨sb,6,none⟩),.int .i64 (q:Nat)] Y fun e w'=>e=.returned (.bool (decide (0 < tv tr q)))/\w'=Y):=fun Y hY=>by
   obtain ⟨g3,c3,t1,t2⟩:=QT.out wc _ S1.out (aa _ _ (by decide)) q GR
   exact qD sb 6 g3 (2 * n) c3 q (tv tr q) Y (by rw [show Y.cell? ⟨sb,6 + 3,none⟩=wc.cell? ⟨sb,9,none⟩ from World.cell?_of_block (a:=⟨sb,9,none⟩) (by rw [hY])];exact t1) GR (by rw [show Y.cell? ⟨g3,q,none⟩=wc.cell? ⟨g3,q,none⟩ from World.cell?_of_block (a:=⟨g3,q,none⟩) (by rw [hY])];exact t2)
  obtain ⟨bq,hbq,HB⟩:∃ bq,decide (0 < tv tr q)=bq/\Hid (bq=true↔tv tr q=1):=⟨_,rfl,by unfold Hid;rw [decide_eq_true_iff];exact Yw tr q⟩
  rw [hbq] at QTR;clear hbq;go_upto_region 4 with fail
  go_quiet ((go_at_call 103;exact Calls.quiet_of_same (QTR.out _ (by rfl))))
  obtain ⟨W2,hW2⟩:∃ W2,W2=wc.drewN nq:=⟨_,rfl⟩;have b2:Below wc.heap.size wc W2:=by rw [hW2];exact below_drewN (Below.refl _ _) _
  rw [<- hW2];have S2:=hide (S1.out.later b2);have C2:Hid (aC Z w W2):=C1.out.trans (aC.of_below b2);clear hW2 b2 S1 C1 cq CR QTR
  cases bq with
  | true=>
   have F2:=hide (Qf.out W2 C2.out S2.out (.inl (HB.out.1 rfl)));go_wp2;exact F2.out
  | false=>
   have nq1:Hid (tv tr q ≠ 1):=fun e=>by have:=HB.out.2 e;cases this
   go_wp2;have M2:Hid (∀ Y,aQ Z sb Y K f V (upd X 0 (ints I9))->∀ i (hi:i < r.length),Calls Tryz.prog 134 #[.pointer (some ⟨sb,6,none⟩),.int .i64 (r[i]:Nat)] Y fun e w'=>e=.returned (.bool (decide (tv tr r[i] < 0)))/\w'=Y):=fun Y hY i hi=>by
    have KU:=hrl.out r[i] (List.getElem_mem hi);obtain ⟨g3,c3,t1,t2⟩:=QT.out Y _ hY (aa _ _ (by decide)) r[i] KU
    exact oq sb 6 g3 (2 * n) c3 r[i] (tv tr r[i]) Y t1 KU t2
   go_loopw [8,9] (fun i8 _ wr=>Qd Z sb w K f V (upd X 0 (ints I9)) tr r i8 wr) (fun i8 _ _=>r.length + 2 - (intOf i8).toNat)
   case atStart=>exact ⟨0,rfl,Nat.zero_le _,fun j hj h=>absurd h (Nat.not_lt_zero _),S2.out,C2.out⟩
   case round=>
    obtain ⟨i,rfl,hil,hst⟩:=hrel;clear S2 C2;by_cases hlt:i < r.length
    ·have hci:=(HL1.out wr hst.out.2.1).2 i hlt;have QF:=hide (M2.out wr hst.out.2.1 i hlt);obtain ⟨bf,hbf,HBF⟩:∃ bf,decide (tv tr r[i] < 0)=bf/\Hid (bf=true↔tv tr r[i]=-1):=⟨_,rfl,by unfold Hid;rw [decide_eq_true_iff];exact Yv tr r[i]⟩
     have hol:=hrl.out r[i] (List.getElem_mem hlt);have nlo:lit ≠ r[i]:=fun e=>hlr (by rw [e];exact List.getElem_mem hlt)
     have MV:=hide (MOVE.out wr i hlt hst.out.2.1);have WMV:=hide (fun Y V' X'=>Ve.out Y V' X' i hlt)
     have Qu:Hid (bf=true->∀ v,v=.int .i64 ((i + 1 + 2:Nat):Int)->Qd Z sb w K f V (upd X 0 (ints I9)) tr r v wr):=fun e v hv=>⟨i + 1,hv,by omega,fun j hj hji=>by
      rcases Nat.lt_succ_iff_lt_or_eq.1 hji with h1 | h1
      ·exact hst.out.1 j hj h1
      ·subst h1;exact HBF.out.1 e,hst.out.2.1,hst.out.2.2⟩
     rw [hbf] at QF;generalize r[i]=o at *
     have X9:(0:Int) <= ((i + 2:Nat):Int):=by omega
     have i11:((i + 2:Nat):Int) < ((r.length + 2:Nat):Int):=by omega
     have i22:(i:Int) + 2 < (r.length:Int) + 2:=by omega
     have i33:(0:Int) <= (i:Int) + 2:=by omega
     have i44:((i:Int) + 2).toNat=i + 2:=by omega
     clear hbf;go_upto_if 52 with (go_at_call 134;refine QF.out.mono ?_;rintro e8 w8 ⟨rfl,rfl⟩;simp only [])
     cases bf with
     | true=>
      go_wp2;go_roundw
      case rel=>exact Qu.out rfl _ (by go_num)
      case measure=>simp [intOf];omega
     | false=>
      clear Qu;have no1:Hid (tv tr o ≠ -1):=fun e=>by have:=HBF.out.2 e;cases this
      obtain ⟨⟨-,cl1,fzz⟩,-⟩:=HL1.out w8 hst.out.2.1;have fz1:=fzz (a + 3 + 1);have fz2:=fzz (a + 3 + (i + 2));have C3:Hid (aC Z w ((w8.setCell ⟨g,a + 3 + 1,none⟩ (.int .i64 (o:Nat))).setCell ⟨g,a + 3 + (i + 2),none⟩ (.int .i64 (lit:Nat)))):=(hst.out.2.2.setCell zg _).setCell zg _;have hm2:∀ XX,jm n V (upd X 0 XX) wl:=fun XX=>HW.out.congr (aa _ _ (by decide)) (fun _ _=>rfl) (fun x hx=>aa _ _ (by omega))
      obtain ⟨Pz,Zu⟩:∃ Pz,Pz=enc (cs.set k ⟨(cs[k]).kind,(cs[k]).busy,q :: o :: r.set i lit⟩):=⟨_,rfl⟩;rw [<- Zu] at MV WMV;clear hst Zu fzz HL1 MOVE QT Ve Qf M2;go_upto_region 12 with fail
      generalize hW3:(w8.setCell ⟨g,a + 3 + 1,none⟩ (.int .i64 (o:Nat))).setCell ⟨g,a + 3 + (i + 2),none⟩ (.int .i64 (lit:Nat))=W3 at MV C3 ⊢;clear hW3 cl1 fz1 fz2 hci;have Yl:=hide (hm2 (ints Pz));clear hm2;obtain ⟨g9,c9,wa,wc9,Mc,Rf,q5,qx,zx,l9,n9,z9,ox⟩:=Yl.out.at' MV.out hK2 hol;have wll:(wl o).length <= 1099511627777:=by have:=hwl o hol;omega
      have PW:=hide (fun v'=>Yl.out.push hol a v')
      have X0:(0:Int) <= (o:Int):=by omega
      have X1:(o:Int) < 2 * (n:Int):=by omega
      have SD:Hid (aQ Z sb W3.drew K f V (upd X 0 (ints Pz))):=MV.out.later (Below.refl _ _).drew;have OD:Hid (W3.drew.ownsRow 0 3 1 (.slice wa (wl o).length wc9) (wl o).length (au (wl o))):=ox;have BD:Hid (aC Z w W3.drew):=C3.out.drew;have RX:Hid ((upd X 0 (ints Pz)) (16 + o)=au (wl o)):=Yl.out.row o hol;have LX:Hid (((upd X 0 (ints Pz)) 9).length=2 * n):=Yl.out.n9;have HX9:Hid (((upd X 0 (ints Pz)) 9)[o]? = some (.slice wa (wl o).length wc9)):=by unfold Hid;rw [Yl.out.hd o hol,Rf]
      have E9:=hide Mc;have HF5:Hid (f 5=.slice (some ⟨g9,0,none⟩) (2 * n) c9):=(MV.out.hdr 9 (by omega)).trans Mc
      have EX:=hide Rf;have K3:16 + o < K:=by omega
      have hsbr:=MV.out.row.lt;have ns:¬ (sb=W3.heap.size):=by omega
      have ns9:¬ (g9=W3.heap.size):=by omega
      have XO:Hid (xX X (upd X 0 (ints Pz))):=fun j h1 h2 h3=>aa _ _ h1
      have X00:Hid ((upd X 0 (ints Pz)) 0=ints Pz):=ae ..;generalize upd X 0 (ints Pz)=XM at *
      clear Yl Mc Rf ox MV C3;go_region_law
       (refine dR _ (by rfl) _ _ 43 (by rfl) 0 3 i0 (.int .i64 0) 1 8 Tryz.underlying43 hi hz0 hz1 hz2 (by rfl) (by decide) (.slice wa (wl o).length wc9) (wl o).length (au (wl o)) (by rfl) (OD.out.alloc (Obj.cells #[.int .i64 (a:Int)] 3)) (.slice (some ⟨W3.heap.size,0,none⟩) 1 1) 1 [.int .i64 (a:Int)] (by rfl) (.inr ⟨⟨W3.heap.size,0,none⟩,1,rfl,(cell_one_new W3.drew _ _)⟩) (by rfl) (by simp [Value.oneCell']) (by unfold maxLen;omega) (by omega) (Nat.zero_le _) ?_;intro v6 w6 A6;have A7:aB (W3.drew.alloc (Obj.cells #[.int .i64 (a:Int)] 3)) 0 3 1 (V (16 + o)) (XM (16 + o)).length (XM (16 + o)) 1 [.int .i64 (a:Int)] v6 w6:=(by rw [EX.out,RX.out,ag];exact A6);have S6:=hide (SD.out.Iy K3 E9.out (m:=1) (news:=[.int .i64 (a:Int)]) rfl A7);have K6:=(SD.out.Ed K3 E9.out (by rw [LX.out];exact hol) A7);rw [HX9.out] at K6;obtain ⟨Y8,k62,k63⟩:=K6;have k64:=Y8 5 (by omega);rw [HF5.out] at k64;obtain ⟨qL,qK,hv6⟩:=aH A6.own;subst hv6;clear A6 A7 Y8)
      all_goals
       have FIN:=hide (WMV.out _ _ _ (BD.out.trans S6.out.2) S6.out.1 (by rw [aa _ _ (by decide),aa _ _ (by omega)];exact X00.out) (fun j h1 h2 h3=>by rw [aa _ _ h2,aa _ _ (by omega)];exact XO.out j h1 h2 h3) (aa _ _ (by omega)) nq1.out no1.out (PW.out _))
       clear S6;go_wp2;exact FIN.out
    ·have ei:i=r.length:=by omega
     have F2:=hide (Qf.out wr hst.out.2.2 hst.out.2.1 (.inr ⟨nq1.out,fun y hy=>by
      obtain ⟨j,hj,rfl⟩:=List.mem_iff_getElem.1 hy;exact hst.out.1 j hj (by omega)⟩))
     have i22:¬ ((i:Int) + 2 < (r.length:Int) + 2):=by omega
     go_wp2;exact F2.out
end
section
open Go Go.RowKit Go.Deep Rd
def mix (kl af:List Nat):List Nat:=kl ++ af.drop kl.length
theorem AZ (af:List Nat):mix [] af=af:=rfl
theorem jr {kl af:List Nat} (h:kl.length <= af.length):(mix kl af).length=af.length:=by unfold mix;simp;omega
theorem Wl {kl af:List Nat} {i:Nat} (h:kl.length <= i) (hi:i < af.length) (hm:i < (mix kl af).length):(mix kl af)[i]=af[i]:=by
 simp only [mix];rw [List.getElem_append_right h,List.getElem_drop]
 congr 1;omega
theorem Te {kl af:List Nat} {a:Nat} (h:kl.length < af.length):(mix kl af).set kl.length a=mix (kl ++ [a]) af:=by
 unfold mix;rw [List.set_append_right _ _ (Nat.le_refl _),Nat.sub_self,List.drop_eq_getElem_cons h,List.set_cons_zero];simp
theorem ru {kl af:List Nat}:(mix kl af).take kl.length=kl:=by unfold mix;simp
theorem kW {P:Program} {ops:Array Oper} {o:Oper} {a:Act} {w:World} {K:Act->World->Prop} {Q:Exit->Act->World->Prop} {E:Prop} (hgd:o.guard=none) (d s:Operand) (dT sT:TypeId)
  (ho:o.op=.call { callee:=.builtin .copy,args:=#[d,s],argTypes:=#[dT,sT] }) (elem:TypeId) (hu:P.underlying dT=some (.slice elem)) (hsz:(P.info? elem).map (·.size)=some 1)
  (g off:Nat) (ad:Addr) (dLen dCap sLen sCap:Nat) (hd:a.eval d=.slice (some ⟨g,off,none⟩) dLen dCap) (hs:a.eval s=.slice (some ad) sLen sCap)
  (cur:Array Value) (t:TypeId) (hg:w.heap[g]? = some (.cells cur t (0,0))) (cs:List Value) (hn:cs.length=Nat.min sLen dLen)
  (hsrc:∀ j v,cs[j]? = some v->w.cell? (ad.add j)=some v) (hfit:off + cs.length <= cur.size) (h1:∀ v ∈ cs,v.oneCell'=true) (B:Nat) (hBg:B <= g)
  (h:∀ w',Hid (w'.heap[g]? = some (.cells (splice cur.toList off cs).toArray t (0,0)))->Hid (∀ k,k ≠ g->w'.heap[k]? = w.heap[k]?)->Hid (Below B w w')->K (a.put o.dst (goInt cs.length)) w'):
  if Region.wanted o (yielded ops a.tmps)=true then Oper.wp P o a w K Q else E:=by
 have hw:Region.wanted o (yielded ops a.tmps)=true:=by simp [Region.wanted,hgd]
 rw [if_pos hw];have hrun:=run_copy_row (P:=P) w dT sT o.type elem g off dLen dCap ad sLen sCap cur t cs hu hsz hg hn hsrc hfit h1;unfold Oper.wp;simp [execOp,ho,resolve,invoke,builtin,hd,hs,hrun,Result.andThen]
 exact h _ (show _=_ by simpa [splice] using setRow_heap w g _ _ t _ hg) (fun k hk=>setRow_other w g k _ (fun e=>hk (by first | exact e | exact e.symm))) (below_setRow (Below.refl _ _) hBg _)
theorem Gx (l:List Nat) (k:Nat):au (l.take k)=(au l).take k:=(jE l k).symm
theorem Cw {kl af:List Nat} {i:Nat} {cur:List Value} (hk:kl.length <= i) (hi:i <= af.length) (hc:cur.take af.length=au (mix kl af)):
  (splice cur kl.length (au (af.drop i))).take af.length=au (kl ++ af.drop i ++ af.drop (kl.length + (af.length - i))):=by
 have hl:(au (af.drop i)).length=af.length - i:=by rw [ag];simp
 have hcl:af.length <= cur.length:=by
  have:=congrArg List.length hc;rw [ag,jr (by omega),List.length_take] at this;omega
 have h1:cur.take kl.length=au kl:=by
  have:cur.take kl.length=(cur.take af.length).take kl.length:=by rw [List.take_take];congr 1;omega
  rw [this,hc,<- Gx,ru]
 have h2:(cur.drop (kl.length + (af.length - i))).take (af.length - (kl.length + (af.length - i)))=au (af.drop (kl.length + (af.length - i))):=by
  have:(cur.drop (kl.length + (af.length - i))).take (af.length - (kl.length + (af.length - i)))=(cur.take af.length).drop (kl.length + (af.length - i)):=by rw [List.drop_take]
  rw [this,hc];unfold au mix;rw [<- List.map_drop,List.drop_append,List.drop_of_length_le (by omega),List.nil_append,List.drop_drop]
  congr 2;omega
 unfold splice;rw [hl,h1,<- List.append_assoc,List.take_append,List.take_of_length_le (by rw [List.length_append,ag,hl];omega),List.length_append,ag,hl,h2]
 unfold au;rw [List.map_append,List.map_append]
theorem PH {kl af:List Nat} {i gb cap B:Nat} {w:World} (gw:w.ownsRow B 3 1 (.slice (some ⟨gb,0,none⟩) af.length cap) af.length (au (mix kl af))) (hk:kl.length <= i):
  ∀ j v,(au (af.drop i))[j]? = some v->w.cell? (Addr.add ⟨gb,i,none⟩ j)=some v:=fun x v hx=>by
 have hx2:x < (au (af.drop i)).length:=by
  rcases Nat.lt_or_ge x (au (af.drop i)).length with h | h
  ·exact h
  ·rw [List.getElem?_eq_none h] at hx;cases hx
 rw [ag,List.length_drop] at hx2;have hc:=gw.cellAt (i + x) (by omega)
 have ea:Addr.add ⟨gb,i,none⟩ x=⟨gb,i + x,none⟩:=by simp [Addr.add]
 rw [ea,hc,<- hx];unfold au mix;rw [List.getElem?_map,List.getElem?_map,List.getElem?_append_right (by omega),List.getElem?_drop,List.getElem?_drop]
 congr 2;omega
theorem NT (xs:List Nat):∀ v ∈ au xs,v.oneCell'=true:=fun v hv=>by
 unfold au at hv;obtain ⟨x,_,rfl⟩:=List.mem_map.1 hv;rfl
variable {Z:Nat->Prop} {sb K:Nat} {w w':World} {f V:Nat->Value} {X:Nat->List Value}
theorem aQ.ve (h:aQ Z sb w K f V X) {k:Nat} (hk:k < K) {gb m cap:Nat} (hv:V k=.slice (some ⟨gb,0,none⟩) m cap) {R:List Value} (own:w'.ownsRow 0 (iC k) 1 (V k) R.length R) (ho:∀ j,j ≠ gb->w'.heap[j]? = w.heap[j]?) (hb:Below 0 w w'):aQ Z sb w' K f V (upd X k R)/\aC Z w w':=by
 have hne:gb ≠ sb:=h.far hk gb (by rw [hv];rfl)
 refine ⟨⟨h.row.of_block (ho sb (fun e=>hne e.symm)),⟨fun i hi=>?_,h.bC.apart⟩,h.hdr,h.fZ,h.al,fun g hg=>h.az g (Nat.le_trans hb.size hg),h.hK⟩,hb,fun g hg hz=>ho g (fun e=>hz (e ▸ h.al k hk gb (by rw [hv];rfl)))⟩
 by_cases e:i=k
 ·subst e;rw [ae];exact own
 ·rw [aa _ _ e];refine ownB (h.bC.own i hi) fun g hg=>ho g fun e2=>?_
  rcases h.bC.apart i k hi hk e with h1 | h1
  ·rw [hg] at h1;cases h1
  ·exact h1 (by rw [hg,hv,e2];rfl)
theorem aQ.copied (h:aQ Z sb w K f V X) {x gb cap i:Nat} {kl af:List Nat} {cur:Array Value} (hx:16 + x < K) (hv:V (16 + x)=.slice (some ⟨gb,0,none⟩) af.length cap) (hX:X (16 + x)=au (mix kl af)) (hk:kl.length <= i) (hi:i <= af.length)
  (hg:w.heap[gb]? = some (.cells cur 3 (0,0))) (h':w'.heap[gb]? = some (.cells (splice cur.toList kl.length (au (af.drop i))).toArray 3 (0,0))) (ho:∀ k,k ≠ gb->w'.heap[k]? = w.heap[k]?) (hb:Below 0 w w'):
  aQ Z sb w' K f V (upd X (16 + x) (au (kl ++ af.drop i ++ af.drop (kl.length + (af.length - i)))))/\aC Z w w':=by
 have hw:=h.bC.own (16 + x) hx;have hlen:(kl ++ af.drop i ++ af.drop (kl.length + (af.length - i))).length=af.length:=by simp;omega
 refine h.ve hx hv ?_ ho hb;rw [rJ] at hw ⊢;rw [hX,ag,jr (by omega)] at hw
 rw [ag,hlen];refine ⟨by rw [ag,hlen];omega,?_⟩
 rcases hw.2 with ⟨e,_⟩ | ⟨g,cap',cur',e,hb',hg',hn,hm,hs,ht⟩
 ·rw [hv] at e;cases e
 ·have e2:=e;rw [hv] at e2;obtain ⟨q1,q2,q3⟩:=Value.slice.inj e2;have q4:g=gb:=by have:=Option.some.inj q1;exact (congrArg Addr.block this).symm
  subst q4;rw [hg] at hg';have q5:cur=cur':=by cases hg';rfl
  subst q5;simp only [Nat.mul_one] at hs ht ⊢;refine .inr ⟨g,cap',_,e,hb',h',hn,hm,?_,?_⟩
  ·have:(au (af.drop i)).length=af.length - i:=by rw [ag];simp
   simp only [List.size_toArray];rw [length_splice _ _ _ (by rw [this];simp;omega)];simp;omega
  ·simp only [Nat.mul_one];exact Cw hk hi ht
theorem vR (l:List Value) (o:Nat):splice l o []=l:=by unfold splice;simp
end
section
variable {n:Nat} {tr ch:List Nat} {lev:Nat->Nat} {C:eX} {rea:Nat->Int} {wl:Nat->List Nat} {P:Nat}
structure PI (n:Nat) (C:eX) (tr ch:List Nat) (lev:Nat->Nat) (rea:Nat->Int) (wl:Nat->List Nat) (P:Nat):Prop where
 aI:fM n tr ch lev
 lK:lh C tr ch rea
 jc:uI n C
 kT:qI n C wl
 uo:nI C tr lev P
theorem fM.low (h:fM n tr ch lev) {d:Nat} (hd:d < ch.length) {x:Nat} (hx:x ∈ tr) (hl:lev (x / 2) <= d):x ∈ tr.take ch[d]:=by
 obtain ⟨j,hj,e⟩:=List.mem_iff_getElem.1 hx;have h1:=h.lev j hj;rw [e] at h1;have h2:=(cnt_lt h.dX hd (i:=j)).1 (by omega)
 exact List.mem_iff_getElem.2 ⟨j,by rw [List.length_take];omega,by rw [List.getElem_take];exact e⟩
theorem fM.Tk (h:fM n tr ch lev) {d:Nat} (hd:d < ch.length) {x:Nat} (hx:x ∈ tr.take ch[d]):lev (x / 2) <= d:=by
 obtain ⟨j,hj,e⟩:=List.mem_iff_getElem.1 hx;rw [List.length_take] at hj;rw [List.getElem_take] at e;have h1:=h.lev j (by omega)
 rw [e] at h1;have:=(cnt_lt h.dX hd (i:=j)).2 (by omega)
 omega
theorem tL.back (h:tL C tr lev) (ht:fM n tr ch lev) {d:Nat} (hd:d < ch.length):tL C (tr.take ch[d]) lev:=fun a c h1 h2 h3=>by
 obtain ⟨x,g1,g2,g3⟩:=h a c h1 h2 h3;exact ⟨x,g1,ht.low hd g2 (by omega),g3⟩
theorem tL.assign (h:tL C tr lev) {x v:Nat} (ho:tv tr x=0):tL C (tr ++ [x]) (bB lev (x / 2) v):=fun a c h1 h2 h3=>by
 obtain ⟨y,g1,g2,g3⟩:=h a c h1 h2 h3;exact ⟨y,g1,List.mem_append_left _ g2,by rw [ah _ _ (jd ho g2)];exact g3⟩
theorem tL.new {a:Nat} {c:uY} (h:tL C tr lev) (hn:c.kind ≠ 2->c.lits.length < 2->∃ x,c.lits=[x]/\x ∈ tr/\lev (x / 2)=0):tL (ik C a c) tr lev:=fun b d h1 h2 h3=>by
 by_cases e:b=a
 ·subst e;rw [aZ] at h1;cases h1;exact hn h2 h3
 ·rw [aJ _ _ e] at h1;exact h b d h1 h2 h3
theorem tL.same {C':eX} (h:tL C tr lev) (hs:Qn C C'):tL C' tr lev:=fun b d h1 h2 h3=>by
 rcases hs b with ⟨_,g⟩ | ⟨c,c',g1,g2,g3,g4⟩
 ·rw [h1] at g;cases g
 ·rw [h1] at g2;cases g2
  obtain ⟨x,k1,k2,k3⟩:=h b c g1 (by rw [<- g3];exact h2) (by rw [<- g4.length_eq];exact h3)
  refine ⟨x,?_,k2,k3⟩;rw [k1] at g4;exact List.perm_singleton.1 g4
theorem tL.NV {C':eX} {ro:Nat->Nat} (h:tL C tr lev) (hm:Fs C C' ro):tL C' tr lev:=fun b d h1 h2 h3=>by
 obtain ⟨a,g1,g2,_⟩:=hm.from' b d h1
 exact h a d g1 g2 h3
structure Jn (tr ch:List Nat) (lev:Nat->Nat) (x:Nat) (ks:List Nat) (d:Nat):Prop where
 hx:op x ∈ tr/\lev (x / 2)=ch.length
 hks:∀ y ∈ ks,op y ∈ tr/\lev (y / 2) < ch.length/\lev (y / 2) <= d
 nd:(ks.map (· / 2)).Nodup
 dl:d < ch.length
 hd:(ks=[]/\d=0)\/∃ q r,ks=q :: r/\lev (q / 2)=d
theorem Jn.open {x d:Nat} {ks:List Nat} (h:Jn tr ch lev x ks d) (ht:fM n tr ch lev):tv (tr.take (ch[d]'h.dl)) x=0:=by
 refine qM.2 ⟨fun hm=>ht.jP (List.mem_of_mem_take hm) h.hx.1,fun hm=>?_⟩
 have:=ht.Tk h.dl hm;rw [dC,h.hx.2] at this;have:=h.dl;omega
theorem Jn.vars {x d:Nat} {ks:List Nat} (h:Jn tr ch lev x ks d):((x :: ks).map (· / 2)).Nodup:=by
 rw [List.map_cons,List.nodup_cons];refine ⟨fun hm=>?_,h.nd⟩
 obtain ⟨y,hy,e⟩:=List.mem_map.1 hm;have e:y / 2=x / 2:=e;have:=(h.hks y hy).2.1;rw [e,h.hx.2] at this;omega
theorem Jn.lt {x d:Nat} {ks:List Nat} (h:Jn tr ch lev x ks d) (ht:fM n tr ch lev):∀ y ∈ x :: ks,y < 2 * n:=fun y hy=>by
 have:op y ∈ tr:=by
  rcases List.mem_cons.1 hy with rfl | hy
  ·exact h.hx.1
  ·exact (h.hks y hy).1
 have:=uy (ht.lt _ this)
 rwa [gQ] at this
theorem PI.learn {x d a:Nat} {ks:List Nat} (h:PI n C tr ch lev rea wl P) (hl:Jn tr ch lev x ks d) (hP:∀ p ∈ ch,p <= P) (hn:C a=none) (iO:Nat->List Nat)
  (hw:∀ q r,ks=q :: r->iO x=wl x ++ [a]/\iO q=wl q ++ [a]/\∀ y,y ≠ x->y ≠ q->iO y=wl y) (hw0:ks=[]->iO=wl):
  PI n (ik C a ⟨1,x :: ks⟩) (tr.take (ch[d]'hl.dl) ++ [x]) (ch.take d) (bB lev (x / 2) d) (bB rea (x / 2) (a:Nat)) iO (ch[d]'hl.dl):=by
 have hd:=hl.dl;have ht:=h.aI.back hd;have ho:=hl.open h.aI;have hxl:x < 2 * n:=hl.lt h.aI x (List.mem_cons_self ..);have Xe:(ch.take d).length=d:=by rw [List.length_take];omega
 have hcd:ch[d] < tr.length:=h.aI.dX.2 _ (List.getElem_mem hd);have tl:(tr.take ch[d]).length=ch[d]:=by rw [List.length_take];omega
 have Vd:∀ y ∈ ks,op y ∈ tr.take ch[d]:=fun y hy=>h.aI.low hd (hl.hks y hy).1 (by rw [dC];exact (hl.hks y hy).2.2)
 have ta:=ht.assign hxl ho;rw [Xe] at ta;have nv:∀ y ∈ ks,y / 2 ≠ x / 2:=fun y hy e=>by
  have:=(hl.hks y hy).2.1;rw [e,hl.hx.2] at this;omega
 exact {
  aI:=ta
  lK:=by
   have:=(h.lK.back h.aI hd).new (c:=⟨1,x :: ks⟩) hn;exact this.assign ht ho (aZ ..) (show (1:Nat) ≠ 2 by decide) rfl Vd
  jc:=h.jc.new hl.vars (hl.lt h.aI)
  kT:=by
   match e:ks with
   | []=>rw [hw0 rfl];exact h.kT.Tc hn (by simp)
   | q :: r=>
    obtain ⟨g1,g2,g3⟩:=hw q r rfl;refine h.kT.YU hn (show (1:Nat) ≠ 2 by decide) (p:=x) (q:=q) (r:=r) rfl (fun e2=>nv q (by simp) (by rw [e2])) g1 g2 g3
  uo:=by
   have s1:=h.uo.back h.aI hd (hP _ (List.getElem_mem hd));have s2:=s1.assign (x:=x) (v:=d) (by rw [tl];exact Nat.le_refl _) ho
   refine s2.new fun p q r _ e=>?_
   obtain ⟨rfl,rfl⟩:=List.cons.inj e
   rcases hl.hd with ⟨e1,_⟩ | ⟨q',r',e1,e2⟩
   ·cases e1
   ·obtain ⟨rfl,rfl⟩:=List.cons.inj e1;refine ⟨fun i hi hip ei=>?_,fun i hi hip ei=>?_⟩
    ·rw [List.getElem_append_left (by omega)] at ei
     exact absurd (ei ▸ List.getElem_mem _) (qM.1 ho).2
    ·refine ⟨by simp,?_⟩
     rw [aD,ah _ _ (nv q (by simp)),e2];exact Nat.le_refl _ }
theorem tL.learn {x d a:Nat} {ks:List Nat} (h:tL C tr lev) (ht:fM n tr ch lev) (hl:Jn tr ch lev x ks d):tL (ik C a ⟨1,x :: ks⟩) (tr.take (ch[d]'hl.dl) ++ [x]) (bB lev (x / 2) d):=
 ((h.back ht hl.dl).assign (hl.open ht)).new fun _ h2=>by
  match e:ks with
  | q :: r=>simp at h2;omega
  | []=>
   rcases hl.hd with ⟨_,e1⟩ | ⟨q',r',e1,_⟩
   ·exact ⟨x,rfl,by simp,by rw [aD];exact e1⟩
   ·cases e1
theorem DD {L:List Rd.Cl} (hL:∀ a c,C a=some c->c.kind ≠ 2->There L c.lits) (ht:fM n tr ch lev) (hre:lh C tr ch rea) (hd0:0 < ch.length) {c0:List Nat} (hc0:There L c0) (hf:∀ y ∈ c0,op y ∈ tr) {i:Nat} {s:Lk} (h:vF tr ch lev (fG C rea) ch[ch.length - 1] c0 (i + 1) s) (hi:i < tr.length) (hs:s.seen (tr[i] / 2)=true) (ho:s.opn=1)
  {fol:Nat->Bool} (hsm:Qj tr (fG C rea) s.seen ch[ch.length - 1] fol) {ks:List Nat} {d:Nat} (hks:ks.Perm (s.bn.filter fun y=>!bg (fG C rea) fol (y / 2))) (hle:∀ y ∈ ks,lev (y / 2) <= d) (hd:(ks=[]/\d=0)\/∃ q r,ks=q :: r/\lev (q / 2)=d):
  Jn tr ch lev (op tr[i]) ks d/\Rd.bH L ((op tr[i] :: ks).map wr):=by
 have hm:∀ y ∈ ks,y ∈ s.bn:=fun y hy=>(List.mem_filter.1 (hks.mem_iff.1 hy)).1
 have hlast:ch[ch.length - 1] <= i:=by
  obtain ⟨j,ej,hl⟩:=h.more;omega
 have hlx:lev (tr[i] / 2)=ch.length:=(rC ht hd0 hi).2 hlast;refine ⟨{
  hx:=by rw [gQ,dC];exact ⟨List.getElem_mem hi,hlx⟩
  hks:=fun y hy=>by
   obtain ⟨g1,g2,g3⟩:=h.tail ht (hm y hy);exact ⟨g1,g3,hle y hy⟩
  nd:=by
   have:(s.bn.filter fun y=>!bg (fG C rea) fol (y / 2)).map (· / 2) |>.Nodup:=h.lk.nd.sublist (List.filter_sublist.map _)
   exact (hks.map _).nodup_iff.2 this
  dl:=by
   rcases hd with ⟨_,e⟩ | ⟨q,r,e1,e2⟩
   ·omega
   ·have:=(h.tail ht (hm q (by rw [e1];simp))).2.2
    omega
  hd:=hd },?_⟩
 have T:=hre.trail ht hL;have HL:=(Ky T ht hre hd0 h hi hs ho hsm).conf T hc0 hf;refine yo HL fun y hy=>?_
 rcases List.mem_cons.1 hy with rfl | hy
 ·exact List.mem_cons_self ..
 ·obtain ⟨z,hz,rfl⟩:=List.mem_map.1 hy;rw [gQ];exact List.mem_cons_of_mem _ (hks.mem_iff.2 hz)
theorem fM.len (h:fM n tr ch lev):tr.length <= n:=by
 have:=fw n (tr.map (· / 2)) h.nodup (fun v hv=>by
  obtain ⟨x,hx,rfl⟩:=List.mem_map.1 hv;have:=h.lt x hx;omega)
 simpa using this
theorem fM.depth (h:fM n tr ch lev):ch.length <= n:=by
 have nd:ch.Nodup:=h.dX.1.imp (fun h=>by omega)
 have:=fw tr.length ch nd h.dX.2;have:=h.len;omega
end
end So
end Go.Proofs.YtceahffmenbibaaGreatDoor
