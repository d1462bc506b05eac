/- Swot Scpy Slrn Sfls Sfwk Sspr. -/
import Derived.Test.YtceahffmenbibaaGreatDoorH02
import Derived.Laws.CopyOwn
set_option linter.unusedVariables false
set_option linter.unusedSimpArgs false
set_option maxHeartbeats 4000000
set_option maxRecDepth 100000
namespace Go.Proofs.YtceahffmenbibaaGreatDoor
namespace So
section
open Go Go.RowKit Go.Deep Rd
section
variable {Z:Nat->Prop} {sb K:Nat} {w w':World} {f V:Nat->Value} {X:Nat->List Value} {n:Nat} {wl:Nat->List Nat} {tr ch:List Nat} {lev:Nat->Nat} {rea:Nat->Int}
theorem rD.MN {B:Nat} {T:Nat->TypeId} (h:rD B w K T V X) {k:Nat} (o:k < K) {g m cap:Nat} (d:V k=.slice (some ⟨g,0,none⟩) m cap) (j:Nat):w.frozen? ⟨g,j,none⟩=false:=by
 have b:=h.own k o;rw [d] at b;have l:m=(X k).length:=by
  obtain ⟨a,c,e⟩:=dH b;exact (Value.slice.inj e).2.1
 subst l;exact b.frozenAt j
theorem Xi (tr:List Nat) (x:Nat):tv tr x < 0↔tv tr x=-1:=by unfold tv;split <;> (try split) <;> omega
theorem Xj (tr:List Nat) (x:Nat):0 < tv tr x↔tv tr x=1:=by unfold tv;split <;> (try split) <;> omega
theorem mV {cs:List Rec} (a:dQ Z sb w K f V X) (e:X 0=ints (enc cs)) {g N c:Nat} (h:V 0=.slice (some ⟨g,0,none⟩) N c) {k:Nat} (b:k < cs.length) {i:Nat} (hi:i < (cs[k]).lits.length):w.cell? ⟨g,dn cs k + 3 + i,none⟩=some (.int .i64 ((cs[k]).lits[i]:Nat)):=by
 have d:=eD b;have l:(X 0).length=(enc cs).length:=by rw [e,fU]
 rw [(a.eH.cell (k:=0) (by have:=a.hK;omega) h (j:=dn cs k + 3 + i) (by omega)).1];exact Cx e (xB b hi)
def zQ (X X':Nat->List Value):Prop:=∀ k,k ≠ 0->k ≠ 9->k < 16->X' k=X k
def DJ (Z:Nat->Prop) (sb:Nat) (w:World) (K:Nat) (f V:Nat->Value) (X:Nat->List Value) (n:Nat) (wl:Nat->List Nat) (tr:List Nat) (cs:List Rec) (k:Nat) (kd:Nat) (bs:Int) (lit q:Nat) (r:List Nat) (e:Ending) (w':World):Prop:=
 ∃ b V' X',e=.returned (.bool b)/\dB Z w w'/\dQ Z sb w' K f V' X'/\zQ X X'/\V' (16 + lit)=V (16 + lit)/\
  ((b=false/\X' 0=ints (enc (cs.set k ⟨kd,bs,q :: lit :: r⟩))/\mH n V' X' wl/\(tv tr q=1\/(tv tr q ≠ 1/\∀ y ∈ r,tv tr y=-1))) \/
   (b=true/\tv tr q ≠ 1/\∃ j o,r[j]? = some o/\tv tr o ≠ -1/\X' 0=ints (enc (cs.set k ⟨kd,bs,q :: o :: r.set j lit⟩))/\mH n V' X' (fun x=>if x=o then wl x ++ [dn cs k] else wl x)))
def Rf (Z:Nat->Prop) (sb:Nat) (w:World) (K:Nat) (f V:Nat->Value) (X:Nat->List Value) (tr r:List Nat) (i8:Value) (wr:World):Prop:=
 ∃ i:Nat,i8=.int .i64 ((i + 2:Nat):Int)/\i <= r.length/\Hid ((∀ j (hj:j < r.length),j < i->tv tr r[j]=-1)/\dQ Z sb wr K f V X/\dB Z w wr)
theorem dQ.U6 {cs:List Rec} (h:dQ Z sb w K f V X) (q:X 0=ints (enc cs)) {g N c:Nat} (m:V 0=.slice (some ⟨g,0,none⟩) N c) {k:Nat} (d:k < cs.length) {i j:Nat} (hi:i < (cs[k]).lits.length) (o:j < (cs[k]).lits.length) (x y:Nat):
  dQ Z sb ((w.setCell ⟨g,dn cs k + 3 + i,none⟩ (.int .i64 (x:Nat))).setCell ⟨g,dn cs k + 3 + j,none⟩ (.int .i64 (y:Nat))) K f V (upd X 0 (ints (enc (cs.set k ⟨(cs[k]).kind,(cs[k]).busy,((cs[k]).lits.set i x).set j y⟩)))):=by
 have l:0 < K:=by have:=h.hK;omega
 have a:=(h.set (k:=0) l m (dn cs k + 3 + i) (.int .i64 (x:Nat))).set (k:=0) l m (dn cs k + 3 + j) (.int .i64 (y:Nat));rw [cz,eP,q,ints_set,ints_set] at a;have r:=y7 d hi x;have b:k < (cs.set k ⟨(cs[k]).kind,(cs[k]).busy,(cs[k]).lits.set i x⟩).length:=by simpa using d
 have e:=y7 (cs:=cs.set k ⟨(cs[k]).kind,(cs[k]).busy,(cs[k]).lits.set i x⟩) b (i:=j) (by simpa using o) y;rw [oD d (by simp),r] at e;simp only [List.getElem_set_self,List.set_set] at e;rw [<- e] at a;exact a
theorem uQ {cs:List Rec} {k lit q:Nat} {r:List Nat} (h:dQ Z sb w K f V X) (aN:K=16 + 2 * n) (h0:X 0=ints (enc cs)) (U:k < cs.length) (hl:(cs[k]).lits=lit :: q :: r\/(cs[k]).lits=q :: lit :: r) (bc:lit ≠ q) (aJ:lit ∉ r) (t:∀ y ∈ (cs[k]).lits,y < 2 * n) (hn:n <= 50) (hN:(enc cs).length <= 1099511627776) (hT:lU n X tr ch lev rea) (hW:mH n V X wl) (aH:∀ x,x < 2 * n->(wl x).length <= 1099511627776):
  Calls Tryz.prog 179 #[.pointer (some ⟨sb,0,none⟩),.int .i64 (dn cs k:Nat),.int .i64 (lit:Nat)] w fun e w'=>DJ Z sb w K f V X n wl tr cs k (cs[k]).kind (cs[k]).busy lit q r e w':=by
 obtain ⟨i0,G,aG,aF,aE⟩:=info_parts Tryz.fO;obtain ⟨g,c,e0,q0,hc,lg,ng,zg,r0,-,-,-,fz⟩:=fH h h0 U;have aY:=eD U;have HS:=hide h
 have hm:(cs[k]).lits.length=r.length + 2:=by rcases hl with e | e <;> rw [e] <;> simp
 have QL:Hid (∀ Y:World,Y.heap=w.heap->Calls Tryz.prog 175 #[.pointer (some ⟨sb,2,none⟩),.int .i64 (dn cs k:Nat)] Y fun e w'=>e=.returned (jw g (dn cs k) (cs[k]).lits.length c)/\∃ j,w'=Y.drewN j):=fun Y u=>iY sb 2 g (enc cs).length c (dn cs k) (cs[k]).lits.length Y (by rw [show Y.cell? ⟨sb,2,none⟩=w.cell? ⟨sb,2,none⟩ from World.cell?_of_block (a:=⟨sb,2,none⟩) (by rw [u])];exact q0) (by omega) (by unfold maxLen;omega) hc (by rw [show Y.cell? ⟨g,dn cs k,none⟩=w.cell? ⟨g,dn cs k,none⟩ from World.cell?_of_block (a:=⟨g,dn cs k,none⟩) (by rw [u])];exact r0)
 have nc:¬ (c=dn cs k + 3):=by omega
 unfold jw at QL;rw [if_neg nc,hm] at QL;obtain ⟨b,d⟩:∃ b,b=cs.set k ⟨(cs[k]).kind,(cs[k]).busy,q :: lit :: r⟩:=⟨_,rfl⟩;have ag:k < b.length:=by rw [d];simpa using U
 have M:b[k]=⟨(cs[k]).kind,(cs[k]).busy,q :: lit :: r⟩:=by subst d;simp
 have am:dn b k=dn cs k:=by rw [d];exact oD U (by simp [hm]) k
 have af:∀ y,y ∈ q :: lit :: r->y < 2 * n:=fun y hy=>t y (by
  simp only [List.mem_cons] at hy
  rcases hl with e | e <;> rw [e] <;> simp only [List.mem_cons]
  ·rcases hy with B | B | B
   ·exact .inr (.inl B)
   ·exact .inl B
   ·exact .inr (.inr B)
  ·exact hy)
 have R:Hid ((w.cell? ⟨g,dn cs k + 3,none⟩=some (.int .i64 (lit:Nat))/\w.cell? ⟨g,dn cs k + 3 + 1,none⟩=some (.int .i64 (q:Nat))/\∀ Y,dQ Z sb Y K f V X->dQ Z sb ((Y.setCell ⟨g,dn cs k + 3,none⟩ (.int .i64 (q:Nat))).setCell ⟨g,dn cs k + 3 + 1,none⟩ (.int .i64 (lit:Nat))) K f V (upd X 0 (ints (enc b)))) \/
   (w.cell? ⟨g,dn cs k + 3,none⟩=some (.int .i64 (q:Nat))/\∀ Y,dQ Z sb Y K f V X->dQ Z sb Y K f V (upd X 0 (ints (enc b))))):=by
  rcases hl with e | e
  ·refine .inl ⟨?_,?_,fun Y u=>?_⟩
   ·have:=mV h h0 e0 U (i:=0) (by omega);simpa [e] using this
   ·have:=mV h h0 e0 U (i:=1) (by omega);simpa [e] using this
   ·have:=u.U6 h0 e0 U (i:=0) (j:=1) (by omega) (by omega) q lit;rw [d];simpa [e] using this
  ·refine .inr ⟨?_,fun Y u=>?_⟩
   ·have:=mV h h0 e0 U (i:=0) (by omega);simpa [e] using this
   ·have e2:b=cs:=by rw [d,<- e];exact List.set_getElem_self U
    rw [e2,<- h0,upd_same];exact u
 have aa:Hid (∀ Y,dQ Z sb Y K f V (upd X 0 (ints (enc b)))->(Y.cell? ⟨g,dn cs k + 3,none⟩=some (.int .i64 (q:Nat))/\Y.cell? ⟨g,dn cs k + 3 + 1,none⟩=some (.int .i64 (lit:Nat))/\∀ j,Y.frozen? ⟨g,j,none⟩=false)/\∀ i (G:i < r.length),Y.cell? ⟨g,dn cs k + 3 + (i + 2),none⟩=some (.int .i64 (r[i]:Nat))):=fun Y u=>by
  have L:∀ i (G:i < (b[k]).lits.length),Y.cell? ⟨g,dn b k + 3 + i,none⟩=some (.int .i64 ((b[k]).lits[i]:Nat)):=fun i G=>mV u (cz ..) e0 ag G
  rw [am] at L;simp only [M] at L;exact ⟨⟨by simpa using L 0 (by simp),by simpa using L 1 (by simp),fun j=>u.eH.MN (k:=0) (by have:=u.hK;omega) e0 j⟩,fun i G=>by simpa using L (i + 2) (by simp;omega)⟩
 have ad:Hid (∀ Y i (G:i < r.length),dQ Z sb Y K f V (upd X 0 (ints (enc b)))->dQ Z sb ((Y.setCell ⟨g,dn cs k + 3 + 1,none⟩ (.int .i64 (r[i]:Nat))).setCell ⟨g,dn cs k + 3 + (i + 2),none⟩ (.int .i64 (lit:Nat))) K f V (upd X 0 (ints (enc (cs.set k ⟨(cs[k]).kind,(cs[k]).busy,q :: r[i] :: r.set i lit⟩))))):=fun Y i G u=>by
  have:=u.U6 (cz ..) e0 ag (i:=1) (j:=i + 2) (by rw [M];simp) (by rw [M];simp;omega) r[i] lit;rw [am,eP] at this;simp only [M] at this;simpa [d] using this
 have aV:=hide d;have QT:Hid (∀ Y XX,dQ Z sb Y K f V XX->XX 3=X 3->∀ x,x < 2 * n->∃ N c3,Y.cell? ⟨sb,9,none⟩=some (.slice (some ⟨N,0,none⟩) (2 * n) c3)/\Y.cell? ⟨N,x,none⟩=some (.int .i64 (tv tr x))):=fun Y XX u e3 x hx=>by
  obtain ⟨N,c3,t3,be,q3,r3,s3,_⟩:=u.elem (k:=3) (j:=x) (by omega) (by rw [e3];exact hT.n3) hx;rw [e3,hT.t3 x hx] at s3;obtain rfl:=Option.some.inj s3;exact ⟨N,c3,q3,r3⟩
 have HW:=hide hW;have bb:r.length <= 1099511627776:=by omega
 have aZ:Hid (dn cs k=dn cs k):=rfl;have au:q < 2 * n:=af q (by simp);have ar:Hid (∀ y ∈ r,y < 2 * n):=fun y hy=>af y (by simp [hy])
 have O:Hid (∀ Y V' X' i (G:i < r.length),dB Z w Y->dQ Z sb Y K f V' X'->X' 0=ints (enc (cs.set k ⟨(cs[k]).kind,(cs[k]).busy,q :: r[i] :: r.set i lit⟩))->zQ X X'->V' (16 + lit)=V (16 + lit)->tv tr q ≠ 1->tv tr r[i] ≠ -1->mH n V' X' (fun x=>if x=r[i] then wl x ++ [dn cs k] else wl x)->DJ Z sb w K f V X n wl tr cs k (cs[k]).kind (cs[k]).busy lit q r (.returned (.bool true)) Y):=fun Y V' X' i G B h2 h3 h4 h8 h5 h6 h7=>⟨true,V',X',rfl,B,h2,h4,h8,.inr ⟨rfl,h5,i,r[i],List.getElem?_eq_getElem G,h6,h3,h7⟩⟩
 have D:Hid (∀ Y,dB Z w Y->dQ Z sb Y K f V (upd X 0 (ints (enc b)))->(tv tr q=1\/(tv tr q ≠ 1/\∀ y ∈ r,tv tr y=-1))->DJ Z sb w K f V X n wl tr cs k (cs[k]).kind (cs[k]).busy lit q r (.returned (.bool false)) Y):=fun Y B h2 h3=>⟨false,V,_,rfl,B,h2,fun j h4 h5 h6=>cu _ _ h4,rfl,.inl ⟨rfl,by rw [cz,d],HW.out.congr (cu _ _ (by decide)) (fun _ _=>rfl) (fun x hx=>cu _ _ (by omega)),h3⟩⟩
 generalize DJ Z sb w K f V X n wl tr cs k (cs[k]).kind (cs[k]).busy lit q r=bg at *
 clear h hl t h0 hT hW r0 q0 M am af hm d e0 aV ag;generalize dn cs k=a at *
 generalize enc cs=ec at *
 generalize enc b=I at *
 go_enter Tryz.func179,Tryz.ntmps179
 go_upto_region 2 with (go_at_call 175;refine (QL.out _ (by rfl)).mono ?_;rintro e7 w7 ⟨rfl,j7,rfl⟩;simp only [])
 obtain ⟨W,ah⟩:∃ W,W=w.drewN j7:=⟨_,rfl⟩;have bW:Below w.heap.size w W:=by rw [ah];exact Go.below_drewN bR _
 rw [<- ah];have SW:=hide (HS.out.later bW);have CW:Hid (dB Z w W):=dB.of_below bW;have Q:∀ j,W.frozen? ⟨g,j,none⟩=false:=fun j=>(bW.frozen (p:=⟨g,j,none⟩) lg).trans (fz j)
 have E:=R.out;rw [<- bW.cell (p:=⟨g,a + 3,none⟩) lg,<- bW.cell (p:=⟨g,a + 3 + 1,none⟩) lg] at E;have m0:(0:Int) < ((r.length + 2:Nat):Int):=by omega
 have m1:(1:Int) < ((r.length + 2:Nat):Int):=by omega
 obtain ⟨l0,aR,S⟩:∃ l0:Nat,W.cell? ⟨g,a + 3,none⟩=some (.int .i64 (l0:Nat))/\Hid ((l0=lit/\W.cell? ⟨g,a + 3 + 1,none⟩=some (.int .i64 (q:Nat))/\∀ Y,dQ Z sb Y K f V X->dQ Z sb ((Y.setCell ⟨g,a + 3,none⟩ (.int .i64 (q:Nat))).setCell ⟨g,a + 3 + 1,none⟩ (.int .i64 (lit:Nat))) K f V (upd X 0 (ints I)))\/(l0=q/\∀ Y,dQ Z sb Y K f V X->dQ Z sb Y K f V (upd X 0 (ints I)))):=by
  rcases E with ⟨ca,cb,z⟩ | ⟨ca,z⟩
  ·exact ⟨lit,ca,.inl ⟨rfl,cb,z⟩⟩
  ·exact ⟨q,ca,.inr ⟨rfl,z⟩⟩
 clear ah bW QL R fz E;go_upto_if 19 with fail
 go_cut [] from 10 (fun wx=>Hid (dQ Z sb wx K f V (upd X 0 (ints I))/\dB Z w wx))
 case first=>
  rcases S.out with ⟨rfl,cb,z⟩ | ⟨rfl,z⟩
  ·have S2:=hide (z _ SW.out);have f0:=Q (a + 3);have f1:=Q (a + 3 + 1);have C2:Hid (dB Z w ((W.setCell ⟨g,a + 3,none⟩ (.int .i64 (q:Nat))).setCell ⟨g,a + 3 + 1,none⟩ (.int .i64 (l0:Nat)))):=(CW.out.setCell zg _).setCell zg _;clear z Q;go_upto_region 3 with fail
   go_region_with fail
   all_goals
    go_wp2_with fail
    go_meet;exact ⟨S2.out.later bR.drew,C2.out.drew⟩
  ·have S2:=hide (z _ SW.out);have nq:¬ ((l0:Int)=(lit:Int)):=by omega
   clear z Q;go_wp2_with fail
   go_meet;exact ⟨S2.out,CW.out⟩
 case rest=>
  clear S SW CW Q aR;have S1:=hide hcut.out.1;have C1:=hide hcut.out.2;clear hcut;obtain ⟨⟨cq,-,-⟩,CR⟩:=aa.out wc S1.out;have an:Hid (∀ Y:World,Y.heap=wc.heap->Calls Tryz.prog 103 #[.pointer (some ⟨sb,6,none⟩),.int .i64 (q:Nat)] Y fun e w'=>e=.returned (.bool (decide (0 < tv tr q)))/\w'=Y):=fun Y u=>by
   obtain ⟨N,c3,t1,t2⟩:=QT.out wc _ S1.out (cu _ _ (by decide)) q au;exact tu sb 6 N (2 * n) c3 q (tv tr q) Y (by rw [show Y.cell? ⟨sb,6 + 3,none⟩=wc.cell? ⟨sb,9,none⟩ from World.cell?_of_block (a:=⟨sb,9,none⟩) (by rw [u])];exact t1) au (by rw [show Y.cell? ⟨N,q,none⟩=wc.cell? ⟨N,q,none⟩ from World.cell?_of_block (a:=⟨N,q,none⟩) (by rw [u])];exact t2)
  obtain ⟨bq,aw,HB⟩:∃ bq,decide (0 < tv tr q)=bq/\Hid (bq=true↔tv tr q=1):=⟨_,rfl,by unfold Hid;rw [decide_eq_true_iff];exact Xj tr q⟩;rw [aw] at an;clear aw;go_upto_region 4 with fail
  go_quiet ((go_at_call 103;exact Calls.quiet_of_same (an.out _ (by rfl))))
  obtain ⟨W2,ai⟩:∃ W2,W2=wc.drewN nq:=⟨_,rfl⟩;have b2:Below wc.heap.size wc W2:=by rw [ai];exact Go.below_drewN bR _
  rw [<- ai];have S2:=hide (S1.out.later b2);have C2:Hid (dB Z w W2):=C1.out.trans (dB.of_below b2);clear ai b2 S1 C1 cq CR an
  cases bq with
  | true=>
   have F2:=hide (D.out W2 C2.out S2.out (.inl (HB.out.1 rfl)));go_wp2;exact F2.out
  | false=>
   have ao:Hid (tv tr q ≠ 1):=fun e=>by have:=HB.out.2 e;cases this
   go_wp2;have M2:Hid (∀ Y,dQ Z sb Y K f V (upd X 0 (ints I))->∀ i (G:i < r.length),Calls Tryz.prog 134 #[.pointer (some ⟨sb,6,none⟩),.int .i64 (r[i]:Nat)] Y fun e w'=>e=.returned (.bool (decide (tv tr r[i] < 0)))/\w'=Y):=fun Y u i G=>by
    have aq:=ar.out r[i] (List.getElem_mem G);obtain ⟨N,c3,t1,t2⟩:=QT.out Y _ u (cu _ _ (by decide)) r[i] aq;exact qP sb 6 N (2 * n) c3 r[i] (tv tr r[i]) Y t1 aq t2
   go_loopw [8,9] (fun i8 _ wr=>Rf Z sb w K f V (upd X 0 (ints I)) tr r i8 wr) (fun i8 _ _=>r.length + 2 - (intOf i8).toNat)
   case atStart=>exact ⟨0,rfl,zl,fun j hj h=>absurd h (Nat.not_lt_zero _),S2.out,C2.out⟩
   case round=>
    obtain ⟨i,rfl,bd,l⟩:=hrel;clear S2 C2;by_cases t:i < r.length
    ·have aL:=(aa.out wr l.out.2.1).2 i t;have QF:=hide (M2.out wr l.out.2.1 i t);obtain ⟨bf,ax,aA⟩:∃ bf,decide (tv tr r[i] < 0)=bf/\Hid (bf=true↔tv tr r[i]=-1):=⟨_,rfl,by unfold Hid;rw [decide_eq_true_iff];exact Xi tr r[i]⟩;have H:=ar.out r[i] (List.getElem_mem t);have a4:lit ≠ r[i]:=fun e=>aJ (by rw [e];exact List.getElem_mem t)
     have MV:=hide (ad.out wr i t l.out.2.1);have ay:=hide (fun Y V' X'=>O.out Y V' X' i t);have az:Hid (bf=true->∀ v,v=.int .i64 ((i + 1 + 2:Nat):Int)->Rf Z sb w K f V (upd X 0 (ints I)) tr r v wr):=fun e v hv=>⟨i + 1,hv,by omega,fun j hj aK=>by
      rcases Nat.lt_succ_iff_lt_or_eq.1 aK with B | B
      ·exact l.out.1 j hj B
      ·subst B;exact aA.out.1 e,l.out.2.1,l.out.2.2⟩
     rw [ax] at QF;generalize r[i]=o at *
     have ba:(0:Int) <= ((i + 2:Nat):Int):=by omega
     have a9:((i + 2:Nat):Int) < ((r.length + 2:Nat):Int):=by omega
     have aD:(i:Int) + 2 < (r.length:Int) + 2:=by omega
     have a8:(0:Int) <= (i:Int) + 2:=by omega
     have a7:((i:Int) + 2).toNat=i + 2:=by omega
     clear ax;go_upto_if 52 with (go_at_call 134;refine QF.out.mono ?_;rintro e8 w8 ⟨rfl,rfl⟩;simp only [])
     cases bf with
     | true=>
      go_wp2;go_roundw
      case rel=>exact az.out rfl _ (by go_num)
      case measure=>simp [intOf];omega
     | false=>
      clear az;have aB:Hid (tv tr o ≠ -1):=fun e=>by have:=aA.out.2 e;cases this
      obtain ⟨⟨-,aQ,aj⟩,-⟩:=aa.out w8 l.out.2.1;have aP:=aj (a + 3 + 1);have aO:=aj (a + 3 + (i + 2));have C3:Hid (dB Z w ((w8.setCell ⟨g,a + 3 + 1,none⟩ (.int .i64 (o:Nat))).setCell ⟨g,a + 3 + (i + 2),none⟩ (.int .i64 (lit:Nat)))):=(l.out.2.2.setCell zg _).setCell zg _;have av:∀ XX,mH n V (upd X 0 XX) wl:=fun XX=>HW.out.congr (cu _ _ (by decide)) (fun _ _=>rfl) (fun x hx=>cu _ _ (by omega))
      obtain ⟨s,ab⟩:∃ s,s=enc (cs.set k ⟨(cs[k]).kind,(cs[k]).busy,q :: o :: r.set i lit⟩):=⟨_,rfl⟩;rw [<- ab] at MV ay;clear l ab aj aa ad QT O D M2;go_upto_region 12 with fail
      generalize aM:(w8.setCell ⟨g,a + 3 + 1,none⟩ (.int .i64 (o:Nat))).setCell ⟨g,a + 3 + (i + 2),none⟩ (.int .i64 (lit:Nat))=W3 at MV C3 ⊢;clear aM aQ aP aO aL;have J:=hide (av (ints s));clear av;obtain ⟨g9,c9,wa,ae,al,ak,q5,qx,zx,l9,n9,z9,ox⟩:=J.out.at' MV.out aN H;have a0:(wl o).length <= 1099511627777:=by have:=aH o H;omega
      have PW:=hide (fun v'=>J.out.push H a v');have X0:(0:Int) <= (o:Int):=by omega
      have X1:(o:Int) < 2 * (n:Int):=by omega
      have SD:Hid (dQ Z sb W3.drew K f V (upd X 0 (ints s))):=MV.out.later bR.drew;have OD:Hid (W3.drew.ownsRow 0 3 1 (.slice wa (wl o).length ae) (wl o).length (dw (wl o))):=ox;have BD:Hid (dB Z w W3.drew):=C3.out.drew;have RX:Hid ((upd X 0 (ints s)) (16 + o)=dw (wl o)):=J.out.row o H;have LX:Hid (((upd X 0 (ints s)) 9).length=2 * n):=J.out.n9;have aT:Hid (((upd X 0 (ints s)) 9)[o]? = some (.slice wa (wl o).length ae)):=by unfold Hid;rw [J.out.hd o H,ak]
      have E9:=hide al;have aU:Hid (f 5=.slice (some ⟨g9,0,none⟩) (2 * n) c9):=(MV.out.hdr 9 (by omega)).trans al;have EX:=hide ak;have ac:16 + o < K:=by omega
      have aX:=MV.out.row.lt;have ns:¬ (sb=W3.heap.size):=by omega
      have a3:¬ (g9=W3.heap.size):=by omega
      have XO:Hid (zQ X (upd X 0 (ints s))):=fun j B h2 h3=>cu _ _ B
      have aS:Hid ((upd X 0 (ints s)) 0=ints s):=cz ..;generalize upd X 0 (ints s)=XM at *
      clear J al ak ox MV C3;go_region_law
       (refine ik _ (by rfl) _ _ 43 (by rfl) 0 3 i0 (.int .i64 0) 1 8 Tryz.underlying43 G aG aF aE (by rfl) (by decide) (.slice wa (wl o).length ae) (wl o).length (dw (wl o)) (by rfl) (OD.out.alloc (.cells #[.int .i64 (a:Int)] 3)) (.slice (some ⟨W3.heap.size,0,none⟩) 1 1) 1 [.int .i64 (a:Int)] (by rfl) (.inr ⟨⟨W3.heap.size,0,none⟩,1,rfl,(cell_one_new W3.drew _ _)⟩) (by rfl) (by simp [Value.oneCell']) (by unfold maxLen;omega) (by omega) zl ?_;intro v6 w6 A6;have A7:dz (W3.drew.alloc (.cells #[.int .i64 (a:Int)] 3)) 0 3 1 (V (16 + o)) (XM (16 + o)).length (XM (16 + o)) 1 [.int .i64 (a:Int)] v6 w6:=(by rw [EX.out,RX.out,cZ];exact A6);have S6:=hide (SD.out.JW ac E9.out (m:=1) (news:=[.int .i64 (a:Int)]) rfl A7);have K6:=(SD.out.FZ ac E9.out (by rw [LX.out];exact H) A7);rw [aT.out] at K6;obtain ⟨ap,a6,a5⟩:=K6;have aC:=ap 5 (by omega);rw [aU.out] at aC;obtain ⟨a2,a1,aI⟩:=dH A6.own;subst aI;clear A6 A7 ap)
      all_goals
       have aW:=hide (ay.out _ _ _ (BD.out.trans S6.out.2) S6.out.1 (by rw [cu _ _ (by decide),cu _ _ (by omega)];exact aS.out) (fun j B h2 h3=>by rw [cu _ _ h2,cu _ _ (by omega)];exact XO.out j B h2 h3) (cu _ _ (by omega)) ao.out aB.out (PW.out _));clear S6;go_wp2;exact aW.out
    ·have ei:i=r.length:=by omega
     have F2:=hide (D.out wr l.out.2.2 l.out.2.1 (.inr ⟨ao.out,fun y hy=>by
      obtain ⟨j,hj,rfl⟩:=List.mem_iff_getElem.1 hy;exact l.out.1 j hj (by omega)⟩))
     have aD:¬ ((i:Int) + 2 < (r.length:Int) + 2):=by omega
     go_wp2;exact F2.out
end
section
def mix (kl cK:List Nat):List Nat:=kl ++ cK.drop kl.length
theorem Db (cK:List Nat):mix [] cK=cK:=rfl
theorem fT {kl cK:List Nat} (h:kl.length <= cK.length):(mix kl cK).length=cK.length:=by unfold mix;simp;omega
theorem IU {kl cK:List Nat} {i:Nat} (h:kl.length <= i) (hi:i < cK.length) (a:i < (mix kl cK).length):(mix kl cK)[i]=cK[i]:=by
 simp only [mix];rw [List.getElem_append_right h,List.getElem_drop]
 congr 1;omega
theorem Da {kl cK:List Nat} {a:Nat} (h:kl.length < cK.length):(mix kl cK).set kl.length a=mix (kl ++ [a]) cK:=by
 unfold mix;rw [List.set_append_right _ _ lr,Nat.sub_self,List.drop_eq_getElem_cons h,List.set_cons_zero];simp
theorem qJ {kl cK:List Nat}:(mix kl cK).take kl.length=kl:=by unfold mix;simp
theorem jJ {P:Program} {r:Array Oper} {o:Oper} {a:Act} {w:World} {K:Act->World->Prop} {Q:Exit->Act->World->Prop} {E:Prop} (A:o.guard=none) (d s:Operand) (F H:TypeId)
  (N:o.op=.call { callee:=.builtin .copy,args:=#[d,s],argTypes:=#[F,H] }) (elem:TypeId) (L:P.underlying F=some (.slice elem)) (z:(P.info? elem).map (·.size)=some 1)
  (g off:Nat) (G:Addr) (c q b m:Nat) (hd:a.eval d=.slice (some ⟨g,off,none⟩) c q) (M:a.eval s=.slice (some G) b m)
  (l:Array Value) (t:TypeId) (I:w.heap[g]? = some (.cells l t (0,0))) (cs:List Value) (O:cs.length=Nat.min b c)
  (u:∀ j v,cs[j]? = some v->w.cell? (G.add j)=some v) (y:off + cs.length <= l.size) (S:∀ v ∈ cs,v.oneCell'=true) (B:Nat) (D:B <= g)
  (h:∀ w',Hid (w'.heap[g]? = some (.cells (splice l.toList off cs).toArray t (0,0)))->Hid (∀ k,k ≠ g->w'.heap[k]? = w.heap[k]?)->Hid (Below B w w')->K (a.put o.dst (goInt cs.length)) w'):
  if Region.wanted o (yielded r a.tmps)=true then Oper.wp P o a w K Q else E:=by
 have J:Region.wanted o (yielded r a.tmps)=true:=by simp [Region.wanted,A]
 rw [if_pos J];have x:=run_copy_row (P:=P) w F H o.type elem g off c q G b m l t cs L z I O u y S;unfold Oper.wp;simp [execOp,N,resolve,invoke,builtin,hd,M,x,Result.andThen]
 exact h _ (show _=_ by simpa [splice] using setRow_heap w g _ _ t _ I) (fun k R=>setRow_other w g k _ (fun e=>R (by first | exact e | exact e.symm))) (below_setRow bR D _)
theorem IQ (l:List Nat) (k:Nat):dw (l.take k)=(dw l).take k:=(mX l k).symm
theorem qF {kl cK:List Nat} {i:Nat} {a:List Value} (h:kl.length <= i) (hi:i <= cK.length) (c:a.take cK.length=dw (mix kl cK)):
  (splice a kl.length (dw (cK.drop i))).take cK.length=dw (kl ++ cK.drop i ++ cK.drop (kl.length + (cK.length - i))):=by
 have b:(dw (cK.drop i)).length=cK.length - i:=by rw [cZ];simp
 have d:cK.length <= a.length:=by
  have:=congrArg List.length c;rw [cZ,fT (by omega),List.length_take] at this;omega
 have g:a.take kl.length=dw kl:=by
  have:a.take kl.length=(a.take cK.length).take kl.length:=by rw [List.take_take];congr 1;omega
  rw [this,c,<- IQ,qJ]
 have e:(a.drop (kl.length + (cK.length - i))).take (cK.length - (kl.length + (cK.length - i)))=dw (cK.drop (kl.length + (cK.length - i))):=by
  have:(a.drop (kl.length + (cK.length - i))).take (cK.length - (kl.length + (cK.length - i)))=(a.take cK.length).drop (kl.length + (cK.length - i)):=by rw [List.drop_take]
  rw [this,c];unfold dw mix;rw [<- List.map_drop,List.drop_append,List.drop_of_length_le (by omega),List.nil_append,List.drop_drop]
  congr 2;omega
 unfold splice;rw [b,g,<- List.append_assoc,List.take_append,List.take_of_length_le (by rw [List.length_append,cZ,b];omega),List.length_append,cZ,b,e];unfold dw;rw [List.map_append,List.map_append]
theorem zm {kl cK:List Nat} {i a cap B:Nat} {w:World} (e:w.ownsRow B 3 1 (.slice (some ⟨a,0,none⟩) cK.length cap) cK.length (dw (mix kl cK))) (k:kl.length <= i):
  ∀ j v,(dw (cK.drop i))[j]? = some v->w.cell? (Addr.add ⟨a,i,none⟩ j)=some v:=fun x v c=>by
 have b:x < (dw (cK.drop i)).length:=by
  rcases Nat.lt_or_ge x (dw (cK.drop i)).length with h | h
  ·exact h
  ·rw [List.getElem?_eq_none h] at c;cases c
 rw [cZ,List.length_drop] at b;have d:=e.cellAt (i + x) (by omega);have g:Addr.add ⟨a,i,none⟩ x=⟨a,i + x,none⟩:=by simp [Addr.add]
 rw [g,d,<- c];unfold dw mix;rw [List.getElem?_map,List.getElem?_map,List.getElem?_append_right (by omega),List.getElem?_drop,List.getElem?_drop]
 congr 2;omega
theorem yB (b:List Nat):∀ v ∈ dw b,v.oneCell'=true:=fun v a=>by
 unfold dw at a;obtain ⟨x,_,rfl⟩:=List.mem_map.1 a;rfl
variable {Z:Nat->Prop} {sb K:Nat} {w w':World} {f V:Nat->Value} {X:Nat->List Value}
theorem dQ.xA (h:dQ Z sb w K f V X) {k:Nat} (q:k < K) {b m cap:Nat} (d:V k=.slice (some ⟨b,0,none⟩) m cap) {R:List Value} (own:w'.ownsRow 0 (kM k) 1 (V k) R.length R) (l:∀ j,j ≠ b->w'.heap[j]? = w.heap[j]?) (s:Below 0 w w'):dQ Z sb w' K f V (upd X k R)/\dB Z w w':=by
 have o:b ≠ sb:=h.far q b (by rw [d];rfl);refine ⟨⟨h.row.of_block (l sb (fun e=>o e.symm)),⟨fun i r=>?_,h.eH.apart⟩,h.hdr,h.jf,h.al,fun g a=>h.az g (Nat.le_trans s.size a),h.hK⟩,s,fun g a t=>l g (fun e=>t (e ▸ h.al k q b (by rw [d];rfl)))⟩;by_cases e:i=k
 ·subst e;rw [cz];exact own
 ·rw [cu _ _ e];refine ownB (h.eH.own i r) fun g a=>l g fun u=>?_
  rcases h.eH.apart i k r q e with c | c
  ·rw [a] at c;cases c
  ·exact c (by rw [a,d,u];rfl)
theorem dQ.copied (h:dQ Z sb w K f V X) {x d cap i:Nat} {kl cK:List Nat} {b:Array Value} (r:16 + x < K) (o:V (16 + x)=.slice (some ⟨d,0,none⟩) cK.length cap) (H:X (16 + x)=dw (mix kl cK)) (E:kl.length <= i) (hi:i <= cK.length)
  (F:w.heap[d]? = some (.cells b 3 (0,0))) (I:w'.heap[d]? = some (.cells (splice b.toList kl.length (dw (cK.drop i))).toArray 3 (0,0))) (A:∀ k,k ≠ d->w'.heap[k]? = w.heap[k]?) (G:Below 0 w w'):
  dQ Z sb w' K f V (upd X (16 + x) (dw (kl ++ cK.drop i ++ cK.drop (kl.length + (cK.length - i)))))/\dB Z w w':=by
 have m:=h.eH.own (16 + x) r;have a:(kl ++ cK.drop i ++ cK.drop (kl.length + (cK.length - i))).length=cK.length:=by simp;omega
 refine h.xA r o ?_ A G;rw [uF] at m ⊢;rw [H,cZ,fT (by omega)] at m;rw [cZ,a];refine ⟨by rw [cZ,a];omega,?_⟩
 rcases m.2 with ⟨e,_⟩ | ⟨g,l,j,e,q,c,B,D,z,s⟩
 ·rw [o] at e;cases e
 ·have t:=e;rw [o] at t;obtain ⟨y,L,J⟩:=Value.slice.inj t;have v:g=d:=by have:=Option.some.inj y;exact (congrArg Addr.block this).symm
  subst v;rw [F] at c;have u:b=j:=by cases c;rfl
  subst u;simp only [Nat.mul_one] at z s ⊢;refine .inr ⟨g,l,_,e,q,I,B,D,?_,?_⟩
  ·have:(dw (cK.drop i)).length=cK.length - i:=by rw [cZ];simp
   simp only [List.size_toArray];rw [length_splice _ _ _ (by rw [this];simp;omega)];simp;omega
  ·simp only [Nat.mul_one];exact qF E hi s
theorem xV (l:List Value) (o:Nat):splice l o []=l:=by unfold splice;simp
end
end
section
variable {n:Nat} {tr ch:List Nat} {lev:Nat->Nat} {C:iQ} {rea:Nat->Int} {wl:Nat->List Nat} {P:Nat}
structure PI (n:Nat) (C:iQ) (tr ch:List Nat) (lev:Nat->Nat) (rea:Nat->Int) (wl:Nat->List Nat) (P:Nat):Prop where
 dI:jh n tr ch lev
 o7:oP C tr ch rea
 lZ:wQ n C
 oH:tO n C wl
 vX:qA C tr lev P
theorem jh.low (h:jh n tr ch lev) {d:Nat} (hd:d < ch.length) {x:Nat} (a:x ∈ tr) (g:lev (x / 2) <= d):x ∈ tr.take ch[d]:=by
 obtain ⟨j,b,e⟩:=List.mem_iff_getElem.1 a;have c:=h.lev j b;rw [e] at c;have k:=(cnt_lt h.iC hd (i:=j)).1 (by omega);exact List.mem_iff_getElem.2 ⟨j,by rw [List.length_take];omega,by rw [List.getElem_take];exact e⟩
theorem jh.TR (h:jh n tr ch lev) {d:Nat} (hd:d < ch.length) {x:Nat} (a:x ∈ tr.take ch[d]):lev (x / 2) <= d:=by
 obtain ⟨j,b,e⟩:=List.mem_iff_getElem.1 a;rw [List.length_take] at b;rw [List.getElem_take] at e;have c:=h.lev j (by omega);rw [e] at c;have:=(cnt_lt h.iC hd (i:=j)).2 (by omega);omega
theorem vO.back (h:vO C tr lev) (b:jh n tr ch lev) {d:Nat} (hd:d < ch.length):vO C (tr.take ch[d]) lev:=fun a c j g e=>by
 obtain ⟨x,g1,g2,k⟩:=h a c j g e;exact ⟨x,g1,b.low hd g2 (by omega),k⟩
theorem vO.assign (h:vO C tr lev) {x v:Nat} (b:tv tr x=0):vO C (tr ++ [x]) (eF lev (x / 2) v):=fun a c g e d=>by
 obtain ⟨y,g1,g2,j⟩:=h a c g e d;exact ⟨y,g1,List.mem_append_left _ g2,by rw [df _ _ (ma b g2)];exact j⟩
theorem vO.new {a:Nat} {c:xw} (h:vO C tr lev) (l:c.kind ≠ 2->c.lits.length < 2->∃ x,c.lits=[x]/\x ∈ tr/\lev (x / 2)=0):vO (kC C a c) tr lev:=fun b d g k j=>by
 by_cases e:b=a
 ·subst e;rw [dU] at g;cases g;exact l k j
 ·rw [dJ _ _ e] at g;exact h b d g k j
theorem vO.same {j:iQ} (h:vO C tr lev) (o:Ru C j):vO j tr lev:=fun b d e r q=>by
 rcases o b with ⟨_,g⟩ | ⟨c,t,g1,g2,s,a⟩
 ·rw [e] at g;cases g
 ·rw [e] at g2;cases g2
  obtain ⟨x,m,l,k⟩:=h b c g1 (by rw [<- s];exact r) (by rw [<- a.length_eq];exact q);refine ⟨x,?_,l,k⟩;rw [m] at a;exact List.perm_singleton.1 a
theorem vO.Pk {c:iQ} {e:Nat->Nat} (h:vO C tr lev) (g:Hl C c e):vO c tr lev:=fun b d k l j=>by
 obtain ⟨a,g1,g2,_⟩:=g.from' b d k
 exact h a d g1 g2 j
structure KF (tr ch:List Nat) (lev:Nat->Nat) (x:Nat) (ks:List Nat) (d:Nat):Prop where
 hx:op x ∈ tr/\lev (x / 2)=ch.length
 hks:∀ y ∈ ks,op y ∈ tr/\lev (y / 2) < ch.length/\lev (y / 2) <= d
 nd:(ks.map (· / 2)).Nodup
 dl:d < ch.length
 hd:(ks=[]/\d=0)\/∃ q r,ks=q :: r/\lev (q / 2)=d
theorem KF.open {x d:Nat} {c:List Nat} (h:KF tr ch lev x c d) (b:jh n tr ch lev):tv (tr.take (ch[d]'h.dl)) x=0:=by
 refine tT.2 ⟨fun a=>b.nE (List.mem_of_mem_take a) h.hx.1,fun a=>?_⟩;have:=b.TR h.dl a;rw [gG,h.hx.2] at this;have:=h.dl;omega
theorem KF.vars {x d:Nat} {a:List Nat} (h:KF tr ch lev x a d):((x :: a).map (· / 2)).Nodup:=by
 rw [List.map_cons,List.nodup_cons];refine ⟨fun c=>?_,h.nd⟩;obtain ⟨y,b,e⟩:=List.mem_map.1 c;have e:y / 2=x / 2:=e;have:=(h.hks y b).2.1;rw [e,h.hx.2] at this;omega
theorem KF.lt {x d:Nat} {b:List Nat} (h:KF tr ch lev x b d) (c:jh n tr ch lev):∀ y ∈ x :: b,y < 2 * n:=fun y a=>by
 have:op y ∈ tr:=by
  rcases List.mem_cons.1 a with rfl | a
  ·exact h.hx.1
  ·exact (h.hks y a).1
 have:=wm (c.lt _ this)
 rwa [ko] at this
theorem PI.learn {x d a:Nat} {g:List Nat} (h:PI n C tr ch lev rea wl P) (b:KF tr ch lev x g d) (N:∀ p ∈ ch,p <= P) (s:C a=none) (mr:Nat->List Nat)
  (J:∀ q r,g=q :: r->mr x=wl x ++ [a]/\mr q=wl q ++ [a]/\∀ y,y ≠ x->y ≠ q->mr y=wl y) (o:g=[]->mr=wl):
  PI n (kC C a ⟨1,x :: g⟩) (tr.take (ch[d]'b.dl) ++ [x]) (ch.take d) (eF lev (x / 2) d) (eF rea (x / 2) (a:Nat)) mr (ch[d]'b.dl):=by
 have hd:=b.dl;have F:=h.dI.back hd;have l:=b.open h.dI;have m:x < 2 * n:=b.lt h.dI x (List.mem_cons_self ..);have j:(ch.take d).length=d:=by rw [List.length_take];omega
 have M:ch[d] < tr.length:=h.dI.iC.2 _ (List.getElem_mem hd);have G:(tr.take ch[d]).length=ch[d]:=by rw [List.length_take];omega
 have u:∀ y ∈ g,op y ∈ tr.take ch[d]:=fun y k=>h.dI.low hd (b.hks y k).1 (by rw [gG];exact (b.hks y k).2.2)
 have D:=F.assign m l;rw [j] at D;have E:∀ y ∈ g,y / 2 ≠ x / 2:=fun y k e=>by
  have:=(b.hks y k).2.1;rw [e,b.hx.2] at this;omega
 exact {
  dI:=D
  o7:=by
   have:=(h.o7.back h.dI hd).new (c:=⟨1,x :: g⟩) s;exact this.assign F l (dU ..) (show (1:Nat) ≠ 2 by decide) rfl u
  lZ:=h.lZ.new b.vars (b.lt h.dI)
  oH:=by
   match e:g with
   | []=>rw [o rfl];exact h.oH.TI s (by simp)
   | q :: r=>
    obtain ⟨g1,g2,O⟩:=J q r rfl;refine h.oH.Xv s (show (1:Nat) ≠ 2 by decide) (p:=x) (q:=q) (r:=r) rfl (fun A=>E q (by simp) (by rw [A])) g1 g2 O
  vX:=by
   have I:=h.vX.back h.dI hd (N _ (List.getElem_mem hd));have H:=I.assign (x:=x) (v:=d) (by rw [G];exact lr) l;refine H.new fun p q r _ e=>?_
   obtain ⟨rfl,rfl⟩:=List.cons.inj e
   rcases b.hd with ⟨B,_⟩ | ⟨R,Q,B,A⟩
   ·cases B
   ·obtain ⟨rfl,rfl⟩:=List.cons.inj B;refine ⟨fun i L t z=>?_,fun i L t z=>?_⟩
    ·rw [List.getElem_append_left (by omega)] at z;exact absurd (z ▸ List.getElem_mem _) (tT.1 l).2
    ·refine ⟨by simp,?_⟩;rw [dE,df _ _ (E q (by simp)),A];exact lr }
theorem vO.learn {x d a:Nat} {c:List Nat} (h:vO C tr lev) (j:jh n tr ch lev) (b:KF tr ch lev x c d):vO (kC C a ⟨1,x :: c⟩) (tr.take (ch[d]'b.dl) ++ [x]) (eF lev (x / 2) d):=
 ((h.back j b.dl).assign (b.open j)).new fun _ k=>by
  match e:c with
  | q :: r=>simp at k;omega
  | []=>
   rcases b.hd with ⟨_,g⟩ | ⟨m,l,g,_⟩
   ·exact ⟨x,rfl,by simp,by rw [dE];exact g⟩
   ·cases g
theorem Fq {L:List Rd.Cl} (hL:∀ a c,C a=some c->c.kind ≠ 2->There L c.lits) (l:jh n tr ch lev) (m:oP C tr ch rea) (o:0 < ch.length) {A:List Nat} (x:There L A) (G:∀ y ∈ A,op y ∈ tr) {i:Nat} {s:Lk} (h:xH tr ch lev (je C rea) ch[ch.length - 1] A (i + 1) s) (hi:i < tr.length) (E:s.seen (tr[i] / 2)=true) (F:s.opn=1)
  {fol:Nat->Bool} (t:Rn tr (je C rea) s.seen ch[ch.length - 1] fol) {g:List Nat} {d:Nat} (hks:g.Perm (s.jd.filter fun y=>!dW (je C rea) fol (y / 2))) (v:∀ y ∈ g,lev (y / 2) <= d) (hd:(g=[]/\d=0)\/∃ q r,g=q :: r/\lev (q / 2)=d):
  KF tr ch lev (op tr[i]) g d/\D5 L ((op tr[i] :: g).map wr):=by
 have B:∀ y ∈ g,y ∈ s.jd:=fun y b=>(List.mem_filter.1 (hks.mem_iff.1 b)).1
 have k:ch[ch.length - 1] <= i:=by
  obtain ⟨j,N,M⟩:=h.more;omega
 have u:lev (tr[i] / 2)=ch.length:=(uC l o hi).2 k;refine ⟨{
  hx:=by rw [ko,gG];exact ⟨List.getElem_mem hi,u⟩
  hks:=fun y b=>by
   obtain ⟨g1,g2,H⟩:=h.tail l (B y b);exact ⟨g1,H,v y b⟩
  nd:=by
   have:(s.jd.filter fun y=>!dW (je C rea) fol (y / 2)).map (· / 2) |>.Nodup:=h.lk.nd.sublist (List.filter_sublist.map _);exact (hks.map _).nodup_iff.2 this
  dl:=by
   rcases hd with ⟨_,e⟩ | ⟨q,r,I,O⟩
   ·omega
   ·have:=(h.tail l (B q (by rw [I];simp))).2.2;omega
  hd:=hd },?_⟩
 have T:=m.trail l hL;have J:=(Ms T l m o h hi E F t).conf T x G;refine Aa J fun y b=>?_
 rcases List.mem_cons.1 b with rfl | b
 ·exact List.mem_cons_self ..
 ·obtain ⟨z,D,rfl⟩:=List.mem_map.1 b;rw [ko];exact List.mem_cons_of_mem _ (hks.mem_iff.2 D)
theorem jh.len (h:jh n tr ch lev):tr.length <= n:=by
 have:=iZ n (tr.map (· / 2)) h.nodup (fun v b=>by
  obtain ⟨x,a,rfl⟩:=List.mem_map.1 b;have:=h.lt x a;omega)
 simpa using this
theorem jh.depth (h:jh n tr ch lev):ch.length <= n:=by
 have nd:ch.Nodup:=h.iC.1.imp (fun h=>by omega);have:=iZ tr.length ch nd h.iC.2;have:=h.len;omega
end
section
open Go Go.RowKit Go.Deep Rd
section
def iI (cs cs':List Rec):Prop:=cs'.length=cs.length/\∀ k (h:k < cs.length) (h':k < cs'.length),(cs'[k]).kind=(cs[k]).kind/\(cs'[k]).busy=(cs[k]).busy/\(cs'[k]).lits.Perm (cs[k]).lits
theorem iI.refl (cs:List Rec):iI cs cs:=⟨rfl,fun k _ _=>⟨rfl,rfl,.refl _⟩⟩
theorem iI.trans {a b c:List Rec} (h:iI a b) (g:iI b c):iI a c:=⟨g.1.trans h.1,fun k e s=>by
 have d:k < b.length:=by rw [h.1];exact e
 obtain ⟨r,q,o⟩:=h.2 k e d;obtain ⟨m,l,j⟩:=g.2 k d s;exact ⟨m.trans r,l.trans q,j.trans o⟩⟩
theorem iI.set {cs:List Rec} {k:Nat} (g:k < cs.length) {c:Rec} (d:c.kind=(cs[k]).kind) (b:c.busy=(cs[k]).busy) (a:c.lits.Perm (cs[k]).lits):iI cs (cs.set k c):=⟨by simp,fun j h l=>by
 by_cases e:k=j
 ·subst e;simp only [List.getElem_set_self];exact ⟨d,b,a⟩
 ·rw [List.getElem_set_ne e];exact ⟨rfl,rfl,.refl _⟩⟩
theorem iI.dn {cs cs':List Rec} (h:iI cs cs'):∀ k,k <= cs.length->dn cs' k=dn cs k
 | 0,_=>by rw [jP,jP]
 | k + 1,hk=>by
  have a:k < cs'.length:=by rw [h.1];exact hk
  rw [gD a,gD (show k < cs.length from hk),h.dn k (by omega),(h.2 k hk a).2.2.length_eq]
theorem iI.len {cs cs':List Rec} (h:iI cs cs'):(enc cs').length=(enc cs).length:=by
 rw [<- iD lr,<- iD (cs:=cs) lr,h.1];exact h.dn _ lr
theorem iI.same {cs cs':List Rec} (h:iI cs cs'):Ru (mapOf cs) (mapOf cs'):=fun a=>by
 cases j:mapOf cs a with
 | none=>
  refine .inl ⟨rfl,?_⟩
  cases q:mapOf cs' a with
  | none=>rfl
  | some d=>
   obtain ⟨k,e,g,_⟩:=dO q;have b:k < cs.length:=by rw [<- h.1];exact e
   rw [h.dn k (Nat.le_of_lt b)] at g;rw [g,dP b] at j;cases j
 | some c=>
  obtain ⟨k,e,g,o⟩:=dO j;have b:k < cs'.length:=by rw [h.1];exact e
  have:=dP b;rw [h.dn k (Nat.le_of_lt e),<- g] at this;obtain ⟨m,_,l⟩:=h.2 k e b;subst o;exact .inr ⟨_,_,rfl,this,m,l⟩
theorem vP.perm {L:List Cl}:∀ {cs cs':List Rec},iI cs cs'->vP L (nS cs)->vP L (nS cs'):=by
 have j:∀ (cs cs':List Rec),iI cs cs'->∀ e,(nS cs').countP (fun y=>iH (y.map wr) e)=(nS cs).countP (fun y=>iH (y.map wr) e):=by
  intro cs
  induction cs with
  | nil=>intro cs' h e;have:cs'=[]:=List.eq_nil_of_length_eq_zero (by rw [h.1];rfl);subst this;rfl
  | cons c r ih=>
   intro cs' h e
   match cs',h with
   | [],h=>have:=h.1;simp at this
   | c' :: r',h=>
    obtain ⟨b,_,l⟩:=h.2 0 (by simp) (by simp);simp only [List.getElem_cons_zero] at b l;have o:iI r r':=⟨by have:=h.1;simpa using this,fun k u t=>by
     have:=h.2 (k + 1) (by simpa using u) (by simpa using t);simpa using this⟩
    have:=ih r' o e;have m:∀ (d:Rec) (s:List Rec),nS (d :: s)=nS [d] ++ nS s:=fun d s=>by unfold nS;rw [<- List.map_append,<- List.filter_append];rfl
    rw [m c',m c,List.countP_append,List.countP_append,this]
    congr 1
    unfold nS;by_cases g:c.kind=2
    ·simp [b,g]
    ·simp only [List.filter_cons,List.filter_nil,b,g,ne_eq,not_false_eq_true,decide_true,if_true,List.map_cons,List.map_nil,List.countP_cons,List.countP_nil];rw [nY (a:=c'.lits.map wr) (a':=c.lits.map wr) (fun x=>(l.map wr).mem_iff) e]
 intro cs cs' h q;exact q.congr fun e=>Nat.le_of_eq (j cs cs' h e)
theorem Pn {cs:List Rec} {a:Nat} {c:xw} (h:mapOf cs a=some c):a < (enc cs).length:=by
 obtain ⟨k,b,d,_⟩:=dO h;have:=eD b;omega
theorem tO.len {n:Nat} {cs:List Rec} {W:Nat->List Nat} (h:tO n (mapOf cs) W) {x:Nat} (b:x < 2 * n):(W x).length <= (enc cs).length:=
 iZ _ _ (h.nodup x b) fun a d=>by
  obtain ⟨c,⟨e,_,_⟩,_⟩:=h.lists x b a d;exact Pn e
variable {n lit p i:Nat} {ch cK kl tr:List Nat} {C:iQ} {lev:Nat->Nat} {rea:Nat->Int} {wl:Nat->List Nat}
theorem Lm {a:Nat} {c:xw} (h:C a=some c):kC C a c=C:=by
 funext b
 by_cases e:b=a
 ·subst e;rw [dU,h]
 ·rw [dJ _ _ e]
theorem FI.second (h:FI n lit p ch cK i C tr lev rea wl kl) (hi:i < cK.length) {c:xw} (a:C cK[i]=some c) {q:Nat} {r:List Nat} (b:c.lits=lit :: q :: r\/c.lits=q :: lit :: r):FI n lit p ch cK i (kC C cK[i] ⟨c.kind,q :: lit :: r⟩) tr lev rea wl kl:=by
 rcases b with e | e
 ·exact h.swap hi a e
 ·have:kC C cK[i] ⟨c.kind,q :: lit :: r⟩=C:=Lm (by rw [a,<- e]);rw [this];exact h
structure eU (Z:Nat->Prop) (sb:Nat) (w:World) (K:Nat) (f:Nat->Value) (X:Nat->List Value) (n lit p:Nat) (ch cK:List Nat) (VL:Value) (cs:List Rec) (lG:List Nat) (i:Nat) (kl ml:List Nat) (cs':List Rec) (tr:List Nat) (lev:Nat->Nat) (rea:Nat->Int) (wl:Nat->List Nat) (f' V':Nat->Value) (X':Nat->List Value) (wr:World):Prop where
 fi:FI n lit p ch cK i (mapOf cs') tr lev rea wl kl
 dF:dQ Z sb wr K f' V' X'
 x0:X' 0=ints (enc cs')
 gB:lU n X' tr ch lev rea
 gP:mH n V' X' (fun x=>if x=lit then ml else wl x)
 hv:V' (16 + lit)=VL
 perm:iI cs cs'
 only:∀ k,6 <= k->k ≠ 9->k < 16->X' k=X k
 ff:∀ j,j ≠ 6->f' j=f j
 ext:∃ e,tr=lG ++ e
 eO:dB Z w wr
variable {Z:Nat->Prop} {sb K:Nat} {w wr w':World} {f f' V V' Vb:Nat->Value} {X X' wM:Nat->List Value} {cs cs':List Rec} {lG ml:List Nat} {VL:Value}
theorem eU.later (h:eU Z sb w K f X n lit p ch cK VL cs lG i kl ml cs' tr lev rea wl f' V' X' wr) (a:Below wr.heap.size wr w'):eU Z sb w K f X n lit p ch cK VL cs lG i kl ml cs' tr lev rea wl f' V' X' w':=
 { h with dF:=h.dF.later a,eO:=h.eO.trans (dB.of_below a) }
theorem eU.stays (h:eU Z sb w K f X n lit p ch cK VL cs lG i kl ml cs' tr lev rea wl f' V' X' wr) (hi:i < cK.length) {k q:Nat} {r:List Nat} (b:k < cs'.length) (g:cK[i]=dn cs' k) (a:(cs'[k]).lits=lit :: q :: r\/(cs'[k]).lits=q :: lit :: r)
  (s:dQ Z sb w' K f' Vb wM) (t:dB Z wr w') (d:zQ X' wM) (v:wM 0=ints (enc (cs'.set k ⟨(cs'[k]).kind,(cs'[k]).busy,q :: lit :: r⟩))) (o:mH n Vb wM (fun x=>if x=lit then ml else wl x)) (hv:Vb (16 + lit)=V' (16 + lit)):
  eU Z sb w K f X n lit p ch cK VL cs lG i kl ml (cs'.set k ⟨(cs'[k]).kind,(cs'[k]).busy,q :: lit :: r⟩) tr lev rea wl f' Vb wM w' where
 fi:=by
  have u:mapOf cs' cK[i]=some ⟨(cs'[k]).kind,(cs'[k]).lits⟩:=by rw [g];exact dP b
  have:=h.fi.second hi u a
  rw [Bq b (by rcases a with e | e <;> rw [e] <;> simp),<- g];exact this
 dF:=s
 x0:=v
 gB:=h.gB.congr fun j m c=>d j (by omega) (by omega) (by omega)
 gP:=o
 hv:=hv.trans h.hv
 perm:=h.perm.trans (iI.set b rfl rfl (by
  rcases a with e | e
  ·rw [e];exact List.Perm.swap ..
  ·rw [e]))
 only:=fun j m c l=>(d j (by omega) c l).trans (h.only j m c l)
 ff:=h.ff
 ext:=h.ext
 eO:=h.eO.trans t
theorem eU.moves (h:eU Z sb w K f X n lit p ch cK VL cs lG i kl (mix kl cK) cs' tr lev rea wl f' V' X' wr) (hi:i < cK.length) {k q j o:Nat} {r:List Nat} (t:k < cs'.length) (s:(cs'[k]).kind ≠ 2) (u:cK[i]=dn cs' k) (g:(cs'[k]).lits=lit :: q :: r\/(cs'[k]).lits=q :: lit :: r)
  (G:dQ Z sb w' K f' Vb wM) (I:dB Z wr w') (A:zQ X' wM) (H:tv tr q ≠ 1) (m:r[j]? = some o) (l:tv tr o ≠ -1) (J:wM 0=ints (enc (cs'.set k ⟨(cs'[k]).kind,(cs'[k]).busy,q :: o :: r.set j lit⟩))) (F:mH n Vb wM (fun x=>if x=o then (if x=lit then mix kl cK else wl x) ++ [dn cs' k] else if x=lit then mix kl cK else wl x)) (hv:Vb (16 + lit)=V' (16 + lit)):
  eU Z sb w K f X n lit p ch cK VL cs lG (i + 1) kl (mix kl cK) (cs'.set k ⟨(cs'[k]).kind,(cs'[k]).busy,q :: o :: r.set j lit⟩) tr lev rea (fun x=>if x=o then wl x ++ [cK[i]] else wl x) f' Vb wM w':=by
 have B:mapOf cs' cK[i]=some ⟨(cs'[k]).kind,(cs'[k]).lits⟩:=by rw [u];exact dP t
 have M:=h.fi.second hi B g;have L:=M.move hi (dU ..) s rfl (fun c=>H (Ci.2 c)) m (fun c=>l (h.fi.dI.oZ.2 c));have a:=h.fi.lZ.vars _ _ B;have d:o ≠ lit:=fun e=>by
  have c:o ∈ r:=List.mem_of_getElem? m
  rcases g with y | y
  ·rw [y] at a;simp only [List.map_cons,List.nodup_cons,List.mem_cons,List.mem_map,not_or,not_exists,not_and] at a;exact a.1.2 o c (by rw [e])
  ·rw [y] at a;simp only [List.map_cons,List.nodup_cons,List.mem_cons,List.mem_map,not_or,not_exists,not_and] at a;exact a.2.1 o c (by rw [e])
 exact {
  fi:=by
   have z:kC (kC (mapOf cs') cK[i] ⟨(cs'[k]).kind,q :: lit :: r⟩) cK[i] ⟨(cs'[k]).kind,q :: o :: r.set j lit⟩=mapOf (cs'.set k ⟨(cs'[k]).kind,(cs'[k]).busy,q :: o :: r.set j lit⟩):=by
    rw [Bq t (by rcases g with e | e <;> rw [e] <;> simp),<- u]
    funext b
    by_cases e:b=cK[i]
    ·subst e;rw [dU,dU]
    ·rw [dJ _ _ e,dJ _ _ e,dJ _ _ e]
   rw [<- z];exact L
  dF:=G
  x0:=J
  gB:=h.gB.congr fun j E v=>A j (by omega) (by omega) (by omega)
  gP:=by
   have z:(fun x=>if x=o then (if x=lit then mix kl cK else wl x) ++ [dn cs' k] else if x=lit then mix kl cK else wl x)=fun x=>if x=lit then mix kl cK else if x=o then wl x ++ [cK[i]] else wl x:=by
    funext x
    by_cases e:x=o
    ·subst e;rw [if_pos rfl,if_neg d,if_neg d,if_pos rfl,u]
    ·rw [if_neg e,if_neg e]
   rw [<- z];exact F
  hv:=hv.trans h.hv
  perm:=h.perm.trans (iI.set t rfl rfl (by
   have:=Bg (q:=q) (lit:=lit) m
   rcases g with e | e
   ·rw [e];exact this.trans (List.Perm.swap ..)
   ·rw [e];exact this))
  only:=fun j E v D=>(A j (by omega) v D).trans (h.only j E v D)
  ff:=h.ff
  ext:=h.ext
  eO:=h.eO.trans I }
theorem eU.store (h:eU Z sb w K f X n lit p ch cK VL cs lG i kl (mix kl cK) cs' tr lev rea wl f' V' X' wr) (g:16 + lit < K) (m:kl.length < cK.length) {d q:Nat} (b:VL=.slice (some ⟨d,0,none⟩) cK.length q) (a:Nat):eU Z sb w K f X n lit p ch cK VL cs lG i kl (mix (kl ++ [a]) cK) cs' tr lev rea wl f' V' (upd X' (16 + lit) (dw (mix (kl ++ [a]) cK))) (wr.setCell ⟨d,kl.length,none⟩ (.int .i64 (a:Nat))) where
 fi:=h.fi
 dF:=by
  have:=h.dF.set g (h.hv.trans b) kl.length (.int .i64 (a:Nat));rw [h.gP.row lit h.fi.pW,if_pos rfl,nG,Da m] at this;exact this
 x0:=by rw [cu _ _ (by omega)];exact h.x0
 gB:=h.gB.congr fun j l k=>cu _ _ (by omega)
 gP:=⟨by rw [cu _ _ (by omega)];exact h.gP.n9,fun x c=>by rw [cu _ _ (by omega)];exact h.gP.hd x c,fun x c=>by
  by_cases e:x=lit
  ·subst e;rw [cz,if_pos rfl]
  ·rw [cu _ _ (by omega),if_neg e];have:=h.gP.row x c
   rwa [if_neg e] at this⟩
 hv:=h.hv
 perm:=h.perm
 only:=fun j l k o=>by rw [cu _ _ (by omega)];exact h.only j l k o
 ff:=h.ff
 ext:=h.ext
 eO:=h.eO.setCell (h.dF.al _ g d (by rw [h.hv,b];rfl)) _
theorem eU.XB (h:eU Z sb w K f X n lit p ch cK VL cs lG i kl ml cs' tr lev rea wl f' V' X' wr) (hi:i < cK.length) {k q:Nat} {r:List Nat} (c:k < cs'.length) (d:cK[i]=dn cs' k) (b:(cs'[k]).lits=q :: lit :: r) (a:tv tr q=1):eU Z sb w K f X n lit p ch cK VL cs lG (i + 1) (kl ++ [cK[i]]) ml cs' tr lev rea wl f' V' X' wr:=
 { h with fi:=h.fi.keep hi (by rw [d];exact dP c) b (Ci.1 a) }
theorem eU.Xf (h:eU Z sb w K f X n lit p ch cK VL cs lG i kl ml cs' tr lev rea wl f' V' X' wr) (hi:i < cK.length) {k q:Nat} {r:List Nat} (v:k < cs'.length) (b:(cs'[k]).kind ≠ 2) (B:cK[i]=dn cs' k) (l:(cs'[k]).lits=q :: lit :: r) (g:tv tr q=0) (u:∀ y ∈ r,tv tr y=-1)
  {v':Value} (t:dQ Z sb w' K (upd f' 6 v') (upd V' 1 v') (fq X' q (cK[i]:Nat) ch.length)) (A:dB Z wr w'):eU Z sb w K f X n lit p ch cK VL cs lG (i + 1) (kl ++ [cK[i]]) ml cs' (tr ++ [q]) (eF lev (q / 2) ch.length) (eF rea (q / 2) (cK[i]:Nat)) wl (upd f' 6 v') (upd V' 1 v') (fq X' q (cK[i]:Nat) ch.length) w':=by
 have m:mapOf cs' cK[i]=some ⟨(cs'[k]).kind,(cs'[k]).lits⟩:=by rw [B];exact dP v
 have a:q < 2 * n:=h.fi.lZ.lt _ _ m q (by rw [l];simp);have d:∀ j,6 <= j->fq X' q (cK[i]:Nat) ch.length j=X' j:=fun j c=>iG _ _ _ _ (by omega) (by omega) (by omega) (by omega)
 exact {
  fi:=h.fi.unit hi m b l g fun y s=>h.fi.dI.oZ.1 (u y s)
  dF:=t
  x0:=by rw [iG _ _ _ _ (by decide) (by decide) (by decide) (by decide)];exact h.x0
  gB:=h.gB.assign a g _ h.gB.l2 (fun _ _=>rfl)
  gP:=h.gP.congr (d 9 (by omega)) (fun x _=>cu _ _ (by omega)) (fun x _=>d _ (by omega))
  hv:=by rw [cu _ _ (by omega)];exact h.hv
  perm:=h.perm
  only:=fun j o E D=>(d j o).trans (h.only j o E D)
  ff:=fun j c=>by rw [cu _ _ c];exact h.ff j c
  ext:=by
   obtain ⟨e,z⟩:=h.ext;exact ⟨e ++ [q],by rw [z,List.append_assoc]⟩
  eO:=h.eO.trans A }
structure zS (Z:Nat->Prop) (sb:Nat) (w:World) (K:Nat) (f:Nat->Value) (X:Nat->List Value) (n lit p:Nat) (ch:List Nat) (VL:Value) (cs:List Rec) (lG:List Nat) (kept:Nat) (res:Int) (ml:List Nat) (cs':List Rec) (tr:List Nat) (lev:Nat->Nat) (rea:Nat->Int) (wl:Nat->List Nat) (f' V':Nat->Value) (X':Nat->List Value) (wr:World):Prop where
 dI:jh n tr ch lev
 o7:oP (mapOf cs') tr ch rea
 lZ:wQ n (mapOf cs')
 oH:tO n (mapOf cs') (fun x=>if x=lit then ml.take kept else wl x)
 res:(res=-1/\qA (mapOf cs') tr lev (p + 1))\/(qA (mapOf cs') tr lev p/\∃ k,∃ hk:k < cs'.length,res=(dn cs' k:Nat)/\(cs'[k]).kind ≠ 2/\(∀ y ∈ (cs'[k]).lits,op y ∈ tr)/\lit ∈ (cs'[k]).lits)
 dF:dQ Z sb wr K f' V' X'
 x0:X' 0=ints (enc cs')
 gB:lU n X' tr ch lev rea
 gP:mH n V' X' (fun x=>if x=lit then ml else wl x)
 hv:V' (16 + lit)=VL
 perm:iI cs cs'
 only:∀ k,6 <= k->k ≠ 9->k < 16->X' k=X k
 ff:∀ j,j ≠ 6->f' j=f j
 ext:∃ e,tr=lG ++ e
 eO:dB Z w wr
 VU:lit < 2 * n
def DT (Z:Nat->Prop) (sb:Nat) (w:World) (K:Nat) (f:Nat->Value) (X:Nat->List Value) (n lit p:Nat) (ch:List Nat) (VL:Value) (m:Nat) (cs:List Rec) (lG:List Nat) (s6 s7:Value) (wr:World):Prop:=
 ∃ kept res ml cs' tr lev rea wl f' V' X',s6=.int .i64 ((kept:Nat):Int)/\s7=.int .i64 res/\kept <= m/\ml.length=m/\Hid (zS Z sb w K f X n lit p ch VL cs lG kept res ml cs' tr lev rea wl f' V' X' wr)
theorem eU.atEnd (h:eU Z sb w K f X n lit p ch cK VL cs lG cK.length kl (mix kl cK) cs' tr lev rea wl f' V' X' wr):zS Z sb w K f X n lit p ch VL cs lG kl.length (-1) (mix kl cK) cs' tr lev rea wl f' V' X' wr:=
 { h with
  dI:=h.fi.dI
  o7:=h.fi.o7
  lZ:=h.fi.lZ
  oH:=by rw [qJ];exact h.fi.done.2
  res:=.inl ⟨rfl,h.fi.done.1⟩
  VU:=h.fi.pW }
theorem eU.zq {a:Nat} (h:eU Z sb w K f X n lit p ch cK VL cs lG i kl (mix (kl ++ [a]) cK) cs' tr lev rea wl f' V' X' wr) (hi:i < cK.length) (g:a=cK[i]) (E:16 + lit < K) {k q:Nat} {r:List Nat} (v:k < cs'.length) (d:(cs'[k]).kind ≠ 2) (D:cK[i]=dn cs' k) (l:(cs'[k]).lits=q :: lit :: r) (u:tv tr q=-1) (t:∀ y ∈ r,tv tr y=-1)
  {R:List Nat} (A:R=(kl ++ [a]) ++ cK.drop (i + 1) ++ cK.drop ((kl ++ [a]).length + (cK.length - (i + 1)))) (s:dQ Z sb w' K f' V' (upd X' (16 + lit) (dw R))) (z:dB Z wr w'):
  zS Z sb w K f X n lit p ch VL cs lG ((kl ++ [a]).length + (cK.length - (i + 1))) (dn cs' k:Nat) R cs' tr lev rea wl f' V' (upd X' (16 + lit) (dw R)) w' where
 dI:=h.fi.dI
 o7:=h.fi.o7
 lZ:=h.fi.lZ
 oH:=by
  have e:R.take ((kl ++ [a]).length + (cK.length - (i + 1)))=kl ++ cK.drop i:=by
   rw [A,List.take_append_of_le_length (by simp;omega),List.take_of_length_le (by simp;omega),g,List.drop_eq_getElem_cons hi,List.append_assoc];rfl
  rw [e];exact h.fi.oH
 res:=.inr ⟨h.fi.vX,k,v,rfl,d,fun y b=>by
  rw [l] at b;simp only [List.mem_cons] at b
  rcases b with rfl | rfl | b
  ·exact h.fi.dI.oZ.1 u
  ·exact h.fi.rX
  ·exact h.fi.dI.oZ.1 (t y b),by rw [l];simp⟩
 dF:=s
 x0:=by rw [cu _ _ (by omega)];exact h.x0
 gB:=h.gB.congr fun j o m=>cu _ _ (by omega)
 gP:=⟨by rw [cu _ _ (by omega)];exact h.gP.n9,fun x c=>by rw [cu _ _ (by omega)];exact h.gP.hd x c,fun x c=>by
  by_cases e:x=lit
  ·subst e;rw [cz,if_pos rfl]
  ·rw [cu _ _ (by omega),if_neg e];have:=h.gP.row x c
   rwa [if_neg e] at this⟩
 hv:=h.hv
 perm:=h.perm
 only:=fun j o m B=>by rw [cu _ _ (by omega)];exact h.only j o m B
 ff:=h.ff
 ext:=h.ext
 eO:=h.eO.trans z
 VU:=h.fi.pW
def JJ (Z:Nat->Prop) (sb:Nat) (w:World) (K:Nat) (f:Nat->Value) (X:Nat->List Value) (n lit p:Nat) (ch cK:List Nat) (VL:Value) (cs:List Rec) (lG:List Nat) (s6 s7 s20:Value) (wr:World):Prop:=
 ∃ i kl cs' tr lev rea wl f' V' X',s6=.int .i64 ((kl.length:Nat):Int)/\s7=.int .i64 (-1)/\s20=.int .i64 ((i:Nat):Int)/\Hid (eU Z sb w K f X n lit p ch cK VL cs lG i kl (mix kl cK) cs' tr lev rea wl f' V' X' wr)
structure UR (Z:Nat->Prop) (sb:Nat) (w:World) (K:Nat) (f:Nat->Value) (X:Nat->List Value) (n lit p:Nat) (ch:List Nat) (cs:List Rec) (lG:List Nat) (res:Int) (cs':List Rec) (tr:List Nat) (lev:Nat->Nat) (rea:Nat->Int) (wl:Nat->List Nat) (f' V':Nat->Value) (X':Nat->List Value) (wr:World):Prop where
 dI:jh n tr ch lev
 o7:oP (mapOf cs') tr ch rea
 lZ:wQ n (mapOf cs')
 oH:tO n (mapOf cs') wl
 res:(res=-1/\qA (mapOf cs') tr lev (p + 1))\/(qA (mapOf cs') tr lev p/\∃ k,∃ hk:k < cs'.length,res=(dn cs' k:Nat)/\(cs'[k]).kind ≠ 2/\(∀ y ∈ (cs'[k]).lits,op y ∈ tr)/\lit ∈ (cs'[k]).lits)
 dF:dQ Z sb wr K f' V' X'
 x0:X' 0=ints (enc cs')
 gB:lU n X' tr ch lev rea
 gP:mH n V' X' wl
 perm:iI cs cs'
 only:∀ k,6 <= k->k ≠ 9->k < 16->X' k=X k
 ff:∀ j,j ≠ 6->f' j=f j
 ext:∃ e,tr=lG ++ e
 eO:dB Z w wr
def oU (Z:Nat->Prop) (sb:Nat) (w:World) (K:Nat) (f:Nat->Value) (X:Nat->List Value) (n lit p:Nat) (ch:List Nat) (cs:List Rec) (lG:List Nat) (e:Ending) (w':World):Prop:=
 ∃ res cs' tr lev rea wl f' V' X',e=.returned (.int .i64 res)/\UR Z sb w K f X n lit p ch cs lG res cs' tr lev rea wl f' V' X' w'
theorem zS.out {kept:Nat} {res:Int} (h:zS Z sb w K f X n lit p ch VL cs lG kept res ml cs' tr lev rea wl f' V' X' wr) (v:K=16 + 2 * n) {b:Option Addr} {m o k u B:Nat} (d:VL=.slice b m o) (c:kept <= ml.length) (a:V' 9=.slice (some ⟨k,0,none⟩) u B):
  oU Z sb w K f X n lit p ch cs lG (.returned (.int .i64 res)) (wr.setCell ⟨k,lit,none⟩ (.slice b kept o)):=by
 have r:=h.VU;have q:X' (16 + lit)=dw ml:=by have:=h.gP.row lit r;rwa [if_pos rfl] at this
 have z:16 + lit < K:=by omega
 have s:=h.dF.XG z a (h.hv.trans d) (m:=kept) (by rw [q,cZ];exact c);refine ⟨res,cs',tr,lev,rea,fun x=>if x=lit then ml.take kept else wl x,f',_,_,rfl,{
  dI:=h.dI
  o7:=h.o7
  lZ:=h.lZ
  oH:=h.oH
  res:=h.res
  dF:=s
  x0:=by rw [cu _ _ (by decide),cu _ _ (by omega)];exact h.x0
  gB:=h.gB.congr fun j t g=>by rw [cu _ _ (by omega),cu _ _ (by omega)]
  gP:=by
   have:=h.gP.put r (l:=ml.take kept) (R:=(X' (16 + lit)).take kept) (by rw [q,mX]) (.slice b kept o);have e:(fun y=>if y=lit then ml.take kept else if y=lit then ml else wl y)=fun x=>if x=lit then ml.take kept else wl x:=by
    funext y
    by_cases e:y=lit
    ·rw [if_pos e,if_pos e]
    ·rw [if_neg e,if_neg e,if_neg e]
   rw [e] at this;exact this
  perm:=h.perm
  only:=fun j t g A=>by rw [cu _ _ g,cu _ _ (by omega)];exact h.only j t g A
  ff:=h.ff
  ext:=h.ext
  eO:=h.eO.setCell (h.dF.al 9 (by omega) k (by rw [a];rfl)) _ }⟩
theorem eU.Na {a:Nat} (h:eU Z sb w K f X n lit p ch cK VL cs lG i kl (mix (kl ++ [a]) cK) cs' tr lev rea wl f' V' X' wr) (hi:i < cK.length) (e:a=cK[i]) (x:16 + lit < K) {k q:Nat} {r:List Nat} (I:k < cs'.length) (o:(cs'[k]).kind ≠ 2) (v:cK[i]=dn cs' k) (G:(cs'[k]).lits=q :: lit :: r) (F:tv tr q=-1) (E:∀ y ∈ r,tv tr y=-1)
  {j cap b c N:Nat} {g:Array Value} (t:VL=.slice (some ⟨j,0,none⟩) cK.length cap) (m:b=kl.length + 1) (s:c=i + 1) (Q:N=cK.length - c) (J:wr.heap[j]? = some (.cells g 3 (0,0))) (u:w'.heap[j]? = some (.cells (splice g.toList b (dw (cK.drop c))).toArray 3 (0,0))) (D:∀ k,k ≠ j->w'.heap[k]? = wr.heap[k]?) (B:Below 0 wr w'):
  DT Z sb w K f X n lit p ch VL cK.length cs lG (.int .i64 ((b + N:Nat):Int)) (.int .i64 (a:Nat)) w':=by
 have l:X' (16 + lit)=dw (mix (kl ++ [a]) cK):=by have:=h.gP.row lit h.fi.pW;rwa [if_pos rfl] at this
 have d:(kl ++ [a]).length=b:=by rw [m];simp
 have H:=h.fi.o8;rw [<- d] at u;obtain ⟨A,O⟩:=h.dF.copied x (h.hv.trans t) l (i:=c) (by rw [d];omega) (by omega) J u D B;have z:=h.zq hi e x I o v G F E (R:=(kl ++ [a]) ++ cK.drop c ++ cK.drop ((kl ++ [a]).length + (cK.length - c))) (by rw [s]) A O;have M:(kl ++ [a]).length + (cK.length - (i + 1))=b + N:=by omega
 have L:dn cs' k=a:=by rw [e,v]
 rw [M,L] at z;exact ⟨b + N,(a:Nat),_,cs',tr,lev,rea,wl,f',V',_,rfl,rfl,by omega,by simp;omega,z⟩
theorem oU.later {e:Ending} {a:World} (h:oU Z sb w K f X n lit p ch cs lG e w') (d:Below w'.heap.size w' a):oU Z sb w K f X n lit p ch cs lG e a:=by
 obtain ⟨b,cs',tr,lev,rea,wl,f',V',X',g,c⟩:=h;exact ⟨b,cs',tr,lev,rea,wl,f',V',X',g,{ c with dF:=c.dF.later d,eO:=c.eO.trans (dB.of_below d) }⟩
end
section
variable {Z:Nat->Prop} {sb K:Nat} {w w':World} {f V:Nat->Value} {X:Nat->List Value} {n:Nat} {wl:Nat->List Nat} {tr ch:List Nat} {lev:Nat->Nat} {rea:Nat->Int}
theorem qR {cs:List Rec} {lit p:Nat} (h:dQ Z sb w K f V X) (aP:K=16 + 2 * n) (h0:X 0=ints (enc cs)) (hn:n <= 50) (hN:(enc cs).length <= 1099511627776) (hT:lU n X tr ch lev rea) (hW:mH n V X wl)
  (ht:jh n tr ch lev) (hr:oP (mapOf cs) tr ch rea) (hc:wQ n (mapOf cs)) (hw:tO n (mapOf cs) wl) (hs:qA (mapOf cs) tr lev p) (hp:tr[p]? = some (op lit)) (ak:∀ q ∈ ch,q <= p):
  Calls Tryz.prog 138 #[.pointer (some ⟨sb,0,none⟩),.int .i64 (lit:Nat)] w fun e w'=>oU Z sb w K f X n lit p ch cs tr e w':=by
 have I:lit < 2 * n:=by
  have:=wm (ht.lt _ (List.mem_of_getElem? hp))
  rwa [ko] at this
 obtain ⟨g9,c9,wa,l,aE,a5,q5,qx,zx,l9,n9,z9,ox⟩:=hW.at' h aP I;have bs:=hw.len I;have S0:Hid (eU Z sb w K f X n lit p ch (wl lit) (V (16 + lit)) cs tr 0 [] (mix [] (wl lit)) cs tr lev rea wl f V X w):={
  fi:=FI.start ht hr hc hw hs hp ak
  dF:=h
  x0:=h0
  gB:=hT
  gP:=by
   rw [Db];have e:(fun x=>if x=lit then wl lit else wl x)=wl:=by
    funext x;split
    ·rename_i e;rw [e]
    ·rfl
   rw [e];exact hW
  hv:=rfl
  perm:=iI.refl _
  only:=fun _ _ _ _=>rfl
  ff:=fun _ _=>rfl
  ext:=⟨[],by simp⟩
  eO:=dB.refl _ }
 have bE:(0:Int) <= (lit:Int):=by omega
 have bD:(lit:Int) < 2 * (n:Int):=by omega
 rw [a5] at S0;have W:Hid ((wa=none/\(wl lit).length=0/\l=0)\/∃ O,wa=some ⟨O,0,none⟩/\(wl lit).length <= l):=by
  rcases ox.2 with ⟨e,h0⟩ | ⟨g,a8,B,e,_,_,hn,_⟩
  ·obtain ⟨e1,e2,e3⟩:=Value.slice.inj e;exact .inl ⟨e1,e2,e3⟩
  ·obtain ⟨e1,e2,e3⟩:=Value.slice.inj e;exact .inr ⟨g,e1,by rw [e3];exact hn⟩
 clear h h0 hT hW ht hr hc hw hs hp ak aE a5 ox;generalize wl lit=cK at *
 go_enter Tryz.func138,Tryz.ntmps138
 go_upto_region 3 with fail
 go_cut [7] from 8 (fun s7 wx=>s7=.int .i64 (-1)/\Hid (eU Z sb w K f X n lit p ch cK (.slice wa cK.length l) cs tr 0 [] (mix [] cK) cs tr lev rea wl f V X wx))
 case first=>
  go_wp2_with fail
  go_meet;exact ⟨rfl,S0⟩
 case rest=>
 obtain ⟨rfl,S1⟩:=hcut;clear S0 q5 qx zx l9 n9 z9;rename_i bn;apply bn;apply wp_seq_k;intro K2 bu;go_cut [6,7] from 8 (fun s6 s7 wx=>DT Z sb w K f X n lit p ch (.slice wa cK.length l) cK.length cs tr s6 s7 wx)
 case first=>
  go_wp2_with fail
  go_loopw [6,7,8,9,10,20] (fun s6 s7 _ _ _ aI wr=>JJ Z sb w K f X n lit p ch cK (.slice wa cK.length l) cs tr s6 s7 aI wr) (fun _ _ _ _ _ aI _=>cK.length - (intOf aI).toNat)
  case atStart=>exact ⟨0,[],cs,tr,lev,rea,wl,f,V,X,rfl,rfl,rfl,S1⟩
  case round=>
   clear S1;obtain ⟨i,kl,cs',u,ad,ac,aH,f',V',X',rfl,rfl,rfl,d⟩:=hrel;have bO:=d.out.fi.vH;have bj:=d.out.fi.o8;by_cases M:i < cK.length
   ·obtain ⟨O,rfl,bt⟩:∃ O,wa=some ⟨O,0,none⟩/\cK.length <= l:=by
     rcases W.out with ⟨_,h0,_⟩ | h
     ·omega
     ·exact h
    obtain ⟨c,⟨hC,aB,aj⟩,J⟩:=d.out.fi.next M;obtain ⟨k,hk,ha,rfl⟩:=dO hC;simp only at aB aj J;obtain ⟨q,r,hl⟩:∃ q r,(cs'[k]).lits=lit :: q :: r\/(cs'[k]).lits=q :: lit :: r:=by
     match e:(cs'[k]).lits,aj,J with
     | x :: y :: r,_,J=>
      simp only [List.getElem?_cons_zero,List.getElem?_cons_succ,Option.some.injEq] at J
      rcases J with rfl | rfl
      ·exact ⟨y,r,.inl rfl⟩
      ·exact ⟨x,r,.inr rfl⟩
    have G:=d.out.fi.lZ.vars _ _ hC;have ai:=d.out.fi.lZ.lt _ _ hC;simp only at G ai;have aK:lit ≠ q/\lit ∉ r:=by
     rcases hl with e | e
     ·rw [e] at G;simp only [List.map_cons,List.nodup_cons,List.mem_cons,List.mem_map,not_or,not_exists,not_and] at G;exact ⟨fun e2=>G.1.1 (by rw [e2]),fun hm=>G.1.2 lit hm rfl⟩
     ·rw [e] at G;simp only [List.map_cons,List.nodup_cons,List.mem_cons,List.mem_map,not_or,not_exists,not_and] at G;exact ⟨fun e2=>G.1.1 (by rw [e2]),fun hm=>G.2.1 lit hm rfl⟩
    have bS:(enc cs').length <= 1099511627776:=by rw [d.out.perm.len];exact hN
    have QW:=hide (uQ (w:=wr) d.out.dF aP d.out.x0 hk hl aK.1 aK.2 ai hn (by omega) d.out.gB d.out.gP (fun x hx=>by
     by_cases e:x=lit
     ·rw [if_pos e,fT (by omega)];omega
     ·have:=d.out.fi.oH.len hx;rw [if_neg e] at this ⊢;omega))
    rw [<- ha] at QW;have a2:wr.cell? ⟨O,i,none⟩=some (.int .i64 (cK[i]:Nat)):=by
     have s:=d.out.gP.row lit I;rw [if_pos rfl] at s;have:=(d.out.dF.eH.cell (k:=16 + lit) (by omega) d.out.hv (j:=i) (by rw [s,cZ,fT (by omega)];exact M)).1;rw [this,s,iK _ _ (by rw [fT (by omega)];exact M),IU bj M]
    have bI:(0:Int) <= (i:Int):=by omega
    have bH:(i:Int) < (cK.length:Int):=by omega
    have a9:=hide d;have HL:=hide hl;have HA:=hide ha;obtain ⟨a,aN⟩:∃ a,a=cK[i]:=⟨_,rfl⟩;rw [<- aN] at a2 QW;have ar:=hide aN;clear J aj hC G ai aK aN ha d;have d:Hid (eU Z sb w K f X n lit p ch cK (.slice (some ⟨O,0,none⟩) cK.length l) cs tr i kl (mix kl cK) cs' u ad ac aH f' V' X' wr):=a9.out;clear a9 hl;go_upto_if 28 with (go_at_call 179;refine QW.out.mono ?_;rintro e7 w7 ⟨b,V2,X2,rfl,aF⟩;have aG:=hide aF;clear aF;simp only [])
    clear QW a2;obtain ⟨aC,aw,ay,av,aM⟩:=aG.out;clear aG
    rcases aM with ⟨rfl,ae,af,aW⟩ | ⟨rfl,bi,jj,o,bh,bg,ae,af⟩
    ·
     have S2:=d.out.stays M hk HA.out HL.out aw aC ay ae af av;have U:k < (cs'.set k ⟨(cs'[k]).kind,(cs'[k]).busy,q :: lit :: r⟩).length:=by simpa using hk
     have az:((cs'.set k ⟨(cs'[k]).kind,(cs'[k]).busy,q :: lit :: r⟩)[k]).lits=q :: lit :: r:=by simp
     have am:((cs'.set k ⟨(cs'[k]).kind,(cs'[k]).busy,q :: lit :: r⟩)[k]).kind ≠ 2:=by simpa using aB
     have aO:cK[i]=dn (cs'.set k ⟨(cs'[k]).kind,(cs'[k]).busy,q :: lit :: r⟩) k:=by
      rw [HA.out];exact (oD hk (by rcases HL.out with e | e <;> rw [e] <;> simp) k).symm
     generalize cs'.set k ⟨(cs'[k]).kind,(cs'[k]).busy,q :: lit :: r⟩=t at S2 U az am aO;have ah:q < 2 * n:=by
      have:=S2.fi.lZ.lt _ _ (dP U) q (by rw [az];simp);exact this
     have s:=S2.gP.row lit I;rw [if_pos rfl] at s;have al:kl.length < cK.length:=by omega
     obtain ⟨a7,bp⟩:=S2.dF.eH.cell (k:=16 + lit) (by omega) S2.hv (j:=kl.length) (by rw [s,cZ,fT (by omega)];exact al);rw [s,iK _ _ (by rw [fT (by omega)];exact al)] at a7;have S3:=hide (S2.store (by omega) al rfl a);have bG:(0:Int) <= (kl.length:Int):=by omega
     have bF:(kl.length:Int) < (cK.length:Int):=by omega
     have kw:(kl.length:Int) + 1 < 9223372036854775807:=by omega
     have aT:=hide aW;have aq:=hide az;have au:=hide aO;have bb:=hide am;clear d aw aC ay ae af av aW S2 az aO am s HL HA aB hk;go_upto_region 10 with fail
     generalize bm:w7.setCell ⟨O,kl.length,none⟩ (.int .i64 (a:Nat))=W3 at S3 ⊢;clear bm a7 bp;generalize upd X2 (16 + lit) (dw (mix (kl ++ [a]) cK))=X3 at S3;obtain ⟨g,c,e0,q0,bl,lg,ng,zg,r0,-,-,rl,-⟩:=fH S3.out.dF S3.out.x0 U;have Q:=eD U;have bM:2 <= (t[k]).lits.length:=by rw [aq.out];simp
     have bQ:(enc t).length <= 1099511627776:=by rw [S3.out.perm.len];exact hN
     have cq:=rl 0 (by omega);rw [show (t[k]).lits[0]'(by omega)=q by simp [aq.out],Nat.add_zero,<- au.out,<- ar.out] at cq;have QL:Hid (∀ Y:World,Y.heap=W3.heap->Calls Tryz.prog 175 #[.pointer (some ⟨sb,2,none⟩),.int .i64 (dn t k:Nat)] Y fun e w'=>e=.returned (jw g (dn t k) (t[k]).lits.length c)/\∃ j,w'=Y.drewN j):=fun Y hY=>iY sb 2 g (enc t).length c (dn t k) (t[k]).lits.length Y (by rw [show Y.cell? ⟨sb,2,none⟩=W3.cell? ⟨sb,2,none⟩ from World.cell?_of_block (a:=⟨sb,2,none⟩) (by rw [hY])];exact q0) (by omega) (by unfold maxLen;omega) bl (by rw [show Y.cell? ⟨g,dn t k,none⟩=W3.cell? ⟨g,dn t k,none⟩ from World.cell?_of_block (a:=⟨g,dn t k,none⟩) (by rw [hY])];exact r0)
     have nc:¬ (c=dn t k + 3):=by omega
     unfold jw at QL;rw [if_neg nc,<- au.out,<- ar.out] at QL;have bf:(0:Int) < ((t[k]).lits.length:Int):=by omega
     clear r0 rl q0 e0;generalize (t[k]).lits.length=m at QL bf;obtain ⟨g3,c3,t3,e3,q3,r3,s3,-⟩:=S3.out.dF.elem (k:=3) (j:=q) (by omega) S3.out.gB.n3 ah;rw [show cellOf 3=9 from rfl] at q3;rw [S3.out.gB.t3 q ah] at s3;obtain rfl:=Option.some.inj s3;clear e3;have bB:(0:Int) <= (q:Int):=by omega
     have QO:Hid (∀ Y:World,Y.heap=W3.heap->Calls Tryz.prog 135 #[.pointer (some ⟨sb,6,none⟩),.int .i64 (q:Nat)] Y fun e w'=>e=.returned (.bool (tv u q == 0))/\w'=Y):=fun Y hY=>tF sb 6 g3 (2 * n) c3 q (tv u q) Y (by rw [show Y.cell? ⟨sb,6 + 3,none⟩=W3.cell? ⟨sb,9,none⟩ from World.cell?_of_block (a:=⟨sb,9,none⟩) (by rw [hY])];exact q3) ah (by rw [show Y.cell? ⟨g3,q,none⟩=W3.cell? ⟨g3,q,none⟩ from World.cell?_of_block (a:=⟨g3,q,none⟩) (by rw [hY])];exact r3)
     have QF:Hid (∀ Y:World,Y.heap=W3.heap->Calls Tryz.prog 134 #[.pointer (some ⟨sb,6,none⟩),.int .i64 (q:Nat)] Y fun e w'=>e=.returned (.bool (decide (tv u q < 0)))/\w'=Y):=fun Y hY=>qP sb 6 g3 (2 * n) c3 q (tv u q) Y (by rw [show Y.cell? ⟨sb,6 + 3,none⟩=W3.cell? ⟨sb,9,none⟩ from World.cell?_of_block (a:=⟨sb,9,none⟩) (by rw [hY])];exact q3) ah (by rw [show Y.cell? ⟨g3,q,none⟩=W3.cell? ⟨g3,q,none⟩ from World.cell?_of_block (a:=⟨g3,q,none⟩) (by rw [hY])];exact r3)
     clear q3 r3;have HQ:Hid (tv u q=1\/tv u q=0\/tv u q=-1):=by unfold Hid tv;split <;> (try split) <;> omega
     generalize aX:tv u q=tq at QO QF aT HQ;have aU:=hide aX;clear aX;go_upto_region 11 with (go_at_call 175;refine (QL.out _ (by rfl)).mono ?_;rintro e8 w8 ⟨rfl,j8,rfl⟩;simp only [])
     obtain ⟨W4,aD⟩:∃ W4,W4=W3.drewN j8:=⟨_,rfl⟩;have b4:Below W3.heap.size W3 W4:=by rw [aD];exact Go.below_drewN bR _
     have bc:Hid (W4.heap=W3.heap):=by rw [aD];rfl
     rw [<- aD];have S:=hide (S3.out.later b4);have ab:Hid (∀ Y:World,Y.heap=W4.heap->Calls Tryz.prog 135 #[.pointer (some ⟨sb,6,none⟩),.int .i64 (q:Nat)] Y fun e w'=>e=.returned (.bool (tq == 0))/\w'=Y):=fun Y hY=>QO.out Y (hY.trans bc.out)
     have ap:Hid (∀ Y:World,Y.heap=W4.heap->Calls Tryz.prog 134 #[.pointer (some ⟨sb,6,none⟩),.int .i64 (q:Nat)] Y fun e w'=>e=.returned (.bool (decide (tq < 0)))/\w'=Y):=fun Y hY=>QF.out Y (hY.trans bc.out)
     clear aD b4 S3 QO QF QL cq lg
     rcases HQ.out with rfl | rfl | rfl
     ·
      have ao:Hid (∀ Y:World,Y.heap=W4.heap->Calls Tryz.prog 135 #[.pointer (some ⟨sb,6,none⟩),.int .i64 (q:Nat)] Y fun e w'=>e=.returned (.bool false)/\w'=Y):=ab.out;have aS:Hid (∀ Y:World,Y.heap=W4.heap->Calls Tryz.prog 134 #[.pointer (some ⟨sb,6,none⟩),.int .i64 (q:Nat)] Y fun e w'=>e=.returned (.bool false)/\w'=Y):=ap.out;clear ab ap;have S5:=hide (S.out.XB M U au.out aq.out aU.out);rw [<- ar.out] at S5;have aJ:Hid ((kl ++ [a]).length=kl.length + 1):=by unfold Hid;simp
      clear S;go_upto_region 13 with (go_at_call 135;refine (ao.out _ (by rfl)).mono ?_;rintro e9 w9 ⟨rfl,rfl⟩;simp only [])
      go_wp2_with (go_at_call 134;refine (aS.out _ (by rfl)).mono ?_;rintro e9 w9 ⟨rfl,rfl⟩;simp only [])
      go_roundw
      case rel=>exact ⟨i + 1,kl ++ [a],_,_,_,_,_,_,_,_,by rw [aJ.out];rfl,rfl,by go_num,S5⟩
      case measure=>simp [intOf];omega
     ·
      have R:∀ y ∈ r,tv u y=-1:=by
       rcases aT.out with e | ⟨_,e⟩
       ·cases e
       ·exact e
      have ao:Hid (∀ Y:World,Y.heap=W4.heap->Calls Tryz.prog 135 #[.pointer (some ⟨sb,6,none⟩),.int .i64 (q:Nat)] Y fun e w'=>e=.returned (.bool true)/\w'=Y):=ab.out;have l1:(X3 1).length=u.length:=by rw [S.out.gB.l1,cZ]
      have l2:(X3 2).length=ch.length:=by rw [S.out.gB.l2,cZ]
      have be:=S.out.fi.dI.len;have QA:=hide (qg (w:=W4) q n ch.length (a:Nat) ah hn S.out.dF (by omega) l2 S.out.gB.n3 S.out.gB.n4 S.out.gB.n5);have UT:=hide (fun w' v' hs hc=>S.out.Xf (w':=w') (v':=v') M U bb.out au.out aq.out aU.out R hs hc);rw [<- ar.out] at UT;have aJ:Hid ((kl ++ [a]).length=kl.length + 1):=by unfold Hid;simp
      clear ab ap S R l1 l2 be;go_upto_region 12 with (go_at_call 135;refine (ao.out _ (by rfl)).mono ?_;rintro e9 w9 ⟨rfl,rfl⟩;simp only [])
      go_wp2_with (go_at_call 136;refine QA.out.mono ?_;rintro eA wA ⟨rfl,a3,vA,aZ⟩;have S5:=hide (UT.out wA vA aZ a3);clear a3 aZ;simp only [])
      go_roundw
      case rel=>exact ⟨i + 1,kl ++ [a],_,_,_,_,_,_,_,_,by rw [aJ.out];rfl,rfl,by go_num,S5⟩
      case measure=>simp [intOf];omega
     ·
      have R:∀ y ∈ r,tv u y=-1:=by
       rcases aT.out with e | ⟨_,e⟩
       ·cases e
       ·exact e
      have ao:Hid (∀ Y:World,Y.heap=W4.heap->Calls Tryz.prog 135 #[.pointer (some ⟨sb,6,none⟩),.int .i64 (q:Nat)] Y fun e w'=>e=.returned (.bool false)/\w'=Y):=ab.out;have aS:Hid (∀ Y:World,Y.heap=W4.heap->Calls Tryz.prog 134 #[.pointer (some ⟨sb,6,none⟩),.int .i64 (q:Nat)] Y fun e w'=>e=.returned (.bool true)/\w'=Y):=ap.out;clear ab ap
      go_upto_region 14 with (first | (go_at_call 135;refine (ao.out _ (by rfl)).mono ?_;rintro e9 w9 ⟨rfl,rfl⟩;simp only []) | (go_at_call 134;refine (aS.out _ (by rfl)).mono ?_;rintro e9 w9 ⟨rfl,rfl⟩;simp only []))
      obtain ⟨D,aA⟩:∃ D,D=kl.length + 1:=⟨_,rfl⟩;obtain ⟨E,aL⟩:∃ E,E=i + 1:=⟨_,rfl⟩;have s:=S.out.gP.row lit I;rw [if_pos rfl] at s;have ax:=S.out.dF.eH.own (16 + lit) (by omega);rw [S.out.hv,uF,s,cZ,fT (by simp;omega)] at ax;obtain ⟨B,hg,bP⟩:∃ B,w9.heap[O]? = some (.cells B 3 (0,0))/\cK.length <= B.size:=by
       rcases ax.2 with ⟨e,_⟩ | ⟨g',a8,a6,e,_,bk,bK,_,bJ,_⟩
       ·cases e
       ·cases e;exact ⟨a6,bk,by omega⟩
      obtain ⟨N,an⟩:∃ N,N=cK.length - E:=⟨_,rfl⟩;obtain ⟨z,L⟩:∃ z,z=dw (cK.drop E):=⟨_,rfl⟩;have H:z.length=N:=by rw [L,an,cZ];simp
      have aV:(kl ++ [a]).length=D:=by rw [aA];simp
      have aY:Hid (∀ j v,z[j]? = some v->w9.cell? (Addr.add ⟨O,E,none⟩ j)=some v):=by rw [L];exact zm ax (by rw [aV];omega)
      have aQ:Hid (∀ v ∈ z,v.oneCell'=true):=by rw [L];exact yB _
      have CP:Hid (∀ w',w'.heap[O]? = some (.cells (splice B.toList D z).toArray 3 (0,0))->(∀ k,k ≠ O->w'.heap[k]? = w9.heap[k]?)->Below 0 w9 w'->DT Z sb w K f X n lit p ch (.slice (some ⟨O,0,none⟩) cK.length l) cK.length cs tr (.int .i64 ((D + N:Nat):Int)) (.int .i64 (a:Nat)) w'):=fun w' q1 q2 q3=>S.out.Na M ar.out (by omega) U bb.out au.out aq.out aU.out R rfl aA aL an hg (by rw [<- L];exact q1) q2 q3
      have HG:=hide hg;have bV:=hide aA;have bW:=hide aL;have i1:(i:Int) + 1=(E:Int):=by omega
      have i2:(kl.length:Int) + 1=(D:Int):=by omega
      have j0:(0:Int) <= (E:Int):=by omega
      have j1:(E:Int) <= (cK.length:Int):=by omega
      have j2:(0:Int) <= (D:Int):=by omega
      have j3:(D:Int) <= (cK.length:Int):=by omega
      have j4:(E:Int) <= (l:Int):=by omega
      have j5:(D:Int) <= (l:Int):=by omega
      have j6:D <= E:=by omega
      have j7:(i:Int) + 1 < 9223372036854775807:=by omega
      have a0:N=Nat.min (cK.length - E) (cK.length - D):=by rw [an];exact (Nat.min_eq_left (by omega)).symm
      have br:=hide a0;clear a0;have a1:D + N <= B.size:=by omega
      have kb:D + N <= 1099511627776:=by omega
      have bv:=hide L;have ba:=hide an;have wi:IntKind.i64.wrap (E:Int)=(E:Int):=vR _ (by omega) (by omega);have wk:Hid (IntKind.i64.wrap ((D:Int) + (N:Int))=((D + N:Nat):Int)):=by unfold Hid;rw [vR _ (by omega) (by omega)];omega
      have aa:l=E->cK.length=E:=fun e=>by omega
      clear ax s L hg an aV aA aL S R;rw [i2];by_cases cA:E < l
      ·have bz:¬ (l=E):=by omega
       have bx:¬ (l=D):=by omega
       go_region_law (refine jJ (by rfl) _ _ 43 43 (by rfl) 3 Tryz.underlying43 (by rfl) O D ⟨O,E,none⟩ (cK.length - D) (l - D) (cK.length - E) (l - E) (by simp [Act.eval,Act.put]) (by simp [Act.eval,Act.put]) B 3 HG.out z (by rw [H];exact br.out) aY.out (by rw [H];exact a1) aQ.out 0 zl ?_;intro wZ H1 H2 H3;rw [H])
       all_goals
        have FX:=hide (CP.out wZ H1.out H2.out ((Below.refl 0 w9).drew.trans H3.out));rw [<- wk.out] at FX;clear H1 H2 H3;go_wp2_with fail
        go_meet
        first | exact FX.out | (rw [wk.out,Int.natCast_add] at FX;exact FX.out)
      ·have eA:l=E:=by omega
       have eB:cK.length=E:=aa eA;have aR:z=[]:=List.eq_nil_of_length_eq_zero (by rw [H,ba.out];omega);have ag:Hid (∀ j v,z[j]? = some v->w9.cell? (Addr.add ⟨O,0,none⟩ j)=some v):=fun j v hv=>by rw [aR] at hv;simp at hv
       have bq:Hid (∀ o,splice B.toList o z=splice B.toList D z):=fun o=>by rw [aR,xV,xV]
       have a4:Hid (∀ y,N=Nat.min 0 y):=fun y=>by rw [ba.out,eB];simp
       have bX:=hide eB;clear aR aa eB;subst eA;by_cases cB:l=D
       ·subst cB;have bo:0 + N <= B.size:=by omega
        go_region_law (refine jJ (by rfl) _ _ 43 43 (by rfl) 3 Tryz.underlying43 (by rfl) O 0 ⟨O,0,none⟩ 0 0 0 0 (by simp [Act.eval,Act.put]) (by simp [Act.eval,Act.put]) B 3 HG.out z (by rw [H];exact a4.out _) ag.out (by rw [H];exact bo) aQ.out 0 zl ?_;intro wZ H1 H2 H3;rw [H])
        all_goals
         rw [bq.out] at H1;have FX:=hide (CP.out wZ H1.out H2.out ((Below.refl 0 w9).drew.trans H3.out));rw [<- wk.out] at FX;clear H1 H2 H3;go_wp2_with fail
         go_meet
         first | exact FX.out | (rw [wk.out,Int.natCast_add] at FX;exact FX.out)
       ·go_region_law (refine jJ (by rfl) _ _ 43 43 (by rfl) 3 Tryz.underlying43 (by rfl) O D ⟨O,0,none⟩ (cK.length - D) (l - D) 0 0 (by simp [Act.eval,Act.put]) (by simp [Act.eval,Act.put]) B 3 HG.out z (by rw [H];exact a4.out _) ag.out (by rw [H];exact a1) aQ.out 0 zl ?_;intro wZ H1 H2 H3;rw [H])
        all_goals
         have FX:=hide (CP.out wZ H1.out H2.out ((Below.refl 0 w9).drew.trans H3.out));rw [<- wk.out] at FX;clear H1 H2 H3;go_wp2_with fail
         go_meet
         first | exact FX.out | (rw [wk.out,Int.natCast_add] at FX;exact FX.out)
    ·have S2:=hide (d.out.moves M hk aB HA.out HL.out aw aC ay bi bh bg ae af av);clear d aw aC ay ae af av;go_wp2;go_roundw
     case rel=>exact ⟨i + 1,kl,_,_,_,_,_,_,_,_,rfl,rfl,by go_num,S2⟩
     case measure=>simp [intOf];omega
   ·have ei:i=cK.length:=by omega
    subst ei;have SE:=hide d.out.atEnd;clear d;go_wp2_with fail
    go_meet;exact ⟨kl.length,-1,mix kl cK,cs',u,ad,ac,aH,f',V',X',rfl,rfl,by omega,fT (by omega),SE⟩
 case rest=>
  clear S1;obtain ⟨kept,bA,ml,cs',u,ad,ac,aH,f',V',X',rfl,rfl,bN,bL,Q⟩:=hcut;have h9:=Q.out.gP.n9;obtain ⟨bT,bU,t9,aE,q9,r9,s9,z9,bw,l9,bC⟩:=Q.out.dF.elem (k:=9) (j:=lit) (by omega) h9 I;rw [show cellOf 9=5 from rfl] at q9;have bd:=hide (Q.out.out aP rfl (by omega) aE);have k0:(0:Int) <= (kept:Int):=by omega
  have k1:(kept:Int) <= (cK.length:Int):=by omega
  have k2:(kept:Int) <= (l:Int):=by
   rcases W.out with ⟨_,h0,_⟩ | ⟨_,_,h⟩ <;> omega
  clear Q aE s9 h9;go_upto_region 17 with fail
  go_region_with fail
  all_goals
   go_wp2;go_ret
   first | exact bd.out | exact bd.out.later bR.drew
end
section
variable {Z:Nat->Prop} {sb K:Nat} {w w':World} {f V:Nat->Value} {X:Nat->List Value} {n:Nat} {wl:Nat->List Nat} {tr ch:List Nat} {lev:Nat->Nat} {rea:Nat->Int}
def kJ (w:World) (a:Addr):Int:=match w.cell? a with | some v=>intOf v | none=>0
structure ru (Z:Nat->Prop) (sb:Nat) (w:World) (K:Nat) (f:Nat->Value) (X:Nat->List Value) (n:Nat) (ch:List Nat) (cs:List Rec) (lG:List Nat) (sp:Nat) (cs':List Rec) (tr:List Nat) (lev:Nat->Nat) (rea:Nat->Int) (wl:Nat->List Nat) (f' V':Nat->Value) (X':Nat->List Value) (wr:World):Prop where
 pi:PI n (mapOf cs') tr ch lev rea wl sp
 dF:dQ Z sb wr K f' V' X'
 x0:X' 0=ints (enc cs')
 gB:lU n X' tr ch lev rea
 gP:mH n V' X' wl
 perm:iI cs cs'
 only:∀ k,6 <= k->k ≠ 9->k < 16->X' k=X k
 ff:∀ j,j ≠ 6->j ≠ 7->f' j=f j
 f7:f' 7=.int .i64 (sp:Nat)
 AV:sp <= tr.length
 late:∀ q ∈ ch,q <= sp
 ext:∃ e,tr=lG ++ e
 eO:dB Z w wr
def JC (Z:Nat->Prop) (sb:Nat) (w:World) (K:Nat) (f:Nat->Value) (X:Nat->List Value) (n:Nat) (ch:List Nat) (cs:List Rec) (lG:List Nat) (wr:World):Prop:=
 ∃ sp cs' tr lev rea wl f' V' X',Hid (ru Z sb w K f X n ch cs lG sp cs' tr lev rea wl f' V' X' wr)
structure gH (Z:Nat->Prop) (sb:Nat) (w:World) (K:Nat) (f:Nat->Value) (X:Nat->List Value) (n:Nat) (ch:List Nat) (cs:List Rec) (lG:List Nat) (res:Int) (P sp:Nat) (cs':List Rec) (tr:List Nat) (lev:Nat->Nat) (rea:Nat->Int) (wl:Nat->List Nat) (f' V':Nat->Value) (X':Nat->List Value) (wr:World):Prop where
 pi:PI n (mapOf cs') tr ch lev rea wl P
 dF:dQ Z sb wr K f' V' X'
 x0:X' 0=ints (enc cs')
 gB:lU n X' tr ch lev rea
 gP:mH n V' X' wl
 perm:iI cs cs'
 only:∀ k,6 <= k->k ≠ 9->k < 16->X' k=X k
 ff:∀ j,j ≠ 6->j ≠ 7->f' j=f j
 f7:f' 7=.int .i64 (sp:Nat)
 AV:sp <= tr.length
 late:∀ q ∈ ch,q <= P
 ext:∃ e,tr=lG ++ e
 eO:dB Z w wr
 res:(res=-1/\P=tr.length/\sp=tr.length)\/∃ k,∃ hk:k < cs'.length,res=(dn cs' k:Nat)/\(cs'[k]).kind ≠ 2/\(∀ y ∈ (cs'[k]).lits,op y ∈ tr)/\∃ y ∈ (cs'[k]).lits,lev (y / 2)=ch.length
def ry (Z:Nat->Prop) (sb:Nat) (w:World) (K:Nat) (f:Nat->Value) (X:Nat->List Value) (n:Nat) (ch:List Nat) (cs:List Rec) (lG:List Nat) (e:Ending) (w':World):Prop:=
 ∃ res P sp cs' tr lev rea wl f' V' X',e=.returned (.int .i64 res)/\gH Z sb w K f X n ch cs lG res P sp cs' tr lev rea wl f' V' X' w'
variable {cs cs':List Rec} {lG:List Nat} {sp:Nat} {f' V':Nat->Value} {X':Nat->List Value} {wr wx:World}
theorem eX {w w':World} (h:w'.heap=w.heap) (a:Addr):w'.cell? a=w.cell? a:=World.cell?_of_block (by rw [h])
theorem nX {w w':World} (h:w'.heap=w.heap) (a:Addr):w'.frozen? a=w.frozen? a:=World.frozen?_of_block (by rw [h])
theorem ru.later (h:ru Z sb w K f X n ch cs lG sp cs' tr lev rea wl f' V' X' wr) (a:Below wr.heap.size wr wx):ru Z sb w K f X n ch cs lG sp cs' tr lev rea wl f' V' X' wx:=
 { h with dF:=h.dF.later a,eO:=h.eO.trans (dB.of_below a) }
theorem ry.later {e:Ending} (h:ry Z sb w K f X n ch cs lG e wr) (c:Below wr.heap.size wr wx):ry Z sb w K f X n ch cs lG e wx:=by
 obtain ⟨a,P,sp,cs',tr,lev,rea,wl,f',V',X',d,b⟩:=h;exact ⟨a,P,sp,cs',tr,lev,rea,wl,f',V',X',d,{ b with dF:=b.dF.later c,eO:=b.eO.trans (dB.of_below c) }⟩
theorem ru.done (h:ru Z sb w K f X n ch cs lG sp cs' tr lev rea wl f' V' X' wr) (a:sp=tr.length):ry Z sb w K f X n ch cs lG (.returned (.int .i64 (-1))) wr:=
 ⟨-1,sp,sp,cs',tr,lev,rea,wl,f',V',X',rfl,{ h with res:=.inl ⟨rfl,a,a⟩ }⟩
theorem ru.next (h:ru Z sb w K f X n ch cs lG sp cs' tr lev rea wl f' V' X' wr) (M:sp < tr.length) {lit:Nat} (R:tr[sp]? = some (op lit)) {e:Ending} (N:oU Z sb (wr.setCell ⟨sb,7,none⟩ (.int .i64 ((sp + 1:Nat):Int))) K (upd f' 7 (.int .i64 ((sp + 1:Nat):Int))) X' n lit sp ch cs' tr e wx):
  ∃ res,e=.returned (.int .i64 res)/\((res=-1/\∃ m a c b l s z y,ru Z sb w K f X n ch cs lG (sp + 1) m a c b l s z y wx)\/(res ≠ -1/\ry Z sb w K f X n ch cs lG (.returned (.int .i64 res)) wx)):=by
 obtain ⟨res,m,a,c,b,l,s,z,y,rfl,g⟩:=N;obtain ⟨T,r⟩:=g.ext;obtain ⟨W,E⟩:=h.ext;have d:sp < a.length:=by rw [r];simp;omega
 have F:dB Z w wx:=(h.eO.setCell h.dF.jf _).trans g.eO;have v:∀ j,j ≠ 6->j ≠ 7->s j=f j:=fun j H G=>(g.ff j H).trans ((cu _ _ G).trans (h.ff j H G))
 have x:s 7=.int .i64 ((sp + 1:Nat):Int):=(g.ff 7 (by decide)).trans (cz ..);have u:∀ k,6 <= k->k ≠ 9->k < 16->y k=X k:=fun k L J I=>(g.only k L J I).trans (h.only k L J I)
 have t:∃ e,a=lG ++ e:=⟨W ++ T,by rw [r,E,List.append_assoc]⟩;refine ⟨res,rfl,?_⟩
 rcases g.res with ⟨o,A⟩ | ⟨A,k,S,o,B,D,Q⟩
 ·refine .inl ⟨o,m,a,c,b,l,s,z,y,{
   pi:=⟨g.dI,g.o7,g.lZ,g.oH,A⟩
   dF:=g.dF
   x0:=g.x0
   gB:=g.gB
   gP:=g.gP
   perm:=h.perm.trans g.perm
   only:=u
   ff:=v
   f7:=x
   AV:=d
   late:=fun q O=>Nat.le_succ_of_le (h.late q O)
   ext:=t
   eO:=F }⟩
 ·refine .inr ⟨by omega,res,sp,sp + 1,m,a,c,b,l,s,z,y,rfl,{
   pi:=⟨g.dI,g.o7,g.lZ,g.oH,A⟩
   dF:=g.dF
   x0:=g.x0
   gB:=g.gB
   gP:=g.gP
   perm:=h.perm.trans g.perm
   only:=u
   ff:=v
   f7:=x
   AV:=d
   late:=h.late
   ext:=t
   eO:=F
   res:=.inr ⟨k,S,o,B,D,lit,Q,?_⟩ }⟩
  have U:a[sp]'d=op lit:=by
   have:a[sp]? = some (op lit):=by rw [r,List.getElem?_append_left M];exact R
   exact (List.getElem?_eq_some_iff.1 this).2
  have:=g.dI.lev sp d;rw [U,gG] at this;rw [this,uI h.late]
theorem sK (h:ru Z sb w K f X n ch cs tr sp cs tr lev rea wl f V X w) (W:K=16 + 2 * n) (hn:n <= 50) (hN:(enc cs).length <= 1099511627776):
  Calls Tryz.prog 98 #[.pointer (some ⟨sb,0,none⟩)] w fun e w'=>ry Z sb w K f X n ch cs tr e w':=by
 subst W;have S0:=hide h;clear h;go_enter Tryz.func98,Tryz.ntmps98
 go_wp2_with fail
 go_loopw [2,3,4] (fun _ _ _ wr=>JC Z sb w (16 + 2 * n) f X n ch cs tr wr) (fun _ _ _ wr=>n - (kJ wr ⟨sb,7,none⟩).toNat)
 case atStart=>exact ⟨sp,cs,tr,lev,rea,wl,f,V,X,S0⟩
 case round=>
  clear S0;obtain ⟨a,cs',c,ae,ad,ah,f',V',X',b⟩:=hrel;have hK:=b.out.dF.hK;obtain ⟨a1,c1,N⟩:=b.out.dF.eH.shape (k:=1) (by omega);have D:=(b.out.dF.hd (k:=1) (by omega)).1;have l1:(X' 1).length=c.length:=by rw [b.out.gB.l1,cZ]
  rw [show cellOf 1=6 from rfl,N,l1] at D;obtain ⟨M,z7⟩:=b.out.dF.head 7 (by omega);rw [b.out.f7] at M;have af:=b.out.AV;have ak:=b.out.pi.dI.len;clear N;by_cases m:a < c.length
  ·have s1:(a:Int) < (c.length:Int):=by omega
   have s0:(0:Int) <= (a:Int):=by omega
   obtain ⟨g1,ab,t1,N,y,U,z,-⟩:=b.out.dF.elem (k:=1) (j:=a) (by omega) l1 m;rw [show cellOf 1=6 from rfl] at y;have ea:a1=some ⟨g1,0,none⟩/\c1=ab:=by
    rw [y] at D;obtain ⟨x1,_,x3⟩:=Value.slice.inj (Option.some.inj D);exact ⟨x1.symm,x3.symm⟩
   obtain ⟨rfl,rfl⟩:=ea;rw [b.out.gB.l1,iK _ _ m] at z;obtain rfl:=Option.some.inj z;obtain ⟨x,G⟩:∃ x,x=c[a]:=⟨_,rfl⟩;rw [<- G] at U;have HX:=hide G;have aj:x < 2 * n:=by rw [G];exact b.out.pi.dI.lt _ (List.getElem_mem _)
   have ac:=hide (fun Y=>kE x Y (by omega));have I:Hid (c[a]? = some (op (op x))):=by unfold Hid;rw [ko,G];exact List.getElem?_eq_getElem m
   have sw:(a:Int) + 1 < 9223372036854775807:=by omega
   clear G N y;go_upto_region 1 with fail
   go_quiet (fail)
   obtain ⟨t,s⟩:∃ t,t=wr.drewN nq:=⟨_,rfl⟩;have q:t.heap=wr.heap:=by rw [s];rfl
   have b1:Below wr.heap.size wr t:=by rw [s];exact Go.below_drewN bR _
   rw [<- s];have T1:=hide (b.out.later b1);rw [<- eX q] at D M U;rw [<- nX q] at z7;have M1:Hid (kJ wr ⟨sb,7,none⟩=kJ t ⟨sb,7,none⟩):=by unfold Hid kJ;rw [eX q]
   clear s q b1 b;go_upto_region 2 with fail
   go_quiet (fail)
   rename_i ai;obtain ⟨L,r⟩:∃ L,L=t.drewN nq:=⟨_,rfl⟩;have o:L.heap=t.heap:=by rw [r];rfl
   have b2:Below t.heap.size t L:=by rw [r];exact Go.below_drewN bR _
   rw [<- r];have d:=hide (T1.out.later b2);rw [<- eX o] at D M U;rw [<- nX o] at z7;have M2:Hid (kJ wr ⟨sb,7,none⟩=a):=by unfold Hid;rw [M1.out];unfold kJ;rw [<- eX o,M];rfl
   clear r o b2 T1 M1;have S2:=d.out.dF.scalar 7 (.int .i64 ((a + 1:Nat):Int)) (by decide +kernel);have O:=hide (qR (w:=L.setCell ⟨sb,7,none⟩ (.int .i64 ((a + 1:Nat):Int))) (lit:=op x) (p:=a) S2 rfl d.out.x0 hn (by rw [d.out.perm.len];exact hN) d.out.gB d.out.gP d.out.pi.dI d.out.pi.o7 d.out.pi.lZ d.out.pi.oH d.out.pi.vX I.out d.out.late);have Q:=hide (fun (e:Ending) (wx:World)=>d.out.next (wx:=wx) (e:=e) m I.out);rw [show ((a + 1:Nat):Int)=(a:Int) + 1 from rfl] at O Q;clear S2 d;generalize op x=ox at *
   go_upto_region 5 with (first
    |(go_at_call 139;refine (ac.out _).mono ?_;rintro e7 w7 ⟨rfl,rfl⟩;simp only [])
    |(go_at_call 138;refine O.out.mono ?_;intro e8 w8 u;obtain ⟨T,rfl,v⟩:=Q.out _ _ u;have g:=hide v;clear v u;simp only []))
   rcases g.out with ⟨rfl,aa,S,E,B,R,f2,V2,X2,l⟩ | ⟨J,H⟩
   ·have ST:=hide l;have M3:Hid (kJ w8 ⟨sb,7,none⟩=((a + 1:Nat):Int)):=by
     unfold Hid kJ;rw [(l.dF.head 7 (by omega)).1,l.f7];rfl
    clear g l Q O;go_wp2;go_roundw
    case rel=>exact ⟨a + 1,aa,S,E,B,R,f2,V2,X2,ST⟩
    case measure=>rw [M2.out,M3.out];omega
   ·have RT:=hide H;have ag:(T != -1)=true:=by simpa using J
    clear g H Q O J;go_wp2;go_ret;exact RT.out
  ·have SD:=hide (b.out.done (by omega));have s1:¬ ((a:Int) < (c.length:Int)):=by omega
   go_upto_region 1 with fail
   go_quiet (fail)
   go_wp2;go_ret
   exact SD.out.later (Go.below_drewN bR _)
end
end
end So
end Go.Proofs.YtceahffmenbibaaGreatDoor
