/- Swot Scpy Slrn Sfls. -/
import Derived.Test.YtceahffmenbibaaGreatDoorG03
import Derived.Laws.CopyOwn
set_option linter.unusedVariables false
set_option linter.unusedSimpArgs false
set_option maxHeartbeats 4000000
set_option maxRecDepth 100000
namespace Go.Proofs.YtceahffmenbibaaGreatDoor
namespace So
section
open Go Go.RowKit Go.Deep Rd
section
variable {Z:Nat->Prop} {sb K:Nat} {w w':World} {f V:Nat->Value} {X:Nat->List Value} {n:Nat} {wl:Nat->List Nat} {tr ch:List Nat} {lev:Nat->Nat} {rea:Nat->Int}
theorem rU.Nk {B:Nat} {T:Nat->TypeId} (h:rU B w K T V X) {k:Nat} (o:k < K) {g m cap:Nat} (d:V k=.slice (some ⟨g,0,none⟩) m cap) (j:Nat):w.frozen? ⟨g,j,none⟩=false:=by
 have b:=h.own k o;rw [d] at b;have l:m=(X k).length:=by
  obtain ⟨a,c,e⟩:=dG b;exact (Value.slice.inj e).2.1
 subst l;exact b.frozenAt j
theorem Xq (tr:List Nat) (x:Nat):tv tr x < 0↔tv tr x=-1:=by unfold tv;split <;> (try split) <;> omega
theorem Xr (tr:List Nat) (x:Nat):0 < tv tr x↔tv tr x=1:=by unfold tv;split <;> (try split) <;> omega
theorem mX {cs:List Rec} (a:dQ Z sb w K f V X) (e:X 0=ints (enc cs)) {g N c:Nat} (h:V 0=.slice (some ⟨g,0,none⟩) N c) {k:Nat} (b:k < cs.length) {i:Nat} (hi:i < (cs[k]).lits.length):w.cell? ⟨g,dw cs k + 3 + i,none⟩=some (.int .i64 ((cs[k]).lits[i]:Nat)):=by
 have d:=eF b;have l:(X 0).length=(enc cs).length:=by rw [e,fV]
 rw [(a.eO.cell (k:=0) (by have:=a.hK;omega) h (j:=dw cs k + 3 + i) (by omega)).1]
 exact CV e (xO b hi)
def Ac (X X':Nat->List Value):Prop:=∀ k,k ≠ 0->k ≠ 9->k < 16->X' k=X k
def D9 (Z:Nat->Prop) (sb:Nat) (w:World) (K:Nat) (f V:Nat->Value) (X:Nat->List Value) (n:Nat) (wl:Nat->List Nat) (tr:List Nat) (cs:List Rec) (k:Nat) (kd:Nat) (bs:Int) (lit q:Nat) (r:List Nat) (e:Ending) (w':World):Prop:=
 ∃ b V' X',e=.returned (.bool b)/\dC Z w w'/\dQ Z sb w' K f V' X'/\Ac X X'/\V' (16 + lit)=V (16 + lit)/\
  ((b=false/\X' 0=ints (enc (cs.set k ⟨kd,bs,q :: lit :: r⟩))/\mJ n V' X' wl/\(tv tr q=1\/(tv tr q ≠ 1/\∀ y ∈ r,tv tr y=-1))) \/
   (b=true/\tv tr q ≠ 1/\∃ j o,r[j]? = some o/\tv tr o ≠ -1/\X' 0=ints (enc (cs.set k ⟨kd,bs,q :: o :: r.set j lit⟩))/\mJ n V' X' (fun x=>if x=o then wl x ++ [dw cs k] else wl x)))
def Rx (Z:Nat->Prop) (sb:Nat) (w:World) (K:Nat) (f V:Nat->Value) (X:Nat->List Value) (tr r:List Nat) (i8:Value) (wr:World):Prop:=
 ∃ i:Nat,i8=.int .i64 ((i + 2:Nat):Int)/\i <= r.length/\Hid ((∀ j (hj:j < r.length),j < i->tv tr r[j]=-1)/\dQ Z sb wr K f V X/\dC Z w wr)
theorem dQ.Ve {cs:List Rec} (h:dQ Z sb w K f V X) (q:X 0=ints (enc cs)) {g N c:Nat} (m:V 0=.slice (some ⟨g,0,none⟩) N c) {k:Nat} (d:k < cs.length) {i j:Nat} (hi:i < (cs[k]).lits.length) (o:j < (cs[k]).lits.length) (x y:Nat):
  dQ Z sb ((w.setCell ⟨g,dw cs k + 3 + i,none⟩ (.int .i64 (x:Nat))).setCell ⟨g,dw cs k + 3 + j,none⟩ (.int .i64 (y:Nat))) K f V (upd X 0 (ints (enc (cs.set k ⟨(cs[k]).kind,(cs[k]).busy,((cs[k]).lits.set i x).set j y⟩)))):=by
 have l:0 < K:=by have:=h.hK;omega
 have a:=(h.set (k:=0) l m (dw cs k + 3 + i) (.int .i64 (x:Nat))).set (k:=0) l m (dw cs k + 3 + j) (.int .i64 (y:Nat));rw [cK,eQ,q,ints_set,ints_set] at a;have r:=zt d hi x;have b:k < (cs.set k ⟨(cs[k]).kind,(cs[k]).busy,(cs[k]).lits.set i x⟩).length:=by simpa using d
 have e:=zt (cs:=cs.set k ⟨(cs[k]).kind,(cs[k]).busy,(cs[k]).lits.set i x⟩) b (i:=j) (by simpa using o) y
 rw [oJ d (by simp),r] at e
 simp only [List.getElem_set_self,List.set_set] at e;rw [<- e] at a;exact a
theorem vk {cs:List Rec} {k lit q:Nat} {r:List Nat} (h:dQ Z sb w K f V X) (aN:K=16 + 2 * n) (h0:X 0=ints (enc cs)) (U:k < cs.length) (hl:(cs[k]).lits=lit :: q :: r\/(cs[k]).lits=q :: lit :: r) (bc:lit ≠ q) (aJ:lit ∉ r) (t:∀ y ∈ (cs[k]).lits,y < 2 * n) (hn:n <= 50) (hN:(enc cs).length <= 1099511627776) (hT:lX n X tr ch lev rea) (hW:mJ n V X wl) (aH:∀ x,x < 2 * n->(wl x).length <= 1099511627776):
  Calls Tryz.prog 179 #[.pointer (some ⟨sb,0,none⟩),.int .i64 (dw cs k:Nat),.int .i64 (lit:Nat)] w fun e w'=>D9 Z sb w K f V X n wl tr cs k (cs[k]).kind (cs[k]).busy lit q r e w':=by
 obtain ⟨i0,G,aG,aF,aE⟩:=info_parts Tryz.fP;obtain ⟨g,c,e0,q0,hc,lg,ng,zg,r0,-,-,-,fz⟩:=fJ h h0 U;have aY:=eF U;have HS:=hide h
 have hm:(cs[k]).lits.length=r.length + 2:=by rcases hl with e | e <;> rw [e] <;> simp
 have QL:Hid (∀ Y:World,Y.heap=w.heap->Calls Tryz.prog 175 #[.pointer (some ⟨sb,2,none⟩),.int .i64 (dw cs k:Nat)] Y fun e w'=>e=.returned (jB g (dw cs k) (cs[k]).lits.length c)/\∃ j,w'=Y.drewN j):=fun Y u=>iY sb 2 g (enc cs).length c (dw cs k) (cs[k]).lits.length Y (by rw [show Y.cell? ⟨sb,2,none⟩=w.cell? ⟨sb,2,none⟩ from World.cell?_of_block (a:=⟨sb,2,none⟩) (by rw [u])];exact q0) (by omega) (by unfold maxLen;omega) hc (by rw [show Y.cell? ⟨g,dw cs k,none⟩=w.cell? ⟨g,dw cs k,none⟩ from World.cell?_of_block (a:=⟨g,dw cs k,none⟩) (by rw [u])];exact r0)
 have nc:¬ (c=dw cs k + 3):=by omega
 unfold jB at QL;rw [if_neg nc,hm] at QL;obtain ⟨b,d⟩:∃ b,b=cs.set k ⟨(cs[k]).kind,(cs[k]).busy,q :: lit :: r⟩:=⟨_,rfl⟩;have ag:k < b.length:=by rw [d];simpa using U
 have M:b[k]=⟨(cs[k]).kind,(cs[k]).busy,q :: lit :: r⟩:=by subst d;simp
 have am:dw b k=dw cs k:=by rw [d];exact oJ U (by simp [hm]) k
 have af:∀ y,y ∈ q :: lit :: r->y < 2 * n:=fun y hy=>t y (by
  simp only [List.mem_cons] at hy
  rcases hl with e | e <;> rw [e] <;> simp only [List.mem_cons]
  ·rcases hy with B | B | B
   ·exact .inr (.inl B)
   ·exact .inl B
   ·exact .inr (.inr B)
  ·exact hy)
 have R:Hid ((w.cell? ⟨g,dw cs k + 3,none⟩=some (.int .i64 (lit:Nat))/\w.cell? ⟨g,dw cs k + 3 + 1,none⟩=some (.int .i64 (q:Nat))/\∀ Y,dQ Z sb Y K f V X->dQ Z sb ((Y.setCell ⟨g,dw cs k + 3,none⟩ (.int .i64 (q:Nat))).setCell ⟨g,dw cs k + 3 + 1,none⟩ (.int .i64 (lit:Nat))) K f V (upd X 0 (ints (enc b)))) \/
   (w.cell? ⟨g,dw cs k + 3,none⟩=some (.int .i64 (q:Nat))/\∀ Y,dQ Z sb Y K f V X->dQ Z sb Y K f V (upd X 0 (ints (enc b))))):=by
  rcases hl with e | e
  ·refine .inl ⟨?_,?_,fun Y u=>?_⟩
   ·have:=mX h h0 e0 U (i:=0) (by omega)
    simpa [e] using this
   ·have:=mX h h0 e0 U (i:=1) (by omega)
    simpa [e] using this
   ·have:=u.Ve h0 e0 U (i:=0) (j:=1) (by omega) (by omega) q lit
    rw [d];simpa [e] using this
  ·refine .inr ⟨?_,fun Y u=>?_⟩
   ·have:=mX h h0 e0 U (i:=0) (by omega)
    simpa [e] using this
   ·have e2:b=cs:=by rw [d,<- e];exact List.set_getElem_self U
    rw [e2,<- h0,upd_same];exact u
 have aa:Hid (∀ Y,dQ Z sb Y K f V (upd X 0 (ints (enc b)))->(Y.cell? ⟨g,dw cs k + 3,none⟩=some (.int .i64 (q:Nat))/\Y.cell? ⟨g,dw cs k + 3 + 1,none⟩=some (.int .i64 (lit:Nat))/\∀ j,Y.frozen? ⟨g,j,none⟩=false)/\∀ i (G:i < r.length),Y.cell? ⟨g,dw cs k + 3 + (i + 2),none⟩=some (.int .i64 (r[i]:Nat))):=fun Y u=>by
  have L:∀ i (G:i < (b[k]).lits.length),Y.cell? ⟨g,dw b k + 3 + i,none⟩=some (.int .i64 ((b[k]).lits[i]:Nat)):=fun i G=>mX u (cK ..) e0 ag G
  rw [am] at L;simp only [M] at L;exact ⟨⟨by simpa using L 0 (by simp),by simpa using L 1 (by simp),fun j=>u.eO.Nk (k:=0) (by have:=u.hK;omega) e0 j⟩,fun i G=>by simpa using L (i + 2) (by simp;omega)⟩
 have ad:Hid (∀ Y i (G:i < r.length),dQ Z sb Y K f V (upd X 0 (ints (enc b)))->dQ Z sb ((Y.setCell ⟨g,dw cs k + 3 + 1,none⟩ (.int .i64 (r[i]:Nat))).setCell ⟨g,dw cs k + 3 + (i + 2),none⟩ (.int .i64 (lit:Nat))) K f V (upd X 0 (ints (enc (cs.set k ⟨(cs[k]).kind,(cs[k]).busy,q :: r[i] :: r.set i lit⟩))))):=fun Y i G u=>by
  have:=u.Ve (cK ..) e0 ag (i:=1) (j:=i + 2) (by rw [M];simp) (by rw [M];simp;omega) r[i] lit
  rw [am,eQ] at this;simp only [M] at this;simpa [d] using this
 have aV:=hide d;have QT:Hid (∀ Y XX,dQ Z sb Y K f V XX->XX 3=X 3->∀ x,x < 2 * n->∃ N c3,Y.cell? ⟨sb,9,none⟩=some (.slice (some ⟨N,0,none⟩) (2 * n) c3)/\Y.cell? ⟨N,x,none⟩=some (.int .i64 (tv tr x))):=fun Y XX u e3 x hx=>by
  obtain ⟨N,c3,t3,be,q3,r3,s3,_⟩:=u.elem (k:=3) (j:=x) (by omega) (by rw [e3];exact hT.n3) hx
  rw [e3,hT.t3 x hx] at s3;obtain rfl:=Option.some.inj s3;exact ⟨N,c3,q3,r3⟩
 have HW:=hide hW;have bb:r.length <= 1099511627776:=by omega
 have aZ:Hid (dw cs k=dw cs k):=rfl;have au:q < 2 * n:=af q (by simp)
 have ar:Hid (∀ y ∈ r,y < 2 * n):=fun y hy=>af y (by simp [hy])
 have O:Hid (∀ Y V' X' i (G:i < r.length),dC Z w Y->dQ Z sb Y K f V' X'->X' 0=ints (enc (cs.set k ⟨(cs[k]).kind,(cs[k]).busy,q :: r[i] :: r.set i lit⟩))->Ac X X'->V' (16 + lit)=V (16 + lit)->tv tr q ≠ 1->tv tr r[i] ≠ -1->mJ n V' X' (fun x=>if x=r[i] then wl x ++ [dw cs k] else wl x)->D9 Z sb w K f V X n wl tr cs k (cs[k]).kind (cs[k]).busy lit q r (.returned (.bool true)) Y):=fun Y V' X' i G B h2 h3 h4 h8 h5 h6 h7=>⟨true,V',X',rfl,B,h2,h4,h8,.inr ⟨rfl,h5,i,r[i],List.getElem?_eq_getElem G,h6,h3,h7⟩⟩
 have D:Hid (∀ Y,dC Z w Y->dQ Z sb Y K f V (upd X 0 (ints (enc b)))->(tv tr q=1\/(tv tr q ≠ 1/\∀ y ∈ r,tv tr y=-1))->D9 Z sb w K f V X n wl tr cs k (cs[k]).kind (cs[k]).busy lit q r (.returned (.bool false)) Y):=fun Y B h2 h3=>⟨false,V,_,rfl,B,h2,fun j h4 h5 h6=>cz _ _ h4,rfl,.inl ⟨rfl,by rw [cK,d],HW.out.congr (cz _ _ (by decide)) (fun _ _=>rfl) (fun x hx=>cz _ _ (by omega)),h3⟩⟩
 generalize D9 Z sb w K f V X n wl tr cs k (cs[k]).kind (cs[k]).busy lit q r=bg at *
 clear h hl t h0 hT hW r0 q0 M am af hm d e0 aV ag;generalize dw cs k=a at *
 generalize enc cs=ec at *
 generalize enc b=I at *
 go_enter Tryz.func179,Tryz.ntmps179
 go_upto_region 2 with (go_at_call 175;refine (QL.out _ (by rfl)).mono ?_;rintro e7 w7 ⟨rfl,j7,rfl⟩;simp only [])
 obtain ⟨W,ah⟩:∃ W,W=w.drewN j7:=⟨_,rfl⟩;have bW:Below w.heap.size w W:=by rw [ah];exact Go.below_drewN bR _
 rw [<- ah];have SW:=hide (HS.out.later bW);have CW:Hid (dC Z w W):=dC.of_below bW;have Q:∀ j,W.frozen? ⟨g,j,none⟩=false:=fun j=>(bW.frozen (p:=⟨g,j,none⟩) lg).trans (fz j)
 have E:=R.out;rw [<- bW.cell (p:=⟨g,a + 3,none⟩) lg,<- bW.cell (p:=⟨g,a + 3 + 1,none⟩) lg] at E;have m0:(0:Int) < ((r.length + 2:Nat):Int):=by omega
 have m1:(1:Int) < ((r.length + 2:Nat):Int):=by omega
 obtain ⟨l0,aR,S⟩:∃ l0:Nat,W.cell? ⟨g,a + 3,none⟩=some (.int .i64 (l0:Nat))/\Hid ((l0=lit/\W.cell? ⟨g,a + 3 + 1,none⟩=some (.int .i64 (q:Nat))/\∀ Y,dQ Z sb Y K f V X->dQ Z sb ((Y.setCell ⟨g,a + 3,none⟩ (.int .i64 (q:Nat))).setCell ⟨g,a + 3 + 1,none⟩ (.int .i64 (lit:Nat))) K f V (upd X 0 (ints I)))\/(l0=q/\∀ Y,dQ Z sb Y K f V X->dQ Z sb Y K f V (upd X 0 (ints I)))):=by
  rcases E with ⟨ca,cb,z⟩ | ⟨ca,z⟩
  ·exact ⟨lit,ca,.inl ⟨rfl,cb,z⟩⟩
  ·exact ⟨q,ca,.inr ⟨rfl,z⟩⟩
 clear ah bW QL R fz E;go_upto_if 19 with fail
 go_cut [] from 10 (fun wx=>Hid (dQ Z sb wx K f V (upd X 0 (ints I))/\dC Z w wx))
 case first=>
  rcases S.out with ⟨rfl,cb,z⟩ | ⟨rfl,z⟩
  ·have S2:=hide (z _ SW.out);have f0:=Q (a + 3);have f1:=Q (a + 3 + 1);have C2:Hid (dC Z w ((W.setCell ⟨g,a + 3,none⟩ (.int .i64 (q:Nat))).setCell ⟨g,a + 3 + 1,none⟩ (.int .i64 (l0:Nat)))):=(CW.out.setCell zg _).setCell zg _;clear z Q;go_upto_region 3 with fail
   go_region_with fail
   all_goals
    go_wp2_with fail
    go_meet;exact ⟨S2.out.later bR.drew,C2.out.drew⟩
  ·have S2:=hide (z _ SW.out);have nq:¬ ((l0:Int)=(lit:Int)):=by omega
   clear z Q;go_wp2_with fail
   go_meet;exact ⟨S2.out,CW.out⟩
 case rest=>
  clear S SW CW Q aR;have S1:=hide hcut.out.1;have C1:=hide hcut.out.2;clear hcut;obtain ⟨⟨cq,-,-⟩,CR⟩:=aa.out wc S1.out;have an:Hid (∀ Y:World,Y.heap=wc.heap->Calls Tryz.prog 103 #[.pointer (some ⟨sb,6,none⟩),.int .i64 (q:Nat)] Y fun e w'=>e=.returned (.bool (decide (0 < tv tr q)))/\w'=Y):=fun Y u=>by
   obtain ⟨N,c3,t1,t2⟩:=QT.out wc _ S1.out (cz _ _ (by decide)) q au
   exact ug sb 6 N (2 * n) c3 q (tv tr q) Y (by rw [show Y.cell? ⟨sb,6 + 3,none⟩=wc.cell? ⟨sb,9,none⟩ from World.cell?_of_block (a:=⟨sb,9,none⟩) (by rw [u])];exact t1) au (by rw [show Y.cell? ⟨N,q,none⟩=wc.cell? ⟨N,q,none⟩ from World.cell?_of_block (a:=⟨N,q,none⟩) (by rw [u])];exact t2)
  obtain ⟨bq,aw,HB⟩:∃ bq,decide (0 < tv tr q)=bq/\Hid (bq=true↔tv tr q=1):=⟨_,rfl,by unfold Hid;rw [decide_eq_true_iff];exact Xr tr q⟩
  rw [aw] at an;clear aw;go_upto_region 4 with fail
  go_quiet ((go_at_call 103;exact Calls.quiet_of_same (an.out _ (by rfl))))
  obtain ⟨W2,ai⟩:∃ W2,W2=wc.drewN nq:=⟨_,rfl⟩;have b2:Below wc.heap.size wc W2:=by rw [ai];exact Go.below_drewN bR _
  rw [<- ai];have S2:=hide (S1.out.later b2);have C2:Hid (dC Z w W2):=C1.out.trans (dC.of_below b2);clear ai b2 S1 C1 cq CR an
  cases bq with
  | true=>
   have F2:=hide (D.out W2 C2.out S2.out (.inl (HB.out.1 rfl)));go_wp2;exact F2.out
  | false=>
   have ao:Hid (tv tr q ≠ 1):=fun e=>by have:=HB.out.2 e;cases this
   go_wp2;have M2:Hid (∀ Y,dQ Z sb Y K f V (upd X 0 (ints I))->∀ i (G:i < r.length),Calls Tryz.prog 134 #[.pointer (some ⟨sb,6,none⟩),.int .i64 (r[i]:Nat)] Y fun e w'=>e=.returned (.bool (decide (tv tr r[i] < 0)))/\w'=Y):=fun Y u i G=>by
    have aq:=ar.out r[i] (List.getElem_mem G);obtain ⟨N,c3,t1,t2⟩:=QT.out Y _ u (cz _ _ (by decide)) r[i] aq
    exact rf sb 6 N (2 * n) c3 r[i] (tv tr r[i]) Y t1 aq t2
   go_loopw [8,9] (fun i8 _ wr=>Rx Z sb w K f V (upd X 0 (ints I)) tr r i8 wr) (fun i8 _ _=>r.length + 2 - (intOf i8).toNat)
   case atStart=>exact ⟨0,rfl,zl,fun j hj h=>absurd h (Nat.not_lt_zero _),S2.out,C2.out⟩
   case round=>
    obtain ⟨i,rfl,bd,l⟩:=hrel;clear S2 C2;by_cases t:i < r.length
    ·have aL:=(aa.out wr l.out.2.1).2 i t;have QF:=hide (M2.out wr l.out.2.1 i t);obtain ⟨bf,ax,aA⟩:∃ bf,decide (tv tr r[i] < 0)=bf/\Hid (bf=true↔tv tr r[i]=-1):=⟨_,rfl,by unfold Hid;rw [decide_eq_true_iff];exact Xq tr r[i]⟩
     have H:=ar.out r[i] (List.getElem_mem t);have a4:lit ≠ r[i]:=fun e=>aJ (by rw [e];exact List.getElem_mem t)
     have MV:=hide (ad.out wr i t l.out.2.1);have ay:=hide (fun Y V' X'=>O.out Y V' X' i t)
     have az:Hid (bf=true->∀ v,v=.int .i64 ((i + 1 + 2:Nat):Int)->Rx Z sb w K f V (upd X 0 (ints I)) tr r v wr):=fun e v hv=>⟨i + 1,hv,by omega,fun j hj aK=>by
      rcases Nat.lt_succ_iff_lt_or_eq.1 aK with B | B
      ·exact l.out.1 j hj B
      ·subst B;exact aA.out.1 e,l.out.2.1,l.out.2.2⟩
     rw [ax] at QF;generalize r[i]=o at *
     have ba:(0:Int) <= ((i + 2:Nat):Int):=by omega
     have a9:((i + 2:Nat):Int) < ((r.length + 2:Nat):Int):=by omega
     have aD:(i:Int) + 2 < (r.length:Int) + 2:=by omega
     have a8:(0:Int) <= (i:Int) + 2:=by omega
     have a7:((i:Int) + 2).toNat=i + 2:=by omega
     clear ax;go_upto_if 52 with (go_at_call 134;refine QF.out.mono ?_;rintro e8 w8 ⟨rfl,rfl⟩;simp only [])
     cases bf with
     | true=>
      go_wp2;go_roundw
      case rel=>exact az.out rfl _ (by go_num)
      case measure=>simp [intOf];omega
     | false=>
      clear az;have aB:Hid (tv tr o ≠ -1):=fun e=>by have:=aA.out.2 e;cases this
      obtain ⟨⟨-,aQ,aj⟩,-⟩:=aa.out w8 l.out.2.1;have aP:=aj (a + 3 + 1);have aO:=aj (a + 3 + (i + 2));have C3:Hid (dC Z w ((w8.setCell ⟨g,a + 3 + 1,none⟩ (.int .i64 (o:Nat))).setCell ⟨g,a + 3 + (i + 2),none⟩ (.int .i64 (lit:Nat)))):=(l.out.2.2.setCell zg _).setCell zg _;have av:∀ XX,mJ n V (upd X 0 XX) wl:=fun XX=>HW.out.congr (cz _ _ (by decide)) (fun _ _=>rfl) (fun x hx=>cz _ _ (by omega))
      obtain ⟨s,ab⟩:∃ s,s=enc (cs.set k ⟨(cs[k]).kind,(cs[k]).busy,q :: o :: r.set i lit⟩):=⟨_,rfl⟩;rw [<- ab] at MV ay;clear l ab aj aa ad QT O D M2;go_upto_region 12 with fail
      generalize aM:(w8.setCell ⟨g,a + 3 + 1,none⟩ (.int .i64 (o:Nat))).setCell ⟨g,a + 3 + (i + 2),none⟩ (.int .i64 (lit:Nat))=W3 at MV C3 ⊢;clear aM aQ aP aO aL;have J:=hide (av (ints s));clear av;obtain ⟨g9,c9,wa,ae,al,ak,q5,qx,zx,l9,n9,z9,ox⟩:=J.out.at' MV.out aN H;have a0:(wl o).length <= 1099511627777:=by have:=aH o H;omega
      have PW:=hide (fun v'=>J.out.push H a v')
      have X0:(0:Int) <= (o:Int):=by omega
      have X1:(o:Int) < 2 * (n:Int):=by omega
      have SD:Hid (dQ Z sb W3.drew K f V (upd X 0 (ints s))):=MV.out.later bR.drew;have OD:Hid (W3.drew.ownsRow 0 3 1 (.slice wa (wl o).length ae) (wl o).length (dx (wl o))):=ox;have BD:Hid (dC Z w W3.drew):=C3.out.drew;have RX:Hid ((upd X 0 (ints s)) (16 + o)=dx (wl o)):=J.out.row o H;have LX:Hid (((upd X 0 (ints s)) 9).length=2 * n):=J.out.n9;have aT:Hid (((upd X 0 (ints s)) 9)[o]? = some (.slice wa (wl o).length ae)):=by unfold Hid;rw [J.out.hd o H,ak]
      have E9:=hide al;have aU:Hid (f 5=.slice (some ⟨g9,0,none⟩) (2 * n) c9):=(MV.out.hdr 9 (by omega)).trans al
      have EX:=hide ak;have ac:16 + o < K:=by omega
      have aX:=MV.out.row.lt;have ns:¬ (sb=W3.heap.size):=by omega
      have a3:¬ (g9=W3.heap.size):=by omega
      have XO:Hid (Ac X (upd X 0 (ints s))):=fun j B h2 h3=>cz _ _ B
      have aS:Hid ((upd X 0 (ints s)) 0=ints s):=cK ..;generalize upd X 0 (ints s)=XM at *
      clear J al ak ox MV C3;go_region_law
       (refine iq _ (by rfl) _ _ 43 (by rfl) 0 3 i0 (.int .i64 0) 1 8 Tryz.underlying43 G aG aF aE (by rfl) (by decide) (.slice wa (wl o).length ae) (wl o).length (dx (wl o)) (by rfl) (OD.out.alloc (.cells #[.int .i64 (a:Int)] 3)) (.slice (some ⟨W3.heap.size,0,none⟩) 1 1) 1 [.int .i64 (a:Int)] (by rfl) (.inr ⟨⟨W3.heap.size,0,none⟩,1,rfl,(cell_one_new W3.drew _ _)⟩) (by rfl) (by simp [Value.oneCell']) (by unfold maxLen;omega) (by omega) zl ?_;intro v6 w6 A6;have A7:dB (W3.drew.alloc (.cells #[.int .i64 (a:Int)] 3)) 0 3 1 (V (16 + o)) (XM (16 + o)).length (XM (16 + o)) 1 [.int .i64 (a:Int)] v6 w6:=(by rw [EX.out,RX.out,df];exact A6);have S6:=hide (SD.out.Kc ac E9.out (m:=1) (news:=[.int .i64 (a:Int)]) rfl A7);have K6:=(SD.out.Gi ac E9.out (by rw [LX.out];exact H) A7);rw [aT.out] at K6;obtain ⟨ap,a6,a5⟩:=K6;have aC:=ap 5 (by omega);rw [aU.out] at aC;obtain ⟨a2,a1,aI⟩:=dG A6.own;subst aI;clear A6 A7 ap)
      all_goals
       have aW:=hide (ay.out _ _ _ (BD.out.trans S6.out.2) S6.out.1 (by rw [cz _ _ (by decide),cz _ _ (by omega)];exact aS.out) (fun j B h2 h3=>by rw [cz _ _ h2,cz _ _ (by omega)];exact XO.out j B h2 h3) (cz _ _ (by omega)) ao.out aB.out (PW.out _))
       clear S6;go_wp2;exact aW.out
    ·have ei:i=r.length:=by omega
     have F2:=hide (D.out wr l.out.2.2 l.out.2.1 (.inr ⟨ao.out,fun y hy=>by
      obtain ⟨j,hj,rfl⟩:=List.mem_iff_getElem.1 hy;exact l.out.1 j hj (by omega)⟩))
     have aD:¬ ((i:Int) + 2 < (r.length:Int) + 2):=by omega
     go_wp2;exact F2.out
end
section
def mix (kl cZ:List Nat):List Nat:=kl ++ cZ.drop kl.length
theorem Dr (cZ:List Nat):mix [] cZ=cZ:=rfl
theorem fU {kl cZ:List Nat} (h:kl.length <= cZ.length):(mix kl cZ).length=cZ.length:=by unfold mix;simp;omega
theorem Jb {kl cZ:List Nat} {i:Nat} (h:kl.length <= i) (hi:i < cZ.length) (a:i < (mix kl cZ).length):(mix kl cZ)[i]=cZ[i]:=by
 simp only [mix];rw [List.getElem_append_right h,List.getElem_drop]
 congr 1;omega
theorem Dq {kl cZ:List Nat} {a:Nat} (h:kl.length < cZ.length):(mix kl cZ).set kl.length a=mix (kl ++ [a]) cZ:=by
 unfold mix;rw [List.set_append_right _ _ lr,Nat.sub_self,List.drop_eq_getElem_cons h,List.set_cons_zero];simp
theorem qU {kl cZ:List Nat}:(mix kl cZ).take kl.length=kl:=by unfold mix;simp
theorem jK {P:Program} {r:Array Oper} {o:Oper} {a:Act} {w:World} {K:Act->World->Prop} {Q:Exit->Act->World->Prop} {E:Prop} (A:o.guard=none) (d s:Operand) (F H:TypeId)
  (N:o.op=.call { callee:=.builtin .copy,args:=#[d,s],argTypes:=#[F,H] }) (elem:TypeId) (L:P.underlying F=some (.slice elem)) (z:(P.info? elem).map (·.size)=some 1)
  (g off:Nat) (G:Addr) (c q b m:Nat) (hd:a.eval d=.slice (some ⟨g,off,none⟩) c q) (M:a.eval s=.slice (some G) b m)
  (l:Array Value) (t:TypeId) (I:w.heap[g]? = some (.cells l t (0,0))) (cs:List Value) (O:cs.length=Nat.min b c)
  (u:∀ j v,cs[j]? = some v->w.cell? (G.add j)=some v) (y:off + cs.length <= l.size) (S:∀ v ∈ cs,v.oneCell'=true) (B:Nat) (D:B <= g)
  (h:∀ w',Hid (w'.heap[g]? = some (.cells (splice l.toList off cs).toArray t (0,0)))->Hid (∀ k,k ≠ g->w'.heap[k]? = w.heap[k]?)->Hid (Below B w w')->K (a.put o.dst (goInt cs.length)) w'):
  if Region.wanted o (yielded r a.tmps)=true then Oper.wp P o a w K Q else E:=by
 have J:Region.wanted o (yielded r a.tmps)=true:=by simp [Region.wanted,A]
 rw [if_pos J];have x:=run_copy_row (P:=P) w F H o.type elem g off c q G b m l t cs L z I O u y S;unfold Oper.wp;simp [execOp,N,resolve,invoke,builtin,hd,M,x,Result.andThen]
 exact h _ (show _=_ by simpa [splice] using setRow_heap w g _ _ t _ I) (fun k R=>setRow_other w g k _ (fun e=>R (by first | exact e | exact e.symm))) (below_setRow bR D _)
theorem Ja (l:List Nat) (k:Nat):dx (l.take k)=(dx l).take k:=(mZ l k).symm
theorem qO {kl cZ:List Nat} {i:Nat} {a:List Value} (h:kl.length <= i) (hi:i <= cZ.length) (c:a.take cZ.length=dx (mix kl cZ)):
  (splice a kl.length (dx (cZ.drop i))).take cZ.length=dx (kl ++ cZ.drop i ++ cZ.drop (kl.length + (cZ.length - i))):=by
 have b:(dx (cZ.drop i)).length=cZ.length - i:=by rw [df];simp
 have d:cZ.length <= a.length:=by
  have:=congrArg List.length c;rw [df,fU (by omega),List.length_take] at this;omega
 have g:a.take kl.length=dx kl:=by
  have:a.take kl.length=(a.take cZ.length).take kl.length:=by rw [List.take_take];congr 1;omega
  rw [this,c,<- Ja,qU]
 have e:(a.drop (kl.length + (cZ.length - i))).take (cZ.length - (kl.length + (cZ.length - i)))=dx (cZ.drop (kl.length + (cZ.length - i))):=by
  have:(a.drop (kl.length + (cZ.length - i))).take (cZ.length - (kl.length + (cZ.length - i)))=(a.take cZ.length).drop (kl.length + (cZ.length - i)):=by rw [List.drop_take]
  rw [this,c];unfold dx mix;rw [<- List.map_drop,List.drop_append,List.drop_of_length_le (by omega),List.nil_append,List.drop_drop]
  congr 2;omega
 unfold splice;rw [b,g,<- List.append_assoc,List.take_append,List.take_of_length_le (by rw [List.length_append,df,b];omega),List.length_append,df,b,e]
 unfold dx;rw [List.map_append,List.map_append]
theorem zG {kl cZ:List Nat} {i a cap B:Nat} {w:World} (e:w.ownsRow B 3 1 (.slice (some ⟨a,0,none⟩) cZ.length cap) cZ.length (dx (mix kl cZ))) (k:kl.length <= i):
  ∀ j v,(dx (cZ.drop i))[j]? = some v->w.cell? (Addr.add ⟨a,i,none⟩ j)=some v:=fun x v c=>by
 have b:x < (dx (cZ.drop i)).length:=by
  rcases Nat.lt_or_ge x (dx (cZ.drop i)).length with h | h
  ·exact h
  ·rw [List.getElem?_eq_none h] at c;cases c
 rw [df,List.length_drop] at b;have d:=e.cellAt (i + x) (by omega)
 have g:Addr.add ⟨a,i,none⟩ x=⟨a,i + x,none⟩:=by simp [Addr.add]
 rw [g,d,<- c];unfold dx mix;rw [List.getElem?_map,List.getElem?_map,List.getElem?_append_right (by omega),List.getElem?_drop,List.getElem?_drop]
 congr 2;omega
theorem yP (b:List Nat):∀ v ∈ dx b,v.oneCell'=true:=fun v a=>by
 unfold dx at a;obtain ⟨x,_,rfl⟩:=List.mem_map.1 a;rfl
variable {Z:Nat->Prop} {sb K:Nat} {w w':World} {f V:Nat->Value} {X:Nat->List Value}
theorem dQ.xN (h:dQ Z sb w K f V X) {k:Nat} (q:k < K) {b m cap:Nat} (d:V k=.slice (some ⟨b,0,none⟩) m cap) {R:List Value} (own:w'.ownsRow 0 (kP k) 1 (V k) R.length R) (l:∀ j,j ≠ b->w'.heap[j]? = w.heap[j]?) (s:Below 0 w w'):dQ Z sb w' K f V (upd X k R)/\dC Z w w':=by
 have o:b ≠ sb:=h.far q b (by rw [d];rfl)
 refine ⟨⟨h.row.of_block (l sb (fun e=>o e.symm)),⟨fun i r=>?_,h.eO.apart⟩,h.hdr,h.jg,h.al,fun g a=>h.az g (Nat.le_trans s.size a),h.hK⟩,s,fun g a t=>l g (fun e=>t (e ▸ h.al k q b (by rw [d];rfl)))⟩
 by_cases e:i=k
 ·subst e;rw [cK];exact own
 ·rw [cz _ _ e];refine ownB (h.eO.own i r) fun g a=>l g fun u=>?_
  rcases h.eO.apart i k r q e with c | c
  ·rw [a] at c;cases c
  ·exact c (by rw [a,d,u];rfl)
theorem dQ.copied (h:dQ Z sb w K f V X) {x d cap i:Nat} {kl cZ:List Nat} {b:Array Value} (r:16 + x < K) (o:V (16 + x)=.slice (some ⟨d,0,none⟩) cZ.length cap) (H:X (16 + x)=dx (mix kl cZ)) (E:kl.length <= i) (hi:i <= cZ.length)
  (F:w.heap[d]? = some (.cells b 3 (0,0))) (I:w'.heap[d]? = some (.cells (splice b.toList kl.length (dx (cZ.drop i))).toArray 3 (0,0))) (A:∀ k,k ≠ d->w'.heap[k]? = w.heap[k]?) (G:Below 0 w w'):
  dQ Z sb w' K f V (upd X (16 + x) (dx (kl ++ cZ.drop i ++ cZ.drop (kl.length + (cZ.length - i)))))/\dC Z w w':=by
 have m:=h.eO.own (16 + x) r;have a:(kl ++ cZ.drop i ++ cZ.drop (kl.length + (cZ.length - i))).length=cZ.length:=by simp;omega
 refine h.xN r o ?_ A G;rw [uS] at m ⊢;rw [H,df,fU (by omega)] at m
 rw [df,a];refine ⟨by rw [df,a];omega,?_⟩
 rcases m.2 with ⟨e,_⟩ | ⟨g,l,j,e,q,c,B,D,z,s⟩
 ·rw [o] at e;cases e
 ·have t:=e;rw [o] at t;obtain ⟨y,L,J⟩:=Value.slice.inj t;have v:g=d:=by have:=Option.some.inj y;exact (congrArg Addr.block this).symm
  subst v;rw [F] at c;have u:b=j:=by cases c;rfl
  subst u;simp only [Nat.mul_one] at z s ⊢;refine .inr ⟨g,l,_,e,q,I,B,D,?_,?_⟩
  ·have:(dx (cZ.drop i)).length=cZ.length - i:=by rw [df];simp
   simp only [List.size_toArray];rw [length_splice _ _ _ (by rw [this];simp;omega)];simp;omega
  ·simp only [Nat.mul_one];exact qO E hi s
theorem yt (l:List Value) (o:Nat):splice l o []=l:=by unfold splice;simp
end
end
section
variable {n:Nat} {tr ch:List Nat} {lev:Nat->Nat} {C:iR} {rea:Nat->Int} {wl:Nat->List Nat} {P:Nat}
structure PI (n:Nat) (C:iR) (tr ch:List Nat) (lev:Nat->Nat) (rea:Nat->Int) (wl:Nat->List Nat) (P:Nat):Prop where
 dJ:jm n tr ch lev
 pz:oZ C tr ch rea
 mg:xk n C
 oM:uo n C wl
 wK:qI C tr lev P
theorem jm.low (h:jm n tr ch lev) {d:Nat} (hd:d < ch.length) {x:Nat} (a:x ∈ tr) (g:lev (x / 2) <= d):x ∈ tr.take ch[d]:=by
 obtain ⟨j,b,e⟩:=List.mem_iff_getElem.1 a;have c:=h.lev j b;rw [e] at c;have k:=(cnt_lt h.iC hd (i:=j)).1 (by omega)
 exact List.mem_iff_getElem.2 ⟨j,by rw [List.length_take];omega,by rw [List.getElem_take];exact e⟩
theorem jm.Ua (h:jm n tr ch lev) {d:Nat} (hd:d < ch.length) {x:Nat} (a:x ∈ tr.take ch[d]):lev (x / 2) <= d:=by
 obtain ⟨j,b,e⟩:=List.mem_iff_getElem.1 a;rw [List.length_take] at b;rw [List.getElem_take] at e;have c:=h.lev j (by omega)
 rw [e] at c;have:=(cnt_lt h.iC hd (i:=j)).2 (by omega)
 omega
theorem wm.back (h:wm C tr lev) (b:jm n tr ch lev) {d:Nat} (hd:d < ch.length):wm C (tr.take ch[d]) lev:=fun a c j g e=>by
 obtain ⟨x,g1,g2,k⟩:=h a c j g e;exact ⟨x,g1,b.low hd g2 (by omega),k⟩
theorem wm.assign (h:wm C tr lev) {x v:Nat} (b:tv tr x=0):wm C (tr ++ [x]) (eG lev (x / 2) v):=fun a c g e d=>by
 obtain ⟨y,g1,g2,j⟩:=h a c g e d;exact ⟨y,g1,List.mem_append_left _ g2,by rw [dh _ _ (mh b g2)];exact j⟩
theorem wm.new {a:Nat} {c:xJ} (h:wm C tr lev) (l:c.kind ≠ 2->c.lits.length < 2->∃ x,c.lits=[x]/\x ∈ tr/\lev (x / 2)=0):wm (kD C a c) tr lev:=fun b d g k j=>by
 by_cases e:b=a
 ·subst e;rw [dV] at g;cases g;exact l k j
 ·rw [dK _ _ e] at g;exact h b d g k j
theorem wm.same {j:iR} (h:wm C tr lev) (o:RU C j):wm j tr lev:=fun b d e r q=>by
 rcases o b with ⟨_,g⟩ | ⟨c,t,g1,g2,s,a⟩
 ·rw [e] at g;cases g
 ·rw [e] at g2;cases g2
  obtain ⟨x,m,l,k⟩:=h b c g1 (by rw [<- s];exact r) (by rw [<- a.length_eq];exact q)
  refine ⟨x,?_,l,k⟩;rw [m] at a;exact List.perm_singleton.1 a
theorem wm.PL {c:iR} {e:Nat->Nat} (h:wm C tr lev) (g:Ia C c e):wm c tr lev:=fun b d k l j=>by
 obtain ⟨a,g1,g2,_⟩:=g.from' b d k
 exact h a d g1 g2 j
structure KZ (tr ch:List Nat) (lev:Nat->Nat) (x:Nat) (ks:List Nat) (d:Nat):Prop where
 hx:op x ∈ tr/\lev (x / 2)=ch.length
 hks:∀ y ∈ ks,op y ∈ tr/\lev (y / 2) < ch.length/\lev (y / 2) <= d
 nd:(ks.map (· / 2)).Nodup
 dl:d < ch.length
 hd:(ks=[]/\d=0)\/∃ q r,ks=q :: r/\lev (q / 2)=d
theorem KZ.open {x d:Nat} {c:List Nat} (h:KZ tr ch lev x c d) (b:jm n tr ch lev):tv (tr.take (ch[d]'h.dl)) x=0:=by
 refine uu.2 ⟨fun a=>b.nI (List.mem_of_mem_take a) h.hx.1,fun a=>?_⟩
 have:=b.Ua h.dl a;rw [gH,h.hx.2] at this;have:=h.dl;omega
theorem KZ.vars {x d:Nat} {a:List Nat} (h:KZ tr ch lev x a d):((x :: a).map (· / 2)).Nodup:=by
 rw [List.map_cons,List.nodup_cons];refine ⟨fun c=>?_,h.nd⟩
 obtain ⟨y,b,e⟩:=List.mem_map.1 c;have e:y / 2=x / 2:=e;have:=(h.hks y b).2.1;rw [e,h.hx.2] at this;omega
theorem KZ.lt {x d:Nat} {b:List Nat} (h:KZ tr ch lev x b d) (c:jm n tr ch lev):∀ y ∈ x :: b,y < 2 * n:=fun y a=>by
 have:op y ∈ tr:=by
  rcases List.mem_cons.1 a with rfl | a
  ·exact h.hx.1
  ·exact (h.hks y a).1
 have:=wO (c.lt _ this)
 rwa [kr] at this
theorem PI.learn {x d a:Nat} {g:List Nat} (h:PI n C tr ch lev rea wl P) (b:KZ tr ch lev x g d) (N:∀ p ∈ ch,p <= P) (s:C a=none) (mE:Nat->List Nat)
  (J:∀ q r,g=q :: r->mE x=wl x ++ [a]/\mE q=wl q ++ [a]/\∀ y,y ≠ x->y ≠ q->mE y=wl y) (o:g=[]->mE=wl):
  PI n (kD C a ⟨1,x :: g⟩) (tr.take (ch[d]'b.dl) ++ [x]) (ch.take d) (eG lev (x / 2) d) (eG rea (x / 2) (a:Nat)) mE (ch[d]'b.dl):=by
 have hd:=b.dl;have F:=h.dJ.back hd;have l:=b.open h.dJ;have m:x < 2 * n:=b.lt h.dJ x (List.mem_cons_self ..);have j:(ch.take d).length=d:=by rw [List.length_take];omega
 have M:ch[d] < tr.length:=h.dJ.iC.2 _ (List.getElem_mem hd);have G:(tr.take ch[d]).length=ch[d]:=by rw [List.length_take];omega
 have u:∀ y ∈ g,op y ∈ tr.take ch[d]:=fun y k=>h.dJ.low hd (b.hks y k).1 (by rw [gH];exact (b.hks y k).2.2)
 have D:=F.assign m l;rw [j] at D;have E:∀ y ∈ g,y / 2 ≠ x / 2:=fun y k e=>by
  have:=(b.hks y k).2.1;rw [e,b.hx.2] at this;omega
 exact {
  dJ:=D
  pz:=by
   have:=(h.pz.back h.dJ hd).new (c:=⟨1,x :: g⟩) s;exact this.assign F l (dV ..) (show (1:Nat) ≠ 2 by decide) rfl u
  mg:=h.mg.new b.vars (b.lt h.dJ)
  oM:=by
   match e:g with
   | []=>rw [o rfl];exact h.oM.TU s (by simp)
   | q :: r=>
    obtain ⟨g1,g2,O⟩:=J q r rfl;refine h.oM.XG s (show (1:Nat) ≠ 2 by decide) (p:=x) (q:=q) (r:=r) rfl (fun A=>E q (by simp) (by rw [A])) g1 g2 O
  wK:=by
   have I:=h.wK.back h.dJ hd (N _ (List.getElem_mem hd));have H:=I.assign (x:=x) (v:=d) (by rw [G];exact lr) l
   refine H.new fun p q r _ e=>?_
   obtain ⟨rfl,rfl⟩:=List.cons.inj e
   rcases b.hd with ⟨B,_⟩ | ⟨R,Q,B,A⟩
   ·cases B
   ·obtain ⟨rfl,rfl⟩:=List.cons.inj B;refine ⟨fun i L t z=>?_,fun i L t z=>?_⟩
    ·rw [List.getElem_append_left (by omega)] at z
     exact absurd (z ▸ List.getElem_mem _) (uu.1 l).2
    ·refine ⟨by simp,?_⟩
     rw [dF,dh _ _ (E q (by simp)),A];exact lr }
theorem wm.learn {x d a:Nat} {c:List Nat} (h:wm C tr lev) (j:jm n tr ch lev) (b:KZ tr ch lev x c d):wm (kD C a ⟨1,x :: c⟩) (tr.take (ch[d]'b.dl) ++ [x]) (eG lev (x / 2) d):=
 ((h.back j b.dl).assign (b.open j)).new fun _ k=>by
  match e:c with
  | q :: r=>simp at k;omega
  | []=>
   rcases b.hd with ⟨_,g⟩ | ⟨m,l,g,_⟩
   ·exact ⟨x,rfl,by simp,by rw [dF];exact g⟩
   ·cases g
theorem FJ {L:List Rd.Cl} (hL:∀ a c,C a=some c->c.kind ≠ 2->There L c.lits) (l:jm n tr ch lev) (m:oZ C tr ch rea) (o:0 < ch.length) {A:List Nat} (x:There L A) (G:∀ y ∈ A,op y ∈ tr) {i:Nat} {s:Lk} (h:xU tr ch lev (jf C rea) ch[ch.length - 1] A (i + 1) s) (hi:i < tr.length) (E:s.seen (tr[i] / 2)=true) (F:s.opn=1)
  {fol:Nat->Bool} (t:RJ tr (jf C rea) s.seen ch[ch.length - 1] fol) {g:List Nat} {d:Nat} (hks:g.Perm (s.je.filter fun y=>!dX (jf C rea) fol (y / 2))) (v:∀ y ∈ g,lev (y / 2) <= d) (hd:(g=[]/\d=0)\/∃ q r,g=q :: r/\lev (q / 2)=d):
  KZ tr ch lev (op tr[i]) g d/\El L ((op tr[i] :: g).map wr):=by
 have B:∀ y ∈ g,y ∈ s.je:=fun y b=>(List.mem_filter.1 (hks.mem_iff.1 b)).1
 have k:ch[ch.length - 1] <= i:=by
  obtain ⟨j,N,M⟩:=h.more;omega
 have u:lev (tr[i] / 2)=ch.length:=(uP l o hi).2 k;refine ⟨{
  hx:=by rw [kr,gH];exact ⟨List.getElem_mem hi,u⟩
  hks:=fun y b=>by
   obtain ⟨g1,g2,H⟩:=h.tail l (B y b);exact ⟨g1,H,v y b⟩
  nd:=by
   have:(s.je.filter fun y=>!dX (jf C rea) fol (y / 2)).map (· / 2) |>.Nodup:=h.lk.nd.sublist (List.filter_sublist.map _)
   exact (hks.map _).nodup_iff.2 this
  dl:=by
   rcases hd with ⟨_,e⟩ | ⟨q,r,I,O⟩
   ·omega
   ·have:=(h.tail l (B q (by rw [I];simp))).2.2
    omega
  hd:=hd },?_⟩
 have T:=m.trail l hL;have J:=(MO T l m o h hi E F t).conf T x G;refine Al J fun y b=>?_
 rcases List.mem_cons.1 b with rfl | b
 ·exact List.mem_cons_self ..
 ·obtain ⟨z,D,rfl⟩:=List.mem_map.1 b;rw [kr];exact List.mem_cons_of_mem _ (hks.mem_iff.2 D)
theorem jm.len (h:jm n tr ch lev):tr.length <= n:=by
 have:=iZ n (tr.map (· / 2)) h.nodup (fun v b=>by
  obtain ⟨x,a,rfl⟩:=List.mem_map.1 b;have:=h.lt x a;omega)
 simpa using this
theorem jm.depth (h:jm n tr ch lev):ch.length <= n:=by
 have nd:ch.Nodup:=h.iC.1.imp (fun h=>by omega)
 have:=iZ tr.length ch nd h.iC.2;have:=h.len;omega
end
section
open Go Go.RowKit Go.Deep Rd
section
def iI (cs cs':List Rec):Prop:=cs'.length=cs.length/\∀ k (h:k < cs.length) (h':k < cs'.length),(cs'[k]).kind=(cs[k]).kind/\(cs'[k]).busy=(cs[k]).busy/\(cs'[k]).lits.Perm (cs[k]).lits
theorem iI.refl (cs:List Rec):iI cs cs:=⟨rfl,fun k _ _=>⟨rfl,rfl,.refl _⟩⟩
theorem iI.trans {a b c:List Rec} (h:iI a b) (g:iI b c):iI a c:=⟨g.1.trans h.1,fun k e s=>by
 have d:k < b.length:=by rw [h.1];exact e
 obtain ⟨r,q,o⟩:=h.2 k e d;obtain ⟨m,l,j⟩:=g.2 k d s;exact ⟨m.trans r,l.trans q,j.trans o⟩⟩
theorem iI.set {cs:List Rec} {k:Nat} (g:k < cs.length) {c:Rec} (d:c.kind=(cs[k]).kind) (b:c.busy=(cs[k]).busy) (a:c.lits.Perm (cs[k]).lits):iI cs (cs.set k c):=⟨by simp,fun j h l=>by
 by_cases e:k=j
 ·subst e;simp only [List.getElem_set_self];exact ⟨d,b,a⟩
 ·rw [List.getElem_set_ne e];exact ⟨rfl,rfl,.refl _⟩⟩
theorem iI.dw {cs cs':List Rec} (h:iI cs cs'):∀ k,k <= cs.length->dw cs' k=dw cs k
 | 0,_=>by rw [jP,jP]
 | k + 1,hk=>by
  have a:k < cs'.length:=by rw [h.1];exact hk
  rw [gG a,gG (show k < cs.length from hk),h.dw k (by omega),(h.2 k hk a).2.2.length_eq]
theorem iI.len {cs cs':List Rec} (h:iI cs cs'):(enc cs').length=(enc cs).length:=by
 rw [<- iD lr,<- iD (cs:=cs) lr,h.1];exact h.dw _ lr
theorem iI.same {cs cs':List Rec} (h:iI cs cs'):RU (mapOf cs) (mapOf cs'):=fun a=>by
 cases j:mapOf cs a with
 | none=>
  refine .inl ⟨rfl,?_⟩
  cases q:mapOf cs' a with
  | none=>rfl
  | some d=>
   obtain ⟨k,e,g,_⟩:=dO q;have b:k < cs.length:=by rw [<- h.1];exact e
   rw [h.dw k (Nat.le_of_lt b)] at g;rw [g,dP b] at j;cases j
 | some c=>
  obtain ⟨k,e,g,o⟩:=dO j;have b:k < cs'.length:=by rw [h.1];exact e
  have:=dP b;rw [h.dw k (Nat.le_of_lt e),<- g] at this;obtain ⟨m,_,l⟩:=h.2 k e b;subst o;exact .inr ⟨_,_,rfl,this,m,l⟩
theorem wC.perm {L:List Cl}:∀ {cs cs':List Rec},iI cs cs'->wC L (nW cs)->wC L (nW cs'):=by
 have j:∀ (cs cs':List Rec),iI cs cs'->∀ e,(nW cs').countP (fun y=>iH (y.map wr) e)=(nW cs).countP (fun y=>iH (y.map wr) e):=by
  intro cs
  induction cs with
  | nil=>intro cs' h e;have:cs'=[]:=List.eq_nil_of_length_eq_zero (by rw [h.1];rfl);subst this;rfl
  | cons c r ih=>
   intro cs' h e
   match cs',h with
   | [],h=>have:=h.1;simp at this
   | c' :: r',h=>
    obtain ⟨b,_,l⟩:=h.2 0 (by simp) (by simp)
    simp only [List.getElem_cons_zero] at b l;have o:iI r r':=⟨by have:=h.1;simpa using this,fun k u t=>by
     have:=h.2 (k + 1) (by simpa using u) (by simpa using t)
     simpa using this⟩
    have:=ih r' o e;have m:∀ (d:Rec) (s:List Rec),nW (d :: s)=nW [d] ++ nW s:=fun d s=>by unfold nW;rw [<- List.map_append,<- List.filter_append];rfl
    rw [m c',m c,List.countP_append,List.countP_append,this]
    congr 1
    unfold nW;by_cases g:c.kind=2
    ·simp [b,g]
    ·simp only [List.filter_cons,List.filter_nil,b,g,ne_eq,not_false_eq_true,decide_true,if_true,List.map_cons,List.map_nil,List.countP_cons,List.countP_nil];rw [oq (a:=c'.lits.map wr) (a':=c.lits.map wr) (fun x=>(l.map wr).mem_iff) e]
 intro cs cs' h q;exact q.congr fun e=>Nat.le_of_eq (j cs cs' h e)
theorem PM {cs:List Rec} {a:Nat} {c:xJ} (h:mapOf cs a=some c):a < (enc cs).length:=by
 obtain ⟨k,b,d,_⟩:=dO h;have:=eF b;omega
theorem uo.len {n:Nat} {cs:List Rec} {W:Nat->List Nat} (h:uo n (mapOf cs) W) {x:Nat} (b:x < 2 * n):(W x).length <= (enc cs).length:=
 iZ _ _ (h.nodup x b) fun a d=>by
  obtain ⟨c,⟨e,_,_⟩,_⟩:=h.lists x b a d;exact PM e
variable {n lit p i:Nat} {ch cZ kl tr:List Nat} {C:iR} {lev:Nat->Nat} {rea:Nat->Int} {wl:Nat->List Nat}
theorem LY {a:Nat} {c:xJ} (h:C a=some c):kD C a c=C:=by
 funext b
 by_cases e:b=a
 ·subst e;rw [dV,h]
 ·rw [dK _ _ e]
theorem FI.second (h:FI n lit p ch cZ i C tr lev rea wl kl) (hi:i < cZ.length) {c:xJ} (a:C cZ[i]=some c) {q:Nat} {r:List Nat} (b:c.lits=lit :: q :: r\/c.lits=q :: lit :: r):FI n lit p ch cZ i (kD C cZ[i] ⟨c.kind,q :: lit :: r⟩) tr lev rea wl kl:=by
 rcases b with e | e
 ·exact h.swap hi a e
 ·have:kD C cZ[i] ⟨c.kind,q :: lit :: r⟩=C:=LY (by rw [a,<- e])
  rw [this];exact h
structure eY (Z:Nat->Prop) (sb:Nat) (w:World) (K:Nat) (f:Nat->Value) (X:Nat->List Value) (n lit p:Nat) (ch cZ:List Nat) (VL:Value) (cs:List Rec) (lL:List Nat) (i:Nat) (kl ml:List Nat) (cs':List Rec) (tr:List Nat) (lev:Nat->Nat) (rea:Nat->Int) (wl:Nat->List Nat) (f' V':Nat->Value) (X':Nat->List Value) (wr:World):Prop where
 fi:FI n lit p ch cZ i (mapOf cs') tr lev rea wl kl
 dH:dQ Z sb wr K f' V' X'
 x0:X' 0=ints (enc cs')
 gD:lX n X' tr ch lev rea
 gT:mJ n V' X' (fun x=>if x=lit then ml else wl x)
 hv:V' (16 + lit)=VL
 perm:iI cs cs'
 only:∀ k,6 <= k->k ≠ 9->k < 16->X' k=X k
 ff:∀ j,j ≠ 6->f' j=f j
 ext:∃ e,tr=lL ++ e
 eP:dC Z w wr
variable {Z:Nat->Prop} {sb K:Nat} {w wr w':World} {f f' V V' Vj:Nat->Value} {X X' wY:Nat->List Value} {cs cs':List Rec} {lL ml:List Nat} {VL:Value}
theorem eY.later (h:eY Z sb w K f X n lit p ch cZ VL cs lL i kl ml cs' tr lev rea wl f' V' X' wr) (a:Below wr.heap.size wr w'):eY Z sb w K f X n lit p ch cZ VL cs lL i kl ml cs' tr lev rea wl f' V' X' w':=
 { h with dH:=h.dH.later a,eP:=h.eP.trans (dC.of_below a) }
theorem eY.stays (h:eY Z sb w K f X n lit p ch cZ VL cs lL i kl ml cs' tr lev rea wl f' V' X' wr) (hi:i < cZ.length) {k q:Nat} {r:List Nat} (b:k < cs'.length) (g:cZ[i]=dw cs' k) (a:(cs'[k]).lits=lit :: q :: r\/(cs'[k]).lits=q :: lit :: r)
  (s:dQ Z sb w' K f' Vj wY) (t:dC Z wr w') (d:Ac X' wY) (v:wY 0=ints (enc (cs'.set k ⟨(cs'[k]).kind,(cs'[k]).busy,q :: lit :: r⟩))) (o:mJ n Vj wY (fun x=>if x=lit then ml else wl x)) (hv:Vj (16 + lit)=V' (16 + lit)):
  eY Z sb w K f X n lit p ch cZ VL cs lL i kl ml (cs'.set k ⟨(cs'[k]).kind,(cs'[k]).busy,q :: lit :: r⟩) tr lev rea wl f' Vj wY w' where
 fi:=by
  have u:mapOf cs' cZ[i]=some ⟨(cs'[k]).kind,(cs'[k]).lits⟩:=by rw [g];exact dP b
  have:=h.fi.second hi u a
  rw [BJ b (by rcases a with e | e <;> rw [e] <;> simp),<- g]
  exact this
 dH:=s
 x0:=v
 gD:=h.gD.congr fun j m c=>d j (by omega) (by omega) (by omega)
 gT:=o
 hv:=hv.trans h.hv
 perm:=h.perm.trans (iI.set b rfl rfl (by
  rcases a with e | e
  ·rw [e];exact List.Perm.swap ..
  ·rw [e]))
 only:=fun j m c l=>(d j (by omega) c l).trans (h.only j m c l)
 ff:=h.ff
 ext:=h.ext
 eP:=h.eP.trans t
theorem eY.moves (h:eY Z sb w K f X n lit p ch cZ VL cs lL i kl (mix kl cZ) cs' tr lev rea wl f' V' X' wr) (hi:i < cZ.length) {k q j o:Nat} {r:List Nat} (t:k < cs'.length) (s:(cs'[k]).kind ≠ 2) (u:cZ[i]=dw cs' k) (g:(cs'[k]).lits=lit :: q :: r\/(cs'[k]).lits=q :: lit :: r)
  (G:dQ Z sb w' K f' Vj wY) (I:dC Z wr w') (A:Ac X' wY) (H:tv tr q ≠ 1) (m:r[j]? = some o) (l:tv tr o ≠ -1) (J:wY 0=ints (enc (cs'.set k ⟨(cs'[k]).kind,(cs'[k]).busy,q :: o :: r.set j lit⟩))) (F:mJ n Vj wY (fun x=>if x=o then (if x=lit then mix kl cZ else wl x) ++ [dw cs' k] else if x=lit then mix kl cZ else wl x)) (hv:Vj (16 + lit)=V' (16 + lit)):
  eY Z sb w K f X n lit p ch cZ VL cs lL (i + 1) kl (mix kl cZ) (cs'.set k ⟨(cs'[k]).kind,(cs'[k]).busy,q :: o :: r.set j lit⟩) tr lev rea (fun x=>if x=o then wl x ++ [cZ[i]] else wl x) f' Vj wY w':=by
 have B:mapOf cs' cZ[i]=some ⟨(cs'[k]).kind,(cs'[k]).lits⟩:=by rw [u];exact dP t
 have M:=h.fi.second hi B g;have L:=M.move hi (dV ..) s rfl (fun c=>H (Cu.2 c)) m (fun c=>l (h.fi.dJ.o9.2 c))
 have a:=h.fi.mg.vars _ _ B;have d:o ≠ lit:=fun e=>by
  have c:o ∈ r:=List.mem_of_getElem? m
  rcases g with y | y
  ·rw [y] at a;simp only [List.map_cons,List.nodup_cons,List.mem_cons,List.mem_map,not_or,not_exists,not_and] at a;exact a.1.2 o c (by rw [e])
  ·rw [y] at a;simp only [List.map_cons,List.nodup_cons,List.mem_cons,List.mem_map,not_or,not_exists,not_and] at a;exact a.2.1 o c (by rw [e])
 exact {
  fi:=by
   have z:kD (kD (mapOf cs') cZ[i] ⟨(cs'[k]).kind,q :: lit :: r⟩) cZ[i] ⟨(cs'[k]).kind,q :: o :: r.set j lit⟩=mapOf (cs'.set k ⟨(cs'[k]).kind,(cs'[k]).busy,q :: o :: r.set j lit⟩):=by
    rw [BJ t (by rcases g with e | e <;> rw [e] <;> simp),<- u]
    funext b
    by_cases e:b=cZ[i]
    ·subst e;rw [dV,dV]
    ·rw [dK _ _ e,dK _ _ e,dK _ _ e]
   rw [<- z];exact L
  dH:=G
  x0:=J
  gD:=h.gD.congr fun j E v=>A j (by omega) (by omega) (by omega)
  gT:=by
   have z:(fun x=>if x=o then (if x=lit then mix kl cZ else wl x) ++ [dw cs' k] else if x=lit then mix kl cZ else wl x)=fun x=>if x=lit then mix kl cZ else if x=o then wl x ++ [cZ[i]] else wl x:=by
    funext x
    by_cases e:x=o
    ·subst e;rw [if_pos rfl,if_neg d,if_neg d,if_pos rfl,u]
    ·rw [if_neg e,if_neg e]
   rw [<- z];exact F
  hv:=hv.trans h.hv
  perm:=h.perm.trans (iI.set t rfl rfl (by
   have:=Bw (q:=q) (lit:=lit) m
   rcases g with e | e
   ·rw [e];exact this.trans (List.Perm.swap ..)
   ·rw [e];exact this))
  only:=fun j E v D=>(A j (by omega) v D).trans (h.only j E v D)
  ff:=h.ff
  ext:=h.ext
  eP:=h.eP.trans I }
theorem eY.store (h:eY Z sb w K f X n lit p ch cZ VL cs lL i kl (mix kl cZ) cs' tr lev rea wl f' V' X' wr) (g:16 + lit < K) (m:kl.length < cZ.length) {d q:Nat} (b:VL=.slice (some ⟨d,0,none⟩) cZ.length q) (a:Nat):eY Z sb w K f X n lit p ch cZ VL cs lL i kl (mix (kl ++ [a]) cZ) cs' tr lev rea wl f' V' (upd X' (16 + lit) (dx (mix (kl ++ [a]) cZ))) (wr.setCell ⟨d,kl.length,none⟩ (.int .i64 (a:Nat))) where
 fi:=h.fi
 dH:=by
  have:=h.dH.set g (h.hv.trans b) kl.length (.int .i64 (a:Nat));rw [h.gT.row lit h.fi.qd,if_pos rfl,nJ,Dq m] at this;exact this
 x0:=by rw [cz _ _ (by omega)];exact h.x0
 gD:=h.gD.congr fun j l k=>cz _ _ (by omega)
 gT:=⟨by rw [cz _ _ (by omega)];exact h.gT.n9,fun x c=>by rw [cz _ _ (by omega)];exact h.gT.hd x c,fun x c=>by
  by_cases e:x=lit
  ·subst e;rw [cK,if_pos rfl]
  ·rw [cz _ _ (by omega),if_neg e]
   have:=h.gT.row x c
   rwa [if_neg e] at this⟩
 hv:=h.hv
 perm:=h.perm
 only:=fun j l k o=>by rw [cz _ _ (by omega)];exact h.only j l k o
 ff:=h.ff
 ext:=h.ext
 eP:=h.eP.setCell (h.dH.al _ g d (by rw [h.hv,b];rfl)) _
theorem eY.XN (h:eY Z sb w K f X n lit p ch cZ VL cs lL i kl ml cs' tr lev rea wl f' V' X' wr) (hi:i < cZ.length) {k q:Nat} {r:List Nat} (c:k < cs'.length) (d:cZ[i]=dw cs' k) (b:(cs'[k]).lits=q :: lit :: r) (a:tv tr q=1):eY Z sb w K f X n lit p ch cZ VL cs lL (i + 1) (kl ++ [cZ[i]]) ml cs' tr lev rea wl f' V' X' wr:=
 { h with fi:=h.fi.keep hi (by rw [d];exact dP c) b (Cu.1 a) }
theorem eY.Xo (h:eY Z sb w K f X n lit p ch cZ VL cs lL i kl ml cs' tr lev rea wl f' V' X' wr) (hi:i < cZ.length) {k q:Nat} {r:List Nat} (v:k < cs'.length) (b:(cs'[k]).kind ≠ 2) (B:cZ[i]=dw cs' k) (l:(cs'[k]).lits=q :: lit :: r) (g:tv tr q=0) (u:∀ y ∈ r,tv tr y=-1)
  {v':Value} (t:dQ Z sb w' K (upd f' 6 v') (upd V' 1 v') (fw X' q (cZ[i]:Nat) ch.length)) (A:dC Z wr w'):eY Z sb w K f X n lit p ch cZ VL cs lL (i + 1) (kl ++ [cZ[i]]) ml cs' (tr ++ [q]) (eG lev (q / 2) ch.length) (eG rea (q / 2) (cZ[i]:Nat)) wl (upd f' 6 v') (upd V' 1 v') (fw X' q (cZ[i]:Nat) ch.length) w':=by
 have m:mapOf cs' cZ[i]=some ⟨(cs'[k]).kind,(cs'[k]).lits⟩:=by rw [B];exact dP v
 have a:q < 2 * n:=h.fi.mg.lt _ _ m q (by rw [l];simp)
 have d:∀ j,6 <= j->fw X' q (cZ[i]:Nat) ch.length j=X' j:=fun j c=>iG _ _ _ _ (by omega) (by omega) (by omega) (by omega)
 exact {
  fi:=h.fi.unit hi m b l g fun y s=>h.fi.dJ.o9.1 (u y s)
  dH:=t
  x0:=by rw [iG _ _ _ _ (by decide) (by decide) (by decide) (by decide)];exact h.x0
  gD:=h.gD.assign a g _ h.gD.l2 (fun _ _=>rfl)
  gT:=h.gT.congr (d 9 (by omega)) (fun x _=>cz _ _ (by omega)) (fun x _=>d _ (by omega))
  hv:=by rw [cz _ _ (by omega)];exact h.hv
  perm:=h.perm
  only:=fun j o E D=>(d j o).trans (h.only j o E D)
  ff:=fun j c=>by rw [cz _ _ c];exact h.ff j c
  ext:=by
   obtain ⟨e,z⟩:=h.ext;exact ⟨e ++ [q],by rw [z,List.append_assoc]⟩
  eP:=h.eP.trans A }
structure Ae (Z:Nat->Prop) (sb:Nat) (w:World) (K:Nat) (f:Nat->Value) (X:Nat->List Value) (n lit p:Nat) (ch:List Nat) (VL:Value) (cs:List Rec) (lL:List Nat) (kept:Nat) (res:Int) (ml:List Nat) (cs':List Rec) (tr:List Nat) (lev:Nat->Nat) (rea:Nat->Int) (wl:Nat->List Nat) (f' V':Nat->Value) (X':Nat->List Value) (wr:World):Prop where
 dJ:jm n tr ch lev
 pz:oZ (mapOf cs') tr ch rea
 mg:xk n (mapOf cs')
 oM:uo n (mapOf cs') (fun x=>if x=lit then ml.take kept else wl x)
 res:(res=-1/\qI (mapOf cs') tr lev (p + 1))\/(qI (mapOf cs') tr lev p/\∃ k,∃ hk:k < cs'.length,res=(dw cs' k:Nat)/\(cs'[k]).kind ≠ 2/\(∀ y ∈ (cs'[k]).lits,op y ∈ tr)/\lit ∈ (cs'[k]).lits)
 dH:dQ Z sb wr K f' V' X'
 x0:X' 0=ints (enc cs')
 gD:lX n X' tr ch lev rea
 gT:mJ n V' X' (fun x=>if x=lit then ml else wl x)
 hv:V' (16 + lit)=VL
 perm:iI cs cs'
 only:∀ k,6 <= k->k ≠ 9->k < 16->X' k=X k
 ff:∀ j,j ≠ 6->f' j=f j
 ext:∃ e,tr=lL ++ e
 eP:dC Z w wr
 V5:lit < 2 * n
def Ed (Z:Nat->Prop) (sb:Nat) (w:World) (K:Nat) (f:Nat->Value) (X:Nat->List Value) (n lit p:Nat) (ch:List Nat) (VL:Value) (m:Nat) (cs:List Rec) (lL:List Nat) (s6 s7:Value) (wr:World):Prop:=
 ∃ kept res ml cs' tr lev rea wl f' V' X',s6=.int .i64 ((kept:Nat):Int)/\s7=.int .i64 res/\kept <= m/\ml.length=m/\Hid (Ae Z sb w K f X n lit p ch VL cs lL kept res ml cs' tr lev rea wl f' V' X' wr)
theorem eY.atEnd (h:eY Z sb w K f X n lit p ch cZ VL cs lL cZ.length kl (mix kl cZ) cs' tr lev rea wl f' V' X' wr):Ae Z sb w K f X n lit p ch VL cs lL kl.length (-1) (mix kl cZ) cs' tr lev rea wl f' V' X' wr:=
 { h with
  dJ:=h.fi.dJ
  pz:=h.fi.pz
  mg:=h.fi.mg
  oM:=by rw [qU];exact h.fi.done.2
  res:=.inl ⟨rfl,h.fi.done.1⟩
  V5:=h.fi.qd }
theorem eY.zI {a:Nat} (h:eY Z sb w K f X n lit p ch cZ VL cs lL i kl (mix (kl ++ [a]) cZ) cs' tr lev rea wl f' V' X' wr) (hi:i < cZ.length) (g:a=cZ[i]) (E:16 + lit < K) {k q:Nat} {r:List Nat} (v:k < cs'.length) (d:(cs'[k]).kind ≠ 2) (D:cZ[i]=dw cs' k) (l:(cs'[k]).lits=q :: lit :: r) (u:tv tr q=-1) (t:∀ y ∈ r,tv tr y=-1)
  {R:List Nat} (A:R=(kl ++ [a]) ++ cZ.drop (i + 1) ++ cZ.drop ((kl ++ [a]).length + (cZ.length - (i + 1)))) (s:dQ Z sb w' K f' V' (upd X' (16 + lit) (dx R))) (z:dC Z wr w'):
  Ae Z sb w K f X n lit p ch VL cs lL ((kl ++ [a]).length + (cZ.length - (i + 1))) (dw cs' k:Nat) R cs' tr lev rea wl f' V' (upd X' (16 + lit) (dx R)) w' where
 dJ:=h.fi.dJ
 pz:=h.fi.pz
 mg:=h.fi.mg
 oM:=by
  have e:R.take ((kl ++ [a]).length + (cZ.length - (i + 1)))=kl ++ cZ.drop i:=by
   rw [A,List.take_append_of_le_length (by simp;omega),List.take_of_length_le (by simp;omega),g,List.drop_eq_getElem_cons hi,List.append_assoc];rfl
  rw [e];exact h.fi.oM
 res:=.inr ⟨h.fi.wK,k,v,rfl,d,fun y b=>by
  rw [l] at b;simp only [List.mem_cons] at b
  rcases b with rfl | rfl | b
  ·exact h.fi.dJ.o9.1 u
  ·exact h.fi.sK
  ·exact h.fi.dJ.o9.1 (t y b),by rw [l];simp⟩
 dH:=s
 x0:=by rw [cz _ _ (by omega)];exact h.x0
 gD:=h.gD.congr fun j o m=>cz _ _ (by omega)
 gT:=⟨by rw [cz _ _ (by omega)];exact h.gT.n9,fun x c=>by rw [cz _ _ (by omega)];exact h.gT.hd x c,fun x c=>by
  by_cases e:x=lit
  ·subst e;rw [cK,if_pos rfl]
  ·rw [cz _ _ (by omega),if_neg e]
   have:=h.gT.row x c
   rwa [if_neg e] at this⟩
 hv:=h.hv
 perm:=h.perm
 only:=fun j o m B=>by rw [cz _ _ (by omega)];exact h.only j o m B
 ff:=h.ff
 ext:=h.ext
 eP:=h.eP.trans z
 V5:=h.fi.qd
def JY (Z:Nat->Prop) (sb:Nat) (w:World) (K:Nat) (f:Nat->Value) (X:Nat->List Value) (n lit p:Nat) (ch cZ:List Nat) (VL:Value) (cs:List Rec) (lL:List Nat) (s6 s7 s20:Value) (wr:World):Prop:=
 ∃ i kl cs' tr lev rea wl f' V' X',s6=.int .i64 ((kl.length:Nat):Int)/\s7=.int .i64 (-1)/\s20=.int .i64 ((i:Nat):Int)/\Hid (eY Z sb w K f X n lit p ch cZ VL cs lL i kl (mix kl cZ) cs' tr lev rea wl f' V' X' wr)
structure U1 (Z:Nat->Prop) (sb:Nat) (w:World) (K:Nat) (f:Nat->Value) (X:Nat->List Value) (n lit p:Nat) (ch:List Nat) (cs:List Rec) (lL:List Nat) (res:Int) (cs':List Rec) (tr:List Nat) (lev:Nat->Nat) (rea:Nat->Int) (wl:Nat->List Nat) (f' V':Nat->Value) (X':Nat->List Value) (wr:World):Prop where
 dJ:jm n tr ch lev
 pz:oZ (mapOf cs') tr ch rea
 mg:xk n (mapOf cs')
 oM:uo n (mapOf cs') wl
 res:(res=-1/\qI (mapOf cs') tr lev (p + 1))\/(qI (mapOf cs') tr lev p/\∃ k,∃ hk:k < cs'.length,res=(dw cs' k:Nat)/\(cs'[k]).kind ≠ 2/\(∀ y ∈ (cs'[k]).lits,op y ∈ tr)/\lit ∈ (cs'[k]).lits)
 dH:dQ Z sb wr K f' V' X'
 x0:X' 0=ints (enc cs')
 gD:lX n X' tr ch lev rea
 gT:mJ n V' X' wl
 perm:iI cs cs'
 only:∀ k,6 <= k->k ≠ 9->k < 16->X' k=X k
 ff:∀ j,j ≠ 6->f' j=f j
 ext:∃ e,tr=lL ++ e
 eP:dC Z w wr
def o6 (Z:Nat->Prop) (sb:Nat) (w:World) (K:Nat) (f:Nat->Value) (X:Nat->List Value) (n lit p:Nat) (ch:List Nat) (cs:List Rec) (lL:List Nat) (e:Ending) (w':World):Prop:=
 ∃ res cs' tr lev rea wl f' V' X',e=.returned (.int .i64 res)/\U1 Z sb w K f X n lit p ch cs lL res cs' tr lev rea wl f' V' X' w'
theorem Ae.out {kept:Nat} {res:Int} (h:Ae Z sb w K f X n lit p ch VL cs lL kept res ml cs' tr lev rea wl f' V' X' wr) (v:K=16 + 2 * n) {b:Option Addr} {m o k u B:Nat} (d:VL=.slice b m o) (c:kept <= ml.length) (a:V' 9=.slice (some ⟨k,0,none⟩) u B):
  o6 Z sb w K f X n lit p ch cs lL (.returned (.int .i64 res)) (wr.setCell ⟨k,lit,none⟩ (.slice b kept o)):=by
 have r:=h.V5;have q:X' (16 + lit)=dx ml:=by have:=h.gT.row lit r;rwa [if_pos rfl] at this
 have z:16 + lit < K:=by omega
 have s:=h.dH.XT z a (h.hv.trans d) (m:=kept) (by rw [q,df];exact c)
 refine ⟨res,cs',tr,lev,rea,fun x=>if x=lit then ml.take kept else wl x,f',_,_,rfl,{
  dJ:=h.dJ
  pz:=h.pz
  mg:=h.mg
  oM:=h.oM
  res:=h.res
  dH:=s
  x0:=by rw [cz _ _ (by decide),cz _ _ (by omega)];exact h.x0
  gD:=h.gD.congr fun j t g=>by rw [cz _ _ (by omega),cz _ _ (by omega)]
  gT:=by
   have:=h.gT.put r (l:=ml.take kept) (R:=(X' (16 + lit)).take kept) (by rw [q,mZ]) (.slice b kept o)
   have e:(fun y=>if y=lit then ml.take kept else if y=lit then ml else wl y)=fun x=>if x=lit then ml.take kept else wl x:=by
    funext y
    by_cases e:y=lit
    ·rw [if_pos e,if_pos e]
    ·rw [if_neg e,if_neg e,if_neg e]
   rw [e] at this;exact this
  perm:=h.perm
  only:=fun j t g A=>by rw [cz _ _ g,cz _ _ (by omega)];exact h.only j t g A
  ff:=h.ff
  ext:=h.ext
  eP:=h.eP.setCell (h.dH.al 9 (by omega) k (by rw [a];rfl)) _ }⟩
theorem eY.Nu {a:Nat} (h:eY Z sb w K f X n lit p ch cZ VL cs lL i kl (mix (kl ++ [a]) cZ) cs' tr lev rea wl f' V' X' wr) (hi:i < cZ.length) (e:a=cZ[i]) (x:16 + lit < K) {k q:Nat} {r:List Nat} (I:k < cs'.length) (o:(cs'[k]).kind ≠ 2) (v:cZ[i]=dw cs' k) (G:(cs'[k]).lits=q :: lit :: r) (F:tv tr q=-1) (E:∀ y ∈ r,tv tr y=-1)
  {j cap b c N:Nat} {g:Array Value} (t:VL=.slice (some ⟨j,0,none⟩) cZ.length cap) (m:b=kl.length + 1) (s:c=i + 1) (Q:N=cZ.length - c) (J:wr.heap[j]? = some (.cells g 3 (0,0))) (u:w'.heap[j]? = some (.cells (splice g.toList b (dx (cZ.drop c))).toArray 3 (0,0))) (D:∀ k,k ≠ j->w'.heap[k]? = wr.heap[k]?) (B:Below 0 wr w'):
  Ed Z sb w K f X n lit p ch VL cZ.length cs lL (.int .i64 ((b + N:Nat):Int)) (.int .i64 (a:Nat)) w':=by
 have l:X' (16 + lit)=dx (mix (kl ++ [a]) cZ):=by have:=h.gT.row lit h.fi.qd;rwa [if_pos rfl] at this
 have d:(kl ++ [a]).length=b:=by rw [m];simp
 have H:=h.fi.pE;rw [<- d] at u;obtain ⟨A,O⟩:=h.dH.copied x (h.hv.trans t) l (i:=c) (by rw [d];omega) (by omega) J u D B
 have z:=h.zI hi e x I o v G F E (R:=(kl ++ [a]) ++ cZ.drop c ++ cZ.drop ((kl ++ [a]).length + (cZ.length - c))) (by rw [s]) A O
 have M:(kl ++ [a]).length + (cZ.length - (i + 1))=b + N:=by omega
 have L:dw cs' k=a:=by rw [e,v]
 rw [M,L] at z;exact ⟨b + N,(a:Nat),_,cs',tr,lev,rea,wl,f',V',_,rfl,rfl,by omega,by simp;omega,z⟩
theorem o6.later {e:Ending} {a:World} (h:o6 Z sb w K f X n lit p ch cs lL e w') (d:Below w'.heap.size w' a):o6 Z sb w K f X n lit p ch cs lL e a:=by
 obtain ⟨b,cs',tr,lev,rea,wl,f',V',X',g,c⟩:=h;exact ⟨b,cs',tr,lev,rea,wl,f',V',X',g,{ c with dH:=c.dH.later d,eP:=c.eP.trans (dC.of_below d) }⟩
end
end
end So
end Go.Proofs.YtceahffmenbibaaGreatDoor
