/- Ssim. -/
import Derived.Test.YtceahffmenbibaaGreatDoorJ31
set_option linter.unusedVariables false
set_option linter.unusedSimpArgs false
set_option maxHeartbeats 4000000
set_option maxRecDepth 100000
namespace Go.Proofs.YtceahffmenbibaaGreatDoor
namespace So
section
open Go Go.RowKit Go.Deep Rd
section
variable {Z:Nat->Prop} {sb K n:Nat} {w:World} {f V:Nat->Value} {X:Nat->List Value} {tr ch:List Nat} {lev:Nat->Nat} {dB:Nat->Int} {cs:List Rec}
structure o6 (Z:Nat->Prop) (sb:Nat) (w:World) (K:Nat) (f V:Nat->Value) (X:Nat->List Value) (n:Nat) (tr:List Nat) (rs:Nat->Option (List Nat)) (seen:Nat->Bool) (j:Nat) (fol:Nat->Bool) (X':Nat->List Value) (wr:World):Prop where
 dM:dX Z sb wr K f V X'
 p9:Iq n X' fol
 Vf:Oz tr rs seen j fol
 only:∀ k,k ≠ 11->X' k=X k
 fV:dD Z w wr
def TU (Z:Nat->Prop) (sb:Nat) (w:World) (K:Nat) (f V:Nat->Value) (X:Nat->List Value) (n:Nat) (tr:List Nat) (rs:Nat->Option (List Nat)) (seen:Nat->Bool) (last:Nat) (s:Value) (wr:World):Prop:=
 ∃ (j:Nat) (fol:Nat->Bool) (X':Nat->List Value),s=.int .i64 ((j:Nat):Int)/\j <= last/\Hid (o6 Z sb w K f V X n tr rs seen j fol X' wr)
def OB (Z:Nat->Prop) (sb:Nat) (w:World) (K:Nat) (f V:Nat->Value) (X:Nat->List Value) (n:Nat) (tr:List Nat) (rs:Nat->Option (List Nat)) (seen:Nat->Bool) (iR:List Nat) (pre:Int) (last:Nat) (e:Ending) (w':World):Prop:=
 e=.returned (.tuple #[])/\dD Z w w'/\∃ (fol:Nat->Bool) (v':Value) (X':Nat->List Value),dX Z sb w' K (upd f 15 v') (upd V 7 v') X'/\Iq n X' fol/\Oz tr rs seen last fol/\F9 n X' pre seen (iR.filter fun y=>!dS rs fol (y / 2))/\∀ k,k ≠ 7->k ≠ 11->X' k=X k
theorem Iq.set {fol:Nat->Bool} (h:Iq n X fol) {v:Nat} (d:v < n) (b:Bool):Iq n (upd X 11 ((X 11).set v (.bool b))) (eu fol v b) where
 n11:=by rw [cK,List.length_set];exact h.n11
 t11:=fun x a=>by
  rw [cK];by_cases e:x=v
  ·subst e;rw [List.getElem?_set_self (by rw [h.n11];exact a),dx]
  ·rw [List.getElem?_set_ne (fun c=>e c.symm),dm _ _ e];exact h.t11 x a
theorem o6.later {a:Nat->Option (List Nat)} {seen fol:Nat->Bool} {j:Nat} {X':Nat->List Value} {wr Y:World} (h:o6 Z sb w K f V X n tr a seen j fol X' wr) (b:Below wr.heap.size wr Y):o6 Z sb w K f V X n tr a seen j fol X' Y:=⟨h.dM.later b,h.p9,h.Vf,h.only,h.fV.trans (dD.of_below b)⟩
theorem o6.step {a:Nat->Option (List Nat)} {seen fol:Nat->Bool} {j:Nat} {X':Nat->List Value} {wr Y:World} {L:List Cl} (h:o6 Z sb w K f V X n tr a seen j fol X' wr) (T:Trail L tr a) (q:jm n tr ch lev) (r:j < tr.length) (m:Below wr.heap.size wr Y) {g c:Nat} (e:V 11=.slice (some ⟨g,0,none⟩) n c) {v:Nat} (p:tr[j] / 2=v) (d:v < n) (o:Z g) {b:Bool} (s:b=(seen v || dS a fol v)):
  o6 Z sb w K f V X n tr a seen (j + 1) (eu fol v b) (upd X' 11 ((X' 11).set v (.bool b))) (Y.setCell ⟨g,v,none⟩ (.bool b)):=by
 have i:=h.dM.later m;refine ⟨i.set (k:=11) (by have:=i.hK;omega) e v (.bool b),h.p9.set d b,?_,fun k l=>by rw [cu _ _ l];exact h.only k l,(h.fV.trans (dD.of_below m)).setCell o _⟩;have:=h.Vf.step T q r;rw [p] at this;rw [s];exact this
def OC (Z:Nat->Prop) (sb K:Nat) (f V:Nat->Value) (X':Nat->List Value) (len:Nat) (W:World):Prop:=∃ Dp,dX Z sb W K f V Dp/\(∀ k,k ≠ 7->Dp k=X' k)/\(Dp 7).length=len + 1
theorem Pz {fol:Nat->Bool} {c:List Nat} {l s:Nat} {X':Nat->List Value} (r:V 7=.slice (some ⟨l,0,none⟩) (c.length + 1) s) (m:n <= 50) (q:X' 0=ints (enc cs)) (p:(enc cs).length <= 1099511627776) (o:ou n X' tr ch lev dB) (i:Iq n X' fol) (g:∀ y ∈ c,y < 2 * n)
  (e:∀ y ∈ c,dB (y / 2)=-1\/∃ k,∃ h:k < cs.length,dB (y / 2)=(dU cs k:Nat)/\(cs[k]).lits ≠ []/\∀ x ∈ (cs[k]).lits,x < 2 * n):
  Df.V9 183 sb l 1 c.length (fun y=>dS (iU (mapOf cs) dB) fol (y / 2)) c (OC Z sb K f V X' c.length) where
 drew:=fun W d ⟨Dp,h1,h2,h3⟩=>⟨Dp,h1.later (Go.below_drewN bR _),h2,h3⟩
 set:=fun W j u hj ⟨Dp,h1,h2,h3⟩=>⟨_,h1.set (k:=7) (by have:=h1.hK;omega) r (1 + j) (.int .i64 (u:Nat)),fun k h=>by rw [cu _ _ h];exact h2 k h,by rw [cK,List.length_set];exact h3⟩
 is:=.inl rfl
 call:=fun W ⟨Dp,h1,h2,h3⟩ y hy=>uf h1 m (by rw [h2 0 (by decide)];exact q) p (o.congr fun k a b=>h2 k (by omega)) ⟨by rw [h2 11 (by decide)];exact i.n11,by rw [h2 11 (by decide)];exact i.t11⟩ (g y hy) (e y hy)
theorem dX.Nk {wr wx:World} {X':Nat->List Value} {pre:Int} {a c:List Nat} {i r:Nat} {post:List Value} (h:dX Z sb wr K f V X') (o:V 7=.slice (some ⟨i,0,none⟩) (a.length + 1) r) (B:X' 7=.int .i64 pre :: dC a) (y:c.length=a.length) (z:wr.heap[i]? = some (.cells ([Value.int .i64 pre] ++ dC a ++ post).toArray 3 (0,0))) (l:wx.heap[i]? = some (.cells ([Value.int .i64 pre] ++ dC c ++ post).toArray 3 (0,0))) (u:∀ k,k ≠ i->wx.heap[k]? = wr.heap[k]?) (A:Below 0 wr wx):
  dX Z sb wx K f V (upd X' 7 (.int .i64 pre :: dC c))/\dD Z wr wx:=by
 have D:=h.hK;refine h.CE (k:=7) (by omega) o ?_ u A;have j:=h.fG.own 7 (by omega);rw [o] at j ⊢;have s:(X' 7).length=a.length + 1:=by rw [B];simp [dh]
 have b:(Value.int .i64 pre :: dC c).length=a.length + 1:=by simp [dh,y]
 rw [s] at j;rw [b];refine ⟨by rw [b];omega,?_⟩
 rcases j.2 with ⟨e,_⟩ | ⟨g,q,p,e,m,d,v,x,t,C⟩
 ·cases e
 ·cases e
  rw [z] at d;cases d
  refine .inr ⟨i,r,_,rfl,m,l,v,x,?_,?_⟩
  ·simp only [List.size_toArray,List.length_append,List.length_cons,List.length_nil,dh] at t ⊢;omega
  ·simp only [Nat.mul_one];rw [show [Value.int .i64 pre] ++ dC c ++ post=(Value.int .i64 pre :: dC c) ++ post from rfl,List.take_append_of_le_length (by omega),List.take_of_length_le (by omega)]
theorem BJ {seen E:Nat->Bool} {l:List Nat} {pre:Int} {L:List Cl} (h:dX Z sb w K f V X) (hn:n <= 50) (h0:X 0=ints (enc cs)) (hN:(enc cs).length <= 1099511627776) (hT:ou n X tr ch lev dB) (hF:Iq n X E) (hL:F9 n X pre seen l)
  (ht:jm n tr ch lev) (hr:rZ (mapOf cs) tr ch dB) (hc:Dr n (mapOf cs)) (T:Trail L tr (iU (mapOf cs) dB)) (hd:0 < ch.length) (U:∀ y ∈ l,op y ∈ tr) (bj:l.length <= 50):
  Calls Tryz.prog 142 #[.pointer (some ⟨sb,0,none⟩)] w fun e w'=>OB Z sb w K f V X n tr (iU (mapOf cs) dB) seen l pre ch[ch.length - 1] e w':=by
 have hK:=h.hK;have tl:=ht.len;have dl:=ht.depth;obtain ⟨o,N⟩:∃ o,o=ch[ch.length - 1]:=⟨_,rfl⟩;have ae:o < tr.length:=by rw [N];exact ht.gY.2 _ (List.getElem_mem _)
 have aE:Hid (∀ x,x ∈ tr\/op x ∈ tr->dB (x / 2)=-1\/∃ k,∃ hk:k < cs.length,dB (x / 2)=(dU cs k:Nat)/\(cs[k]).lits ≠ []/\∀ z ∈ (cs[k]).lits,z < 2 * n):=fun x G=>by
  obtain ⟨i,H,e⟩:∃ i,∃ H:i < tr.length,tr[i] / 2=x / 2:=by
   rcases G with G | G
   ·obtain ⟨i,H,e⟩:=List.mem_iff_getElem.1 G;exact ⟨i,H,by rw [e]⟩
   ·obtain ⟨i,H,e⟩:=List.mem_iff_getElem.1 G;exact ⟨i,H,by rw [e,gq]⟩
  by_cases hm:i ∈ ch
  ·left;rw [<- e];exact hr.Oi i H hm
  ·right
   obtain ⟨a,c,r,h1,h2,h3,h4,h5⟩:=hr.why i H hm;obtain ⟨k,hk,rfl,rfl⟩:=fD h2;rw [e] at h1;exact ⟨k,hk,h1,by rw [show (cs[k]).lits=_ from h4];simp,fun z hz=>hc.lt _ _ h2 z hz⟩
 have R:Hid (∀ wr j fol u,o6 Z sb w K f V X n tr (iU (mapOf cs) dB) seen j fol u wr->ou n u tr ch lev dB/\u 0=ints (enc cs)/\F9 n u pre seen l):=fun wr j fol u d=>⟨hT.congr fun k h1 h2=>d.only k (by omega),by rw [d.only 0 (by decide)];exact h0,hL.congr (d.only 7 (by decide)) (d.only 10 (by decide))⟩
 have S0:Hid (o6 Z sb w K f V X n tr (iU (mapOf cs) dB) seen 0 E X w):=⟨h,hF,Oz.start ..,fun _ _=>rfl,dD.refl _⟩;have l2:(X 2).length=ch.length:=by rw [hT.l2,dh]
 obtain ⟨g2,c2,t2,e2,q2,r2,s2,-⟩:=h.elem (k:=2) (j:=ch.length - 1) (by omega) l2 (by omega);rw [show cellOf 2=8 from rfl] at q2;rw [hT.l2,iZ _ _ (by omega),<- N] at s2;obtain rfl:=Option.some.inj s2;have QD:Hid (∀ j,Calls Tryz.prog 99 #[.pointer (some ⟨sb,6,none⟩)] (w.drewN j) fun e w'=>e=.returned (.int .i64 (ch.length:Nat))/\w'=w.drewN j):=fun j=>mH sb 6 ch.length c2 (w.drewN j) (some ⟨g2,0,none⟩) q2
 have l1:(X 1).length=tr.length:=by rw [hT.l1,dh]
 obtain ⟨g1,c1,t1,e1,q1,r1,s1,-⟩:=h.elem (k:=1) (j:=o) (by omega) l1 ae;rw [show cellOf 1=6 from rfl] at q1;have aU:tr.length <= c1:=by
  obtain ⟨g',aA,bo,e',_,_,bm⟩:=h.fG.block (k:=1) (by omega) (by omega);rw [e1] at e';obtain ⟨_,_,rfl⟩:=Value.slice.inj e';omega
 have C1:Hid (∀ wr j fol u,o6 Z sb w K f V X n tr (iU (mapOf cs) dB) seen j fol u wr->∀ i (H:i < tr.length),wr.cell? ⟨g1,i,none⟩=some (.int .i64 (tr[i]:Nat))):=fun wr j fol u d i H=>by
  have aR:V 1=.slice (some ⟨g1,0,none⟩) tr.length c1:=e1;rw [(d.dM.fG.cell (k:=1) (by omega) aR (j:=i) (by rw [d.only 1 (by decide),l1];exact H)).1,d.only 1 (by decide),hT.l1,iZ _ _ H]
 have d1:(0:Int) <= (ch.length:Int) - 1:=by omega
 have d2:(ch.length:Int) - 1 < (ch.length:Int):=by omega
 have d3:((ch.length:Int) - 1).toNat=ch.length - 1:=by omega
 have d4:(ch.length:Int) <= 50:=by omega
 have bc:(0:Int) <= (o:Int):=by omega
 have bb:(o:Int) <= (c1:Int):=by omega
 have ba:(o:Int) <= 50:=by omega
 rw [<- N];have ai:=hide ht;have aC:=hide T;have aa:=hide U;obtain ⟨s,ad⟩:∃ s,s=iU (mapOf cs) dB:=⟨_,rfl⟩;have aD:=hide ad;rw [<- ad] at S0 R C1 aC ⊢;have aS:Hid (∀ wr j fol u W y,o6 Z sb w K f V X n tr s seen j fol u wr->Below wr.heap.size wr W->y < 2 * n->(y ∈ tr\/op y ∈ tr)->Calls Tryz.prog 183 #[.pointer (some ⟨sb,0,none⟩),.int .i64 (y:Nat)] W fun e w'=>o8 W (dS s fol (y / 2)) e w'):=fun wr j fol u W y d hb hy aI=>by
  obtain ⟨a1,a2,a3⟩:=R.out wr j fol u d;have:=uf (d.dM.later hb) hn a2 hN a1 d.p9 hy (aE.out y aI);rw [aD.out];exact this
 clear h h0 hT hF hL ht hr hc T U N l2 l1 e2 e1 s1 r1 ad;go_enter Tryz.func142,Tryz.ntmps142
 go_upto_region 0 with fail
 go_quiet ((go_at_call 99;exact Calls.quiet_of_same (QD.out _)))
 obtain ⟨W,hW⟩:∃ W,W=w.drewN nq:=⟨_,rfl⟩;have ag:Below w.heap.size w W:=by rw [hW];exact Go.below_drewN bR _
 have S1:Hid (o6 Z sb w K f V X n tr s seen 0 E X W):=⟨S0.out.dM.later ag,S0.out.p9,S0.out.Vf,S0.out.only,(dD.refl _).trans (dD.of_below ag)⟩;rw [<- hW];rw [<- gy (show W.heap=w.heap by rw [hW];rfl)] at q1;clear hW ag S0 QD q2 r2;go_wp2_with fail
 go_loopw [4,5,27] (fun _ _ ab wr=>TU Z sb w K f V X n tr s seen o ab wr) (fun _ _ ab _=>o - (intOf ab).toNat)
 case atStart=>exact ⟨0,E,X,rfl,zl,S1⟩
 case round=>
  clear S1 q1;obtain ⟨B,fol,u,rfl,bk,d⟩:=hrel;by_cases au:B < o
  ·have aO:=C1.out wr B fol u d.out B (by omega);obtain ⟨-,-,t⟩:=R.out wr B fol u d.out;obtain ⟨x,G⟩:∃ x,x=tr[B]:=⟨_,rfl⟩;rw [<- G] at aO;have aK:x < 2 * n:=by rw [G];exact ai.out.lt _ (List.getElem_mem _)
   have aJ:x ∈ tr:=by rw [G];exact List.getElem_mem _
   have QV:=hide (fun Y=>fB x Y (by omega));have ah:=hide (fun W hb=>aS.out wr B fol u W x d.out hb aK (.inl aJ));obtain ⟨v,ac⟩:∃ v,v=x / 2:=⟨_,rfl⟩;have hv:v < n:=by omega
   rw [<- ac] at QV ah;have aB:tr[B] / 2=v:=by rw [ac,G]
   obtain ⟨bn,br,aY,aQ,aH,ao,an,-⟩:=d.out.dM.elem (k:=10) (j:=v) (by omega) t.n10 hv;rw [show cellOf 10=16 from rfl] at aH;rw [t.t10 v hv] at an;obtain rfl:=Option.some.inj an;obtain ⟨Q,bq,aX,ay,aG,aZ,am,aW,ak,bd,a0⟩:=d.out.dM.elem (k:=11) (j:=v) (by omega) d.out.p9.n11 hv;rw [show cellOf 11=17 from rfl] at aG
   have NX:Hid (∀ Y b W',Below wr.heap.size wr Y->b=(seen v || dS s fol v)->Below (Y.setCell ⟨Q,v,none⟩ (.bool b)).heap.size (Y.setCell ⟨Q,v,none⟩ (.bool b)) W'->∃ D X2,o6 Z sb w K f V X n tr s seen (B + 1) D X2 W'):=fun Y b W' hY hb aP=>⟨_,_,(d.out.step aC.out ai.out (by omega) hY ay aB hv ak hb).later aP⟩
   have aq:=am;have v0:(0:Int) <= (v:Int):=by omega
   have v1:(v:Int) < (n:Int):=by omega
   have bg:(0:Int) <= (B:Int):=by omega
   have bf:(B:Int) < (o:Int):=by omega
   have be:(B:Int) <= 50:=by omega
   clear aQ ay ac G am aq t aB
   cases M:seen v with
   | true=>
    rw [M] at ao NX;clear d M;go_upto_region 5 with (go_at_call 176;refine (QV.out _).mono ?_;rintro e9 w9 ⟨rfl,rfl⟩;simp only [])
    first | go_region_with (fail) | fail
    all_goals
     obtain ⟨D,X2,C⟩:=NX.out w9 true (w9.setCell ⟨Q,v,none⟩ (.bool true)).drew bR rfl bR.drew;have aj:=hide C;clear C;go_wp2;go_roundw
     case rel=>exact ⟨B + 1,D,X2,by go_num,au,aj⟩
     case measure=>simp [intOf];omega
   | false=>
    rw [M] at ao NX;clear M;obtain ⟨b,hb⟩:∃ b,b=dS s fol v:=⟨_,rfl⟩;rw [<- hb] at ah NX;clear d hb;go_upto_region 5 with (go_at_call 176;refine (QV.out _).mono ?_;rintro e9 w9 ⟨rfl,rfl⟩;simp only [])
    have aT:=hide (ah.out w9.drew bR.drew)
    first | go_region_with (go_at_call 183;refine aT.out.mono ?_;rintro eA wA ⟨rfl,dA,rfl⟩;simp only []) | fail
    all_goals
     obtain ⟨D,X2,C⟩:=NX.out (w9.drewN (1 + dA)) b ((w9.drewN (1 + dA)).setCell ⟨Q,v,none⟩ (.bool b)) (Go.below_drewN bR _) (by simp) bR;have aj:=hide C;clear C;go_wp2;go_roundw
     case rel=>exact ⟨B + 1,D,X2,by go_num,au,aj⟩
     case measure=>simp [intOf];omega
  ·have ej:B=o:=by omega
   subst ej;obtain ⟨aw,av,t⟩:=R.out wr B fol u d.out;have l7:(u 7).length=l.length + 1:=by rw [t.l7];simp [dh]
   obtain ⟨P,c7,t7,e7,q7,r7,s7,z7,aV,a9,n7⟩:=d.out.dM.elem (k:=7) (j:=0) (by omega) l7 (by omega);rw [show cellOf 7=15 from rfl] at q7;obtain ⟨post,O,bl⟩:∃ post,wr.heap[P]? = some (.cells ([Value.int .i64 pre] ++ dC l ++ post).toArray 3 (0,0))/\l.length + 1 <= c7:=by
    have ar:=d.out.dM.fG.own 7 (by omega);rw [e7,l7] at ar
    rcases ar.2 with ⟨e,_⟩ | ⟨g',aA,az,e,_,aN,aL,_,bh,ap⟩
    ·cases e
    ·cases e
     refine ⟨az.toList.drop (l.length + 1),?_,aL⟩;rw [aN]
     congr 2
     simp only [Nat.mul_one,t.l7] at ap;rw [show [Value.int .i64 pre] ++ dC l=(Value.int .i64 pre :: dC l) from rfl,<- ap,List.take_append_drop]
   have CB:=Pz (Z:=Z) (sb:=sb) (K:=K) (f:=f) (V:=V) (fol:=fol) e7 hn av hN aw d.out.p9 (fun y hy=>by
    have:=vP (ai.out.lt _ (aa.out y hy));rwa [jT] at this) (fun y hy=>aE.out y (.inr (aa.out y hy)))
   rw [<- aD.out] at CB;have SI:OC Z sb K f V u l.length wr:=⟨u,d.out.dM,fun _ _=>rfl,l7⟩;obtain ⟨al,I⟩:∃ al:Option Addr,al=if c7=1 then some ⟨P,0,none⟩ else some ⟨P,1,none⟩:=⟨_,rfl⟩
   have S:=hide (Df.yD (g:=P) (cap:=c7 - 1) (pre:=[Value.int .i64 pre]) (post:=post) (al:=al) (w:=wr) CB (fun h=>by rw [I,if_neg (by omega)];rfl) SI (fun _=>O) (by omega) (by omega));have aF:Hid (∀ J l',l'.length=l.length->l'.take (Df.wM (fun y=>dS s fol (y / 2)) l).length=Df.wM (fun y=>dS s fol (y / 2)) l->Below 0 wr J->(∀ k,k ≠ P->J.heap[k]? = wr.heap[k]?)->(l.length ≠ 0->Df.Ik P [Value.int .i64 pre] post l' J)->(l.length=0->J.heap=wr.heap)->J.cell? ⟨sb,15,none⟩=some (.slice (some ⟨P,0,none⟩) (l.length + 1) c7)/\J.frozen? ⟨sb,15,none⟩=false/\OB Z sb w K f V X n tr s seen l pre B (.returned (.tuple #[])) (J.setCell ⟨sb,15,none⟩ (.slice (some ⟨P,0,none⟩) (1 + (Df.wM (fun y=>dS s fol (y / 2)) l).length) c7))):=fun J l' a1 a2 a3 a4 a5 a6=>by
    have aM:J.heap[P]? = some (.cells ([Value.int .i64 pre] ++ dC l' ++ post).toArray 3 (0,0)):=by
     by_cases he:l.length=0
     ·rw [a6 he,O];have e1:l=[]:=List.eq_nil_of_length_eq_zero he;have e2:l'=[]:=List.eq_nil_of_length_eq_zero (by rw [a1];exact he);rw [e1,e2]
     ·exact a5 he
    obtain ⟨s1,c1⟩:=d.out.dM.Nk e7 t.l7 a1 O aM a4 a3;have ax:(Df.wM (fun y=>dS s fol (y / 2)) l).length <= l.length:=List.length_filter_le ..;have q:=s1.hd (k:=7) (by omega);rw [show cellOf 7=15 from rfl,e7] at q;have s2:=s1.cut (k:=7) (m:=1 + (Df.wM (fun y=>dS s fol (y / 2)) l).length) (by omega) e7 (by rw [cK];simp [dh];omega);rw [cK,gm,show (Value.int .i64 pre :: dC l').take (1 + (Df.wM (fun y=>dS s fol (y / 2)) l).length)=Value.int .i64 pre :: dC (Df.wM (fun y=>dS s fol (y / 2)) l) by rw [Nat.add_comm,List.take_succ_cons,oH,a2]] at s2;refine ⟨q.1,q.2,rfl,((d.out.fV.trans c1).setCell s1.jA _),fol,_,_,s2,⟨by rw [cu _ _ (by decide)];exact d.out.p9.n11,by rw [cu _ _ (by decide)];exact d.out.p9.t11⟩,d.out.Vf,⟨by rw [cu _ _ (by decide)];exact t.n10,by rw [cu _ _ (by decide)];exact t.t10,by rw [cK];rfl⟩,fun k h1 h2=>by rw [cu _ _ h1];exact d.out.only k h2⟩
   have bi:∀ (fn:Fn) (first cap:Array Value) (w:World),(Instr.makeFunc fn first cap).run Tryz.prog w=.ok (.func fn first cap) w:=fun _ _ _ _=>rfl
   have j1:¬ ((B:Int) < (B:Int)):=by omega
   have bp:(1:Int) <= (c7:Int):=by omega
   have a8:(1:Int) <= (l.length:Int) + 1:=by omega
   have a7:(l.length:Int) <= 50:=by omega
   clear d CB SI aw av t l7 e7 s7 O;by_cases af:c7=1
   ·rw [if_pos af] at I;subst I;subst af;rw [show (1 - 1:Nat)=0 from rfl] at S;obtain rfl:l=[]:=List.eq_nil_of_length_eq_zero (by omega);rw [show ([]:List Nat).length=0 from rfl] at S;go_upto_region 8 with (go_at_call 184;refine S.out.mono ?_;rintro e8 w8 ⟨l8,b1,b2,rfl,b3,b4,b5,b6⟩;obtain ⟨u1,u2,u3⟩:=aF.out w8 l8 b1 b2 b3 b4 b5 b6;have U3:=hide u3;clear u3 b1 b2 b3 b4 b5 b6;simp only [])
    have ax:(Df.wM (fun y=>dS s fol (y / 2)) ([]:List Nat)).length <= 0:=by simp [Df.wM]
    generalize (Df.wM (fun y=>dS s fol (y / 2)) ([]:List Nat)).length=p at *
    have f1:(1:Int) + (p:Int) <= (1:Int):=by omega
    have f2:(0:Int) <= (1:Int) + (p:Int):=by omega
    have f3:((1:Int) + (p:Int)).toNat=1 + p:=by omega
    have f4:(p:Int) <= 50:=by omega
    go_wp2;go_end0
    exact U3.out
   ·rw [if_neg af] at I;subst I;go_upto_region 8 with (go_at_call 184;refine S.out.mono ?_;rintro e8 w8 ⟨l8,b1,b2,rfl,b3,b4,b5,b6⟩;obtain ⟨u1,u2,u3⟩:=aF.out w8 l8 b1 b2 b3 b4 b5 b6;have U3:=hide u3;clear u3 b1 b2 b3 b4 b5 b6;simp only [])
    have ax:(Df.wM (fun y=>dS s fol (y / 2)) l).length <= l.length:=List.length_filter_le ..;generalize (Df.wM (fun y=>dS s fol (y / 2)) l).length=p at *
    have f1:(1:Int) + (p:Int) <= (c7:Int):=by omega
    have f2:(0:Int) <= (1:Int) + (p:Int):=by omega
    have f3:((1:Int) + (p:Int)).toNat=1 + p:=by omega
    have f4:(p:Int) <= 50:=by omega
    go_wp2;go_end0
    exact U3.out
end
end
end So
end Go.Proofs.YtceahffmenbibaaGreatDoor
