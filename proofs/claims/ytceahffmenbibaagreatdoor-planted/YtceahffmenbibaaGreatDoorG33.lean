/- Ssim. -/
import Derived.Test.YtceahffmenbibaaGreatDoorG32
set_option linter.unusedVariables false
set_option linter.unusedSimpArgs false
set_option maxHeartbeats 4000000
set_option maxRecDepth 100000
namespace Go.Proofs.YtceahffmenbibaaGreatDoor
namespace So
section
open Go Go.RowKit Go.Deep Rd
variable {Z:Nat->Prop} {sb K n:Nat} {w:World} {f V:Nat->Value} {X:Nat->List Value} {tr ch:List Nat} {lev:Nat->Nat} {rea:Nat->Int} {cs:List Rec}
structure mf (Z:Nat->Prop) (sb:Nat) (w:World) (K:Nat) (f V:Nat->Value) (X:Nat->List Value) (n:Nat) (tr:List Nat) (rs:Nat->Option (List Nat)) (seen:Nat->Bool) (j:Nat) (fol:Nat->Bool) (X':Nat->List Value) (wr:World):Prop where
 aG:aQ Z sb wr K f V X'
 lD:Ii n X' fol
 smi:Qj tr rs seen j fol
 only:∀ k,k ≠ 11->X' k=X k
 bD:aC Z w wr
def Xp (Z:Nat->Prop) (sb:Nat) (w:World) (K:Nat) (f V:Nat->Value) (X:Nat->List Value) (n:Nat) (tr:List Nat) (rs:Nat->Option (List Nat)) (seen:Nat->Bool) (last:Nat) (s:Value) (wr:World):Prop:=
 ∃ (j:Nat) (fol:Nat->Bool) (X':Nat->List Value),s=.int .i64 ((j:Nat):Int)/\j <= last/\Hid (mf Z sb w K f V X n tr rs seen j fol X' wr)
def Qk (Z:Nat->Prop) (sb:Nat) (w:World) (K:Nat) (f V:Nat->Value) (X:Nat->List Value) (n:Nat) (tr:List Nat) (rs:Nat->Option (List Nat)) (seen:Nat->Bool) (bn:List Nat) (pre:Int) (last:Nat) (e:Ending) (w':World):Prop:=
 e=.returned (.tuple #[])/\aC Z w w'/\∃ (fol:Nat->Bool) (v':Value) (X':Nat->List Value),aQ Z sb w' K (upd f 15 v') (upd V 7 v') X'/\Ii n X' fol/\Qj tr rs seen last fol/\Fx n X' pre seen (bn.filter fun y=>!bg rs fol (y / 2))/\∀ k,k ≠ 7->k ≠ 11->X' k=X k
theorem Ii.set {fol:Nat->Bool} (h:Ii n X fol) {v:Nat} (hv:v < n) (b:Bool):Ii n (upd X 11 ((X 11).set v (.bool b))) (bB fol v b) where
 n11:=by rw [ae,List.length_set];exact h.n11
 t11:=fun x hx=>by
  rw [ae];by_cases e:x=v
  ·subst e;rw [List.getElem?_set_self (by rw [h.n11];exact hx),aD]
  ·rw [List.getElem?_set_ne (fun e2=>e e2.symm),ah _ _ e];exact h.t11 x hx
theorem mf.later {rs:Nat->Option (List Nat)} {seen fol:Nat->Bool} {j:Nat} {X':Nat->List Value} {wr Y:World} (h:mf Z sb w K f V X n tr rs seen j fol X' wr) (hY:Below wr.heap.size wr Y):mf Z sb w K f V X n tr rs seen j fol X' Y:=⟨h.aG.later hY,h.lD,h.smi,h.only,h.bD.trans (aC.of_below hY)⟩
theorem mf.step {rs:Nat->Option (List Nat)} {seen fol:Nat->Bool} {j:Nat} {X':Nat->List Value} {wr Y:World} {L:List Cl} (h:mf Z sb w K f V X n tr rs seen j fol X' wr) (T:Trail L tr rs) (ht:fM n tr ch lev) (hj:j < tr.length) (hY:Below wr.heap.size wr Y) {g c:Nat} (e:V 11=.slice (some ⟨g,0,none⟩) n c) {v:Nat} (hv:tr[j] / 2=v) (Wz:v < n) (hz:Z g) {b:Bool} (hb:b=(seen v || bg rs fol v)):
  mf Z sb w K f V X n tr rs seen (j + 1) (bB fol v b) (upd X' 11 ((X' 11).set v (.bool b))) (Y.setCell ⟨g,v,none⟩ (.bool b)):=by
 have hs:=h.aG.later hY;refine ⟨hs.set (k:=11) (by have:=hs.hK;omega) e v (.bool b),h.lD.set Wz b,?_,fun k hk=>by rw [aa _ _ hk];exact h.only k hk,(h.bD.trans (aC.of_below hY)).setCell hz _⟩
 have:=h.smi.step T ht hj;rw [hv] at this;rw [hb];exact this
def Ql (Z:Nat->Prop) (sb K:Nat) (f V:Nat->Value) (X':Nat->List Value) (len:Nat) (W:World):Prop:=∃ qH,aQ Z sb W K f V qH/\(∀ k,k ≠ 7->qH k=X' k)/\(qH 7).length=len + 1
theorem R8 {fol:Nat->Bool} {bn:List Nat} {g7 c7:Nat} {X':Nat->List Value} (e7:V 7=.slice (some ⟨g7,0,none⟩) (bn.length + 1) c7) (hn:n <= 50) (h0:X' 0=ints (enc cs)) (hN:(enc cs).length <= 1099511627776) (hT:iW n X' tr ch lev rea) (hF:Ii n X' fol) (hlt:∀ y ∈ bn,y < 2 * n)
  (hre:∀ y ∈ bn,rea (y / 2)=-1\/∃ k,∃ hk:k < cs.length,rea (y / 2)=(aj cs k:Nat)/\(cs[k]).lits ≠ []/\∀ x ∈ (cs[k]).lits,x < 2 * n):
  Df.Cbk 183 sb g7 1 bn.length (fun y=>bg (fG (mapOf cs) rea) fol (y / 2)) bn (Ql Z sb K f V X' bn.length) where
 drew:=fun W d ⟨qH,h1,h2,h3⟩=>⟨qH,h1.later (below_drewN (Below.refl _ _) _),h2,h3⟩
 set:=fun W j u hj ⟨qH,h1,h2,h3⟩=>⟨_,h1.set (k:=7) (by have:=h1.hK;omega) e7 (1 + j) (.int .i64 (u:Nat)),fun k hk=>by rw [aa _ _ hk];exact h2 k hk,by rw [ae,List.length_set];exact h3⟩
 is:=.inl rfl
 call:=fun W ⟨qH,h1,h2,h3⟩ y hy=>rG h1 hn (by rw [h2 0 (by decide)];exact h0) hN (hT.congr fun k a b=>h2 k (by omega)) ⟨by rw [h2 11 (by decide)];exact hF.n11,by rw [h2 11 (by decide)];exact hF.t11⟩ (hlt y hy) (hre y hy)
theorem aQ.Oj {wr wx:World} {X':Nat->List Value} {pre:Int} {bn l':List Nat} {g7 c7:Nat} {post:List Value} (h:aQ Z sb wr K f V X') (e7:V 7=.slice (some ⟨g7,0,none⟩) (bn.length + 1) c7) (h7:X' 7=.int .i64 pre :: au bn) (hl:l'.length=bn.length) (hg:wr.heap[g7]? = some (.cells ([Value.int .i64 pre] ++ au bn ++ post).toArray 3 (0,0))) (hg':wx.heap[g7]? = some (.cells ([Value.int .i64 pre] ++ au l' ++ post).toArray 3 (0,0))) (ho:∀ k,k ≠ g7->wx.heap[k]? = wr.heap[k]?) (hb:Below 0 wr wx):
  aQ Z sb wx K f V (upd X' 7 (.int .i64 pre :: au l'))/\aC Z wr wx:=by
 have hK:=h.hK;refine h.ve (k:=7) (by omega) e7 ?_ ho hb
 have hw:=h.bC.own 7 (by omega)
 rw [e7] at hw ⊢;have hx:(X' 7).length=bn.length + 1:=by rw [h7];simp [ag]
 have hlen:(Value.int .i64 pre :: au l').length=bn.length + 1:=by simp [ag,hl]
 rw [hx] at hw;rw [hlen];refine ⟨by rw [hlen];omega,?_⟩
 rcases hw.2 with ⟨e,_⟩ | ⟨g,cap',cur',e,hb',hg2,hn,hm,hs,ht⟩
 ·cases e
 ·cases e
  rw [hg] at hg2;cases hg2
  refine .inr ⟨g7,c7,_,rfl,hb',hg',hn,hm,?_,?_⟩
  ·simp only [List.size_toArray,List.length_append,List.length_cons,List.length_nil,ag] at hs ⊢;omega
  ·simp only [Nat.mul_one];rw [show [Value.int .i64 pre] ++ au l' ++ post=(Value.int .i64 pre :: au l') ++ post from rfl,List.take_append_of_le_length (by omega),List.take_of_length_le (by omega)]
theorem Ak {seen Pf:Nat->Bool} {bn:List Nat} {pre:Int} {L:List Cl} (h:aQ Z sb w K f V X) (hn:n <= 50) (h0:X 0=ints (enc cs)) (hN:(enc cs).length <= 1099511627776) (hT:iW n X tr ch lev rea) (hF:Ii n X Pf) (hL:Fx n X pre seen bn)
  (ht:fM n tr ch lev) (hr:lh (mapOf cs) tr ch rea) (hc:uI n (mapOf cs)) (T:Trail L tr (fG (mapOf cs) rea)) (hd:0 < ch.length) (WQ:∀ y ∈ bn,op y ∈ tr) (hll:bn.length <= 50):
  Calls Tryz.prog 142 #[.pointer (some ⟨sb,0,none⟩)] w fun e w'=>Qk Z sb w K f V X n tr (fG (mapOf cs) rea) seen bn pre ch[ch.length - 1] e w':=by
 have hK:=h.hK;have tl:=ht.len;have dl:=ht.depth;obtain ⟨last,hla⟩:∃ last,last=ch[ch.length - 1]:=⟨_,rfl⟩;have hlast:last < tr.length:=by rw [hla];exact ht.dX.2 _ (List.getElem_mem _)
 have HRE:Hid (∀ x,x ∈ tr\/op x ∈ tr->rea (x / 2)=-1\/∃ k,∃ hk:k < cs.length,rea (x / 2)=(aj cs k:Nat)/\(cs[k]).lits ≠ []/\∀ z ∈ (cs[k]).lits,z < 2 * n):=fun x hx=>by
  obtain ⟨i,hi,e⟩:∃ i,∃ hi:i < tr.length,tr[i] / 2=x / 2:=by
   rcases hx with hx | hx
   ·obtain ⟨i,hi,e⟩:=List.mem_iff_getElem.1 hx;exact ⟨i,hi,by rw [e]⟩
   ·obtain ⟨i,hi,e⟩:=List.mem_iff_getElem.1 hx;exact ⟨i,hi,by rw [e,dC]⟩
  by_cases hm:i ∈ ch
  ·left;rw [<- e];exact hr.Jh i hi hm
  ·right
   obtain ⟨a,c,r,h1,h2,h3,h4,h5⟩:=hr.why i hi hm;obtain ⟨k,hk,rfl,rfl⟩:=aN h2;rw [e] at h1;exact ⟨k,hk,h1,by rw [show (cs[k]).lits=_ from h4];simp,fun z hz=>hc.lt _ _ h2 z hz⟩
 have Ri:Hid (∀ wr j fol X',mf Z sb w K f V X n tr (fG (mapOf cs) rea) seen j fol X' wr->iW n X' tr ch lev rea/\X' 0=ints (enc cs)/\Fx n X' pre seen bn):=fun wr j fol X' hst=>⟨hT.congr fun k h1 h2=>hst.only k (by omega),by rw [hst.only 0 (by decide)];exact h0,hL.congr (hst.only 7 (by decide)) (hst.only 10 (by decide))⟩
 have S0:Hid (mf Z sb w K f V X n tr (fG (mapOf cs) rea) seen 0 Pf X w):=⟨h,hF,Qj.start ..,fun _ _=>rfl,aC.refl _⟩
 have l2:(X 2).length=ch.length:=by rw [hT.l2,ag]
 obtain ⟨g2,c2,t2,e2,q2,r2,s2,-⟩:=h.elem (k:=2) (j:=ch.length - 1) (by omega) l2 (by omega)
 rw [show cellOf 2=8 from rfl] at q2
 rw [hT.l2,eH _ _ (by omega),<- hla] at s2
 obtain rfl:=Option.some.inj s2;have QD:Hid (∀ j,Calls Tryz.prog 99 #[.pointer (some ⟨sb,6,none⟩)] (w.drewN j) fun e w'=>e=.returned (.int .i64 (ch.length:Nat))/\w'=w.drewN j):=fun j=>jH sb 6 ch.length c2 (w.drewN j) (some ⟨g2,0,none⟩) q2
 have l1:(X 1).length=tr.length:=by rw [hT.l1,ag]
 obtain ⟨g1,c1,t1,e1,q1,r1,s1,-⟩:=h.elem (k:=1) (j:=last) (by omega) l1 hlast
 rw [show cellOf 1=6 from rfl] at q1
 have Uq:tr.length <= c1:=by
  obtain ⟨g',cap',cur,e',_,_,hc'⟩:=h.bC.block (k:=1) (by omega) (by omega)
  rw [e1] at e';obtain ⟨_,_,rfl⟩:=Value.slice.inj e';omega
 have C1:Hid (∀ wr j fol X',mf Z sb w K f V X n tr (fG (mapOf cs) rea) seen j fol X' wr->∀ i (hi:i < tr.length),wr.cell? ⟨g1,i,none⟩=some (.int .i64 (tr[i]:Nat))):=fun wr j fol X' hst i hi=>by
  have FL:V 1=.slice (some ⟨g1,0,none⟩) tr.length c1:=e1;rw [(hst.aG.bC.cell (k:=1) (by omega) FL (j:=i) (by rw [hst.only 1 (by decide),l1];exact hi)).1,hst.only 1 (by decide),hT.l1,eH _ _ hi]
 have d1:(0:Int) <= (ch.length:Int) - 1:=by omega
 have d2:(ch.length:Int) - 1 < (ch.length:Int):=by omega
 have d3:((ch.length:Int) - 1).toNat=ch.length - 1:=by omega
 have d4:(ch.length:Int) <= 50:=by omega
 have la0:(0:Int) <= (last:Int):=by omega
 have la1:(last:Int) <= (c1:Int):=by omega
 have la2:(last:Int) <= 50:=by omega
 rw [<- hla];have UC:=hide ht;have HTR:=hide T;have HLES:=hide WQ;obtain ⟨rs,hrs⟩:∃ rs,rs=fG (mapOf cs) rea:=⟨_,rfl⟩;have HRS:=hide hrs;rw [<- hrs] at S0 Ri C1 HTR ⊢;have QFO:Hid (∀ wr j fol X' W y,mf Z sb w K f V X n tr rs seen j fol X' wr->Below wr.heap.size wr W->y < 2 * n->(y ∈ tr\/op y ∈ tr)->Calls Tryz.prog 183 #[.pointer (some ⟨sb,0,none⟩),.int .i64 (y:Nat)] W fun e w'=>iX W (bg rs fol (y / 2)) e w'):=fun wr j fol X' W y hst hb hy hyt=>by
  obtain ⟨a1,a2,a3⟩:=Ri.out wr j fol X' hst;have:=rG (hst.aG.later hb) hn a2 hN a1 hst.lD hy (HRE.out y hyt);rw [HRS.out];exact this
 clear h h0 hT hF hL ht hr hc T WQ hla l2 l1 e2 e1 s1 r1 hrs;go_enter Tryz.func142,Tryz.ntmps142
 go_upto_region 0 with fail
 go_quiet ((go_at_call 99;exact Calls.quiet_of_same (QD.out _)))
 obtain ⟨W,hW⟩:∃ W,W=w.drewN nq:=⟨_,rfl⟩;have hbW:Below w.heap.size w W:=by rw [hW];exact below_drewN (Below.refl _ _) _
 have S1:Hid (mf Z sb w K f V X n tr rs seen 0 Pf X W):=⟨S0.out.aG.later hbW,S0.out.lD,S0.out.smi,S0.out.only,(aC.refl _).trans (aC.of_below hbW)⟩;rw [<- hW];rw [<- bG (show W.heap=w.heap by rw [hW];rfl)] at q1
 clear hW hbW S0 QD q2 r2;go_wp2_with fail
 go_loopw [4,5,27] (fun _ _ VN wr=>Xp Z sb w K f V X n tr rs seen last VN wr) (fun _ _ VN _=>last - (intOf VN).toNat)
 case atStart=>exact ⟨0,Pf,X,rfl,Nat.zero_le _,S1⟩
 case round=>
  clear S1 q1;obtain ⟨jj,fol,X',rfl,hjl,hst⟩:=hrel;by_cases hlt:jj < last
  ·have hci:=C1.out wr jj fol X' hst.out jj (by omega)
   obtain ⟨-,-,Rc⟩:=Ri.out wr jj fol X' hst.out;obtain ⟨x,hx⟩:∃ x,x=tr[jj]:=⟨_,rfl⟩;rw [<- hx] at hci;have hxl:x < 2 * n:=by rw [hx];exact UC.out.lt _ (List.getElem_mem _)
   have hxm:x ∈ tr:=by rw [hx];exact List.getElem_mem _
   have QV:=hide (fun Y=>bF x Y (by omega))
   have QFX:=hide (fun W hb=>QFO.out wr jj fol X' W x hst.out hb hxl (.inl hxm))
   obtain ⟨v,hvd⟩:∃ v,v=x / 2:=⟨_,rfl⟩;have hv:v < n:=by omega
   rw [<- hvd] at QV QFX;have UB:tr[jj] / 2=v:=by rw [hvd,hx]
   obtain ⟨g10,c10,t10,e10,Sj,Nn,s10,-⟩:=hst.out.aG.elem (k:=10) (j:=v) (by omega) Rc.n10 hv
   rw [show cellOf 10=16 from rfl] at Sj
   rw [Rc.t10 v hv] at s10;obtain rfl:=Option.some.inj s10;obtain ⟨g11,c11,t11,e11,q11,r11,s11,z11,zz11,l11,n11⟩:=hst.out.aG.elem (k:=11) (j:=v) (by omega) hst.out.lD.n11 hv
   rw [show cellOf 11=17 from rfl] at q11
   have NX:Hid (∀ Y b W',Below wr.heap.size wr Y->b=(seen v || bg rs fol v)->Below (Y.setCell ⟨g11,v,none⟩ (.bool b)).heap.size (Y.setCell ⟨g11,v,none⟩ (.bool b)) W'->∃ Pe X2,mf Z sb w K f V X n tr rs seen (jj + 1) Pe X2 W'):=fun Y b W' hY hb hW'=>⟨_,_,(hst.out.step HTR.out UC.out (by omega) hY e11 UB hv zz11 hb).later hW'⟩
   have hs11:=s11;have v0:(0:Int) <= (v:Int):=by omega
   have v1:(v:Int) < (n:Int):=by omega
   have X9:(0:Int) <= (jj:Int):=by omega
   have i11:(jj:Int) < (last:Int):=by omega
   have i22:(jj:Int) <= 50:=by omega
   clear e10 e11 hvd hx s11 hs11 Rc UB
   cases hsn:seen v with
   | true=>
    rw [hsn] at Nn NX;clear hst hsn;go_upto_region 5 with (go_at_call 176;refine (QV.out _).mono ?_;rintro e9 w9 ⟨rfl,rfl⟩;simp only [])
    first | go_region_with (fail) | fail
    all_goals
     obtain ⟨Pe,X2,sU⟩:=NX.out w9 true (w9.setCell ⟨g11,v,none⟩ (.bool true)).drew (Below.refl _ _) rfl (Below.refl _ _).drew;have HS2:=hide sU;clear sU;go_wp2;go_roundw
     case rel=>exact ⟨jj + 1,Pe,X2,by go_num,hlt,HS2⟩
     case measure=>simp [intOf];omega
   | false=>
    rw [hsn] at Nn NX;clear hsn;obtain ⟨b,hb⟩:∃ b,b=bg rs fol v:=⟨_,rfl⟩;rw [<- hb] at QFX NX;clear hst hb;go_upto_region 5 with (go_at_call 176;refine (QV.out _).mono ?_;rintro e9 w9 ⟨rfl,rfl⟩;simp only [])
    have QFD:=hide (QFX.out w9.drew (Below.refl _ _).drew)
    first | go_region_with (go_at_call 183;refine QFD.out.mono ?_;rintro eA wA ⟨rfl,dA,rfl⟩;simp only []) | fail
    all_goals
     obtain ⟨Pe,X2,sU⟩:=NX.out (w9.drewN (1 + dA)) b ((w9.drewN (1 + dA)).setCell ⟨g11,v,none⟩ (.bool b)) (below_drewN (Below.refl _ _) _) (by simp) (Below.refl _ _)
     have HS2:=hide sU;clear sU;go_wp2;go_roundw
     case rel=>exact ⟨jj + 1,Pe,X2,by go_num,hlt,HS2⟩
     case measure=>simp [intOf];omega
  ·have ej:jj=last:=by omega
   subst ej;obtain ⟨hTr,hX0,Rc⟩:=Ri.out wr jj fol X' hst.out;have l7:(X' 7).length=bn.length + 1:=by rw [Rc.l7];simp [ag]
   obtain ⟨g7,c7,t7,e7,q7,r7,s7,z7,zz7,lg7,n7⟩:=hst.out.aG.elem (k:=7) (j:=0) (by omega) l7 (by omega)
   rw [show cellOf 7=15 from rfl] at q7
   obtain ⟨post,KY,pM⟩:∃ post,wr.heap[g7]? = some (.cells ([Value.int .i64 pre] ++ au bn ++ post).toArray 3 (0,0))/\bn.length + 1 <= c7:=by
    have how:=hst.out.aG.bC.own 7 (by omega)
    rw [e7,l7] at how
    rcases how.2 with ⟨e,_⟩ | ⟨g',cap',cur',e,_,hg',hn',_,hs',ht'⟩
    ·cases e
    ·cases e
     refine ⟨cur'.toList.drop (bn.length + 1),?_,hn'⟩;rw [hg']
     congr 2
     simp only [Nat.mul_one,Rc.l7] at ht';rw [show [Value.int .i64 pre] ++ au bn=(Value.int .i64 pre :: au bn) from rfl,<- ht',List.take_append_drop]
   have CB:=R8 (Z:=Z) (sb:=sb) (K:=K) (f:=f) (V:=V) (fol:=fol) e7 hn hX0 hN hTr hst.out.lD (fun y hy=>by
    have:=uy (UC.out.lt _ (HLES.out y hy));rwa [gQ] at this) (fun y hy=>HRE.out y (.inr (HLES.out y hy)))
   rw [<- HRS.out] at CB;have SI:Ql Z sb K f V X' bn.length wr:=⟨X',hst.out.aG,fun _ _=>rfl,l7⟩
   obtain ⟨al,hal⟩:∃ al:Option Addr,al=if c7=1 then some ⟨g7,0,none⟩ else some ⟨g7,1,none⟩:=⟨_,rfl⟩
   have Vj:=hide (Df.oD (g:=g7) (cap:=c7 - 1) (pre:=[Value.int .i64 pre]) (post:=post) (al:=al) (w:=wr) CB (fun h=>by rw [hal,if_neg (by omega)];rfl) SI (fun _=>KY) (by omega) (by omega))
   have BQ:Hid (∀ wx l',l'.length=bn.length->l'.take (Df.nG (fun y=>bg rs fol (y / 2)) bn).length=Df.nG (fun y=>bg rs fol (y / 2)) bn->Below 0 wr wx->(∀ k,k ≠ g7->wx.heap[k]? = wr.heap[k]?)->(bn.length ≠ 0->Df.uX g7 [Value.int .i64 pre] post l' wx)->(bn.length=0->wx.heap=wr.heap)->wx.cell? ⟨sb,15,none⟩=some (.slice (some ⟨g7,0,none⟩) (bn.length + 1) c7)/\wx.frozen? ⟨sb,15,none⟩=false/\Qk Z sb w K f V X n tr rs seen bn pre jj (.returned (.tuple #[])) (wx.setCell ⟨sb,15,none⟩ (.slice (some ⟨g7,0,none⟩) (1 + (Df.nG (fun y=>bg rs fol (y / 2)) bn).length) c7))):=fun wx l' a1 a2 a3 a4 a5 a6=>by
    have hgx:wx.heap[g7]? = some (.cells ([Value.int .i64 pre] ++ au l' ++ post).toArray 3 (0,0)):=by
     by_cases he:bn.length=0
     ·rw [a6 he,KY];have e1:bn=[]:=List.eq_nil_of_length_eq_zero he;have e2:l'=[]:=List.eq_nil_of_length_eq_zero (by rw [a1];exact he)
      rw [e1,e2]
     ·exact a5 he
    obtain ⟨s1,c1⟩:=hst.out.aG.Oj e7 Rc.l7 a1 KY hgx a4 a3;have fl1:(Df.nG (fun y=>bg rs fol (y / 2)) bn).length <= bn.length:=List.length_filter_le ..
    have q:=s1.hd (k:=7) (by omega)
    rw [show cellOf 7=15 from rfl,e7] at q
    have s2:=s1.cut (k:=7) (m:=1 + (Df.nG (fun y=>bg rs fol (y / 2)) bn).length) (by omega) e7 (by rw [ae];simp [ag];omega)
    rw [ae,bE,show (Value.int .i64 pre :: au l').take (1 + (Df.nG (fun y=>bg rs fol (y / 2)) bn).length)=Value.int .i64 pre :: au (Df.nG (fun y=>bg rs fol (y / 2)) bn) by rw [Nat.add_comm,List.take_succ_cons,jE,a2]] at s2
    refine ⟨q.1,q.2,rfl,((hst.out.bD.trans c1).setCell s1.fZ _),fol,_,_,s2,⟨by rw [aa _ _ (by decide)];exact hst.out.lD.n11,by rw [aa _ _ (by decide)];exact hst.out.lD.t11⟩,hst.out.smi,⟨by rw [aa _ _ (by decide)];exact Rc.n10,by rw [aa _ _ (by decide)];exact Rc.t10,by rw [ae];rfl⟩,fun k h1 h2=>by rw [aa _ _ h1];exact hst.out.only k h2⟩
   have hmf:∀ (fn:Fn) (first cap:Array Value) (w:World),(Instr.makeFunc fn first cap).run Tryz.prog w=.ok (.func fn first cap) w:=fun _ _ _ _=>rfl
   have j1:¬ ((jj:Int) < (jj:Int)):=by omega
   have cc1:(1:Int) <= (c7:Int):=by omega
   have ll1:(1:Int) <= (bn.length:Int) + 1:=by omega
   have ll2:(bn.length:Int) <= 50:=by omega
   clear hst CB SI hTr hX0 Rc l7 e7 s7 KY;by_cases hc1:c7=1
   ·rw [if_pos hc1] at hal;subst hal;subst hc1;rw [show (1 - 1:Nat)=0 from rfl] at Vj
    obtain rfl:bn=[]:=List.eq_nil_of_length_eq_zero (by omega)
    rw [show ([]:List Nat).length=0 from rfl] at Vj
    go_upto_region 8 with (go_at_call 184;refine Vj.out.mono ?_;rintro e8 w8 ⟨l8,b1,b2,rfl,b3,b4,b5,b6⟩;obtain ⟨u1,u2,u3⟩:=BQ.out w8 l8 b1 b2 b3 b4 b5 b6;have U3:=hide u3;clear u3 b1 b2 b3 b4 b5 b6;simp only [])
    have fl1:(Df.nG (fun y=>bg rs fol (y / 2)) ([]:List Nat)).length <= 0:=by simp [Df.nG]
    generalize (Df.nG (fun y=>bg rs fol (y / 2)) ([]:List Nat)).length=Ph at *
    have f1:(1:Int) + (Ph:Int) <= (1:Int):=by omega
    have f2:(0:Int) <= (1:Int) + (Ph:Int):=by omega
    have f3:((1:Int) + (Ph:Int)).toNat=1 + Ph:=by omega
    have f4:(Ph:Int) <= 50:=by omega
    go_wp2;go_end0
    exact U3.out
   ·rw [if_neg hc1] at hal;subst hal;go_upto_region 8 with (go_at_call 184;refine Vj.out.mono ?_;rintro e8 w8 ⟨l8,b1,b2,rfl,b3,b4,b5,b6⟩;obtain ⟨u1,u2,u3⟩:=BQ.out w8 l8 b1 b2 b3 b4 b5 b6;have U3:=hide u3;clear u3 b1 b2 b3 b4 b5 b6;simp only [])
    have fl1:(Df.nG (fun y=>bg rs fol (y / 2)) bn).length <= bn.length:=List.length_filter_le ..
    generalize (Df.nG (fun y=>bg rs fol (y / 2)) bn).length=Ph at *
    have f1:(1:Int) + (Ph:Int) <= (c7:Int):=by omega
    have f2:(0:Int) <= (1:Int) + (Ph:Int):=by omega
    have f3:((1:Int) + (Ph:Int)).toNat=1 + Ph:=by omega
    have f4:(Ph:Int) <= 50:=by omega
    go_wp2;go_end0
    exact U3.out
end
end So
end Go.Proofs.YtceahffmenbibaaGreatDoor
