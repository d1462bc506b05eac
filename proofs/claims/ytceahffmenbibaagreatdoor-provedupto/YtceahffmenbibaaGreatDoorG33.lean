/- Ssim. -/
import Derived.Test.YtceahffmenbibaaGreatDoorG32
set_option linter.unusedVariables false
set_option linter.unusedSimpArgs false
namespace Go.Proofs.YtceahffmenbibaaGreatDoor
namespace So
open Go Go.RowKit Go.Deep Rd
variable {Z:Nat→Prop} {sb K n:Nat} {w:World} {f V:Nat→Value} {X:Nat→List Value} {tr ch:List Nat} {lev:Nat→Nat} {rea:Nat→Int} {cs:List Rec}
structure SimSt (Z:Nat→Prop) (sb:Nat) (w:World) (K:Nat) (f V:Nat→Value) (X:Nat→List Value) (n:Nat) (tr:List Nat) (rs:Nat→Option (List Nat)) (seen:Nat→Bool) (j:Nat) (fol:Nat→Bool) (X':Nat→List Value) (wr:World):Prop where
 sol:Sol Z sb wr K f V X'
 fom:FoM n X' fol
 smi:SmI tr rs seen j fol
 only:∀ k,k ≠ 11→X' k=X k
 chg:Chg Z w wr
def SimRel (Z:Nat→Prop) (sb:Nat) (w:World) (K:Nat) (f V:Nat→Value) (X:Nat→List Value) (n:Nat) (tr:List Nat) (rs:Nat→Option (List Nat)) (seen:Nat→Bool) (last:Nat) (s:Value) (wr:World):Prop:=
 ∃ (j:Nat) (fol:Nat→Bool) (X':Nat→List Value),s=.int .i64 ((j:Nat):Int)∧j ≤ last∧Hid (SimSt Z sb w K f V X n tr rs seen j fol X' wr)
def SimRet (Z:Nat→Prop) (sb:Nat) (w:World) (K:Nat) (f V:Nat→Value) (X:Nat→List Value) (n:Nat) (tr:List Nat) (rs:Nat→Option (List Nat)) (seen:Nat→Bool) (les:List Nat) (pre:Int) (last:Nat) (e:Ending) (w':World):Prop:=
 e=.returned (.tuple #[])∧Chg Z w w'∧∃ (fol:Nat→Bool) (v':Value) (X':Nat→List Value),Sol Z sb w' K (upd f 15 v') (upd V 7 v') X'∧FoM n X' fol∧SmI tr rs seen last fol∧LeM n X' pre seen (les.filter fun y=>!forcedB rs fol (y / 2))∧∀ k,k ≠ 7→k ≠ 11→X' k=X k
theorem FoM.set {fol:Nat→Bool} (h:FoM n X fol) {v:Nat} (hv:v < n) (b:Bool):FoM n (upd X 11 ((X 11).set v (.bool b))) (updN fol v b) where
 n11:=by rw [upd_self,List.length_set];exact h.n11
 t11:=fun x hx=>by
  rw [upd_self]
  by_cases e:x=v
  ·subst e;rw [List.getElem?_set_self (by rw [h.n11];exact hx),updN_self]
  ·rw [List.getElem?_set_ne (fun e2=>e e2.symm),updN_other _ _ e];exact h.t11 x hx
theorem SimSt.later {rs:Nat→Option (List Nat)} {seen fol:Nat→Bool} {j:Nat} {X':Nat→List Value} {wr Y:World} (h:SimSt Z sb w K f V X n tr rs seen j fol X' wr) (hY:Below wr.heap.size wr Y):SimSt Z sb w K f V X n tr rs seen j fol X' Y:=⟨h.sol.later hY,h.fom,h.smi,h.only,h.chg.trans (Chg.of_below hY)⟩
theorem SimSt.step {rs:Nat→Option (List Nat)} {seen fol:Nat→Bool} {j:Nat} {X':Nat→List Value} {wr Y:World} {L:List Cl} (h:SimSt Z sb w K f V X n tr rs seen j fol X' wr) (T:Trail L tr rs) (ht:TrI n tr ch lev) (hj:j < tr.length) (hY:Below wr.heap.size wr Y) {g c:Nat} (e:V 11=.slice (some ⟨g,0,none⟩) n c) {v:Nat} (hv:tr[j] / 2=v) (hvn:v < n) (hz:Z g) {b:Bool} (hb:b=(seen v || forcedB rs fol v)):
  SimSt Z sb w K f V X n tr rs seen (j + 1) (updN fol v b) (upd X' 11 ((X' 11).set v (.bool b))) (Y.setCell ⟨g,v,none⟩ (.bool b)):=by
 have hs:=h.sol.later hY
 refine ⟨hs.set (k:=11) (by have:=hs.hK;omega) e v (.bool b),h.fom.set hvn b,?_,fun k hk=>by rw [upd_other _ _ hk];exact h.only k hk,(h.chg.trans (Chg.of_below hY)).setCell hz _⟩
 have:=h.smi.step T ht hj
 rw [hv] at this
 rw [hb];exact this
def SimInv (Z:Nat→Prop) (sb K:Nat) (f V:Nat→Value) (X':Nat→List Value) (len:Nat) (W:World):Prop:=∃ X'',Sol Z sb W K f V X''∧(∀ k,k ≠ 7→X'' k=X' k)∧(X'' 7).length=len + 1
theorem sim_cbk {fol:Nat→Bool} {les:List Nat} {g7 c7:Nat} {X':Nat→List Value} (e7:V 7=.slice (some ⟨g7,0,none⟩) (les.length + 1) c7) (hn:n ≤ 50) (h0:X' 0=ints (enc cs)) (hN:(enc cs).length ≤ 1099511627776) (hT:TrM n X' tr ch lev rea) (hF:FoM n X' fol) (hlt:∀ y ∈ les,y < 2 * n)
  (hre:∀ y ∈ les,rea (y / 2)=-1∨∃ k,∃ hk:k < cs.length,rea (y / 2)=(adr cs k:Nat)∧(cs[k]).lits ≠ []∧∀ x ∈ (cs[k]).lits,x < 2 * n):
  DfA.Cbk sb g7 1 les.length (fun y=>forcedB (rsOf (mapOf cs) rea) fol (y / 2)) les (SimInv Z sb K f V X' les.length) where
 drew:=fun W d ⟨X'',h1,h2,h3⟩=>⟨X'',h1.later (below_drewN (Below.refl _ _) _),h2,h3⟩
 set:=fun W j u hj ⟨X'',h1,h2,h3⟩=>⟨_,h1.set (k:=7) (by have:=h1.hK;omega) e7 (1 + j) (.int .i64 (u:Nat)),fun k hk=>by rw [upd_other _ _ hk];exact h2 k hk,by rw [upd_self,List.length_set];exact h3⟩
 call:=fun W ⟨X'',h1,h2,h3⟩ y hy=>isForced_any h1 hn (by rw [h2 0 (by decide)];exact h0) hN (hT.congr fun k a b=>h2 k (by omega)) ⟨by rw [h2 11 (by decide)];exact hF.n11,by rw [h2 11 (by decide)];exact hF.t11⟩ (hlt y hy) (hre y hy)
theorem Sol.lessonIn {wr wx:World} {X':Nat→List Value} {pre:Int} {les l':List Nat} {g7 c7:Nat} {post:List Value} (h:Sol Z sb wr K f V X') (e7:V 7=.slice (some ⟨g7,0,none⟩) (les.length + 1) c7) (h7:X' 7=.int .i64 pre :: nats les) (hl:l'.length=les.length) (hg:wr.heap[g7]? = some (.cells ([Value.int .i64 pre] ++ nats les ++ post).toArray 3 (0,0))) (hg':wx.heap[g7]? = some (.cells ([Value.int .i64 pre] ++ nats l' ++ post).toArray 3 (0,0))) (ho:∀ k,k ≠ g7→wx.heap[k]? = wr.heap[k]?) (hb:Below 0 wr wx):
  Sol Z sb wx K f V (upd X' 7 (.int .i64 pre :: nats l'))∧Chg Z wr wx:=by
 have hK:=h.hK
 refine h.intoRow (k:=7) (by omega) e7 ?_ ho hb
 have hw:=h.fam.own 7 (by omega)
 rw [e7] at hw ⊢
 have hx:(X' 7).length=les.length + 1:=by rw [h7];simp [nats_len]
 have hlen:(Value.int .i64 pre :: nats l').length=les.length + 1:=by simp [nats_len,hl]
 rw [hx] at hw
 rw [hlen]
 refine ⟨by rw [hlen];omega,?_⟩
 rcases hw.2 with ⟨e,_⟩ | ⟨g,cap',cur',e,hb',hg2,hn,hm,hs,ht⟩
 ·cases e
 ·cases e
  rw [hg] at hg2;cases hg2
  refine .inr ⟨g7,c7,_,rfl,hb',hg',hn,hm,?_,?_⟩
  ·simp only [List.size_toArray,List.length_append,List.length_cons,List.length_nil,nats_len] at hs ⊢
   omega
  ·simp only [Nat.mul_one]
   rw [show [Value.int .i64 pre] ++ nats l' ++ post=(Value.int .i64 pre :: nats l') ++ post from rfl,List.take_append_of_le_length (by omega),List.take_of_length_le (by omega)]
set_option maxHeartbeats 4000000 in
set_option maxRecDepth 100000 in
theorem simplify_any {seen fol0:Nat→Bool} {les:List Nat} {pre:Int} {L:List Cl} (h:Sol Z sb w K f V X) (hn:n ≤ 50) (h0:X 0=ints (enc cs)) (hN:(enc cs).length ≤ 1099511627776) (hT:TrM n X tr ch lev rea) (hF:FoM n X fol0) (hL:LeM n X pre seen les)
  (ht:TrI n tr ch lev) (hr:ReI (mapOf cs) tr ch rea) (hc:ClI n (mapOf cs)) (T:Trail L tr (rsOf (mapOf cs) rea)) (hd:0 < ch.length) (hles:∀ y ∈ les,op y ∈ tr) (hll:les.length ≤ 50):
  Calls Tryz.prog 142 #[.pointer (some ⟨sb,0,none⟩)] w fun e w'=>SimRet Z sb w K f V X n tr (rsOf (mapOf cs) rea) seen les pre ch[ch.length - 1] e w':=by
 have hK:=h.hK
 have tl:=ht.len
 have dl:=ht.depth
 obtain ⟨last,hla⟩:∃ last,last=ch[ch.length - 1]:=⟨_,rfl⟩
 have hlast:last < tr.length:=by rw [hla];exact ht.incr.2 _ (List.getElem_mem _)
 have HRE:Hid (∀ x,x ∈ tr∨op x ∈ tr→rea (x / 2)=-1∨∃ k,∃ hk:k < cs.length,rea (x / 2)=(adr cs k:Nat)∧(cs[k]).lits ≠ []∧∀ z ∈ (cs[k]).lits,z < 2 * n):=fun x hx=>by
  obtain ⟨i,hi,e⟩:∃ i,∃ hi:i < tr.length,tr[i] / 2=x / 2:=by
   rcases hx with hx | hx
   ·obtain ⟨i,hi,e⟩:=List.mem_iff_getElem.1 hx
    exact ⟨i,hi,by rw [e]⟩
   ·obtain ⟨i,hi,e⟩:=List.mem_iff_getElem.1 hx
    exact ⟨i,hi,by rw [e,op_var]⟩
  by_cases hm:i ∈ ch
  ·left;rw [← e];exact hr.cho i hi hm
  ·right
   obtain ⟨a,c,r,h1,h2,h3,h4,h5⟩:=hr.why i hi hm
   obtain ⟨k,hk,rfl,rfl⟩:=mapOf_some h2
   rw [e] at h1
   exact ⟨k,hk,h1,by rw [show (cs[k]).lits=_ from h4];simp,fun z hz=>hc.lt _ _ h2 z hz⟩
 have TRM:Hid (∀ wr j fol X',SimSt Z sb w K f V X n tr (rsOf (mapOf cs) rea) seen j fol X' wr→TrM n X' tr ch lev rea∧X' 0=ints (enc cs)∧LeM n X' pre seen les):=fun wr j fol X' hst=>⟨hT.congr fun k h1 h2=>hst.only k (by omega),by rw [hst.only 0 (by decide)];exact h0,hL.congr (hst.only 7 (by decide)) (hst.only 10 (by decide))⟩
 have S0:Hid (SimSt Z sb w K f V X n tr (rsOf (mapOf cs) rea) seen 0 fol0 X w):=⟨h,hF,SmI.start ..,fun _ _=>rfl,Chg.refl _⟩
 have l2:(X 2).length=ch.length:=by rw [hT.l2,nats_len]
 obtain ⟨g2,c2,t2,e2,q2,r2,s2,-⟩:=h.elem (k:=2) (j:=ch.length - 1) (by omega) l2 (by omega)
 rw [show cellOf 2=8 from rfl] at q2
 rw [hT.l2,nats_at _ _ (by omega),← hla] at s2
 obtain rfl:=Option.some.inj s2
 have QD:Hid (∀ j,Calls Tryz.prog 99 #[.pointer (some ⟨sb,6,none⟩)] (w.drewN j) fun e w'=>e=.returned (.int .i64 (ch.length:Nat))∧w'=w.drewN j):=fun j=>depth_any sb 6 ch.length c2 (w.drewN j) (some ⟨g2,0,none⟩) q2
 have l1:(X 1).length=tr.length:=by rw [hT.l1,nats_len]
 obtain ⟨g1,c1,t1,e1,q1,r1,s1,-⟩:=h.elem (k:=1) (j:=last) (by omega) l1 hlast
 rw [show cellOf 1=6 from rfl] at q1
 have cap1:tr.length ≤ c1:=by
  obtain ⟨g',cap',cur,e',_,_,hc'⟩:=h.fam.block (k:=1) (by omega) (by omega)
  rw [e1] at e'
  obtain ⟨_,_,rfl⟩:=Value.slice.inj e'
  omega
 have C1:Hid (∀ wr j fol X',SimSt Z sb w K f V X n tr (rsOf (mapOf cs) rea) seen j fol X' wr→∀ i (hi:i < tr.length),wr.cell? ⟨g1,i,none⟩=some (.int .i64 (tr[i]:Nat))):=fun wr j fol X' hst i hi=>by
  have e1':V 1=.slice (some ⟨g1,0,none⟩) tr.length c1:=e1
  rw [(hst.sol.fam.cell (k:=1) (by omega) e1' (j:=i) (by rw [hst.only 1 (by decide),l1];exact hi)).1,hst.only 1 (by decide),hT.l1,nats_at _ _ hi]
 have d1:(0:Int) ≤ (ch.length:Int) - 1:=by omega
 have d2:(ch.length:Int) - 1 < (ch.length:Int):=by omega
 have d3:((ch.length:Int) - 1).toNat=ch.length - 1:=by omega
 have d4:(ch.length:Int) ≤ 50:=by omega
 have la0:(0:Int) ≤ (last:Int):=by omega
 have la1:(last:Int) ≤ (c1:Int):=by omega
 have la2:(last:Int) ≤ 50:=by omega
 rw [← hla]
 have HTI:=hide ht
 have HTR:=hide T
 have HLES:=hide hles
 obtain ⟨rs,hrs⟩:∃ rs,rs=rsOf (mapOf cs) rea:=⟨_,rfl⟩
 have HRS:=hide hrs
 rw [← hrs] at S0 TRM C1 HTR ⊢
 have QFO:Hid (∀ wr j fol X' W y,SimSt Z sb w K f V X n tr rs seen j fol X' wr→Below wr.heap.size wr W→y < 2 * n→(y ∈ tr∨op y ∈ tr)→Calls Tryz.prog 183 #[.pointer (some ⟨sb,0,none⟩),.int .i64 (y:Nat)] W fun e w'=>QuietRet W (forcedB rs fol (y / 2)) e w'):=fun wr j fol X' W y hst hb hy hyt=>by
  obtain ⟨a1,a2,a3⟩:=unhide TRM wr j fol X' hst
  have:=isForced_any (hst.sol.later hb) hn a2 hN a1 hst.fom hy (unhide HRE y hyt)
  rw [unhide HRS];exact this
 clear h h0 hT hF hL ht hr hc T hles hla l2 l1 e2 e1 s1 r1 hrs
 go_enter Tryz.func142,Tryz.ntmps142
 go_upto_region 0 with fail
 go_quiet ((go_at_call 99;exact Calls.quiet_of_same (unhide QD _)))
 obtain ⟨W,hW⟩:∃ W,W=w.drewN nq:=⟨_,rfl⟩
 have hbW:Below w.heap.size w W:=by rw [hW];exact below_drewN (Below.refl _ _) _
 have S1:Hid (SimSt Z sb w K f V X n tr rs seen 0 fol0 X W):=⟨(unhide S0).sol.later hbW,(unhide S0).fom,(unhide S0).smi,(unhide S0).only,(Chg.refl _).trans (Chg.of_below hbW)⟩
 rw [← hW]
 rw [← same_cell (show W.heap=w.heap by rw [hW];rfl)] at q1
 clear hW hbW S0 QD q2 r2
 go_wp2_with fail
 go_loopw [4,5,27] (fun _ _ s27 wr=>SimRel Z sb w K f V X n tr rs seen last s27 wr) (fun _ _ s27 _=>last - (intOf s27).toNat)
 case atStart=>exact ⟨0,fol0,X,rfl,Nat.zero_le _,S1⟩
 case round=>
  clear S1 q1
  obtain ⟨jj,fol,X',rfl,hjl,hst⟩:=hrel
  by_cases hlt:jj < last
  ·have hci:=unhide C1 wr jj fol X' (unhide hst) jj (by omega)
   obtain ⟨-,-,hLe⟩:=unhide TRM wr jj fol X' (unhide hst)
   obtain ⟨x,hx⟩:∃ x,x=tr[jj]:=⟨_,rfl⟩
   rw [← hx] at hci
   have hxl:x < 2 * n:=by rw [hx];exact (unhide HTI).lt _ (List.getElem_mem _)
   have hxm:x ∈ tr:=by rw [hx];exact List.getElem_mem _
   have QV:=hide (fun Y=>variableOf_any x Y (by omega))
   have QFX:=hide (fun W hb=>unhide QFO wr jj fol X' W x (unhide hst) hb hxl (.inl hxm))
   obtain ⟨v,hvd⟩:∃ v,v=x / 2:=⟨_,rfl⟩
   have hv:v < n:=by omega
   rw [← hvd] at QV QFX
   have HXV:tr[jj] / 2=v:=by rw [hvd,hx]
   obtain ⟨g10,c10,t10,e10,q10,r10,s10,-⟩:=(unhide hst).sol.elem (k:=10) (j:=v) (by omega) hLe.n10 hv
   rw [show cellOf 10=16 from rfl] at q10
   rw [hLe.t10 v hv] at s10
   obtain rfl:=Option.some.inj s10
   obtain ⟨g11,c11,t11,e11,q11,r11,s11,z11,zz11,l11,n11⟩:=(unhide hst).sol.elem (k:=11) (j:=v) (by omega) (unhide hst).fom.n11 hv
   rw [show cellOf 11=17 from rfl] at q11
   have NX:Hid (∀ Y b W',Below wr.heap.size wr Y→b=(seen v || forcedB rs fol v)→Below (Y.setCell ⟨g11,v,none⟩ (.bool b)).heap.size (Y.setCell ⟨g11,v,none⟩ (.bool b)) W'→∃ fol2 X2,SimSt Z sb w K f V X n tr rs seen (jj + 1) fol2 X2 W'):=fun Y b W' hY hb hW'=>⟨_,_,((unhide hst).step (unhide HTR) (unhide HTI) (by omega) hY e11 HXV hv zz11 hb).later hW'⟩
   have hs11:=s11
   have v0:(0:Int) ≤ (v:Int):=by omega
   have v1:(v:Int) < (n:Int):=by omega
   have i00:(0:Int) ≤ (jj:Int):=by omega
   have i11:(jj:Int) < (last:Int):=by omega
   have i22:(jj:Int) ≤ 50:=by omega
   clear e10 e11 hvd hx s11 hs11 hLe HXV
   cases hsn:seen v with
   | true=>
    rw [hsn] at r10 NX
    clear hst hsn
    go_upto_region 5 with (go_at_call 176;refine (unhide QV _).mono ?_;rintro e9 w9 ⟨rfl,rfl⟩;simp only [])
    first | go_region_with (fail) | fail
    all_goals
     obtain ⟨fol2,X2,hst2⟩:=unhide NX w9 true (w9.setCell ⟨g11,v,none⟩ (.bool true)).drew (Below.refl _ _) rfl (Below.refl _ _).drew
     have HS2:=hide hst2
     clear hst2
     go_wp2
     go_roundw
     case rel=>exact ⟨jj + 1,fol2,X2,by go_num,hlt,HS2⟩
     case measure=>simp [intOf];omega
   | false=>
    rw [hsn] at r10 NX
    clear hsn
    obtain ⟨b,hb⟩:∃ b,b=forcedB rs fol v:=⟨_,rfl⟩
    rw [← hb] at QFX NX
    clear hst hb
    go_upto_region 5 with (go_at_call 176;refine (unhide QV _).mono ?_;rintro e9 w9 ⟨rfl,rfl⟩;simp only [])
    have QFD:=hide (unhide QFX w9.drew (Below.refl _ _).drew)
    first | go_region_with (go_at_call 183;refine (unhide QFD).mono ?_;rintro eA wA ⟨rfl,dA,rfl⟩;simp only []) | fail
    all_goals
     obtain ⟨fol2,X2,hst2⟩:=unhide NX (w9.drewN (1 + dA)) b ((w9.drewN (1 + dA)).setCell ⟨g11,v,none⟩ (.bool b)) (below_drewN (Below.refl _ _) _) (by simp) (Below.refl _ _)
     have HS2:=hide hst2
     clear hst2
     go_wp2
     go_roundw
     case rel=>exact ⟨jj + 1,fol2,X2,by go_num,hlt,HS2⟩
     case measure=>simp [intOf];omega
  ·have ej:jj=last:=by omega
   subst ej
   obtain ⟨hTr,hX0,hLe⟩:=unhide TRM wr jj fol X' (unhide hst)
   have l7:(X' 7).length=les.length + 1:=by rw [hLe.l7];simp [nats_len]
   obtain ⟨g7,c7,t7,e7,q7,r7,s7,z7,zz7,lg7,n7⟩:=(unhide hst).sol.elem (k:=7) (j:=0) (by omega) l7 (by omega)
   rw [show cellOf 7=15 from rfl] at q7
   obtain ⟨post,hg7,hc7⟩:∃ post,wr.heap[g7]? = some (.cells ([Value.int .i64 pre] ++ nats les ++ post).toArray 3 (0,0))∧les.length + 1 ≤ c7:=by
    have how:=(unhide hst).sol.fam.own 7 (by omega)
    rw [e7,l7] at how
    rcases how.2 with ⟨e,_⟩ | ⟨g',cap',cur',e,_,hg',hn',_,hs',ht'⟩
    ·cases e
    ·cases e
     refine ⟨cur'.toList.drop (les.length + 1),?_,hn'⟩
     rw [hg']
     congr 2
     simp only [Nat.mul_one,hLe.l7] at ht'
     rw [show [Value.int .i64 pre] ++ nats les=(Value.int .i64 pre :: nats les) from rfl,← ht',List.take_append_drop]
   have CB:=sim_cbk (Z:=Z) (sb:=sb) (K:=K) (f:=f) (V:=V) (fol:=fol) e7 hn hX0 hN hTr (unhide hst).fom (fun y hy=>by
    have:=op_lt ((unhide HTI).lt _ (unhide HLES y hy));rwa [op_op] at this) (fun y hy=>unhide HRE y (.inr (unhide HLES y hy)))
   rw [← unhide HRS] at CB
   have SI:SimInv Z sb K f V X' les.length wr:=⟨X',(unhide hst).sol,fun _ _=>rfl,l7⟩
   obtain ⟨al,hal⟩:∃ al:Option Addr,al=if c7=1 then some ⟨g7,0,none⟩ else some ⟨g7,1,none⟩:=⟨_,rfl⟩
   have QDF:=hide (DfA.deleteFunc_any (g:=g7) (cap:=c7 - 1) (pre:=[Value.int .i64 pre]) (post:=post) (al:=al) (w:=wr) CB (fun h=>by rw [hal,if_neg (by omega)];rfl) SI (fun _=>hg7) (by omega) (by omega))
   have AFT:Hid (∀ wx l',l'.length=les.length→l'.take (DfA.flt (fun y=>forcedB rs fol (y / 2)) les).length=DfA.flt (fun y=>forcedB rs fol (y / 2)) les→Below 0 wr wx→(∀ k,k ≠ g7→wx.heap[k]? = wr.heap[k]?)→(les.length ≠ 0→DfA.Lie g7 [Value.int .i64 pre] post l' wx)→(les.length=0→wx.heap=wr.heap)→wx.cell? ⟨sb,15,none⟩=some (.slice (some ⟨g7,0,none⟩) (les.length + 1) c7)∧wx.frozen? ⟨sb,15,none⟩=false∧SimRet Z sb w K f V X n tr rs seen les pre jj (.returned (.tuple #[])) (wx.setCell ⟨sb,15,none⟩ (.slice (some ⟨g7,0,none⟩) (1 + (DfA.flt (fun y=>forcedB rs fol (y / 2)) les).length) c7))):=fun wx l' a1 a2 a3 a4 a5 a6=>by
    have hgx:wx.heap[g7]? = some (.cells ([Value.int .i64 pre] ++ nats l' ++ post).toArray 3 (0,0)):=by
     by_cases he:les.length=0
     ·rw [a6 he,hg7]
      have e1:les=[]:=List.eq_nil_of_length_eq_zero he
      have e2:l'=[]:=List.eq_nil_of_length_eq_zero (by rw [a1];exact he)
      rw [e1,e2]
     ·exact a5 he
    obtain ⟨s1,c1⟩:=(unhide hst).sol.lessonIn e7 hLe.l7 a1 hg7 hgx a4 a3
    have fl1:(DfA.flt (fun y=>forcedB rs fol (y / 2)) les).length ≤ les.length:=List.length_filter_le ..
    have q:=s1.hd (k:=7) (by omega)
    rw [show cellOf 7=15 from rfl,e7] at q
    have s2:=s1.cut (k:=7) (m:=1 + (DfA.flt (fun y=>forcedB rs fol (y / 2)) les).length) (by omega) e7 (by rw [upd_self];simp [nats_len];omega)
    rw [upd_self,upd_upd,show (Value.int .i64 pre :: nats l').take (1 + (DfA.flt (fun y=>forcedB rs fol (y / 2)) les).length)=Value.int .i64 pre :: nats (DfA.flt (fun y=>forcedB rs fol (y / 2)) les) by rw [Nat.add_comm,List.take_succ_cons,nats_take,a2]] at s2
    refine ⟨q.1,q.2,rfl,(((unhide hst).chg.trans c1).setCell s1.bsb _),fol,_,_,s2,⟨by rw [upd_other _ _ (by decide)];exact (unhide hst).fom.n11,by rw [upd_other _ _ (by decide)];exact (unhide hst).fom.t11⟩,(unhide hst).smi,⟨by rw [upd_other _ _ (by decide)];exact hLe.n10,by rw [upd_other _ _ (by decide)];exact hLe.t10,by rw [upd_self];rfl⟩,fun k h1 h2=>by rw [upd_other _ _ h1];exact (unhide hst).only k h2⟩
   have hmf:∀ (fn:Fn) (first cap:Array Value) (w:World),(Instr.makeFunc fn first cap).run Tryz.prog w=.ok (.func fn first cap) w:=fun _ _ _ _=>rfl
   have j1:¬ ((jj:Int) < (jj:Int)):=by omega
   have cc1:(1:Int) ≤ (c7:Int):=by omega
   have ll1:(1:Int) ≤ (les.length:Int) + 1:=by omega
   have ll2:(les.length:Int) ≤ 50:=by omega
   clear hst CB SI hTr hX0 hLe l7 e7 s7 hg7
   by_cases hc1:c7=1
   ·rw [if_pos hc1] at hal
    subst hal
    subst hc1
    rw [show (1 - 1:Nat)=0 from rfl] at QDF
    obtain rfl:les=[]:=List.eq_nil_of_length_eq_zero (by omega)
    rw [show ([]:List Nat).length=0 from rfl] at QDF
    go_upto_region 8 with (go_at_call 184;refine (unhide QDF).mono ?_;rintro e8 w8 ⟨l8,b1,b2,rfl,b3,b4,b5,b6⟩;obtain ⟨u1,u2,u3⟩:=unhide AFT w8 l8 b1 b2 b3 b4 b5 b6;have U3:=hide u3;clear u3 b1 b2 b3 b4 b5 b6;simp only [])
    have fl1:(DfA.flt (fun y=>forcedB rs fol (y / 2)) ([]:List Nat)).length ≤ 0:=by simp [DfA.flt]
    generalize (DfA.flt (fun y=>forcedB rs fol (y / 2)) ([]:List Nat)).length=fln at *
    have f1:(1:Int) + (fln:Int) ≤ (1:Int):=by omega
    have f2:(0:Int) ≤ (1:Int) + (fln:Int):=by omega
    have f3:((1:Int) + (fln:Int)).toNat=1 + fln:=by omega
    have f4:(fln:Int) ≤ 50:=by omega
    go_wp2
    go_end0
    exact unhide U3
   ·rw [if_neg hc1] at hal
    subst hal
    go_upto_region 8 with (go_at_call 184;refine (unhide QDF).mono ?_;rintro e8 w8 ⟨l8,b1,b2,rfl,b3,b4,b5,b6⟩;obtain ⟨u1,u2,u3⟩:=unhide AFT w8 l8 b1 b2 b3 b4 b5 b6;have U3:=hide u3;clear u3 b1 b2 b3 b4 b5 b6;simp only [])
    have fl1:(DfA.flt (fun y=>forcedB rs fol (y / 2)) les).length ≤ les.length:=List.length_filter_le ..
    generalize (DfA.flt (fun y=>forcedB rs fol (y / 2)) les).length=fln at *
    have f1:(1:Int) + (fln:Int) ≤ (c7:Int):=by omega
    have f2:(0:Int) ≤ (1:Int) + (fln:Int):=by omega
    have f3:((1:Int) + (fln:Int)).toNat=1 + fln:=by omega
    have f4:(fln:Int) ≤ 50:=by omega
    go_wp2
    go_end0
    exact unhide U3
end So
end Go.Proofs.YtceahffmenbibaaGreatDoor
