/- Sspr Shw2 Shw3 Shw4. -/
import Derived.Test.YtceahffmenbibaaGreatDoorG07
import Derived.Test.YtceahffmenbibaaGreatDoorG05
set_option linter.unusedVariables false
set_option linter.unusedSimpArgs false
set_option maxHeartbeats 4000000
set_option maxRecDepth 100000
namespace Go.Proofs.YtceahffmenbibaaGreatDoor
namespace So
section
open Go Go.RowKit Go.Deep Rd
variable {Z:Nat->Prop} {sb K:Nat} {w w':World} {f V:Nat->Value} {X:Nat->List Value} {n:Nat} {wl:Nat->List Nat} {tr ch:List Nat} {lev:Nat->Nat} {rea:Nat->Int}
def iA (w:World) (a:Addr):Int:=match w.cell? a with | some v=>intOf v | none=>0
structure oK (Z:Nat->Prop) (sb:Nat) (w:World) (K:Nat) (f:Nat->Value) (X:Nat->List Value) (n:Nat) (ch:List Nat) (cs:List Rec) (iP:List Nat) (sp:Nat) (cs':List Rec) (tr:List Nat) (lev:Nat->Nat) (rea:Nat->Int) (wl:Nat->List Nat) (f' V':Nat->Value) (X':Nat->List Value) (wr:World):Prop where
 pi:PI n (mapOf cs') tr ch lev rea wl sp
 aG:aQ Z sb wr K f' V' X'
 x0:X' 0=ints (enc cs')
 dx:iW n X' tr ch lev rea
 dL:jm n V' X' wl
 perm:eD cs cs'
 only:∀ k,6 <= k->k ≠ 9->k < 16->X' k=X k
 ff:∀ j,j ≠ 6->j ≠ 7->f' j=f j
 f7:f' 7=.int .i64 (sp:Nat)
 ze:sp <= tr.length
 late:∀ q ∈ ch,q <= sp
 ext:∃ e,tr=iP ++ e
 bD:aC Z w wr
def Ic (Z:Nat->Prop) (sb:Nat) (w:World) (K:Nat) (f:Nat->Value) (X:Nat->List Value) (n:Nat) (ch:List Nat) (cs:List Rec) (iP:List Nat) (wr:World):Prop:=
 ∃ sp cs' tr lev rea wl f' V' X',Hid (oK Z sb w K f X n ch cs iP sp cs' tr lev rea wl f' V' X' wr)
structure dF (Z:Nat->Prop) (sb:Nat) (w:World) (K:Nat) (f:Nat->Value) (X:Nat->List Value) (n:Nat) (ch:List Nat) (cs:List Rec) (iP:List Nat) (res:Int) (P sp:Nat) (cs':List Rec) (tr:List Nat) (lev:Nat->Nat) (rea:Nat->Int) (wl:Nat->List Nat) (f' V':Nat->Value) (X':Nat->List Value) (wr:World):Prop where
 pi:PI n (mapOf cs') tr ch lev rea wl P
 aG:aQ Z sb wr K f' V' X'
 x0:X' 0=ints (enc cs')
 dx:iW n X' tr ch lev rea
 dL:jm n V' X' wl
 perm:eD cs cs'
 only:∀ k,6 <= k->k ≠ 9->k < 16->X' k=X k
 ff:∀ j,j ≠ 6->j ≠ 7->f' j=f j
 f7:f' 7=.int .i64 (sp:Nat)
 ze:sp <= tr.length
 late:∀ q ∈ ch,q <= P
 ext:∃ e,tr=iP ++ e
 bD:aC Z w wr
 res:(res=-1/\P=tr.length/\sp=tr.length)\/∃ k,∃ hk:k < cs'.length,res=(aj cs' k:Nat)/\(cs'[k]).kind ≠ 2/\(∀ y ∈ (cs'[k]).lits,op y ∈ tr)/\∃ y ∈ (cs'[k]).lits,lev (y / 2)=ch.length
def oM (Z:Nat->Prop) (sb:Nat) (w:World) (K:Nat) (f:Nat->Value) (X:Nat->List Value) (n:Nat) (ch:List Nat) (cs:List Rec) (iP:List Nat) (e:Ending) (w':World):Prop:=
 ∃ res P sp cs' tr lev rea wl f' V' X',e=.returned (.int .i64 res)/\dF Z sb w K f X n ch cs iP res P sp cs' tr lev rea wl f' V' X' w'
variable {cs cs':List Rec} {iP:List Nat} {sp:Nat} {f' V':Nat->Value} {X':Nat->List Value} {wr wx:World}
theorem bG {w w':World} (h:w'.heap=w.heap) (a:Addr):w'.cell? a=w.cell? a:=World.cell?_of_block (by rw [h])
theorem kG {w w':World} (h:w'.heap=w.heap) (a:Addr):w'.frozen? a=w.frozen? a:=World.frozen?_of_block (by rw [h])
theorem oK.later (h:oK Z sb w K f X n ch cs iP sp cs' tr lev rea wl f' V' X' wr) (hb:Below wr.heap.size wr wx):oK Z sb w K f X n ch cs iP sp cs' tr lev rea wl f' V' X' wx:=
 { h with aG:=h.aG.later hb,bD:=h.bD.trans (aC.of_below hb) }
theorem oM.later {e:Ending} (h:oM Z sb w K f X n ch cs iP e wr) (hb:Below wr.heap.size wr wx):oM Z sb w K f X n ch cs iP e wx:=by
 obtain ⟨res,P,sp,cs',tr,lev,rea,wl,f',V',X',h1,h2⟩:=h;exact ⟨res,P,sp,cs',tr,lev,rea,wl,f',V',X',h1,{ h2 with aG:=h2.aG.later hb,bD:=h2.bD.trans (aC.of_below hb) }⟩
theorem oK.done (h:oK Z sb w K f X n ch cs iP sp cs' tr lev rea wl f' V' X' wr) (he:sp=tr.length):oM Z sb w K f X n ch cs iP (.returned (.int .i64 (-1))) wr:=
 ⟨-1,sp,sp,cs',tr,lev,rea,wl,f',V',X',rfl,{ h with res:=.inl ⟨rfl,he,he⟩ }⟩
theorem oK.next (h:oK Z sb w K f X n ch cs iP sp cs' tr lev rea wl f' V' X' wr) (hx:sp < tr.length) {lit:Nat} (hl:tr[sp]? = some (op lit)) {e:Ending} (hr:ni Z sb (wr.setCell ⟨sb,7,none⟩ (.int .i64 ((sp + 1:Nat):Int))) K (upd f' 7 (.int .i64 ((sp + 1:Nat):Int))) X' n lit sp ch cs' tr e wx):
  ∃ res,e=.returned (.int .i64 res)/\((res=-1/\∃ cs2 Q8 Kw JW pR f2 V2 X2,oK Z sb w K f X n ch cs iP (sp + 1) cs2 Q8 Kw JW pR f2 V2 X2 wx)\/(res ≠ -1/\oM Z sb w K f X n ch cs iP (.returned (.int .i64 res)) wx)):=by
 obtain ⟨res,cs2,Q8,Kw,JW,pR,f2,V2,X2,rfl,g⟩:=hr;obtain ⟨ex,hex⟩:=g.ext;obtain ⟨e0,he0⟩:=h.ext;have hlen:sp < Q8.length:=by rw [hex];simp;omega
 have hc:aC Z w wx:=(h.bD.setCell h.aG.fZ _).trans g.bD;have Rb:∀ j,j ≠ 6->j ≠ 7->f2 j=f j:=fun j h6 h7=>(g.ff j h6).trans ((aa _ _ h7).trans (h.ff j h6 h7))
 have Zt:f2 7=.int .i64 ((sp + 1:Nat):Int):=(g.ff 7 (by decide)).trans (ae ..)
 have hon:∀ k,6 <= k->k ≠ 9->k < 16->X2 k=X k:=fun k h1 h2 h3=>(g.only k h1 h2 h3).trans (h.only k h1 h2 h3)
 have hxt:∃ e,Q8=iP ++ e:=⟨e0 ++ ex,by rw [hex,he0,List.append_assoc]⟩
 refine ⟨res,rfl,?_⟩
 rcases g.res with ⟨hr1,hs⟩ | ⟨hs,k,hk,hr1,hkd,hfl,hm⟩
 ·refine .inl ⟨hr1,cs2,Q8,Kw,JW,pR,f2,V2,X2,{
   pi:=⟨g.aI,g.lK,g.jc,g.kT,hs⟩
   aG:=g.aG
   x0:=g.x0
   dx:=g.dx
   dL:=g.dL
   perm:=h.perm.trans g.perm
   only:=hon
   ff:=Rb
   f7:=Zt
   ze:=hlen
   late:=fun q hq=>Nat.le_succ_of_le (h.late q hq)
   ext:=hxt
   bD:=hc }⟩
 ·refine .inr ⟨by omega,res,sp,sp + 1,cs2,Q8,Kw,JW,pR,f2,V2,X2,rfl,{
   pi:=⟨g.aI,g.lK,g.jc,g.kT,hs⟩
   aG:=g.aG
   x0:=g.x0
   dx:=g.dx
   dL:=g.dL
   perm:=h.perm.trans g.perm
   only:=hon
   ff:=Rb
   f7:=Zt
   ze:=hlen
   late:=h.late
   ext:=hxt
   bD:=hc
   res:=.inr ⟨k,hk,hr1,hkd,hfl,lit,hm,?_⟩ }⟩
  have e1:Q8[sp]'hlen=op lit:=by
   have:Q8[sp]? = some (op lit):=by rw [hex,List.getElem?_append_left hx];exact hl
   exact (List.getElem?_eq_some_iff.1 this).2
  have:=g.aI.lev sp hlen;rw [e1,dC] at this;rw [this,rO h.late]
theorem Gf (h:oK Z sb w K f X n ch cs tr sp cs tr lev rea wl f V X w) (hK2:K=16 + 2 * n) (hn:n <= 50) (hN:(enc cs).length <= 1099511627776):
  Calls Tryz.prog 98 #[.pointer (some ⟨sb,0,none⟩)] w fun e w'=>oM Z sb w K f X n ch cs tr e w':=by
 subst hK2;have S0:=hide h;clear h;go_enter Tryz.func98,Tryz.ntmps98
 go_wp2_with fail
 go_loopw [2,3,4] (fun _ _ _ wr=>Ic Z sb w (16 + 2 * n) f X n ch cs tr wr) (fun _ _ _ wr=>n - (iA wr ⟨sb,7,none⟩).toNat)
 case atStart=>exact ⟨sp,cs,tr,lev,rea,wl,f,V,X,S0⟩
 case round=>
  clear S0;obtain ⟨sp',cs',lq,nE,mD,iO,f',V',X',hst⟩:=hrel;have hK:=hst.out.aG.hK;obtain ⟨a1,c1,e1⟩:=hst.out.aG.bC.shape (k:=1) (by omega)
  have q1:=(hst.out.aG.hd (k:=1) (by omega)).1
  have l1:(X' 1).length=lq.length:=by rw [hst.out.dx.l1,ag]
  rw [show cellOf 1=6 from rfl,e1,l1] at q1
  obtain ⟨q7,z7⟩:=hst.out.aG.head 7 (by omega)
  rw [hst.out.f7] at q7;have hspl:=hst.out.ze;have hln:=hst.out.pi.aI.len;clear e1;by_cases hlt:sp' < lq.length
  ·have s1:(sp':Int) < (lq.length:Int):=by omega
   have s0:(0:Int) <= (sp':Int):=by omega
   obtain ⟨g1,c1',t1,e1,q1',r1,s1',-⟩:=hst.out.aG.elem (k:=1) (j:=sp') (by omega) l1 hlt
   rw [show cellOf 1=6 from rfl] at q1'
   have ea:a1=some ⟨g1,0,none⟩/\c1=c1':=by
    rw [q1'] at q1;obtain ⟨x1,_,x3⟩:=Value.slice.inj (Option.some.inj q1);exact ⟨x1.symm,x3.symm⟩
   obtain ⟨rfl,rfl⟩:=ea;rw [hst.out.dx.l1,eH _ _ hlt] at s1';obtain rfl:=Option.some.inj s1';obtain ⟨x,hx⟩:∃ x,x=lq[sp']:=⟨_,rfl⟩;rw [<- hx] at r1;have HX:=hide hx;have hxl:x < 2 * n:=by rw [hx];exact hst.out.pi.aI.lt _ (List.getElem_mem _)
   have QOP:=hide (fun Y=>iw x Y (by omega))
   have hop:Hid (lq[sp']? = some (op (op x))):=by unfold Hid;rw [gQ,hx];exact List.getElem?_eq_getElem hlt
   have sw:(sp':Int) + 1 < 9223372036854775807:=by omega
   clear hx e1 q1';go_upto_region 1 with fail
   go_quiet (fail)
   obtain ⟨W1,hW1⟩:∃ W1,W1=wr.drewN nq:=⟨_,rfl⟩;have yG:W1.heap=wr.heap:=by rw [hW1];rfl
   have b1:Below wr.heap.size wr W1:=by rw [hW1];exact below_drewN (Below.refl _ _) _
   rw [<- hW1];have T1:=hide (hst.out.later b1);rw [<- bG yG] at q1 q7 r1;rw [<- kG yG] at z7;have M1:Hid (iA wr ⟨sb,7,none⟩=iA W1 ⟨sb,7,none⟩):=by unfold Hid iA;rw [bG yG]
   clear hW1 yG b1 hst;go_upto_region 2 with fail
   go_quiet (fail)
   rename_i nq2;obtain ⟨W2,hW2⟩:∃ W2,W2=W1.drewN nq:=⟨_,rfl⟩;have WT:W2.heap=W1.heap:=by rw [hW2];rfl
   have b2:Below W1.heap.size W1 W2:=by rw [hW2];exact below_drewN (Below.refl _ _) _
   rw [<- hW2];have T2:=hide (T1.out.later b2);rw [<- bG WT] at q1 q7 r1;rw [<- kG WT] at z7;have M2:Hid (iA wr ⟨sb,7,none⟩=sp'):=by unfold Hid;rw [M1.out];unfold iA;rw [<- bG WT,q7];rfl
   clear hW2 WT b2 T1 M1;have S2:=T2.out.aG.scalar 7 (.int .i64 ((sp' + 1:Nat):Int)) (by decide +kernel)
   have QF:=hide (Ev (w:=W2.setCell ⟨sb,7,none⟩ (.int .i64 ((sp' + 1:Nat):Int))) (lit:=op x) (p:=sp') S2 rfl T2.out.x0 hn (by rw [T2.out.perm.len];exact hN) T2.out.dx T2.out.dL T2.out.pi.aI T2.out.pi.lK T2.out.pi.jc T2.out.pi.kT T2.out.pi.uo hop.out T2.out.late)
   have NX:=hide (fun (e:Ending) (wx:World)=>T2.out.next (wx:=wx) (e:=e) hlt hop.out)
   rw [show ((sp' + 1:Nat):Int)=(sp':Int) + 1 from rfl] at QF NX
   clear S2 T2;generalize op x=ox at *
   go_upto_region 5 with (first
    |(go_at_call 139;refine (QOP.out _).mono ?_;rintro e7 w7 ⟨rfl,rfl⟩;simp only [])
    |(go_at_call 138;refine QF.out.mono ?_;intro e8 w8 hret;obtain ⟨res,rfl,hres⟩:=NX.out _ _ hret;have LQ:=hide hres;clear hres hret;simp only []))
   rcases LQ.out with ⟨rfl,cs2,Q8,Kw,JW,pR,f2,V2,X2,st2⟩ | ⟨hne,hrt⟩
   ·have ST:=hide st2;have M3:Hid (iA w8 ⟨sb,7,none⟩=((sp' + 1:Nat):Int)):=by
     unfold Hid iA;rw [(st2.aG.head 7 (by omega)).1,st2.f7];rfl
    clear LQ st2 NX QF;go_wp2;go_roundw
    case rel=>exact ⟨sp' + 1,cs2,Q8,Kw,JW,pR,f2,V2,X2,ST⟩
    case measure=>rw [M2.out,M3.out];omega
   ·have RT:=hide hrt;have hne2:(res != -1)=true:=by simpa using hne
    clear LQ hrt NX QF hne;go_wp2;go_ret;exact RT.out
  ·have SD:=hide (hst.out.done (by omega))
   have s1:¬ ((sp':Int) < (lq.length:Int)):=by omega
   go_upto_region 1 with fail
   go_quiet (fail)
   go_wp2;go_ret
   exact SD.out.later (below_drewN (Below.refl _ _) _)
end
section
open Go Go.RowKit Go.Deep Rd
variable {Z:Nat->Prop} {ob hb:Nat} {w w':World} {wt:Int} {V:Nat->Value} {X:Nat->List Value} {n g:Nat} {items:List Nat} {pl bz:Nat->Int}
structure iM (Z:Nat->Prop) (ob hb:Nat) (w:World) (wt:Int) (V:Nat->Value) (n g item:Nat) (items:List Nat) (pl bz:Nat->Int) (hole:Nat) (X':Nat->List Value) (items':List Nat) (pK:Nat->Int) (wr:World):Prop where
 ord:Ord Z ob hb wr wt V X'
 Gu:kR n g X' items' pK bz
 hp:Qy n item hole items' pK
 len:items'.length=items.length
 wait:∀ v,v ≠ item->(pK v=-1↔pl v=-1)
 bD:aC Z w wr
theorem iM.notg {item hole:Nat} {X':Nat->List Value} {items':List Nat} {pK:Nat->Int} {wr:World} (h:iM Z ob hb w wt V n g item items pl bz hole X' items' pK wr) (hg:pl g=-1) (hig:item ≠ g) {k:Nat} (hk:k < items'.length) (hne:k ≠ hole):items'[k] ≠ g:=fun e=>by
 have h1:=(h.hp.pl k hk hne).2;have h2:=(h.wait g (fun e=>hig e.symm)).2 hg
 rw [e,h2] at h1;omega
theorem iM.move {item hole:Nat} {X':Nat->List Value} {items':List Nat} {pK:Nat->Int} {wr wx:World} (h:iM Z ob hb w wt V n g item items pl bz hole X' items' pK wr) (hg:pl g=-1) (hig:item ≠ g) {k:Nat} (hk:k < items'.length) (hne:k ≠ hole)
  (ho:Ord Z ob hb wx wt V (upd (upd X' 2 ((X' 2).set hole (.int .i64 (items'[k]:Nat)))) 0 ((X' 0).set items'[k] (.int .i64 (hole:Nat))))) (hc:aC Z wr wx):
  iM Z ob hb w wt V n g item items pl bz k (upd (upd X' 2 ((X' 2).set hole (.int .i64 (items'[k]:Nat)))) 0 ((X' 0).set items'[k] (.int .i64 (hole:Nat)))) (items'.set hole items'[k]) (bB pK items'[k] (hole:Nat)) wx where
 ord:=ho
 Gu:=h.Gu.put (h.hp.lt _ (List.getElem_mem hk)) (h.notg hg hig hk hne)
 hp:=h.hp.move hk hne
 len:=by rw [List.length_set];exact h.len
 wait:=fun v hv=>by
  by_cases e:v=items'[k]
  ·subst e;rw [aD];have h1:=(h.hp.pl k hk hne).2;have h2:=h.wait _ hv;rw [<- h2,h1];constructor <;> intro h3 <;> omega
  ·rw [ah _ _ e];exact h.wait v hv
 bD:=h.bD.trans hc
theorem iM.later {item hole:Nat} {X':Nat->List Value} {items':List Nat} {pK:Nat->Int} {wr wx:World} (h:iM Z ob hb w wt V n g item items pl bz hole X' items' pK wr) (hb':Below wr.heap.size wr wx):iM Z ob hb w wt V n g item items pl bz hole X' items' pK wx:=
 { h with ord:=h.ord.later hb',bD:=h.bD.trans (aC.of_below hb') }
structure oQ (Z:Nat->Prop) (ob hb:Nat) (w:World) (wt:Int) (V:Nat->Value) (n g:Nat) (len:Nat) (gone:Nat->Prop) (bz:Nat->Int) (w':World):Prop where
 ex:∃ X' items' pK,Ord Z ob hb w' wt V X'/\kR n g X' items' pK bz/\BM n items' pK/\items'.length=len/\(∀ v,pK v=-1↔gone v)/\aC Z w w'
theorem iM.close {item hole:Nat} {X':Nat->List Value} {items':List Nat} {pK:Nat->Int} {wr wx:World} (h:iM Z ob hb w wt V n g item items pl bz hole X' items' pK wr) (hig:item ≠ g)
  (ho:Ord Z ob hb wx wt V (upd (upd X' 2 ((X' 2).set hole (.int .i64 (item:Nat)))) 0 ((X' 0).set item (.int .i64 (hole:Nat))))) (hc:aC Z wr wx):oQ Z ob hb w wt V n g items.length (fun v=>pl v=-1/\v ≠ item) bz wx:=
 ⟨_,_,_,ho,h.Gu.put h.hp.hit hig,h.hp.close,by rw [List.length_set];exact h.len,fun v=>by
  by_cases e:v=item
  ·subst e;rw [aD];constructor
   ·intro h3;omega
   ·intro h3;exact absurd rfl h3.2
  ·rw [ah _ _ e,h.wait v e];exact ⟨fun h3=>⟨h3,e⟩,fun h3=>h3.1⟩,h.bD.trans hc⟩
def Jl (Z:Nat->Prop) (ob hb:Nat) (w:World) (wt:Int) (V:Nat->Value) (n g item:Nat) (items:List Nat) (pl bz:Nat->Int) (s:Value) (wr:World):Prop:=
 ∃ hole X' items' pK,s=.int .i64 ((hole:Nat):Int)/\Hid (iM Z ob hb w wt V n g item items pl bz hole X' items' pK wr)
theorem Ord.item (h:Ord Z ob hb w wt V X) (hM:kR n g X items pl bz) {k:Nat} (hk:k < items.length):∃ g2 c2,w.cell? ⟨hb,0,none⟩=some (.slice (some ⟨g2,0,none⟩) items.length c2)/\w.cell? ⟨g2,k,none⟩=some (.int .i64 (items[k]:Nat)):=by
 have l2:(X 2).length=items.length:=by rw [hM.t2,ag]
 obtain ⟨g2,c2,t,e,r,s,_⟩:=h.elem (k:=2) (j:=k) (by omega) l2 hk
 rw [hM.t2,eH _ _ hk] at s;obtain rfl:=Option.some.inj s;have q:=h.cells.2.2.2.2.1;rw [e] at q;exact ⟨g2,c2,q,r⟩
theorem CJ (h:Ord Z ob hb w wt V X) (hM:kR n g X items pl bz) {item hole:Nat} (hp:Qy n item hole items pl) (hi:items[hole]? = some item) (hg:pl g=-1) (hig:item ≠ g) (hlen:items.length <= 1000):
  Calls Tryz.prog 173 #[.pointer (some ⟨hb,0,none⟩),.int .i64 (hole:Nat)] w fun e w'=>e=.returned (.tuple #[])/\oQ Z ob hb w wt V n g items.length (fun v=>pl v=-1/\v ≠ item) bz w':=by
 obtain ⟨hh,ei⟩:=List.getElem?_eq_some_iff.1 hi;obtain ⟨g2,c2,q0,r0⟩:=h.item hM hh;rw [ei] at r0;have S0:Hid (iM Z ob hb w wt V n g item items pl bz hole X items pl w):=⟨h,hM,hp,rfl,fun _ _=>Iff.rfl,aC.refl _⟩
 have h0:(0:Int) <= (hole:Int):=by omega
 have h1:(hole:Int) < (items.length:Int):=by omega
 clear h hM hp hi ei;go_enter Tryz.func173,Tryz.ntmps173
 go_wp2_with fail
 go_loopw [1,5] (fun s1 _ wr=>Jl Z ob hb w wt V n g item items pl bz s1 wr) (fun s1 _ _=>(intOf s1).toNat)
 case atStart=>exact ⟨hole,X,items,pl,rfl,S0⟩
 case round=>
  clear S0 q0 r0;obtain ⟨k,X',items',pK,rfl,hst⟩:=hrel;have hkl:k < items'.length:=hst.out.hp.hho;have hlen':=hst.out.len;have QP:=hide (o6 hst.out.ord hst.out.Gu (v:=item) (p:=k) hst.out.hp.hit hkl);have CL:=hide (fun wx ho hc=>hst.out.close (wx:=wx) hig ho hc)
  by_cases hk0:k=0
  ·subst hk0;go_wp2_with (go_at_call 203;refine QP.out.mono ?_;rintro e7 w7 ⟨rfl,wU,pM⟩;have F7:=hide (CL.out w7 wU pM);clear wU pM;simp only [])
   go_end0
   exact ⟨rfl,F7.out⟩
  ·obtain ⟨m,hm⟩:∃ m,m=(k - 1) / 2:=⟨_,rfl⟩;have hmk:m < items'.length:=by omega
   have hmne:m ≠ k:=by omega
   have hd:((k:Int) - 1) / 2=(m:Int):=by omega
   have hd2:Int.tdiv ((k:Int) - 1) 2=(m:Int):=by rw [Int.tdiv_eq_ediv_of_nonneg (by omega)];exact hd
   obtain ⟨g2',c2',qh,rm⟩:=hst.out.ord.item hst.out.Gu hmk;have qa:=hst.out.ord.cells.2.2.2.2.2.1;obtain ⟨x,hx⟩:∃ x,x=items'[m]:=⟨_,rfl⟩;have Wy:x < n:=by rw [hx];exact hst.out.hp.lt _ (List.getElem_mem _)
   have QB:Hid (∀ j,Calls Tryz.prog 126 #[.pointer (some ⟨ob,0,none⟩),.int .i64 (item:Nat),.int .i64 (x:Nat)] (wr.drewN j) fun e w'=>e=.returned (.bool (decide (bz x < bz item)))/\∃ k,w'=(wr.drewN j).drewN k):=fun j=>jw (hst.out.ord.later (below_drewN (Below.refl _ _) _)) hst.out.Gu hst.out.hp.hit Wy
   rw [<- hx] at rm;have HX:=hide hx;have m0:(0:Int) <= (m:Int):=by omega
   have m1:(m:Int) < (items'.length:Int):=by omega
   have k1:(0:Int) < (k:Int):=by omega
   have k2:(0:Int) <= (k:Int) - 1:=by omega
   have k3:(k:Int) < 1000:=by omega
   have mk:m < k:=by omega
   clear hx hm hlen' hd;unfold ahead at qa;generalize decide (bz x < bz item)=bb at QB;go_upto_region 3 with fail
   go_quiet ((go_at_call 126;exact Calls.quiet_of (QB.out _)))
   obtain ⟨W1,hW1⟩:∃ W1,W1=wr.drewN nq:=⟨_,rfl⟩;have b1:Below wr.heap.size wr W1:=by rw [hW1];exact below_drewN (Below.refl _ _) _
   rw [<- hW1];have T1:=hide (hst.out.later b1);clear hW1 b1 hst QP CL QB qh rm qa
   cases bb with
   | false=>
    have QP:=hide (o6 T1.out.ord T1.out.Gu (v:=item) (p:=k) T1.out.hp.hit hkl);have CL:=hide (fun wx ho hc=>T1.out.close (wx:=wx) hig ho hc)
    clear T1;go_wp2_with (go_at_call 203;refine QP.out.mono ?_;rintro e7 w7 ⟨rfl,wU,pM⟩;have F7:=hide (CL.out w7 wU pM);clear wU pM;simp only [])
    go_end0
    exact ⟨rfl,F7.out⟩
   | true=>
    have QP:=hide (o6 T1.out.ord T1.out.Gu (v:=x) (p:=k) Wy hkl);have MV:=hide (fun wx ho hc=>T1.out.move (wx:=wx) hg hig hmk hmne ho hc)
    rw [<- HX.out] at MV;obtain ⟨g3,c3,qh,rm⟩:=T1.out.ord.item T1.out.Gu hmk;rw [<- HX.out] at rm;clear T1;go_wp2_with (go_at_call 203;refine QP.out.mono ?_;rintro e7 w7 ⟨rfl,wU,pM⟩;have F7:=hide (MV.out w7 wU pM);clear wU pM;simp only [])
    go_roundw
    case rel=>exact ⟨m,_,_,_,rfl,F7⟩
    case measure=>simp [intOf];omega
end
section
open Go Go.RowKit Go.Deep Rd
variable {Z:Nat->Prop} {ob hb:Nat} {w w':World} {wt:Int} {V:Nat->Value} {X:Nat->List Value} {n g:Nat} {items:List Nat} {pl bz:Nat->Int}
structure eU (Z:Nat->Prop) (ob hb n:Nat) (w:World) (gone:Nat->Prop):Prop where
 ex:∃ wt V X items pl bz,Ord Z ob hb w wt V X/\kR n n X items pl bz/\BM n items pl/\∀ v,pl v=-1↔gone v
 last:gone n
theorem Np (h:Ord Z ob hb w wt V X) (hM:kR n n X items pl bz) (hp:BM n items pl) {v:Nat} (hv:v < n) (hpl:pl v=-1) (hpn:pl n=-1) (hn:n <= 50):
  Calls Tryz.prog 128 #[.pointer (some ⟨hb,0,none⟩),.int .i64 (v:Nat)] w fun e w'=>e=.returned (.tuple #[])/\aC Z w w'/\eU Z ob hb n w' (fun x=>pl x=-1/\x ≠ v):=by
 obtain ⟨i0,hi,hz0,hz1,hz2⟩:=info_parts Tryz.cu;have ll:=hp.len;have HS:=hide h;obtain ⟨a2,c2,e2⟩:=h.bC.shape (k:=2) (by omega)
 have l2:(X 2).length=items.length:=by rw [hM.t2,ag]
 have q2:=h.cells.2.2.2.2.1;rw [e2,l2] at q2;have O2:Hid (w.ownsRow 0 3 1 (.slice a2 items.length c2) items.length (au items)):=by
  have:=h.bC.own 2 (by omega)
  rw [e2,hM.t2,ag] at this;exact this
 have E2:Hid (V 2=.slice a2 items.length c2):=by unfold Hid;rw [e2,l2]
 have HX2:Hid (X 2=au items):=hM.t2;have hlt:=h.hrow.lt;have ns:¬ (hb=w.heap.size):=by omega
 have HP:=hide (hp.push hv hpl);have HM:=hide hM;clear h hM hp e2 l2;go_enter Tryz.func128,Tryz.ntmps128
 go_wp2_with (at_builtin;refine aU _ rfl _ _ 43 rfl 0 3 i0 (.int .i64 0) 1 8 Tryz.underlying43 hi hz0 hz1 hz2 rfl (by decide) _ _ _ rfl (O2.out.alloc (Obj.cells #[.int .i64 (v:Int)] 3)) (.slice (some ⟨w.heap.size,0,none⟩) 1 1) 1 [.int .i64 (v:Int)] rfl (.inr ⟨⟨w.heap.size,0,none⟩,1,rfl,World.news_of_block (cs:=#[.int .i64 (v:Int)]) (t:=3) (fr:=(0,0)) (heap_alloc_new w _)⟩) rfl (by simp [Value.oneCell']) (by unfold maxLen;omega) (by omega) (Nat.zero_le _) ?_)
 intro v6 w6 A6;have A7:aB (w.alloc (Obj.cells #[.int .i64 (v:Int)] 3)) 0 3 1 (V 2) (X 2).length (X 2) 1 [.int .i64 (v:Int)] v6 w6:=by rw [E2.out,HX2.out,ag];exact A6
 obtain ⟨s6,c6,k6,z6⟩:=HS.out.push (m:=1) (news:=[.int .i64 (v:Int)]) rfl A7;rw [E2.out] at k6;obtain ⟨qL,qK,hv6⟩:=aH A6.own;subst hv6;have S6:=hide s6;have C6:=hide c6;clear A6 A7 s6 c6 q2 O2;go_upto_region 1 with fail
 generalize hW1:w6.setCell ⟨hb,0,none⟩ (.slice qL (items.length + 1) qK)=W1 at S6 C6 ⊢;clear hW1 k6 z6;have XE:Hid (upd X 2 (X 2 ++ [.int .i64 (v:Int)]) 2=au (items ++ [v])):=by unfold Hid;rw [ae,HX2.out,fQ];rfl
 have M6:kR n n (upd X 2 (X 2 ++ [.int .i64 (v:Int)])) (items ++ [v]) pl bz:=⟨by rw [aa _ _ (by decide)];exact HM.out.n0,by rw [aa _ _ (by decide)];exact HM.out.t0,by rw [aa _ _ (by decide)];exact HM.out.i0,by rw [aa _ _ (by decide)];exact HM.out.n1,by rw [aa _ _ (by decide)];exact HM.out.t1,XE.out⟩
 have q2:=S6.out.cells.2.2.2.2.1;rw [ae] at q2;have QR:=hide (CJ S6.out M6 HP.out (by simp) hpn (by omega) (by simp;omega))
 clear M6 XE;generalize upd X 2 (X 2 ++ [.int .i64 (v:Int)])=X6 at *
 generalize upd V 2 (.slice qL (items.length + 1) qK)=V6 at *
 go_wp2_with (go_at_call 173;refine QR.out.mono ?_;rintro e7 w7 ⟨rfl,U5⟩;have P7:=hide U5;clear U5;simp only [])
 go_end0
 obtain ⟨X',items',pK,r1,r2,r3,r4,r5,r6⟩:=P7.out.ex;exact ⟨rfl,C6.out.trans r6,⟨_,_,X',items',pK,bz,r1,r2,r3,r5⟩,hpn,by omega⟩
def Jp (w:World) (p len:Nat) (e:Ending) (w':World):Prop:=∃ (b:Nat) (ok:Bool),e=.returned (.tuple #[.int .i64 ((b:Nat):Int),.bool ok])/\(ok=true->p < b/\b < len)/\∃ k,w'=w.drewN k
theorem xe (h:Ord Z ob hb w wt V X) (hM:kR n g X items pl bz) (hlt:∀ v ∈ items,v < n) {p:Nat} (hp:p < items.length) (hlen:items.length <= 1000):
  Calls Tryz.prog 244 #[.pointer (some ⟨hb,0,none⟩),.int .i64 (p:Nat)] w fun e w'=>Jp w p items.length e w':=by
 obtain ⟨g2,c2,q0,r0⟩:=h.item hM hp;have qa:=h.cells.2.2.2.2.2.1;unfold ahead at qa;have p0:(0:Int) <= (p:Int):=by omega
 have p1:(p:Int) < 1000:=by omega
 have F:Hid (∀ (b:Nat) (ok:Bool) k,(ok=true->p < b/\b < items.length)->Jp w p items.length (.returned (.tuple #[.int .i64 ((b:Nat):Int),.bool ok])) (w.drewN k)):=fun b ok k hh=>⟨b,ok,rfl,hh,k,rfl⟩
 by_cases hr:2 * p + 2 < items.length
 ·obtain ⟨g2',c2',q2',r2⟩:=h.item hM hr;obtain ⟨g2'',c2'',Gm,r1⟩:=h.item hM (show 2 * p + 1 < items.length by omega)
  rw [q0] at q2' Gm;obtain ⟨e1,_,e3⟩:=Value.slice.inj (Option.some.inj q2');obtain ⟨FL,_,e3'⟩:=Value.slice.inj (Option.some.inj Gm);obtain rfl:g2=g2':=by have:=Option.some.inj e1;exact congrArg Addr.block this
  obtain rfl:g2=g2'':=by have:=Option.some.inj FL;exact congrArg Addr.block this
  subst e3 e3';obtain ⟨x,hx⟩:∃ x,x=items[2 * p + 2]:=⟨_,rfl⟩;obtain ⟨y,hy⟩:∃ y,y=items[2 * p + 1]:=⟨_,rfl⟩;have xn:x < n:=by rw [hx];exact hlt _ (List.getElem_mem _)
  have yn:y < n:=by rw [hy];exact hlt _ (List.getElem_mem _)
  rw [<- hx] at r2;rw [<- hy] at r1;have QB:Hid (∀ j,Calls Tryz.prog 126 #[.pointer (some ⟨ob,0,none⟩),.int .i64 (x:Nat),.int .i64 (y:Nat)] (w.drewN j) fun e w'=>e=.returned (.bool (decide (bz y < bz x)))/\∃ k,w'=(w.drewN j).drewN k):=fun j=>jw (h.later (below_drewN (Below.refl _ _) _)) hM xn yn
  have a0:(0:Int) <= 2 * (p:Int) + 2:=by omega
  have a1:2 * (p:Int) + 2 < (items.length:Int):=by omega
  have a2:(2 * (p:Int) + 2).toNat=2 * p + 2:=by omega
  have b0:(0:Int) <= 2 * (p:Int) + 1:=by omega
  have b1:2 * (p:Int) + 1 < (items.length:Int):=by omega
  have b2:(2 * (p:Int) + 1).toNat=2 * p + 1:=by omega
  have F1:=hide (fun k=>F.out (2 * p + 2) true k (fun _=>by omega))
  have F2:=hide (fun k=>F.out (2 * p + 1) true k (fun _=>by omega))
  rw [show ((2 * p + 2:Nat):Int)=2 * (p:Int) + 2 by omega] at F1
  rw [show ((2 * p + 1:Nat):Int)=2 * (p:Int) + 1 by omega] at F2
  generalize decide (bz y < bz x)=bb at QB;clear h hM hx hy F q2' Gm e1 FL r0;go_enter Tryz.func244,Tryz.ntmps244
  go_upto_region 2 with fail
  go_quiet ((go_at_call 126;exact Calls.quiet_of (QB.out _)))
  cases bb with
  | true=>
   go_wp2;go_ret2
   exact F1.out _
  | false=>
   obtain ⟨W1,hW1⟩:∃ W1,W1=w.drewN nq:=⟨_,rfl⟩;have yG:W1.heap=w.heap:=by rw [hW1];rfl
   rw [<- hW1];rw [<- bG yG] at q0;have F3:Hid (∀ k,Jp w p items.length (.returned (.tuple #[.int .i64 (2 * (p:Int) + 1),.bool true])) (W1.drewN k)):=fun k=>by rw [hW1,World.drewN_drewN];exact F2.out _
   clear hW1 yG;go_upto_region 4 with fail
   go_quiet (fail)
   go_wp2;go_ret2
   exact F3.out _
 ·have a1:¬ (2 * (p:Int) + 2 < (items.length:Int)):=by omega
  obtain ⟨bl,hbl,HBL⟩:∃ bl,decide (2 * (p:Int) + 1 < (items.length:Int))=bl/\Hid (bl=true->p < 2 * p + 1/\2 * p + 1 < items.length):=⟨_,rfl,fun e=>by have:=of_decide_eq_true e;omega⟩
  have F2:=hide (fun k=>F.out (2 * p + 1) bl k HBL.out)
  rw [show ((2 * p + 1:Nat):Int)=2 * (p:Int) + 1 by omega] at F2
  clear h hM F r0;go_enter Tryz.func244,Tryz.ntmps244
  go_upto_region 2 with fail
  go_quiet (fail)
  obtain ⟨W1,hW1⟩:∃ W1,W1=w.drewN nq:=⟨_,rfl⟩;have yG:W1.heap=w.heap:=by rw [hW1];rfl
  rw [<- hW1];rw [<- bG yG] at q0;have F3:Hid (∀ k,Jp w p items.length (.returned (.tuple #[.int .i64 (2 * (p:Int) + 1),.bool bl])) (W1.drewN k)):=fun k=>by rw [hW1,World.drewN_drewN];exact F2.out _
  clear hW1 yG;go_upto_region 4 with fail
  go_quiet (fail)
  go_wp2;go_ret2
  exact F3.out _
end
section
open Go Go.RowKit Go.Deep Rd
variable {Z:Nat->Prop} {ob hb:Nat} {w w':World} {wt:Int} {V:Nat->Value} {X:Nat->List Value} {n g:Nat} {items:List Nat} {pl bz:Nat->Int}
theorem Pq (h:Ord Z ob hb w wt V X) (hM:kR n g X items pl bz) {item:Nat} (hp:Qy n item 0 items pl) (hg:pl g=-1) (hig:item ≠ g) (hlen:items.length <= 1000):
  Calls Tryz.prog 226 #[.pointer (some ⟨hb,0,none⟩),.int .i64 (item:Nat)] w fun e w'=>e=.returned (.tuple #[])/\oQ Z ob hb w wt V n g items.length (fun v=>pl v=-1/\v ≠ item) bz w':=by
 have S0:Hid (iM Z ob hb w wt V n g item items pl bz 0 X items pl w):=⟨h,hM,hp,rfl,fun _ _=>Iff.rfl,aC.refl _⟩
 clear h hM hp;go_enter Tryz.func226,Tryz.ntmps226
 go_wp2_with fail
 go_loopw [4,5,6] (fun s4 _ _ wr=>Jl Z ob hb w wt V n g item items pl bz s4 wr) (fun s4 _ _ _=>items.length - (intOf s4).toNat)
 case atStart=>exact ⟨0,X,items,pl,rfl,S0⟩
 case round=>
  clear S0;obtain ⟨k,X',items',pK,rfl,hst⟩:=hrel;have hkl:k < items'.length:=hst.out.hp.hho;have hln:=hst.out.len;have QF:=hide (xe hst.out.ord hst.out.Gu hst.out.hp.lt hkl (by omega))
  go_upto_region 2 with (go_at_call 244;refine QF.out.mono ?_;rintro e7 w7 ⟨b,ok,rfl,hok,j7,rfl⟩;have HOK:=hide hok;clear hok;simp only [])
  obtain ⟨W1,hW1⟩:∃ W1,W1=wr.drewN j7:=⟨_,rfl⟩;have b1:Below wr.heap.size wr W1:=by rw [hW1];exact below_drewN (Below.refl _ _) _
  rw [<- hW1];have T1:=hide (hst.out.later b1);clear hW1 b1 hst QF;have FIN:Hid (∀ W2,Below W1.heap.size W1 W2->Calls Tryz.prog 203 #[.pointer (some ⟨hb,0,none⟩),.int .i64 (k:Nat),.int .i64 (item:Nat)] W2 fun e w'=>e=.returned (.tuple #[])/\oQ Z ob hb w wt V n g items.length (fun v=>pl v=-1/\v ≠ item) bz w'):=fun W2 hb2=>by
   have T2:=T1.out.later hb2;refine (o6 T2.ord T2.Gu (v:=item) (p:=k) T2.hp.hit hkl).mono ?_;rintro e7 w7 ⟨h1,h2,h3⟩;exact ⟨h1,T2.close hig h2 h3⟩
  cases ok with
  | false=>
   go_quiet (fail)
   have QE:=hide (FIN.out (W1.drewN nq) (below_drewN (Below.refl _ _) _));go_wp2_with (go_at_call 203;refine QE.out.mono ?_;rintro e8 w8 ⟨rfl,U4⟩;have P8:=hide U4;clear U4;simp only [])
   go_end0
   exact ⟨rfl,P8.out⟩
  | true=>
   obtain ⟨hkb,hbl⟩:=HOK.out rfl;obtain ⟨g2',c2',qh,rm⟩:=T1.out.ord.item T1.out.Gu hbl;have qa:=T1.out.ord.cells.2.2.2.2.2.1;unfold ahead at qa;obtain ⟨x,hx⟩:∃ x,x=items'[b]:=⟨_,rfl⟩;have Wy:x < n:=by rw [hx];exact T1.out.hp.lt _ (List.getElem_mem _)
   have QB:Hid (∀ j,Calls Tryz.prog 126 #[.pointer (some ⟨ob,0,none⟩),.int .i64 (x:Nat),.int .i64 (item:Nat)] (W1.drewN j) fun e w'=>e=.returned (.bool (decide (bz item < bz x)))/\∃ k,w'=(W1.drewN j).drewN k):=fun j=>jw (T1.out.ord.later (below_drewN (Below.refl _ _) _)) T1.out.Gu Wy T1.out.hp.hit
   rw [<- hx] at rm;have HX:=hide hx;have m0:(0:Int) <= (b:Int):=by omega
   have m1:(b:Int) < (items'.length:Int):=by omega
   have hbne:b ≠ k:=by omega
   have HLN:=hide hln;clear hx hln;generalize decide (bz item < bz x)=bb at QB;go_quiet ((go_at_call 126;exact Calls.quiet_of (QB.out _)))
   obtain ⟨W2,hW2⟩:∃ W2,W2=W1.drewN nq:=⟨_,rfl⟩;have b2:Below W1.heap.size W1 W2:=by rw [hW2];exact below_drewN (Below.refl _ _) _
   rw [<- hW2];have T2:=hide (T1.out.later b2);have QE:=hide (FIN.out W2 b2);clear hW2 b2 T1 QB qh rm qa FIN
   cases bb with
   | false=>
    go_wp2_with (go_at_call 203;refine QE.out.mono ?_;rintro e8 w8 ⟨rfl,U4⟩;have P8:=hide U4;clear U4;simp only [])
    go_end0
    exact ⟨rfl,P8.out⟩
   | true=>
    have QP:=hide (o6 T2.out.ord T2.out.Gu (v:=x) (p:=k) Wy hkl);have MV:=hide (fun wx ho hc=>T2.out.move (wx:=wx) hg hig hbl hbne ho hc)
    rw [<- HX.out] at MV;obtain ⟨g3,c3,qh,rm⟩:=T2.out.ord.item T2.out.Gu hbl;rw [<- HX.out] at rm;clear T2 QE;go_wp2_with (go_at_call 203;refine QP.out.mono ?_;rintro e8 w8 ⟨rfl,ho8,hc8⟩;have F8:=hide (MV.out w8 ho8 hc8);clear ho8 hc8;simp only [])
    go_roundw
    case rel=>exact ⟨b,_,_,_,rfl,F8⟩
    case measure=>have:=HLN.out;simp [intOf];omega
theorem kR.placed (h:kR n g X items pl bz) (hg:g < n) (hpl:pl g=-1):kR n n (upd X 0 ((X 0).set g (.int .i64 (-1)))) items pl bz where
 n0:=by rw [ae,List.length_set];exact h.n0
 t0:=fun v hv _=>by
  rw [ae];by_cases e:v=g
  ·subst e;rw [List.getElem?_set_self (by rw [h.n0];exact hv),hpl]
  ·rw [List.getElem?_set_ne (fun e2=>e e2.symm)];exact h.t0 v hv e
 i0:=fun v hv=>by
  rw [ae];by_cases e:v=g
  ·subst e;exact ⟨_,List.getElem?_set_self (by rw [h.n0];exact hv)⟩
  ·rw [List.getElem?_set_ne (fun e2=>e e2.symm)];exact h.i0 v hv
 n1:=by rw [aa _ _ (by decide)];exact h.n1
 t1:=by rw [aa _ _ (by decide)];exact h.t1
 t2:=by rw [aa _ _ (by decide)];exact h.t2
def xU (Z:Nat->Prop) (ob hb n:Nat) (w:World) (gone:Nat->Prop) (e:Ending) (w':World):Prop:=
 aC Z w w'/\((e=.returned (.tuple #[.int .i64 0,.bool false])/\(∀ v,v < n->gone v)/\eU Z ob hb n w' gone)\/∃ v:Nat,e=.returned (.tuple #[.int .i64 (v:Nat),.bool true])/\v < n/\¬ gone v/\eU Z ob hb n w' (fun x=>gone x\/x=v))
theorem Sl {gone:Nat->Prop} (h:eU Z ob hb n w gone) (hn:n <= 50):
  Calls Tryz.prog 191 #[.pointer (some ⟨hb,0,none⟩)] w fun e w'=>xU Z ob hb n w gone e w':=by
 obtain ⟨wt,V,X,items,pl,bz,hO,hM,hp,hgo⟩:=h.ex;have ll:=hp.len;obtain ⟨a2,c2,e2⟩:=hO.bC.shape (k:=2) (by omega)
 have l2:(X 2).length=items.length:=by rw [hM.t2,ag]
 have q2:=hO.cells.2.2.2.2.1;rw [e2,l2] at q2;by_cases hl0:items.length=0
 ·have F:Hid (xU Z ob hb n w gone (.returned (.tuple #[.int .i64 0,.bool false])) w):=⟨aC.refl _,.inl ⟨rfl,fun v hv=>(hgo v).1 (hp.empty hl0 hv),h⟩⟩
  rw [hl0] at q2;clear h hO hM hp hgo e2 l2 hl0;go_enter Tryz.func191,Tryz.ntmps191
  go_wp2;go_ret2
  exact F.out
 ·obtain ⟨l,hl⟩:∃ l,items.length=l + 1:=⟨items.length - 1,by omega⟩
  obtain ⟨g2,c2',q2',r0⟩:=hO.item hM (show 0 < items.length by omega)
  obtain ⟨g2',c2'',Gm,rl⟩:=hO.item hM (show l < items.length by omega)
  rw [q2] at q2' Gm;obtain ⟨e1,_,e3⟩:=Value.slice.inj (Option.some.inj q2');obtain ⟨FL,_,e3'⟩:=Value.slice.inj (Option.some.inj Gm);subst e1 e3;obtain rfl:g2=g2':=by have:=Option.some.inj FL;exact congrArg Addr.block this
  obtain ⟨first,hf⟩:∃ x,x=items[0]:=⟨_,rfl⟩
  obtain ⟨DV,hla⟩:∃ x,x=items[l]:=⟨_,rfl⟩;have hf? : items[0]? = some first:=by rw [hf];exact List.getElem?_eq_getElem _
  have hl? : items[l]? = some DV:=by rw [hla];exact List.getElem?_eq_getElem _
  have fn:first < n:=by rw [hf];exact hp.lt _ (List.getElem_mem _)
  have ln:DV < n:=by rw [hla];exact hp.lt _ (List.getElem_mem _)
  have plf:pl first=(0:Nat):=by rw [hf];exact hp.pl 0 (by omega)
  have pll:pl DV=(l:Nat):=by rw [hla];exact hp.pl l (by omega)
  rw [<- hf] at r0;rw [<- hla] at rl;obtain ⟨s1,c1⟩:=hO.cut e2 (m:=l) (by omega)
  rw [hM.t2,jE] at s1;have M1:kR n first (upd X 2 (au (items.take l))) (items.take l) (bB pl first (-1)) bz:=⟨by rw [aa _ _ (by decide)];exact hM.n0,fun v hv hvf=>by rw [aa _ _ (by decide),ah _ _ hvf];exact hM.t0 v hv (by omega),by rw [aa _ _ (by decide)];exact hM.i0,by rw [aa _ _ (by decide)];exact hM.n1,by rw [aa _ _ (by decide)];exact hM.t1,ae ..⟩
  have ngf:¬ gone first:=fun hgg=>by have:=(hgo first).2 hgg;omega
  have DONE:Hid (∀ W Vx X' items' pK,aC Z w W->Ord Z ob hb W wt Vx X'->kR n first X' items' pK bz->BM n items' pK->(∀ v,pK v=-1↔gone v\/v=first)->Calls Tryz.prog 127 #[.pointer (some ⟨ob,0,none⟩),.int .i64 (first:Nat),.int .i64 (-1)] W fun e w'=>e=.returned (.tuple #[])/\xU Z ob hb n w gone (.returned (.tuple #[.int .i64 (first:Nat),.bool true])) w'):=fun W Vx X' items' pK hc ho hm hi I4=>by
   refine (qW ho hm (-1) fn).mono ?_;rintro e7 w7 ⟨h1,h2,h3⟩;refine ⟨h1,hc.trans h3,.inr ⟨first,rfl,fn,ngf,⟨wt,Vx,_,items',pK,bz,h2,hm.placed fn ((I4 first).2 (.inr rfl)),hi,I4⟩,.inl h.last⟩⟩
  have G1:∀ v,bB pl first (-1) v=-1↔gone v\/v=first:=fun v=>by
   by_cases e:v=first
   ·subst e;rw [aD];simp
   ·rw [ah _ _ e,hgo v];simp [e]
  have cap2:l <= c2:=by
   have:=hO.bC.own 2 (by omega)
   rw [e2] at this
   rcases this.2 with ⟨e,_⟩ | ⟨_,cap',_,e,_,_,hn',_⟩
   ·cases e
   ·obtain ⟨_,_,q⟩:=Value.slice.inj e;rw [l2] at hn';omega
  have S1:=hide s1;have C1:=hide c1;have BN:=hide M1;have i0:(0:Int) < (l:Int) + 1:=by omega
  have i1:(l:Int) < (l:Int) + 1:=by omega
  have i2:(l:Int) <= (c2:Int):=by omega
  have i3:(l:Int) + 1 <= 50:=by omega
  have i4:(0:Int) <= (l:Int):=by omega
  have zz:=hO.cells.2.2.2.2.2.2.2.1;rw [hl] at q2;have HPI:=hide hp;have Ym:=hide hl;have HF:=hide hf?;have Yn:=hide hl?;clear h hO hM hp hgo e2 l2 q2' Gm FL e3' s1 c1 M1 hf hla hf? hl? hl hl0;go_enter Tryz.func191,Tryz.ntmps191
  go_upto_region 8 with fail
  generalize hW1:w.setCell ⟨hb,0,none⟩ (.slice (some ⟨g2,0,none⟩) l c2)=W1 at S1 C1 ⊢;generalize upd V 2 (.slice (some ⟨g2,0,none⟩) l c2)=V1 at S1;generalize upd X 2 (au (items.take l))=X1 at S1 BN;clear hW1 q2 r0 rl zz;have qp:=S1.out.cells.2.2.2.2.2.2.1;unfold placed at qp
  cases l with
  | zero=>
   have QD:=hide (DONE.out W1 V1 X1 (items.take 0) (bB pl first (-1)) C1.out S1.out BN.out (HPI.out.VZ Ym.out HF.out) G1)
   clear DONE G1 S1 BN;go_wp2_with (go_at_call 127;refine QD.out.mono ?_;rintro e7 w7 ⟨rfl,U5⟩;have P7:=hide U5;clear U5;simp only [])
   go_ret2
   exact P7.out
  | succ m=>
   have lne:DV ≠ first:=fun e=>by rw [e,plf] at pll;omega
   have HH:=HPI.out.pop (l:=m) Ym.out HF.out Yn.out;have QF:=hide (Pq S1.out BN.out HH (aD ..) lne (by rw [List.length_take];omega))
   have D2:Hid (∀ W,oQ Z ob hb W1 wt V1 n first (items.take (m + 1)).length (fun v=>bB pl first (-1) v=-1/\v ≠ DV) bz W->W.cell? ⟨hb,2,none⟩=some (.func (.func 127) #[.pointer (some ⟨ob,0,none⟩)] #[])/\Calls Tryz.prog 127 #[.pointer (some ⟨ob,0,none⟩),.int .i64 (first:Nat),.int .i64 (-1)] W fun e w'=>e=.returned (.tuple #[])/\xU Z ob hb n w gone (.returned (.tuple #[.int .i64 (first:Nat),.bool true])) w'):=fun W hpW=>by
    obtain ⟨X',items',pK,r1,r2,r3,r4,r5,r6⟩:=hpW.ex;refine ⟨r1.cells.2.2.2.2.2.2.1,DONE.out W V1 X' items' pK (C1.out.trans r6) r1 r2 r3 fun v=>?_⟩
    rw [r5 v,G1 v];constructor
    ·exact fun h=>h.1
    ·intro h;refine ⟨h,fun e=>?_⟩
     subst e;have h2:=(G1 v).2 h;rw [ah _ _ lne,pll] at h2;omega
   have l0:(0:Int) < ((m + 1:Nat):Int):=by omega
   clear DONE G1 S1 BN HH qp;go_wp2_with (first
    |(go_at_call 226;refine QF.out.mono ?_;rintro e7 w7 ⟨rfl,U5⟩;obtain ⟨qp,hd2⟩:=D2.out w7 U5;have QD:=hide hd2;clear hd2 U5;simp only [])
    |(go_at_call 127;refine QD.out.mono ?_;rintro e8 w8 ⟨rfl,U4⟩;have P8:=hide U4;clear U4;simp only []))
   go_ret2
   exact P8.out
end
end So
end Go.Proofs.YtceahffmenbibaaGreatDoor
