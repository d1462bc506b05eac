/- Sspr Shw2 Shw3 Shw4. -/
import Derived.Test.YtceahffmenbibaaGreatDoorG07
import Derived.Test.YtceahffmenbibaaGreatDoorG05
set_option linter.unusedVariables false
set_option linter.unusedSimpArgs false
namespace Go.Proofs.YtceahffmenbibaaGreatDoor
namespace So
open Go Go.RowKit Go.Deep Rd
variable {Z:Nat→Prop} {sb K:Nat} {w w':World} {f V:Nat→Value} {X:Nat→List Value} {n:Nat} {wl:Nat→List Nat} {tr ch:List Nat} {lev:Nat→Nat} {rea:Nat→Int}
def intAt (w:World) (a:Addr):Int:=match w.cell? a with | some v=>intOf v | none=>0
structure SprSt (Z:Nat→Prop) (sb:Nat) (w:World) (K:Nat) (f:Nat→Value) (X:Nat→List Value) (n:Nat) (ch:List Nat) (cs:List Rec) (tr0:List Nat) (sp:Nat) (cs':List Rec) (tr:List Nat) (lev:Nat→Nat) (rea:Nat→Int) (wl:Nat→List Nat) (f' V':Nat→Value) (X':Nat→List Value) (wr:World):Prop where
 pi:PI n (mapOf cs') tr ch lev rea wl sp
 sol:Sol Z sb wr K f' V' X'
 x0:X' 0=ints (enc cs')
 trm:TrM n X' tr ch lev rea
 wam:WaM n V' X' wl
 perm:PermC cs cs'
 only:∀ k,6 ≤ k→k ≠ 9→k < 16→X' k=X k
 ff:∀ j,j ≠ 6→j ≠ 7→f' j=f j
 f7:f' 7=.int .i64 (sp:Nat)
 spl:sp ≤ tr.length
 late:∀ q ∈ ch,q ≤ sp
 ext:∃ e,tr=tr0 ++ e
 chg:Chg Z w wr
def SprRel (Z:Nat→Prop) (sb:Nat) (w:World) (K:Nat) (f:Nat→Value) (X:Nat→List Value) (n:Nat) (ch:List Nat) (cs:List Rec) (tr0:List Nat) (wr:World):Prop:=
 ∃ sp cs' tr lev rea wl f' V' X',Hid (SprSt Z sb w K f X n ch cs tr0 sp cs' tr lev rea wl f' V' X' wr)
structure SprPost (Z:Nat→Prop) (sb:Nat) (w:World) (K:Nat) (f:Nat→Value) (X:Nat→List Value) (n:Nat) (ch:List Nat) (cs:List Rec) (tr0:List Nat) (res:Int) (P sp:Nat) (cs':List Rec) (tr:List Nat) (lev:Nat→Nat) (rea:Nat→Int) (wl:Nat→List Nat) (f' V':Nat→Value) (X':Nat→List Value) (wr:World):Prop where
 pi:PI n (mapOf cs') tr ch lev rea wl P
 sol:Sol Z sb wr K f' V' X'
 x0:X' 0=ints (enc cs')
 trm:TrM n X' tr ch lev rea
 wam:WaM n V' X' wl
 perm:PermC cs cs'
 only:∀ k,6 ≤ k→k ≠ 9→k < 16→X' k=X k
 ff:∀ j,j ≠ 6→j ≠ 7→f' j=f j
 f7:f' 7=.int .i64 (sp:Nat)
 spl:sp ≤ tr.length
 late:∀ q ∈ ch,q ≤ P
 ext:∃ e,tr=tr0 ++ e
 chg:Chg Z w wr
 res:(res=-1∧P=tr.length∧sp=tr.length)∨∃ k,∃ hk:k < cs'.length,res=(adr cs' k:Nat)∧(cs'[k]).kind ≠ 2∧(∀ y ∈ (cs'[k]).lits,op y ∈ tr)∧∃ y ∈ (cs'[k]).lits,lev (y / 2)=ch.length
def SprRet (Z:Nat→Prop) (sb:Nat) (w:World) (K:Nat) (f:Nat→Value) (X:Nat→List Value) (n:Nat) (ch:List Nat) (cs:List Rec) (tr0:List Nat) (e:Ending) (w':World):Prop:=
 ∃ res P sp cs' tr lev rea wl f' V' X',e=.returned (.int .i64 res)∧SprPost Z sb w K f X n ch cs tr0 res P sp cs' tr lev rea wl f' V' X' w'
variable {cs cs':List Rec} {tr0:List Nat} {sp:Nat} {f' V':Nat→Value} {X':Nat→List Value} {wr wx:World}
theorem same_cell {w w':World} (h:w'.heap=w.heap) (a:Addr):w'.cell? a=w.cell? a:=World.cell?_of_block (by rw [h])
theorem same_frozen {w w':World} (h:w'.heap=w.heap) (a:Addr):w'.frozen? a=w.frozen? a:=World.frozen?_of_block (by rw [h])
theorem SprSt.later (h:SprSt Z sb w K f X n ch cs tr0 sp cs' tr lev rea wl f' V' X' wr) (hb:Below wr.heap.size wr wx):SprSt Z sb w K f X n ch cs tr0 sp cs' tr lev rea wl f' V' X' wx:=
 { h with sol:=h.sol.later hb,chg:=h.chg.trans (Chg.of_below hb) }
theorem SprRet.later {e:Ending} (h:SprRet Z sb w K f X n ch cs tr0 e wr) (hb:Below wr.heap.size wr wx):SprRet Z sb w K f X n ch cs tr0 e wx:=by
 obtain ⟨res,P,sp,cs',tr,lev,rea,wl,f',V',X',h1,h2⟩:=h
 exact ⟨res,P,sp,cs',tr,lev,rea,wl,f',V',X',h1,{ h2 with sol:=h2.sol.later hb,chg:=h2.chg.trans (Chg.of_below hb) }⟩
theorem SprSt.done (h:SprSt Z sb w K f X n ch cs tr0 sp cs' tr lev rea wl f' V' X' wr) (he:sp=tr.length):SprRet Z sb w K f X n ch cs tr0 (.returned (.int .i64 (-1))) wr:=
 ⟨-1,sp,sp,cs',tr,lev,rea,wl,f',V',X',rfl,{ h with res:=.inl ⟨rfl,he,he⟩ }⟩
theorem SprSt.next (h:SprSt Z sb w K f X n ch cs tr0 sp cs' tr lev rea wl f' V' X' wr) (hx:sp < tr.length) {lit:Nat} (hl:tr[sp]? = some (op lit)) {e:Ending} (hr:FalRet Z sb (wr.setCell ⟨sb,7,none⟩ (.int .i64 ((sp + 1:Nat):Int))) K (upd f' 7 (.int .i64 ((sp + 1:Nat):Int))) X' n lit sp ch cs' tr e wx):
  ∃ res,e=.returned (.int .i64 res)∧((res=-1∧∃ cs2 tr2 lev2 rea2 wl2 f2 V2 X2,SprSt Z sb w K f X n ch cs tr0 (sp + 1) cs2 tr2 lev2 rea2 wl2 f2 V2 X2 wx)∨(res ≠ -1∧SprRet Z sb w K f X n ch cs tr0 (.returned (.int .i64 res)) wx)):=by
 obtain ⟨res,cs2,tr2,lev2,rea2,wl2,f2,V2,X2,rfl,g⟩:=hr
 obtain ⟨ex,hex⟩:=g.ext
 obtain ⟨e0,he0⟩:=h.ext
 have hlen:sp < tr2.length:=by rw [hex];simp;omega
 have hc:Chg Z w wx:=(h.chg.setCell h.sol.bsb _).trans g.chg
 have hff:∀ j,j ≠ 6→j ≠ 7→f2 j=f j:=fun j h6 h7=>(g.ff j h6).trans ((upd_other _ _ h7).trans (h.ff j h6 h7))
 have hf7:f2 7=.int .i64 ((sp + 1:Nat):Int):=(g.ff 7 (by decide)).trans (upd_self ..)
 have hon:∀ k,6 ≤ k→k ≠ 9→k < 16→X2 k=X k:=fun k h1 h2 h3=>(g.only k h1 h2 h3).trans (h.only k h1 h2 h3)
 have hxt:∃ e,tr2=tr0 ++ e:=⟨e0 ++ ex,by rw [hex,he0,List.append_assoc]⟩
 refine ⟨res,rfl,?_⟩
 rcases g.res with ⟨hr1,hs⟩ | ⟨hs,k,hk,hr1,hkd,hfl,hm⟩
 ·refine .inl ⟨hr1,cs2,tr2,lev2,rea2,wl2,f2,V2,X2,{
   pi:=⟨g.tri,g.rei,g.cli,g.wai,hs⟩
   sol:=g.sol
   x0:=g.x0
   trm:=g.trm
   wam:=g.wam
   perm:=h.perm.trans g.perm
   only:=hon
   ff:=hff
   f7:=hf7
   spl:=hlen
   late:=fun q hq=>Nat.le_succ_of_le (h.late q hq)
   ext:=hxt
   chg:=hc }⟩
 ·refine .inr ⟨by omega,res,sp,sp + 1,cs2,tr2,lev2,rea2,wl2,f2,V2,X2,rfl,{
   pi:=⟨g.tri,g.rei,g.cli,g.wai,hs⟩
   sol:=g.sol
   x0:=g.x0
   trm:=g.trm
   wam:=g.wam
   perm:=h.perm.trans g.perm
   only:=hon
   ff:=hff
   f7:=hf7
   spl:=hlen
   late:=h.late
   ext:=hxt
   chg:=hc
   res:=.inr ⟨k,hk,hr1,hkd,hfl,lit,hm,?_⟩ }⟩
  have e1:tr2[sp]'hlen=op lit:=by
   have:tr2[sp]? = some (op lit):=by rw [hex,List.getElem?_append_left hx];exact hl
   exact (List.getElem?_eq_some_iff.1 this).2
  have:=g.tri.lev sp hlen
  rw [e1,op_var] at this
  rw [this,cnt_all h.late]
set_option maxHeartbeats 4000000 in
set_option maxRecDepth 100000 in
theorem spread_any (h:SprSt Z sb w K f X n ch cs tr sp cs tr lev rea wl f V X w) (hK2:K=16 + 2 * n) (hn:n ≤ 50) (hN:(enc cs).length ≤ 549755813888):
  Calls Tryz.prog 98 #[.pointer (some ⟨sb,0,none⟩)] w fun e w'=>SprRet Z sb w K f X n ch cs tr e w':=by
 subst hK2
 have S0:=hide h
 clear h
 go_enter Tryz.func98,Tryz.ntmps98
 go_wp2_with fail
 go_loopw [2,3,4] (fun _ _ _ wr=>SprRel Z sb w (16 + 2 * n) f X n ch cs tr wr) (fun _ _ _ wr=>n - (intAt wr ⟨sb,7,none⟩).toNat)
 case atStart=>exact ⟨sp,cs,tr,lev,rea,wl,f,V,X,S0⟩
 case round=>
  clear S0
  obtain ⟨sp',cs',tr',lev',rea',wl',f',V',X',hst⟩:=hrel
  have hK:=(unhide hst).sol.hK
  obtain ⟨a1,c1,e1⟩:=(unhide hst).sol.fam.shape (k:=1) (by omega)
  have q1:=((unhide hst).sol.hd (k:=1) (by omega)).1
  have l1:(X' 1).length=tr'.length:=by rw [(unhide hst).trm.l1,nats_len]
  rw [show cellOf 1=6 from rfl,e1,l1] at q1
  obtain ⟨q7,z7⟩:=(unhide hst).sol.head 7 (by omega)
  rw [(unhide hst).f7] at q7
  have hspl:=(unhide hst).spl
  have hln:=(unhide hst).pi.tri.len
  clear e1
  by_cases hlt:sp' < tr'.length
  ·have s1:(sp':Int) < (tr'.length:Int):=by omega
   have s0:(0:Int) ≤ (sp':Int):=by omega
   obtain ⟨g1,c1',t1,e1,q1',r1,s1',-⟩:=(unhide hst).sol.elem (k:=1) (j:=sp') (by omega) l1 hlt
   rw [show cellOf 1=6 from rfl] at q1'
   have ea:a1=some ⟨g1,0,none⟩∧c1=c1':=by
    rw [q1'] at q1
    obtain ⟨x1,_,x3⟩:=Value.slice.inj (Option.some.inj q1)
    exact ⟨x1.symm,x3.symm⟩
   obtain ⟨rfl,rfl⟩:=ea
   rw [(unhide hst).trm.l1,nats_at _ _ hlt] at s1'
   obtain rfl:=Option.some.inj s1'
   obtain ⟨x,hx⟩:∃ x,x=tr'[sp']:=⟨_,rfl⟩
   rw [← hx] at r1
   have HX:=hide hx
   have hxl:x < 2 * n:=by rw [hx];exact (unhide hst).pi.tri.lt _ (List.getElem_mem _)
   have QOP:=hide (fun Y=>opposite_any x Y (by omega))
   have hop:Hid (tr'[sp']? = some (op (op x))):=by unfold Hid;rw [op_op,hx];exact List.getElem?_eq_getElem hlt
   have sw:(sp':Int) + 1 < 9223372036854775807:=by omega
   clear hx e1 q1'
   go_upto_region 1 with fail
   go_quiet (fail)
   obtain ⟨W1,hW1⟩:∃ W1,W1=wr.drewN nq:=⟨_,rfl⟩
   have hh1:W1.heap=wr.heap:=by rw [hW1];rfl
   have b1:Below wr.heap.size wr W1:=by rw [hW1];exact below_drewN (Below.refl _ _) _
   rw [← hW1]
   have T1:=hide ((unhide hst).later b1)
   rw [← same_cell hh1] at q1 q7 r1
   rw [← same_frozen hh1] at z7
   have M1:Hid (intAt wr ⟨sb,7,none⟩=intAt W1 ⟨sb,7,none⟩):=by unfold Hid intAt;rw [same_cell hh1]
   clear hW1 hh1 b1 hst
   go_upto_region 2 with fail
   go_quiet (fail)
   rename_i nq2
   obtain ⟨W2,hW2⟩:∃ W2,W2=W1.drewN nq:=⟨_,rfl⟩
   have hh2:W2.heap=W1.heap:=by rw [hW2];rfl
   have b2:Below W1.heap.size W1 W2:=by rw [hW2];exact below_drewN (Below.refl _ _) _
   rw [← hW2]
   have T2:=hide ((unhide T1).later b2)
   rw [← same_cell hh2] at q1 q7 r1
   rw [← same_frozen hh2] at z7
   have M2:Hid (intAt wr ⟨sb,7,none⟩=sp'):=by unfold Hid;rw [unhide M1];unfold intAt;rw [← same_cell hh2,q7];rfl
   clear hW2 hh2 b2 T1 M1
   have S2:=(unhide T2).sol.scalar 7 (.int .i64 ((sp' + 1:Nat):Int)) (by decide +kernel)
   have QF:=hide (falsify_any (w:=W2.setCell ⟨sb,7,none⟩ (.int .i64 ((sp' + 1:Nat):Int))) (lit:=op x) (p:=sp') S2 rfl (unhide T2).x0 hn (by rw [(unhide T2).perm.len];exact hN) (unhide T2).trm (unhide T2).wam (unhide T2).pi.tri (unhide T2).pi.rei (unhide T2).pi.cli (unhide T2).pi.wai (unhide T2).pi.spi (unhide hop) (unhide T2).late)
   have NX:=hide (fun (e:Ending) (wx:World)=>(unhide T2).next (wx:=wx) (e:=e) hlt (unhide hop))
   rw [show ((sp' + 1:Nat):Int)=(sp':Int) + 1 from rfl] at QF NX
   clear S2 T2
   generalize op x=ox at *
   go_upto_region 5 with (first
    |(go_at_call 139;refine (unhide QOP _).mono ?_;rintro e7 w7 ⟨rfl,rfl⟩;simp only [])
    |(go_at_call 138;refine (unhide QF).mono ?_;intro e8 w8 hret;obtain ⟨res,rfl,hres⟩:=unhide NX _ _ hret;have HRES:=hide hres;clear hres hret;simp only []))
   rcases unhide HRES with ⟨rfl,cs2,tr2,lev2,rea2,wl2,f2,V2,X2,st2⟩ | ⟨hne,hrt⟩
   ·have ST:=hide st2
    have M3:Hid (intAt w8 ⟨sb,7,none⟩=((sp' + 1:Nat):Int)):=by
     unfold Hid intAt
     rw [(st2.sol.head 7 (by omega)).1,st2.f7];rfl
    clear HRES st2 NX QF
    go_wp2
    go_roundw
    case rel=>exact ⟨sp' + 1,cs2,tr2,lev2,rea2,wl2,f2,V2,X2,ST⟩
    case measure=>rw [unhide M2,unhide M3];omega
   ·have RT:=hide hrt
    have hne2:(res != -1)=true:=by simpa using hne
    clear HRES hrt NX QF hne
    go_wp2
    go_ret
    exact unhide RT
  ·have SD:=hide ((unhide hst).done (by omega))
   have s1:¬ ((sp':Int) < (tr'.length:Int)):=by omega
   go_upto_region 1 with fail
   go_quiet (fail)
   go_wp2
   go_ret
   exact (unhide SD).later (below_drewN (Below.refl _ _) _)
end So
end Go.Proofs.YtceahffmenbibaaGreatDoor
namespace Go.Proofs.YtceahffmenbibaaGreatDoor
namespace So
open Go Go.RowKit Go.Deep Rd
variable {Z:Nat→Prop} {ob hb:Nat} {w w':World} {wt:Int} {V:Nat→Value} {X:Nat→List Value} {n g:Nat} {items:List Nat} {pl bz:Nat→Int}
structure HoleSt (Z:Nat→Prop) (ob hb:Nat) (w:World) (wt:Int) (V:Nat→Value) (n g item:Nat) (items:List Nat) (pl bz:Nat→Int) (hole:Nat) (X':Nat→List Value) (items':List Nat) (pl':Nat→Int) (wr:World):Prop where
 ord:Ord Z ob hb wr wt V X'
 orm:OrM n g X' items' pl' bz
 hp:HpH n item hole items' pl'
 len:items'.length=items.length
 wait:∀ v,v ≠ item→(pl' v=-1↔pl v=-1)
 chg:Chg Z w wr
theorem HoleSt.notg {item hole:Nat} {X':Nat→List Value} {items':List Nat} {pl':Nat→Int} {wr:World} (h:HoleSt Z ob hb w wt V n g item items pl bz hole X' items' pl' wr) (hg:pl g=-1) (hig:item ≠ g) {k:Nat} (hk:k < items'.length) (hne:k ≠ hole):items'[k] ≠ g:=fun e=>by
 have h1:=(h.hp.pl k hk hne).2
 have h2:=(h.wait g (fun e=>hig e.symm)).2 hg
 rw [e,h2] at h1
 omega
theorem HoleSt.move {item hole:Nat} {X':Nat→List Value} {items':List Nat} {pl':Nat→Int} {wr wx:World} (h:HoleSt Z ob hb w wt V n g item items pl bz hole X' items' pl' wr) (hg:pl g=-1) (hig:item ≠ g) {k:Nat} (hk:k < items'.length) (hne:k ≠ hole)
  (ho:Ord Z ob hb wx wt V (upd (upd X' 2 ((X' 2).set hole (.int .i64 (items'[k]:Nat)))) 0 ((X' 0).set items'[k] (.int .i64 (hole:Nat))))) (hc:Chg Z wr wx):
  HoleSt Z ob hb w wt V n g item items pl bz k (upd (upd X' 2 ((X' 2).set hole (.int .i64 (items'[k]:Nat)))) 0 ((X' 0).set items'[k] (.int .i64 (hole:Nat)))) (items'.set hole items'[k]) (updN pl' items'[k] (hole:Nat)) wx where
 ord:=ho
 orm:=h.orm.put (h.hp.lt _ (List.getElem_mem hk)) (h.notg hg hig hk hne)
 hp:=h.hp.move hk hne
 len:=by rw [List.length_set];exact h.len
 wait:=fun v hv=>by
  by_cases e:v=items'[k]
  ·subst e
   rw [updN_self]
   have h1:=(h.hp.pl k hk hne).2
   have h2:=h.wait _ hv
   rw [← h2,h1]
   constructor <;> intro h3 <;> omega
  ·rw [updN_other _ _ e];exact h.wait v hv
 chg:=h.chg.trans hc
theorem HoleSt.later {item hole:Nat} {X':Nat→List Value} {items':List Nat} {pl':Nat→Int} {wr wx:World} (h:HoleSt Z ob hb w wt V n g item items pl bz hole X' items' pl' wr) (hb':Below wr.heap.size wr wx):HoleSt Z ob hb w wt V n g item items pl bz hole X' items' pl' wx:=
 { h with ord:=h.ord.later hb',chg:=h.chg.trans (Chg.of_below hb') }
structure HeapPost (Z:Nat→Prop) (ob hb:Nat) (w:World) (wt:Int) (V:Nat→Value) (n g:Nat) (len:Nat) (gone:Nat→Prop) (bz:Nat→Int) (w':World):Prop where
 ex:∃ X' items' pl',Ord Z ob hb w' wt V X'∧OrM n g X' items' pl' bz∧HpI n items' pl'∧items'.length=len∧(∀ v,pl' v=-1↔gone v)∧Chg Z w w'
theorem HoleSt.close {item hole:Nat} {X':Nat→List Value} {items':List Nat} {pl':Nat→Int} {wr wx:World} (h:HoleSt Z ob hb w wt V n g item items pl bz hole X' items' pl' wr) (hig:item ≠ g)
  (ho:Ord Z ob hb wx wt V (upd (upd X' 2 ((X' 2).set hole (.int .i64 (item:Nat)))) 0 ((X' 0).set item (.int .i64 (hole:Nat))))) (hc:Chg Z wr wx):HeapPost Z ob hb w wt V n g items.length (fun v=>pl v=-1∧v ≠ item) bz wx:=
 ⟨_,_,_,ho,h.orm.put h.hp.hit hig,h.hp.close,by rw [List.length_set];exact h.len,fun v=>by
  by_cases e:v=item
  ·subst e
   rw [updN_self]
   constructor
   ·intro h3;omega
   ·intro h3;exact absurd rfl h3.2
  ·rw [updN_other _ _ e,h.wait v e]
   exact ⟨fun h3=>⟨h3,e⟩,fun h3=>h3.1⟩,h.chg.trans hc⟩
def RiseRel (Z:Nat→Prop) (ob hb:Nat) (w:World) (wt:Int) (V:Nat→Value) (n g item:Nat) (items:List Nat) (pl bz:Nat→Int) (s:Value) (wr:World):Prop:=
 ∃ hole X' items' pl',s=.int .i64 ((hole:Nat):Int)∧Hid (HoleSt Z ob hb w wt V n g item items pl bz hole X' items' pl' wr)
theorem Ord.item (h:Ord Z ob hb w wt V X) (hM:OrM n g X items pl bz) {k:Nat} (hk:k < items.length):∃ g2 c2,w.cell? ⟨hb,0,none⟩=some (.slice (some ⟨g2,0,none⟩) items.length c2)∧w.cell? ⟨g2,k,none⟩=some (.int .i64 (items[k]:Nat)):=by
 have l2:(X 2).length=items.length:=by rw [hM.t2,nats_len]
 obtain ⟨g2,c2,t,e,r,s,_⟩:=h.elem (k:=2) (j:=k) (by omega) l2 hk
 rw [hM.t2,nats_at _ _ hk] at s
 obtain rfl:=Option.some.inj s
 have q:=h.cells.2.2.2.2.1
 rw [e] at q
 exact ⟨g2,c2,q,r⟩
set_option maxHeartbeats 2000000 in
set_option maxRecDepth 100000 in
theorem rise_any (h:Ord Z ob hb w wt V X) (hM:OrM n g X items pl bz) {item hole:Nat} (hp:HpH n item hole items pl) (hi:items[hole]? = some item) (hg:pl g=-1) (hig:item ≠ g) (hlen:items.length ≤ 1000):
  Calls Tryz.prog 173 #[.pointer (some ⟨hb,0,none⟩),.int .i64 (hole:Nat)] w fun e w'=>e=.returned (.tuple #[])∧HeapPost Z ob hb w wt V n g items.length (fun v=>pl v=-1∧v ≠ item) bz w':=by
 obtain ⟨hh,ei⟩:=List.getElem?_eq_some_iff.1 hi
 obtain ⟨g2,c2,q0,r0⟩:=h.item hM hh
 rw [ei] at r0
 have S0:Hid (HoleSt Z ob hb w wt V n g item items pl bz hole X items pl w):=⟨h,hM,hp,rfl,fun _ _=>Iff.rfl,Chg.refl _⟩
 have h0:(0:Int) ≤ (hole:Int):=by omega
 have h1:(hole:Int) < (items.length:Int):=by omega
 clear h hM hp hi ei
 go_enter Tryz.func173,Tryz.ntmps173
 go_wp2_with fail
 go_loopw [1,5] (fun s1 _ wr=>RiseRel Z ob hb w wt V n g item items pl bz s1 wr) (fun s1 _ _=>(intOf s1).toNat)
 case atStart=>exact ⟨hole,X,items,pl,rfl,S0⟩
 case round=>
  clear S0 q0 r0
  obtain ⟨k,X',items',pl',rfl,hst⟩:=hrel
  have hkl:k < items'.length:=(unhide hst).hp.hho
  have hlen':=(unhide hst).len
  have QP:=hide (put_any (unhide hst).ord (unhide hst).orm (v:=item) (p:=k) (unhide hst).hp.hit hkl)
  have CL:=hide (fun wx ho hc=>(unhide hst).close (wx:=wx) hig ho hc)
  by_cases hk0:k=0
  ·subst hk0
   go_wp2_with (go_at_call 203;refine (unhide QP).mono ?_;rintro e7 w7 ⟨rfl,ho7,hc7⟩;have F7:=hide (unhide CL w7 ho7 hc7);clear ho7 hc7;simp only [])
   go_end0
   exact ⟨rfl,unhide F7⟩
  ·obtain ⟨m,hm⟩:∃ m,m=(k - 1) / 2:=⟨_,rfl⟩
   have hmk:m < items'.length:=by omega
   have hmne:m ≠ k:=by omega
   have hd:((k:Int) - 1) / 2=(m:Int):=by omega
   have hd2:Int.tdiv ((k:Int) - 1) 2=(m:Int):=by rw [Int.tdiv_eq_ediv_of_nonneg (by omega)];exact hd
   obtain ⟨g2',c2',qh,rm⟩:=(unhide hst).ord.item (unhide hst).orm hmk
   have qa:=(unhide hst).ord.cells.2.2.2.2.2.1
   obtain ⟨x,hx⟩:∃ x,x=items'[m]:=⟨_,rfl⟩
   have hxn:x < n:=by rw [hx];exact (unhide hst).hp.lt _ (List.getElem_mem _)
   have QB:Hid (∀ j,Calls Tryz.prog 126 #[.pointer (some ⟨ob,0,none⟩),.int .i64 (item:Nat),.int .i64 (x:Nat)] (wr.drewN j) fun e w'=>e=.returned (.bool (decide (bz x < bz item)))∧∃ k,w'=(wr.drewN j).drewN k):=fun j=>isBusier_any ((unhide hst).ord.later (below_drewN (Below.refl _ _) _)) (unhide hst).orm (unhide hst).hp.hit hxn
   rw [← hx] at rm
   have HX:=hide hx
   have m0:(0:Int) ≤ (m:Int):=by omega
   have m1:(m:Int) < (items'.length:Int):=by omega
   have k1:(0:Int) < (k:Int):=by omega
   have k2:(0:Int) ≤ (k:Int) - 1:=by omega
   have k3:(k:Int) < 1000:=by omega
   have mk:m < k:=by omega
   clear hx hm hlen' hd
   unfold ahead at qa
   generalize decide (bz x < bz item)=bb at QB
   go_upto_region 3 with fail
   go_quiet ((go_at_call 126;exact Calls.quiet_of (unhide QB _)))
   obtain ⟨W1,hW1⟩:∃ W1,W1=wr.drewN nq:=⟨_,rfl⟩
   have b1:Below wr.heap.size wr W1:=by rw [hW1];exact below_drewN (Below.refl _ _) _
   rw [← hW1]
   have T1:=hide ((unhide hst).later b1)
   clear hW1 b1 hst QP CL QB qh rm qa
   cases bb with
   | false=>
    have QP:=hide (put_any (unhide T1).ord (unhide T1).orm (v:=item) (p:=k) (unhide T1).hp.hit hkl)
    have CL:=hide (fun wx ho hc=>(unhide T1).close (wx:=wx) hig ho hc)
    clear T1
    go_wp2_with (go_at_call 203;refine (unhide QP).mono ?_;rintro e7 w7 ⟨rfl,ho7,hc7⟩;have F7:=hide (unhide CL w7 ho7 hc7);clear ho7 hc7;simp only [])
    go_end0
    exact ⟨rfl,unhide F7⟩
   | true=>
    have QP:=hide (put_any (unhide T1).ord (unhide T1).orm (v:=x) (p:=k) hxn hkl)
    have MV:=hide (fun wx ho hc=>(unhide T1).move (wx:=wx) hg hig hmk hmne ho hc)
    rw [← unhide HX] at MV
    obtain ⟨g3,c3,qh,rm⟩:=(unhide T1).ord.item (unhide T1).orm hmk
    rw [← unhide HX] at rm
    clear T1
    go_wp2_with (go_at_call 203;refine (unhide QP).mono ?_;rintro e7 w7 ⟨rfl,ho7,hc7⟩;have F7:=hide (unhide MV w7 ho7 hc7);clear ho7 hc7;simp only [])
    go_roundw
    case rel=>exact ⟨m,_,_,_,rfl,F7⟩
    case measure=>simp [intOf];omega
end So
end Go.Proofs.YtceahffmenbibaaGreatDoor
namespace Go.Proofs.YtceahffmenbibaaGreatDoor
namespace So
open Go Go.RowKit Go.Deep Rd
variable {Z:Nat→Prop} {ob hb:Nat} {w w':World} {wt:Int} {V:Nat→Value} {X:Nat→List Value} {n g:Nat} {items:List Nat} {pl bz:Nat→Int}
structure OrdI (Z:Nat→Prop) (ob hb n:Nat) (w:World) (gone:Nat→Prop):Prop where
 ex:∃ wt V X items pl bz,Ord Z ob hb w wt V X∧OrM n n X items pl bz∧HpI n items pl∧∀ v,pl v=-1↔gone v
 last:gone n
set_option maxHeartbeats 2000000 in
set_option maxRecDepth 100000 in
theorem push_any (h:Ord Z ob hb w wt V X) (hM:OrM n n X items pl bz) (hp:HpI n items pl) {v:Nat} (hv:v < n) (hpl:pl v=-1) (hpn:pl n=-1) (hn:n ≤ 50):
  Calls Tryz.prog 128 #[.pointer (some ⟨hb,0,none⟩),.int .i64 (v:Nat)] w fun e w'=>e=.returned (.tuple #[])∧Chg Z w w'∧OrdI Z ob hb n w' (fun x=>pl x=-1∧x ≠ v):=by
 obtain ⟨i0,hi,hz0,hz1,hz2⟩:=info_parts Tryz.infoInt9
 have ll:=hp.len
 have HS:=hide h
 obtain ⟨a2,c2,e2⟩:=h.fam.shape (k:=2) (by omega)
 have l2:(X 2).length=items.length:=by rw [hM.t2,nats_len]
 have q2:=h.cells.2.2.2.2.1
 rw [e2,l2] at q2
 have O2:Hid (w.ownsRow 0 3 1 (.slice a2 items.length c2) items.length (nats items)):=by
  have:=h.fam.own 2 (by omega)
  rw [e2,hM.t2,nats_len] at this;exact this
 have E2:Hid (V 2=.slice a2 items.length c2):=by unfold Hid;rw [e2,l2]
 have HX2:Hid (X 2=nats items):=hM.t2
 have hlt:=h.hrow.lt
 have ns:¬ (hb=w.heap.size):=by omega
 have HP:=hide (hp.push hv hpl)
 have HM:=hide hM
 clear h hM hp e2 l2
 go_enter Tryz.func128,Tryz.ntmps128
 go_wp2_with (at_builtin;refine wpList_append_any _ rfl _ _ 43 rfl 0 3 i0 (.int .i64 0) 1 8 Tryz.underlying43 hi hz0 hz1 hz2 rfl (by decide) _ _ _ rfl ((unhide O2).alloc (Obj.cells #[.int .i64 (v:Int)] 3)) (.slice (some ⟨w.heap.size,0,none⟩) 1 1) 1 [.int .i64 (v:Int)] rfl (.inr ⟨⟨w.heap.size,0,none⟩,1,rfl,World.news_of_block (cs:=#[.int .i64 (v:Int)]) (t:=3) (fr:=(0,0)) (heap_alloc_new w _)⟩) rfl (by simp [Value.oneCell']) (by unfold maxLen;omega) (by omega) (Nat.zero_le _) ?_)
 intro v6 w6 A6
 have A7:Appended (w.alloc (Obj.cells #[.int .i64 (v:Int)] 3)) 0 3 1 (V 2) (X 2).length (X 2) 1 [.int .i64 (v:Int)] v6 w6:=by rw [unhide E2,unhide HX2,nats_len];exact A6
 obtain ⟨s6,c6,k6,z6⟩:=(unhide HS).push (m:=1) (news:=[.int .i64 (v:Int)]) rfl A7
 rw [unhide E2] at k6
 obtain ⟨va6,vc6,hv6⟩:=own_shape A6.own
 subst hv6
 have S6:=hide s6
 have C6:=hide c6
 clear A6 A7 s6 c6 q2 O2
 go_upto_region 1 with fail
 generalize hW1:w6.setCell ⟨hb,0,none⟩ (.slice va6 (items.length + 1) vc6)=W1 at S6 C6 ⊢
 clear hW1 k6 z6
 have XE:Hid (upd X 2 (X 2 ++ [.int .i64 (v:Int)]) 2=nats (items ++ [v])):=by unfold Hid;rw [upd_self,unhide HX2,nats_append];rfl
 have M6:OrM n n (upd X 2 (X 2 ++ [.int .i64 (v:Int)])) (items ++ [v]) pl bz:=⟨by rw [upd_other _ _ (by decide)];exact (unhide HM).n0,by rw [upd_other _ _ (by decide)];exact (unhide HM).t0,by rw [upd_other _ _ (by decide)];exact (unhide HM).i0,by rw [upd_other _ _ (by decide)];exact (unhide HM).n1,by rw [upd_other _ _ (by decide)];exact (unhide HM).t1,unhide XE⟩
 have q2:=(unhide S6).cells.2.2.2.2.1
 rw [upd_self] at q2
 have QR:=hide (rise_any (unhide S6) M6 (unhide HP) (by simp) hpn (by omega) (by simp;omega))
 clear M6 XE
 generalize upd X 2 (X 2 ++ [.int .i64 (v:Int)])=X6 at *
 generalize upd V 2 (.slice va6 (items.length + 1) vc6)=V6 at *
 go_wp2_with (go_at_call 173;refine (unhide QR).mono ?_;rintro e7 w7 ⟨rfl,hp7⟩;have P7:=hide hp7;clear hp7;simp only [])
 go_end0
 obtain ⟨X',items',pl',r1,r2,r3,r4,r5,r6⟩:=(unhide P7).ex
 exact ⟨rfl,(unhide C6).trans r6,⟨_,_,X',items',pl',bz,r1,r2,r3,r5⟩,hpn,by omega⟩
def FbRet (w:World) (p len:Nat) (e:Ending) (w':World):Prop:=∃ (b:Nat) (ok:Bool),e=.returned (.tuple #[.int .i64 ((b:Nat):Int),.bool ok])∧(ok=true→p < b∧b < len)∧∃ k,w'=w.drewN k
set_option maxHeartbeats 2000000 in
set_option maxRecDepth 100000 in
theorem firstBelow_any (h:Ord Z ob hb w wt V X) (hM:OrM n g X items pl bz) (hlt:∀ v ∈ items,v < n) {p:Nat} (hp:p < items.length) (hlen:items.length ≤ 1000):
  Calls Tryz.prog 244 #[.pointer (some ⟨hb,0,none⟩),.int .i64 (p:Nat)] w fun e w'=>FbRet w p items.length e w':=by
 obtain ⟨g2,c2,q0,r0⟩:=h.item hM hp
 have qa:=h.cells.2.2.2.2.2.1
 unfold ahead at qa
 have p0:(0:Int) ≤ (p:Int):=by omega
 have p1:(p:Int) < 1000:=by omega
 have F:Hid (∀ (b:Nat) (ok:Bool) k,(ok=true→p < b∧b < items.length)→FbRet w p items.length (.returned (.tuple #[.int .i64 ((b:Nat):Int),.bool ok])) (w.drewN k)):=fun b ok k hh=>⟨b,ok,rfl,hh,k,rfl⟩
 by_cases hr:2 * p + 2 < items.length
 ·obtain ⟨g2',c2',q2',r2⟩:=h.item hM hr
  obtain ⟨g2'',c2'',q2'',r1⟩:=h.item hM (show 2 * p + 1 < items.length by omega)
  rw [q0] at q2' q2''
  obtain ⟨e1,_,e3⟩:=Value.slice.inj (Option.some.inj q2')
  obtain ⟨e1',_,e3'⟩:=Value.slice.inj (Option.some.inj q2'')
  obtain rfl:g2=g2':=by have:=Option.some.inj e1;exact congrArg Addr.block this
  obtain rfl:g2=g2'':=by have:=Option.some.inj e1';exact congrArg Addr.block this
  subst e3 e3'
  obtain ⟨x,hx⟩:∃ x,x=items[2 * p + 2]:=⟨_,rfl⟩
  obtain ⟨y,hy⟩:∃ y,y=items[2 * p + 1]:=⟨_,rfl⟩
  have xn:x < n:=by rw [hx];exact hlt _ (List.getElem_mem _)
  have yn:y < n:=by rw [hy];exact hlt _ (List.getElem_mem _)
  rw [← hx] at r2
  rw [← hy] at r1
  have QB:Hid (∀ j,Calls Tryz.prog 126 #[.pointer (some ⟨ob,0,none⟩),.int .i64 (x:Nat),.int .i64 (y:Nat)] (w.drewN j) fun e w'=>e=.returned (.bool (decide (bz y < bz x)))∧∃ k,w'=(w.drewN j).drewN k):=fun j=>isBusier_any (h.later (below_drewN (Below.refl _ _) _)) hM xn yn
  have a0:(0:Int) ≤ 2 * (p:Int) + 2:=by omega
  have a1:2 * (p:Int) + 2 < (items.length:Int):=by omega
  have a2:(2 * (p:Int) + 2).toNat=2 * p + 2:=by omega
  have b0:(0:Int) ≤ 2 * (p:Int) + 1:=by omega
  have b1:2 * (p:Int) + 1 < (items.length:Int):=by omega
  have b2:(2 * (p:Int) + 1).toNat=2 * p + 1:=by omega
  have F1:=hide (fun k=>unhide F (2 * p + 2) true k (fun _=>by omega))
  have F2:=hide (fun k=>unhide F (2 * p + 1) true k (fun _=>by omega))
  rw [show ((2 * p + 2:Nat):Int)=2 * (p:Int) + 2 by omega] at F1
  rw [show ((2 * p + 1:Nat):Int)=2 * (p:Int) + 1 by omega] at F2
  generalize decide (bz y < bz x)=bb at QB
  clear h hM hx hy F q2' q2'' e1 e1' r0
  go_enter Tryz.func244,Tryz.ntmps244
  go_upto_region 2 with fail
  go_quiet ((go_at_call 126;exact Calls.quiet_of (unhide QB _)))
  cases bb with
  | true=>
   go_wp2
   go_ret2
   exact unhide F1 _
  | false=>
   obtain ⟨W1,hW1⟩:∃ W1,W1=w.drewN nq:=⟨_,rfl⟩
   have hh1:W1.heap=w.heap:=by rw [hW1];rfl
   rw [← hW1]
   rw [← same_cell hh1] at q0
   have F3:Hid (∀ k,FbRet w p items.length (.returned (.tuple #[.int .i64 (2 * (p:Int) + 1),.bool true])) (W1.drewN k)):=fun k=>by rw [hW1,World.drewN_drewN];exact unhide F2 _
   clear hW1 hh1
   go_upto_region 4 with fail
   go_quiet (fail)
   go_wp2
   go_ret2
   exact unhide F3 _
 ·have a1:¬ (2 * (p:Int) + 2 < (items.length:Int)):=by omega
  obtain ⟨bl,hbl,HBL⟩:∃ bl,decide (2 * (p:Int) + 1 < (items.length:Int))=bl∧Hid (bl=true→p < 2 * p + 1∧2 * p + 1 < items.length):=⟨_,rfl,fun e=>by have:=of_decide_eq_true e;omega⟩
  have F2:=hide (fun k=>unhide F (2 * p + 1) bl k (unhide HBL))
  rw [show ((2 * p + 1:Nat):Int)=2 * (p:Int) + 1 by omega] at F2
  clear h hM F r0
  go_enter Tryz.func244,Tryz.ntmps244
  go_upto_region 2 with fail
  go_quiet (fail)
  obtain ⟨W1,hW1⟩:∃ W1,W1=w.drewN nq:=⟨_,rfl⟩
  have hh1:W1.heap=w.heap:=by rw [hW1];rfl
  rw [← hW1]
  rw [← same_cell hh1] at q0
  have F3:Hid (∀ k,FbRet w p items.length (.returned (.tuple #[.int .i64 (2 * (p:Int) + 1),.bool bl])) (W1.drewN k)):=fun k=>by rw [hW1,World.drewN_drewN];exact unhide F2 _
  clear hW1 hh1
  go_upto_region 4 with fail
  go_quiet (fail)
  go_wp2
  go_ret2
  exact unhide F3 _
end So
end Go.Proofs.YtceahffmenbibaaGreatDoor
namespace Go.Proofs.YtceahffmenbibaaGreatDoor
namespace So
open Go Go.RowKit Go.Deep Rd
variable {Z:Nat→Prop} {ob hb:Nat} {w w':World} {wt:Int} {V:Nat→Value} {X:Nat→List Value} {n g:Nat} {items:List Nat} {pl bz:Nat→Int}
set_option maxHeartbeats 2000000 in
set_option maxRecDepth 100000 in
theorem fall_any (h:Ord Z ob hb w wt V X) (hM:OrM n g X items pl bz) {item:Nat} (hp:HpH n item 0 items pl) (hg:pl g=-1) (hig:item ≠ g) (hlen:items.length ≤ 1000):
  Calls Tryz.prog 226 #[.pointer (some ⟨hb,0,none⟩),.int .i64 (item:Nat)] w fun e w'=>e=.returned (.tuple #[])∧HeapPost Z ob hb w wt V n g items.length (fun v=>pl v=-1∧v ≠ item) bz w':=by
 have S0:Hid (HoleSt Z ob hb w wt V n g item items pl bz 0 X items pl w):=⟨h,hM,hp,rfl,fun _ _=>Iff.rfl,Chg.refl _⟩
 clear h hM hp
 go_enter Tryz.func226,Tryz.ntmps226
 go_wp2_with fail
 go_loopw [4,5,6] (fun s4 _ _ wr=>RiseRel Z ob hb w wt V n g item items pl bz s4 wr) (fun s4 _ _ _=>items.length - (intOf s4).toNat)
 case atStart=>exact ⟨0,X,items,pl,rfl,S0⟩
 case round=>
  clear S0
  obtain ⟨k,X',items',pl',rfl,hst⟩:=hrel
  have hkl:k < items'.length:=(unhide hst).hp.hho
  have hln:=(unhide hst).len
  have QF:=hide (firstBelow_any (unhide hst).ord (unhide hst).orm (unhide hst).hp.lt hkl (by omega))
  go_upto_region 2 with (go_at_call 244;refine (unhide QF).mono ?_;rintro e7 w7 ⟨b,ok,rfl,hok,j7,rfl⟩;have HOK:=hide hok;clear hok;simp only [])
  obtain ⟨W1,hW1⟩:∃ W1,W1=wr.drewN j7:=⟨_,rfl⟩
  have b1:Below wr.heap.size wr W1:=by rw [hW1];exact below_drewN (Below.refl _ _) _
  rw [← hW1]
  have T1:=hide ((unhide hst).later b1)
  clear hW1 b1 hst QF
  have FIN:Hid (∀ W2,Below W1.heap.size W1 W2→Calls Tryz.prog 203 #[.pointer (some ⟨hb,0,none⟩),.int .i64 (k:Nat),.int .i64 (item:Nat)] W2 fun e w'=>e=.returned (.tuple #[])∧HeapPost Z ob hb w wt V n g items.length (fun v=>pl v=-1∧v ≠ item) bz w'):=fun W2 hb2=>by
   have T2:=(unhide T1).later hb2
   refine (put_any T2.ord T2.orm (v:=item) (p:=k) T2.hp.hit hkl).mono ?_
   rintro e7 w7 ⟨h1,h2,h3⟩
   exact ⟨h1,T2.close hig h2 h3⟩
  cases ok with
  | false=>
   go_quiet (fail)
   have QE:=hide (unhide FIN (W1.drewN nq) (below_drewN (Below.refl _ _) _))
   go_wp2_with (go_at_call 203;refine (unhide QE).mono ?_;rintro e8 w8 ⟨rfl,hp8⟩;have P8:=hide hp8;clear hp8;simp only [])
   go_end0
   exact ⟨rfl,unhide P8⟩
  | true=>
   obtain ⟨hkb,hbl⟩:=unhide HOK rfl
   obtain ⟨g2',c2',qh,rm⟩:=(unhide T1).ord.item (unhide T1).orm hbl
   have qa:=(unhide T1).ord.cells.2.2.2.2.2.1
   unfold ahead at qa
   obtain ⟨x,hx⟩:∃ x,x=items'[b]:=⟨_,rfl⟩
   have hxn:x < n:=by rw [hx];exact (unhide T1).hp.lt _ (List.getElem_mem _)
   have QB:Hid (∀ j,Calls Tryz.prog 126 #[.pointer (some ⟨ob,0,none⟩),.int .i64 (x:Nat),.int .i64 (item:Nat)] (W1.drewN j) fun e w'=>e=.returned (.bool (decide (bz item < bz x)))∧∃ k,w'=(W1.drewN j).drewN k):=fun j=>isBusier_any ((unhide T1).ord.later (below_drewN (Below.refl _ _) _)) (unhide T1).orm hxn (unhide T1).hp.hit
   rw [← hx] at rm
   have HX:=hide hx
   have m0:(0:Int) ≤ (b:Int):=by omega
   have m1:(b:Int) < (items'.length:Int):=by omega
   have hbne:b ≠ k:=by omega
   have HLN:=hide hln
   clear hx hln
   generalize decide (bz item < bz x)=bb at QB
   go_quiet ((go_at_call 126;exact Calls.quiet_of (unhide QB _)))
   obtain ⟨W2,hW2⟩:∃ W2,W2=W1.drewN nq:=⟨_,rfl⟩
   have b2:Below W1.heap.size W1 W2:=by rw [hW2];exact below_drewN (Below.refl _ _) _
   rw [← hW2]
   have T2:=hide ((unhide T1).later b2)
   have QE:=hide (unhide FIN W2 b2)
   clear hW2 b2 T1 QB qh rm qa FIN
   cases bb with
   | false=>
    go_wp2_with (go_at_call 203;refine (unhide QE).mono ?_;rintro e8 w8 ⟨rfl,hp8⟩;have P8:=hide hp8;clear hp8;simp only [])
    go_end0
    exact ⟨rfl,unhide P8⟩
   | true=>
    have QP:=hide (put_any (unhide T2).ord (unhide T2).orm (v:=x) (p:=k) hxn hkl)
    have MV:=hide (fun wx ho hc=>(unhide T2).move (wx:=wx) hg hig hbl hbne ho hc)
    rw [← unhide HX] at MV
    obtain ⟨g3,c3,qh,rm⟩:=(unhide T2).ord.item (unhide T2).orm hbl
    rw [← unhide HX] at rm
    clear T2 QE
    go_wp2_with (go_at_call 203;refine (unhide QP).mono ?_;rintro e8 w8 ⟨rfl,ho8,hc8⟩;have F8:=hide (unhide MV w8 ho8 hc8);clear ho8 hc8;simp only [])
    go_roundw
    case rel=>exact ⟨b,_,_,_,rfl,F8⟩
    case measure=>have:=unhide HLN;simp [intOf];omega
theorem OrM.placed (h:OrM n g X items pl bz) (hg:g < n) (hpl:pl g=-1):OrM n n (upd X 0 ((X 0).set g (.int .i64 (-1)))) items pl bz where
 n0:=by rw [upd_self,List.length_set];exact h.n0
 t0:=fun v hv _=>by
  rw [upd_self]
  by_cases e:v=g
  ·subst e;rw [List.getElem?_set_self (by rw [h.n0];exact hv),hpl]
  ·rw [List.getElem?_set_ne (fun e2=>e e2.symm)];exact h.t0 v hv e
 i0:=fun v hv=>by
  rw [upd_self]
  by_cases e:v=g
  ·subst e;exact ⟨_,List.getElem?_set_self (by rw [h.n0];exact hv)⟩
  ·rw [List.getElem?_set_ne (fun e2=>e e2.symm)];exact h.i0 v hv
 n1:=by rw [upd_other _ _ (by decide)];exact h.n1
 t1:=by rw [upd_other _ _ (by decide)];exact h.t1
 t2:=by rw [upd_other _ _ (by decide)];exact h.t2
def PopRet (Z:Nat→Prop) (ob hb n:Nat) (w:World) (gone:Nat→Prop) (e:Ending) (w':World):Prop:=
 Chg Z w w'∧((e=.returned (.tuple #[.int .i64 0,.bool false])∧(∀ v,v < n→gone v)∧OrdI Z ob hb n w' gone)∨∃ v:Nat,e=.returned (.tuple #[.int .i64 (v:Nat),.bool true])∧v < n∧¬ gone v∧OrdI Z ob hb n w' (fun x=>gone x∨x=v))
set_option maxHeartbeats 2000000 in
set_option maxRecDepth 100000 in
theorem pop_any {gone:Nat→Prop} (h:OrdI Z ob hb n w gone) (hn:n ≤ 50):
  Calls Tryz.prog 191 #[.pointer (some ⟨hb,0,none⟩)] w fun e w'=>PopRet Z ob hb n w gone e w':=by
 obtain ⟨wt,V,X,items,pl,bz,hO,hM,hp,hgo⟩:=h.ex
 have ll:=hp.len
 obtain ⟨a2,c2,e2⟩:=hO.fam.shape (k:=2) (by omega)
 have l2:(X 2).length=items.length:=by rw [hM.t2,nats_len]
 have q2:=hO.cells.2.2.2.2.1
 rw [e2,l2] at q2
 by_cases hl0:items.length=0
 ·have F:Hid (PopRet Z ob hb n w gone (.returned (.tuple #[.int .i64 0,.bool false])) w):=⟨Chg.refl _,.inl ⟨rfl,fun v hv=>(hgo v).1 (hp.empty hl0 hv),h⟩⟩
  rw [hl0] at q2
  clear h hO hM hp hgo e2 l2 hl0
  go_enter Tryz.func191,Tryz.ntmps191
  go_wp2
  go_ret2
  exact unhide F
 ·obtain ⟨l,hl⟩:∃ l,items.length=l + 1:=⟨items.length - 1,by omega⟩
  obtain ⟨g2,c2',q2',r0⟩:=hO.item hM (show 0 < items.length by omega)
  obtain ⟨g2',c2'',q2'',rl⟩:=hO.item hM (show l < items.length by omega)
  rw [q2] at q2' q2''
  obtain ⟨e1,_,e3⟩:=Value.slice.inj (Option.some.inj q2')
  obtain ⟨e1',_,e3'⟩:=Value.slice.inj (Option.some.inj q2'')
  subst e1 e3
  obtain rfl:g2=g2':=by have:=Option.some.inj e1';exact congrArg Addr.block this
  obtain ⟨first,hf⟩:∃ x,x=items[0]:=⟨_,rfl⟩
  obtain ⟨lastv,hla⟩:∃ x,x=items[l]:=⟨_,rfl⟩
  have hf? : items[0]? = some first:=by rw [hf];exact List.getElem?_eq_getElem _
  have hl? : items[l]? = some lastv:=by rw [hla];exact List.getElem?_eq_getElem _
  have fn:first < n:=by rw [hf];exact hp.lt _ (List.getElem_mem _)
  have ln:lastv < n:=by rw [hla];exact hp.lt _ (List.getElem_mem _)
  have plf:pl first=(0:Nat):=by rw [hf];exact hp.pl 0 (by omega)
  have pll:pl lastv=(l:Nat):=by rw [hla];exact hp.pl l (by omega)
  rw [← hf] at r0
  rw [← hla] at rl
  obtain ⟨s1,c1⟩:=hO.cut e2 (m:=l) (by omega)
  rw [hM.t2,nats_take] at s1
  have M1:OrM n first (upd X 2 (nats (items.take l))) (items.take l) (updN pl first (-1)) bz:=⟨by rw [upd_other _ _ (by decide)];exact hM.n0,fun v hv hvf=>by rw [upd_other _ _ (by decide),updN_other _ _ hvf];exact hM.t0 v hv (by omega),by rw [upd_other _ _ (by decide)];exact hM.i0,by rw [upd_other _ _ (by decide)];exact hM.n1,by rw [upd_other _ _ (by decide)];exact hM.t1,upd_self ..⟩
  have ngf:¬ gone first:=fun hgg=>by have:=(hgo first).2 hgg;omega
  have DONE:Hid (∀ W Vx X' items' pl',Chg Z w W→Ord Z ob hb W wt Vx X'→OrM n first X' items' pl' bz→HpI n items' pl'→(∀ v,pl' v=-1↔gone v∨v=first)→Calls Tryz.prog 127 #[.pointer (some ⟨ob,0,none⟩),.int .i64 (first:Nat),.int .i64 (-1)] W fun e w'=>e=.returned (.tuple #[])∧PopRet Z ob hb n w gone (.returned (.tuple #[.int .i64 (first:Nat),.bool true])) w'):=fun W Vx X' items' pl' hc ho hm hi hgone=>by
   refine (setPlace_any ho hm (-1) fn).mono ?_
   rintro e7 w7 ⟨h1,h2,h3⟩
   refine ⟨h1,hc.trans h3,.inr ⟨first,rfl,fn,ngf,⟨wt,Vx,_,items',pl',bz,h2,hm.placed fn ((hgone first).2 (.inr rfl)),hi,hgone⟩,.inl h.last⟩⟩
  have G1:∀ v,updN pl first (-1) v=-1↔gone v∨v=first:=fun v=>by
   by_cases e:v=first
   ·subst e;rw [updN_self];simp
   ·rw [updN_other _ _ e,hgo v];simp [e]
  have cap2:l ≤ c2:=by
   have:=hO.fam.own 2 (by omega)
   rw [e2] at this
   rcases this.2 with ⟨e,_⟩ | ⟨_,cap',_,e,_,_,hn',_⟩
   ·cases e
   ·obtain ⟨_,_,q⟩:=Value.slice.inj e;rw [l2] at hn';omega
  have S1:=hide s1
  have C1:=hide c1
  have HM1:=hide M1
  have i0:(0:Int) < (l:Int) + 1:=by omega
  have i1:(l:Int) < (l:Int) + 1:=by omega
  have i2:(l:Int) ≤ (c2:Int):=by omega
  have i3:(l:Int) + 1 ≤ 50:=by omega
  have i4:(0:Int) ≤ (l:Int):=by omega
  have zz:=hO.cells.2.2.2.2.2.2.2.1
  rw [hl] at q2
  have HPI:=hide hp
  have HLL:=hide hl
  have HF:=hide hf?
  have HLA:=hide hl?
  clear h hO hM hp hgo e2 l2 q2' q2'' e1' e3' s1 c1 M1 hf hla hf? hl? hl hl0
  go_enter Tryz.func191,Tryz.ntmps191
  go_upto_region 8 with fail
  generalize hW1:w.setCell ⟨hb,0,none⟩ (.slice (some ⟨g2,0,none⟩) l c2)=W1 at S1 C1 ⊢
  generalize upd V 2 (.slice (some ⟨g2,0,none⟩) l c2)=V1 at S1
  generalize upd X 2 (nats (items.take l))=X1 at S1 HM1
  clear hW1 q2 r0 rl zz
  have qp:=(unhide S1).cells.2.2.2.2.2.2.1
  unfold placed at qp
  cases l with
  | zero=>
   have QD:=hide (unhide DONE W1 V1 X1 (items.take 0) (updN pl first (-1)) (unhide C1) (unhide S1) (unhide HM1) ((unhide HPI).popOne (unhide HLL) (unhide HF)) G1)
   clear DONE G1 S1 HM1
   go_wp2_with (go_at_call 127;refine (unhide QD).mono ?_;rintro e7 w7 ⟨rfl,hp7⟩;have P7:=hide hp7;clear hp7;simp only [])
   go_ret2
   exact unhide P7
  | succ m=>
   have lne:lastv ≠ first:=fun e=>by rw [e,plf] at pll;omega
   have HH:=(unhide HPI).pop (l:=m) (unhide HLL) (unhide HF) (unhide HLA)
   have QF:=hide (fall_any (unhide S1) (unhide HM1) HH (updN_self ..) lne (by rw [List.length_take];omega))
   have D2:Hid (∀ W,HeapPost Z ob hb W1 wt V1 n first (items.take (m + 1)).length (fun v=>updN pl first (-1) v=-1∧v ≠ lastv) bz W→W.cell? ⟨hb,2,none⟩=some (.func (.func 127) #[.pointer (some ⟨ob,0,none⟩)] #[])∧Calls Tryz.prog 127 #[.pointer (some ⟨ob,0,none⟩),.int .i64 (first:Nat),.int .i64 (-1)] W fun e w'=>e=.returned (.tuple #[])∧PopRet Z ob hb n w gone (.returned (.tuple #[.int .i64 (first:Nat),.bool true])) w'):=fun W hpW=>by
    obtain ⟨X',items',pl',r1,r2,r3,r4,r5,r6⟩:=hpW.ex
    refine ⟨r1.cells.2.2.2.2.2.2.1,unhide DONE W V1 X' items' pl' ((unhide C1).trans r6) r1 r2 r3 fun v=>?_⟩
    rw [r5 v,G1 v]
    constructor
    ·exact fun h=>h.1
    ·intro h
     refine ⟨h,fun e=>?_⟩
     subst e
     have h2:=(G1 v).2 h
     rw [updN_other _ _ lne,pll] at h2
     omega
   have l0:(0:Int) < ((m + 1:Nat):Int):=by omega
   clear DONE G1 S1 HM1 HH qp
   go_wp2_with (first
    |(go_at_call 226;refine (unhide QF).mono ?_;rintro e7 w7 ⟨rfl,hp7⟩;obtain ⟨qp,hd2⟩:=unhide D2 w7 hp7;have QD:=hide hd2;clear hd2 hp7;simp only [])
    |(go_at_call 127;refine (unhide QD).mono ?_;rintro e8 w8 ⟨rfl,hp8⟩;have P8:=hide hp8;clear hp8;simp only []))
   go_ret2
   exact unhide P8
end So
end Go.Proofs.YtceahffmenbibaaGreatDoor
