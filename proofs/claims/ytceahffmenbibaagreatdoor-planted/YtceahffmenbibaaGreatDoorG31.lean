/- Sbac Scho Stry Lmath Slbw Sbeg. -/
import Derived.Test.YtceahffmenbibaaGreatDoorG09
import Derived.Test.YtceahffmenbibaaGreatDoorG02
import Derived.Deep.RegionLaw
import Derived.Lib.ItoaNum
import Derived.Laws.MathBits
import Derived.Test.YtceahffmenbibaaGreatDoorChecked
import Derived.WalkKit
import Derived.WalkLawsBesides
import Derived.WalkSpells
import Derived.Below
import Derived.Test.YtceahffmenbibaaGreatDoorL00
set_option linter.unusedVariables false
set_option linter.unusedSimpArgs false
set_option maxHeartbeats 4000000
set_option maxRecDepth 100000
namespace Go.Proofs.YtceahffmenbibaaGreatDoor
namespace So
section
open Go Go.RowKit Go.Deep Rd
variable {Z:Nat->Prop} {sb ob hb K n:Nat} {w wr wx:World} {f f' V V':Nat->Value} {X X':Nat->List Value} {gone gB:Nat->Prop} {Rs Ro ko vB:Nat->Prop} {tr ch:List Nat} {lev:Nat->Nat} {rea:Nat->Int}
structure Fy (n:Nat) (X:Nat->List Value):Prop where
 n6:(X 6).length=n
 t6:∀ v,v < n->∃ x:Nat,(X 6)[v]? = some (.int .i64 (x:Nat))/\x / 2=v
theorem Fy.set (h:Fy n X) {v x:Nat} (hx:x / 2=v):Fy n (upd X 6 ((X 6).set v (.int .i64 (x:Nat)))) where
 n6:=by rw [ae,List.length_set];exact h.n6
 t6:=fun u hu=>by
  rw [ae];by_cases e:u=v
  ·subst e;exact ⟨x,List.getElem?_set_self (by rw [h.n6];exact hu),hx⟩
  ·rw [List.getElem?_set_ne (fun e2=>e e2.symm)];exact h.t6 u hu
structure rX (Z:Nat->Prop) (sb ob hb n:Nat) (w:World) (K:Nat) (f V:Nat->Value) (X:Nat->List Value) (gone:Nat->Prop) (g1:Nat) (und:List Nat) (s i:Nat) (X':Nat->List Value) (Rs Ro:Nat->Prop) (wr:World):Prop where
 duo:Duo Z sb ob hb n wr K f V X' (fun v=>gone v/\∀ x ∈ und.take i,x / 2 ≠ v) Rs Ro
 lam:Fy n X'
 only:∀ k,k ≠ 6->X' k=X k
 cell:∀ j (hj:j < und.length),wr.cell? ⟨g1,s + j,none⟩=some (.int .i64 (und[j]:Nat))
 rs1:Rs g1
 Tj:g1 < wr.heap.size
 bD:aC Z w wr
def XN (Z:Nat->Prop) (sb ob hb n:Nat) (w:World) (K:Nat) (f V:Nat->Value) (X:Nat->List Value) (gone:Nat->Prop) (g1:Nat) (und:List Nat) (s:Nat) (sv:Value) (wr:World):Prop:=
 ∃ (i:Nat) (X':Nat->List Value) (Rs Ro:Nat->Prop),sv=.int .i64 ((i:Nat):Int)/\i <= und.length/\Hid (rX Z sb ob hb n w K f V X gone g1 und s i X' Rs Ro wr)
def Ip (Z:Nat->Prop) (sb ob hb n:Nat) (w:World) (K:Nat) (f V:Nat->Value) (X:Nat->List Value) (gone:Nat->Prop) (tr ch:List Nat) (lev:Nat->Nat) (rea:Nat->Int) (d s:Nat) (e:Ending) (w':World):Prop:=
 e=.returned (.tuple #[])/\aC Z w w'/\∃ (f' V':Nat->Value) (X':Nat->List Value) (Rs Ro:Nat->Prop),Duo Z sb ob hb n w' K f' V' X' (fun v=>gone v/\∀ x ∈ tr.drop s,x / 2 ≠ v) Rs Ro/\Fy n X'/\iW n X' (tr.take s) (ch.take d) lev rea/\f' 7=.int .i64 (s:Nat)/\(∀ j,j ≠ 6->j ≠ 7->j ≠ 8->f' j=f j)/\(∀ k,k ≠ 1->k ≠ 2->k ≠ 3->k ≠ 6->X' k=X k)/\∀ k,k ≠ 1->k ≠ 2->V' k=V k
variable {g1 s i:Nat} {und:List Nat}
theorem rX.mark (h:rX Z sb ob hb n w K f V X gone g1 und s i X' Rs Ro wr) {v x g6 c6:Nat} (hv:v < n) (hx:x / 2=v) (e6:V 6=.slice (some ⟨g6,0,none⟩) n c6) (hz:zz Rs wr g6) (hne:g6 ≠ g1):rX Z sb ob hb n w K f V X gone g1 und s i (upd X' 6 ((X' 6).set v (.int .i64 (x:Nat)))) (fun g=>zz Rs wr g/\g < (wr.setCell ⟨g6,v,none⟩ (.int .i64 (x:Nat))).heap.size) Ro (wr.setCell ⟨g6,v,none⟩ (.int .i64 (x:Nat))):=by
 obtain ⟨d1,d2⟩:=h.duo.dH (h.duo.aG.set (k:=6) (by have:=h.duo.aG.hK;omega) e6 v (.int .i64 (x:Nat))) ((aC.refl _).setCell hz _) rfl
 have hsz:(wr.setCell ⟨g6,v,none⟩ (.int .i64 (x:Nat))).heap.size=wr.heap.size:=by simp [World.setCell]
 exact ⟨d1,h.lam.set hx,fun k hk=>by rw [aa _ _ hk];exact h.only k hk,fun j hj=>by rw [World.cell?_setCell_far _ _ _ _ (by simpa using hne)];exact h.cell j hj,⟨.inl h.rs1,by rw [hsz];exact h.Tj⟩,by rw [hsz];exact h.Tj,h.bD.trans d2⟩
theorem rX.waits (h:rX Z sb ob hb n w K f V X gone g1 und s i X' Rs Ro wr) (hi:i < und.length) {v:Nat} (hv:und[i] / 2=v) (ho:eU (zz Ro wr) ob hb n wx (fun u=>(gone u/\∀ x ∈ und.take i,x / 2 ≠ u)/\u ≠ v)) (hc:aC (zz Ro wr) wr wx):rX Z sb ob hb n w K f V X gone g1 und s (i + 1) X' Rs (fun g=>zz Ro wr g/\g < wx.heap.size) wx:=by
 have ho':eU (zz Ro wr) ob hb n wx (fun u=>gone u/\∀ x ∈ und.take (i + 1),x / 2 ≠ u):=ho.congr fun u=>by
  rw [List.take_add_one,List.getElem?_eq_getElem hi,Option.toList_some];constructor
  ·rintro ⟨⟨h1,h2⟩,h3⟩;refine ⟨h1,fun x hx=>?_⟩
   rcases List.mem_append.1 hx with hx | hx
   ·exact h2 x hx
   ·simp at hx;subst hx;rw [hv];exact fun e=>h3 e.symm
  ·rintro ⟨h1,h2⟩;exact ⟨⟨h1,fun x hx=>h2 x (List.mem_append_left _ hx)⟩,fun e=>h2 und[i] (List.mem_append_right _ (List.mem_singleton.2 rfl)) (by rw [hv,e])⟩
 obtain ⟨d1,d2⟩:=h.duo.vP ho' hc;refine ⟨d1,h.lam,h.only,fun j hj=>?_,h.rs1,Nat.lt_of_lt_of_le h.Tj hc.size,h.bD.trans d2⟩
 rw [World.cell?_of_block (w:=wr) (a:=⟨g1,s + j,none⟩) (hc.block g1 h.Tj fun e=>h.duo.xu g1 h.rs1 (eY h.Tj e))]
 exact h.cell j hj
theorem zn {d:Nat} (D:Duo Z sb ob hb n w K f V X gone Rs Ro) (hn:n <= 50) (hT:iW n X tr ch lev rea) (ht:fM n tr ch lev) (GV:Fy n X) (hd:d < ch.length):
  Calls Tryz.prog 137 #[.pointer (some ⟨sb,0,none⟩),.int .i64 (d:Nat)] w fun e w'=>Ip Z sb ob hb n w K f V X gone tr ch lev rea d ch[d] e w':=by
 have hK:=D.aG.hK;have tl:=ht.len;have dl:=ht.depth;have hst:=ht.dX.2 _ (List.getElem_mem hd);obtain ⟨s,hs⟩:∃ s,ch[d]=s:=⟨_,rfl⟩;rw [hs] at hst ⊢;have QB:=hide (P6 d n s tr ch D.aG hT.l1 hT.l2 hd hs hst hT.n3 ht.lt hn (by omega) (by omega))
 have BQ:Hid (∀ e wb,BP (zz Rs w) sb w K f V X tr ch s d e wb->∃ (g1 c1:Nat) (f1 V1:Nat->Value) (X1:Nat->List Value) (qb:Nat->Prop),e=.returned (.slice (some ⟨g1,s,none⟩) (tr.length - s) (c1 - s))/\rX Z sb ob hb n w K f1 V1 X1 gone g1 (tr.drop s) s 0 X1 qb Ro wb/\iW n X1 (tr.take s) (ch.take d) lev rea/\f1 7=.int .i64 (s:Nat)/\(∀ j,j ≠ 6->j ≠ 7->j ≠ 8->f1 j=f j)/\(∀ k,k ≠ 1->k ≠ 2->k ≠ 3->X1 k=X k)/\(∀ k,k ≠ 1->k ≠ 2->V1 k=V k)/\∃ g6 c6,V1 6=.slice (some ⟨g6,0,none⟩) n c6/\g6 ≠ g1):=fun e wb hret=>by
  obtain ⟨g1,c1,g2,c2,e1,e2,he,hc,hcell,hsol⟩:=hret;obtain ⟨d1,d2⟩:=D.dH hsol hc (by rw [aa _ _ (by decide),aa _ _ (by decide),aa _ _ (by decide)])
  have hX:∀ k,k ≠ 1->k ≠ 2->k ≠ 3->upd (upd (upd X 3 (lG (X 3) (tr.drop s))) 1 (au (tr.take s))) 2 (au (ch.take d)) k=X k:=fun k h1 h2 h3=>by rw [aa _ _ h2,aa _ _ h1,aa _ _ h3]
  have ZJ:g1 < w.heap.size:=((D.aG.bC.own 1 (by omega)).lt g1 (by rw [e1];rfl)).2
  have g1z:zz Rs w g1:=D.aG.al 1 (by omega) g1 (by rw [e1];rfl)
  have npos:0 < n:=by omega
  obtain ⟨g6,c6,t6,e6,-⟩:=D.aG.elem (k:=6) (j:=0) (by omega) GV.n6 npos
  have n61:g6 ≠ g1:=fun e=>by
   rcases D.aG.bC.apart 6 1 (by omega) (by omega) (by decide) with h1 | h1
   ·rw [e6] at h1;cases h1
   ·exact h1 (by rw [e6,e1,e];rfl)
  refine ⟨g1,c1,_,_,_,(fun g=>zz Rs w g/\g < wb.heap.size),he,{
   duo:=by
    have e:(fun v=>gone v/\∀ x ∈ (tr.drop s).take 0,x / 2 ≠ v)=gone:=by funext v;simp
    rw [e];exact d1
   lam:=⟨by rw [hX 6 (by decide) (by decide) (by decide)];exact GV.n6,by rw [hX 6 (by decide) (by decide) (by decide)];exact GV.t6⟩
   only:=fun _ _=>rfl
   cell:=fun j hj=>by
    rw [List.length_drop] at hj;rw [hcell (s + j) (by omega),List.getElem_drop]
   rs1:=⟨g1z,Nat.lt_of_lt_of_le ZJ hc.size⟩
   Tj:=Nat.lt_of_lt_of_le ZJ hc.size
   bD:=d2 },?_,by rw [ae],fun j h6 h7 h8=>by rw [aa _ _ h7,aa _ _ h8,aa _ _ h6],hX,fun k h1 h2=>by rw [aa _ _ h2,aa _ _ h1],g6,c6,by rw [aa _ _ (by decide),aa _ _ (by decide)];exact e6,n61⟩
  exact hT.back ht (Nat.le_of_lt hst) (by rw [aa _ _ (by decide),ae]) (by rw [ae]) (by rw [aa _ _ (by decide),aa _ _ (by decide),ae]) (hX 4 (by decide) (by decide) (by decide)) (hX 5 (by decide) (by decide) (by decide))
 have Yj:Hid (∀ x ∈ tr.drop s,x < 2 * n):=fun x hx=>ht.lt x (List.mem_of_mem_drop hx)
 have hul:(tr.drop s).length=tr.length - s:=List.length_drop;have ulb:tr.length - s <= 50:=by omega
 clear D hT ht GV hs;have RET:Hid (∀ (f1 V1:Nat->Value) (X1 X2:Nat->List Value) Rj Ye wz g1 i,iW n X1 (tr.take s) (ch.take d) lev rea->f1 7=.int .i64 (s:Nat)->(∀ j,j ≠ 6->j ≠ 7->j ≠ 8->f1 j=f j)->(∀ k,k ≠ 1->k ≠ 2->k ≠ 3->X1 k=X k)->(∀ k,k ≠ 1->k ≠ 2->V1 k=V k)->i=(tr.drop s).length->rX Z sb ob hb n w K f1 V1 X1 gone g1 (tr.drop s) s i X2 Rj Ye wz->Ip Z sb ob hb n w K f V X gone tr ch lev rea d s (.returned (.tuple #[])) wz):=fun f1 V1 X1 X2 Rj Ye wz g1 i a1 a2 a3 a4 aV a5 a6=>by
  refine ⟨rfl,a6.bD,f1,V1,X2,Rj,Ye,?_,a6.lam,a1.congr fun k h1 h2=>a6.only k (by omega),a2,a3,fun k h1 h2 h3 h6=>(a6.only k h6).trans (a4 k h1 h2 h3),aV⟩
  have:=a6.duo;rw [a5,List.take_length] at this;exact this
 generalize Ip Z sb ob hb n w K f V X gone tr ch lev rea d s=RR at *
 generalize tr.drop s=und at *
 have HUL:=hide hul;rw [<- hul] at BQ ulb;clear hul;go_enter Tryz.func137,Tryz.ntmps137
 go_wp2_with (go_at_call 177;refine QB.out.mono ?_;intro e7 w7 WE;obtain ⟨g1,c1,f1,V1,X1,qb,rfl,hb1,ht1,Zt,Rb,KU,hvv,g6,c6,e6,n61⟩:=BQ.out e7 w7 WE;have VV:=hide hvv;have S1:=hide hb1;have T1:=hide ht1;have F7:=hide Zt;have FF:=hide Rb;have XX:=hide KU;have E6:=hide e6;clear WE hb1 ht1 Zt Rb KU hvv e6;simp only [])
 go_loopw [5,6,13] (fun _ _ s13 wr=>XN Z sb ob hb n w K f1 V1 X1 gone g1 und s s13 wr) (fun _ _ s13 _=>und.length - (intOf s13).toNat)
 case atStart=>exact ⟨0,X1,qb,Ro,rfl,Nat.zero_le _,S1⟩
 case round=>
  clear S1;obtain ⟨i,X',ko,vB,rfl,hil,hst⟩:=hrel;by_cases hlt:i < und.length
  ·have hci:=hst.out.cell i hlt;obtain ⟨x,hx⟩:∃ x,x=und[i]:=⟨_,rfl⟩;rw [<- hx] at hci;have hxl:x < 2 * n:=by rw [hx];exact Yj.out _ (List.getElem_mem _)
   have QV:=hide (fun Y=>bF x Y (by omega))
   obtain ⟨v,hvd⟩:∃ v,v=x / 2:=⟨_,rfl⟩;have hv:v < n:=by omega
   rw [<- hvd] at QV;have UB:und[i] / 2=v:=by rw [hvd,hx]
   have q6:=(hst.out.duo.aG.hd (k:=6) (by omega)).1
   rw [show cellOf 6=13 from rfl,E6.out] at q6
   obtain ⟨g6',c6',t6,e6',q6',r6,s6,z6,zz6,-⟩:=hst.out.duo.aG.elem (k:=6) (j:=v) (by omega) hst.out.lam.n6 hv
   rw [E6.out] at e6';obtain ⟨y1,_,y3⟩:=Value.slice.inj e6';obtain rfl:g6=g6':=by have:=Option.some.inj y1;exact congrArg Addr.block this
   subst y3;have S2:=hide (hst.out.mark hv hvd.symm E6.out zz6 n61);have v0:(0:Int) <= (v:Int):=by omega
   have v1:(v:Int) < (n:Int):=by omega
   have i0:(0:Int) <= (i:Int):=by omega
   have i1:(i:Int) < (und.length:Int):=by omega
   have i2:(i:Int) <= 50:=by omega
   have i3:(i:Int) < ((tr.length - s:Nat):Int):=by have:=HUL.out;omega
   clear hx hvd q6' s6 y1 e6' hst;go_upto_region 5 with (go_at_call 176;refine (QV.out _).mono ?_;rintro e9 w9 ⟨rfl,rfl⟩;simp only [])
   generalize hW2:w9.setCell ⟨g6,v,none⟩ (.int .i64 (x:Nat))=W2 at S2 ⊢;clear hW2 q6 r6 z6 hci;have QW:=hide (Mr S2.out.duo.ord hv hn);have Q9:=(S2.out.duo.aG.head 12 (by omega)).1
   rw [S2.out.duo.f12] at Q9;have NX:=hide (fun wx ho hc=>S2.out.waits (wx:=wx) hlt UB ho hc)
   clear S2;go_wp2_with (go_at_call 178;refine QW.out.mono ?_;rintro eA wA ⟨rfl,hcA,Zj⟩;have S3:=hide (NX.out wA Zj hcA);clear hcA Zj;simp only [])
   go_roundw
   case rel=>exact ⟨i + 1,_,_,_,by go_num,hlt,S3⟩
   case measure=>simp [intOf];omega
  ·have F:=hide (RET.out f1 V1 X1 X' ko vB wr g1 i T1.out F7.out FF.out XX.out VV.out (by omega) hst.out)
   have i3:¬ ((i:Int) < ((tr.length - s:Nat):Int)):=by have:=HUL.out;omega
   clear hst;go_wp2;go_end0;exact F.out
end
section
open Go Go.RowKit Go.Deep Rd
variable {Z:Nat->Prop} {sb K:Nat} {w w':World} {f V:Nat->Value} {X:Nat->List Value}
theorem Hy (x vars:Nat) (hx:x < 2 * vars) (hvars:vars <= 50) (h:aQ Z sb w K f V X) (h1:(X 1).length <= 1000) (h2:(X 2).length <= 1000) (h3:(X 3).length=2 * vars) (h4:(X 4).length=vars) (h5:(X 5).length=vars):
  Calls Tryz.prog 147 #[.pointer (some ⟨sb,6,none⟩),.int .i64 x] w fun e w'=>e=.returned (.tuple #[])/\aC Z w w'/\∃ v2 v1,aQ Z sb w' K (upd (upd f 8 v2) 6 v1) (upd (upd V 2 v2) 1 v1) (bN (upd X 2 (X 2 ++ [.int .i64 ((X 1).length:Nat)])) x (-1) ((X 2).length + 1)):=by
 obtain ⟨i0,hi,hz0,hz1,hz2⟩:=info_parts Tryz.cu;have HS:=hide h;have hK:=h.hK;have SD:Hid (aQ Z sb w.drew K f V X):=h.later (Below.refl _ _).drew;obtain ⟨a1,c1,e1⟩:=h.bC.shape (k:=1) (by omega)
 obtain ⟨a2,c2,e2⟩:=h.bC.shape (k:=2) (by omega)
 have q1:=(h.hd (k:=1) (by omega)).1
 have q2:=(h.hd (k:=2) (by omega)).1
 rw [show cellOf 1=6 from rfl,e1] at q1
 rw [show cellOf 2=8 from rfl,e2] at q2
 have O2:Hid (w.drew.ownsRow 0 3 1 (.slice a2 (X 2).length c2) (X 2).length (X 2)):=by
  have:=SD.out.bC.own 2 (by omega)
  rw [e2] at this;exact this
 have E2:=hide e2;have hsb:=h.row.lt;have ns:¬ (sb=w.heap.size):=by omega
 have BD:Hid (aC Z w w.drew):=(aC.refl _).drew;clear h e1 e2;go_enter Tryz.func147,Tryz.ntmps147
 go_upto_region 0 with fail
 go_cut [] from 4 (fun wx=>∃ v2,Hid (aQ Z sb wx K (upd f 8 v2) (upd V 2 v2) (upd X 2 (X 2 ++ [.int .i64 ((X 1).length:Nat)])))/\Hid (aC Z w wx))
 case first=>
  go_region_law
   (refine dR _ (by rfl) _ _ 43 (by rfl) 0 3 i0 (.int .i64 0) 1 8 Tryz.underlying43 hi hz0 hz1 hz2 (by rfl) (by decide) (.slice a2 (X 2).length c2) (X 2).length (X 2) (by rfl) (O2.out.alloc (Obj.cells #[.int .i64 ((X 1).length:Int)] 3)) (.slice (some ⟨w.heap.size,0,none⟩) 1 1) 1 [.int .i64 ((X 1).length:Int)] (by rfl) (.inr ⟨⟨w.heap.size,0,none⟩,1,rfl,(cell_one_new w.drew _ _)⟩) (by rfl) (by simp [Value.oneCell']) (by unfold maxLen;omega) (by omega) (Nat.zero_le _) ?_;intro v6 w6 A6;have A7:aB (w.drew.alloc (Obj.cells #[.int .i64 ((X 1).length:Int)] 3)) 0 (iC 2) 1 (V 2) (X 2).length (X 2) 1 [.int .i64 ((X 1).length:Int)] v6 w6:=(by rw [E2.out];exact A6);have S6:=hide (SD.out.push (k:=2) (m:=1) (news:=[.int .i64 ((X 1).length:Int)]) (by omega) rfl A7);have B6:=hide (BD.out.trans (SD.out.jY (k:=2) (by omega) A7 8 v6));have K6:=(SD.out.gM (k:=2) (by omega) A7 8 (by omega)).1;have K7:=(SD.out.gM (k:=2) (by omega) A7 8 (by omega)).2;obtain ⟨qL,qK,hv6⟩:=aH A6.own;subst hv6;clear A6 A7)
  all_goals
   go_wp2_with fail
   go_meet;exact ⟨_,S6,B6⟩
 case rest=>
  obtain ⟨v2,S1,B1⟩:=hcut;have QA:=hide (mW (w:=wc) x vars ((X 2).length + 1) (-1) hx hvars S1.out (by rw [aa _ _ (by decide)];exact h1) (by rw [ae];simp) (by rw [aa _ _ (by decide)];exact h3) (by rw [aa _ _ (by decide)];exact h4) (by rw [aa _ _ (by decide)];exact h5))
  go_wp2_with fail
  with_reducible refine QA.out.mono ?_
  rintro e6 w6 ⟨rfl,hb6,v1,hS6⟩;have B6:=hide (B1.out.trans hb6);have S6:=hide hS6;clear hb6 hS6;simp only [];go_wp2;go_end0;exact ⟨rfl,B6.out,v2,v1,S6.out⟩
end
section
open Go Go.RowKit Go.Deep Rd
variable {Z:Nat->Prop} {sb ob hb K n:Nat} {w wr wx:World} {f f' V V':Nat->Value} {X X':Nat->List Value} {gone gB:Nat->Prop} {Rs Ro ko vB:Nat->Prop} {tr ch:List Nat} {lev:Nat->Nat} {rea:Nat->Int}
theorem MZ {d:Nat} (D:Duo Z sb ob hb n w K f V X gone Rs Ro) (hT:iW n X tr ch lev rea) (hd:ch.length <= d) (hd2:d <= 1000):
  Calls Tryz.prog 137 #[.pointer (some ⟨sb,0,none⟩),.int .i64 (d:Nat)] w fun e w'=>e=.returned (.tuple #[])/\w=w':=by
 have QB:=hide (Ur d D.aG (by rw [hT.l2,ag];exact hd) hd2)
 clear D hT;go_enter Tryz.func137,Tryz.ntmps137
 go_wp2_with (go_at_call 177;refine QB.out.mono ?_;rintro e7 w7 ⟨rfl,rfl⟩;simp only [])
 rename_i W0;go_loopw [5,6,13] (fun _ _ s13 wr=>s13=.int .i64 0/\Hid (w7=wr)) (fun _ _ s13 _=>0)
 case atStart=>exact ⟨rfl,rfl⟩
 case round=>
  obtain ⟨rfl,hw⟩:=hrel;go_wp2;go_end0;exact ⟨rfl,hw.out⟩
def tZ (w:World) (ob n:Nat):Nat:=match w.cell? ⟨ob,1,none⟩ with
 | some (.slice (some a) _ _)=>((List.range n).filter fun v=>decide (iA w ⟨a.block,v,none⟩ ≠ -1)).length
 | _=>0
theorem eU.waits {Z:Nat->Prop} (h:eU Z ob hb n w gone) (hn:0 < n):∃ p:Nat->Bool,(∀ v,v < n->(p v=true↔¬ gone v))/\tZ w ob n=((List.range n).filter p).length:=by
 obtain ⟨wt,V,X,items,pl,bz,hO,hM,hp,hgo⟩:=h.ex;obtain ⟨g0,c0,q1,_⟩:=hM.place hO hn;refine ⟨fun v=>decide (iA w ⟨g0,v,none⟩ ≠ -1),fun v hv=>?_,by unfold tZ;rw [q1]⟩
 obtain ⟨g0',c0',q1',r1⟩:=hM.place hO hv;rw [q1] at q1';obtain ⟨e1,_,_⟩:=Value.slice.inj (Option.some.inj q1');obtain rfl:g0=g0':=by have:=Option.some.inj e1;exact congrArg Addr.block this
 rw [decide_eq_true_iff,<- hgo v];unfold iA;rw [r1];rfl
theorem Es {n v0:Nat} {p q:Nat->Bool} (h0:v0 < n) (hp:p v0=true) (hq:q v0=false) (hs:∀ v,v < n->q v=true->p v=true):((List.range n).filter q).length < ((List.range n).filter p).length:=by
 induction n with
 | zero=>omega
 | succ n ih=>
  rw [List.range_succ,List.filter_append,List.filter_append,List.length_append,List.length_append];have hle:∀ m,m <= n->((List.range m).filter q).length <= ((List.range m).filter p).length:=by
   intro m
   induction m with
   | zero=>intro _;simp
   | succ m ihm=>
    intro hm;have:=ihm (by omega)
    rw [List.range_succ,List.filter_append,List.filter_append,List.length_append,List.length_append];have h1:=hs m (by omega)
    cases hqm:q m
    ·simp [hqm];omega
    ·simp [hqm,h1 hqm];omega
  rcases Nat.lt_succ_iff_lt_or_eq.1 h0 with h1 | h1
  ·have:=ih h1 (fun v hv=>hs v (by omega))
   have h2:=hs n (by omega)
   cases hqn:q n
   ·simp [hqn];omega
   ·simp [hqn,h2 hqn];omega
  ·subst h1;have:=hle v0 (Nat.le_refl _);simp [hp,hq];omega
structure ZX (Z:Nat->Prop) (sb ob hb n:Nat) (w:World) (K:Nat) (f V:Nat->Value) (X:Nat->List Value) (tr:List Nat) (gone:Nat->Prop) (Rs Ro:Nat->Prop) (wr:World):Prop where
 duo:Duo Z sb ob hb n wr K f V X gone Rs Ro
 nH:∀ v,v < n->gone v->∃ x ∈ tr,x / 2=v
 bD:aC Z w wr
def Vg (Z:Nat->Prop) (sb ob hb n:Nat) (w:World) (K:Nat) (f V:Nat->Value) (X:Nat->List Value) (tr:List Nat) (wr:World):Prop:=
 ∃ (gone Rs Ro:Nat->Prop),Hid (ZX Z sb ob hb n w K f V X tr gone Rs Ro wr)
def Qi (Z:Nat->Prop) (sb ob hb n:Nat) (w:World) (K:Nat) (f V:Nat->Value) (X:Nat->List Value) (tr ch:List Nat) (e:Ending) (w':World):Prop:=
 aC Z w w'/\((e=.returned (.bool false)/\(∀ v,v < n->∃ x ∈ tr,x / 2=v)/\∃ gone Rs Ro,Duo Z sb ob hb n w' K f V X gone Rs Ro) \/
  ∃ (x:Nat) (gone Rs Ro:Nat->Prop) (v2 v1:Value),e=.returned (.bool true)/\x < 2 * n/\tv tr x=0/\(∀ v,v < n->gone v->∃ y ∈ tr ++ [x],y / 2=v)/\Duo Z sb ob hb n w' K (upd (upd f 8 v2) 6 v1) (upd (upd V 2 v2) 1 v1) (bN (upd X 2 (X 2 ++ [.int .i64 ((X 1).length:Nat)])) x (-1) ((X 2).length + 1)) gone Rs Ro)
theorem Dk {x:Nat} (h:tv tr x ≠ 0):∃ y ∈ tr,y / 2=x / 2:=by
 unfold tv at h;split at h
 ·exact ⟨x,by assumption,rfl⟩
 ·split at h
  ·exact ⟨op x,by assumption,dC x⟩
  ·exact absurd rfl h
theorem Ad (D:Duo Z sb ob hb n w K f V X gone Rs Ro) (hn:n <= 50) (hT:iW n X tr ch lev rea) (ht:fM n tr ch lev) (GV:Fy n X) (ZB:∀ v,v < n->gone v->∃ x ∈ tr,x / 2=v):
  Calls Tryz.prog 102 #[.pointer (some ⟨sb,0,none⟩)] w fun e w'=>Qi Z sb ob hb n w K f V X tr ch e w':=by
 have S0:Hid (ZX Z sb ob hb n w K f V X tr gone Rs Ro w):=⟨D,ZB,aC.refl _⟩;have hK:=D.aG.hK;have HT:=hide hT;have Yn:=hide GV;have tl:=ht.len;have dl:=ht.depth;clear D hT ht GV ZB;go_enter Tryz.func102,Tryz.ntmps102
 go_wp2_with fail
 go_loopw [2,3,4] (fun _ _ _ wr=>Vg Z sb ob hb n w K f V X tr wr) (fun _ _ _ wr=>tZ wr ob n)
 case atStart=>exact ⟨gone,Rs,Ro,S0⟩
 case round=>
  clear S0;obtain ⟨gn,ko,vB,hst⟩:=hrel;have QN:=hide (wm hst.out.duo.ord hn);have Q9:=(hst.out.duo.aG.head 12 (by omega)).1
  rw [hst.out.duo.f12] at Q9
  go_upto_region 2 with (go_at_call 146;refine QN.out.mono ?_;rintro e7 w7 ⟨pM,WE⟩;have HC:=hide pM;clear pM;rcases WE with ⟨rfl,hall,ho⟩ | ⟨v,rfl,Wz,hng,ho⟩ <;> simp only [])
  ·have F:Hid (Qi Z sb ob hb n w K f V X tr ch (.returned (.bool false)) w7):=by
    obtain ⟨d1,d2⟩:=hst.out.duo.vP ho HC.out;exact ⟨hst.out.bD.trans d2,.inl ⟨rfl,fun v hv=>hst.out.nH v hv (hall v hv),_,_,_,d1⟩⟩
   clear hst hall ho QN HC Q9;go_wp2;go_ret;exact F.out
  ·obtain ⟨d1,d2⟩:=hst.out.duo.vP ho HC.out;have D1:=hide d1;have C1:Hid (aC Z w w7):=hst.out.bD.trans d2;have WN:Hid (tZ w7 ob n < tZ wr ob n):=by
    obtain ⟨p,hp,ep⟩:=hst.out.duo.ord.waits (by omega)
    obtain ⟨q,hq,eq⟩:=ho.waits (by omega)
    unfold Hid;rw [ep,eq];refine Es Wz ((hp v Wz).2 hng) ?_ fun u hu hqu=>(hp u hu).2 fun hg=>(hq u hu).1 hqu (.inl hg)
    cases e:q v with
    | false=>rfl
    | true=>exact absurd (.inr rfl) ((hq v Wz).1 e)
   obtain ⟨g6,c6,t6,e6,q6,r6,s6,-⟩:=d1.aG.elem (k:=6) (j:=v) (by omega) Yn.out.n6 Wz
   rw [show cellOf 6=13 from rfl] at q6
   obtain ⟨x,hx,hxv⟩:=Yn.out.t6 v Wz;rw [hx] at s6;obtain rfl:=Option.some.inj s6;have hxl:x < 2 * n:=by omega
   obtain ⟨g3,c3,t3,e3,q3,r3,s3,-⟩:=d1.aG.elem (k:=3) (j:=x) (by omega) HT.out.n3 hxl
   rw [show cellOf 3=9 from rfl] at q3
   rw [HT.out.t3 x hxl] at s3;obtain rfl:=Option.some.inj s3;have QO:Hid (∀ j,Calls Tryz.prog 135 #[.pointer (some ⟨sb,6,none⟩),.int .i64 (x:Nat)] (w7.drewN j) fun e w'=>e=.returned (.bool (tv tr x == 0))/\w'=w7.drewN j):=fun j=>qE sb 6 g3 (2 * n) c3 x (tv tr x) (w7.drewN j) q3 hxl r3
   have ASG:Hid (∀ u,u < n->(gn u\/u=v)->∃ y ∈ tr ++ [x],y / 2=u):=fun u hu hg=>by
    rcases hg with hg | hg
    ·obtain ⟨y,hy,e⟩:=hst.out.nH u hu hg;exact ⟨y,List.mem_append_left _ hy,e⟩
    ·exact ⟨x,by simp,by rw [hxv,hg]⟩
   have ASN:Hid (tv tr x ≠ 0->∀ u,u < n->(gn u\/u=v)->∃ y ∈ tr,y / 2=u):=fun hne u hu hg=>by
    rcases hg with hg | hg
    ·exact hst.out.nH u hu hg
    ·obtain ⟨y,hy,e⟩:=Dk hne;exact ⟨y,hy,by rw [e,hxv,hg]⟩
   have v0:(0:Int) <= (v:Int):=by omega
   have v1:(v:Int) < (n:Int):=by omega
   clear hst d1 d2 ho QN HC Q9 e6 e3 hng;obtain ⟨b,hb,HB⟩:∃ b,(tv tr x == 0)=b/\Hid (b=true↔tv tr x=0):=⟨_,rfl,by unfold Hid;exact beq_iff_eq⟩
   rw [hb] at QO;clear hb;go_upto_region 4 with fail
   go_quiet ((go_at_call 135;exact Calls.quiet_of_same (QO.out _)))
   obtain ⟨W1,hW1⟩:∃ W1,W1=w7.drewN nq:=⟨_,rfl⟩;have hb1:Below w7.heap.size w7 W1:=by rw [hW1];exact below_drewN (Below.refl _ _) _
   have yG:W1.heap=w7.heap:=by rw [hW1];rfl
   have M1:Hid (tZ W1 ob n=tZ w7 ob n):=by unfold Hid tZ iA;simp only [bG yG]
   rw [<- hW1];have D2:=hide (D1.out.later hb1);have C2:Hid (aC Z w W1):=C1.out.trans (aC.of_below hb1);rw [<- bG yG] at q6 r6;clear hW1 hb1 yG D1 C1 QO q3 r3
   cases b with
   | false=>
    have NX:Hid (Vg Z sb ob hb n w K f V X tr W1):=⟨_,_,_,D2.out,ASN.out (fun e=>by have:=HB.out.2 e;cases this),C2.out⟩
    clear D2 C2 q6 r6;go_wp2;go_roundw
    case rel=>exact NX.out
    case measure=>rw [M1.out];exact WN.out
   | true=>
    have ho0:=HB.out.1 rfl;have l1:(X 1).length=tr.length:=by rw [HT.out.l1,ag]
    have l2:(X 2).length=ch.length:=by rw [HT.out.l2,ag]
    have D3:=hide (D2.out.later (w':=W1.drew) (Below.refl _ _).drew);have QC:=hide (Hy (w:=W1.drew) x n hxl hn D3.out.aG (by omega) (by omega) HT.out.n3 HT.out.n4 HT.out.n5)
    have FIN:Hid (∀ wz (v2 v1:Value),aC (zz ko W1.drew) W1.drew wz->aQ (zz ko W1.drew) sb wz K (upd (upd f 8 v2) 6 v1) (upd (upd V 2 v2) 1 v1) (bN (upd X 2 (X 2 ++ [.int .i64 ((X 1).length:Nat)])) x (-1) ((X 2).length + 1))->Qi Z sb ob hb n w K f V X tr ch (.returned (.bool true)) wz):=fun wz v2 v1 hc hs=>by
     obtain ⟨d1,d2⟩:=D3.out.dH hs hc (by rw [aa _ _ (by decide),aa _ _ (by decide)])
     exact ⟨(C2.out.drew).trans d2,.inr ⟨x,_,_,_,v2,v1,rfl,hxl,ho0,ASG.out,d1⟩⟩
    clear D2 C2 D3 l1 l2 ho0;go_upto_region 5 with fail
    go_region_with (go_at_call 147;refine QC.out.mono ?_;rintro e8 w8 ⟨rfl,hc8,v2,v1',hs8⟩;have F8:=hide (FIN.out w8 v2 v1' hc8 hs8);clear hc8 hs8;simp only [])
    all_goals
     go_wp2;go_ret
     exact F8.out
end
end So
end Go.Proofs.YtceahffmenbibaaGreatDoor
namespace Go.Proofs.YtceahffmenbibaaGreatDoor
namespace Lb
def FO (i k:Nat):Prop:=1 <= k/\2 ^ (k - 1) <= i/\i < 2 ^ k
def lub:Nat->Nat->Nat
 | 0,_=>0
 | f + 1,i=>if i + 1=2 ^ (Lib.bitLen i) then 2 ^ (Lib.bitLen i - 1) else lub f (i - (2 ^ (Lib.bitLen i - 1) - 1))
theorem iL {i k j:Nat} (h1:FO i k) (h2:FO i j):k=j:=by
 obtain ⟨a1,a2,a3⟩:=h1;obtain ⟨b1,b2,b3⟩:=h2;have e1:2 ^ (k - 1) < 2 ^ j:=by omega
 have e2:2 ^ (j - 1) < 2 ^ k:=by omega
 have c1:=(Nat.pow_lt_pow_iff_right (a:=2) (by omega)).1 e1
 have c2:=(Nat.pow_lt_pow_iff_right (a:=2) (by omega)).1 e2
 omega
theorem gY {k:Nat} (h:1 <= k):2 ^ k=2 * 2 ^ (k - 1):=by
 obtain ⟨j,rfl⟩:=Nat.exists_eq_add_of_le h;rw [show 1 + j=j + 1 by omega,Nat.pow_succ,Nat.add_sub_cancel];omega
theorem kF {i k:Nat} (h1:1 <= i) (h:FO i k) (e:¬ i + 1=2 ^ k):1 <= i - (2 ^ (k - 1) - 1)/\i - (2 ^ (k - 1) - 1) < i:=by
 obtain ⟨a1,a2,a3⟩:=h;have p:=gY a1;have hp:1 <= 2 ^ (k - 1):=Nat.one_le_two_pow;by_cases h2:2 ^ (k - 1)=1
 ·omega
 ·omega
theorem uZ (k:Nat):((2 ^ k:Nat):Int)=(2:Int) ^ k:=by simp
end Lb
end Go.Proofs.YtceahffmenbibaaGreatDoor
namespace Go.Proofs.YtceahffmenbibaaGreatDoor
namespace Lw
section
open Go Go.RowKit
open Lb (FO lub iL gY kF uZ)
theorem hide {p:Prop} (h:p):Hid p:=h
theorem gV {p:Prop} (h:Hid p):p:=h.out
theorem jU {i:Nat} (h1:1 <= i) (h2:i <= 134217727):FO i (Lib.bitLen i):=by
 have h:=Lib.bitLenAux_bounds 64 i (by omega) (by omega)
 exact h
theorem Ww {i k:Nat} (h2:i <= 134217727) (h:FO i k):k <= 27:=by
 obtain ⟨a1,a2,a3⟩:=h;have e1:2 ^ (k - 1) < 2 ^ 27:=by omega
 have c1:=(Nat.pow_lt_pow_iff_right (a:=2) (by omega)).1 e1
 omega
theorem IP {f i k:Nat} (h1:1 <= i) (h2:i <= 134217727) (h:FO i k) (e:i + 1=2 ^ k):lub (f + 1) i=2 ^ (k - 1):=by
 have hk:=iL h (jU h1 h2);simp only [lub];rw [<- hk,if_pos e]
theorem Dw {f i k:Nat} (h1:1 <= i) (h2:i <= 134217727) (h:FO i k) (e:¬ i + 1=2 ^ k):lub (f + 1) i=lub f (i - (2 ^ (k - 1) - 1)):=by
 have hk:=iL h (jU h1 h2);simp only [lub];rw [<- hk,if_neg e]
theorem VY {k:Nat} (h:k <= 27):(2:Int) ^ k <= 134217728/\1 <= (2:Int) ^ k:=by
 have h1:2 ^ k <= 2 ^ 27:=Nat.pow_le_pow_right (by omega) h
 have h2:1 <= 2 ^ k:=Nat.one_le_two_pow;have e:=uZ k;omega
theorem Sz {g i k v:Nat} (HL:lub (g + 1) i=v) (h1:1 <= i) (h2:i <= 134217727) (hK:FO i k) (h:((i:Int) == 2 * 2 ^ (k - 1) - 1)=true):(v:Int)=2 ^ (k - 1):=by
 have p:=gY hK.1;have q:=uZ (k - 1);have hp:1 <= 2 ^ (k - 1):=Nat.one_le_two_pow;have h':(i:Int)=2 * 2 ^ (k - 1) - 1:=by simpa using h
 rw [<- HL,IP h1 h2 hK (by omega),q]
theorem NI {g i k v:Nat} (HL:lub (g + 1) i=v) (h1:1 <= i) (h2:i <= 134217727) (hg:i <= g + 1) (hK:FO i k) (h:((i:Int) == 2 * 2 ^ (k - 1) - 1)=false):
  ∃ j:Nat,(i:Int) - (2 ^ (k - 1) - 1)=(j:Int)/\1 <= j/\j <= g/\j <= 134217727/\lub g j=v/\j < i:=by
 have p:=gY hK.1;have q:=uZ (k - 1);have hp:1 <= 2 ^ (k - 1):=Nat.one_le_two_pow;have h':¬ (i:Int)=2 * 2 ^ (k - 1) - 1:=by simpa using h
 have e:¬ i + 1=2 ^ k:=by omega
 have b:=kF h1 hK e;have k2:=hK.2.1;refine ⟨i - (2 ^ (k - 1) - 1),by omega,b.1,by omega,by omega,?_,b.2⟩
 rw [<- HL,Dw h1 h2 hK e]
theorem EY (x:Int) (w:World) (h0:0 <= x) (h1:x <= 134217727):
  Calls Tryz.prog 120 #[.int .u64 x] w fun e w'=>e=.returned (.int .i64 (Lib.bitLen x.toNat))/\w'=w:=by
 go_enter Tryz.func120,Tryz.ntmps120
 go_wp2_with (go_at_call 170;refine (Tw x _ h0 h1).mono ?_;rintro e w' ⟨rfl,rfl⟩)
 go_ret
 exact ⟨rfl,rfl⟩
theorem LF (i k:Nat) (w:World) (h0:1 <= i) (h1:i <= 134217727) (hk:FO i k):
  Calls Tryz.prog 120 #[.int .u64 i] w fun e w'=>e=.returned (.int .i64 k)/\w'=w:=by
 refine (EY i w (by omega) (by omega)).mono ?_
 rintro e w' ⟨rfl,rfl⟩;have e:=iL hk (jU h0 h1);rw [Int.toNat_natCast,<- e];exact ⟨rfl,rfl⟩
theorem wH (n:Nat) (w:World) (h1:1 <= n) (h2:n <= 134217727):
  Calls Tryz.prog 78 #[.int .i64 n] w fun e w'=>e=.returned (.int .i64 (lub n n))/\w'=w:=by
 go_enter Tryz.func78,Tryz.ntmps78
 go_wp2;go_loop [0] (fun t=>∃ f i:Nat,t=.int .i64 i/\1 <= i/\i <= f/\i <= 134217727/\lub f i=lub n n) (fun t=>(intOf t).toNat)
 case atStart=>exact ⟨n,n,rfl,h1,Nat.le_refl _,h2,rfl⟩
 case round=>
  obtain ⟨f,i,rfl,hi1,hif,hi2,hl⟩:=hrel;obtain ⟨g,rfl⟩:∃ g,f=g + 1:=⟨f - 1,by omega⟩
  obtain ⟨k,hk⟩:∃ k,FO i k:=⟨_,jU hi1 hi2⟩;have HL:=hide hl;clear hl;have HK:=hide hk;have hk20:=Ww hi2 hk;obtain ⟨hk1,hk2,hk3⟩:=hk;have hp:=VY (k:=k - 1) (by omega)
  have he:((k:Int) - 1).toNat=k - 1:=by omega
  go_wp2_with (go_at_call 120;refine (LF i k _ hi1 hi2 HK.out).mono ?_;rintro e w' ⟨rfl,rfl⟩)
  ·go_ret
   exact ⟨congrArg Ending.returned (congrArg (Value.int IntKind.i64) (Sz HL.out hi1 hi2 HK.out ‹_›).symm),rfl⟩
  ·obtain ⟨j,e,a1,a2,a3,a4,a5⟩:=NI HL.out hi1 hi2 hif HK.out ‹_›;rw [e];exact ⟨⟨g,j,rfl,a1,a2,a3,a4⟩,by simp [intOf];omega⟩
end
end Lw
end Go.Proofs.YtceahffmenbibaaGreatDoor
namespace Go.Proofs.YtceahffmenbibaaGreatDoor
namespace So
section
open Go Go.RowKit Go.Deep Rd
variable {Z:Nat->Prop} {sb ob hb K n:Nat} {w:World} {f V:Nat->Value} {X:Nat->List Value} {gone:Nat->Prop} {Rs Ro:Nat->Prop} {tr ch:List Nat} {lev:Nat->Nat} {rea:Nat->Int}
theorem GD:∀ (g i:Nat),1 <= i->i <= 134217727->Lb.lub g i <= i
 | 0,i,_,_=>Nat.zero_le _
 | g + 1,i,h1,h2=>by
  have hK:=Lw.jU h1 h2;by_cases e:i + 1=2 ^ (Lib.bitLen i)
  ·rw [Lw.IP h1 h2 hK e];exact hK.2.1
  ·rw [Lw.Dw h1 h2 hK e];have b:=Lb.kF h1 hK e;exact Nat.le_trans (GD g _ b.1 (by omega)) (by omega)
structure Iq (Z:Nat->Prop) (sb ob hb n:Nat) (w:World) (K:Nat) (f V:Nat->Value) (X:Nat->List Value) (gone:Nat->Prop) (tr ch:List Nat) (lev:Nat->Nat) (rea:Nat->Int) (w1:World) (f1 V1:Nat->Value) (X1:Nat->List Value) (iT qb FN:Nat->Prop) (s:Nat):Prop where
 bD:aC Z w w1
 duo:Duo Z sb ob hb n w1 K f1 V1 X1 iT qb FN
 lam:Fy n X1
 dx:iW n X1 (tr.take s) [] lev rea
 how:(ch=[]/\s=tr.length/\iT=gone/\f1 7=f 7)\/∃ h:0 < ch.length,s=ch[0]/\iT=(fun v=>gone v/\∀ x ∈ tr.drop s,x / 2 ≠ v)/\f1 7=.int .i64 (s:Nat)
 kf:∀ j,j ≠ 6->j ≠ 7->j ≠ 8->f1 j=f j
 kx:∀ k,k ≠ 1->k ≠ 2->k ≠ 3->k ≠ 6->X1 k=X k
 kv:∀ k,k ≠ 1->k ≠ 2->V1 k=V k
theorem Ng (D:Duo Z sb ob hb n w K f V X gone Rs Ro) (hn:n <= 50) (hT:iW n X tr ch lev rea) (ht:fM n tr ch lev) (GV:Fy n X):
  Calls Tryz.prog 137 #[.pointer (some ⟨sb,0,none⟩),.int .i64 ((0:Nat):Int)] w fun e w1=>e=.returned (.tuple #[])/\∃ f1 V1 X1 iT qb FN s,Iq Z sb ob hb n w K f V X gone tr ch lev rea w1 f1 V1 X1 iT qb FN s:=by
 by_cases h:0 < ch.length
 ·refine (zn D hn hT ht GV h).mono ?_;rintro e w1 ⟨rfl,c,f1,V1,X1,qb,FN,d1,l1,t1,h7,kf,kx,kv⟩;exact ⟨rfl,f1,V1,X1,_,qb,FN,ch[0],c,d1,l1,t1,.inr ⟨h,rfl,rfl,h7⟩,kf,kx,kv⟩
 ·have hc:ch=[]:=List.eq_nil_of_length_eq_zero (by omega)
  refine (MZ D hT (by omega) (by omega)).mono ?_
  rintro e w1 ⟨rfl,rfl⟩;exact ⟨rfl,f,V,X,gone,Rs,Ro,tr.length,aC.refl _,D,GV,by rw [List.take_length,<- hc];exact hT,.inl ⟨hc,rfl,rfl,rfl⟩,fun _ _ _ _=>rfl,fun _ _ _ _ _=>rfl,fun _ _ _=>rfl⟩
def Q7 (Z:Nat->Prop) (sb ob hb n:Nat) (w:World) (K:Nat) (f V:Nat->Value) (X:Nat->List Value) (gone:Nat->Prop) (tr ch:List Nat) (lev:Nat->Nat) (rea:Nat->Int) (r:Nat) (e:Ending) (w':World):Prop:=
 e=.returned (.tuple #[])/\aC Z w w'/\∃ (w1:World) (f1 V1:Nat->Value) (X1:Nat->List Value) (iT qb FN:Nat->Prop) (s:Nat),Iq Z sb ob hb n w K f V X gone tr ch lev rea w1 f1 V1 X1 iT qb FN s/\∃ Rj,Duo Z sb ob hb n w' K (upd (upd f1 20 (.int .i64 ((r + 1:Nat):Int))) 21 (.int .i64 ((50 * Lb.lub (r + 1) (r + 1):Nat):Int))) V1 X1 iT Rj FN
theorem tC (k:Nat) (hk:k < 13):cellOf k ≠ 20/\cellOf k ≠ 21:=by
 have:∀ k,k < 13->cellOf k ≠ 20/\cellOf k ≠ 21:=by decide
 exact this k hk
theorem LG {r:Nat} (D:Duo Z sb ob hb n w K f V X gone Rs Ro) (hn:n <= 50) (hT:iW n X tr ch lev rea) (ht:fM n tr ch lev) (GV:Fy n X) (h20:f 20=.int .i64 (r:Nat)) (hr:r < 134217727):
  Calls Tryz.prog 97 #[.pointer (some ⟨sb,0,none⟩)] w fun e w'=>Q7 Z sb ob hb n w K f V X gone tr ch lev rea r e w':=by
 have QB:=hide (Ng D hn hT ht GV);have hlb:=GD (r + 1) (r + 1) (by omega) (by omega)
 have QL:Hid (∀ Y,Calls Tryz.prog 78 #[.int .i64 ((r:Int) + 1)] Y fun e w'=>e=.returned (.int .i64 ((Lb.lub (r + 1) (r + 1):Nat):Int))/\w'=Y):=fun Y=>Lw.wH (r + 1) Y (by omega) (by omega)
 have BQ:Hid (∀ w1 f1 V1 X1 iT qb FN s,Iq Z sb ob hb n w K f V X gone tr ch lev rea w1 f1 V1 X1 iT qb FN s->w1.cell? ⟨sb,20,none⟩=some (.int .i64 (r:Nat))/\w1.frozen? ⟨sb,20,none⟩=false/\w1.frozen? ⟨sb,21,none⟩=false/\(∃ u,w1.cell? ⟨sb,21,none⟩=some u)/\sb < w1.heap.size/\(w1.setCell ⟨sb,20,none⟩ (.int .i64 ((r + 1:Nat):Int))).cell? ⟨sb,20,none⟩=some (.int .i64 ((r + 1:Nat):Int))/\Q7 Z sb ob hb n w K f V X gone tr ch lev rea r (.returned (.tuple #[])) ((w1.setCell ⟨sb,20,none⟩ (.int .i64 ((r + 1:Nat):Int))).setCell ⟨sb,21,none⟩ (.int .i64 ((50 * Lb.lub (r + 1) (r + 1):Nat):Int)))):=fun w1 f1 V1 X1 iT qb FN s A=>by
  have hrow:=A.duo.aG.row;have e20:f1 20=.int .i64 (r:Nat):=by rw [A.kf 20 (by decide) (by decide) (by decide)];exact h20
  obtain ⟨d1,c1⟩:=A.duo.dH (A.duo.aG.scalar 20 (.int .i64 ((r + 1:Nat):Int)) fun k hk=>(tC k hk).1) ((aC.refl _).setCell A.duo.aG.fZ _) (by rw [aa _ _ (by decide)])
  obtain ⟨d2,c2⟩:=d1.dH (d1.aG.scalar 21 (.int .i64 ((50 * Lb.lub (r + 1) (r + 1):Nat):Int)) fun k hk=>(tC k hk).2) ((aC.refl _).setCell d1.aG.fZ _) (by rw [aa _ _ (by decide)])
  refine ⟨by rw [hrow.cell (by decide),e20],hrow.frozen 20,hrow.frozen 21,⟨_,hrow.cell (i:=21) (by decide)⟩,hrow.lt,?_,rfl,(A.bD.trans c1).trans c2,w1,f1,V1,X1,iT,qb,FN,s,A,_,d2⟩
  have:=d1.aG.row.cell (i:=20) (by decide)
  rw [ae] at this;exact this
 clear D hT ht GV h20;generalize Lb.lub (r + 1) (r + 1)=L at *
 rw [show ((50 * L:Nat):Int)=50 * (L:Int) by omega] at BQ
 rw [show ((r + 1:Nat):Int)=(r:Int) + 1 by omega] at BQ
 have l1:(L:Int) <= 134217727:=by omega
 have l0:(0:Int) <= (L:Int):=by omega
 go_enter Tryz.func97,Tryz.ntmps97
 go_wp2_with (first | (go_at_call 137;refine QB.out.mono ?_;rintro e7 w7 ⟨rfl,f1,V1,X1,iT,qb,FN,s,A⟩;obtain ⟨a1,a2,a3,⟨u4,a4⟩,a5,a6,a7⟩:=BQ.out w7 f1 V1 X1 iT qb FN s A;have FIN:=hide a7;clear a7 A;simp only []) | (go_at_call 78;refine (QL.out _).mono ?_;rintro e8 w8 ⟨rfl,rfl⟩;simp only []))
 go_end0
 exact FIN.out
end
end So
end Go.Proofs.YtceahffmenbibaaGreatDoor
