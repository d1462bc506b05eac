/- Sntr Snor Snow Smet Ssml Sstr Sapi Slin. -/
import Derived.Test.YtceahffmenbibaaGreatDoorG11
import Derived.Test.YtceahffmenbibaaGreatDoorG09
import Derived.Test.YtceahffmenbibaaGreatDoorG10
import Derived.Lib.AppendStr
set_option linter.unusedVariables false
set_option linter.unusedSimpArgs false
set_option maxHeartbeats 4000000
set_option maxRecDepth 100000
namespace Go.Proofs.YtceahffmenbibaaGreatDoor
namespace So
section
open Go Go.RowKit Go.Deep Rd
def Made (w:World) (g t m:Nat) (w':World):Prop:=w.heap.size <= g/\w'.rowIs g t m (fun _=>.int .i64 0)
def Xx (w:World) (n:Nat) (e:Ending) (w':World):Prop:=∃ g1 g2 g3,e=.returned (.agg #[.slice none 0 0,.int .i64 0,.slice none 0 0,.slice (some ⟨g1,0,none⟩) (2 * n) (2 * n),.slice (some ⟨g2,0,none⟩) n n,.slice (some ⟨g3,0,none⟩) n n])/\Made w g1 3 (2 * n) w'/\Made w g2 3 n w'/\Made w g3 3 n w'/\g1 ≠ g2/\g1 ≠ g3/\g2 ≠ g3/\Below w.heap.size w w'
theorem zH (w:World) (ob:Obj) (z:Value) (t:TypeId) (a b c:Nat):((((w.alloc ob).alloc (.cells (madeCells #[z] a) t)).alloc (.cells (madeCells #[z] b) t)).alloc (.cells (madeCells #[z] c) t)).drew.rowIs (w.heap.size + 1) t a (fun _=>z)/\((((w.alloc ob).alloc (.cells (madeCells #[z] a) t)).alloc (.cells (madeCells #[z] b) t)).alloc (.cells (madeCells #[z] c) t)).drew.rowIs (w.heap.size + 1 + 1) t b (fun _=>z)/\((((w.alloc ob).alloc (.cells (madeCells #[z] a) t)).alloc (.cells (madeCells #[z] b) t)).alloc (.cells (madeCells #[z] c) t)).drew.rowIs (w.heap.size + 1 + 1 + 1) t c (fun _=>z)/\Below w.heap.size w ((((w.alloc ob).alloc (.cells (madeCells #[z] a) t)).alloc (.cells (madeCells #[z] b) t)).alloc (.cells (madeCells #[z] c) t)).drew:=by
 have r1:=World.rowIs_made (w.alloc ob) z a t;have r2:=World.rowIs_made ((w.alloc ob).alloc (.cells (madeCells #[z] a) t)) z b t;have r3:=World.rowIs_made (((w.alloc ob).alloc (.cells (madeCells #[z] a) t)).alloc (.cells (madeCells #[z] b) t)) z c t;simp only [World.size_alloc] at r1 r2 r3;exact ⟨((r1.alloc _).alloc _).drew,(r2.alloc _).drew,r3.drew,(((((Below.refl _ w).alloc (Nat.le_refl _) _).alloc (by simp) _).alloc (by simp;omega) _).alloc (by simp;omega) _).drew⟩
theorem AU (n:Nat) (hn:n <= 50) (w:World):Calls Tryz.prog 92 #[.int .i64 (n:Nat)] w fun e w'=>Xx w n e w':=by
 have NY:=run_make_row' (P:=Tryz.prog) 43 3 (.int .i64 0) 8 Tryz.underlying43 Tryz.cu rfl .i64 .i64 n (by omega) (by omega)
 have UR:=run_make_row' (P:=Tryz.prog) 43 3 (.int .i64 0) 8 Tryz.underlying43 Tryz.cu rfl .i64 .i64 (2 * n) (by omega) (by omega)
 have e2:((2 * n:Nat):Int)=2 * (n:Int):=by omega
 rw [e2] at UR;have hw2:IntKind.i64.wrap (2 * (n:Int))=2 * (n:Int):=tY _ (by omega) (by omega)
 go_enter Tryz.func92,Tryz.ntmps92
 go_upto_region 1 with fail
 go_region_with (fail)
 ·go_wp2;refine bodyPost_ret (v:=.agg #[.slice none 0 0,.int .i64 0,.slice none 0 0,.slice (some ⟨w.heap.size + 1,0,none⟩) (2 * n) (2 * n),.slice (some ⟨w.heap.size + 1 + 1,0,none⟩) n n,.slice (some ⟨w.heap.size + 1 + 1 + 1,0,none⟩) n n]) (by simp [results,Tryz.results92,go_sem]) rfl ?_
  obtain ⟨a1,a2,a3,a4⟩:=zH w (.cells #[.slice none 0 0,.int .i64 0,.slice none 0 0,.slice (some ⟨w.heap.size + 1,0,none⟩) (2 * n) (2 * n),.slice (some ⟨w.heap.size + 1 + 1,0,none⟩) n n,.slice (some ⟨w.heap.size + 1 + 1 + 1,0,none⟩) n n] 157 (0,0)) (.int .i64 0) 3 (2 * n) (n) (n);exact ⟨w.heap.size + 1,w.heap.size + 1 + 1,w.heap.size + 1 + 1 + 1,rfl,⟨by omega,a1⟩,⟨by omega,a2⟩,⟨by omega,a3⟩,by omega,by omega,by omega,a4⟩
 ·go_wp2;refine bodyPost_ret (v:=.agg #[.slice none 0 0,.int .i64 0,.slice none 0 0,.slice (some ⟨w.heap.size + 1,0,none⟩) (2 * n) (2 * n),.slice (some ⟨w.heap.size + 1 + 1 + 1,0,none⟩) n n,.slice (some ⟨w.heap.size + 1 + 1,0,none⟩) n n]) (by simp [results,Tryz.results92,go_sem]) rfl ?_
  obtain ⟨a1,a2,a3,a4⟩:=zH w (.cells #[.slice none 0 0,.int .i64 0,.slice none 0 0,.slice (some ⟨w.heap.size + 1,0,none⟩) (2 * n) (2 * n),.slice (some ⟨w.heap.size + 1 + 1 + 1,0,none⟩) n n,.slice (some ⟨w.heap.size + 1 + 1,0,none⟩) n n] 157 (0,0)) (.int .i64 0) 3 (2 * n) (n) (n);exact ⟨w.heap.size + 1,w.heap.size + 1 + 1 + 1,w.heap.size + 1 + 1,rfl,⟨by omega,a1⟩,⟨by omega,a3⟩,⟨by omega,a2⟩,by omega,by omega,by omega,a4⟩
 ·go_wp2;refine bodyPost_ret (v:=.agg #[.slice none 0 0,.int .i64 0,.slice none 0 0,.slice (some ⟨w.heap.size + 1 + 1,0,none⟩) (2 * n) (2 * n),.slice (some ⟨w.heap.size + 1,0,none⟩) n n,.slice (some ⟨w.heap.size + 1 + 1 + 1,0,none⟩) n n]) (by simp [results,Tryz.results92,go_sem]) rfl ?_
  obtain ⟨a1,a2,a3,a4⟩:=zH w (.cells #[.slice none 0 0,.int .i64 0,.slice none 0 0,.slice (some ⟨w.heap.size + 1 + 1,0,none⟩) (2 * n) (2 * n),.slice (some ⟨w.heap.size + 1,0,none⟩) n n,.slice (some ⟨w.heap.size + 1 + 1 + 1,0,none⟩) n n] 157 (0,0)) (.int .i64 0) 3 (n) (2 * n) (n);exact ⟨w.heap.size + 1 + 1,w.heap.size + 1,w.heap.size + 1 + 1 + 1,rfl,⟨by omega,a2⟩,⟨by omega,a1⟩,⟨by omega,a3⟩,by omega,by omega,by omega,a4⟩
 ·go_wp2;refine bodyPost_ret (v:=.agg #[.slice none 0 0,.int .i64 0,.slice none 0 0,.slice (some ⟨w.heap.size + 1 + 1 + 1,0,none⟩) (2 * n) (2 * n),.slice (some ⟨w.heap.size + 1,0,none⟩) n n,.slice (some ⟨w.heap.size + 1 + 1,0,none⟩) n n]) (by simp [results,Tryz.results92,go_sem]) rfl ?_
  obtain ⟨a1,a2,a3,a4⟩:=zH w (.cells #[.slice none 0 0,.int .i64 0,.slice none 0 0,.slice (some ⟨w.heap.size + 1 + 1 + 1,0,none⟩) (2 * n) (2 * n),.slice (some ⟨w.heap.size + 1,0,none⟩) n n,.slice (some ⟨w.heap.size + 1 + 1,0,none⟩) n n] 157 (0,0)) (.int .i64 0) 3 (n) (n) (2 * n);exact ⟨w.heap.size + 1 + 1 + 1,w.heap.size + 1,w.heap.size + 1 + 1,rfl,⟨by omega,a3⟩,⟨by omega,a1⟩,⟨by omega,a2⟩,by omega,by omega,by omega,a4⟩
 ·go_wp2;refine bodyPost_ret (v:=.agg #[.slice none 0 0,.int .i64 0,.slice none 0 0,.slice (some ⟨w.heap.size + 1 + 1,0,none⟩) (2 * n) (2 * n),.slice (some ⟨w.heap.size + 1 + 1 + 1,0,none⟩) n n,.slice (some ⟨w.heap.size + 1,0,none⟩) n n]) (by simp [results,Tryz.results92,go_sem]) rfl ?_
  obtain ⟨a1,a2,a3,a4⟩:=zH w (.cells #[.slice none 0 0,.int .i64 0,.slice none 0 0,.slice (some ⟨w.heap.size + 1 + 1,0,none⟩) (2 * n) (2 * n),.slice (some ⟨w.heap.size + 1 + 1 + 1,0,none⟩) n n,.slice (some ⟨w.heap.size + 1,0,none⟩) n n] 157 (0,0)) (.int .i64 0) 3 (n) (2 * n) (n);exact ⟨w.heap.size + 1 + 1,w.heap.size + 1 + 1 + 1,w.heap.size + 1,rfl,⟨by omega,a2⟩,⟨by omega,a3⟩,⟨by omega,a1⟩,by omega,by omega,by omega,a4⟩
 ·go_wp2;refine bodyPost_ret (v:=.agg #[.slice none 0 0,.int .i64 0,.slice none 0 0,.slice (some ⟨w.heap.size + 1 + 1 + 1,0,none⟩) (2 * n) (2 * n),.slice (some ⟨w.heap.size + 1 + 1,0,none⟩) n n,.slice (some ⟨w.heap.size + 1,0,none⟩) n n]) (by simp [results,Tryz.results92,go_sem]) rfl ?_
  obtain ⟨a1,a2,a3,a4⟩:=zH w (.cells #[.slice none 0 0,.int .i64 0,.slice none 0 0,.slice (some ⟨w.heap.size + 1 + 1 + 1,0,none⟩) (2 * n) (2 * n),.slice (some ⟨w.heap.size + 1 + 1,0,none⟩) n n,.slice (some ⟨w.heap.size + 1,0,none⟩) n n] 157 (0,0)) (.int .i64 0) 3 (n) (n) (2 * n);exact ⟨w.heap.size + 1 + 1 + 1,w.heap.size + 1 + 1,w.heap.size + 1,rfl,⟨by omega,a3⟩,⟨by omega,a2⟩,⟨by omega,a1⟩,by omega,by omega,by omega,a4⟩
end
section
open Go Go.RowKit Go.Deep Rd
variable {Z:Nat->Prop} {ob hb:Nat} {w w':World} {wt:Int} {V:Nat->Value} {X:Nat->List Value} {n g:Nat} {items:List Nat} {pl bz:Nat->Int}
theorem jq {t:TypeId} {f:Nat->Value} (h:w.rowIs g t n f) (hn:n <= maxLen):w.ownsRow 0 t 1 (.slice (some ⟨g,0,none⟩) n n) n ((List.range n).map f):=by
 obtain ⟨c,h1,h2,h3⟩:=h;refine ⟨by simp,.inr ⟨g,n,c,rfl,Nat.zero_le _,h1,Nat.le_refl _,hn,by omega,?_⟩⟩
 apply List.ext_getElem?
 intro j;by_cases hj:j < n
 ·rw [List.getElem?_take_of_lt (by omega),Array.getElem?_toList,h3 j hj]
  simp [hj]
 ·rw [List.getElem?_take_eq_none (by omega),List.getElem?_eq_none (by simp;omega)]
theorem JS (h:Ord Z ob hb w wt V X) (hM:kR n n X items pl bz) (hlt:∀ v ∈ items,v < n) (hb0:∀ a b,decide (bz b < bz a)=false) {item hole:Nat} (hi:items[hole]? = some item) (hlen:items.length <= 1000):
  Calls Tryz.prog 173 #[.pointer (some ⟨hb,0,none⟩),.int .i64 (hole:Nat)] w fun e w'=>e=.returned (.tuple #[])/\aC Z w w'/\∃ X',Ord Z ob hb w' wt V X'/\kR n n X' items (bB pl item (hole:Nat)) bz:=by
 obtain ⟨hh,ei⟩:=List.getElem?_eq_some_iff.1 hi;have hin:item < n:=by rw [<- ei];exact hlt _ (List.getElem_mem hh)
 obtain ⟨g2,c2,q0,r0⟩:=h.item hM hh;rw [ei] at r0;have QP:Hid (∀ wx,Below w.heap.size w wx->Calls Tryz.prog 203 #[.pointer (some ⟨hb,0,none⟩),.int .i64 (hole:Nat),.int .i64 (item:Nat)] wx fun e w'=>e=.returned (.tuple #[])/\aC Z w w'/\∃ X',Ord Z ob hb w' wt V X'/\kR n n X' items (bB pl item (hole:Nat)) bz):=fun wx hbx=>by
  refine (o6 (h.later hbx) hM (v:=item) (p:=hole) hin hh).mono ?_;rintro e w' ⟨rfl,ho,hc⟩;refine ⟨rfl,(aC.of_below hbx).trans hc,_,ho,?_⟩;have:=hM.put (v:=item) (p:=hole) hin (by omega)
  rwa [show items.set hole item=items by rw [<- ei];exact List.set_getElem_self hh] at this
 have Yp:Hid (∀ m (hm:m < items.length),∃ g2 c2,w.cell? ⟨hb,0,none⟩=some (.slice (some ⟨g2,0,none⟩) items.length c2)/\w.cell? ⟨g2,m,none⟩=some (.int .i64 (items[m]:Nat))):=fun m hm=>h.item hM hm
 have QB:Hid (∀ j x,x < n->Calls Tryz.prog 126 #[.pointer (some ⟨ob,0,none⟩),.int .i64 (item:Nat),.int .i64 (x:Nat)] (w.drewN j) fun e w'=>e=.returned (.bool false)/\∃ k,w'=(w.drewN j).drewN k):=fun j x hx=>by
  have:=jw (w:=w.drewN j) (h.later ⟨rfl,rfl,rfl,Nat.le_refl _,fun _ _=>rfl⟩) hM hin hx
  rw [hb0 item x] at this;exact this
 have qa:=h.cells.2.2.2.2.2.1;have UD:=hide hlt;have h0:(0:Int) <= (hole:Int):=by omega
 have h1:(hole:Int) < (items.length:Int):=by omega
 unfold ahead at qa;clear h hM hlt hi ei hb0;go_enter Tryz.func173,Tryz.ntmps173
 go_wp2_with fail
 go_loopw [1,5] (fun s1 _ wr=>s1=.int .i64 ((hole:Nat):Int)/\Hid (w=wr)) (fun s1 _ _=>0)
 case atStart=>exact ⟨rfl,rfl⟩
 case round=>
  obtain ⟨rfl,hw⟩:=hrel;obtain rfl:=hw.out;by_cases hk0:hole=0
  ·subst hk0;have QPP:=hide (QP.out w (Below.refl _ _));clear QP QB Yp;go_wp2_with (go_at_call 203;refine QPP.out.mono ?_;rintro e7 w7 ⟨rfl,pM,wU⟩;have C7:=hide pM;have O7:=hide wU;clear pM wU;simp only [])
   go_end0
   exact ⟨rfl,C7.out,O7.out⟩
  ·obtain ⟨m,hm⟩:∃ m,m=(hole - 1) / 2:=⟨_,rfl⟩;have hmk:m < items.length:=by omega
   have hd:((hole:Int) - 1) / 2=(m:Int):=by omega
   have hd2:Int.tdiv ((hole:Int) - 1) 2=(m:Int):=by rw [Int.tdiv_eq_ediv_of_nonneg (by omega)];exact hd
   obtain ⟨g3,c3,q3,r3⟩:=Yp.out m hmk;obtain ⟨x,hx⟩:∃ x,x=items[m]:=⟨_,rfl⟩;have Wy:x < n:=by rw [hx];exact UD.out _ (List.getElem_mem _)
   rw [<- hx] at r3;have QBB:=hide (fun j=>QB.out j x Wy)
   have m0:(0:Int) <= (m:Int):=by omega
   have m1:(m:Int) < (items.length:Int):=by omega
   have k1:(0:Int) < (hole:Int):=by omega
   have k2:(0:Int) <= (hole:Int) - 1:=by omega
   have k3:(hole:Int) < 1000:=by omega
   clear hx hm hd q0 r0 QB Yp;go_upto_region 3 with fail
   go_quiet ((go_at_call 126;exact Calls.quiet_of (QBB.out _)))
   have QPP:=hide (QP.out (w.drewN nq) ⟨rfl,rfl,rfl,Nat.le_refl _,fun _ _=>rfl⟩)
   clear QP QBB;go_wp2_with (go_at_call 203;refine QPP.out.mono ?_;rintro e7 w7 ⟨rfl,pM,wU⟩;have C7:=hide pM;have O7:=hide wU;clear pM wU;simp only [])
   go_end0
   exact ⟨rfl,C7.out,O7.out⟩
theorem JY (h:Ord Z ob hb w wt V X) (hM:kR n n X items pl bz) (hlt:∀ v ∈ items,v < n) (hb0:∀ a b,decide (bz b < bz a)=false) {v:Nat} (hv:v < n) (hlen:items.length < 1000):
  Calls Tryz.prog 128 #[.pointer (some ⟨hb,0,none⟩),.int .i64 (v:Nat)] w fun e w'=>e=.returned (.tuple #[])/\aC Z w w'/\∃ V' X',Ord Z ob hb w' wt V' X'/\kR n n X' (items ++ [v]) (bB pl v (items.length:Nat)) bz:=by
 obtain ⟨i0,hi,hz0,hz1,hz2⟩:=info_parts Tryz.cu;have HS:=hide h;obtain ⟨a2,c2,e2⟩:=h.bC.shape (k:=2) (by omega)
 have l2:(X 2).length=items.length:=by rw [hM.t2,ag]
 have q2:=h.cells.2.2.2.2.1;rw [e2,l2] at q2;have O2:Hid (w.ownsRow 0 3 1 (.slice a2 items.length c2) items.length (au items)):=by
  have:=h.bC.own 2 (by omega)
  rw [e2,hM.t2,ag] at this;exact this
 have E2:Hid (V 2=.slice a2 items.length c2):=by unfold Hid;rw [e2,l2]
 have HX2:Hid (X 2=au items):=hM.t2;have hlt':=h.hrow.lt;have ns:¬ (hb=w.heap.size):=by omega
 have HM:=hide hM;have UD:Hid (∀ x ∈ items ++ [v],x < n):=fun x hx=>by
  rcases List.mem_append.1 hx with hx | hx
  ·exact hlt x hx
  ·simp at hx;omega
 clear h hM e2 l2 hlt;go_enter Tryz.func128,Tryz.ntmps128
 go_wp2_with (at_builtin;refine aU _ rfl _ _ 43 rfl 0 3 i0 (.int .i64 0) 1 8 Tryz.underlying43 hi hz0 hz1 hz2 rfl (by decide) _ _ _ rfl (O2.out.alloc (Obj.cells #[.int .i64 (v:Int)] 3)) (.slice (some ⟨w.heap.size,0,none⟩) 1 1) 1 [.int .i64 (v:Int)] rfl (.inr ⟨⟨w.heap.size,0,none⟩,1,rfl,World.news_of_block (cs:=#[.int .i64 (v:Int)]) (t:=3) (fr:=(0,0)) (heap_alloc_new w _)⟩) rfl (by simp [Value.oneCell']) (by unfold maxLen;omega) (by omega) (Nat.zero_le _) ?_)
 intro v6 w6 A6;have A7:aB (w.alloc (Obj.cells #[.int .i64 (v:Int)] 3)) 0 3 1 (V 2) (X 2).length (X 2) 1 [.int .i64 (v:Int)] v6 w6:=by rw [E2.out,HX2.out,ag];exact A6
 obtain ⟨s6,c6,k6,z6⟩:=HS.out.push (m:=1) (news:=[.int .i64 (v:Int)]) rfl A7;rw [E2.out] at k6;obtain ⟨qL,qK,hv6⟩:=aH A6.own;subst hv6;have S6:=hide s6;have C6:=hide c6;clear A6 A7 s6 c6 q2 O2;go_upto_region 1 with fail
 generalize hW1:w6.setCell ⟨hb,0,none⟩ (.slice qL (items.length + 1) qK)=W1 at S6 C6 ⊢;clear hW1 k6 z6;have XE:Hid (upd X 2 (X 2 ++ [.int .i64 (v:Int)]) 2=au (items ++ [v])):=by unfold Hid;rw [ae,HX2.out,fQ];rfl
 have M6:kR n n (upd X 2 (X 2 ++ [.int .i64 (v:Int)])) (items ++ [v]) pl bz:=⟨by rw [aa _ _ (by decide)];exact HM.out.n0,by rw [aa _ _ (by decide)];exact HM.out.t0,by rw [aa _ _ (by decide)];exact HM.out.i0,by rw [aa _ _ (by decide)];exact HM.out.n1,by rw [aa _ _ (by decide)];exact HM.out.t1,XE.out⟩
 have q2:=S6.out.cells.2.2.2.2.1;rw [ae] at q2;have QR:=hide (JS S6.out M6 UD.out hb0 (item:=v) (hole:=items.length) (by simp) (by simp;omega))
 clear M6 XE;generalize upd X 2 (X 2 ++ [.int .i64 (v:Int)])=X6 at *
 generalize upd V 2 (.slice qL (items.length + 1) qK)=V6 at *
 go_wp2_with (go_at_call 173;refine QR.out.mono ?_;rintro e7 w7 ⟨rfl,pM,X7,wU,hm7⟩;have F7:Hid (aC Z w w7/\∃ V' X',Ord Z ob hb w7 wt V' X'/\kR n n X' (items ++ [v]) (bB pl v (items.length:Nat)) bz):=⟨C6.out.trans pM,_,X7,wU,hm7⟩;clear pM wU hm7;simp only [])
 go_end0
 exact ⟨rfl,F7.out.1,F7.out.2⟩
end
section
open Go Go.RowKit Go.Deep Rd
variable {ob hb gp gb n:Nat} {w w':World}
theorem Tryz.Oz:(Tryz.prog.info? 2).map (fun i=>(i.zero,i.size,i.bytes))=some (some (.int .i64 0),1,8):=by kernel_rfl
theorem Eb (ob:Nat) (w:World):Calls Tryz.prog 125 #[ahead ob,placed ob] w fun e w'=>e=.returned (.pointer (some ⟨w.heap.size,0,none⟩))/\w'=w.alloc (.cells #[.slice none 0 0,ahead ob,placed ob] 224):=by
 go_enter Tryz.func125,Tryz.ntmps125
 go_wp2;go_ret
 exact ⟨rfl,rfl⟩
structure Raw (w:World) (n ob gp gb:Nat) (p0:Value) (w':World):Prop where
 jK:Below w.heap.size w w'
 lo:w.heap.size <= ob
 lp:w.heap.size <= gp
 lb:w.heap.size <= gb
 gH:w'.rowIs ob 193 4 (fun j=>if j=0 then p0 else if j=1 then .slice (some ⟨gp,0,none⟩) n n else if j=2 then .slice (some ⟨gb,0,none⟩) n n else .int .i64 65536)
 iH:w'.rowIs gp 3 n (fun _=>.int .i64 0)
 LC:w'.rowIs gb 2 n (fun _=>.int .i64 0)
def rq (gp gb n:Nat) (k:Nat):Value:=if k=0 then .slice (some ⟨gp,0,none⟩) n n else if k=1 then .slice (some ⟨gb,0,none⟩) n n else .slice none 0 0
def wD (n:Nat) (k:Nat):List Value:=if k=2 then [] else List.replicate n (.int .i64 0)
theorem Ar (n:Nat) (z:Value):(List.range n).map (fun _=>z)=List.replicate n z:=by rw [List.map_const',List.length_range]
theorem four (w:World) (a b c d:Value) (t:TypeId):(w.alloc (.cells #[a,b,c,d] t)).rowIs w.heap.size t 4 (fun j=>if j=0 then a else if j=1 then b else if j=2 then c else d):=
 World.rowIs_alloc w #[a,b,c,d] t _ fun i hi=>by
  have hi:i < 4:=hi
  rcases (show i=0\/i=1\/i=2\/i=3 by omega) with rfl | rfl | rfl | rfl <;> rfl
theorem raw1 (w:World) (n:Nat):Raw w n (w.heap.size + 1 + 1) w.heap.size (w.heap.size + 1) (.pointer none) (((w.alloc (.cells (madeCells #[.int .i64 0] n) 3)).alloc (.cells (madeCells #[.int .i64 0] n) 2)).alloc (.cells #[.pointer none,.slice (some ⟨w.heap.size,0,none⟩) n n,.slice (some ⟨w.heap.size + 1,0,none⟩) n n,.int .i64 65536] 193)).drew:=by
 have r1:=World.rowIs_made w (.int .i64 0) n 3;have r2:=World.rowIs_made (w.alloc (.cells (madeCells #[.int .i64 0] n) 3)) (.int .i64 0) n 2;have r3:=four ((w.alloc (.cells (madeCells #[.int .i64 0] n) 3)).alloc (.cells (madeCells #[.int .i64 0] n) 2)) (.pointer none) (.slice (some ⟨w.heap.size,0,none⟩) n n) (.slice (some ⟨w.heap.size + 1,0,none⟩) n n) (.int .i64 65536) 193;simp only [World.size_alloc] at r2 r3;exact ⟨((((Below.refl _ w).alloc (Nat.le_refl _) _).alloc (by simp) _).alloc (by simp;omega) _).drew,by omega,Nat.le_refl _,by omega,r3.drew,((r1.alloc _).alloc _).drew,(r2.alloc _).drew⟩
theorem raw2 (w:World) (n:Nat):Raw w n (w.heap.size + 1 + 1) (w.heap.size + 1) w.heap.size (.pointer none) (((w.alloc (.cells (madeCells #[.int .i64 0] n) 2)).alloc (.cells (madeCells #[.int .i64 0] n) 3)).alloc (.cells #[.pointer none,.slice (some ⟨w.heap.size + 1,0,none⟩) n n,.slice (some ⟨w.heap.size,0,none⟩) n n,.int .i64 65536] 193)).drew:=by
 have r1:=World.rowIs_made w (.int .i64 0) n 2;have r2:=World.rowIs_made (w.alloc (.cells (madeCells #[.int .i64 0] n) 2)) (.int .i64 0) n 3;have r3:=four ((w.alloc (.cells (madeCells #[.int .i64 0] n) 2)).alloc (.cells (madeCells #[.int .i64 0] n) 3)) (.pointer none) (.slice (some ⟨w.heap.size + 1,0,none⟩) n n) (.slice (some ⟨w.heap.size,0,none⟩) n n) (.int .i64 65536) 193;simp only [World.size_alloc] at r2 r3;exact ⟨((((Below.refl _ w).alloc (Nat.le_refl _) _).alloc (by simp) _).alloc (by simp;omega) _).drew,by omega,by omega,Nat.le_refl _,r3.drew,(r2.alloc _).drew,((r1.alloc _).alloc _).drew⟩
theorem Raw.ord (h:Raw w n ob gp gb (.pointer (some ⟨hb,0,none⟩)) w') (hn:n <= 50) (hhb:w.heap.size <= hb) (hrow:w'.rowIs hb 224 3 (fun j=>if j=0 then .slice none 0 0 else if j=1 then ahead ob else placed ob)):
  Ord (fun g=>w.heap.size <= g) ob hb w' 65536 (rq gp gb n) (wD n) where
 gH:=h.gH.congr fun i hi=>by
  unfold NA rq
  rcases (show i=0\/i=1\/i=2\/i=3 by omega) with rfl | rfl | rfl | rfl <;> simp
 hrow:=hrow.congr fun i hi=>by
  unfold Ud rq
  rcases (show i=0\/i=1\/i=2 by omega) with rfl | rfl | rfl <;> simp
 bC:={
  own:=fun k hk=>by
   rcases (show k=0\/k=1\/k=2 by omega) with rfl | rfl | rfl
   ·have:=jq h.iH (by unfold maxLen;omega)
    rw [Ar] at this;simpa [rq,wD,Dj] using this
   ·have:=jq h.LC (by unfold maxLen;omega)
    rw [Ar] at this;simpa [rq,wD,Dj] using this
   ·exact ⟨by simp [wD],.inl ⟨rfl,rfl⟩⟩
  apart:=fun k k' hk hk' hne=>by
   have npb:gp ≠ gb:=fun e=>by
    obtain ⟨c,h1,_⟩:=h.iH;obtain ⟨c',h2,_⟩:=h.LC;rw [e,h2] at h1;exact absurd (Obj.cells.inj (Option.some.inj h1)).2.1 (by decide)
   rcases (show k=0\/k=1\/k=2 by omega) with rfl | rfl | rfl <;> rcases (show k'=0\/k'=1\/k'=2 by omega) with rfl | rfl | rfl
   ·exact absurd rfl hne
   ·exact .inr (by simpa [rq,Value.ownBlock] using npb)
   ·exact .inr (by simp [rq,Value.ownBlock])
   ·exact .inr (by simpa [rq,Value.ownBlock] using fun e=>npb e.symm)
   ·exact absurd rfl hne
   ·exact .inr (by simp [rq,Value.ownBlock])
   ·exact .inl (by simp [rq,Value.ownBlock])
   ·exact .inl (by simp [rq,Value.ownBlock])
   ·exact absurd rfl hne }
 zo:=h.lo
 zh:=hhb
 al:=fun k hk g hg=>by
  rcases (show k=0\/k=1\/k=2 by omega) with rfl | rfl | rfl
  ·simp [rq,Value.ownBlock] at hg;have:=h.lp;omega
  ·simp [rq,Value.ownBlock] at hg;have:=h.lb;omega
  ·simp [rq,Value.ownBlock] at hg
 az:=fun g hg=>Nat.le_trans h.jK.size hg
theorem SV (n:Nat):kR n n (wD n) [] (fun _=>0) (fun _=>0) where
 n0:=by simp [wD]
 t0:=fun v hv _=>by simp [wD,hv]
 i0:=fun v hv=>⟨0,by simp [wD,hv]⟩
 n1:=by simp [wD]
 t1:=fun v hv=>by simp [wD,hv]
 t2:=by simp [wD,au]
def Qt (w:World) (n:Nat) (e:Ending) (w':World):Prop:=∃ ob hb,e=.returned (.pointer (some ⟨ob,0,none⟩))/\eU (fun g=>w.heap.size <= g) ob hb n w' (fun v=>n <= v)/\Below w.heap.size w w'
structure Fq (w:World) (n ob hb:Nat) (k:Nat) (wr:World):Prop where
 ex:∃ V X pl,Ord (fun g=>w.heap.size <= g) ob hb wr 65536 V X/\kR n n X (List.range k) pl (fun _=>0)/\∀ v,v < k->pl v=(v:Nat)
 jK:Below w.heap.size w wr
theorem Fq.fin (h:Fq w n ob hb n w'):Qt w n (.returned (.pointer (some ⟨ob,0,none⟩))) w':=by
 obtain ⟨V,X,pl,h1,h2,h3⟩:=h.ex;refine ⟨ob,hb,rfl,⟨⟨65536,V,X,List.range n,fun v=>if v < n then (v:Nat) else -1,fun _=>0,h1,⟨h2.n0,fun v hv hg=>by rw [h2.t0 v hv hg,h3 v hv,if_pos hv],h2.i0,h2.n1,h2.t1,h2.t2⟩,⟨fun v hv=>by simpa using hv,fun v hv=>.inr ⟨v,by simp [hv],by simp [hv]⟩,fun i hi=>by simp at hi;simp [hi]⟩,fun v=>?_⟩,Nat.le_refl _⟩,h.jK⟩
 by_cases hv:v < n
 ·simp [hv]
 ·simp [hv];omega
theorem AX (n:Nat) (hn:n <= 50) (w:World):Calls Tryz.prog 93 #[.int .i64 (n:Nat)] w fun e w'=>Qt w n e w':=by
 have NY:=run_make_row' (P:=Tryz.prog) 43 3 (.int .i64 0) 8 Tryz.underlying43 Tryz.cu rfl .i64 .i64 n (by omega) (by omega)
 have UR:=run_make_row' (P:=Tryz.prog) 190 2 (.int .i64 0) 8 Tryz.underlying190 Tryz.Oz rfl .i64 .i64 n (by omega) (by omega)
 go_enter Tryz.func93,Tryz.ntmps93
 go_upto_region 1 with fail
 go_cut [3] from 20 (fun s3 wx=>∃ ob gp gb,s3=.pointer (some ⟨ob,0,none⟩)/\Hid (Raw w n ob gp gb (.pointer none) wx))
 case first=>
  go_region_with (fail)
  ·go_wp2_with fail
   go_meet;exact ⟨_,_,_,rfl,raw1 w n⟩
  ·go_wp2_with fail
   go_meet;exact ⟨_,_,_,rfl,raw2 w n⟩
 case rest=>
  obtain ⟨ob,gp,gb,rfl,hR⟩:=hcut;have r0:=hR.out.gH.cell (i:=0) (by omega)
  have z0:=hR.out.gH.frozen 0;have olt:=hR.out.gH.lt;simp only [if_true] at r0;have QH:=hide (Eb ob wc);have S0:Hid (Fq w n ob wc.heap.size 0 ((wc.setCell ⟨ob,0,none⟩ (.pointer (some ⟨wc.heap.size,0,none⟩))).alloc (.cells #[.slice none 0 0,ahead ob,placed ob] 224))):=by
   have hR:=hR.out;have hsz:=hR.jK.size;have nh:ob ≠ wc.heap.size:=by omega
   have hlp:=hR.iH.lt;have hlb:=hR.LC.lt;have npo:gp ≠ ob:=fun e=>by
    obtain ⟨c,h1,_⟩:=hR.iH;obtain ⟨c',h2,_⟩:=hR.gH;rw [e,h2] at h1;exact absurd (Obj.cells.inj (Option.some.inj h1)).2.1 (by decide)
   have nbo:gb ≠ ob:=fun e=>by
    obtain ⟨c,h1,_⟩:=hR.LC;obtain ⟨c',h2,_⟩:=hR.gH;rw [e,h2] at h1;exact absurd (Obj.cells.inj (Option.some.inj h1)).2.1 (by decide)
   have hR2:Raw w n ob gp gb (.pointer (some ⟨wc.heap.size,0,none⟩)) ((wc.setCell ⟨ob,0,none⟩ (.pointer (some ⟨wc.heap.size,0,none⟩))).alloc (.cells #[.slice none 0 0,ahead ob,placed ob] 224)):={
    jK:=(hR.jK.setCell hR.lo _).alloc (by simpa [World.setCell] using hsz) _
    lo:=hR.lo
    lp:=hR.lp
    lb:=hR.lb
    gH:=((hR.gH.set 0 _).alloc _).congr fun i hi=>by
     by_cases e:i=0
     ·subst e;simp
     ·simp [e]
    iH:=(hR.iH.setOther (by simpa using npo) _).alloc _
    LC:=(hR.LC.setOther (by simpa using nbo) _).alloc _ }
   refine ⟨⟨_,_,_,hR2.ord hn hsz ?_,SV n,fun v hv=>by omega⟩,hR2.jK⟩
   have:=World.rowIs_alloc (wc.setCell ⟨ob,0,none⟩ (.pointer (some ⟨wc.heap.size,0,none⟩))) #[.slice none 0 0,ahead ob,placed ob] 224 (fun j=>if j=0 then .slice none 0 0 else if j=1 then ahead ob else placed ob) fun i hi=>by
    have hi:i < 3:=hi
    rcases (show i=0\/i=1\/i=2 by omega) with rfl | rfl | rfl <;> rfl
   rw [show (wc.setCell ⟨ob,0,none⟩ (.pointer (some ⟨wc.heap.size,0,none⟩))).heap.size=wc.heap.size by simp [World.setCell]] at this
   exact this
  clear hR NY UR;have nn:¬ (ob=wc.heap.size):=by omega
  unfold ahead placed at QH S0;go_upto_region 3 with (go_at_call 125;refine QH.out.mono ?_;rintro e7 w7 ⟨rfl,rfl⟩;simp only [])
  generalize hW1:(wc.setCell ⟨ob,0,none⟩ (.pointer (some ⟨wc.heap.size,0,none⟩))).alloc (.cells #[.slice none 0 0,Value.func (.func 126) #[.pointer (some ⟨ob,0,none⟩)] #[],Value.func (.func 127) #[.pointer (some ⟨ob,0,none⟩)] #[]] 224)=W1 at S0 ⊢;generalize wc.heap.size=hb at S0;clear hW1 r0 z0 QH;go_wp2_with fail
  go_loopw [4,20] (fun _ s20 wr=>∃ k:Nat,s20=.int .i64 ((k:Nat):Int)/\k <= n/\Hid (Fq w n ob hb k wr)) (fun _ s20 _=>n - (intOf s20).toNat)
  case atStart=>exact ⟨0,rfl,Nat.zero_le _,S0⟩
  case round=>
   clear S0;obtain ⟨k,rfl,hkn,hst⟩:=hrel;by_cases hlt:k < n
   ·have QP:Hid (Calls Tryz.prog 128 #[.pointer (some ⟨hb,0,none⟩),.int .i64 (k:Nat)] wr fun e w'=>e=.returned (.tuple #[])/\Fq w n ob hb (k + 1) w'):=by
     obtain ⟨V,X,pl,h1,h2,h3⟩:=hst.out.ex;refine (JY h1 h2 (fun v hv=>by have:=List.mem_range.1 hv;omega) (fun _ _=>by simp) hlt (by simp;omega)).mono ?_
     rintro e w' ⟨rfl,hc,V',X',ho,hm⟩;refine ⟨rfl,⟨V',X',_,ho,by rw [List.range_succ];exact hm,fun v hv=>?_⟩,hst.out.jK.trans (hc.below hst.out.jK.size (fun g hg=>by omega))⟩
     by_cases e:v=k
     ·subst e;rw [aD];simp
     ·rw [ah _ _ e];exact h3 v (by omega)
    have q0:wr.cell? ⟨ob,0,none⟩=some (.pointer (some ⟨hb,0,none⟩)):=by
     obtain ⟨V,X,pl,h1,h2,h3⟩:=hst.out.ex;exact h1.cells.1
    have k0:(0:Int) <= (k:Int):=by omega
    have k1:(k:Int) < (n:Int):=by omega
    have k2:(k:Int) <= 50:=by omega
    clear hst;go_wp2_with (go_at_call 128;refine QP.out.mono ?_;rintro e7 w7 ⟨rfl,hs7⟩;have S7:=hide hs7;clear hs7;simp only [])
    go_roundw
    case rel=>exact ⟨k + 1,by go_num,hlt,S7⟩
    case measure=>simp [intOf];omega
   ·have e:k=n:=by omega
    subst e;have F:=hide hst.out.fin;clear hst;go_wp2;go_ret;exact F.out
end
section
open Go Go.RowKit Go.Deep Rd
def Vv (w:World) (c:List Nat) (s:Value) (wr:World):Prop:=∃ i:Nat,s=.int .i64 ((i:Nat):Int)/\1 <= i/\(i <= c.length\/i=1)/\Hid ((∀ j (h:j + 1 < c.length),j + 1 < i->c[j + 1] ≠ op c[j])/\∃ d,wr=w.drewN d)
def Jq (w:World) (c:List Nat) (e:Ending) (w':World):Prop:=(∃ d,w'=w.drewN d)/\∃ b:Bool,e=.returned (.bool b)/\(b=true↔∃ j,∃ h:j + 1 < c.length,c[j + 1]=op c[j])
theorem uQ (c:List Nat) (al:Option Addr) (g o cap:Nat) (w:World) (ha:0 < c.length->al=some ⟨g,o,none⟩) (hc:∀ j (h:j < c.length),w.cell? ⟨g,o + j,none⟩=some (.int .i64 (c[j]:Nat))) (hl:∀ x ∈ c,x < 128) (hn:c.length <= 1099511627776):
  Calls Tryz.prog 131 #[.slice al c.length cap] w fun e w'=>Jq w c e w':=by
 have HC:=hide hc;have HL:=hide hl;clear hc hl;go_enter Tryz.func131,Tryz.ntmps131
 go_wp2_with fail
 go_loopw [3] (fun s wr=>Vv w c s wr) (fun s _=>c.length - (intOf s).toNat)
 case atStart=>exact ⟨1,rfl,by omega,.inr rfl,fun j _ h=>by omega,0,rfl⟩
 case round=>
  obtain ⟨i,rfl,hi,hil,hst⟩:=hrel;obtain ⟨d,hd⟩:=hst.out.2;have hall:=hide hst.out.1;clear hst;by_cases hlt:i < c.length
  ·obtain rfl:=ha (by omega)
   have r1:=HC.out i hlt;have r0:=HC.out (i - 1) (by omega)
   have l0:=HL.out _ (List.getElem_mem (show i - 1 < c.length by omega))
   obtain ⟨x1,h1⟩:∃ x,x=c[i]:=⟨_,rfl⟩;obtain ⟨x0,h0⟩:∃ x,x=c[i - 1]:=⟨_,rfl⟩;rw [<- h1] at r1;rw [<- h0] at r0 l0;have QO:=hide (fun Y=>iw x0 Y l0)
   have i0:(0:Int) <= (i:Int):=by omega
   have i1:(i:Int) < (c.length:Int):=by omega
   have i2:(0:Int) <= (i:Int) - 1:=by omega
   have i3:(i:Int) - 1 < (c.length:Int):=by omega
   have i4:((i:Int) - 1).toNat=i - 1:=by omega
   have i5:(i:Int) <= 1099511627776:=by omega
   have hcell:∀ a,wr.cell? a=w.cell? a:=fun a=>by rw [hd];rfl
   rw [<- hcell] at r1 r0;have HD:Hid (∀ d2,∃ d,wr.drewN d2=w.drewN d):=fun d2=>⟨d + d2,by rw [hd,World.drewN_drewN]⟩
   clear hcell hd;generalize hox:op x0=ox at *
   by_cases hb:x1=ox
   ·have F:Hid (∀ d2,Jq w c (.returned (.bool true)) (wr.drewN d2)):=fun d2=>⟨HD.out d2,true,rfl,fun _=>⟨i - 1,by omega,by
     have e:i - 1 + 1=i:=by omega
     simp only [e];rw [<- h1,<- h0,hox,hb]⟩,fun _=>rfl⟩
    subst hb;clear h0 h1 hox hall;go_upto_region 4 with fail
    go_quiet ((go_at_call 139;exact Calls.quiet_of_same (QO.out _)))
    go_wp2;go_ret
    exact F.out _
   ·have F:Hid (∀ d2,Vv w c (.int .i64 ((i + 1:Nat):Int)) (wr.drewN d2)):=fun d2=>⟨i + 1,rfl,by omega,.inl (by omega),fun j h hj=>by
     by_cases e:j + 1=i
     ·subst e;simp only [Nat.add_sub_cancel] at h0;rw [<- h1,<- h0,hox];exact hb
     ·exact hall.out j h (by omega),HD.out d2⟩
    have hb2:((x1:Int) == (ox:Int))=false:=by
     rw [beq_eq_false_iff_ne];omega
    clear h0 h1 hox hall;go_upto_region 4 with fail
    go_quiet ((go_at_call 139;exact Calls.quiet_of_same (QO.out _)))
    go_wp2;go_roundw
    case rel=>exact F.out _
    case measure=>simp [intOf];omega
  ·have F:Hid (Jq w c (.returned (.bool false)) wr):=⟨⟨d,hd⟩,false,rfl,⟨fun h=>(by cases h),fun ⟨j,h,e⟩=>absurd e (hall.out j h (by omega))⟩⟩
   have i1:¬ ((i:Int) < (c.length:Int)):=by omega
   clear hall hd;go_wp2;go_ret;exact F.out
end
section
open Go Go.RowKit Go.Deep Rd
theorem Xf {i:Nat} (h:i < 10):Lib.decDigits i=[UInt8.ofNat (48 + i)]:=by rw [Lib.decDigits,dif_pos h]
theorem ZM {i:Nat} (h:¬ i < 10) (h2:i < 100):Lib.decDigits i=[UInt8.ofNat (48 + i / 10),UInt8.ofNat (48 + i % 10)]:=by rw [Lib.decDigits,dif_neg h,Xf (by omega)];rfl
theorem JH (i:Nat) (hi:i < 100) (w:World):Calls Tryz.prog 149 #[.int .i64 (i:Nat)] w fun e w'=>(∃ x:ByteArray,e=.returned (.string x)/\Hid (x.data.toList=Lib.decDigits i))/\w'=w:=by
 by_cases h:i < 10
 ·have i0:(0:Int) <= (i:Int):=by omega
  have i1:(i:Int) < 10:=by omega
  have i2:(i:Int) <= 36:=by omega
  have i3:(i:Int) + 1 <= 36:=by omega
  have i4:((i:Int) + 1).toNat=i + 1:=by omega
  have i5:(i:Int) <= (i:Int) + 1:=by omega
  go_enter Tryz.func149,Tryz.ntmps149
  go_wp2;go_ret
  refine ⟨⟨_,rfl,?_⟩,rfl⟩;clear i0 i1 i2 i3 i4 i5 hi;unfold Hid;rw [Xf h];rename_i q1 k1 a1;clear a1 k1 q1;revert i
  decide +kernel
 ·have i0:(0:Int) <= (i:Int) * 2:=by omega
  have i1:¬ (i:Int) < 10:=by omega
  have i2:(i:Int) * 2 <= 200:=by omega
  have i3:(i:Int) * 2 + 2 <= 200:=by omega
  have i4:((i:Int) * 2 + 2).toNat=i * 2 + 2:=by omega
  have i6:((i:Int) * 2).toNat=i * 2:=by omega
  have i5:(i:Int) * 2 <= (i:Int) * 2 + 2:=by omega
  go_enter Tryz.func149,Tryz.ntmps149
  go_wp2;go_ret
  refine ⟨⟨_,rfl,?_⟩,rfl⟩;clear i0 i1 i2 i3 i4 i5 i6;unfold Hid;rw [ZM h hi];revert i
  decide +kernel
end
section
open Go Go.RowKit Go.Deep Rd Go.Lib
section
variable {P:Program}
theorem vT (w:World) (base:Nat) (t u ty e:TypeId) (i:TypeInfo) (ht:P.underlying t=some (.slice e)) (hu:P.underlying u=some .string) (hi:P.info? e=some i) (hz:i.zero=some (.int .u8 0))
  (hsize:i.size=1) (hby:i.bytes=1) (v:Value) (n:Nat) (xs:List Value) (hown:w.ownsRow base e 1 v n xs) (s:ByteArray)
  (h63:n + s.size <= maxLen) (hbytes:n + s.size <= 140737488355328) (hbase:base <= w.heap.size):
  ∃ v' w',(Builtin.append_ #[t,u] ty #[v,.string s]).run P w=.ok v' w'/\aB w base e 1 v n xs s.size (strCells s) v' w':=by
 obtain ⟨v',w',hr,h2,h3,h4⟩:=run_append_own_string (P:=P) w base t u ty e i ht hu hi hz hsize hby v n xs hown s h63 hbytes hbase;refine ⟨v',w',hr,h2,h3,?_⟩;have hsmall:n + s.size <= 9223372036854775807:=by simp only [maxLen] at h63;omega
 have hxl:xs.length=n:=by simpa using hown.1
 rcases hown.2 with ⟨rfl,rfl⟩ | ⟨g,cap,cur,rfl,hbg,hg,hnc,hcm,hcs,htake⟩
 ·by_cases hm:s.size=0
  ·left;rw [h4.2 ⟨rfl,hm⟩]
  ·right
   have hr2:=run_append_nil_string (P:=P) w t u ty e i (.int .u8 0) ht hu hi hz s (by omega) (by omega) (by rw [hby];omega)
   rw [hr] at hr2
   injection hr2 with e1 e2
   rw [e1];rfl
 ·by_cases hroom:n + s.size <= cap
  ·left
   have hr2:=run_append_room_string (P:=P) w t u ty e i ht hu hi hsize g n cap cur hg s hroom (by omega)
   rw [hr] at hr2
   injection hr2 with e1 e2
   rw [e1];rfl
  ·right
   have holds:∀ j u,xs[j]? = some u->w.cell? ((⟨g,0,none⟩:Addr).add j)=some u:=hown.cells (g:=g) rfl;have hr2:=run_append_grow_string (P:=P) w t u ty e i (.int .u8 0) ht hu hi hz ⟨g,0,none⟩ n cap xs (by rw [hsize];simpa using hxl) holds s (by omega) (by omega) (by rw [hby];exact growslice_fits (by omega) (by omega))
   rw [hr] at hr2
   injection hr2 with e1 e2
   rw [e1];rfl
theorem gU (w:World) {ops:Array Oper} {rest:List Oper} {o:Oper} {a:Act} {Q:Exit->Act->World->Prop} (hgd:o.guard=none) (sl x:Operand) (t u:TypeId)
  (ho:o.op=.call { callee:=.builtin .append,args:=#[sl,x],argTypes:=#[t,u] })
  (base:Nat) (e:TypeId) (i:TypeInfo) (ht:P.underlying t=some (.slice e)) (hu:P.underlying u=some .string) (hi:P.info? e=some i) (hz:i.zero=some (.int .u8 0))
  (hsize:i.size=1) (hby:i.bytes=1)
  (v:Value) (n:Nat) (xs:List Value) (hs:a.eval sl=v) (hown:w.ownsRow base e 1 v n xs) (s:ByteArray) (hx:a.eval x=.string s)
  (h63:n + s.size <= maxLen) (hbytes:n + s.size <= 140737488355328) (hbase:base <= w.heap.size)
  (h:∀ v' w',aB w base e 1 v n xs s.size (strCells s) v' w'->wpList P ops Q rest (a.put o.dst v') w'):wpList P ops Q (o :: rest) a w:=by
 refine wpList_plain hgd fun K hK=>?_
 obtain ⟨v',w',hr,h2⟩:=vT (P:=P) w base t u o.type e i ht hu hi hz hsize hby v n xs hown s h63 hbytes hbase;unfold Oper.wp execOp;simp only [ho,resolve,invoke,builtin,Sem.run_bind,Sem.run_pure,Result.andThen_ok,List.map_toArray,List.map_cons,List.map_nil,hs,hx,hr];exact hK _ _ (h v' w' h2)
end
theorem Tryz.pE:(Tryz.prog.info? 5).map (fun i=>(i.zero,i.size,i.bytes))=some (some (.int .u8 0),1,1):=by kernel_rfl
theorem Uj {i:Nat} (hi:i < 100) {s:ByteArray} (h:s.data.toList=Lib.decDigits i):s.size <= 2:=by
 have e:s.size=s.data.toList.length:=(Array.length_toList).symm;rw [e,h];by_cases h:i < 10
 ·rw [Xf h];exact Nat.le_succ _
 ·rw [ZM h hi];exact Nat.le_refl _
theorem xK (i:Nat) (hi:i < 100) (v:Value) (n:Nat) (xs:List Value) (w:World) (hown:w.ownsRow 0 5 1 v n xs) (hn:n <= 1000000):
  Calls Tryz.prog 237 #[v,.int .u64 (i:Nat),.int .i64 10] w fun e w'=>∃ v' s,e=.returned v'/\s.data.toList=Lib.decDigits i/\aB w 0 5 1 v n xs s.size (strCells s) v' w':=by
 have QS:=hide (JH i hi);obtain ⟨i0',hi',hz0,hz1,hz2⟩:=info_parts Tryz.pE;have HO:=hide hown;clear hown;have i1:(i:Int) < 100:=by omega
 have i0:(0:Int) <= (i:Int):=by omega
 go_enter Tryz.func237,Tryz.ntmps237
 go_wp2_with (first | (go_at_call 149;refine (QS.out _).mono ?_;rintro e7 w7 ⟨⟨s,rfl,hs⟩,rfl⟩;have hsl:s.size <= 2:=Uj hi hs.out;simp only []) | (at_builtin;refine gU _ rfl _ _ 107 9 rfl 0 5 i0' Tryz.underlying107 Tryz.underlying9 hi' hz0 hz1 hz2 _ _ _ rfl HO.out s rfl (by unfold maxLen;omega) (by omega) (Nat.zero_le _) ?_;intro v' w' A))
 go_wp2;go_ret
 exact ⟨v',s,rfl,hs.out,A⟩
end
section
open Go Go.RowKit Go.Deep Rd Go.Lib
structure cz (w:World) (v:Value) (n:Nat) (xs news:List Value) (v':Value) (w':World):Prop where
 own:w'.ownsRow 0 5 1 v' (n + news.length) (xs ++ news)
 grew:w.grownBy w' v.ownBlock
 at':v'.ownBlock=v.ownBlock\/∃ g,w.heap.size <= g/\v'.ownBlock=some g
theorem cz.trans {w w1 w2:World} {v v1 v2:Value} {n:Nat} {xs a b:List Value} (h:cz w v n xs a v1 w1) (k:cz w1 v1 (n + a.length) (xs ++ a) b v2 w2):cz w v n xs (a ++ b) v2 w2 where
 own:=by rw [List.length_append,<- Nat.add_assoc,<- List.append_assoc];exact k.own
 grew:=⟨k.grew.os.trans h.grew.os,k.grew.tape.trans h.grew.tape,k.grew.output.trans h.grew.output,Nat.le_trans h.grew.size k.grew.size,fun i hi hne=>by
  have s:=h.grew.size;rw [k.grew.block i (by omega) (fun e=>by
   rcases h.at' with h1 | ⟨g,hg,h1⟩
   ·exact hne (e.trans h1)
   ·rw [h1] at e;have:=Option.some.inj e;omega),h.grew.block i hi hne]⟩
 at':=by
  rcases k.at' with h2 | ⟨g,hg,h2⟩
  ·rcases h.at' with h1 | ⟨g,hg,h1⟩
   ·exact .inl (h2.trans h1)
   ·exact .inr ⟨g,hg,h2.trans h1⟩
  ·exact .inr ⟨g,Nat.le_trans h.grew.size hg,h2⟩
theorem cz.of {w w':World} {v v':Value} {n m:Nat} {xs news:List Value} (hm:news.length=m) (A:aB w 0 5 1 v n xs m news v' w'):cz w v n xs news v' w' where
 own:=by rw [hm];exact A.own
 grew:=A.grew
 at':=A.at'.elim .inl fun h=>.inr ⟨_,Nat.le_refl _,h⟩
theorem cz.IJ {w w':World} {v v':Value} {n m:Nat} {xs news:List Value} {ob:Obj} (hm:news.length=m) (A:aB (w.alloc ob) 0 5 1 v n xs m news v' w'):cz w v n xs news v' w' where
 own:=by rw [hm];exact A.own
 grew:=⟨A.grew.os,A.grew.tape,A.grew.output,by have:=A.grew.size;simp at this;omega,fun k hk hne=>by
  rw [A.grew.block k (by simp;omega) hne];exact Below.heap_alloc w _ k hk⟩
 at':=A.at'.elim .inl fun h=>.inr ⟨_,by simp,h⟩
def aM (l:List UInt8):List Value:=l.map fun b=>Value.int .u8 b.toNat
theorem xH (s:ByteArray):strCells s=aM s.data.toList:=by simp [strCells,aM]
theorem kP (i:Nat) (hi:i < 100) (v:Value) (n:Nat) (xs:List Value) (w:World) (hown:w.ownsRow 0 5 1 v n xs) (hn:n <= 1000000):
  Calls Tryz.prog 237 #[v,.int .u64 (i:Nat),.int .i64 10] w fun e w'=>∃ v',e=.returned v'/\cz w v n xs (aM (Lib.decDigits i)) v' w':=
 (xK i hi v n xs w hown hn).mono fun e w' ⟨v',s,h1,h2,A⟩=>⟨v',h1,by
  rw [<- h2,<- xH];exact cz.of (by rw [strCells_length]) A⟩
theorem BH (x:Int) (h0:-100 < x) (h1:x < 100) (v:Value) (n:Nat) (xs:List Value) (w:World) (hown:w.ownsRow 0 5 1 v n xs) (hn:n <= 100000):
  Calls Tryz.prog 214 #[v,.int .i64 x,.int .i64 10] w fun e w'=>∃ v',e=.returned v'/\cz w v n xs (aM (Lib.itoa x)) v' w':=by
 have HO:=hide hown;clear hown;by_cases hx:x < 0
 ·obtain ⟨i,rfl⟩:∃ i:Nat,x=-(i:Int):=⟨x.natAbs,by omega⟩
  obtain ⟨ii,hi',hz0,hz1,hz2⟩:=info_parts Tryz.pE;have QU:=hide (fun v1 w1 (h:w1.ownsRow 0 5 1 v1 (n + 1) (xs ++ [.int .u8 45]))=>kP i (by omega) v1 (n + 1) (xs ++ [.int .u8 45]) w1 h (by omega))
  rw [show Lib.itoa (-(i:Int))=[45] ++ Lib.decDigits i by unfold Lib.itoa;rw [if_pos hx,show (-(i:Int)).natAbs=i by omega];rfl]
  rw [show aM ([45] ++ Lib.decDigits i)=[.int .u8 45] ++ aM (Lib.decDigits i) by unfold aM;rw [List.map_append];rfl]
  have hw:IntKind.u64.wrap (-(i:Int))=18446744073709551616 - i:=by simp [IntKind.wrap,IntKind.bits,IntKind.signed];omega
  have hw2:IntKind.u64.wrap (-(18446744073709551616 - (i:Int)))=i:=by simp [IntKind.wrap,IntKind.bits,IntKind.signed];omega
  have hw3:IntKind.u64.wrap (0 - (18446744073709551616 - (i:Int)))=i:=by simp [IntKind.wrap,IntKind.bits,IntKind.signed];omega
  go_enter Tryz.func214,Tryz.ntmps214
  go_wp2_with (first | (go_at_call 237;refine (QU.out _ _ A1.own).mono ?_;rintro e7 w7 ⟨v7,rfl,A⟩;simp only []) | (at_builtin;refine aU _ rfl _ _ 107 rfl 0 5 ii (.int .u8 0) 1 1 Tryz.underlying107 hi' hz0 hz1 hz2 rfl (by decide) _ _ _ rfl (HO.out.alloc (Obj.cells #[.int .u8 45] 5)) (.slice (some ⟨w.heap.size,0,none⟩) 1 1) 1 [.int .u8 45] rfl (.inr ⟨⟨w.heap.size,0,none⟩,1,rfl,(cell_one_new w _ _)⟩) rfl (by simp [Value.oneCell']) (by unfold maxLen;omega) (by omega) (Nat.zero_le _) ?_;intro v1 w1 A0;have A1:=cz.IJ (by rfl) A0))
  go_ret
  exact ⟨v7,rfl,A1.trans A⟩
 ·obtain ⟨i,rfl⟩:=Int.eq_ofNat_of_zero_le (show 0 <= x by omega)
  have QU:=hide (kP i (by omega) v n xs w HO.out (by omega))
  rw [show Lib.itoa (i:Int)=Lib.decDigits i by unfold Lib.itoa;rw [if_neg hx];rfl]
  have hw:IntKind.u64.wrap (i:Int)=i:=by simp [IntKind.wrap,IntKind.bits,IntKind.signed];omega
  go_enter Tryz.func214,Tryz.ntmps214
  go_wp2_with (go_at_call 237;refine QU.out.mono ?_;rintro e7 w7 ⟨v7,rfl,A⟩;simp only [])
  go_ret
  exact ⟨v7,rfl,A⟩
theorem yL (x:Int) (h0:-100 < x) (h1:x < 100) (v:Value) (n:Nat) (xs:List Value) (w:World) (hown:w.ownsRow 0 5 1 v n xs) (hn:n <= 100000):
  Calls Tryz.prog 180 #[v,.int .i64 x,.int .i64 10] w fun e w'=>∃ v',e=.returned v'/\cz w v n xs (aM (Lib.itoa x)) v' w':=by
 have QI:=hide (BH x h0 h1 v n xs w hown hn);clear hown;go_enter Tryz.func180,Tryz.ntmps180
 go_wp2_with (go_at_call 214;refine QI.out.mono ?_;rintro e7 w7 ⟨v7,rfl,A⟩;simp only [])
 go_ret
 exact ⟨v7,rfl,A⟩
end
section
open Go Go.RowKit Go.Deep Rd Go.Lib
variable {Z:Nat->Prop} {sb K:Nat} {w w':World} {f V:Nat->Value} {X:Nat->List Value}
theorem oU.longer {B:Nat} (h:oU 0 w K iC V X) (hk:12 < K) {v':Value} {w6:World} {news:List Value} (A:cz w (V 12) (X 12).length (X 12) news v' w6):oU 0 w6 K iC (upd V 12 v') (upd X 12 (X 12 ++ news)) where
 own:=fun i hi=>by
  by_cases e:i=12
  ·subst e;rw [ae,ae,List.length_append];exact A.own
  ·rw [aa _ _ e,aa _ _ e];exact (h.own i hi).kept A.grew (h.apart i 12 hi hk e)
 apart:=fun i j hi hj hij=>by
  by_cases e:i=12
  ·subst e;rw [ae,aa _ _ (fun e=>hij e.symm)]
   rcases A.at' with h1 | ⟨g,hg,h1⟩
   ·rw [h1];exact h.apart 12 j hi hj hij
   ·rw [h1];refine .inr fun h2=>?_
    have:=((h.own j hj).lt _ h2.symm).2;omega
  ·rw [aa _ _ e];by_cases e2:j=12
   ·subst e2;rw [ae]
    rcases A.at' with h1 | ⟨g,hg,h1⟩
    ·rw [h1];exact h.apart i 12 hi hj hij
    ·rw [h1]
     cases hb:(V i).ownBlock with
     | none=>exact .inl rfl
     | some g2=>
      refine .inr fun h2=>?_
      have:=((h.own i hi).lt _ hb).2;have:=Option.some.inj h2;omega
   ·rw [aa _ _ e2];exact h.apart i j hi hj hij
end
end So
end Go.Proofs.YtceahffmenbibaaGreatDoor
