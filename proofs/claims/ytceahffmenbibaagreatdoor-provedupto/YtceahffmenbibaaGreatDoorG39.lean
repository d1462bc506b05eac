/- Snsv. -/
import Derived.Test.YtceahffmenbibaaGreatDoorG38
set_option linter.unusedVariables false
set_option linter.unusedSimpArgs false
namespace Go.Proofs.YtceahffmenbibaaGreatDoor
namespace So
open Go Go.RowKit Go.Deep Rd
variable {Z:Nat→Prop} {n sb ob hb kb gW g1 g2 g3 gL gS gF:Nat}
theorem wrapNeg {i:Nat} (h:i ≤ 50):IntKind.i64.wrap (-((i:Int) + 1))=-((i:Int) + 1):=by
 rw [IntKind.wrap_i64];omega
def Lst (Z:Nat→Prop) (w:World) (lv:Value) (L:List Cl):Prop:=∃ (a:Option Addr) (c b:Nat),lv=.slice a L.length c∧(0 < L.length→a=some ⟨b,0,none⟩∧b < w.heap.size∧¬ Z b)∧∀ i (hi:i < L.length),∃ (ai:Option Addr) (ci bi:Nat),w.cell? ⟨b,i,none⟩=some (.slice ai (L[i]).length ci)∧(0 < (L[i]).length→ai=some ⟨bi,0,none⟩)∧bi < w.heap.size∧¬ Z bi∧∀ j (hj:j < (L[i]).length),w.cell? ⟨bi,j,none⟩=some (.int .i64 (L[i])[j])
def NsRet (Z:Nat→Prop) (kb n:Nat) (L:List Cl) (N0:Nat) (w:World) (e:Ending) (w':World):Prop:=∃ sb ob hb brk s,e=.returned (.pointer (some ⟨sb,0,none⟩))∧Chg Z w w'∧Main Z sb ob hb kb n L N0 brk w' s∧Ready s∧s.k=0∧s.m=0∧s.r=1∧s.lc=0∧s.mo=100
def nsN (L:List Cl):Nat:=(L.map fun c=>3 + c.length).sum
theorem nsN_snoc (L:List Cl) (c:Cl):nsN (L ++ [c])=nsN L + 3 + c.length:=by simp [nsN];omega
theorem nsN_take (L:List Cl) (i:Nat):nsN (L.take i) ≤ nsN L:=by
 conv=>rhs;rw [← List.take_append_drop i L]
 unfold nsN
 rw [List.map_append,List.sum_append];omega
structure LaS (Z:Nat→Prop) (sb ob hb kb n:Nat) (w:World) (gW g1 g2 g3 gL gS gF:Nat) (Ro Rk:Nat→Prop) (i:Nat) (wr:World):Prop where
 ex:∃ Rs Rd,Tri Z sb ob hb kb n wr (16 + 2 * n) (nsF (.iface 105 (.pointer (some ⟨kb,0,none⟩))) n ob gW g1 g2 g3 gL gS gF) (nsV (.iface 105 (.pointer (some ⟨kb,0,none⟩))) n ob gW g1 g2 g3 gL gS gF) (nsX n i) (fun v=>n ≤ v) [] Rs Ro Rd Rk
 chg:Chg Z w wr
theorem LaS.step {w wr wx:World} {Ro Rk:Nat→Prop} {i:Nat} (h:LaS Z sb ob hb kb n w gW g1 g2 g3 gL gS gF Ro Rk i wr) (hi:i < n) (hb':Below wr.heap.size wr wx):
  wr.cell? ⟨sb,13,none⟩=some (.slice (some ⟨gL,0,none⟩) n n)∧(∃ u,wr.cell? ⟨gL,i,none⟩=some u)∧wr.frozen? ⟨gL,i,none⟩=false∧LaS Z sb ob hb kb n w gW g1 g2 g3 gL gS gF Ro Rk (i + 1) (wx.setCell ⟨gL,i,none⟩ (.int .i64 ((2 * i + 1:Nat):Int))):=by
 obtain ⟨Rs,Rd,T⟩:=h.ex
 have e6:nsV (.iface 105 (.pointer (some ⟨kb,0,none⟩))) n ob gW g1 g2 g3 gL gS gF 6=.slice (some ⟨gL,0,none⟩) n n:=rfl
 have l6:(nsX n i 6).length=n:=by simp [nsX]
 obtain ⟨g,cap,t,e,q,r,r2,z,zg,_⟩:=T.duo.sol.elem (k:=6) (j:=i) (by omega) l6 hi
 rw [e6] at e
 obtain ⟨y1,_,y3⟩:=Value.slice.inj e
 obtain rfl:gL=g:=by have:=Option.some.inj y1;exact congrArg Addr.block this
 subst y3
 have T2:=T.later hb'
 obtain ⟨g',cap',t',e',q',r',r2',z',zg',_⟩:=T2.duo.sol.elem (k:=6) (j:=i) (by omega) l6 hi
 rw [e6] at e'
 obtain ⟨y1',_,_⟩:=Value.slice.inj e'
 obtain rfl:gL=g':=by have:=Option.some.inj y1';exact congrArg Addr.block this
 obtain ⟨t1,t2⟩:=T2.stepS (T2.duo.sol.set (k:=6) (by omega) e6 i (.int .i64 ((2 * i + 1:Nat):Int))) ((Chg.refl _).setCell zg' _) rfl
 rw [nsX_set n i hi] at t1
 exact ⟨q,⟨_,r⟩,z,⟨⟨_,_,t1⟩,(h.chg.trans (Chg.of_below hb')).trans t2⟩⟩
theorem LaS.later {w wr wx:World} {Ro Rk:Nat→Prop} {i:Nat} (h:LaS Z sb ob hb kb n w gW g1 g2 g3 gL gS gF Ro Rk i wr) (hb':Below wr.heap.size wr wx):LaS Z sb ob hb kb n w gW g1 g2 g3 gL gS gF Ro Rk i wx:=by
 obtain ⟨Rs,Rd,T⟩:=h.ex
 exact ⟨⟨Rs,Rd,T.later hb'⟩,h.chg.trans (Chg.of_below hb')⟩
theorem Lst.at {w wr:World} {lv:Value} {L:List Cl} (h:Lst Z w lv L) (hc:Chg Z w wr):Lst Z wr lv L:=by
 obtain ⟨a,c,b,h1,h2,h3⟩:=h
 refine ⟨a,c,b,h1,fun hp=>⟨(h2 hp).1,Nat.lt_of_lt_of_le (h2 hp).2.1 hc.size,(h2 hp).2.2⟩,fun i hi=>?_⟩
 obtain ⟨ai,ci,bi,k1,k2,k3,k4,k5⟩:=h3 i hi
 obtain ⟨_,b1,b2⟩:=h2 (by omega)
 refine ⟨ai,ci,bi,?_,k2,Nat.lt_of_lt_of_le k3 hc.size,k4,fun j hj=>?_⟩
 ·rw [World.cell?_of_block (w:=w) (a:=⟨b,i,none⟩) (hc.block b b1 b2)];exact k1
 ·rw [World.cell?_of_block (w:=w) (a:=⟨bi,j,none⟩) (hc.block bi k3 k4)];exact k5 j hj
structure GiS (Z:Nat→Prop) (sb ob hb kb n:Nat) (L:List Cl) (w:World) (i:Nat) (wr:World):Prop where
 ex:∃ brk s,Main Z sb ob hb kb n (L.take i) (nsN (L.take i)) brk wr s∧Pre s
 chg:Chg Z w wr
set_option maxHeartbeats 8000000 in
set_option maxRecDepth 100000 in
theorem newSolver_any (hn:n ≤ 50) (w:World) (lv:Value) (L:List Cl) (hL:Lst Z w lv L) (hz:∀ c ∈ L,∀ x ∈ c,InV n x) (hl:∀ c ∈ L,c.length ≤ 20001) (hm:L.length ≤ 20001) (hk:Snk Z kb w []) (hN:nsN L ≤ 549755813888):Calls Tryz.prog 56 #[.int .i64 (n:Nat),lv,.iface 105 (.pointer (some ⟨kb,0,none⟩))] w fun e w'=>NsRet Z kb n L (nsN L) w e w':=by
 have mk1:=run_make_row' (P:=Tryz.prog) 43 3 (.int .i64 0) 8 Tryz.underlying43 Tryz.infoInt9 rfl .i64 .i64 n (by omega) (by omega)
 have mk2:=run_make_row' (P:=Tryz.prog) 32 43 (.slice none 0 0) 24 Tryz.underlying32 Tryz.infoIntsV rfl .i64 .i64 (2 * n) (by omega) (by omega)
 have e2:((2 * n:Nat):Int)=2 * (n:Int):=by omega
 rw [e2] at mk2
 have hw2:IntKind.i64.wrap (2 * (n:Int))=2 * (n:Int):=wrapS _ (by omega) (by omega)
 have QT:=hide (fun wx=>newTrail_any n hn wx)
 have QO:=hide (fun wx=>newOrder_any n hn wx)
 have QL:=hide (fun wx=>newLesson_any n hn wx)
 have HL:=hide hL
 obtain ⟨la,lc,lb,rfl,hlb,-⟩:=hL
 have HK:=hide hk
 have HZ:=hide hz
 have HLL:=hide hl
 clear hk hz hl hlb
 go_enter Tryz.func56,Tryz.ntmps56
 go_upto_region 1 with fail
 go_cut [7] from 27 (fun s7 wx=>∃ sb ob hb gW g1 g2 g3 gL gS gF lo hi,s7=.pointer (some ⟨sb,0,none⟩)∧Hid (Nsv w n (.iface 105 (.pointer (some ⟨kb,0,none⟩))) sb ob hb gW g1 g2 g3 gL gS gF lo hi wx))
 case first=>
  clear HL HK HZ HLL
  go_region_with (first | (go_at_call 92;refine (unhide QT _).mono ?_;rintro e7 w7 ⟨g1,g2,g3,rfl,t7⟩;have T7:=hide t7;clear t7;simp only []) | (go_at_call 93;refine (unhide QO _).mono ?_;rintro e8 w8 ⟨ob,hb,rfl,t8⟩;have T8:=hide t8;clear t8;simp only []) | (go_at_call 94;refine (unhide QL _).mono ?_;rintro e9 w9 ⟨gS,gF,rfl,t9⟩;have T9:=hide t9;clear t9;simp only []))
  ·go_wp2_with fail
   go_meet
   have B7:Later ((w.alloc (.cells (madeCells #[.slice none 0 0] (2 * n)) 43)).drew) w7:=(unhide T7).2.2.2.2.2.2
   have B8:Later (w7) w8:=(unhide T8).2
   have B9:Later ((w8).alloc (.cells (madeCells #[.int .i64 0] n) 3)) w9:=(unhide T9).2.2.2.1
   obtain ⟨lo,hi,hns⟩:=nsv_fin (w:=w) (iv:=.iface 105 (.pointer (some ⟨kb,0,none⟩))) (aT:=(w.alloc (.cells (madeCells #[.slice none 0 0] (2 * n)) 43)).drew) (aO:=w7) (aS:=(w8).alloc (.cells (madeCells #[.int .i64 0] n) 3)) (aW:=w) (aL:=w8) (wz:=w9) hn (unhide T7) (unhide T8) (unhide T9) (((((Later.refl _).trans' B8).alloc _).trans' B9)) ((((Later.refl _).alloc _).trans' B9)) ((Later.refl _)) ((((((Later.refl _).drew.trans' B7).trans' B8).alloc _).trans' B9)) (((Later.refl _).trans' B9)) (((Later.refl _).alloc _).drew) ((((Later.refl _).alloc _).drew.trans' B7)) ((((((Later.refl _).alloc _).drew.trans' B7).trans' B8).alloc _)) ((Later.refl _)) (((((Later.refl _).alloc _).drew.trans' B7).trans' B8)) ((Later.refl _)) (((Later.refl _).alloc _)) (.inl (((Later.refl _).drew.trans' B7))) (.inr ((Later.refl _))) (.inr (((Later.refl _).trans' B8)))
   try simp only [World.size_alloc] at hns
   exact ⟨_,_,_,_,_,_,_,_,_,_,lo,hi,rfl,hns⟩
  ·go_wp2_with fail
   go_meet
   have B7:Later ((w.alloc (.cells (madeCells #[.slice none 0 0] (2 * n)) 43)).drew) w7:=(unhide T7).2.2.2.2.2.2
   have B8:Later (w7) w8:=(unhide T8).2
   have B9:Later (w8) w9:=(unhide T9).2.2.2.1
   obtain ⟨lo,hi,hns⟩:=nsv_fin (w:=w) (iv:=.iface 105 (.pointer (some ⟨kb,0,none⟩))) (aT:=(w.alloc (.cells (madeCells #[.slice none 0 0] (2 * n)) 43)).drew) (aO:=w7) (aS:=w8) (aW:=w) (aL:=w9) (wz:=(w9).alloc (.cells (madeCells #[.int .i64 0] n) 3)) hn (unhide T7) (unhide T8) (unhide T9) (((((Later.refl _).trans' B8).trans' B9).alloc _)) ((((Later.refl _).trans' B9).alloc _)) (((Later.refl _).alloc _)) ((((((Later.refl _).drew.trans' B7).trans' B8).trans' B9).alloc _)) ((Later.refl _)) (((Later.refl _).alloc _).drew) ((((Later.refl _).alloc _).drew.trans' B7)) (((((Later.refl _).alloc _).drew.trans' B7).trans' B8)) ((Later.refl _)) ((((((Later.refl _).alloc _).drew.trans' B7).trans' B8).trans' B9)) ((Later.refl _)) ((Later.refl _)) (.inl (((Later.refl _).drew.trans' B7))) (.inr (((Later.refl _).trans' B9))) (.inr ((((Later.refl _).trans' B8).trans' B9)))
   try simp only [World.size_alloc] at hns
   exact ⟨_,_,_,_,_,_,_,_,_,_,lo,hi,rfl,hns⟩
  ·go_wp2_with fail
   go_meet
   have B7:Later ((w.alloc (.cells (madeCells #[.slice none 0 0] (2 * n)) 43)).drew) w7:=(unhide T7).2.2.2.2.2.2
   have B8:Later ((w7).alloc (.cells (madeCells #[.int .i64 0] n) 3)) w8:=(unhide T8).2
   have B9:Later (w8) w9:=(unhide T9).2.2.2.1
   obtain ⟨lo,hi,hns⟩:=nsv_fin (w:=w) (iv:=.iface 105 (.pointer (some ⟨kb,0,none⟩))) (aT:=(w.alloc (.cells (madeCells #[.slice none 0 0] (2 * n)) 43)).drew) (aO:=(w7).alloc (.cells (madeCells #[.int .i64 0] n) 3)) (aS:=w8) (aW:=w) (aL:=w7) (wz:=w9) hn (unhide T7) (unhide T8) (unhide T9) (((((Later.refl _).alloc _).trans' B8).trans' B9)) (((Later.refl _).trans' B9)) ((Later.refl _)) ((((((Later.refl _).drew.trans' B7).alloc _).trans' B8).trans' B9)) ((((Later.refl _).trans' B8).trans' B9)) (((Later.refl _).alloc _).drew) (((((Later.refl _).alloc _).drew.trans' B7).alloc _)) ((((((Later.refl _).alloc _).drew.trans' B7).alloc _).trans' B8)) ((Later.refl _)) ((((Later.refl _).alloc _).drew.trans' B7)) (((Later.refl _).alloc _)) ((Later.refl _)) (.inl ((((Later.refl _).drew.trans' B7).alloc _))) (.inl ((Later.refl _))) (.inr ((Later.refl _)))
   try simp only [World.size_alloc] at hns
   exact ⟨_,_,_,_,_,_,_,_,_,_,lo,hi,rfl,hns⟩
  ·go_wp2_with fail
   go_meet
   have B7:Later (((w.alloc (.cells (madeCells #[.slice none 0 0] (2 * n)) 43)).alloc (.cells (madeCells #[.int .i64 0] n) 3)).drew) w7:=(unhide T7).2.2.2.2.2.2
   have B8:Later (w7) w8:=(unhide T8).2
   have B9:Later (w8) w9:=(unhide T9).2.2.2.1
   obtain ⟨lo,hi,hns⟩:=nsv_fin (w:=w) (iv:=.iface 105 (.pointer (some ⟨kb,0,none⟩))) (aT:=((w.alloc (.cells (madeCells #[.slice none 0 0] (2 * n)) 43)).alloc (.cells (madeCells #[.int .i64 0] n) 3)).drew) (aO:=w7) (aS:=w8) (aW:=w) (aL:=w.alloc (.cells (madeCells #[.slice none 0 0] (2 * n)) 43)) (wz:=w9) hn (unhide T7) (unhide T8) (unhide T9) ((((Later.refl _).trans' B8).trans' B9)) (((Later.refl _).trans' B9)) ((Later.refl _)) ((((((Later.refl _).alloc _).drew.trans' B7).trans' B8).trans' B9)) (((((Later.refl _).drew.trans' B7).trans' B8).trans' B9)) ((((Later.refl _).alloc _).alloc _).drew) (((((Later.refl _).alloc _).alloc _).drew.trans' B7)) ((((((Later.refl _).alloc _).alloc _).drew.trans' B7).trans' B8)) ((Later.refl _)) (((Later.refl _).alloc _)) ((Later.refl _)) ((Later.refl _)) (.inl ((((Later.refl _).alloc _).drew.trans' B7))) (.inl (((Later.refl _).drew.trans' B7))) (.inl ((Later.refl _).drew))
   try simp only [World.size_alloc] at hns
   exact ⟨_,_,_,_,_,_,_,_,_,_,lo,hi,rfl,hns⟩
  ·go_wp2_with fail
   go_meet
   have B7:Later (w.drew) w7:=(unhide T7).2.2.2.2.2.2
   have B8:Later ((w7).alloc (.cells (madeCells #[.slice none 0 0] (2 * n)) 43)) w8:=(unhide T8).2
   have B9:Later ((w8).alloc (.cells (madeCells #[.int .i64 0] n) 3)) w9:=(unhide T9).2.2.2.1
   obtain ⟨lo,hi,hns⟩:=nsv_fin (w:=w) (iv:=.iface 105 (.pointer (some ⟨kb,0,none⟩))) (aT:=w.drew) (aO:=(w7).alloc (.cells (madeCells #[.slice none 0 0] (2 * n)) 43)) (aS:=(w8).alloc (.cells (madeCells #[.int .i64 0] n) 3)) (aW:=w7) (aL:=w8) (wz:=w9) hn (unhide T7) (unhide T8) (unhide T9) ((((((Later.refl _).alloc _).trans' B8).alloc _).trans' B9)) ((((Later.refl _).alloc _).trans' B9)) ((Later.refl _)) (((((Later.refl _).trans' B8).alloc _).trans' B9)) (((Later.refl _).trans' B9)) ((Later.refl _).drew) ((((Later.refl _).drew.trans' B7).alloc _)) ((((((Later.refl _).drew.trans' B7).alloc _).trans' B8).alloc _)) (((Later.refl _).drew.trans' B7)) (((((Later.refl _).drew.trans' B7).alloc _).trans' B8)) (((Later.refl _).alloc _)) (((Later.refl _).alloc _)) (.inl ((Later.refl _))) (.inr ((Later.refl _))) (.inr ((((Later.refl _).alloc _).trans' B8)))
   try simp only [World.size_alloc] at hns
   exact ⟨_,_,_,_,_,_,_,_,_,_,lo,hi,rfl,hns⟩
  ·go_wp2_with fail
   go_meet
   have B7:Later (w.drew) w7:=(unhide T7).2.2.2.2.2.2
   have B8:Later ((w7).alloc (.cells (madeCells #[.slice none 0 0] (2 * n)) 43)) w8:=(unhide T8).2
   have B9:Later (w8) w9:=(unhide T9).2.2.2.1
   obtain ⟨lo,hi,hns⟩:=nsv_fin (w:=w) (iv:=.iface 105 (.pointer (some ⟨kb,0,none⟩))) (aT:=w.drew) (aO:=(w7).alloc (.cells (madeCells #[.slice none 0 0] (2 * n)) 43)) (aS:=w8) (aW:=w7) (aL:=w9) (wz:=(w9).alloc (.cells (madeCells #[.int .i64 0] n) 3)) hn (unhide T7) (unhide T8) (unhide T9) ((((((Later.refl _).alloc _).trans' B8).trans' B9).alloc _)) ((((Later.refl _).trans' B9).alloc _)) (((Later.refl _).alloc _)) (((((Later.refl _).trans' B8).trans' B9).alloc _)) ((Later.refl _)) ((Later.refl _).drew) ((((Later.refl _).drew.trans' B7).alloc _)) (((((Later.refl _).drew.trans' B7).alloc _).trans' B8)) (((Later.refl _).drew.trans' B7)) ((((((Later.refl _).drew.trans' B7).alloc _).trans' B8).trans' B9)) (((Later.refl _).alloc _)) ((Later.refl _)) (.inl ((Later.refl _))) (.inr (((Later.refl _).trans' B9))) (.inr (((((Later.refl _).alloc _).trans' B8).trans' B9)))
   try simp only [World.size_alloc] at hns
   exact ⟨_,_,_,_,_,_,_,_,_,_,lo,hi,rfl,hns⟩
  ·go_wp2_with fail
   go_meet
   have B7:Later (w.drew) w7:=(unhide T7).2.2.2.2.2.2
   have B8:Later (((w7).alloc (.cells (madeCells #[.slice none 0 0] (2 * n)) 43)).alloc (.cells (madeCells #[.int .i64 0] n) 3)) w8:=(unhide T8).2
   have B9:Later (w8) w9:=(unhide T9).2.2.2.1
   obtain ⟨lo,hi,hns⟩:=nsv_fin (w:=w) (iv:=.iface 105 (.pointer (some ⟨kb,0,none⟩))) (aT:=w.drew) (aO:=((w7).alloc (.cells (madeCells #[.slice none 0 0] (2 * n)) 43)).alloc (.cells (madeCells #[.int .i64 0] n) 3)) (aS:=w8) (aW:=w7) (aL:=(w7).alloc (.cells (madeCells #[.slice none 0 0] (2 * n)) 43)) (wz:=w9) hn (unhide T7) (unhide T8) (unhide T9) ((((((Later.refl _).alloc _).alloc _).trans' B8).trans' B9)) (((Later.refl _).trans' B9)) ((Later.refl _)) (((((Later.refl _).alloc _).trans' B8).trans' B9)) ((((Later.refl _).trans' B8).trans' B9)) ((Later.refl _).drew) (((((Later.refl _).drew.trans' B7).alloc _).alloc _)) ((((((Later.refl _).drew.trans' B7).alloc _).alloc _).trans' B8)) (((Later.refl _).drew.trans' B7)) ((((Later.refl _).drew.trans' B7).alloc _)) ((((Later.refl _).alloc _).alloc _)) ((Later.refl _)) (.inl (((Later.refl _).alloc _))) (.inl ((Later.refl _))) (.inr (((Later.refl _).alloc _)))
   try simp only [World.size_alloc] at hns
   exact ⟨_,_,_,_,_,_,_,_,_,_,lo,hi,rfl,hns⟩
  ·go_wp2_with fail
   go_meet
   have B7:Later (w.drew) w7:=(unhide T7).2.2.2.2.2.2
   have B8:Later (w7) w8:=(unhide T8).2
   have B9:Later (((w8).alloc (.cells (madeCells #[.slice none 0 0] (2 * n)) 43)).alloc (.cells (madeCells #[.int .i64 0] n) 3)) w9:=(unhide T9).2.2.2.1
   obtain ⟨lo,hi,hns⟩:=nsv_fin (w:=w) (iv:=.iface 105 (.pointer (some ⟨kb,0,none⟩))) (aT:=w.drew) (aO:=w7) (aS:=((w8).alloc (.cells (madeCells #[.slice none 0 0] (2 * n)) 43)).alloc (.cells (madeCells #[.int .i64 0] n) 3)) (aW:=w8) (aL:=(w8).alloc (.cells (madeCells #[.slice none 0 0] (2 * n)) 43)) (wz:=w9) hn (unhide T7) (unhide T8) (unhide T9) ((((((Later.refl _).trans' B8).alloc _).alloc _).trans' B9)) (((((Later.refl _).alloc _).alloc _).trans' B9)) ((Later.refl _)) ((((Later.refl _).alloc _).trans' B9)) (((Later.refl _).trans' B9)) ((Later.refl _).drew) (((Later.refl _).drew.trans' B7)) ((((((Later.refl _).drew.trans' B7).trans' B8).alloc _).alloc _)) ((((Later.refl _).drew.trans' B7).trans' B8)) (((((Later.refl _).drew.trans' B7).trans' B8).alloc _)) ((Later.refl _)) ((((Later.refl _).alloc _).alloc _)) (.inr ((Later.refl _))) (.inr (((Later.refl _).alloc _))) (.inr ((((Later.refl _).trans' B8).alloc _)))
   try simp only [World.size_alloc] at hns
   exact ⟨_,_,_,_,_,_,_,_,_,_,lo,hi,rfl,hns⟩
  ·go_wp2_with fail
   go_meet
   have B7:Later (w.drew) w7:=(unhide T7).2.2.2.2.2.2
   have B8:Later (w7) w8:=(unhide T8).2
   have B9:Later ((w8).alloc (.cells (madeCells #[.slice none 0 0] (2 * n)) 43)) w9:=(unhide T9).2.2.2.1
   obtain ⟨lo,hi,hns⟩:=nsv_fin (w:=w) (iv:=.iface 105 (.pointer (some ⟨kb,0,none⟩))) (aT:=w.drew) (aO:=w7) (aS:=(w8).alloc (.cells (madeCells #[.slice none 0 0] (2 * n)) 43)) (aW:=w8) (aL:=w9) (wz:=(w9).alloc (.cells (madeCells #[.int .i64 0] n) 3)) hn (unhide T7) (unhide T8) (unhide T9) ((((((Later.refl _).trans' B8).alloc _).trans' B9).alloc _)) (((((Later.refl _).alloc _).trans' B9).alloc _)) (((Later.refl _).alloc _)) ((((Later.refl _).trans' B9).alloc _)) ((Later.refl _)) ((Later.refl _).drew) (((Later.refl _).drew.trans' B7)) (((((Later.refl _).drew.trans' B7).trans' B8).alloc _)) ((((Later.refl _).drew.trans' B7).trans' B8)) ((((((Later.refl _).drew.trans' B7).trans' B8).alloc _).trans' B9)) ((Later.refl _)) (((Later.refl _).alloc _)) (.inr ((Later.refl _))) (.inr ((((Later.refl _).alloc _).trans' B9))) (.inr (((((Later.refl _).trans' B8).alloc _).trans' B9)))
   try simp only [World.size_alloc] at hns
   exact ⟨_,_,_,_,_,_,_,_,_,_,lo,hi,rfl,hns⟩
  ·go_wp2_with fail
   go_meet
   have B7:Later (w.drew) w7:=(unhide T7).2.2.2.2.2.2
   have B8:Later (w7) w8:=(unhide T8).2
   have B9:Later (((w8).alloc (.cells (madeCells #[.int .i64 0] n) 3)).alloc (.cells (madeCells #[.slice none 0 0] (2 * n)) 43)) w9:=(unhide T9).2.2.2.1
   obtain ⟨lo,hi,hns⟩:=nsv_fin (w:=w) (iv:=.iface 105 (.pointer (some ⟨kb,0,none⟩))) (aT:=w.drew) (aO:=w7) (aS:=((w8).alloc (.cells (madeCells #[.int .i64 0] n) 3)).alloc (.cells (madeCells #[.slice none 0 0] (2 * n)) 43)) (aW:=(w8).alloc (.cells (madeCells #[.int .i64 0] n) 3)) (aL:=w8) (wz:=w9) hn (unhide T7) (unhide T8) (unhide T9) ((((((Later.refl _).trans' B8).alloc _).alloc _).trans' B9)) (((((Later.refl _).alloc _).alloc _).trans' B9)) ((Later.refl _)) (((Later.refl _).trans' B9)) ((((Later.refl _).alloc _).trans' B9)) ((Later.refl _).drew) (((Later.refl _).drew.trans' B7)) ((((((Later.refl _).drew.trans' B7).trans' B8).alloc _).alloc _)) (((((Later.refl _).drew.trans' B7).trans' B8).alloc _)) ((((Later.refl _).drew.trans' B7).trans' B8)) ((Later.refl _)) ((((Later.refl _).alloc _).alloc _)) (.inr (((Later.refl _).alloc _))) (.inr ((Later.refl _))) (.inr (((Later.refl _).trans' B8)))
   try simp only [World.size_alloc] at hns
   exact ⟨_,_,_,_,_,_,_,_,_,_,lo,hi,rfl,hns⟩
  ·go_wp2_with fail
   go_meet
   have B7:Later (w.drew) w7:=(unhide T7).2.2.2.2.2.2
   have B8:Later (w7) w8:=(unhide T8).2
   have B9:Later ((w8).alloc (.cells (madeCells #[.int .i64 0] n) 3)) w9:=(unhide T9).2.2.2.1
   obtain ⟨lo,hi,hns⟩:=nsv_fin (w:=w) (iv:=.iface 105 (.pointer (some ⟨kb,0,none⟩))) (aT:=w.drew) (aO:=w7) (aS:=(w8).alloc (.cells (madeCells #[.int .i64 0] n) 3)) (aW:=w9) (aL:=w8) (wz:=(w9).alloc (.cells (madeCells #[.slice none 0 0] (2 * n)) 43)) hn (unhide T7) (unhide T8) (unhide T9) ((((((Later.refl _).trans' B8).alloc _).trans' B9).alloc _)) (((((Later.refl _).alloc _).trans' B9).alloc _)) (((Later.refl _).alloc _)) ((Later.refl _)) ((((Later.refl _).trans' B9).alloc _)) ((Later.refl _).drew) (((Later.refl _).drew.trans' B7)) (((((Later.refl _).drew.trans' B7).trans' B8).alloc _)) ((((((Later.refl _).drew.trans' B7).trans' B8).alloc _).trans' B9)) ((((Later.refl _).drew.trans' B7).trans' B8)) ((Later.refl _)) (((Later.refl _).alloc _)) (.inr ((((Later.refl _).alloc _).trans' B9))) (.inr ((Later.refl _))) (.inr (((Later.refl _).trans' B8)))
   try simp only [World.size_alloc] at hns
   exact ⟨_,_,_,_,_,_,_,_,_,_,lo,hi,rfl,hns⟩
  ·go_wp2_with fail
   go_meet
   have B7:Later (w.drew) w7:=(unhide T7).2.2.2.2.2.2
   have B8:Later (w7) w8:=(unhide T8).2
   have B9:Later (w8) w9:=(unhide T9).2.2.2.1
   obtain ⟨lo,hi,hns⟩:=nsv_fin (w:=w) (iv:=.iface 105 (.pointer (some ⟨kb,0,none⟩))) (aT:=w.drew) (aO:=w7) (aS:=w8) (aW:=w9) (aL:=(w9).alloc (.cells (madeCells #[.slice none 0 0] (2 * n)) 43)) (wz:=((w9).alloc (.cells (madeCells #[.slice none 0 0] (2 * n)) 43)).alloc (.cells (madeCells #[.int .i64 0] n) 3)) hn (unhide T7) (unhide T8) (unhide T9) ((((((Later.refl _).trans' B8).trans' B9).alloc _).alloc _)) (((((Later.refl _).trans' B9).alloc _).alloc _)) ((((Later.refl _).alloc _).alloc _)) (((Later.refl _).alloc _)) ((Later.refl _)) ((Later.refl _).drew) (((Later.refl _).drew.trans' B7)) ((((Later.refl _).drew.trans' B7).trans' B8)) (((((Later.refl _).drew.trans' B7).trans' B8).trans' B9)) ((((((Later.refl _).drew.trans' B7).trans' B8).trans' B9).alloc _)) ((Later.refl _)) ((Later.refl _)) (.inr (((Later.refl _).trans' B9))) (.inr ((((Later.refl _).trans' B9).alloc _))) (.inr (((((Later.refl _).trans' B8).trans' B9).alloc _)))
   try simp only [World.size_alloc] at hns
   exact ⟨_,_,_,_,_,_,_,_,_,_,lo,hi,rfl,hns⟩
  ·go_wp2_with fail
   go_meet
   have B7:Later (w.drew) w7:=(unhide T7).2.2.2.2.2.2
   have B8:Later (w7) w8:=(unhide T8).2
   have B9:Later (w8) w9:=(unhide T9).2.2.2.1
   obtain ⟨lo,hi,hns⟩:=nsv_fin (w:=w) (iv:=.iface 105 (.pointer (some ⟨kb,0,none⟩))) (aT:=w.drew) (aO:=w7) (aS:=w8) (aW:=(w9).alloc (.cells (madeCells #[.int .i64 0] n) 3)) (aL:=w9) (wz:=((w9).alloc (.cells (madeCells #[.int .i64 0] n) 3)).alloc (.cells (madeCells #[.slice none 0 0] (2 * n)) 43)) hn (unhide T7) (unhide T8) (unhide T9) ((((((Later.refl _).trans' B8).trans' B9).alloc _).alloc _)) (((((Later.refl _).trans' B9).alloc _).alloc _)) ((((Later.refl _).alloc _).alloc _)) ((Later.refl _)) (((Later.refl _).alloc _)) ((Later.refl _).drew) (((Later.refl _).drew.trans' B7)) ((((Later.refl _).drew.trans' B7).trans' B8)) ((((((Later.refl _).drew.trans' B7).trans' B8).trans' B9).alloc _)) (((((Later.refl _).drew.trans' B7).trans' B8).trans' B9)) ((Later.refl _)) ((Later.refl _)) (.inr ((((Later.refl _).trans' B9).alloc _))) (.inr (((Later.refl _).trans' B9))) (.inr ((((Later.refl _).trans' B8).trans' B9)))
   try simp only [World.size_alloc] at hns
   exact ⟨_,_,_,_,_,_,_,_,_,_,lo,hi,rfl,hns⟩
  ·go_wp2_with fail
   go_meet
   have B7:Later (w.drew) w7:=(unhide T7).2.2.2.2.2.2
   have B8:Later (((w7).alloc (.cells (madeCells #[.int .i64 0] n) 3)).alloc (.cells (madeCells #[.slice none 0 0] (2 * n)) 43)) w8:=(unhide T8).2
   have B9:Later (w8) w9:=(unhide T9).2.2.2.1
   obtain ⟨lo,hi,hns⟩:=nsv_fin (w:=w) (iv:=.iface 105 (.pointer (some ⟨kb,0,none⟩))) (aT:=w.drew) (aO:=((w7).alloc (.cells (madeCells #[.int .i64 0] n) 3)).alloc (.cells (madeCells #[.slice none 0 0] (2 * n)) 43)) (aS:=w8) (aW:=(w7).alloc (.cells (madeCells #[.int .i64 0] n) 3)) (aL:=w7) (wz:=w9) hn (unhide T7) (unhide T8) (unhide T9) ((((((Later.refl _).alloc _).alloc _).trans' B8).trans' B9)) (((Later.refl _).trans' B9)) ((Later.refl _)) ((((Later.refl _).trans' B8).trans' B9)) (((((Later.refl _).alloc _).trans' B8).trans' B9)) ((Later.refl _).drew) (((((Later.refl _).drew.trans' B7).alloc _).alloc _)) ((((((Later.refl _).drew.trans' B7).alloc _).alloc _).trans' B8)) ((((Later.refl _).drew.trans' B7).alloc _)) (((Later.refl _).drew.trans' B7)) ((((Later.refl _).alloc _).alloc _)) ((Later.refl _)) (.inl ((Later.refl _))) (.inl (((Later.refl _).alloc _))) (.inr ((Later.refl _)))
   try simp only [World.size_alloc] at hns
   exact ⟨_,_,_,_,_,_,_,_,_,_,lo,hi,rfl,hns⟩
  ·go_wp2_with fail
   go_meet
   have B7:Later (w.drew) w7:=(unhide T7).2.2.2.2.2.2
   have B8:Later ((w7).alloc (.cells (madeCells #[.int .i64 0] n) 3)) w8:=(unhide T8).2
   have B9:Later ((w8).alloc (.cells (madeCells #[.slice none 0 0] (2 * n)) 43)) w9:=(unhide T9).2.2.2.1
   obtain ⟨lo,hi,hns⟩:=nsv_fin (w:=w) (iv:=.iface 105 (.pointer (some ⟨kb,0,none⟩))) (aT:=w.drew) (aO:=(w7).alloc (.cells (madeCells #[.int .i64 0] n) 3)) (aS:=(w8).alloc (.cells (madeCells #[.slice none 0 0] (2 * n)) 43)) (aW:=w8) (aL:=w7) (wz:=w9) hn (unhide T7) (unhide T8) (unhide T9) ((((((Later.refl _).alloc _).trans' B8).alloc _).trans' B9)) ((((Later.refl _).alloc _).trans' B9)) ((Later.refl _)) (((Later.refl _).trans' B9)) (((((Later.refl _).trans' B8).alloc _).trans' B9)) ((Later.refl _).drew) ((((Later.refl _).drew.trans' B7).alloc _)) ((((((Later.refl _).drew.trans' B7).alloc _).trans' B8).alloc _)) (((((Later.refl _).drew.trans' B7).alloc _).trans' B8)) (((Later.refl _).drew.trans' B7)) (((Later.refl _).alloc _)) (((Later.refl _).alloc _)) (.inr ((Later.refl _))) (.inl ((Later.refl _))) (.inr ((Later.refl _)))
   try simp only [World.size_alloc] at hns
   exact ⟨_,_,_,_,_,_,_,_,_,_,lo,hi,rfl,hns⟩
  ·go_wp2_with fail
   go_meet
   have B7:Later (w.drew) w7:=(unhide T7).2.2.2.2.2.2
   have B8:Later ((w7).alloc (.cells (madeCells #[.int .i64 0] n) 3)) w8:=(unhide T8).2
   have B9:Later (w8) w9:=(unhide T9).2.2.2.1
   obtain ⟨lo,hi,hns⟩:=nsv_fin (w:=w) (iv:=.iface 105 (.pointer (some ⟨kb,0,none⟩))) (aT:=w.drew) (aO:=(w7).alloc (.cells (madeCells #[.int .i64 0] n) 3)) (aS:=w8) (aW:=w9) (aL:=w7) (wz:=(w9).alloc (.cells (madeCells #[.slice none 0 0] (2 * n)) 43)) hn (unhide T7) (unhide T8) (unhide T9) ((((((Later.refl _).alloc _).trans' B8).trans' B9).alloc _)) ((((Later.refl _).trans' B9).alloc _)) (((Later.refl _).alloc _)) ((Later.refl _)) (((((Later.refl _).trans' B8).trans' B9).alloc _)) ((Later.refl _).drew) ((((Later.refl _).drew.trans' B7).alloc _)) (((((Later.refl _).drew.trans' B7).alloc _).trans' B8)) ((((((Later.refl _).drew.trans' B7).alloc _).trans' B8).trans' B9)) (((Later.refl _).drew.trans' B7)) (((Later.refl _).alloc _)) ((Later.refl _)) (.inr (((Later.refl _).trans' B9))) (.inl ((Later.refl _))) (.inr ((Later.refl _)))
   try simp only [World.size_alloc] at hns
   exact ⟨_,_,_,_,_,_,_,_,_,_,lo,hi,rfl,hns⟩
  ·go_wp2_with fail
   go_meet
   have B7:Later (((w.alloc (.cells (madeCells #[.int .i64 0] n) 3)).alloc (.cells (madeCells #[.slice none 0 0] (2 * n)) 43)).drew) w7:=(unhide T7).2.2.2.2.2.2
   have B8:Later (w7) w8:=(unhide T8).2
   have B9:Later (w8) w9:=(unhide T9).2.2.2.1
   obtain ⟨lo,hi,hns⟩:=nsv_fin (w:=w) (iv:=.iface 105 (.pointer (some ⟨kb,0,none⟩))) (aT:=((w.alloc (.cells (madeCells #[.int .i64 0] n) 3)).alloc (.cells (madeCells #[.slice none 0 0] (2 * n)) 43)).drew) (aO:=w7) (aS:=w8) (aW:=w.alloc (.cells (madeCells #[.int .i64 0] n) 3)) (aL:=w) (wz:=w9) hn (unhide T7) (unhide T8) (unhide T9) ((((Later.refl _).trans' B8).trans' B9)) (((Later.refl _).trans' B9)) ((Later.refl _)) (((((Later.refl _).drew.trans' B7).trans' B8).trans' B9)) ((((((Later.refl _).alloc _).drew.trans' B7).trans' B8).trans' B9)) ((((Later.refl _).alloc _).alloc _).drew) (((((Later.refl _).alloc _).alloc _).drew.trans' B7)) ((((((Later.refl _).alloc _).alloc _).drew.trans' B7).trans' B8)) (((Later.refl _).alloc _)) ((Later.refl _)) ((Later.refl _)) ((Later.refl _)) (.inl (((Later.refl _).drew.trans' B7))) (.inl ((((Later.refl _).alloc _).drew.trans' B7))) (.inl (((Later.refl _).alloc _).drew))
   try simp only [World.size_alloc] at hns
   exact ⟨_,_,_,_,_,_,_,_,_,_,lo,hi,rfl,hns⟩
  ·go_wp2_with fail
   go_meet
   have B7:Later ((w.alloc (.cells (madeCells #[.int .i64 0] n) 3)).drew) w7:=(unhide T7).2.2.2.2.2.2
   have B8:Later ((w7).alloc (.cells (madeCells #[.slice none 0 0] (2 * n)) 43)) w8:=(unhide T8).2
   have B9:Later (w8) w9:=(unhide T9).2.2.2.1
   obtain ⟨lo,hi,hns⟩:=nsv_fin (w:=w) (iv:=.iface 105 (.pointer (some ⟨kb,0,none⟩))) (aT:=(w.alloc (.cells (madeCells #[.int .i64 0] n) 3)).drew) (aO:=(w7).alloc (.cells (madeCells #[.slice none 0 0] (2 * n)) 43)) (aS:=w8) (aW:=w7) (aL:=w) (wz:=w9) hn (unhide T7) (unhide T8) (unhide T9) (((((Later.refl _).alloc _).trans' B8).trans' B9)) (((Later.refl _).trans' B9)) ((Later.refl _)) ((((Later.refl _).trans' B8).trans' B9)) ((((((Later.refl _).drew.trans' B7).alloc _).trans' B8).trans' B9)) (((Later.refl _).alloc _).drew) (((((Later.refl _).alloc _).drew.trans' B7).alloc _)) ((((((Later.refl _).alloc _).drew.trans' B7).alloc _).trans' B8)) ((((Later.refl _).alloc _).drew.trans' B7)) ((Later.refl _)) (((Later.refl _).alloc _)) ((Later.refl _)) (.inl ((Later.refl _))) (.inl ((((Later.refl _).drew.trans' B7).alloc _))) (.inl ((Later.refl _).drew))
   try simp only [World.size_alloc] at hns
   exact ⟨_,_,_,_,_,_,_,_,_,_,lo,hi,rfl,hns⟩
  ·go_wp2_with fail
   go_meet
   have B7:Later ((w.alloc (.cells (madeCells #[.int .i64 0] n) 3)).drew) w7:=(unhide T7).2.2.2.2.2.2
   have B8:Later (w7) w8:=(unhide T8).2
   have B9:Later ((w8).alloc (.cells (madeCells #[.slice none 0 0] (2 * n)) 43)) w9:=(unhide T9).2.2.2.1
   obtain ⟨lo,hi,hns⟩:=nsv_fin (w:=w) (iv:=.iface 105 (.pointer (some ⟨kb,0,none⟩))) (aT:=(w.alloc (.cells (madeCells #[.int .i64 0] n) 3)).drew) (aO:=w7) (aS:=(w8).alloc (.cells (madeCells #[.slice none 0 0] (2 * n)) 43)) (aW:=w8) (aL:=w) (wz:=w9) hn (unhide T7) (unhide T8) (unhide T9) (((((Later.refl _).trans' B8).alloc _).trans' B9)) ((((Later.refl _).alloc _).trans' B9)) ((Later.refl _)) (((Later.refl _).trans' B9)) ((((((Later.refl _).drew.trans' B7).trans' B8).alloc _).trans' B9)) (((Later.refl _).alloc _).drew) ((((Later.refl _).alloc _).drew.trans' B7)) ((((((Later.refl _).alloc _).drew.trans' B7).trans' B8).alloc _)) (((((Later.refl _).alloc _).drew.trans' B7).trans' B8)) ((Later.refl _)) ((Later.refl _)) (((Later.refl _).alloc _)) (.inr ((Later.refl _))) (.inl (((Later.refl _).drew.trans' B7))) (.inl ((Later.refl _).drew))
   try simp only [World.size_alloc] at hns
   exact ⟨_,_,_,_,_,_,_,_,_,_,lo,hi,rfl,hns⟩
  ·go_wp2_with fail
   go_meet
   have B7:Later ((w.alloc (.cells (madeCells #[.int .i64 0] n) 3)).drew) w7:=(unhide T7).2.2.2.2.2.2
   have B8:Later (w7) w8:=(unhide T8).2
   have B9:Later (w8) w9:=(unhide T9).2.2.2.1
   obtain ⟨lo,hi,hns⟩:=nsv_fin (w:=w) (iv:=.iface 105 (.pointer (some ⟨kb,0,none⟩))) (aT:=(w.alloc (.cells (madeCells #[.int .i64 0] n) 3)).drew) (aO:=w7) (aS:=w8) (aW:=w9) (aL:=w) (wz:=(w9).alloc (.cells (madeCells #[.slice none 0 0] (2 * n)) 43)) hn (unhide T7) (unhide T8) (unhide T9) (((((Later.refl _).trans' B8).trans' B9).alloc _)) ((((Later.refl _).trans' B9).alloc _)) (((Later.refl _).alloc _)) ((Later.refl _)) ((((((Later.refl _).drew.trans' B7).trans' B8).trans' B9).alloc _)) (((Later.refl _).alloc _).drew) ((((Later.refl _).alloc _).drew.trans' B7)) (((((Later.refl _).alloc _).drew.trans' B7).trans' B8)) ((((((Later.refl _).alloc _).drew.trans' B7).trans' B8).trans' B9)) ((Later.refl _)) ((Later.refl _)) ((Later.refl _)) (.inr (((Later.refl _).trans' B9))) (.inl (((Later.refl _).drew.trans' B7))) (.inl ((Later.refl _).drew))
   try simp only [World.size_alloc] at hns
   exact ⟨_,_,_,_,_,_,_,_,_,_,lo,hi,rfl,hns⟩
 case rest=>
  obtain ⟨sb,ob,hb,gW,g1,g2,g3,gL,gS,gF,lo,hi,rfl,hns⟩:=hcut
  have S0:Hid (LaS Z sb ob hb kb n w gW g1 g2 g3 gL gS gF (fun g=>lo ≤ g∧g < hi) (fun g=>Z g∧g < w.heap.size) 0 wc):=⟨⟨_,_,(unhide hns).tri hn (unhide HK)⟩,Chg.of_below (unhide hns).bel⟩
  generalize (fun g=>lo ≤ g∧g < hi)=Ro at S0
  generalize (fun g=>Z g∧g < w.heap.size)=Rk at S0
  clear hns QT QO QL mk1 mk2 hw2 e2 HK
  go_wp2_with fail
  go_loopw [8,27] (fun _ s27 wr=>∃ i:Nat,s27=.int .i64 ((i:Nat):Int)∧i ≤ n∧Hid (LaS Z sb ob hb kb n w gW g1 g2 g3 gL gS gF Ro Rk i wr)) (fun _ s27 _=>n - (intOf s27).toNat)
  case atStart=>exact ⟨0,rfl,Nat.zero_le _,S0⟩
  case round=>
   clear S0
   obtain ⟨i,rfl,hin,hst⟩:=hrel
   by_cases hlt:i < n
   ·obtain ⟨q13,⟨u6,r6⟩,z6,-⟩:=(unhide hst).step (wx:=wr) hlt (Below.refl _ _)
    have NX:=hide (fun wx (hb':Below wr.heap.size wr wx)=>((unhide hst).step hlt hb').2.2.2)
    have QQ:=hide (fun Y=>literalOf_any (-((i:Int) + 1)) Y (by omega) (by omega) (by omega))
    rw [show lit (-((i:Int) + 1))=2 * i + 1 by unfold lit;rw [if_pos (by omega)];omega] at QQ
    have i0:(0:Int) ≤ (i:Int):=by omega
    have i1:(i:Int) < (n:Int):=by omega
    have i2:(i:Int) ≤ 50:=by omega
    have hw1:IntKind.i64.wrap ((i:Int) + 1)=(i:Int) + 1:=wrapS _ (by omega) (by omega)
    have hw3:=wrapNeg (i:=i) (by omega)
    clear hst
    generalize (2 * i + 1:Nat)=lx at NX QQ
    go_upto_region 5 with fail
    go_region_with (go_at_call 95;(try rw [hw1]);(try rw [hw3]);with_reducible refine (unhide QQ _).mono ?_;rintro e7 w7 ⟨rfl,rfl⟩;simp only [])
    all_goals
     go_wp2_with fail
     go_roundw
     case rel=>exact ⟨i + 1,by go_num,hlt,(unhide NX _ (Below.refl _ _)).later (Below.refl _ _).drew⟩
     case measure=>simp [intOf];omega
   ·have e:i=n:=by omega
    subst e
    have S1:Hid (GiS Z sb ob hb kb i L w 0 wr):=by
     obtain ⟨Rs,Rd,T⟩:=(unhide hst).ex
     obtain ⟨s,m,p⟩:=ns_main hn T
     exact ⟨⟨false,s,m,p⟩,(unhide hst).chg⟩
    clear hst
    go_wp2_with fail
    go_loopw [10,43] (fun _ s43 wr=>∃ j:Nat,s43=.int .i64 ((j:Nat):Int)∧j ≤ L.length∧Hid (GiS Z sb ob hb kb i L w j wr)) (fun _ s43 _=>L.length - (intOf s43).toNat)
    case atStart=>exact ⟨0,rfl,Nat.zero_le _,S1⟩
    case round=>
     clear S1
     obtain ⟨j,rfl,hjl,hst⟩:=hrel
     by_cases hlt:j < L.length
     ·obtain ⟨a',c',b',e',h2',h3'⟩:=(unhide HL).at (unhide hst).chg
      obtain ⟨y1,_,_⟩:=Value.slice.inj e'
      obtain ⟨ha',hb1,hb2⟩:=h2' (by omega)
      rw [ha'] at y1
      subst y1
      obtain ⟨ai,ci,bi,k1,k2,k3,k4,k5⟩:=h3' j hlt
      have QG:Hid (Calls Tryz.prog 96 #[.pointer (some ⟨sb,0,none⟩),.slice ai (L[j]).length ci] wr fun e w'=>e=.returned (.tuple #[])∧GiS Z sb ob hb kb i L w (j + 1) w'):=by
       obtain ⟨brk,s,m,p⟩:=(unhide hst).ex
       have hnum:=m.num
       rw [p.m] at hnum
       have hle:=nsN_take L j
       refine (give_any m p hn (by omega) ai bi 0 ci k2 k3 (fun q hq=>by rw [Nat.zero_add];exact k5 q hq) (unhide HZ _ (List.getElem_mem hlt)) (unhide HLL _ (List.getElem_mem hlt))).mono ?_
       rintro e w' ⟨rfl,ge⟩
       refine ⟨rfl,?_⟩
       obtain ⟨c,brk',s',m',p'⟩:=ge
       have e:L.take (j + 1)=L.take j ++ [L[j]]:=by rw [List.take_add_one,List.getElem?_eq_getElem hlt];rfl
       refine ⟨⟨brk',s',?_,p'⟩,(unhide hst).chg.trans c⟩
       rw [e,nsN_snoc];exact m'
      have j0:(0:Int) ≤ (j:Int):=by omega
      have j1:(j:Int) < (L.length:Int):=by omega
      have j2:(j:Int) ≤ 20001:=by omega
      generalize (L[j]).length=lj at k1 QG
      clear hst h2' h3' k2 k3 k4 k5 e' hb1 hb2 ha'
      go_wp2_with (go_at_call 96;with_reducible refine (unhide QG).mono ?_;rintro e7 w7 ⟨rfl,hg7⟩;have G7:=hide hg7;clear hg7;simp only [])
      go_roundw
      case rel=>exact ⟨j + 1,by go_num,hlt,G7⟩
      case measure=>simp [intOf];omega
     ·have e:j=L.length:=by omega
      subst e
      have QBG:Hid (Calls Tryz.prog 97 #[.pointer (some ⟨sb,0,none⟩)] wr fun e w'=>e=.returned (.tuple #[])∧NsRet Z kb i L (nsN L) w (.returned (.pointer (some ⟨sb,0,none⟩))) w'):=by
       obtain ⟨brk,s,m,p⟩:=(unhide hst).ex
       rw [List.take_length] at m
       refine (begin_main m (by unfold Ready;rw [p.P,p.sp]) hn (by rw [p.r];decide)).mono ?_
       rintro e w' ⟨rfl,c,s',m',r',a1,a2,a3,a4,a5⟩
       exact ⟨rfl,sb,ob,hb,brk,s',rfl,(unhide hst).chg.trans c,m',r',a2,by rw [a3,p.m],by rw [a1,p.r],by rw [a5,p.lc],by rw [a4,p.mo]⟩
      clear hst HL HZ HLL
      go_wp2_with (go_at_call 97;with_reducible refine (unhide QBG).mono ?_;rintro e7 w7 ⟨rfl,hg7⟩;have G7:=hide hg7;clear hg7;simp only [])
      go_ret
      exact unhide G7
end So
end Go.Proofs.YtceahffmenbibaaGreatDoor
