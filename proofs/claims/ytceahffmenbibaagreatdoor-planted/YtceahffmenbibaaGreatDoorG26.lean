/- Uisr. -/
import Derived.Test.YtceahffmenbibaaGreatDoorG22
import Derived.Test.YtceahffmenbibaaGreatDoorG25
set_option linter.unusedVariables false
set_option linter.unusedSimpArgs false
set_option maxHeartbeats 4000000
set_option maxRecDepth 100000
namespace Go.Proofs.YtceahffmenbibaaGreatDoor
namespace Rd
section
open Go Go.RowKit Go.Deep
attribute [local go_sem ↓] Go.wp_at_zero Go.wp_at_succ
theorem Bh {B sb mb:Nat} {cv:Value} {gone:Int} {u:Key} {wv:Nat->Value} {es:List aX} {wl:Nat->List Nat} {L:List Cl} (c:Cl) (w:World) (hc:∀ l ∈ c,oP l) (hlen:es.length <= 549755813888)
  (hS:di B sb w cv mb gone u wv es wl) (hT:nL B w) (hI:tO es wl u L) (hN:nC es) (hc0:c=[]):
  Calls Tryz.prog 77 #[.pointer (some ⟨sb,0,none⟩),aK (setOf c),aK (Br c)] w fun e w'=>XD B sb w cv mb gone u es L c e w':=by
 have HI:=hide hI;have HC0:=hide hc0;clear hc0;have HC:=hide hc;have HLEN:=hide hlen;have aok:(setOf c).ok:=o5 hc;have La:(Br c).ok:=by
  cases c with
  | nil=>exact iU
  | cons l r=>exact gy (wT (hc l (List.mem_cons_self ..)))
 have uok:=hI.nP.ok;have Q1:Hid (∀ V,Calls Tryz.prog 118 #[aK (setOf c)] V fun e w'=>e=.returned (aK (setOf c).op)/\Below V.heap.size V w'):=fun V=>pW _ V
 have Q2:Hid (∀ V,Calls Tryz.prog 75 #[aK u,aK (setOf c).op] V fun e w'=>e=.returned (aK (u.un (setOf c).op))/\Below V.heap.size V w'):=fun V=>gu _ _ V uok (UM aok)
 have lok:(u.un (setOf c).op).ok:=uh uok (UM aok);obtain ⟨A,hA⟩:∃ A,setOf c=A:=⟨_,rfl⟩;obtain ⟨F,hF⟩:∃ F,Br c=F:=⟨_,rfl⟩;obtain ⟨laid,hL⟩:∃ k,u.un (setOf c).op=k:=⟨_,rfl⟩;have HL:=hide hL;have HF:=hide hF;rw [hL] at Q2 lok;rw [hA] at Q1 Q2 aok ⊢;rw [hF] at La ⊢;generalize A.op=oA at Q1 Q2;have R0:=hide hS;have HTW:=hide hT;unfold aK at Q1 Q2 ⊢;clear hS hT hI hc hlen hL hA hF;go_enter Tryz.func77,Tryz.ntmps77
 go_upto_region 1 with fail
 obtain ⟨W,hWd⟩:∃ W,W=(w.alloc (Obj.cells #[Value.int IntKind.u64 (A.1:Int),Value.int IntKind.u64 (A.2:Int)] 84)).alloc (Obj.cells #[Value.int IntKind.u64 (F.1:Int),Value.int IntKind.u64 (F.2:Int)] 84):=⟨_,rfl⟩;have BW:Hid (Below w.heap.size w W):=by rw [hWd];exact tJ (Below.refl _ _) (Nat.le_refl _) _ _
 have RA:Hid (W.rowIs w.heap.size 84 2 (fA A)):=by rw [hWd];exact (dS w _ _ _).alloc _
 have RF:Hid (W.rowIs (w.heap.size + 1) 84 2 (fA F)):=by rw [hWd];exact mr w _ _ _ _
 rw [<- hWd];clear hWd;have M0:Hid (fB B sb W cv mb gone u wv es wl W):=fB.start (R0.out.later BW.out) (HTW.out.later (BW.out.mono R0.out.bsize));have BW2:Hid (Below B w W):=BW.out.mono R0.out.bsize;have KW2:Hid (aA w W):=aA.of_below BW.out;have QE:=hide (Bo W HLEN.out M0.out.nK);clear R0 HTW BW;obtain ⟨em,hem⟩:∃ em,there es (0,0)=em:=⟨_,rfl⟩;rw [hem] at QE;have HEM:=hide hem;clear hem;go_wp2_with fail
 with_reducible refine QE.out.mono ?_
 rintro e6 w6 ⟨rfl,hb6⟩;simp only [];have M6:=hide (M0.out.later hb6);clear hb6 QE M0
 cases em with
 | true=>
  have RP:Hid (bH L c):=.inl (Ht HI.out.rep (fun h=>by have:=(ui HI.out.yH).2 h;rw [HEM.out] at this;cases this) _)
  go_wp2;go_ret
  exact ⟨true,_,_,_,rfl,BW2.out.trans M6.out.below,KW2.out.trans M6.out.keeps,M6.out.nK,rfl,HI.out.qg,by simp only [true_iff];exact RP.out⟩
 | false=>
  have NE:Hid (pI es):=(ui HI.out.yH).1 HEM.out;have Q3:Hid (∀ V,Below w6.heap.size w6 V->Calls Tryz.prog 117 #[.pointer (some ⟨sb,0,none⟩),aK (0,0),aK laid] V fun e w'=>∃ (dd:Key) (cf:Bool) (wv2:Nat->Value) (es2:List aX) (pR:Nat->List Nat),e=.returned (.tuple #[aK dd,.bool cf])/\Hid (fB B sb W cv mb gone u wv2 es2 pR w'/\aA V w'/\dF es es2 (0,0) laid dd cf/\dP es2 pR/\dd.ok)):=fun V hV=>by
   have MV:=M6.out.later hV;(with_reducible refine (Cv (0,0) laid V iU lok HLEN.out MV.nK MV.tab HI.out.qg (Gl _) hN).mono ?_);rintro e w' ⟨dd,cf,wv2,es2,pR,h1,h2,h3,h4,h5,h6,h7⟩;exact ⟨dd,cf,wv2,es2,pR,h1,MV.step h4 h3 h2,h3,h5,h6,h7⟩
  unfold aK at Q3;obtain ⟨a0,a1,_,_⟩:=aF (M6.out.row RA.out);have lA:=(gV (M6.out.row RA.out)).lt;have u0:=(M6.out.nK.head 3 (by omega)).1
  have u1:=(M6.out.nK.head 4 (by omega)).1
  unfold gT at u0 u1;have lS:=M6.out.nK.row.lt;have WW:W.heap.size <= w6.heap.size:=M6.out.below.size;have KS:Hid (∀ V,Below w6.heap.size w6 V->V.cell? ⟨sb,3,none⟩=some (.int .u64 (u.1:Int))/\V.cell? ⟨sb,4,none⟩=some (.int .u64 (u.2:Int))):=fun V h=>
   ⟨(h.cell (p:=⟨sb,3,none⟩) lS).trans u0,(h.cell (p:=⟨sb,4,none⟩) lS).trans u1⟩
  go_upto_region 3 with fail
  go_cut [7,8] from 9 (fun p c wx=>Ig B sb W cv mb gone u es laid p c wx)
  case first=>
   have n1:¬ (w.heap.size=w6.heap.size):=by omega
   have n3:¬ (sb=w6.heap.size):=by omega
   have n4:¬ (w6.heap.size=w.heap.size):=by omega
   have n6:¬ (w6.heap.size=sb):=by omega
   have lH:w.heap.size < w6.heap.size:=lA;have lS':sb < w6.heap.size:=lS;go_region_with (first
    |(go_at_call 118;refine (Q1.out _).mono ?_;rintro e7 w7 ⟨rfl,ku⟩;have B7:Hid (Below w6.heap.size w6 w7):=(by first | exact ku | exact (Below.refl _ _).drew.trans ku | exact ((Below.refl _ _).drew.alloc (Nat.le_refl _) _).drew.trans (ku.mono (by simp)) | exact ((Below.refl _ _).alloc (Nat.le_refl _) _).drew.trans (ku.mono (by simp)) | exact ((Below.refl _ _).alloc (Nat.le_refl _) _).trans (ku.mono (by simp)) | exact ((Below.refl _ _).drew.alloc (Nat.le_refl _) _).trans (ku.mono (by simp)));obtain ⟨m0,m1⟩:=KS.out w7 B7.out;have s7:w6.heap.size <= w7.heap.size:=B7.out.size;have n7:¬ (sb=w7.heap.size):=(by omega);have l7:sb < w7.heap.size:=(by omega);(first | (have N7:=(by with_reducible exact AR ku)) | (have N7:=(by with_reducible exact wC ku)) | skip);clear ku;simp only [])
    |(go_at_call 75;refine (Q2.out _).mono ?_;rintro e8 w8 ⟨rfl,p8⟩;have B8:Hid (Below w6.heap.size w6 w8):=(by first | exact B7.out.trans (p8.mono s7) | exact B7.out.drew.trans (p8.mono s7) | exact (B7.out.alloc s7 _).trans (p8.mono (by simp;omega)) | exact (B7.out.alloc s7 _).drew.trans (p8.mono (by simp;omega)) | exact (B7.out.drew.alloc s7 _).trans (p8.mono (by simp;omega)) | exact (B7.out.drew.alloc s7 _).drew.trans (p8.mono (by simp;omega)));have s8:w6.heap.size <= w8.heap.size:=B8.out.size;(first | (have N8:=(by with_reducible exact AR p8)) | (have N8:=(by with_reducible exact wC p8)) | (have N8:=(by with_reducible exact Sw p8 N7)) | (have N8:=(by with_reducible exact NH p8 N7)) | skip);clear p8;simp only [])
    |(go_at_call 117;refine (Q3.out _ (by first | exact B8.out | exact B8.out.drew | exact B8.out.alloc s8 _ | exact (B8.out.alloc s8 _).drew | exact (B8.out.drew.alloc s8 _) | exact (B8.out.drew.alloc s8 _).drew)).mono ?_;rintro e9 w9 ⟨dd,cf,wv2,es2,pR,rfl,H9⟩;(first | (have R9:=(by with_reducible exact DY H9.out.2.1);obtain ⟨z0,z1,z2,z3⟩:=aF R9) | (have R9:=(by with_reducible exact zL H9.out.2.1);obtain ⟨z0,z1,z2,z3⟩:=aF R9) | (have R9:=(by with_reducible exact DX H9.out.2.1 N8);obtain ⟨z0,z1,z2,z3⟩:=aF R9) | (have R9:=(by with_reducible exact zK H9.out.2.1 N8);obtain ⟨z0,z1,z2,z3⟩:=aF R9) | skip);simp only []))
   all_goals
    go_wp2_with fail
    go_meet
    first
     | exact TQ H9.out.1 H9.out.2.2.1 H9.out.2.2.2.1 H9.out.2.2.2.2
     | exact TP H9.out.1 R9.out (by omega) H9.out.2.2.1 H9.out.2.2.2.1 H9.out.2.2.2.2
  case rest=>
   obtain ⟨db,d,cf,wv2,es2,pR,rfl,rfl,HX⟩:=hcut;have SG:Hid (sigs es2=sigs es):=HX.out.2.2.1.same;have MC:=hide HX.out.1;have WI:=hide HX.out.2.2.2.1;have PX:Hid (dF es es2 (0,0) (u.un (setOf c).op) d cf):=by
    have:=HX.out.2.2.1;rw [<- HL.out] at this;exact this
   have Rh:=HX.out.2.2.2.2;have RI:Hid (cf=true↔nJ L (IE c 0)):=Sc HI.out.rep HC.out PX.out WI.out HI.out.nP NE.out;clear KS Q1 Q2 Q3 a0 a1 u0 u1 lA lS
   cases cf with
   | true=>
    have RP:Hid (bH L c):=.inl (RI.out.1 rfl);go_wp2;go_ret;exact ⟨true,_,_,_,rfl,BW2.out.trans MC.out.below,KW2.out.trans MC.out.keeps,MC.out.nK,SG.out,WI.out,by simp only [true_iff];exact RP.out⟩
   | false=>
    have NC:Hid (¬ nJ L (IE c 0)):=fun h=>by have:=RI.out.2 h;cases this
    have QI:Hid (∀ V,Calls Tryz.prog 74 #[aK F] V fun e w'=>e=.returned (.bool (mR F))/\Below V.heap.size V w'):=fun V=>ou F V La
    obtain ⟨f0,f1,_,_⟩:=aF (MC.out.row RF.out);have lF:=(gV (MC.out.row RF.out)).lt
    cases c with
    | nil=>
     have F0:(0,0)=F:=HF.out;subst F0;have NR:Hid (¬ bH L []):=Gj NC.out;rw [show mR (0,0)=true by decide] at QI
     unfold aK at QI;go_wp2_with fail
     first | go_region_with (go_at_call 74;refine (QI.out _).mono ?_;rintro e7 w7 ⟨rfl,ku⟩;have B7:Hid (Below wc.heap.size wc w7):=(by first | exact ku | exact (Below.refl _ _).drew.trans ku);clear ku;simp only []) | fail
     all_goals
      have M7:=hide (MC.out.later B7.out);go_wp2;go_ret;exact ⟨false,_,_,_,rfl,BW2.out.trans M7.out.below,KW2.out.trans M7.out.keeps,M7.out.nK,SG.out,WI.out,by simp only [Bool.false_eq_true,false_iff];exact NR.out⟩
    | cons l r=>cases HC0.out
end
end Rd
end Go.Proofs.YtceahffmenbibaaGreatDoor
