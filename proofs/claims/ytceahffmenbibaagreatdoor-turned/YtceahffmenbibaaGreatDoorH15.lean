/- Vcut Pstep Pisr Visr Ptid. -/
import Derived.Test.YtceahffmenbibaaGreatDoorH06
import Derived.Test.YtceahffmenbibaaGreatDoorH09
import Derived.Test.YtceahffmenbibaaGreatDoorH14
set_option linter.unusedVariables false
set_option linter.unusedSimpArgs false
set_option maxHeartbeats 4000000
set_option maxRecDepth 100000
namespace Go.Proofs.YtceahffmenbibaaGreatDoor
namespace Rd
section
open Go Go.RowKit Go.Deep Go.Proofs
theorem Uv (c:UInt8) (s:ByteArray) (w:World):Calls Tryz.prog 111 #[.string s,.string ⟨#[c]⟩] w fun e a=>e=.returned (.int .i64 (Lib.indexB s ⟨#[c]⟩))/\a=w:=by
 have h:Calls Tryz.prog 111 #[.string s,.string ⟨#[c]⟩] w fun e a=>e=.returned (.int .i64 (Lib.indexByte s.data.toList c))/\a=w:=Any.stringslite_Index_one (ρ:=Tryz.wF) { Tryz.Kj with } s c w
 have e:Lib.indexB s ⟨#[c]⟩=Lib.indexByte s.data.toList c:=Lib.index_one _ _;rw [e];exact h
theorem K4 (c:UInt8) (s:ByteArray) (l:s.size <= 4611686018427387904) (w:World):Calls Tryz.prog 70 #[.string s,.string ⟨#[c]⟩] w fun e f=>e=.returned (.tuple #[.string ⟨(Lib.cut s.data.toList (⟨#[c]⟩:ByteArray).data.toList).1.toArray⟩,.string ⟨(Lib.cut s.data.toList (⟨#[c]⟩:ByteArray).data.toList).2.1.toArray⟩,.bool (Lib.cut s.data.toList (⟨#[c]⟩:ByteArray).data.toList).2.2])/\∃ n,f=w.drewN n:=by
 have d:=hide (Uv c s)
 rcases Lib.indexB_cases s ⟨#[c]⟩ with a | ⟨i,a,b⟩
 ·obtain ⟨k,j,h⟩:=Lib.cutB_miss s ⟨#[c]⟩ a;rw [k,j,h];rw [a] at d;go_enter Tryz.func70,Tryz.ntmps70
  go_wp2_with (go_at_call 111;refine (d.out _).mono ?_;rintro e f ⟨rfl,rfl⟩;simp only [])
  go_ret3
  exact ⟨rfl,0,rfl⟩
 ·obtain ⟨k,j,h⟩:=Lib.cutB_hit s ⟨#[c]⟩ i a;rw [k,j,h];rw [a] at d;have g:(⟨#[c]⟩:ByteArray).size=1:=rfl;rw [g] at b ⊢;have t:(0:Int) <= (i:Int):=by omega
  have r:(i:Int) <= (s.size:Int):=by omega
  have q:(0:Int) <= (i:Int) + 1:=by omega
  have p:(i:Int) + 1 <= (s.size:Int):=by omega
  have o:IntKind.i64.wrap ((i:Int) + 1)=(i:Int) + 1:=by rw [IntKind.wrap_i64];omega
  have m:(i:Int) + 1 <= 4611686018427387904:=by omega
  go_enter Tryz.func70,Tryz.ntmps70
  go_wp2_with (go_at_call 111;refine (d.out _).mono ?_;rintro e f ⟨rfl,rfl⟩;simp only [])
  go_region
  all_goals
   go_wp2;go_ret3
   exact ⟨rfl,1,rfl⟩
theorem En (c:UInt8) (s:ByteArray) (f:s.size <= 4611686018427387904) (w:World):Calls Tryz.prog 40 #[.string s,.string ⟨#[c]⟩] w fun e d=>e=.returned (.tuple #[.string ⟨(Lib.cut s.data.toList (⟨#[c]⟩:ByteArray).data.toList).1.toArray⟩,.string ⟨(Lib.cut s.data.toList (⟨#[c]⟩:ByteArray).data.toList).2.1.toArray⟩,.bool (Lib.cut s.data.toList (⟨#[c]⟩:ByteArray).data.toList).2.2])/\∃ n,d=w.drewN n:=by
 have a:=hide (K4 c s f);generalize (⟨(Lib.cut s.data.toList (⟨#[c]⟩:ByteArray).data.toList).1.toArray⟩:ByteArray)=x at a ⊢;generalize (⟨(Lib.cut s.data.toList (⟨#[c]⟩:ByteArray).data.toList).2.1.toArray⟩:ByteArray)=y at a ⊢;generalize (Lib.cut s.data.toList (⟨#[c]⟩:ByteArray).data.toList).2.2=b at a ⊢;go_enter Tryz.func40,Tryz.ntmps40
 go_wp2_with (go_at_call 70;refine (a.out _).mono ?_;rintro e d ⟨rfl,n,rfl⟩;simp only [])
 go_ret3
 exact ⟨rfl,n,rfl⟩
end
section
open Go Go.RowKit Go.Deep
section
attribute [local go_sem ↓] Go.wp_at_zero Go.wp_at_succ
def qD (g:Bool) (s f:Key):Nat->Value
 | 0=>.bool g
 | 1=>.int .u64 (s.1:Int)
 | 2=>.int .u64 (s.2:Int)
 | 3=>.int .u64 (f.1:Int)
 | _=>.int .u64 (f.2:Int)
def mD (g:Bool) (s f:Key):Value:=.agg #[.bool g,.int .u64 (s.1:Int),.int .u64 (s.2:Int),.int .u64 (f.1:Int),.int .u64 (f.2:Int)]
def eY:Cl->Key
 | []=>(0,0)
 | l :: _=>single l
structure nQ (H:Nat) (w:World) (g:Bool) (s f:Key) (wr:World):Prop where
 res:wr.rowIs H 86 5 (qD false (0,0) (0,0))
 cur:wr.rowIs (H + 1) 86 5 (qD g s f)
 below:Below H w wr
 hs:H + 2 <= wr.heap.size
theorem nQ.later {H:Nat} {w wr a:World} {g:Bool} {s f:Key} (h:nQ H w g s f wr) (b:Below wr.heap.size wr a):nQ H w g s f a:=
 ⟨h.res.of_block (b.block _ (by have:=h.hs;omega)),h.cur.of_block (b.block _ (by have:=h.hs;omega)),h.below.trans (b.mono (by have:=h.hs;omega)),by have:=h.hs;have:=b.size;omega⟩
theorem nQ.Yr {H:Nat} {w wr:World} {g:Bool} {s f:Key} (h:nQ H w g s f wr) (t:Key):nQ H w g s t ((wr.setCell ⟨H + 1,3,none⟩ (.int .u64 (t.1:Int))).setCell ⟨H + 1,4,none⟩ (.int .u64 (t.2:Int))) where
 res:=(h.res.setOther (by simp) _).setOther (by simp) _
 cur:=((h.cur.set 3 _).set 4 _).congr fun i a=>by
  match i,a with
  | 0,_=>rfl
  | 1,_=>rfl
  | 2,_=>rfl
  | 3,_=>rfl
  | 4,_=>rfl
 below:=(h.below.setCell (by simp) _).setCell (by simp) _
 hs:=by have:=h.hs;simp [World.setCell];omega
theorem nQ.Xm {H:Nat} {w wr:World} {g:Bool} {s f:Key} (h:nQ H w g s f wr) (t:Key):nQ H w g t f ((wr.setCell ⟨H + 1,1,none⟩ (.int .u64 (t.1:Int))).setCell ⟨H + 1,2,none⟩ (.int .u64 (t.2:Int))) where
 res:=(h.res.setOther (by simp) _).setOther (by simp) _
 cur:=((h.cur.set 1 _).set 2 _).congr fun i a=>by
  match i,a with
  | 0,_=>rfl
  | 1,_=>rfl
  | 2,_=>rfl
  | 3,_=>rfl
  | 4,_=>rfl
 below:=(h.below.setCell (by simp) _).setCell (by simp) _
 hs:=by have:=h.hs;simp [World.setCell];omega
def UI (H V:Nat) (w:World) (g:Bool) (L0:Option Cl) (t:Value) (wr:World):Prop:=
 ∃ (x:ByteArray) (f:Nat) (acc:Cl),t=.string x/\x.size < f/\x.size <= 17592186044416/\Hid (L0=(qi (Lib.decDigits V) f x.data.toList).map (fun c=>acc ++ c))/\Hid (∀ l ∈ acc,jG l)/\Hid (nQ H w g (setOf acc) (eY acc) wr)
def jS (V:Nat) (s:ByteArray) (e:Ending):Prop:=
 (oq (Lib.decDigits V) s.data.toList=none/\e=.returned (.tuple #[mD false (0,0) (0,0),.bool false])) \/
 ∃ g c,oq (Lib.decDigits V) s.data.toList=some (g,c)/\e=.returned (.tuple #[mD g (setOf c) (eY c),.bool true])
theorem Wn (s:ByteArray) (m:Int) (w:World) (c:s.size <= 17592186044416) (d:w.cell? ⟨0,0,none⟩=some (.int .i64 m)):
  Calls Tryz.prog 40 #[.string s,.string ⟨#[32]⟩] w fun e a=>∃ x y:ByteArray,e=.returned (.tuple #[.string x,.string y,.bool (hasB 32 s.data.toList)])/\
   Hid (hasB 32 s.data.toList=true->x.data.toList=upto 32 s.data.toList/\y.data.toList=s.data.toList.drop ((upto 32 s.data.toList).length + 1))/\∃ n,a=w.drewN n:=by
 refine (En 32 s (by omega) w).mono ?_;rintro e a ⟨rfl,b⟩;rw [show Lib.cut s.data.toList (⟨#[32]⟩:ByteArray).data.toList=_ from Dx 32 _];cases hasB 32 s.data.toList
 ·exact ⟨_,_,rfl,(fun h=>by cases h),b⟩
 ·exact ⟨_,_,rfl,fun _=>⟨rfl,rfl⟩,b⟩
theorem Ad (s v:ByteArray) (V:Nat) (m:Int) (w:World) (hs:s.size <= 17592186044416) (hV:V <= 50) (hv:v.data.toList=Lib.decDigits V) (hm:w.cell? ⟨0,0,none⟩=some (.int .i64 m)):
  Calls Tryz.prog 41 #[.string s,.string v] w fun e w'=>Below w.heap.size w w'/\jS V s e:=by
 have vz:v.size <= 2:=by have:=congrArg List.length hv;have:=Qp V (by omega);simp at *;omega
 have HV:=hide hv;have HM:=hide hm;clear hv hm;go_enter Tryz.func41,Tryz.ntmps41
 go_wp2_with fail
 refine (Tryz.strings_CutPrefix s _ _).mono ?_;rintro e1 w1 ⟨rfl,rfl⟩;obtain ⟨x0,X⟩:∃ x:ByteArray,x=⟨(Lib.trimPrefix s.data.toList (⟨#[100,32]⟩:ByteArray).data.toList).toArray⟩:=⟨_,rfl⟩;obtain ⟨g,hg⟩:∃ g,g=Lib.hasPrefix s.data.toList (⟨#[100,32]⟩:ByteArray).data.toList:=⟨_,rfl⟩;rw [<- X,<- hg];have U:x0.data.toList=Lib.trimPrefix s.data.toList [100,32]:=by rw [X]
 have LB:Hid (oq (Lib.decDigits V) s.data.toList=(qi (Lib.decDigits V) (s.size + 1) x0.data.toList).map fun c=>(g,c)):=by
  unfold Hid;rw [<- PD,U,hg];unfold PE Lib.trimPrefix;show (if Lib.hasPrefix s.data.toList [100,32]=true then _ else _)=Option.map (fun c=>(Lib.hasPrefix s.data.toList [100,32],c)) _
  have B:s.data.toList.length=s.size:=by simp
  rw [B]
  cases h:Lib.hasPrefix s.data.toList [100,32] with
  | true=>rfl
  | false=>rfl
 have ao:x0.size <= s.size:=by
  rw [oM U];have:=Ef s.data.toList [100,32];simpa using this
 clear X U hg;obtain ⟨L0,Y⟩:∃ L,L=qi (Lib.decDigits V) (s.size + 1) x0.data.toList:=⟨_,rfl⟩;rw [<- Y] at LB;simp only [];go_wp2_with fail
 obtain ⟨W,hW⟩:∃ W,W=(w.alloc (.cells #[.bool false,.int .u64 0,.int .u64 0,.int .u64 0,.int .u64 0] 86)).alloc (.cells #[.bool g,.int .u64 0,.int .u64 0,.int .u64 0,.int .u64 0] 86):=⟨_,rfl⟩;rw [<- hW];have S0:Hid (nQ w.heap.size w g (0,0) (0,0) W):=by
  unfold Hid;rw [hW]
  have Q:(w.alloc (.cells #[.bool false,.int .u64 0,.int .u64 0,.int .u64 0,.int .u64 0] 86)).rowIs w.heap.size 86 5 (qD false (0,0) (0,0)):=⟨_,blk_alloc_new _ _,rfl,fun i hi=>by match i,hi with | 0,_=>rfl | 1,_=>rfl | 2,_=>rfl | 3,_=>rfl | 4,_=>rfl⟩;have P:((w.alloc (.cells #[.bool false,.int .u64 0,.int .u64 0,.int .u64 0,.int .u64 0] 86)).alloc (.cells #[.bool g,.int .u64 0,.int .u64 0,.int .u64 0,.int .u64 0] 86)).rowIs (w.heap.size + 1) 86 5 (qD g (0,0) (0,0)):=by
   have:((w.alloc (.cells #[.bool false,.int .u64 0,.int .u64 0,.int .u64 0,.int .u64 0] 86)).alloc (.cells #[.bool g,.int .u64 0,.int .u64 0,.int .u64 0,.int .u64 0] 86)).rowIs (w.alloc (.cells #[.bool false,.int .u64 0,.int .u64 0,.int .u64 0,.int .u64 0] 86)).heap.size 86 5 (qD g (0,0) (0,0)):=⟨_,blk_alloc_new _ _,rfl,fun i hi=>by match i,hi with | 0,_=>rfl | 1,_=>rfl | 2,_=>rfl | 3,_=>rfl | 4,_=>rfl⟩;simpa using this
  exact ⟨Q.alloc _,P,tJ bR lr _ _,by simp⟩
 clear hW;go_loopw [7] (fun t wr=>UI w.heap.size V w g L0 t wr) (fun t _=>jZ t)
 case atStart=>exact ⟨x0,s.size + 1,[],rfl,by omega,by omega,by unfold Hid;rw [Y];simp,by intro l B;simp at B,S0⟩
 case round=>
  clear S0 Y;obtain ⟨x,f,b,rfl,hf,hx,hL,J,d⟩:=hrel;obtain ⟨Z,rfl⟩:∃ Z,f=Z + 1:=⟨f - 1,by omega⟩;have c0:=d.out.cur.cell (i:=0) (by omega);have c1:=d.out.cur.cell (i:=1) (by omega);have c2:=d.out.cur.cell (i:=2) (by omega);have c3:=d.out.cur.cell (i:=3) (by omega);have c4:=d.out.cur.cell (i:=4) (by omega);have r0:=d.out.res.cell (i:=0) (by omega);have Q:=d.out.res.cell (i:=1) (by omega);have P:=d.out.res.cell (i:=2) (by omega);have r3:=d.out.res.cell (i:=3) (by omega);have r4:=d.out.res.cell (i:=4) (by omega);have g0:=d.out.res.frozen 0;have g1:=d.out.res.frozen 1;have g2:=d.out.res.frozen 2;have g3:=d.out.res.frozen 3;have g4:=d.out.res.frozen 4;simp only [qD] at c0 c1 c2 c3 c4 r0 Q P r3 r4
  cases hz:(!x.toList == [48]) with
  | false=>
   have E:Hid (oq (Lib.decDigits V) s.data.toList=some (g,b)):=by
    unfold Hid;rw [LB.out,hL.out];unfold qi;simp only [Bool.not_eq_false',ByteArray.toList_eq] at hz;rw [hz];simp
   have BE:Hid (Below w.heap.size w (((((wr.setCell ⟨w.heap.size,0,none⟩ (.bool g)).setCell ⟨w.heap.size,1,none⟩ (.int .u64 ((setOf b).1:Int))).setCell ⟨w.heap.size,2,none⟩ (.int .u64 ((setOf b).2:Int))).setCell ⟨w.heap.size,3,none⟩ (.int .u64 ((eY b).1:Int))).setCell ⟨w.heap.size,4,none⟩ (.int .u64 ((eY b).2:Int)))):=(((((d.out.below.setCell (by simp) _).setCell (by simp) _).setCell (by simp) _).setCell (by simp) _).setCell (by simp) _);go_wp2;refine bodyPost_ret (v:=.tuple #[mD g (setOf b) (eY b),.bool true]) (by simp [results,Tryz.results41,go_sem,r0,Q,P,r3,r4,mD]) rfl ⟨BE.out,.inr ⟨_,_,E.out,rfl⟩⟩
  | true=>
   have af:wr.cell? ⟨0,0,none⟩=some (.int .i64 m):=by rw [d.out.below.cell (p:=⟨0,0,none⟩) (block_lt_of_cell HM.out)];exact HM.out
   have q1:=Wn x m wr hx af;have LF:Hid (L0=(if hasB 32 x.data.toList && jC (Lib.decDigits V) (upto 32 x.data.toList) then (qi (Lib.decDigits V) Z (x.data.toList.drop ((upto 32 x.data.toList).length + 1))).map (fD (upto 32 x.data.toList) :: ·) else none).map (fun c=>b ++ c)):=by
    unfold Hid;rw [hL.out];conv=>lhs;unfold qi
    simp only [Bool.not_eq_true',ByteArray.toList_eq] at hz;rw [hz];rfl
   have BN:Hid (Below w.heap.size w wr):=d.out.below;go_wp2_with fail
   with_reducible refine q1.mono ?_
   rintro e2 w2 ⟨y,z,rfl,ad,n,rfl⟩;clear q1 af;simp only []
   cases hb:hasB 32 x.data.toList with
   | false=>
    have E:Hid (oq (Lib.decDigits V) s.data.toList=none):=by unfold Hid;rw [LB.out,LF.out,hb];rfl
    go_wp2;refine bodyPost_ret (v:=.tuple #[mD false (0,0) (0,0),.bool false]) (by simp [results,Tryz.results41,go_sem,r0,Q,P,r3,r4,mD]) rfl ⟨?_,.inl ⟨E.out,rfl⟩⟩
    exact ((((((dX BN.out n).setCell (by simp) _).setCell (by simp) _).setCell (by simp) _).setCell (by simp) _).setCell (by simp) _)
   | true=>
    obtain ⟨hy,S⟩:=ad.out hb;have yz:y.size <= 17592186044416:=by
     rw [oM hy];have:(upto 32 x.data.toList).length <= x.data.toList.length:=(List.takeWhile_prefix _).length_le;simp at this;omega
    have zz:z.size < x.size:=by rw [oM S];have:=F6 hb;simp at this;simpa using this
    rw [hb,<- S,<- hy] at LF;have HY:=hide hy;clear hy S ad hb hz;have q2:=hide (fun K=>oN y v K (by unfold maxLen;omega) (by unfold maxLen;omega));go_wp2_with fail
    refine (q2.out _).mono ?_;rintro e3 w3 ⟨rfl,rfl⟩;rw [HV.out];simp only []
    cases B:jC (Lib.decDigits V) y.data.toList with
    | false=>
     have E:Hid (oq (Lib.decDigits V) s.data.toList=none):=by unfold Hid;rw [LB.out,LF.out,B];rfl
     go_wp2;refine bodyPost_ret (v:=.tuple #[mD false (0,0) (0,0),.bool false]) (by simp [results,Tryz.results41,go_sem,r0,Q,P,r3,r4,mD]) rfl ⟨?_,.inl ⟨E.out,rfl⟩⟩
     exact ((((((dX BN.out n).setCell (by simp) _).setCell (by simp) _).setCell (by simp) _).setCell (by simp) _).setCell (by simp) _)
    | true=>
     have ys:=Bw hV B;have aa:y.size <= 18:=by
      have h1:=ys.2.2;have h2:y.data.toList.length <= (strip y.data.toList).length + 1:=by unfold strip;split <;> simp;omega
      simp at h2;omega
     have H:=Py hV B;have at':=G6 B (by omega);have LG:Hid (L0=(qi (Lib.decDigits V) Z z.data.toList).map (fun c=>(b ++ [fD y.data.toList]) ++ c)):=by
      unfold Hid;rw [LF.out,B];simp only [Bool.and_self,if_true,Option.map_map]
      congr 1;funext c;simp
     generalize fD y.data.toList=l at H at' LG;have al:Hid (∀ k ∈ b ++ [l],jG k):=fun k N=>by
      rcases List.mem_append.1 N with N | N
      ·exact J.out k N
      ·simp at N;rw [N];exact H
     have il:=nL H;have ai:(eY b).ok:=by
      cases b with
      | nil=>exact kN
      | cons a r=>exact fP (nL (J.out a (List.mem_cons_self ..)))
     have ac:(setOf b).ok:=xY fun k N=>nL (J.out k N)
     have FE:Hid (eY (b ++ [l])=if jW (eY b) then single l else eY b):=by
      unfold Hid
      cases b with
      | nil=>rfl
      | cons a r=>
       have:jW (eY (a :: r))=false:=by
        unfold jW eY;rw [decide_eq_false_iff_not];intro e;have h1:=dh (dD (nL (J.out a (List.mem_cons_self ..)))) a;have e':single a=(0,0):=e;rw [e',fw] at h1;simp at h1
       rw [this];rfl
     have SE:Hid (setOf (b ++ [l])=(setOf b).un (single l)):=setOf_snoc b l;have p1:=hide (fun K=>uS y l K aa at');have p2:=hide (fun K=>xX l K il);have p3:=hide (fun K=>ou (eY b) K ai);have R:=hide (fun K=>ig (setOf b) (single l) K ac (fP il));rw [<- SE.out] at R;unfold dC at p2 p3 R;clear H il ai ac at' aa ys LF q2 B SE r0 Q P r3 r4 g0 g1 g2 g3 g4 HY;generalize single l=sl at p2 R FE;generalize am:setOf b=sk at c1 c2 d R;generalize ae:setOf (b ++ [l])=sn at R;generalize an:eY b=fk at c3 c4 d p3 FE;have ak:=hide ae;clear am ae an;go_wp2_with fail
     refine (p1.out _).mono ?_;rintro e4 w4 ⟨rfl,ah⟩;have ab:=hide (d.out.later ((dX bR n).trans ah));clear ah d;simp only [];go_wp2_with fail
     refine (p2.out _).mono ?_;rintro e5 M ⟨rfl,ag⟩;have D:=hide (ab.out.later ag);clear ag ab;have C:=fun o=>D.out.later ((Below.refl _ M).alloc lr o)
     have aj:=hide C;have d3:=fun o=>(C o).cur.cell (i:=3) (by omega)
     have d4:=fun o=>(C o).cur.cell (i:=4) (by omega)
     have h5:=D.out.hs;have n5:¬ w.heap.size + 1=M.heap.size:=by omega
     have ap:¬ M.heap.size=w.heap.size + 1:=by omega
     have k3:=D.out.cur.cell (i:=3) (by omega);have k4:=D.out.cur.cell (i:=4) (by omega);simp only [qD] at d3 d4 k3 k4;clear C c0 c1 c2 c3 c4;simp only [];go_wp2_with fail
     refine (p3.out _).mono ?_;rintro e7 w7 ⟨rfl,I⟩;have j:=hide ((aj.out _).later I);have l0:w7.cell? ⟨M.heap.size,0,none⟩=some (.int .u64 (sl.1:Int)):=by rw [I.cell (p:=⟨M.heap.size,0,none⟩) (by simp)];simp
     have l1:w7.cell? ⟨M.heap.size,1,none⟩=some (.int .u64 (sl.2:Int)):=by rw [I.cell (p:=⟨M.heap.size,1,none⟩) (by simp)];simp
     have aq:M.heap.size < w7.heap.size:=block_lt_of_cell l0;clear I aj d3 d4 k3 k4;have m1:=j.out.cur.cell (i:=1) (by omega);have m2:=j.out.cur.cell (i:=2) (by omega);have m3:=j.out.cur.cell (i:=3) (by omega);have m4:=j.out.cur.cell (i:=4) (by omega);have z1:=j.out.cur.frozen 1;have z2:=j.out.cur.frozen 2;have z3:=j.out.cur.frozen 3;have z4:=j.out.cur.frozen 4;simp only [qD] at m1 m2 m3 m4;simp only []
     cases he:jW fk with
     | true=>
      have FN:Hid (eY (b ++ [l])=sl):=by unfold Hid;rw [FE.out,he];rfl
      have s8:=hide (j.out.Yr sl);have v1:=s8.out.cur.cell (i:=1) (by omega);have v2:=s8.out.cur.cell (i:=2) (by omega);simp only [qD] at v1 v2;go_wp2_with fail
      refine (R.out _).mono ?_;rintro e9 w9 ⟨rfl,u⟩;have q:=hide (s8.out.later u);have o1:=q.out.cur.cell (i:=1) (by omega);have o2:=q.out.cur.cell (i:=2) (by omega);have y1:=q.out.cur.frozen 1;have y2:=q.out.cur.frozen 2;simp only [qD] at o1 o2;have O:=hide (q.out.Xm sn);clear u s8 q v1 v2 m1 m2 m3 m4;simp only [];go_wp2;go_roundw
      case rel=>exact ⟨z,Z,b ++ [l],rfl,by omega,by omega,LG,al,by rw [ak.out,FN.out];exact O⟩
      case measure=>simpa [jZ] using zz
     | false=>
      have FN:Hid (eY (b ++ [l])=fk):=by unfold Hid;rw [FE.out,he];rfl
      go_wp2_with fail
      refine (R.out _).mono ?_;rintro e9 w9 ⟨rfl,u⟩;have q:=hide (j.out.later u);have o1:=q.out.cur.cell (i:=1) (by omega);have o2:=q.out.cur.cell (i:=2) (by omega);have y1:=q.out.cur.frozen 1;have y2:=q.out.cur.frozen 2;simp only [qD] at o1 o2;have O:=hide (q.out.Xm sn);clear u q m1 m2 m3 m4;simp only [];go_wp2;go_roundw
      case rel=>exact ⟨z,Z,b ++ [l],rfl,by omega,by omega,LG,al,by rw [ak.out,FN.out];exact O⟩
      case measure=>simpa [jZ] using zz
end
section
attribute [local go_sem ↓] Go.wp_at_zero Go.wp_at_succ
def JE (B sb:Nat) (W:World) (cv:Value) (mb:Nat) (gone:Int) (u:Key) (es:List dN) (laid:Key) (p c:Value) (wx:World):Prop:=
 ∃ (db:Nat) (d:Key) (cf:Bool) (wv2:Nat->Value) (es2:List dN) (YZ:Nat->List Nat),p=.pointer (some ⟨db,0,none⟩)/\c=.bool cf/\Hid (gz B sb W cv mb gone u wv2 es2 YZ wx/\wx.rowIs db 84 2 (gJ d)/\gH es es2 (0,0) laid d cf/\fJ es2 YZ/\d.ok)
theorem Uq {B sb i:Nat} {W g:World} {cv:Value} {c:Int} {u:Key} {f:Nat->Value} {j a:List dN} {e:Nat->List Nat} {b d:Key} {cf:Bool} (h:gz B sb W cv i c u f a e g) (l:gH j a (0,0) b d cf) (k:fJ a e) (hd:d.ok):
  JE B sb W cv i c u j b (.pointer (some ⟨g.heap.size,0,none⟩)) (.bool cf) (g.alloc (.cells #[.int .u64 (d.1:Int),.int .u64 (d.2:Int)] 84)):=
 ⟨_,d,cf,f,a,e,rfl,rfl,h.later (bR.alloc lr _),fZ _ _ _ _,l,k,hd⟩
theorem Uo {B sb j f:Nat} {W i:World} {cv:Value} {c:Int} {u:Key} {g:Nat->Value} {l a:List dN} {e:Nat->List Nat} {b d:Key} {cf:Bool} (h:gz B sb W cv j c u g a e i) (k:i.rowIs f 84 2 (gJ (0,0))) (m:W.heap.size <= f) (o:gH l a (0,0) b d cf) (n:fJ a e) (hd:d.ok):
  JE B sb W cv j c u l b (.pointer (some ⟨f,0,none⟩)) (.bool cf) ((i.setCell ⟨f,0,none⟩ (.int .u64 (d.1:Int))).setCell ⟨f,1,none⟩ (.int .u64 (d.2:Int))):=
 ⟨f,d,cf,g,a,e,rfl,rfl,h.put m k d,nI k,o,n,hd⟩
end
section
attribute [local go_sem ↓] Go.wp_at_zero Go.wp_at_succ
def UQ (B sb:Nat) (w:World) (cv:Value) (mb:Nat) (gone:Int) (u:Key) (es:List dN) (L:List Cl) (c:Cl) (e:Ending) (w':World):Prop:=
 ∃ (b:Bool) (wv':Nat->Value) (es':List dN) (mr:Nat->List Nat),e=.returned (.bool b)/\Below B w w'/\dm w w'/\fu B sb w' cv mb gone u wv' es' mr/\sigs es'=sigs es/\fJ es' mr/\(b=true↔jk L (ve c 0))
theorem FQ {B sb S:Nat} {cv:Value} {i:Int} {u:Key} {wv:Nat->Value} {t:List dN} {wl:Nat->List Nat} {L:List Cl} (c:Cl) (w:World) (hc:∀ l ∈ c,jG l) (z:t.length <= 1600000000000)
  (hS:fu B sb w cv S i u wv t wl) (hT:nT B w) (hI:jX t wl u L) (X:c=[]\/jk L (ve c 0)):
  Calls Tryz.prog 77 #[.pointer (some ⟨sb,0,none⟩),dC (setOf c),dC (eY c)] w fun e q=>UQ B sb w cv S i u t L c e q:=by
 have J:=hide hI;have ac:=hide X;clear X;have HC:=hide hc;have D:=hide z;have H:(setOf c).ok:=mR hc;have Z:(eY c).ok:=by
  cases c with
  | nil=>exact kN
  | cons l r=>exact fP (nL (hc l (List.mem_cons_self ..)))
 have R:=hI.jI.ok;have Q1:Hid (∀ V,Calls Tryz.prog 118 #[dC (setOf c)] V fun e q=>e=.returned (dC (setOf c).op)/\Below V.heap.size V q):=fun V=>oK _ V
 have P:Hid (∀ V,Calls Tryz.prog 75 #[dC u,dC (setOf c).op] V fun e q=>e=.returned (dC (u.un (setOf c).op))/\Below V.heap.size V q):=fun V=>ig _ _ V R (OY H)
 have U:(u.un (setOf c).op).ok:=qB R (OY H);obtain ⟨A,hA⟩:∃ A,setOf c=A:=⟨_,rfl⟩;obtain ⟨F,hF⟩:∃ F,eY c=F:=⟨_,rfl⟩;obtain ⟨j,hL⟩:∃ k,u.un (setOf c).op=k:=⟨_,rfl⟩;have HL:=hide hL;have HF:=hide hF;rw [hL] at P U;rw [hA] at Q1 P H ⊢;rw [hF] at Z ⊢;generalize A.op=oA at Q1 P;have R0:=hide hS;have aa:=hide hT;unfold dC at Q1 P ⊢;clear hS hT hI hc z hL hA hF;go_enter Tryz.func77,Tryz.ntmps77
 go_upto_region 1 with fail
 obtain ⟨W,s⟩:∃ W,W=(w.alloc (.cells #[.int .u64 (A.1:Int),.int .u64 (A.2:Int)] 84)).alloc (.cells #[.int .u64 (F.1:Int),.int .u64 (F.2:Int)] 84):=⟨_,rfl⟩;have BW:Hid (Below w.heap.size w W):=by rw [s];exact tJ bR lr _ _
 have RA:Hid (W.rowIs w.heap.size 84 2 (gJ A)):=by rw [s];exact (fZ w _ _ _).alloc _
 have RF:Hid (W.rowIs (w.heap.size + 1) 84 2 (gJ F)):=by rw [s];exact pO w _ _ _ _
 rw [<- s];clear s;have M0:Hid (gz B sb W cv S i u wv t wl W):=gz.start (R0.out.later BW.out) (aa.out.later (BW.out.mono R0.out.bsize));have K:Hid (Below B w W):=BW.out.mono R0.out.bsize;have I:Hid (dm w W):=dm.of_below BW.out;have QE:=hide (Dr W D.out M0.out.fK);clear R0 aa BW;obtain ⟨em,G⟩:∃ em,there t (0,0)=em:=⟨_,rfl⟩;rw [G] at QE;have ab:=hide G;clear G;go_wp2_with fail
 with_reducible refine QE.out.mono ?_
 rintro e6 g ⟨rfl,Y⟩;simp only [];have v:=hide (M0.out.later Y);clear Y QE M0
 cases em with
 | true=>
  have RP:Hid (jk L (ve c 0)):=(Js J.out.rep (fun h=>by have:=(vU J.out.qb).2 h;rw [ab.out] at this;cases this) _);go_wp2;go_ret;exact ⟨true,_,_,_,rfl,K.out.trans v.out.below,I.out.trans v.out.keeps,v.out.fK,rfl,J.out.gT,by simp only [true_iff];exact RP.out⟩
 | false=>
  have NE:Hid (rZ t):=(vU J.out.qb).1 ab.out;have Q3:Hid (∀ V,Below g.heap.size g V->Calls Tryz.prog 117 #[.pointer (some ⟨sb,0,none⟩),dC (0,0),dC j] V fun e q=>∃ (O:Key) (y:Bool) (o:Nat->Value) (f:List dN) (m:Nat->List Nat),e=.returned (.tuple #[dC O,.bool y])/\Hid (gz B sb W cv S i u o f m q/\dm V q/\gH t f (0,0) j O y/\fJ f m/\O.ok)):=fun V hV=>by
   have MV:=v.out.later hV;with_reducible refine (sK (0,0) j V kN U D.out MV.fK MV.tab J.out.gT (IB _)).mono ?_
   rintro e q ⟨O,y,o,f,m,h1,h2,h3,h4,h5,h6,h7⟩;exact ⟨O,y,o,f,m,h1,MV.step h4 h3 h2,h3,h5,h6,h7⟩
  unfold dC at Q3;obtain ⟨a0,a1,_,_⟩:=di (v.out.row RA.out);have lA:=(jU (v.out.row RA.out)).lt;have u0:=(v.out.fK.head 3 (by omega)).1;have u1:=(v.out.fK.head 4 (by omega)).1;unfold iU at u0 u1;have lS:=v.out.fK.row.lt;have WW:W.heap.size <= g.heap.size:=v.out.below.size;have KS:Hid (∀ V,Below g.heap.size g V->V.cell? ⟨sb,3,none⟩=some (.int .u64 (u.1:Int))/\V.cell? ⟨sb,4,none⟩=some (.int .u64 (u.2:Int))):=fun V h=>
   ⟨(h.cell (p:=⟨sb,3,none⟩) lS).trans u0,(h.cell (p:=⟨sb,4,none⟩) lS).trans u1⟩
  go_upto_region 3 with fail
  go_cut [7,8] from 9 (fun p c wx=>JE B sb W cv S i u t j p c wx)
  case first=>
   have n1:¬ (w.heap.size=g.heap.size):=by omega
   have n3:¬ (sb=g.heap.size):=by omega
   have n4:¬ (g.heap.size=w.heap.size):=by omega
   have n6:¬ (g.heap.size=sb):=by omega
   have lH:w.heap.size < g.heap.size:=lA;have ad:sb < g.heap.size:=lS;go_region_with (first
    |(go_at_call 118;refine (Q1.out _).mono ?_;rintro e7 E ⟨rfl,a⟩;have x:Hid (Below g.heap.size g E):=(by first | exact a | exact bR.drew.trans a | exact (bR.drew.alloc lr _).drew.trans (a.mono (by simp)) | exact (bR.alloc lr _).drew.trans (a.mono (by simp)) | exact (bR.alloc lr _).trans (a.mono (by simp)) | exact (bR.drew.alloc lr _).trans (a.mono (by simp)));obtain ⟨m0,m1⟩:=KS.out E x.out;have N:g.heap.size <= E.heap.size:=x.out.size;have n7:¬ (sb=E.heap.size):=(by omega);have l7:sb < E.heap.size:=(by omega);(first | (have N7:=(by with_reducible exact uy a)) | (have N7:=(by with_reducible exact uw a)) | skip);clear a;simp only [])
    |(go_at_call 75;refine (P.out _).mono ?_;rintro e8 w8 ⟨rfl,b⟩;have M:Hid (Below g.heap.size g w8):=(by first | exact x.out.trans (b.mono N) | exact x.out.drew.trans (b.mono N) | exact (x.out.alloc N _).trans (b.mono (by simp;omega)) | exact (x.out.alloc N _).drew.trans (b.mono (by simp;omega)) | exact (x.out.drew.alloc N _).trans (b.mono (by simp;omega)) | exact (x.out.drew.alloc N _).drew.trans (b.mono (by simp;omega)));have s8:g.heap.size <= w8.heap.size:=M.out.size;(first | (have N8:=(by with_reducible exact uy b)) | (have N8:=(by with_reducible exact uw b)) | (have N8:=(by with_reducible exact J4 b N7)) | (have N8:=(by with_reducible exact EO b N7)) | skip);clear b;simp only [])
    |(go_at_call 117;refine (Q3.out _ (by first | exact M.out | exact M.out.drew | exact M.out.alloc s8 _ | exact (M.out.alloc s8 _).drew | exact (M.out.drew.alloc s8 _) | exact (M.out.drew.alloc s8 _).drew)).mono ?_;rintro e9 w9 ⟨O,y,o,f,m,rfl,n⟩;(first | (have C:=(by with_reducible exact FL n.out.2.1);obtain ⟨z0,z1,z2,z3⟩:=di C) | (have C:=(by with_reducible exact BG n.out.2.1);obtain ⟨z0,z1,z2,z3⟩:=di C) | (have C:=(by with_reducible exact FK n.out.2.1 N8);obtain ⟨z0,z1,z2,z3⟩:=di C) | (have C:=(by with_reducible exact Bz n.out.2.1 N8);obtain ⟨z0,z1,z2,z3⟩:=di C) | skip);simp only []))
   all_goals
    go_wp2_with fail
    go_meet
    first
     | exact Uq n.out.1 n.out.2.2.1 n.out.2.2.2.1 n.out.2.2.2.2
     | exact Uo n.out.1 C.out (by omega) n.out.2.2.1 n.out.2.2.2.1 n.out.2.2.2.2
  case rest=>
   obtain ⟨db,d,y,o,f,m,rfl,rfl,HX⟩:=hcut;have SG:Hid (sigs f=sigs t):=HX.out.2.2.1.same;have Q:=hide HX.out.1;have WI:=hide HX.out.2.2.2.1;have PX:Hid (gH t f (0,0) (u.un (setOf c).op) d y):=by
    have:=HX.out.2.2.1;rw [<- HL.out] at this;exact this
   have ae:=HX.out.2.2.2.2;have RI:Hid (y=true↔jk L (ve c 0)):=Tg J.out.rep HC.out PX.out WI.out J.out.jI NE.out;clear KS Q1 P Q3 a0 a1 u0 u1 lA lS
   cases y with
   | true=>
    have RP:Hid (jk L (ve c 0)):=RI.out.1 rfl;go_wp2;go_ret;exact ⟨true,_,_,_,rfl,K.out.trans Q.out.below,I.out.trans Q.out.keeps,Q.out.fK,SG.out,WI.out,by simp only [true_iff];exact RP.out⟩
   | false=>
    have NC:Hid (¬ jk L (ve c 0)):=fun h=>by have:=RI.out.2 h;cases this
    have QI:Hid (∀ V,Calls Tryz.prog 74 #[dC F] V fun e q=>e=.returned (.bool (jW F))/\Below V.heap.size V q):=fun V=>ou F V Z
    obtain ⟨f0,f1,_,_⟩:=di (Q.out.row RF.out);have lF:=(jU (Q.out.row RF.out)).lt
    cases c with
    | nil=>
     have F0:(0,0)=F:=HF.out;subst F0;have NR:=NC;rw [show jW (0,0)=true by decide] at QI;unfold dC at QI;go_wp2_with fail
     first | go_region_with (go_at_call 74;refine (QI.out _).mono ?_;rintro e7 E ⟨rfl,a⟩;have x:Hid (Below wc.heap.size wc E):=(by first | exact a | exact bR.drew.trans a);clear a;simp only []) | fail
     all_goals
      have M7:=hide (Q.out.later x.out);go_wp2;go_ret;exact ⟨false,_,_,_,rfl,K.out.trans M7.out.below,I.out.trans M7.out.keeps,M7.out.fK,SG.out,WI.out,by simp only [Bool.false_eq_true,false_iff];exact NR.out⟩
    | cons l r=>
     rcases ac.out with h | h
     ·cases h
     ·exact absurd h NC.out
end
section
attribute [local go_sem ↓] Go.wp_at_zero Go.wp_at_succ
theorem Tryz.Ce:Tryz.zeroCells134.toList=[.slice none 0 0,.map none,.int .i64 0,.int .u64 0,.int .u64 0] ++ List.replicate 128 (.slice none 0 0):=by kernel_rfl
def newRow (mb:Nat) (u:Key):List Value:=[.slice none 0 0,.map (some mb),.int .i64 0,.int .u64 (u.1:Int),.int .u64 (u.2:Int)] ++ List.replicate 128 (.slice none 0 0)
theorem LZ (a:Nat) (u:Key) (i:Nat) (hi:i < 133):(newRow a u)[i]? = some (iU (.slice none 0 0) a 0 u (fun _=>.slice none 0 0) i):=by
 unfold newRow
 match i,hi with
 | 0,_=>rfl
 | 1,_=>rfl
 | 2,_=>rfl
 | 3,_=>rfl
 | 4,_=>rfl
 | k + 5,h=>
  rw [List.getElem?_append_right (by simp)];simp only [List.length_cons,List.length_nil,Nat.reduceAdd,Nat.add_sub_cancel];rw [List.getElem?_replicate,if_pos (by omega)];rfl
theorem yw (a:Nat) (u:Key):(newRow a u).length=133:=by unfold newRow;simp
theorem IP (b:Nat) (u:Key):∀ v ∈ newRow b u,v.oneCell'=true:=fun v a=>by
 unfold newRow at a
 rcases List.mem_append.1 a with h | h
 ·simp only [List.mem_cons,List.not_mem_nil,or_false] at h
  rcases h with rfl | rfl | rfl | rfl | rfl <;> rfl
 ·rw [(List.mem_replicate.1 h).2];rfl
theorem fu.fresh {B c a:Nat} {w:World} {u:Key} (d:w.heap[c]? = some (.cells (newRow a u).toArray 134 (0,0))) (e:jB w a 0 (fun _=>none)) (g:B <= c) (b:B <= a):fu B c w (.slice none 0 0) a 0 u (fun _=>.slice none 0 0) [] (fun _=>[]) where
 row:=⟨_,d,by simp [yw],fun i f=>by simpa using LZ a u i f⟩
 cls:=World.ownsRow_nil _ _ _ _
 map:=e.congr fun s _=>rfl
 mP:=fun k _=>World.ownsRow_nil _ _ _ _
 apart:=fun k h _ _ _=>.inl rfl
 jf:=g
 zB:=b
theorem IM (a:Nat) (u:Key):(((Tryz.zeroCells134.toList.set 1 (.map (some a))).set 3 (.int .u64 (u.1:Int))).set 4 (.int .u64 (u.2:Int)))=newRow a u:=by
 rw [Tryz.Ce];rfl
theorem Cc:Tryz.zeroCells134.size=133:=by
 rw [<- Array.length_toList,Tryz.Ce];rfl
def zH (es es':List dN) (mr:Nat->List Nat):Prop:=sigs es'=(sigs es).filter (fun p=>decide (0 < p.2))/\fJ es' mr
theorem Bh {w:World} {B H e size n:Nat} {v:Value} {c:List Value} (h:w.ownsRow H e size v n c) (f:B <= H):w.ownsRow B e size v n c:=by
 refine ⟨h.1,?_⟩
 rcases h.2 with i | ⟨g,b,a,j,d,r⟩
 ·exact .inl i
 ·exact .inr ⟨g,b,a,j,Nat.le_trans f d,r⟩
theorem fu.moved {B H m sb d:Nat} {wr:World} {f:Value} {u:Key} {a:Nat->Value} {n:List dN} {b:Nat->List Nat} {cf v:Array Value} (h:fu H m wr f d 0 u a n b) (r:wr.heap[m]? = some (.cells cf 134 (0,0))) (q:wr.heap[sb]? = some (.cells v 134 (0,0))) (o:sb < H) (t:B <= sb):
  fu B sb (wr.setRow sb cf) f d 0 u a n b where
 row:=by
  obtain ⟨c,j,p,s⟩:=h.row;rw [r] at j;have e:cf=c:=by cases j;rfl
  subst e;exact ⟨cf,setRow_heap _ _ _ _ _ _ q,p,s⟩
 cls:=Bh (gu h.cls fun g i=>setRow_other _ _ _ _ (by have:=(h.cls.lt g i).1;omega)) (by omega)
 map:=h.map.kept (setRow_other _ _ _ _ (by have:=h.zB;omega))
 mP:=fun k l=>Bh (gu (h.mP k l) fun g i=>setRow_other _ _ _ _ (by have:=((h.mP k l).lt g i).1;omega)) (by omega)
 apart:=h.apart
 jf:=t
 zB:=by have:=h.zB;omega
theorem Mx {sb:Nat} {wr:World} {cf f:Array Value} (b:wr.heap[sb]? = some (.cells f 134 (0,0))):dm wr (wr.setRow sb cf):=fun k d=>setRow_other _ _ _ _ (fun e=>by
 obtain ⟨x,t,a,c,_⟩:=d
 first
  |(rw [e,b] at a;cases a;exact c rfl)
  |(rw [<- e,b] at a;cases a;exact c rfl))
structure zI (H fs YC:Nat) (wd:World) (u:Key) (es:List dN) (i:Nat) (YS:Value) (Ym:Nat->Value) (ef:List dN) (XZ:Nat->List Nat) (wr:World):Prop where
 below:Below H wd wr
 keeps:dm wd wr
 fK:fu H fs wr YS YC 0 u Ym ef XZ
 tab:nT H wr
 sig:sigs ef=(sigs (es.take i)).filter (fun p=>decide (0 < p.2))
 gT:fJ ef XZ
def Wu (H fs YC:Nat) (wd:World) (u:Key) (es:List dN) (i29:Value) (wr:World):Prop:=
 ∃ (i:Nat) (YS:Value) (Ym:Nat->Value) (ef:List dN) (XZ:Nat->List Nat),i29=.int .i64 i/\i <= es.length/\Hid (zI H fs YC wd u es i YS Ym ef XZ wr)
theorem AQ {a:List dN} {i:Nat} (hi:i < a.length):sigs (a.take (i + 1))=sigs (a.take i) ++ [((a[i]).set,(a[i]).times)]:=by
 rw [List.take_add_one,List.getElem?_eq_getElem hi,Option.toList_some,AX]
theorem NY {H j c:Nat} {g wr:World} {u:Key} {f:List dN} {i:Nat} {d:Value} {a:Nat->Value} {k:List dN} {b:Nat->List Nat} (h:zI H j c g u f i d a k b wr) (hi:i < f.length) (l:(f[i]).times=0) {ws:World} (e:Below wr.heap.size wr ws):
  zI H j c g u f (i + 1) d a k b ws where
 below:=h.below.trans (e.mono h.fK.bsize)
 keeps:=h.keeps.trans (dm.of_below e)
 fK:=h.fK.later e
 tab:=h.tab.later (e.mono h.fK.bsize)
 sig:=by
  rw [AQ hi,List.filter_append,h.sig,l];simp
 gT:=h.gT
theorem SB {H l e:Nat} {j ws:World} {u:Key} {c:List dN} {i:Nat} {g:Value} {d:Nat->Value} {h:List dN} {a:Nat->List Nat} (f:sigs h=(sigs (c.take i)).filter (fun p=>decide (0 < p.2))) (hi:i < c.length) (n:0 < (c[i]).times)
  (m:fJ (h ++ [{ eG (c[i]).set with times:=(c[i]).times }]) a) (b:Below H j ws) (k:dm j ws) (S:fu H l ws g e 0 u d (h ++ [{ eG (c[i]).set with times:=(c[i]).times }]) a) (T:nT H ws):
  zI H l e j u c (i + 1) g d (h ++ [{ eG (c[i]).set with times:=(c[i]).times }]) a ws where
 below:=b
 keeps:=k
 fK:=S
 tab:=T
 sig:=by
  rw [AQ hi,List.filter_append,AX,f]
  congr 1
  simp [n,eG]
 gT:=m
theorem NZ {b f:List dN} {i:Nat} (a:sigs f=(sigs (b.take i)).filter (fun p=>decide (0 < p.2))) (hi:i < b.length) (hd:(b.map dN.set).Nodup):look f (b[i]).set=none:=by
 rw [rP];intro e k g;have:=yD k;rw [a,List.mem_filter] at this;obtain ⟨l,c,d,_⟩:=CO this.1;obtain ⟨j,h,rfl⟩:=List.mem_iff_getElem.1 c;rw [List.length_take] at h;rw [List.getElem_take] at d;have:=uG hd (i:=j) (j:=i) (by omega) hi (d.trans g);omega
theorem SF {a e:List dN} {i:Nat} (b:sigs e=(sigs (a.take i)).filter (fun p=>decide (0 < p.2))):e.length <= a.length:=by
 have d:=congrArg List.length b;have c:((sigs (a.take i)).filter (fun p=>decide (0 < p.2))).length <= (sigs (a.take i)).length:=List.length_filter_le _ _;unfold sigs at d c;simp only [List.length_map] at d c;have:(a.take i).length <= a.length:=by rw [List.length_take];omega
 omega
theorem Eh {B sb mb:Nat} {cv:Value} {j:Int} {u:Key} {wv:Nat->Value} {d:List dN} {wl:Nat->List Nat} (w:World) (ae:d.length <= 1500000000000) (hg:-1700000000000 <= j/\j <= 1700000000000)
  (O:fu B sb w cv mb j u wv d wl) (hT:nT B w) (hW:fJ d wl) (hd:(d.map dN.set).Nodup) (hu:u.ok):
  Calls Tryz.prog 115 #[.pointer (some ⟨sb,0,none⟩)] w fun e w'=>e=.returned (.tuple #[])/\Below B w w'/\dm w w'/\
   ∃ (az:Value) (ar:Nat) (fB:Int) (aq:Nat->Value) (z:List dN) (K:Nat->List Nat),fu B sb w' az ar fB u aq z K/\((fB=j/\sigs z=sigs d/\fJ z K)\/(fB=0/\zH d z K)):=by
 obtain ⟨a,aQ,av⟩:=pR O.cls;subst av;have HS:=hide O;have HT:=hide hT;have HW:=hide hW;have HD:=hide hd;have H:=hide ae;have U:=(O.head 0 (by omega)).1;have y2:=(O.head 2 (by omega)).1;have y3:=(O.head 3 (by omega)).1;have y4:=(O.head 4 (by omega)).1;unfold iU at U y2 y3 y4;have dv:Int.tdiv (d.length:Int) 2=((d.length / 2:Nat):Int):=by
  rw [Int.tdiv_eq_ediv_of_nonneg (by omega)];omega
 clear O hT hW hd;go_enter Tryz.func115,Tryz.ntmps115
 by_cases aB:j <= 100 + ((d.length / 2:Nat):Int)
 ·go_wp2_with fail
  go_quiet (fail)
  have D:Hid (Below w.heap.size w (w.drewN nq)):=dX bR _;go_wp2;refine @bodyPost_ret _ _ _ _ _ (.tuple #[]) ?_ ?_ ?_
  ·simp [results,Tryz.results115,go_sem]
  ·rfl
  exact ⟨rfl,D.out.mono HS.out.bsize,dm.of_below D.out,_,_,_,_,_,_,HS.out.later D.out,.inl ⟨rfl,rfl,HW.out⟩⟩
 ·go_wp2_with fail
  go_quiet (fail)
  have D:Hid (Below w.heap.size w (w.drewN nq)):=dX bR _;have h:=hide (HS.out.later D.out);generalize w.drewN nq=b at D h ⊢;have U:=(h.out.head 0 (by omega)).1;have y3:=(h.out.head 3 (by omega)).1;have y4:=(h.out.head 4 (by omega)).1;unfold iU at U y3 y4;have ac:=h.out.row.lt;have ns:¬ (sb=b.heap.size):=by omega
  have aI:¬ (b.heap.size=sb):=by omega
  have aw:=@run_makeMap Tryz.prog;have au:(storeCells ⟨b.heap.size + 1,0,none⟩ (((Tryz.zeroCells134.toList.set 1 (.map (some b.heap.size))).set 3 (.int .u64 (u.1:Int))).set 4 (.int .u64 (u.2:Int)))).run Tryz.prog ((b.alloc (.map #[] 0)).alloc (.cells Tryz.zeroCells134 134))=.ok () (((b.alloc (.map #[] 0)).alloc (.cells Tryz.zeroCells134 134)).setRow (b.heap.size + 1) (newRow b.heap.size u).toArray):=by
   rw [IM];have:=run_storeCells_from (P:=Tryz.prog) (b.heap.size + 1) 134 (newRow b.heap.size u) 0 Tryz.zeroCells134 ((b.alloc (.map #[] 0)).alloc (.cells Tryz.zeroCells134 134)) (by have:=heap_alloc_new (b.alloc (.map #[] 0)) (.cells Tryz.zeroCells134 134);simpa using this) (by rw [yw,Cc]) (IP _ _);simpa using this
  go_upto_region 2 with fail
  have r:((b.alloc (.map #[] 0)).alloc (.cells Tryz.zeroCells134 134)).heap[b.heap.size + 1]? = some (.cells Tryz.zeroCells134 134 (0,0)):=by have:=heap_alloc_new (b.alloc (.map #[] 0)) (.cells Tryz.zeroCells134 134);simpa using this
  obtain ⟨Y,hY⟩:∃ Y,Y=((b.alloc (.map #[] 0)).alloc (.cells Tryz.zeroCells134 134)).setRow (b.heap.size + 1) (newRow b.heap.size u).toArray:=⟨_,rfl⟩;have BY:Hid (Below b.heap.size b Y):=by
   unfold Hid;rw [hY];exact below_setRow ((bR.alloc lr _).alloc (by simp) _) (by omega) _
  have SY:Hid (fu b.heap.size (b.heap.size + 1) Y (.slice none 0 0) b.heap.size 0 u (fun _=>.slice none 0 0) [] (fun _=>[])):=by
   unfold Hid;refine fu.fresh ?_ ?_ (by omega) lr
   ·rw [hY];exact setRow_heap _ _ _ _ _ _ r
   ·rw [hY];refine (yE b).kept ?_;rw [setRow_other _ _ _ _ (by omega),Below.heap_alloc _ _ _ (by simp)]
  rw [<- hY];clear hY r au aw;have U:=(BY.out.cell (p:=⟨sb,0,none⟩) ac).trans U;have T0:Hid (zI b.heap.size (b.heap.size + 1) b.heap.size b u d 0 (.slice none 0 0) (fun _=>.slice none 0 0) [] (fun _=>[]) Y):=
   ⟨BY.out,dm.of_below BY.out,SY.out,by
    have t1:=HT.out.later (D.out.mono HS.out.bsize);have t2:=t1.later (BY.out.mono h.out.bsize);exact ⟨t2.1,by have:=t2.2;have:=h.out.bsize;omega⟩,by simp [sigs],fJ.empty⟩
  clear SY BY;go_wp2;go_loopw [29] (fun i wr=>Wu b.heap.size (b.heap.size + 1) b.heap.size b u d i wr) (fun i _=>d.length - (intOf i).toNat)
  case atStart=>exact ⟨0,_,_,_,_,rfl,zl,T0⟩
  case round=>
   clear T0 U;obtain ⟨i,C,I,f,m,rfl,aN,T⟩:=hrel;have ap:=hide (h.out.later T.out.below);by_cases q:i < d.length
   ·obtain ⟨cb,aG,ah,aE,aD,aC,aF,c⟩:=ap.out.wY i q;obtain ⟨q1,q2,q3⟩:=Value.slice.inj ah;subst q1 q3;clear q2 ah;have c0:=(c 0 (by omega)).1;have c1:=(c 1 (by omega)).1;have c2:=(c 2 (by omega)).1;have c3:=(c 3 (by omega)).1;have c4:=(c 4 (by omega)).1;simp only [lQ,List.getElem?_cons_succ,List.getElem?_cons_zero] at c0 c1 c2 c3 c4;have c0:wr.cell? ⟨cb,i * 5,none⟩=some (.int .u64 ((d[i]).set.1:Int)):=c0;have aa:(d[i]).set.ok:=HW.out.ok _ (List.getElem_mem _);have aA:=hide (NZ T.out.sig q HD.out)
    have ao:Hid (∀ (o:World) (R:Value) (J:Nat->Value),0 < (d[i]).times->Below b.heap.size wr o->dm wr o->fu b.heap.size (b.heap.size + 1) o R b.heap.size 0 u J (f ++ [{ eG (d[i]).set with times:=(d[i]).times }]) (iO m (d[i]).set f.length)->zI b.heap.size (b.heap.size + 1) b.heap.size b u d (i + 1) R J (f ++ [{ eG (d[i]).set with times:=(d[i]).times }]) (iO m (d[i]).set f.length) o):=fun o R J h1 h2 h3 h4=>
     SB T.out.sig q h1 (T.out.gT.enter aa _) (T.out.below.trans h2) (T.out.keeps.trans h3) h4 (T.out.tab.later h2)
    have an:Hid (∀ o,(d[i]).times=0->Below wr.heap.size wr o->zI b.heap.size (b.heap.size + 1) b.heap.size b u d (i + 1) C I f m o):=fun o h1 h2=>NY T.out q h1 h2
    have Q:f.length <= d.length:=SF T.out.sig;generalize (d[i]).set=s at *
    generalize (d[i]).watched=V at *
    generalize (d[i]).times=t at *
    clear c;have aM:(0:Int) <= (i:Int):=by omega
    have aL:(i:Int) < (d.length:Int):=by omega
    go_upto_region 5 with fail
    have Z:Hid (Below wr.heap.size wr (wr.alloc (.cells #[.int .u64 (s.1:Int),.int .u64 (s.2:Int),.int .u64 (V.1:Int),.int .u64 (V.2:Int),.int .i64 (t:Int)] 180))):=bR.alloc lr _;obtain ⟨X,r⟩:∃ X,X=wr.alloc (.cells #[.int .u64 (s.1:Int),.int .u64 (s.2:Int),.int .u64 (V.1:Int),.int .u64 (V.2:Int),.int .i64 (t:Int)] 180):=⟨_,rfl⟩;have kx:X.heap[wr.heap.size]? = some (.cells #[.int .u64 (s.1:Int),.int .u64 (s.2:Int),.int .u64 (V.1:Int),.int .u64 (V.2:Int),.int .i64 (t:Int)] 180 (0,0)):=by rw [r];exact heap_alloc_new _ _
    have k0:X.cell? ⟨wr.heap.size,0,none⟩=some (.int .u64 (s.1:Int)):=by rw [r];simp
    have k1:X.cell? ⟨wr.heap.size,1,none⟩=some (.int .u64 (s.2:Int)):=by rw [r];simp
    have k4:X.cell? ⟨wr.heap.size,4,none⟩=some (.int .i64 (t:Int)):=by rw [r];simp
    rw [<- r] at Z ⊢;clear r c0 c1 c2 c3 c4;by_cases ht:t=0
    ·subst ht;have NX:=hide (an.out X rfl Z.out);go_wp2;go_roundw
     case rel=>exact ⟨i + 1,_,_,_,_,lL (by omega),by omega,NX⟩
     case measure=>simp [intOf];omega
    ·have tp:(0:Int) < (t:Int):=by omega
     have SX:=hide (T.out.fK.later Z.out);have TX:=hide (T.out.tab.later (Z.out.mono T.out.fK.bsize));have QE:=hide (yZ s X aa aA.out (Nat.le_trans Q H.out) (fun k hk=>Nat.le_trans (T.out.gT.len hk) (by have:=H.out;omega)) SX.out TX.out);unfold dC at QE;have KK:Hid (C.ownBlock ≠ some wr.heap.size):=fun e=>by have:=(T.out.fK.cls.lt _ e).2;omega
     go_upto_region 6 with fail
     go_wp2_with fail
     with_reducible refine QE.out.mono ?_
     rintro e6 w6 ⟨rfl,ak,af,aO,aH,al,l⟩;simp only [];have k6:w6.cell? ⟨wr.heap.size,4,none⟩=some (.int .i64 (t:Int)):=(World.cell?_of_block (a:=⟨wr.heap.size,4,none⟩) (al _ _ kx KK.out).1).trans k4;have gx:f.length < (f ++ [eG s]).length:=by simp
     obtain ⟨S,am,ag,_,_,_,N,g⟩:=l.wY f.length gx;subst ag;have f4:=(g 4 (by omega)).1;have f5:=(g 4 (by omega)).2;rw [show (f ++ [eG s])[f.length]'gx=eG s by simp] at f4;simp only [lQ,List.getElem?_cons_succ,List.getElem?_cons_zero] at f4;have f0:w6.cell? ⟨b.heap.size + 1,0,none⟩=some (.slice (some ⟨S,0,none⟩) (f ++ [eG s]).length am):=(l.head 0 (by omega)).1;have e9:iT (f ++ [eG s]) f.length t=f ++ [{ eG s with times:=t }]:=by unfold iT;rw [modify_last]
     have S9:=l.Ol gx t;rw [e9] at S9;have K9:dm wr (w6.setCell ⟨S,f.length * 5 + 4,none⟩ (.int .i64 (t:Int))):=((dm.of_below Z.out).trans af).trans (l.qO _ _)
     have B9:Below b.heap.size wr (w6.setCell ⟨S,f.length * 5 + 4,none⟩ (.int .i64 (t:Int))):=((Z.out.mono T.out.fK.bsize).trans ak).setCell (by rcases l.cls.2 with ⟨W,_⟩ | ⟨g',c',aP,W,ax,_⟩ <;> cases W;exact ax) _;have NX:=hide (ao.out _ _ _ (by omega) B9 K9 S9);have E:(f ++ [eG s]).length=f.length + 1:=by simp
     rw [E] at f0 N;rw [show (eG s).times=0 from rfl] at f4;have aK:(0:Int) <= (f.length:Int):=by omega
     have aJ:(f.length:Int) < ((f.length + 1:Nat):Int):=by omega
     clear l af ak al g S9 K9 B9 e9 QE SX TX k0 k1 k4 kx gx E ao an;go_wp2;go_roundw
     case rel=>exact ⟨i + 1,_,_,_,_,lL (by omega),by omega,NX⟩
     case measure=>simp [intOf];omega
   ·have ei:i=d.length:=by omega
    subst ei;obtain ⟨G,ai,L,aj⟩:=T.out.fK.row;obtain ⟨co,M,ad,_⟩:=ap.out.row;have ay:G.all (·.oneCell')=true:=by
     rw [Array.all_eq_true_iff_forall_mem];intro v hv;obtain ⟨k,hk,e⟩:=Array.mem_iff_getElem.1 hv;have:=aj k (by omega);rw [Array.getElem?_eq_getElem hk,e] at this;rw [Option.some.inj this]
     match k with
     | 0=>
      obtain ⟨x,y,W⟩:=pR T.out.fK.cls;show C.oneCell'=true
      rw [W];rfl
     | 1=>rfl
     | 2=>rfl
     | 3=>rfl
     | 4=>rfl
     | n + 5=>
      obtain ⟨x,y,W⟩:=pR (T.out.fK.mP n (by omega));show (I n).oneCell'=true
      rw [W];rfl
    have ab:(Tryz.prog.info? 134).map (·.size)=some G.size:=by rw [L];kernel_rfl
    have HB:B <= b.heap.size:=h.out.bsize;have SN:Hid (fu B sb (wr.setRow sb G) C b.heap.size 0 u I f m):=T.out.fK.moved ai M ac h.out.jf;have BN:Hid (Below B w (wr.setRow sb G)):=below_setRow ((D.out.mono HS.out.bsize).trans (T.out.below.mono HB)) h.out.jf _;have KN:Hid (dm w (wr.setRow sb G)):=((dm.of_below D.out).trans T.out.keeps).trans (Mx M);have TP:Hid (zH d f m):=⟨by have:=T.out.sig;rw [List.take_length] at this;exact this,T.out.gT⟩;have sz:co.size=G.size:=by rw [ad,L]
    clear aj L ad;go_upto_region 9 with fail
    go_wp2_with (first
     |(refine wpList_load_row rfl 134 _ rfl (b.heap.size + 1) rfl 134 G (0,0) _ ai Tryz.underlying134 rfl ab ?_)
     |(refine wpList_store_row rfl 134 _ _ rfl sb G rfl rfl 134 co M ab sz ay ?_))
    go_end0
    exact ⟨rfl,BN.out,KN.out,_,_,_,_,_,_,SN.out,.inr ⟨rfl,TP.out⟩⟩
end
end
end Rd
end Go.Proofs.YtceahffmenbibaaGreatDoor
