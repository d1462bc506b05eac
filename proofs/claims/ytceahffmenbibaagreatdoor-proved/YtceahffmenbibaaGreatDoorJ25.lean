/- Vcut Pstep Pisr Cref10 Phld Pnew. -/
import Derived.Test.YtceahffmenbibaaGreatDoorJ12
import Derived.Test.YtceahffmenbibaaGreatDoorJ10
import Derived.Shelf.Strings.Search2
import Derived.Lib.CutLaws
import Derived.Lib.IndexBytes
import Derived.Test.YtceahffmenbibaaGreatDoorJ16
import Derived.Test.YtceahffmenbibaaGreatDoorJ22
import Derived.Deep.CutRange
import Derived.Outline
import Derived.Test.YtceahffmenbibaaGreatDoorJ24
set_option linter.unusedVariables false
set_option linter.unusedSimpArgs false
set_option maxHeartbeats 4000000
set_option maxRecDepth 100000
namespace Go.Proofs.YtceahffmenbibaaGreatDoor
namespace Rd
section
open Go Go.RowKit Go.Deep Go.Proofs
theorem Rc (c:UInt8) (s:ByteArray) (w:World):Calls Tryz.prog 111 #[.string s,.string ⟨#[c]⟩] w fun e w'=>e=.returned (.int .i64 (Lib.indexB s ⟨#[c]⟩))/\w'=w:=by
 have h:Calls Tryz.prog 111 #[.string s,.string ⟨#[c]⟩] w fun e w'=>e=.returned (.int .i64 (Lib.indexByte s.data.toList c))/\w'=w:=Any.stringslite_Index_one (ρ:=Tryz.vT) { Tryz.I8 with } s c w
 have e:Lib.indexB s ⟨#[c]⟩=Lib.indexByte s.data.toList c:=Lib.index_one _ _;rw [e];exact h
theorem JK (c:UInt8) (s:ByteArray) (k:s.size <= 9223372036854775807) (w:World):Calls Tryz.prog 70 #[.string s,.string ⟨#[c]⟩] w fun e w'=>e=.returned (.tuple #[.string ⟨(Lib.cut s.data.toList (⟨#[c]⟩:ByteArray).data.toList).1.toArray⟩,.string ⟨(Lib.cut s.data.toList (⟨#[c]⟩:ByteArray).data.toList).2.1.toArray⟩,.bool (Lib.cut s.data.toList (⟨#[c]⟩:ByteArray).data.toList).2.2])/\∃ n,w'=w.drewN n:=by
 have d:=hide (Rc c s)
 rcases Lib.indexB_cases s ⟨#[c]⟩ with a | ⟨i,a,b⟩
 ·obtain ⟨j,h,g⟩:=Lib.cutB_miss s ⟨#[c]⟩ a;rw [j,h,g];rw [a] at d;go_enter Tryz.func70,Tryz.ntmps70
  go_wp2_with (go_at_call 111;refine (d.out _).mono ?_;rintro e w' ⟨rfl,rfl⟩;simp only [])
  go_ret3
  exact ⟨rfl,0,rfl⟩
 ·obtain ⟨j,h,g⟩:=Lib.cutB_hit s ⟨#[c]⟩ i a;rw [j,h,g];rw [a] at d;have f:(⟨#[c]⟩:ByteArray).size=1:=rfl;rw [f] at b ⊢;have r:(0:Int) <= (i:Int):=by omega
  have q:(i:Int) <= (s.size:Int):=by omega
  have p:(0:Int) <= (i:Int) + 1:=by omega
  have o:(i:Int) + 1 <= (s.size:Int):=by omega
  have m:IntKind.i64.wrap ((i:Int) + 1)=(i:Int) + 1:=by rw [IntKind.wrap_i64];omega
  have l:(i:Int) + 1 <= 9223372036854775807:=by omega
  go_enter Tryz.func70,Tryz.ntmps70
  go_wp2_with (go_at_call 111;refine (d.out _).mono ?_;rintro e w' ⟨rfl,rfl⟩;simp only [])
  go_region
  all_goals
   go_wp2;go_ret3
   exact ⟨rfl,1,rfl⟩
theorem DK (c:UInt8) (s:ByteArray) (d:s.size <= 9223372036854775807) (w:World):Calls Tryz.prog 40 #[.string s,.string ⟨#[c]⟩] w fun e w'=>e=.returned (.tuple #[.string ⟨(Lib.cut s.data.toList (⟨#[c]⟩:ByteArray).data.toList).1.toArray⟩,.string ⟨(Lib.cut s.data.toList (⟨#[c]⟩:ByteArray).data.toList).2.1.toArray⟩,.bool (Lib.cut s.data.toList (⟨#[c]⟩:ByteArray).data.toList).2.2])/\∃ n,w'=w.drewN n:=by
 have a:=hide (JK c s d);generalize (⟨(Lib.cut s.data.toList (⟨#[c]⟩:ByteArray).data.toList).1.toArray⟩:ByteArray)=x at a ⊢;generalize (⟨(Lib.cut s.data.toList (⟨#[c]⟩:ByteArray).data.toList).2.1.toArray⟩:ByteArray)=y at a ⊢;generalize (Lib.cut s.data.toList (⟨#[c]⟩:ByteArray).data.toList).2.2=b at a ⊢;go_enter Tryz.func40,Tryz.ntmps40
 go_wp2_with (go_at_call 70;refine (a.out _).mono ?_;rintro e w' ⟨rfl,n,rfl⟩;simp only [])
 go_ret3
 exact ⟨rfl,n,rfl⟩
end
section
open Go Go.RowKit Go.Deep
section
attribute [local go_sem ↓] Go.wp_at_zero Go.wp_at_succ
def qA (g:Bool) (s f:Key):Nat->Value
 | 0=>.bool g
 | 1=>.int .u64 (s.1:Int)
 | 2=>.int .u64 (s.2:Int)
 | 3=>.int .u64 (f.1:Int)
 | _=>.int .u64 (f.2:Int)
def iX (g:Bool) (s f:Key):Value:=.agg #[.bool g,.int .u64 (s.1:Int),.int .u64 (s.2:Int),.int .u64 (f.1:Int),.int .u64 (f.2:Int)]
def dQ:Cl->Key
 | []=>(0,0)
 | l :: _=>single l
structure nC (H:Nat) (w:World) (g:Bool) (s f:Key) (wr:World):Prop where
 res:wr.rowIs H 86 5 (qA false (0,0) (0,0))
 cur:wr.rowIs (H + 1) 86 5 (qA g s f)
 below:Below H w wr
 hs:H + 2 <= wr.heap.size
theorem nC.later {H:Nat} {w wr a:World} {g:Bool} {s f:Key} (h:nC H w g s f wr) (b:Below wr.heap.size wr a):nC H w g s f a:=
 ⟨h.res.of_block (b.block _ (by have:=h.hs;omega)),h.cur.of_block (b.block _ (by have:=h.hs;omega)),h.below.trans (b.mono (by have:=h.hs;omega)),by have:=h.hs;have:=b.size;omega⟩
theorem nC.Vv {H:Nat} {w wr:World} {g:Bool} {s f:Key} (h:nC H w g s f wr) (t:Key):nC H w g s t ((wr.setCell ⟨H + 1,3,none⟩ (.int .u64 (t.1:Int))).setCell ⟨H + 1,4,none⟩ (.int .u64 (t.2:Int))) where
 res:=(h.res.setOther (by simp) _).setOther (by simp) _
 cur:=((h.cur.set 3 _).set 4 _).congr fun i a=>by
  match i,a with
  | 0,_=>rfl
  | 1,_=>rfl
  | 2,_=>rfl
  | 3,_=>rfl
  | 4,_=>rfl
 below:=(h.below.setCell (by simp) _).setCell (by simp) _
 hs:=by have:=h.hs;simp [World.setCell];omega
theorem nC.UC {H:Nat} {w wr:World} {g:Bool} {s f:Key} (h:nC H w g s f wr) (t:Key):nC H w g t f ((wr.setCell ⟨H + 1,1,none⟩ (.int .u64 (t.1:Int))).setCell ⟨H + 1,2,none⟩ (.int .u64 (t.2:Int))) where
 res:=(h.res.setOther (by simp) _).setOther (by simp) _
 cur:=((h.cur.set 1 _).set 2 _).congr fun i a=>by
  match i,a with
  | 0,_=>rfl
  | 1,_=>rfl
  | 2,_=>rfl
  | 3,_=>rfl
  | 4,_=>rfl
 below:=(h.below.setCell (by simp) _).setCell (by simp) _
 hs:=by have:=h.hs;simp [World.setCell];omega
def Rx (H V:Nat) (w:World) (g:Bool) (L0:Option Cl) (t:Value) (wr:World):Prop:=
 ∃ (x:ByteArray) (f:Nat) (acc:Cl),t=.string x/\x.size < f/\x.size <= 9223372036854775807/\Hid (L0=(pY (Lib.decDigits V) f x.data.toList).map (fun c=>acc ++ c))/\Hid (∀ l ∈ acc,gH l)/\Hid (nC H w g (setOf acc) (dQ acc) wr)
def jv (V:Nat) (s:ByteArray) (e:Ending):Prop:=
 (iy (Lib.decDigits V) s.data.toList=none/\e=.returned (.tuple #[iX false (0,0) (0,0),.bool false])) \/
 ∃ g c,iy (Lib.decDigits V) s.data.toList=some (g,c)/\e=.returned (.tuple #[iX g (setOf c) (dQ c),.bool true])
theorem TL (s:ByteArray) (m:Int) (w:World) (b:s.size <= 9223372036854775807) (d:w.cell? ⟨0,0,none⟩=some (.int .i64 m)):
  Calls Tryz.prog 40 #[.string s,.string ⟨#[32]⟩] w fun e w'=>∃ x y:ByteArray,e=.returned (.tuple #[.string x,.string y,.bool (hasB 32 s.data.toList)])/\
   Hid (hasB 32 s.data.toList=true->x.data.toList=upto 32 s.data.toList/\y.data.toList=s.data.toList.drop ((upto 32 s.data.toList).length + 1))/\∃ n,w'=w.drewN n:=by
 refine (DK 32 s (by omega) w).mono ?_;rintro e w' ⟨rfl,a⟩;rw [show Lib.cut s.data.toList (⟨#[32]⟩:ByteArray).data.toList=_ from CQ 32 _];cases hasB 32 s.data.toList
 ·exact ⟨_,_,rfl,(fun h=>by cases h),a⟩
 ·exact ⟨_,_,rfl,fun _=>⟨rfl,rfl⟩,a⟩
theorem rX (s v:ByteArray) (V:Nat) (m:Int) (w:World) (hs:s.size <= 9223372036854775807) (hV:V <= 50) (hv:v.data.toList=Lib.decDigits V) (hm:w.cell? ⟨0,0,none⟩=some (.int .i64 m)):
  Calls Tryz.prog 41 #[.string s,.string v] w fun e w'=>Below w.heap.size w w'/\jv V s e:=by
 have vz:v.size <= 2:=by have:=congrArg List.length hv;have:=NW V (by omega);simp at *;omega
 have HV:=hide hv;have HM:=hide hm;clear hv hm;go_enter Tryz.func41,Tryz.ntmps41
 go_wp2_with fail
 refine (Tryz.strings_CutPrefix s _ _).mono ?_;rintro e1 w1 ⟨rfl,rfl⟩;obtain ⟨x0,Z⟩:∃ x:ByteArray,x=⟨(Lib.trimPrefix s.data.toList (⟨#[100,32]⟩:ByteArray).data.toList).toArray⟩:=⟨_,rfl⟩;obtain ⟨g,hg⟩:∃ g,g=Lib.hasPrefix s.data.toList (⟨#[100,32]⟩:ByteArray).data.toList:=⟨_,rfl⟩;rw [<- Z,<- hg];have Y:x0.data.toList=Lib.trimPrefix s.data.toList [100,32]:=by rw [Z]
 have LB:Hid (iy (Lib.decDigits V) s.data.toList=(pY (Lib.decDigits V) (s.size + 1) x0.data.toList).map fun c=>(g,c)):=by
  unfold Hid;rw [<- Ni,Y,hg];unfold Nj Lib.trimPrefix;show (if Lib.hasPrefix s.data.toList [100,32]=true then _ else _)=Option.map (fun c=>(Lib.hasPrefix s.data.toList [100,32],c)) _
  have C:s.data.toList.length=s.size:=by simp
  rw [C]
  cases h:Lib.hasPrefix s.data.toList [100,32] with
  | true=>rfl
  | false=>rfl
 have ap:x0.size <= s.size:=by
  rw [oh Y];have:=Dz s.data.toList [100,32];simpa using this
 clear Z Y hg;obtain ⟨L0,aa⟩:∃ L,L=pY (Lib.decDigits V) (s.size + 1) x0.data.toList:=⟨_,rfl⟩;rw [<- aa] at LB;simp only [];go_wp2_with fail
 obtain ⟨W,hW⟩:∃ W,W=(w.alloc (.cells #[.bool false,.int .u64 0,.int .u64 0,.int .u64 0,.int .u64 0] 86)).alloc (.cells #[.bool g,.int .u64 0,.int .u64 0,.int .u64 0,.int .u64 0] 86):=⟨_,rfl⟩;rw [<- hW];have S0:Hid (nC w.heap.size w g (0,0) (0,0) W):=by
  unfold Hid;rw [hW]
  have S:(w.alloc (.cells #[.bool false,.int .u64 0,.int .u64 0,.int .u64 0,.int .u64 0] 86)).rowIs w.heap.size 86 5 (qA false (0,0) (0,0)):=⟨_,blk_alloc_new _ _,rfl,fun i hi=>by match i,hi with | 0,_=>rfl | 1,_=>rfl | 2,_=>rfl | 3,_=>rfl | 4,_=>rfl⟩;have R:((w.alloc (.cells #[.bool false,.int .u64 0,.int .u64 0,.int .u64 0,.int .u64 0] 86)).alloc (.cells #[.bool g,.int .u64 0,.int .u64 0,.int .u64 0,.int .u64 0] 86)).rowIs (w.heap.size + 1) 86 5 (qA g (0,0) (0,0)):=by
   have:((w.alloc (.cells #[.bool false,.int .u64 0,.int .u64 0,.int .u64 0,.int .u64 0] 86)).alloc (.cells #[.bool g,.int .u64 0,.int .u64 0,.int .u64 0,.int .u64 0] 86)).rowIs (w.alloc (.cells #[.bool false,.int .u64 0,.int .u64 0,.int .u64 0,.int .u64 0] 86)).heap.size 86 5 (qA g (0,0) (0,0)):=⟨_,blk_alloc_new _ _,rfl,fun i hi=>by match i,hi with | 0,_=>rfl | 1,_=>rfl | 2,_=>rfl | 3,_=>rfl | 4,_=>rfl⟩;simpa using this
  exact ⟨S.alloc _,R,qU bR lr _ _,by simp⟩
 clear hW;go_loopw [7] (fun t wr=>Rx w.heap.size V w g L0 t wr) (fun t _=>iT t)
 case atStart=>exact ⟨x0,s.size + 1,[],rfl,by omega,by omega,by unfold Hid;rw [aa];simp,by intro l C;simp at C,S0⟩
 case round=>
  clear S0 aa;obtain ⟨x,f,b,rfl,hf,hx,hL,K,d⟩:=hrel;obtain ⟨f',rfl⟩:∃ f',f=f' + 1:=⟨f - 1,by omega⟩;have c0:=d.out.cur.cell (i:=0) (by omega);have c1:=d.out.cur.cell (i:=1) (by omega);have c2:=d.out.cur.cell (i:=2) (by omega);have c3:=d.out.cur.cell (i:=3) (by omega);have c4:=d.out.cur.cell (i:=4) (by omega);have r0:=d.out.res.cell (i:=0) (by omega);have S:=d.out.res.cell (i:=1) (by omega);have R:=d.out.res.cell (i:=2) (by omega);have r3:=d.out.res.cell (i:=3) (by omega);have r4:=d.out.res.cell (i:=4) (by omega);have g0:=d.out.res.frozen 0;have g1:=d.out.res.frozen 1;have g2:=d.out.res.frozen 2;have g3:=d.out.res.frozen 3;have g4:=d.out.res.frozen 4;simp only [qA] at c0 c1 c2 c3 c4 r0 S R r3 r4
  cases hz:(!x.toList == [48]) with
  | false=>
   have E:Hid (iy (Lib.decDigits V) s.data.toList=some (g,b)):=by
    unfold Hid;rw [LB.out,hL.out];unfold pY;simp only [Bool.not_eq_false',ByteArray.toList_eq] at hz;rw [hz];simp
   have BE:Hid (Below w.heap.size w (((((wr.setCell ⟨w.heap.size,0,none⟩ (.bool g)).setCell ⟨w.heap.size,1,none⟩ (.int .u64 ((setOf b).1:Int))).setCell ⟨w.heap.size,2,none⟩ (.int .u64 ((setOf b).2:Int))).setCell ⟨w.heap.size,3,none⟩ (.int .u64 ((dQ b).1:Int))).setCell ⟨w.heap.size,4,none⟩ (.int .u64 ((dQ b).2:Int)))):=(((((d.out.below.setCell (by simp) _).setCell (by simp) _).setCell (by simp) _).setCell (by simp) _).setCell (by simp) _);go_wp2;refine bodyPost_ret (v:=.tuple #[iX g (setOf b) (dQ b),.bool true]) (by simp [results,Tryz.results41,go_sem,r0,S,R,r3,r4,iX]) rfl ⟨BE.out,.inr ⟨_,_,E.out,rfl⟩⟩
  | true=>
   have ag:wr.cell? ⟨0,0,none⟩=some (.int .i64 m):=by rw [d.out.below.cell (p:=⟨0,0,none⟩) (block_lt_of_cell HM.out)];exact HM.out
   have q1:=TL x m wr hx ag;have LF:Hid (L0=(if hasB 32 x.data.toList && iV (Lib.decDigits V) (upto 32 x.data.toList) then (pY (Lib.decDigits V) f' (x.data.toList.drop ((upto 32 x.data.toList).length + 1))).map (eQ (upto 32 x.data.toList) :: ·) else none).map (fun c=>b ++ c)):=by
    unfold Hid;rw [hL.out];conv=>lhs;unfold pY
    simp only [Bool.not_eq_true',ByteArray.toList_eq] at hz;rw [hz];rfl
   have BN:Hid (Below w.heap.size w wr):=d.out.below;go_wp2_with fail
   with_reducible refine q1.mono ?_
   rintro e2 w2 ⟨y,z,rfl,ae,n,rfl⟩;clear q1 ag;simp only []
   cases hb:hasB 32 x.data.toList with
   | false=>
    have E:Hid (iy (Lib.decDigits V) s.data.toList=none):=by unfold Hid;rw [LB.out,LF.out,hb];rfl
    go_wp2;refine bodyPost_ret (v:=.tuple #[iX false (0,0) (0,0),.bool false]) (by simp [results,Tryz.results41,go_sem,r0,S,R,r3,r4,iX]) rfl ⟨?_,.inl ⟨E.out,rfl⟩⟩
    exact ((((((dO BN.out n).setCell (by simp) _).setCell (by simp) _).setCell (by simp) _).setCell (by simp) _).setCell (by simp) _)
   | true=>
    obtain ⟨hy,X⟩:=ae.out hb;have yz:y.size <= 9223372036854775807:=by
     rw [oh hy];have:(upto 32 x.data.toList).length <= x.data.toList.length:=(List.takeWhile_prefix _).length_le;simp at this;omega
    have zz:z.size < x.size:=by rw [oh X];have:=EF hb;simp at this;simpa using this
    rw [hb,<- X,<- hy] at LF;have HY:=hide hy;clear hy X ae hb hz;have q2:=hide (fun M=>oo y v M (by unfold maxLen;omega) (by unfold maxLen;omega));go_wp2_with fail
    refine (q2.out _).mono ?_;rintro e3 w3 ⟨rfl,rfl⟩;rw [HV.out];simp only []
    cases C:iV (Lib.decDigits V) y.data.toList with
    | false=>
     have E:Hid (iy (Lib.decDigits V) s.data.toList=none):=by unfold Hid;rw [LB.out,LF.out,C];rfl
     go_wp2;refine bodyPost_ret (v:=.tuple #[iX false (0,0) (0,0),.bool false]) (by simp [results,Tryz.results41,go_sem,r0,S,R,r3,r4,iX]) rfl ⟨?_,.inl ⟨E.out,rfl⟩⟩
     exact ((((((dO BN.out n).setCell (by simp) _).setCell (by simp) _).setCell (by simp) _).setCell (by simp) _).setCell (by simp) _)
    | true=>
     have ys:=uP hV C;have ab:y.size <= 18:=by
      have h1:=ys.2.2;have h2:y.data.toList.length <= (strip y.data.toList).length + 1:=by unfold strip;split <;> simp;omega
      simp at h2;omega
     have I:=Ng hV C;have at':=FU C (by omega);have LG:Hid (L0=(pY (Lib.decDigits V) f' z.data.toList).map (fun c=>(b ++ [eQ y.data.toList]) ++ c)):=by
      unfold Hid;rw [LF.out,C];simp only [Bool.and_self,if_true,Option.map_map]
      congr 1;funext c;simp
     generalize eQ y.data.toList=l at I at' LG;have am:Hid (∀ k ∈ b ++ [l],gH k):=fun k P=>by
      rcases List.mem_append.1 P with P | P
      ·exact K.out k P
      ·simp at P;rw [P];exact I
     have il:=kE I;have aj:(dQ b).ok:=by
      cases b with
      | nil=>exact kG
      | cons a r=>exact fE (kE (K.out a (List.mem_cons_self ..)))
     have ad:(setOf b).ok:=xC fun k P=>kE (K.out k P)
     have FE:Hid (dQ (b ++ [l])=if jg (dQ b) then single l else dQ b):=by
      unfold Hid
      cases b with
      | nil=>rfl
      | cons a r=>
       have:jg (dQ (a :: r))=false:=by
        unfold jg dQ;rw [decide_eq_false_iff_not];intro e;have h1:=df (dw (kE (K.out a (List.mem_cons_self ..)))) a;have e':single a=(0,0):=e;rw [e',ek] at h1;simp at h1
       rw [this];rfl
     have SE:Hid (setOf (b ++ [l])=(setOf b).un (single l)):=setOf_snoc b l;have p1:=hide (fun M=>uF y l M ab at');have p2:=hide (fun M=>xA l M il);have p3:=hide (fun M=>nQ (dQ b) M aj);have U:=hide (fun M=>gN (setOf b) (single l) M ad (fE il));rw [<- SE.out] at U;unfold dn at p2 p3 U;clear I il aj ad at' ab ys LF q2 C SE r0 S R r3 r4 g0 g1 g2 g3 g4 HY;generalize single l=sl at p2 U FE;generalize an:setOf b=sk at c1 c2 d U;generalize af:setOf (b ++ [l])=sn at U;generalize ao:dQ b=fk at c3 c4 d p3 FE;have al:=hide af;clear an af ao;go_wp2_with fail
     refine (p1.out _).mono ?_;rintro e4 w4 ⟨rfl,ai⟩;have ac:=hide (d.out.later ((dO bR n).trans ai));clear ai d;simp only [];go_wp2_with fail
     refine (p2.out _).mono ?_;rintro e5 O ⟨rfl,ah⟩;have H:=hide (ac.out.later ah);clear ah ac;have D:=fun o=>H.out.later ((Below.refl _ O).alloc lr o)
     have ak:=hide D;have d3:=fun o=>(D o).cur.cell (i:=3) (by omega)
     have d4:=fun o=>(D o).cur.cell (i:=4) (by omega)
     have h5:=H.out.hs;have n5:¬ w.heap.size + 1=O.heap.size:=by omega
     have aq:¬ O.heap.size=w.heap.size + 1:=by omega
     have k3:=H.out.cur.cell (i:=3) (by omega);have k4:=H.out.cur.cell (i:=4) (by omega);simp only [qA] at d3 d4 k3 k4;clear D c0 c1 c2 c3 c4;simp only [];go_wp2_with fail
     refine (p3.out _).mono ?_;rintro e7 w7 ⟨rfl,J⟩;have j:=hide ((ak.out _).later J);have l0:w7.cell? ⟨O.heap.size,0,none⟩=some (.int .u64 (sl.1:Int)):=by rw [J.cell (p:=⟨O.heap.size,0,none⟩) (by simp)];simp
     have l1:w7.cell? ⟨O.heap.size,1,none⟩=some (.int .u64 (sl.2:Int)):=by rw [J.cell (p:=⟨O.heap.size,1,none⟩) (by simp)];simp
     have ar:O.heap.size < w7.heap.size:=block_lt_of_cell l0;clear J ak d3 d4 k3 k4;have m1:=j.out.cur.cell (i:=1) (by omega);have m2:=j.out.cur.cell (i:=2) (by omega);have m3:=j.out.cur.cell (i:=3) (by omega);have m4:=j.out.cur.cell (i:=4) (by omega);have z1:=j.out.cur.frozen 1;have z2:=j.out.cur.frozen 2;have z3:=j.out.cur.frozen 3;have z4:=j.out.cur.frozen 4;simp only [qA] at m1 m2 m3 m4;simp only []
     cases he:jg fk with
     | true=>
      have FN:Hid (dQ (b ++ [l])=sl):=by unfold Hid;rw [FE.out,he];rfl
      have s8:=hide (j.out.Vv sl);have v1:=s8.out.cur.cell (i:=1) (by omega);have v2:=s8.out.cur.cell (i:=2) (by omega);simp only [qA] at v1 v2;go_wp2_with fail
      refine (U.out _).mono ?_;rintro e9 w9 ⟨rfl,u⟩;have q:=hide (s8.out.later u);have o1:=q.out.cur.cell (i:=1) (by omega);have o2:=q.out.cur.cell (i:=2) (by omega);have y1:=q.out.cur.frozen 1;have y2:=q.out.cur.frozen 2;simp only [qA] at o1 o2;have Q:=hide (q.out.UC sn);clear u s8 q v1 v2 m1 m2 m3 m4;simp only [];go_wp2;go_roundw
      case rel=>exact ⟨z,f',b ++ [l],rfl,by omega,by omega,LG,am,by rw [al.out,FN.out];exact Q⟩
      case measure=>simpa [iT] using zz
     | false=>
      have FN:Hid (dQ (b ++ [l])=fk):=by unfold Hid;rw [FE.out,he];rfl
      go_wp2_with fail
      refine (U.out _).mono ?_;rintro e9 w9 ⟨rfl,u⟩;have q:=hide (j.out.later u);have o1:=q.out.cur.cell (i:=1) (by omega);have o2:=q.out.cur.cell (i:=2) (by omega);have y1:=q.out.cur.frozen 1;have y2:=q.out.cur.frozen 2;simp only [qA] at o1 o2;have Q:=hide (q.out.UC sn);clear u q m1 m2 m3 m4;simp only [];go_wp2;go_roundw
      case rel=>exact ⟨z,f',b ++ [l],rfl,by omega,by omega,LG,am,by rw [al.out,FN.out];exact Q⟩
      case measure=>simpa [iT] using zz
end
section
attribute [local go_sem ↓] Go.wp_at_zero Go.wp_at_succ
def Ug (B sb:Nat) (w:World) (cv:Value) (mb:Nat) (gone:Int) (u:Key) (es:List dH) (L:List Cl) (c:Cl) (e:Ending) (w':World):Prop:=
 ∃ (b:Bool) (wv':Nat->Value) (es':List dH) (jU:Nat->List Nat),e=.returned (.bool b)/\Below B w w'/\di w w'/\eG B sb w' cv mb gone u wv' es' jU/\sigs es'=sigs es/\eU es' jU/\(b=true↔eH L c)
def Im (B sb:Nat) (W:World) (cv:Value) (mb:Nat) (gone:Int) (u:Key) (es:List dH) (laid:Key) (p c:Value) (wx:World):Prop:=
 ∃ (db:Nat) (d:Key) (cf:Bool) (wv2:Nat->Value) (es2:List dH) (Uv:Nat->List Nat),p=.pointer (some ⟨db,0,none⟩)/\c=.bool cf/\Hid (eX B sb W cv mb gone u wv2 es2 Uv wx/\wx.rowIs db 84 2 (fU d)/\fo es es2 (0,0) laid d cf/\eU es2 Uv/\d.ok)
theorem Q7 {B sb k:Nat} {W i:World} {cv:Value} {e:Int} {u:Key} {g:Nat->Value} {l a:List dH} {f:Nat->List Nat} {b d:Key} {j:Bool} (h:eX B sb W cv k e u g a f i) (n:fo l a (0,0) b d j) (m:eU a f) (hd:d.ok):
  Im B sb W cv k e u l b (.pointer (some ⟨i.heap.size,0,none⟩)) (.bool j) (i.alloc (.cells #[.int .u64 (d.1:Int),.int .u64 (d.2:Int)] 84)):=
 ⟨_,d,j,g,a,f,rfl,rfl,h.later (bR.alloc lr _),fK _ _ _ _,n,m,hd⟩
theorem Q0 {B sb l g:Nat} {W j:World} {cv:Value} {e:Int} {u:Key} {i:Nat->Value} {n a:List dH} {f:Nat->List Nat} {b d:Key} {k:Bool} (h:eX B sb W cv l e u i a f j) (m:j.rowIs g 84 2 (fU (0,0))) (o:W.heap.size <= g) (q:fo n a (0,0) b d k) (p:eU a f) (hd:d.ok):
  Im B sb W cv l e u n b (.pointer (some ⟨g,0,none⟩)) (.bool k) ((j.setCell ⟨g,0,none⟩ (.int .u64 (d.1:Int))).setCell ⟨g,1,none⟩ (.int .u64 (d.2:Int))):=
 ⟨g,d,k,i,a,f,rfl,rfl,h.put o m d,mW m,q,p,hd⟩
theorem vV {B sb mb:Nat} {cv:Value} {j:Int} {u:Key} {wv:Nat->Value} {v:List dH} {wl:Nat->List Nat} {L:List Cl} (c:Cl) (w:World) (hc:∀ l ∈ c,gH l) (U:v.length <= 1600000000000)
  (hS:eG B sb w cv mb j u wv v wl) (hT:jJ B w) (hI:jw v wl u L):
  Calls Tryz.prog 77 #[.pointer (some ⟨sb,0,none⟩),dn (setOf c),dn (dQ c)] w fun e w'=>Ug B sb w cv mb j u v L c e w':=by
 have O:=hide hI;have HC:=hide hc;have G:=hide U;have ab:(setOf c).ok:=jR hc;have ah:(dQ c).ok:=by
  cases c with
  | nil=>exact kG
  | cons l r=>exact fE (kE (hc l (List.mem_cons_self ..)))
 have ac:=hI.iW.ok;have Q1:Hid (∀ V,Calls Tryz.prog 118 #[dn (setOf c)] V fun e w'=>e=.returned (dn (setOf c).op)/\Below V.heap.size V w'):=fun V=>jE _ V
 have Q2:Hid (∀ V,Calls Tryz.prog 75 #[dn u,dn (setOf c).op] V fun e w'=>e=.returned (dn (u.un (setOf c).op))/\Below V.heap.size V w'):=fun V=>gN _ _ V ac (IM ab)
 have ad:(u.un (setOf c).op).ok:=qm ac (IM ab);obtain ⟨A,hA⟩:∃ A,setOf c=A:=⟨_,rfl⟩;obtain ⟨F,hF⟩:∃ F,dQ c=F:=⟨_,rfl⟩;obtain ⟨q,hL⟩:∃ k,u.un (setOf c).op=k:=⟨_,rfl⟩;have HL:=hide hL;have HF:=hide hF;rw [hL] at Q2 ad;rw [hA] at Q1 Q2 ab ⊢;rw [hF] at ah ⊢;generalize A.op=oA at Q1 Q2;have R0:=hide hS;have ai:=hide hT;unfold dn at Q1 Q2 ⊢;clear hS hT hI hc U hL hA hF;go_enter Tryz.func77,Tryz.ntmps77
 go_upto_region 1 with fail
 obtain ⟨W,D⟩:∃ W,W=(w.alloc (.cells #[.int .u64 (A.1:Int),.int .u64 (A.2:Int)] 84)).alloc (.cells #[.int .u64 (F.1:Int),.int .u64 (F.2:Int)] 84):=⟨_,rfl⟩;have BW:Hid (Below w.heap.size w W):=by rw [D];exact qU bR lr _ _
 have RA:Hid (W.rowIs w.heap.size 84 2 (fU A)):=by rw [D];exact (fK w _ _ _).alloc _
 have RF:Hid (W.rowIs (w.heap.size + 1) 84 2 (fU F)):=by rw [D];exact mP w _ _ _ _
 rw [<- D];clear D;have M0:Hid (eX B sb W cv mb j u wv v wl W):=eX.start (R0.out.later BW.out) (ai.out.later (BW.out.mono R0.out.bsize));have S:Hid (Below B w W):=BW.out.mono R0.out.bsize;have R:Hid (di w W):=di.of_below BW.out;have QE:=hide (CG W G.out M0.out.fA);clear R0 ai BW;obtain ⟨em,Z⟩:∃ em,there v (0,0)=em:=⟨_,rfl⟩;rw [Z] at QE;have aj:=hide Z;clear Z;go_wp2_with fail
 with_reducible refine QE.out.mono ?_
 rintro e6 n ⟨rfl,ag⟩;simp only [];have K:=hide (M0.out.later ag);clear ag QE M0
 cases em with
 | true=>
  have RP:Hid (eH L c):=.inl (H5 O.out.rep (fun h=>by have:=(vI O.out.oU).2 h;rw [aj.out] at this;cases this) _);go_wp2;go_ret;exact ⟨true,_,_,_,rfl,S.out.trans K.out.below,R.out.trans K.out.keeps,K.out.fA,rfl,O.out.gG,by simp only [true_iff];exact RP.out⟩
 | false=>
  have NE:Hid (mh v):=(vI O.out.oU).1 aj.out;have Q3:Hid (∀ V,Below n.heap.size n V->Calls Tryz.prog 117 #[.pointer (some ⟨sb,0,none⟩),dn (0,0),dn q] V fun e w'=>∃ (dd:Key) (Q:Bool) (C:Nat->Value) (i:List dH) (t:Nat->List Nat),e=.returned (.tuple #[dn dd,.bool Q])/\Hid (eX B sb W cv mb j u C i t w'/\di V w'/\fo v i (0,0) q dd Q/\eU i t/\dd.ok)):=fun V hV=>by
   have MV:=K.out.later hV;with_reducible refine (pq (0,0) q V kG ad G.out MV.fA MV.tab O.out.gG (GA _)).mono ?_
   rintro e w' ⟨dd,Q,C,i,t,h1,h2,h3,h4,h5,h6,h7⟩;exact ⟨dd,Q,C,i,t,h1,MV.step h4 h3 h2,h3,h5,h6,h7⟩
  unfold dn at Q3;obtain ⟨a0,a1,_,_⟩:=cZ (K.out.row RA.out);have lA:=(jd (K.out.row RA.out)).lt;have u0:=(K.out.fA.head 3 (by omega)).1;have u1:=(K.out.fA.head 4 (by omega)).1;unfold iH at u0 u1;have lS:=K.out.fA.row.lt;have WW:W.heap.size <= n.heap.size:=K.out.below.size;have KS:Hid (∀ V,Below n.heap.size n V->V.cell? ⟨sb,3,none⟩=some (.int .u64 (u.1:Int))/\V.cell? ⟨sb,4,none⟩=some (.int .u64 (u.2:Int))):=fun V h=>
   ⟨(h.cell (p:=⟨sb,3,none⟩) lS).trans u0,(h.cell (p:=⟨sb,4,none⟩) lS).trans u1⟩
  go_upto_region 3 with fail
  go_cut [7,8] from 9 (fun p c wx=>Im B sb W cv mb j u v q p c wx)
  case first=>
   have n1:¬ (w.heap.size=n.heap.size):=by omega
   have n3:¬ (sb=n.heap.size):=by omega
   have n4:¬ (n.heap.size=w.heap.size):=by omega
   have n6:¬ (n.heap.size=sb):=by omega
   have lH:w.heap.size < n.heap.size:=lA;have an:sb < n.heap.size:=lS;go_region_with (first
    |(go_at_call 118;refine (Q1.out _).mono ?_;rintro e7 I ⟨rfl,f⟩;have o:Hid (Below n.heap.size n I):=(by first | exact f | exact bR.drew.trans f | exact (bR.drew.alloc lr _).drew.trans (f.mono (by simp)) | exact (bR.alloc lr _).drew.trans (f.mono (by simp)) | exact (bR.alloc lr _).trans (f.mono (by simp)) | exact (bR.drew.alloc lr _).trans (f.mono (by simp)));obtain ⟨m0,m1⟩:=KS.out I o.out;have s7:n.heap.size <= I.heap.size:=o.out.size;have n7:¬ (sb=I.heap.size):=(by omega);have l7:sb < I.heap.size:=(by omega);(first | (have N7:=(by with_reducible exact pz f)) | (have N7:=(by with_reducible exact oG f)) | skip);clear f;simp only [])
    |(go_at_call 75;refine (Q2.out _).mono ?_;rintro e8 w8 ⟨rfl,g⟩;have H:Hid (Below n.heap.size n w8):=(by first | exact o.out.trans (g.mono s7) | exact o.out.drew.trans (g.mono s7) | exact (o.out.alloc s7 _).trans (g.mono (by simp;omega)) | exact (o.out.alloc s7 _).drew.trans (g.mono (by simp;omega)) | exact (o.out.drew.alloc s7 _).trans (g.mono (by simp;omega)) | exact (o.out.drew.alloc s7 _).drew.trans (g.mono (by simp;omega)));have s8:n.heap.size <= w8.heap.size:=H.out.size;(first | (have N8:=(by with_reducible exact pz g)) | (have N8:=(by with_reducible exact oG g)) | (have N8:=(by with_reducible exact Ca g N7)) | (have N8:=(by with_reducible exact xL g N7)) | skip);clear g;simp only [])
    |(go_at_call 117;refine (Q3.out _ (by first | exact H.out | exact H.out.drew | exact H.out.alloc s8 _ | exact (H.out.alloc s8 _).drew | exact (H.out.drew.alloc s8 _) | exact (H.out.drew.alloc s8 _).drew)).mono ?_;rintro e9 w9 ⟨dd,Q,C,i,t,rfl,m⟩;(first | (have X:=(by with_reducible exact yf m.out.2.1);obtain ⟨z0,z1,z2,z3⟩:=cZ X) | (have X:=(by with_reducible exact uT m.out.2.1);obtain ⟨z0,z1,z2,z3⟩:=cZ X) | (have X:=(by with_reducible exact yc m.out.2.1 N8);obtain ⟨z0,z1,z2,z3⟩:=cZ X) | (have X:=(by with_reducible exact uS m.out.2.1 N8);obtain ⟨z0,z1,z2,z3⟩:=cZ X) | skip);simp only []))
   all_goals
    go_wp2_with fail
    go_meet
    first
     | exact Q7 m.out.1 m.out.2.2.1 m.out.2.2.2.1 m.out.2.2.2.2
     | exact Q0 m.out.1 X.out (by omega) m.out.2.2.1 m.out.2.2.2.1 m.out.2.2.2.2
  case rest=>
   obtain ⟨db,d,Q,C,i,t,rfl,rfl,HX⟩:=hcut;have J:Hid (sigs i=sigs v):=HX.out.2.2.1.same;have MC:=hide HX.out.1;have WI:=hide HX.out.2.2.2.1;have PX:Hid (fo v i (0,0) (u.un (setOf c).op) d Q):=by
    have:=HX.out.2.2.1;rw [<- HL.out] at this;exact this
   have ak:=HX.out.2.2.2.2;have RI:Hid (Q=true↔mq L (zB c 0)):=PE O.out.rep HC.out PX.out WI.out O.out.iW NE.out;clear KS Q1 Q2 Q3 a0 a1 u0 u1 lA lS
   cases Q with
   | true=>
    have RP:Hid (eH L c):=.inl (RI.out.1 rfl);go_wp2;go_ret;exact ⟨true,_,_,_,rfl,S.out.trans MC.out.below,R.out.trans MC.out.keeps,MC.out.fA,J.out,WI.out,by simp only [true_iff];exact RP.out⟩
   | false=>
    have NC:Hid (¬ mq L (zB c 0)):=fun h=>by have:=RI.out.2 h;cases this
    have QI:Hid (∀ V,Calls Tryz.prog 74 #[dn F] V fun e w'=>e=.returned (.bool (jg F))/\Below V.heap.size V w'):=fun V=>nQ F V ah
    obtain ⟨f0,f1,_,_⟩:=cZ (MC.out.row RF.out);have lF:=(jd (MC.out.row RF.out)).lt
    cases c with
    | nil=>
     have F0:(0,0)=F:=HF.out;subst F0;have NR:Hid (¬ eH L []):=Gz NC.out;rw [show jg (0,0)=true by decide] at QI;unfold dn at QI;go_wp2_with fail
     first | go_region_with (go_at_call 74;refine (QI.out _).mono ?_;rintro e7 I ⟨rfl,f⟩;have o:Hid (Below wc.heap.size wc I):=(by first | exact f | exact bR.drew.trans f);clear f;simp only []) | fail
     all_goals
      have M7:=hide (MC.out.later o.out);go_wp2;go_ret;exact ⟨false,_,_,_,rfl,S.out.trans M7.out.below,R.out.trans M7.out.keeps,M7.out.fA,J.out,WI.out,by simp only [Bool.false_eq_true,false_iff];exact NR.out⟩
    | cons l r=>
     have F0:single l=F:=HF.out;have il:dV l:=kE (HC.out l (List.mem_cons_self ..));have l0:=dw il;have ne:F ≠ (0,0):=by rw [<- F0];exact (jq _).2 ⟨l,by rw [df l0];simp⟩
     rw [show jg F=false by unfold jg;exact decide_eq_false ne] at QI;have QO:Hid (∀ V,Calls Tryz.prog 118 #[dn F] V fun e w'=>e=.returned (dn (single (-l)))/\Below V.heap.size V w'):=fun V=>by
      have:=jE F V;rw [show F.op=single (-l) by rw [<- F0];exact Ae l0] at this;exact this
     have UD:Hid (∀ x,u.has x=true->d.has x=true):=fun x hx=>(PX.out.Ad rfl).inc x (by rw [dE,dE,hx];simp)
     have QR:Hid (∀ V,Below wc.heap.size wc V->Calls Tryz.prog 119 #[.pointer (some ⟨sb,0,none⟩),dn d,dn (single (-l))] V fun e w'=>∃ (b:Bool) (Y:Nat->Value) (E:List dH) (P:Nat->List Nat),e=.returned (.bool b)/\Hid (eX B sb W cv mb j u Y E P w'/\sigs E=sigs v/\eU E P/\(b=true↔eH L (l :: r)))):=fun V hV=>by
      have MV:=MC.out.later hV;with_reducible refine (tL d l V ak il (by rw [lN J.out];exact G.out) MV.fA MV.tab WI.out (PX.out.Ad rfl).rest (su J.out O.out.iW) (tT J.out NE.out) UD.out).mono ?_
      rintro e w' ⟨b,Y,E,P,h1,h2,h3,h4,h5,h6,h7⟩;refine ⟨b,Y,E,P,h1,MV.step h4 h3 h2,h5.trans J.out,h6,?_⟩;rw [h7,JR O.out.rep HC.out ⟨r,rfl⟩ PX.out O.out.iW NC.out];have ae:∀ e,nD i d l e↔nD v d l e:=fun e=>
       ⟨fun h a b M x y z=>h a b M x y ((gV J.out).1 z),fun h a b M x y z=>h a b M x y ((gV J.out).2 z)⟩
      constructor
      ·intro h e he;obtain ⟨e',aa,q1,q2⟩:=jW J.out.symm he;have:=(ae e').1 (h e' aa);unfold nD at this ⊢;rw [q1,q2] at this;exact this
      ·intro h e he;obtain ⟨e',aa,q1,q2⟩:=jW J.out he;have:=(ae e').2 (h e' aa);unfold nD at this ⊢;rw [q1,q2] at this;exact this
     have DR:=hide HX.out.2.1;obtain ⟨d0,d1,_,_⟩:=cZ DR;have lD:=DR.out.lt;unfold dn at QI QO QR;obtain ⟨ml,af⟩:∃ s,single (-l)=s:=⟨_,rfl⟩;rw [af] at QO QR;have KS:Hid (∀ V,Below wc.heap.size wc V->(V.cell? ⟨db,0,none⟩=some (.int .u64 (d.1:Int))/\V.cell? ⟨db,1,none⟩=some (.int .u64 (d.2:Int)))/\V.cell? ⟨w.heap.size + 1,0,none⟩=some (.int .u64 (F.1:Int))/\V.cell? ⟨w.heap.size + 1,1,none⟩=some (.int .u64 (F.2:Int))):=fun V h=>
      ⟨⟨(h.cell (p:=⟨db,0,none⟩) lD).trans d0,(h.cell (p:=⟨db,1,none⟩) lD).trans d1⟩,(h.cell (p:=⟨w.heap.size + 1,0,none⟩) lF).trans f0,(h.cell (p:=⟨w.heap.size + 1,1,none⟩) lF).trans f1⟩
     clear af F0 ne;go_wp2_with fail
     go_region_with (first
      |(go_at_call 74;refine (QI.out _).mono ?_;rintro e7 I ⟨rfl,f⟩;have o:Hid (Below wc.heap.size wc I):=(by first | exact f | exact bR.drew.trans f);obtain ⟨⟨m0,m1⟩,m2,m3⟩:=KS.out I o.out;clear f;simp only [])
      |(go_at_call 118;refine (QO.out _).mono ?_;rintro e8 w8 ⟨rfl,g⟩;have H:Hid (Below wc.heap.size wc w8):=(by first | exact o.out.trans (g.mono o.out.size) | exact o.out.drew.trans (g.mono o.out.size));obtain ⟨⟨q0,q1⟩,q2,q3⟩:=KS.out w8 H.out;clear g;simp only [])
      |(go_at_call 119;refine (QR.out _ (by first | exact H.out | exact H.out.drew)).mono ?_;rintro e9 w9 ⟨b,al,ao,am,rfl,m⟩;simp only []))
     all_goals
      go_wp2;go_ret
      exact ⟨b,_,_,_,rfl,S.out.trans m.out.1.below,R.out.trans m.out.1.keeps,m.out.1.fA,m.out.2.1,m.out.2.2.1,m.out.2.2.2⟩
end
def zm (s proof:ByteArray) (e:Ending):Prop:=∃ n f,e=.returned (.tuple #[.int .i64 n,.int .i64 f])/\Checked s.data.toList proof.data.toList (n,f)
theorem BP:∀ {L:List Cl} {c:Cl} {L':List Cl},rem L c=some L'->(∀ d ∈ L',d ∈ L)/\L'.length <= L.length
 | [],c,L',h=>by simp [rem] at h
 | d :: r,c,L',h=>by
  unfold rem at h;split at h
  ·cases h;exact ⟨fun x a=>List.mem_cons_of_mem _ a,by simp⟩
  ·obtain ⟨M,b,rfl⟩:=Option.map_eq_some_iff.1 h;obtain ⟨e,f⟩:=BP b;refine ⟨fun x a=>?_,by simp;omega⟩
   rcases List.mem_cons.1 a with rfl | a
   ·exact List.mem_cons_self ..
   ·exact List.mem_cons_of_mem _ (e x a)
section
attribute [local go_sem ↓] Go.wp_at_zero Go.wp_at_succ
def Has (B sb:Nat) (L:List Cl) (N:Nat) (w:World):Prop:=
 ∃ (cv:Value) (mb:Nat) (gone:Int) (u:Key) (wv:Nat->Value) (es:List dH) (wl:Nat->List Nat),eG B sb w cv mb gone u wv es wl/\jw es wl u L/\es.length <= N/\-(N:Int) <= gone/\gone <= (N:Int)/\L.length <= N
variable {B sb N:Nat} {L:List Cl} {c:Cl} {w w':World}
theorem Has.later (h:Has B sb L N w) (f:Below w.heap.size w w'):Has B sb L N w':=by
 obtain ⟨j,e,a,u,b,i,d,g,r⟩:=h;exact ⟨j,e,a,u,b,i,d,g.later f,r⟩
theorem Has.bsize (h:Has B sb L N w):B <= w.heap.size:=by
 obtain ⟨i,f,a,u,d,g,e,b,r⟩:=h;exact b.bsize
theorem Ot (a:List dH) (s:Key):(uy a s).length <= a.length + 1:=by
 unfold uy;split <;> simp
theorem Jp (h:Has B sb L N w) (s:jJ B w) (g:∀ l ∈ c,gH l) (z:N <= 1500000000000):
  Calls Tryz.prog 68 #[.pointer (some ⟨sb,0,none⟩),dn (setOf c)] w fun e w'=>e=.returned (.tuple #[])/\Below B w w'/\di w w'/\Has B sb (L ++ [c]) (N + 1) w':=by
 obtain ⟨I,p,i,u,x,H,y,t,a,G,E,D,C⟩:=h;refine (uu (setOf c) w (jR g) a.iW.ok (by omega) (fun k q=>Nat.le_trans (a.gG.len q) (by omega)) ⟨by omega,by omega⟩ (fun e r=>by rw [a.cnt e r];exact Nat.le_trans List.countP_le_length (by omega)) t s).mono ?_;rintro e w' ⟨o,n,m,d,b,v,f,j⟩;refine ⟨o,n,m,d,p,v,_,b,_,_,j,a.add g,Nat.le_trans (Ot _ _) (by omega),?_,?_,by simp;omega⟩
 ·rcases f with e | e <;> rw [e] <;> omega
 ·rcases f with e | e <;> rw [e] <;> omega
theorem PL (h:Has B sb L N w) (z:jJ B w) (y:∀ l ∈ c,gH l) (J:N <= 1500000000000):
  Calls Tryz.prog 76 #[.pointer (some ⟨sb,0,none⟩),dn (setOf c)] w fun e w'=>Below B w w'/\di w w'/\((rem L c=none/\e=.returned (.bool false)/\Has B sb L N w')\/∃ j,rem L c=some j/\e=.returned (.bool true)/\Has B sb j (N + 1) w'):=by
 obtain ⟨Q,I,q,u,G,P,H,E,D,O,M,K,C⟩:=h;refine (xH c w y (by omega) ⟨by omega,by omega⟩ E z D (by omega)).mono ?_;rintro e w' ⟨x,v,t⟩;refine ⟨x,v,?_⟩
 rcases t with ⟨i,o,g,d,p,k,a,f,b,n,m,s,_,r⟩ | ⟨j,i,o,g,d,p,k,a,f,b,n,m,s,_,r⟩
 ·exact .inl ⟨i,o,g,d,p,k,a,f,b,n,m,by omega,by omega,by omega,C⟩
 ·exact .inr ⟨j,i,o,g,d,p,k,a,f,b,n,m,by omega,by omega,by omega,by have:=(BP i).2;omega⟩
theorem JQ (h:Has B sb L N w) (t:jJ B w) (s:∀ l ∈ c,gH l) (H:N <= 1500000000000):
  Calls Tryz.prog 77 #[.pointer (some ⟨sb,0,none⟩),dn (setOf c),dn (dQ c)] w fun e w'=>∃ b,e=.returned (.bool b)/\Below B w w'/\di w w'/\Has B sb L N w'/\(b=true↔eH L c):=by
 obtain ⟨D,r,a,u,E,I,G,C,j,z,y,x,v⟩:=h;refine (vV c w s (by omega) C t j).mono ?_;rintro e w' ⟨b,d,g,f,q,p,o,n,i,m,k⟩;exact ⟨b,q,p,o,⟨D,r,a,u,d,g,f,n,j.same i m,by rw [lN i];exact z,y,x,v⟩,k⟩
def Rw (B sb:Nat) (L:List Cl) (N:Nat) (g:Bool) (c:Cl) (w:World) (e:Ending) (w':World):Prop:=Below B w w'/\di w w'/\
 ((g=true/\rem L c=none/\e=.returned (.bool false))\/(∃ L',g=true/\rem L c=some L'/\e=.returned (.bool true)/\Has B sb L' (N + 1) w') \/
  (g=false/\¬ eH L c/\e=.returned (.bool false))\/(g=false/\eH L c/\e=.returned (.bool true)/\Has B sb (L ++ [c]) (N + 1) w'))
theorem LQ (g:Bool) (h:Has B sb L N w) (K:jJ B w) (J:∀ l ∈ c,gH l) (u:N <= 1500000000000):
  Calls Tryz.prog 42 #[.pointer (some ⟨sb,0,none⟩),iX g (setOf c) (dQ c)] w fun e w'=>Rw B sb L N g c w e w':=by
 have Q:=hide h;have P:=hide K;have y:=hide J;have p:=h.bsize;have v:Hid (∀ V,Below w.heap.size w V->Calls Tryz.prog 76 #[.pointer (some ⟨sb,0,none⟩),dn (setOf c)] V fun e w'=>Below B w w'/\di w w'/\((rem L c=none/\e=.returned (.bool false))\/∃ t,rem L c=some t/\e=.returned (.bool true)/\Has B sb t (N + 1) w')):=fun V n=>by
  refine (PL (Q.out.later n) (P.out.later (n.mono p)) y.out u).mono ?_;rintro e w' ⟨i,d,m⟩;refine ⟨(n.mono p).trans i,(di.of_below n).trans d,?_⟩
  rcases m with ⟨o,r2,_⟩ | r
  ·exact .inl ⟨o,r2⟩
  ·exact .inr r
 have q:Hid (∀ V,Below w.heap.size w V->Calls Tryz.prog 77 #[.pointer (some ⟨sb,0,none⟩),dn (setOf c),dn (dQ c)] V fun e w'=>∃ b,e=.returned (.bool b)/\Hid (Below B w w'/\di V w'/\Has B sb L N w'/\jJ B w'/\(b=true↔eH L c))):=fun V n=>by
  have T:=P.out.later (n.mono p);refine (JQ (Q.out.later n) T y.out u).mono ?_;rintro e w' ⟨b,i,d,m,q4,q5⟩;exact ⟨b,i,(n.mono p).trans d,m,q4,T.later d,q5⟩
 have x:Hid (∀ V,Has B sb L N V->jJ B V->Calls Tryz.prog 68 #[.pointer (some ⟨sb,0,none⟩),dn (setOf c)] V fun e w'=>e=.returned (.tuple #[])/\Below B V w'/\di V w'/\Has B sb (L ++ [c]) (N + 1) w'):=fun V h1 h2=>Jp h1 h2 y.out u
 obtain ⟨s,H⟩:∃ s,setOf c=s:=⟨_,rfl⟩;obtain ⟨f,I⟩:∃ f,dQ c=f:=⟨_,rfl⟩;rw [H] at v q x ⊢;rw [I] at q ⊢;unfold dn at v q x;unfold iX;clear h K J H I;go_enter Tryz.func42,Tryz.ntmps42
 go_upto_region 1 with fail
 obtain ⟨W,a⟩:∃ W,W=w.alloc (.cells #[.bool g,.int .u64 (s.1:Int),.int .u64 (s.2:Int),.int .u64 (f.1:Int),.int .u64 (f.2:Int)] 86):=⟨_,rfl⟩;have z:Hid (Below w.heap.size w W):=by rw [a];exact bR.alloc lr _
 have S:Hid (jK W w.heap.size):=by rw [a];exact lQ _ _ _ (by decide)
 have Z:W.cell? ⟨w.heap.size,0,none⟩=some (.bool g):=by rw [a];simp
 have D:W.cell? ⟨w.heap.size,1,none⟩=some (.int .u64 (s.1:Int)):=by rw [a];simp
 have C:W.cell? ⟨w.heap.size,2,none⟩=some (.int .u64 (s.2:Int)):=by rw [a];simp
 have Y:W.cell? ⟨w.heap.size,3,none⟩=some (.int .u64 (f.1:Int)):=by rw [a];simp
 have X:W.cell? ⟨w.heap.size,4,none⟩=some (.int .u64 (f.2:Int)):=by rw [a];simp
 rw [<- a];clear a
 cases g with
 | true=>
  go_wp2_with fail
  with_reducible refine (v.out _ z.out).mono ?_
  rintro e6 E ⟨i,d,m⟩;have U:=hide i;have O:=hide d;clear i d
  rcases m with ⟨o,rfl⟩ | ⟨t,o,rfl,G⟩
  ·have R:=hide o;clear o;simp only [];go_wp2;go_ret;exact ⟨U.out,O.out,.inl ⟨rfl,R.out,rfl⟩⟩
  ·have R:=hide o;have R3:=hide G;clear o G;simp only [];go_wp2;go_ret;exact ⟨U.out,O.out,.inr (.inl ⟨t,rfl,R.out,rfl,R3.out⟩)⟩
 | false=>
  go_wp2_with fail
  with_reducible refine (q.out _ z.out).mono ?_
  rintro e6 E ⟨b,rfl,k⟩;simp only [];have z1:=(k.out.2.1.cell (j:=1) S.out).trans D;have z2:=(k.out.2.1.cell (j:=2) S.out).trans C;have M:Hid (di w E):=(di.of_below z.out).trans k.out.2.1;clear Z D C Y X
  cases b with
  | false=>
   have R:Hid (¬ eH L c):=fun h=>by have:=k.out.2.2.2.2.2 h;cases this
   go_wp2;go_ret
   exact ⟨k.out.1,M.out,.inr (.inr (.inl ⟨rfl,R.out,rfl⟩))⟩
  | true=>
   have R:Hid (eH L c):=k.out.2.2.2.2.1 rfl;go_wp2_with fail
   with_reducible refine (x.out _ k.out.2.2.1 k.out.2.2.2.1).mono ?_
   rintro e7 w7 ⟨rfl,i,d,m⟩;simp only [];have BE:=hide (k.out.1.trans i);have KE:=hide (M.out.trans d);have HE:=hide m;clear i d m;go_wp2;go_ret;exact ⟨BE.out,KE.out,.inr (.inr (.inr ⟨rfl,R.out,rfl,HE.out⟩))⟩
theorem EU (g:Bool) (s f:Key) (k:s.ok) (w:World):
  Calls Tryz.prog 43 #[iX g s f] w fun e w'=>e=.returned (.bool (!g && jg s))/\Below w.heap.size w w':=by
 have d:=hide (fun V=>nQ s V k);unfold dn at d;unfold iX;obtain ⟨i,a⟩:∃ i,jg s=i:=⟨_,rfl⟩;rw [a] at d ⊢;clear a;go_enter Tryz.func43,Tryz.ntmps43
 cases g with
 | true=>
  have h:Hid (Below w.heap.size w (w.alloc (.cells #[.bool true,.int .u64 (s.1:Int),.int .u64 (s.2:Int),.int .u64 (f.1:Int),.int .u64 (f.2:Int)] 86))):=bR.alloc lr _;go_wp2;go_ret;exact ⟨rfl,h.out⟩
 | false=>
  have h:Hid (Below w.heap.size w (w.alloc (.cells #[.bool false,.int .u64 (s.1:Int),.int .u64 (s.2:Int),.int .u64 (f.1:Int),.int .u64 (f.2:Int)] 86))):=bR.alloc lr _;go_wp2_with fail
  with_reducible refine (d.out _).mono ?_
  rintro m j ⟨rfl,b⟩;simp only [];have l:Hid (Below w.heap.size w j):=h.out.trans (b.mono (by simp));clear b;go_wp2;go_ret;exact ⟨by simp,l.out⟩
end
section
attribute [local go_sem ↓] Go.wp_at_zero Go.wp_at_succ
theorem vQ (a:Nat):Tryz.zeroCells134.setIfInBounds 1 (.map (some a))=(newRow a (0,0)).toArray:=by
 apply Array.toList_inj.1
 rw [Array.toList_setIfInBounds,Tryz.Br];rfl
def Ud (H:Nat) (w:World) (cl:List Cl) (i11:Value) (wr:World):Prop:=
 ∃ i:Nat,i11=.int .i64 i/\i <= cl.length/\Hid (Below H w wr/\Has H (H + 1) (cl.take i) i wr/\jJ H wr)
theorem Ch (d:List Cl) (v:Value) (w:World) (hv:rO w v d) (r:∀ c ∈ d,∀ l ∈ c,gH l) (O:d.length <= 20001) (m:∀ c ∈ d,c.length <= 20001) (hT:jJ w.heap.size w):
  Calls Tryz.prog 39 #[v] w fun e w'=>e=.returned (.pointer (some ⟨w.heap.size + 1,0,none⟩))/\Below w.heap.size w w'/\Has w.heap.size (w.heap.size + 1) d d.length w'/\jJ w.heap.size w':=by
 obtain ⟨a,cp,b,rfl,ha,n⟩:=hv;have H:=hide n;have HL:=hide r;have G:=hide m;have s:=@run_makeMap Tryz.prog;clear n r m;go_enter Tryz.func39,Tryz.ntmps39
 go_upto_region 2 with fail
 obtain ⟨Y,q⟩:∃ Y,Y=(w.alloc (.map #[] 0)).alloc (.cells (Tryz.zeroCells134.setIfInBounds 1 (.map (some w.heap.size))) 134):=⟨_,rfl⟩;have I:Hid (Below w.heap.size w Y):=by unfold Hid;rw [q];exact (bR.alloc lr _).alloc (by simp) _
 have U:Hid (eG w.heap.size (w.heap.size + 1) Y (.slice none 0 0) w.heap.size 0 (0,0) (fun _=>.slice none 0 0) [] (fun _=>[])):=by
  unfold Hid;refine eG.fresh ?_ ?_ (by omega) lr
  ·rw [q,vQ];have:=heap_alloc_new (w.alloc (.map #[] 0)) (.cells (newRow w.heap.size (0,0)).toArray 134);simpa using this
  ·rw [q];refine (sI w).kept ?_;rw [Below.heap_alloc _ _ _ (by simp)]
 rw [<- q];clear q s;have S:Hid (Below w.heap.size w Y/\Has w.heap.size (w.heap.size + 1) (d.take 0) 0 Y/\jJ w.heap.size Y):=
  ⟨I.out,⟨_,_,_,_,_,_,_,U.out,by rw [List.take_zero];exact jw.empty,lr,by omega,by omega,by simp⟩,hT.later I.out⟩
 clear U I;go_wp2;go_loopw [11] (fun i wr=>Ud w.heap.size w d i wr) (fun i _=>d.length - (intOf i).toNat)
 case atStart=>exact ⟨0,rfl,zl,S⟩
 case round=>
  clear S;obtain ⟨i,rfl,ad,T⟩:=hrel;by_cases h:i < d.length
  ·have t:=ha (by omega);subst t;obtain ⟨u,g,f⟩:=H.out i h;have y:b < w.heap.size:=block_lt_of_cell g;have ac:=(T.out.1.cell (p:=⟨b,i,none⟩) y).trans g;have J:d.getD i []=d[i]:=by rw [List.getD_eq_getElem?_getD,List.getElem?_eq_getElem h];rfl
   rw [J] at f;have W:Hid (Jt wr u d[i]):=by
    obtain ⟨Z,X,K,e1,e2,e3⟩:=f;refine ⟨Z,X,K,e1,e2,fun j hj=>?_⟩;have:=e3 j hj;rw [T.out.1.cell (p:=⟨K,j,none⟩) (block_lt_of_cell this)];exact this
   have k:Hid (∀ l ∈ d[i],gH l):=HL.out _ (List.getElem_mem _);have D:=hide (Ah d[i] u wr W.out (fun l r=>kE (k.out l r)) (Nat.le_trans (G.out _ (List.getElem_mem _)) (by omega)));have R:Hid (d.take (i + 1)=d.take i ++ [d[i]]):=by
    unfold Hid;rw [List.take_add_one,List.getElem?_eq_getElem h];rfl
   have E:Hid (∀ V,Below wr.heap.size wr V->Calls Tryz.prog 68 #[.pointer (some ⟨w.heap.size + 1,0,none⟩),dn (setOf d[i])] V fun e w'=>e=.returned (.tuple #[])/\Hid (Below w.heap.size w w'/\Has w.heap.size (w.heap.size + 1) (d.take (i + 1)) (i + 1) w'/\jJ w.heap.size w')):=fun V x=>by
    have P:=T.out.2.1.bsize;have Q:=T.out.2.2.later (x.mono P);refine (Jp (T.out.2.1.later x) Q k.out (by omega)).mono ?_;rintro e w' ⟨q1,M,q3,q4⟩;exact ⟨q1,(T.out.1.trans (x.mono P)).trans M,by rw [R.out];exact q4,Q.later M⟩
   unfold dn at D E;generalize setOf d[i]=sk at D E;have ab:(0:Int) <= (i:Int):=by omega
   have aa:(i:Int) < (d.length:Int):=by omega
   clear g f W k R J;go_wp2_with fail
   with_reducible refine D.out.mono ?_
   rintro e6 w6 ⟨rfl,o⟩;simp only [];have B6:=hide o;clear o;go_wp2_with fail
   with_reducible refine (E.out _ B6.out).mono ?_
   rintro e7 w7 ⟨rfl,H7⟩;simp only [];go_wp2;go_roundw
   case rel=>exact ⟨i + 1,iE (by omega),by omega,H7⟩
   case measure=>simp [intOf];omega
  ·have ei:i=d.length:=by omega
   subst ei;have z:=T.out;rw [List.take_length] at z;have C:=hide z;clear z;go_wp2;go_ret;exact ⟨rfl,C.out.1,C.out.2.1,C.out.2.2⟩
end
end
end Rd
end Go.Proofs.YtceahffmenbibaaGreatDoor
