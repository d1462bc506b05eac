/- Pstep Pisr Visr Ptid. -/
import Derived.Test.YtceahffmenbibaaGreatDoorG12
import Derived.Test.YtceahffmenbibaaGreatDoorG17
import Derived.Deep.CutRange
import Derived.Laws.Tables
set_option linter.unusedVariables false
set_option linter.unusedSimpArgs false
set_option maxHeartbeats 4000000
set_option maxRecDepth 100000
namespace Go.Proofs.YtceahffmenbibaaGreatDoor
namespace Rd
section
open Go Go.RowKit Go.Deep
section
attribute [local go_sem ↓] Go.wp_at_zero Go.wp_at_succ
def qM (g:Bool) (s f:Key):Nat->Value
 | 0=>.bool g
 | 1=>.int .u64 (s.1:Int)
 | 2=>.int .u64 (s.2:Int)
 | 3=>.int .u64 (f.1:Int)
 | _=>.int .u64 (f.2:Int)
def mG (g:Bool) (s f:Key):Value:=.agg #[.bool g,.int .u64 (s.1:Int),.int .u64 (s.2:Int),.int .u64 (f.1:Int),.int .u64 (f.2:Int)]
def fe:Cl->Key
 | []=>(0,0)
 | l :: _=>single l
structure nU (H:Nat) (w:World) (g:Bool) (s f:Key) (wr:World):Prop where
 res:wr.rowIs H 86 5 (qM false (0,0) (0,0))
 cur:wr.rowIs (H + 1) 86 5 (qM g s f)
 below:Below H w wr
 hs:H + 2 <= wr.heap.size
theorem nU.later {H:Nat} {w wr a:World} {g:Bool} {s f:Key} (h:nU H w g s f wr) (b:Below wr.heap.size wr a):nU H w g s f a:=
 ⟨h.res.of_block (b.block _ (by have:=h.hs;omega)),h.cur.of_block (b.block _ (by have:=h.hs;omega)),h.below.trans (b.mono (by have:=h.hs;omega)),by have:=h.hs;have:=b.size;omega⟩
theorem nU.Yz {H:Nat} {w wr:World} {g:Bool} {s f:Key} (h:nU H w g s f wr) (t:Key):nU H w g s t ((wr.setCell ⟨H + 1,3,none⟩ (.int .u64 (t.1:Int))).setCell ⟨H + 1,4,none⟩ (.int .u64 (t.2:Int))) where
 res:=(h.res.setOther (by simp) _).setOther (by simp) _
 cur:=((h.cur.set 3 _).set 4 _).congr fun i a=>by
  match i,a with
  | 0,_=>rfl
  | 1,_=>rfl
  | 2,_=>rfl
  | 3,_=>rfl
  | 4,_=>rfl
 below:=(h.below.setCell (by simp) _).setCell (by simp) _
 hs:=by have:=h.hs;simp [World.setCell];omega
theorem nU.Xw {H:Nat} {w wr:World} {g:Bool} {s f:Key} (h:nU H w g s f wr) (t:Key):nU H w g t f ((wr.setCell ⟨H + 1,1,none⟩ (.int .u64 (t.1:Int))).setCell ⟨H + 1,2,none⟩ (.int .u64 (t.2:Int))) where
 res:=(h.res.setOther (by simp) _).setOther (by simp) _
 cur:=((h.cur.set 1 _).set 2 _).congr fun i a=>by
  match i,a with
  | 0,_=>rfl
  | 1,_=>rfl
  | 2,_=>rfl
  | 3,_=>rfl
  | 4,_=>rfl
 below:=(h.below.setCell (by simp) _).setCell (by simp) _
 hs:=by have:=h.hs;simp [World.setCell];omega
def UW (H V:Nat) (w:World) (g:Bool) (L0:Option Cl) (t:Value) (wr:World):Prop:=
 ∃ (x:ByteArray) (f:Nat) (acc:Cl),t=.string x/\x.size < f/\x.size <= 4294967280/\Hid (L0=(qD (Lib.decDigits V) f x.data.toList).map (fun c=>acc ++ c))/\Hid (∀ l ∈ acc,jH l)/\Hid (nU H w g (setOf acc) (fe acc) wr)
def jT (V:Nat) (s:ByteArray) (e:Ending):Prop:=
 (oF (Lib.decDigits V) s.data.toList=none/\e=.returned (.tuple #[mG false (0,0) (0,0),.bool false])) \/
 ∃ g c,oF (Lib.decDigits V) s.data.toList=some (g,c)/\e=.returned (.tuple #[mG g (setOf c) (fe c),.bool true])
theorem Ws (s:ByteArray) (m:Int) (w:World) (d:s.size <= 4294967280) (c:w.cell? ⟨0,0,none⟩=some (.int .i64 m)):
  Calls Tryz.prog 40 #[.string s,.string ⟨#[32]⟩] w fun e a=>∃ x y:ByteArray,e=.returned (.tuple #[.string x,.string y,.bool (hasB 32 s.data.toList)])/\
   Hid (hasB 32 s.data.toList=true->x.data.toList=upto 32 s.data.toList/\y.data.toList=s.data.toList.drop ((upto 32 s.data.toList).length + 1))/\∃ n,a=w.drewN n:=by
 refine (Tryz.strings_Cut s _ m _ (by omega) c).mono ?_
 rintro e a ⟨rfl,b⟩;rw [show Lib.cut s.data.toList (⟨#[32]⟩:ByteArray).data.toList=_ from DV 32 _]
 cases hasB 32 s.data.toList
 ·exact ⟨_,_,rfl,(fun h=>by cases h),b⟩
 ·exact ⟨_,_,rfl,fun _=>⟨rfl,rfl⟩,b⟩
theorem Ap (s v:ByteArray) (V:Nat) (m:Int) (w:World) (hs:s.size <= 4294967280) (hV:V <= 50) (hv:v.data.toList=Lib.decDigits V) (hm:w.cell? ⟨0,0,none⟩=some (.int .i64 m)):
  Calls Tryz.prog 41 #[.string s,.string v] w fun e w'=>Below w.heap.size w w'/\jT V s e:=by
 have vz:v.size <= 2:=by have:=congrArg List.length hv;have:=Q8 V (by omega);simp at *;omega
 have HV:=hide hv;have HM:=hide hm;clear hv hm;go_enter Tryz.func41,Tryz.ntmps41
 go_wp2_with fail
 refine (Tryz.strings_CutPrefix s _ _).mono ?_;rintro e1 w1 ⟨rfl,rfl⟩;obtain ⟨x0,X⟩:∃ x:ByteArray,x=⟨(Lib.trimPrefix s.data.toList (⟨#[100,32]⟩:ByteArray).data.toList).toArray⟩:=⟨_,rfl⟩;obtain ⟨g,hg⟩:∃ g,g=Lib.hasPrefix s.data.toList (⟨#[100,32]⟩:ByteArray).data.toList:=⟨_,rfl⟩;rw [<- X,<- hg];have U:x0.data.toList=Lib.trimPrefix s.data.toList [100,32]:=by rw [X]
 have LB:Hid (oF (Lib.decDigits V) s.data.toList=(qD (Lib.decDigits V) (s.size + 1) x0.data.toList).map fun c=>(g,c)):=by
  unfold Hid;rw [<- PY,U,hg];unfold PZ Lib.trimPrefix;show (if Lib.hasPrefix s.data.toList [100,32]=true then _ else _)=Option.map (fun c=>(Lib.hasPrefix s.data.toList [100,32],c)) _
  have B:s.data.toList.length=s.size:=by simp
  rw [B]
  cases h:Lib.hasPrefix s.data.toList [100,32] with
  | true=>rfl
  | false=>rfl
 have ao:x0.size <= s.size:=by
  rw [oU U];have:=Es s.data.toList [100,32];simpa using this
 clear X U hg;obtain ⟨L0,Y⟩:∃ L,L=qD (Lib.decDigits V) (s.size + 1) x0.data.toList:=⟨_,rfl⟩;rw [<- Y] at LB;simp only [];go_wp2_with fail
 obtain ⟨W,hW⟩:∃ W,W=(w.alloc (.cells #[.bool false,.int .u64 0,.int .u64 0,.int .u64 0,.int .u64 0] 86)).alloc (.cells #[.bool g,.int .u64 0,.int .u64 0,.int .u64 0,.int .u64 0] 86):=⟨_,rfl⟩;rw [<- hW];have S0:Hid (nU w.heap.size w g (0,0) (0,0) W):=by
  unfold Hid;rw [hW]
  have Q:(w.alloc (.cells #[.bool false,.int .u64 0,.int .u64 0,.int .u64 0,.int .u64 0] 86)).rowIs w.heap.size 86 5 (qM false (0,0) (0,0)):=⟨_,blk_alloc_new _ _,rfl,fun i hi=>by match i,hi with | 0,_=>rfl | 1,_=>rfl | 2,_=>rfl | 3,_=>rfl | 4,_=>rfl⟩
  have P:((w.alloc (.cells #[.bool false,.int .u64 0,.int .u64 0,.int .u64 0,.int .u64 0] 86)).alloc (.cells #[.bool g,.int .u64 0,.int .u64 0,.int .u64 0,.int .u64 0] 86)).rowIs (w.heap.size + 1) 86 5 (qM g (0,0) (0,0)):=by
   have:((w.alloc (.cells #[.bool false,.int .u64 0,.int .u64 0,.int .u64 0,.int .u64 0] 86)).alloc (.cells #[.bool g,.int .u64 0,.int .u64 0,.int .u64 0,.int .u64 0] 86)).rowIs (w.alloc (.cells #[.bool false,.int .u64 0,.int .u64 0,.int .u64 0,.int .u64 0] 86)).heap.size 86 5 (qM g (0,0) (0,0)):=⟨_,blk_alloc_new _ _,rfl,fun i hi=>by match i,hi with | 0,_=>rfl | 1,_=>rfl | 2,_=>rfl | 3,_=>rfl | 4,_=>rfl⟩
   simpa using this
  exact ⟨Q.alloc _,P,uj bR lr _ _,by simp⟩
 clear hW;go_loopw [7] (fun t wr=>UW w.heap.size V w g L0 t wr) (fun t _=>kg t)
 case atStart=>exact ⟨x0,s.size + 1,[],rfl,by omega,by omega,by unfold Hid;rw [Y];simp,by intro l B;simp at B,S0⟩
 case round=>
  clear S0 Y;obtain ⟨x,f,b,rfl,hf,hx,hL,J,d⟩:=hrel;obtain ⟨Z,rfl⟩:∃ Z,f=Z + 1:=⟨f - 1,by omega⟩
  have c0:=d.out.cur.cell (i:=0) (by omega)
  have c1:=d.out.cur.cell (i:=1) (by omega)
  have c2:=d.out.cur.cell (i:=2) (by omega)
  have c3:=d.out.cur.cell (i:=3) (by omega)
  have c4:=d.out.cur.cell (i:=4) (by omega)
  have r0:=d.out.res.cell (i:=0) (by omega)
  have Q:=d.out.res.cell (i:=1) (by omega)
  have P:=d.out.res.cell (i:=2) (by omega)
  have r3:=d.out.res.cell (i:=3) (by omega)
  have r4:=d.out.res.cell (i:=4) (by omega)
  have g0:=d.out.res.frozen 0;have g1:=d.out.res.frozen 1;have g2:=d.out.res.frozen 2;have g3:=d.out.res.frozen 3;have g4:=d.out.res.frozen 4;simp only [qM] at c0 c1 c2 c3 c4 r0 Q P r3 r4
  cases hz:(!x.toList == [48]) with
  | false=>
   have E:Hid (oF (Lib.decDigits V) s.data.toList=some (g,b)):=by
    unfold Hid;rw [LB.out,hL.out];unfold qD;simp only [Bool.not_eq_false',ByteArray.toList_eq] at hz;rw [hz];simp
   have BE:Hid (Below w.heap.size w (((((wr.setCell ⟨w.heap.size,0,none⟩ (.bool g)).setCell ⟨w.heap.size,1,none⟩ (.int .u64 ((setOf b).1:Int))).setCell ⟨w.heap.size,2,none⟩ (.int .u64 ((setOf b).2:Int))).setCell ⟨w.heap.size,3,none⟩ (.int .u64 ((fe b).1:Int))).setCell ⟨w.heap.size,4,none⟩ (.int .u64 ((fe b).2:Int)))):=(((((d.out.below.setCell (by simp) _).setCell (by simp) _).setCell (by simp) _).setCell (by simp) _).setCell (by simp) _)
   go_wp2;refine bodyPost_ret (v:=.tuple #[mG g (setOf b) (fe b),.bool true]) (by simp [results,Tryz.results41,go_sem,r0,Q,P,r3,r4,mG]) rfl ⟨BE.out,.inr ⟨_,_,E.out,rfl⟩⟩
  | true=>
   have af:wr.cell? ⟨0,0,none⟩=some (.int .i64 m):=by rw [d.out.below.cell (p:=⟨0,0,none⟩) (block_lt_of_cell HM.out)];exact HM.out
   have q1:=Ws x m wr hx af;have LF:Hid (L0=(if hasB 32 x.data.toList && jE (Lib.decDigits V) (upto 32 x.data.toList) then (qD (Lib.decDigits V) Z (x.data.toList.drop ((upto 32 x.data.toList).length + 1))).map (fF (upto 32 x.data.toList) :: ·) else none).map (fun c=>b ++ c)):=by
    unfold Hid;rw [hL.out];conv=>lhs;unfold qD
    simp only [Bool.not_eq_true',ByteArray.toList_eq] at hz;rw [hz];rfl
   have BN:Hid (Below w.heap.size w wr):=d.out.below;go_wp2_with fail
   with_reducible refine q1.mono ?_
   rintro e2 w2 ⟨y,z,rfl,ad,n,rfl⟩;clear q1 af;simp only []
   cases hb:hasB 32 x.data.toList with
   | false=>
    have E:Hid (oF (Lib.decDigits V) s.data.toList=none):=by unfold Hid;rw [LB.out,LF.out,hb];rfl
    go_wp2;refine bodyPost_ret (v:=.tuple #[mG false (0,0) (0,0),.bool false]) (by simp [results,Tryz.results41,go_sem,r0,Q,P,r3,r4,mG]) rfl ⟨?_,.inl ⟨E.out,rfl⟩⟩
    exact ((((((dY BN.out n).setCell (by simp) _).setCell (by simp) _).setCell (by simp) _).setCell (by simp) _).setCell (by simp) _)
   | true=>
    obtain ⟨hy,S⟩:=ad.out hb;have yz:y.size <= 4294967280:=by
     rw [oU hy];have:(upto 32 x.data.toList).length <= x.data.toList.length:=(List.takeWhile_prefix _).length_le;simp at this;omega
    have zz:z.size < x.size:=by rw [oU S];have:=Gl hb;simp at this;simpa using this
    rw [hb,<- S,<- hy] at LF;have HY:=hide hy;clear hy S ad hb hz;have q2:=hide (fun K=>oV y v K (by unfold maxLen;omega) (by unfold maxLen;omega))
    go_wp2_with fail
    refine (q2.out _).mono ?_;rintro e3 w3 ⟨rfl,rfl⟩;rw [HV.out];simp only []
    cases B:jE (Lib.decDigits V) y.data.toList with
    | false=>
     have E:Hid (oF (Lib.decDigits V) s.data.toList=none):=by unfold Hid;rw [LB.out,LF.out,B];rfl
     go_wp2;refine bodyPost_ret (v:=.tuple #[mG false (0,0) (0,0),.bool false]) (by simp [results,Tryz.results41,go_sem,r0,Q,P,r3,r4,mG]) rfl ⟨?_,.inl ⟨E.out,rfl⟩⟩
     exact ((((((dY BN.out n).setCell (by simp) _).setCell (by simp) _).setCell (by simp) _).setCell (by simp) _).setCell (by simp) _)
    | true=>
     have ys:=BP hV B;have aa:y.size <= 18:=by
      have h1:=ys.2.2;have h2:y.data.toList.length <= (strip y.data.toList).length + 1:=by unfold strip;split <;> simp;omega
      simp at h2;omega
     have H:=PU hV B;have at':=Ht B (by omega)
     have LG:Hid (L0=(qD (Lib.decDigits V) Z z.data.toList).map (fun c=>(b ++ [fF y.data.toList]) ++ c)):=by
      unfold Hid;rw [LF.out,B];simp only [Bool.and_self,if_true,Option.map_map]
      congr 1;funext c;simp
     generalize fF y.data.toList=l at H at' LG;have al:Hid (∀ k ∈ b ++ [l],jH k):=fun k N=>by
      rcases List.mem_append.1 N with N | N
      ·exact J.out k N
      ·simp at N;rw [N];exact H
     have il:=nP H;have ai:(fe b).ok:=by
      cases b with
      | nil=>exact kQ
      | cons a r=>exact fQ (nP (J.out a (List.mem_cons_self ..)))
     have ac:(setOf b).ok:=yx fun k N=>nP (J.out k N)
     have FE:Hid (fe (b ++ [l])=if jX (fe b) then single l else fe b):=by
      unfold Hid
      cases b with
      | nil=>rfl
      | cons a r=>
       have:jX (fe (a :: r))=false:=by
        unfold jX fe;rw [decide_eq_false_iff_not];intro e;have h1:=di (dE (nP (J.out a (List.mem_cons_self ..)))) a;have e':single a=(0,0):=e;rw [e',fB] at h1;simp at h1
       rw [this];rfl
     have SE:Hid (setOf (b ++ [l])=(setOf b).un (single l)):=setOf_snoc b l;have p1:=hide (fun K=>vw y l K aa at')
     have p2:=hide (fun K=>yw l K il)
     have p3:=hide (fun K=>oG (fe b) K ai)
     have R:=hide (fun K=>ik (setOf b) (single l) K ac (fQ il))
     rw [<- SE.out] at R;unfold dD at p2 p3 R;clear H il ai ac at' aa ys LF q2 B SE r0 Q P r3 r4 g0 g1 g2 g3 g4 HY;generalize single l=sl at p2 R FE;generalize am:setOf b=sk at c1 c2 d R;generalize ae:setOf (b ++ [l])=sn at R;generalize an:fe b=fk at c3 c4 d p3 FE;have ak:=hide ae;clear am ae an;go_wp2_with fail
     refine (p1.out _).mono ?_;rintro e4 w4 ⟨rfl,ah⟩;have ab:=hide (d.out.later ((dY bR n).trans ah));clear ah d;simp only [];go_wp2_with fail
     refine (p2.out _).mono ?_;rintro e5 M ⟨rfl,ag⟩;have D:=hide (ab.out.later ag);clear ag ab;have C:=fun o=>D.out.later ((Below.refl _ M).alloc lr o)
     have aj:=hide C;have d3:=fun o=>(C o).cur.cell (i:=3) (by omega)
     have d4:=fun o=>(C o).cur.cell (i:=4) (by omega)
     have h5:=D.out.hs;have n5:¬ w.heap.size + 1=M.heap.size:=by omega
     have ap:¬ M.heap.size=w.heap.size + 1:=by omega
     have k3:=D.out.cur.cell (i:=3) (by omega)
     have k4:=D.out.cur.cell (i:=4) (by omega)
     simp only [qM] at d3 d4 k3 k4;clear C c0 c1 c2 c3 c4;simp only [];go_wp2_with fail
     refine (p3.out _).mono ?_;rintro e7 w7 ⟨rfl,I⟩;have j:=hide ((aj.out _).later I);have l0:w7.cell? ⟨M.heap.size,0,none⟩=some (.int .u64 (sl.1:Int)):=by rw [I.cell (p:=⟨M.heap.size,0,none⟩) (by simp)];simp
     have l1:w7.cell? ⟨M.heap.size,1,none⟩=some (.int .u64 (sl.2:Int)):=by rw [I.cell (p:=⟨M.heap.size,1,none⟩) (by simp)];simp
     have aq:M.heap.size < w7.heap.size:=block_lt_of_cell l0;clear I aj d3 d4 k3 k4;have m1:=j.out.cur.cell (i:=1) (by omega)
     have m2:=j.out.cur.cell (i:=2) (by omega)
     have m3:=j.out.cur.cell (i:=3) (by omega)
     have m4:=j.out.cur.cell (i:=4) (by omega)
     have z1:=j.out.cur.frozen 1;have z2:=j.out.cur.frozen 2;have z3:=j.out.cur.frozen 3;have z4:=j.out.cur.frozen 4;simp only [qM] at m1 m2 m3 m4;simp only []
     cases he:jX fk with
     | true=>
      have FN:Hid (fe (b ++ [l])=sl):=by unfold Hid;rw [FE.out,he];rfl
      have s8:=hide (j.out.Yz sl);have v1:=s8.out.cur.cell (i:=1) (by omega)
      have v2:=s8.out.cur.cell (i:=2) (by omega)
      simp only [qM] at v1 v2;go_wp2_with fail
      refine (R.out _).mono ?_;rintro e9 w9 ⟨rfl,u⟩;have q:=hide (s8.out.later u);have o1:=q.out.cur.cell (i:=1) (by omega)
      have o2:=q.out.cur.cell (i:=2) (by omega)
      have y1:=q.out.cur.frozen 1;have y2:=q.out.cur.frozen 2;simp only [qM] at o1 o2;have O:=hide (q.out.Xw sn);clear u s8 q v1 v2 m1 m2 m3 m4;simp only [];go_wp2;go_roundw
      case rel=>exact ⟨z,Z,b ++ [l],rfl,by omega,by omega,LG,al,by rw [ak.out,FN.out];exact O⟩
      case measure=>simpa [kg] using zz
     | false=>
      have FN:Hid (fe (b ++ [l])=fk):=by unfold Hid;rw [FE.out,he];rfl
      go_wp2_with fail
      refine (R.out _).mono ?_;rintro e9 w9 ⟨rfl,u⟩;have q:=hide (j.out.later u);have o1:=q.out.cur.cell (i:=1) (by omega)
      have o2:=q.out.cur.cell (i:=2) (by omega)
      have y1:=q.out.cur.frozen 1;have y2:=q.out.cur.frozen 2;simp only [qM] at o1 o2;have O:=hide (q.out.Xw sn);clear u q m1 m2 m3 m4;simp only [];go_wp2;go_roundw
      case rel=>exact ⟨z,Z,b ++ [l],rfl,by omega,by omega,LG,al,by rw [ak.out,FN.out];exact O⟩
      case measure=>simpa [kg] using zz
end
section
attribute [local go_sem ↓] Go.wp_at_zero Go.wp_at_succ
def JS (B sb:Nat) (W:World) (cv:Value) (mb:Nat) (gone:Int) (u:Key) (es:List dN) (laid:Key) (p c:Value) (wx:World):Prop:=
 ∃ (db:Nat) (d:Key) (cf:Bool) (wv2:Nat->Value) (es2:List dN) (Y8:Nat->List Nat),p=.pointer (some ⟨db,0,none⟩)/\c=.bool cf/\Hid (gB B sb W cv mb gone u wv2 es2 Y8 wx/\wx.rowIs db 84 2 (gK d)/\gI es es2 (0,0) laid d cf/\fK es2 Y8/\d.ok)
theorem Uz {B sb i:Nat} {W g:World} {cv:Value} {c:Int} {u:Key} {f:Nat->Value} {j a:List dN} {e:Nat->List Nat} {b d:Key} {cf:Bool} (h:gB B sb W cv i c u f a e g) (l:gI j a (0,0) b d cf) (k:fK a e) (hd:d.ok):
  JS B sb W cv i c u j b (.pointer (some ⟨g.heap.size,0,none⟩)) (.bool cf) (g.alloc (.cells #[.int .u64 (d.1:Int),.int .u64 (d.2:Int)] 84)):=
 ⟨_,d,cf,f,a,e,rfl,rfl,h.later (bR.alloc lr _),gm _ _ _ _,l,k,hd⟩
theorem Uy {B sb j f:Nat} {W i:World} {cv:Value} {c:Int} {u:Key} {g:Nat->Value} {l a:List dN} {e:Nat->List Nat} {b d:Key} {cf:Bool} (h:gB B sb W cv j c u g a e i) (k:i.rowIs f 84 2 (gK (0,0))) (m:W.heap.size <= f) (o:gI l a (0,0) b d cf) (n:fK a e) (hd:d.ok):
  JS B sb W cv j c u l b (.pointer (some ⟨f,0,none⟩)) (.bool cf) ((i.setCell ⟨f,0,none⟩ (.int .u64 (d.1:Int))).setCell ⟨f,1,none⟩ (.int .u64 (d.2:Int))):=
 ⟨f,d,cf,g,a,e,rfl,rfl,h.put m k d,nM k,o,n,hd⟩
end
section
attribute [local go_sem ↓] Go.wp_at_zero Go.wp_at_succ
def U0 (B sb:Nat) (w:World) (cv:Value) (mb:Nat) (gone:Int) (u:Key) (es:List dN) (L:List Cl) (c:Cl) (e:Ending) (w':World):Prop:=
 ∃ (b:Bool) (wv':Nat->Value) (es':List dN) (mE:Nat->List Nat),e=.returned (.bool b)/\Below B w w'/\dn w w'/\fA B sb w' cv mb gone u wv' es' mE/\sigs es'=sigs es/\fK es' mE/\(b=true↔jo L (vJ c 0))
theorem Gc {B sb S:Nat} {cv:Value} {i:Int} {u:Key} {wv:Nat->Value} {t:List dN} {wl:Nat->List Nat} {L:List Cl} (c:Cl) (w:World) (hc:∀ l ∈ c,jH l) (z:t.length <= 549755813888)
  (hS:fA B sb w cv S i u wv t wl) (hT:nX B w) (hI:jY t wl u L) (X:c=[]\/jo L (vJ c 0)):
  Calls Tryz.prog 77 #[.pointer (some ⟨sb,0,none⟩),dD (setOf c),dD (fe c)] w fun e q=>U0 B sb w cv S i u t L c e q:=by
 have J:=hide hI;have ac:=hide X;clear X;have HC:=hide hc;have D:=hide z;have H:(setOf c).ok:=mV hc;have Z:(fe c).ok:=by
  cases c with
  | nil=>exact kQ
  | cons l r=>exact fQ (nP (hc l (List.mem_cons_self ..)))
 have R:=hI.jJ.ok;have Q1:Hid (∀ V,Calls Tryz.prog 118 #[dD (setOf c)] V fun e q=>e=.returned (dD (setOf c).op)/\Below V.heap.size V q):=fun V=>oP _ V
 have P:Hid (∀ V,Calls Tryz.prog 75 #[dD u,dD (setOf c).op] V fun e q=>e=.returned (dD (u.un (setOf c).op))/\Below V.heap.size V q):=fun V=>ik _ _ V R (Pt H)
 have U:(u.un (setOf c).op).ok:=qK R (Pt H);obtain ⟨A,hA⟩:∃ A,setOf c=A:=⟨_,rfl⟩;obtain ⟨F,hF⟩:∃ F,fe c=F:=⟨_,rfl⟩;obtain ⟨j,hL⟩:∃ k,u.un (setOf c).op=k:=⟨_,rfl⟩;have HL:=hide hL;have HF:=hide hF;rw [hL] at P U;rw [hA] at Q1 P H ⊢;rw [hF] at Z ⊢;generalize A.op=oA at Q1 P;have R0:=hide hS;have aa:=hide hT;unfold dD at Q1 P ⊢;clear hS hT hI hc z hL hA hF;go_enter Tryz.func77,Tryz.ntmps77
 go_upto_region 1 with fail
 obtain ⟨W,s⟩:∃ W,W=(w.alloc (.cells #[.int .u64 (A.1:Int),.int .u64 (A.2:Int)] 84)).alloc (.cells #[.int .u64 (F.1:Int),.int .u64 (F.2:Int)] 84):=⟨_,rfl⟩;have BW:Hid (Below w.heap.size w W):=by rw [s];exact uj bR lr _ _
 have RA:Hid (W.rowIs w.heap.size 84 2 (gK A)):=by rw [s];exact (gm w _ _ _).alloc _
 have RF:Hid (W.rowIs (w.heap.size + 1) 84 2 (gK F)):=by rw [s];exact pX w _ _ _ _
 rw [<- s];clear s;have M0:Hid (gB B sb W cv S i u wv t wl W):=gB.start (R0.out.later BW.out) (aa.out.later (BW.out.mono R0.out.bsize));have K:Hid (Below B w W):=BW.out.mono R0.out.bsize;have I:Hid (dn w W):=dn.of_below BW.out;have QE:=hide (DJ W D.out M0.out.fM);clear R0 aa BW;obtain ⟨em,G⟩:∃ em,there t (0,0)=em:=⟨_,rfl⟩;rw [G] at QE;have ab:=hide G;clear G;go_wp2_with fail
 with_reducible refine QE.out.mono ?_
 rintro e6 g ⟨rfl,Y⟩;simp only [];have v:=hide (M0.out.later Y);clear Y QE M0
 cases em with
 | true=>
  have RP:Hid (jo L (vJ c 0)):=(JH J.out.rep (fun h=>by have:=(wH J.out.qm).2 h;rw [ab.out] at this;cases this) _)
  go_wp2;go_ret
  exact ⟨true,_,_,_,rfl,K.out.trans v.out.below,I.out.trans v.out.keeps,v.out.fM,rfl,J.out.gU,by simp only [true_iff];exact RP.out⟩
 | false=>
  have NE:Hid (sN t):=(wH J.out.qm).1 ab.out;have Q3:Hid (∀ V,Below g.heap.size g V->Calls Tryz.prog 117 #[.pointer (some ⟨sb,0,none⟩),dD (0,0),dD j] V fun e q=>∃ (O:Key) (y:Bool) (o:Nat->Value) (f:List dN) (m:Nat->List Nat),e=.returned (.tuple #[dD O,.bool y])/\Hid (gB B sb W cv S i u o f m q/\dn V q/\gI t f (0,0) j O y/\fK f m/\O.ok)):=fun V hV=>by
   have MV:=v.out.later hV;with_reducible refine (tL (0,0) j V kQ U D.out MV.fM MV.tab J.out.gU (IQ _)).mono ?_
   rintro e q ⟨O,y,o,f,m,h1,h2,h3,h4,h5,h6,h7⟩;exact ⟨O,y,o,f,m,h1,MV.step h4 h3 h2,h3,h5,h6,h7⟩
  unfold dD at Q3;obtain ⟨a0,a1,_,_⟩:=dm (v.out.row RA.out);have lA:=(jV (v.out.row RA.out)).lt;have u0:=(v.out.fM.head 3 (by omega)).1
  have u1:=(v.out.fM.head 4 (by omega)).1
  unfold iV at u0 u1;have lS:=v.out.fM.row.lt;have WW:W.heap.size <= g.heap.size:=v.out.below.size;have KS:Hid (∀ V,Below g.heap.size g V->V.cell? ⟨sb,3,none⟩=some (.int .u64 (u.1:Int))/\V.cell? ⟨sb,4,none⟩=some (.int .u64 (u.2:Int))):=fun V h=>
   ⟨(h.cell (p:=⟨sb,3,none⟩) lS).trans u0,(h.cell (p:=⟨sb,4,none⟩) lS).trans u1⟩
  go_upto_region 3 with fail
  go_cut [7,8] from 9 (fun p c wx=>JS B sb W cv S i u t j p c wx)
  case first=>
   have n1:¬ (w.heap.size=g.heap.size):=by omega
   have n3:¬ (sb=g.heap.size):=by omega
   have n4:¬ (g.heap.size=w.heap.size):=by omega
   have n6:¬ (g.heap.size=sb):=by omega
   have lH:w.heap.size < g.heap.size:=lA;have ad:sb < g.heap.size:=lS;go_region_with (first
    |(go_at_call 118;refine (Q1.out _).mono ?_;rintro e7 E ⟨rfl,a⟩;have x:Hid (Below g.heap.size g E):=(by first | exact a | exact bR.drew.trans a | exact (bR.drew.alloc lr _).drew.trans (a.mono (by simp)) | exact (bR.alloc lr _).drew.trans (a.mono (by simp)) | exact (bR.alloc lr _).trans (a.mono (by simp)) | exact (bR.drew.alloc lr _).trans (a.mono (by simp)));obtain ⟨m0,m1⟩:=KS.out E x.out;have N:g.heap.size <= E.heap.size:=x.out.size;have n7:¬ (sb=E.heap.size):=(by omega);have l7:sb < E.heap.size:=(by omega);(first | (have N7:=(by with_reducible exact uJ a)) | (have N7:=(by with_reducible exact uI a)) | skip);clear a;simp only [])
    |(go_at_call 75;refine (P.out _).mono ?_;rintro e8 w8 ⟨rfl,b⟩;have M:Hid (Below g.heap.size g w8):=(by first | exact x.out.trans (b.mono N) | exact x.out.drew.trans (b.mono N) | exact (x.out.alloc N _).trans (b.mono (by simp;omega)) | exact (x.out.alloc N _).drew.trans (b.mono (by simp;omega)) | exact (x.out.drew.alloc N _).trans (b.mono (by simp;omega)) | exact (x.out.drew.alloc N _).drew.trans (b.mono (by simp;omega)));have s8:g.heap.size <= w8.heap.size:=M.out.size;(first | (have N8:=(by with_reducible exact uJ b)) | (have N8:=(by with_reducible exact uI b)) | (have N8:=(by with_reducible exact Kl b N7)) | (have N8:=(by with_reducible exact E5 b N7)) | skip);clear b;simp only [])
    |(go_at_call 117;refine (Q3.out _ (by first | exact M.out | exact M.out.drew | exact M.out.alloc s8 _ | exact (M.out.alloc s8 _).drew | exact (M.out.drew.alloc s8 _) | exact (M.out.drew.alloc s8 _).drew)).mono ?_;rintro e9 w9 ⟨O,y,o,f,m,rfl,n⟩;(first | (have C:=(by with_reducible exact F9 n.out.2.1);obtain ⟨z0,z1,z2,z3⟩:=dm C) | (have C:=(by with_reducible exact BS n.out.2.1);obtain ⟨z0,z1,z2,z3⟩:=dm C) | (have C:=(by with_reducible exact F6 n.out.2.1 N8);obtain ⟨z0,z1,z2,z3⟩:=dm C) | (have C:=(by with_reducible exact BQ n.out.2.1 N8);obtain ⟨z0,z1,z2,z3⟩:=dm C) | skip);simp only []))
   all_goals
    go_wp2_with fail
    go_meet
    first
     | exact Uz n.out.1 n.out.2.2.1 n.out.2.2.2.1 n.out.2.2.2.2
     | exact Uy n.out.1 C.out (by omega) n.out.2.2.1 n.out.2.2.2.1 n.out.2.2.2.2
  case rest=>
   obtain ⟨db,d,y,o,f,m,rfl,rfl,HX⟩:=hcut;have SG:Hid (sigs f=sigs t):=HX.out.2.2.1.same;have Q:=hide HX.out.1;have WI:=hide HX.out.2.2.2.1;have PX:Hid (gI t f (0,0) (u.un (setOf c).op) d y):=by
    have:=HX.out.2.2.1;rw [<- HL.out] at this;exact this
   have ae:=HX.out.2.2.2.2;have RI:Hid (y=true↔jo L (vJ c 0)):=Tu J.out.rep HC.out PX.out WI.out J.out.jJ NE.out;clear KS Q1 P Q3 a0 a1 u0 u1 lA lS
   cases y with
   | true=>
    have RP:Hid (jo L (vJ c 0)):=RI.out.1 rfl;go_wp2;go_ret;exact ⟨true,_,_,_,rfl,K.out.trans Q.out.below,I.out.trans Q.out.keeps,Q.out.fM,SG.out,WI.out,by simp only [true_iff];exact RP.out⟩
   | false=>
    have NC:Hid (¬ jo L (vJ c 0)):=fun h=>by have:=RI.out.2 h;cases this
    have QI:Hid (∀ V,Calls Tryz.prog 74 #[dD F] V fun e q=>e=.returned (.bool (jX F))/\Below V.heap.size V q):=fun V=>oG F V Z
    obtain ⟨f0,f1,_,_⟩:=dm (Q.out.row RF.out);have lF:=(jV (Q.out.row RF.out)).lt
    cases c with
    | nil=>
     have F0:(0,0)=F:=HF.out;subst F0;have NR:=NC;rw [show jX (0,0)=true by decide] at QI
     unfold dD at QI;go_wp2_with fail
     first | go_region_with (go_at_call 74;refine (QI.out _).mono ?_;rintro e7 E ⟨rfl,a⟩;have x:Hid (Below wc.heap.size wc E):=(by first | exact a | exact bR.drew.trans a);clear a;simp only []) | fail
     all_goals
      have M7:=hide (Q.out.later x.out);go_wp2;go_ret;exact ⟨false,_,_,_,rfl,K.out.trans M7.out.below,I.out.trans M7.out.keeps,M7.out.fM,SG.out,WI.out,by simp only [Bool.false_eq_true,false_iff];exact NR.out⟩
    | cons l r=>
     rcases ac.out with h | h
     ·cases h
     ·exact absurd h NC.out
end
section
attribute [local go_sem ↓] Go.wp_at_zero Go.wp_at_succ
theorem Tryz.Cq:Tryz.zeroCells134.toList=[.slice none 0 0,.map none,.int .i64 0,.int .u64 0,.int .u64 0] ++ List.replicate 128 (.slice none 0 0):=by kernel_rfl
def newRow (mb:Nat) (u:Key):List Value:=[.slice none 0 0,.map (some mb),.int .i64 0,.int .u64 (u.1:Int),.int .u64 (u.2:Int)] ++ List.replicate 128 (.slice none 0 0)
theorem Ms (a:Nat) (u:Key) (i:Nat) (hi:i < 133):(newRow a u)[i]? = some (iV (.slice none 0 0) a 0 u (fun _=>.slice none 0 0) i):=by
 unfold newRow
 match i,hi with
 | 0,_=>rfl
 | 1,_=>rfl
 | 2,_=>rfl
 | 3,_=>rfl
 | 4,_=>rfl
 | k + 5,h=>
  rw [List.getElem?_append_right (by simp)]
  simp only [List.length_cons,List.length_nil,Nat.reduceAdd,Nat.add_sub_cancel];rw [List.getElem?_replicate,if_pos (by omega)]
  rfl
theorem yM (a:Nat) (u:Key):(newRow a u).length=133:=by unfold newRow;simp
theorem I9 (b:Nat) (u:Key):∀ v ∈ newRow b u,v.oneCell'=true:=fun v a=>by
 unfold newRow at a
 rcases List.mem_append.1 a with h | h
 ·simp only [List.mem_cons,List.not_mem_nil,or_false] at h
  rcases h with rfl | rfl | rfl | rfl | rfl <;> rfl
 ·rw [(List.mem_replicate.1 h).2];rfl
theorem fA.fresh {B c a:Nat} {w:World} {u:Key} (d:w.heap[c]? = some (.cells (newRow a u).toArray 134 (0,0))) (e:jD w a 0 (fun _=>none)) (g:B <= c) (b:B <= a):fA B c w (.slice none 0 0) a 0 u (fun _=>.slice none 0 0) [] (fun _=>[]) where
 row:=⟨_,d,by simp [yM],fun i f=>by simpa using Ms a u i f⟩
 cls:=World.ownsRow_nil _ _ _ _
 map:=e.congr fun s _=>rfl
 mR:=fun k _=>World.ownsRow_nil _ _ _ _
 apart:=fun k h _ _ _=>.inl rfl
 jg:=g
 zO:=b
theorem I8 (a:Nat) (u:Key):(((Tryz.zeroCells134.toList.set 1 (.map (some a))).set 3 (.int .u64 (u.1:Int))).set 4 (.int .u64 (u.2:Int)))=newRow a u:=by
 rw [Tryz.Cq];rfl
theorem Co:Tryz.zeroCells134.size=133:=by
 rw [<- Array.length_toList,Tryz.Cq];rfl
def zT (es es':List dN) (mE:Nat->List Nat):Prop:=sigs es'=(sigs es).filter (fun p=>decide (0 < p.2))/\fK es' mE
theorem Bz {w:World} {B H e size n:Nat} {v:Value} {c:List Value} (h:w.ownsRow H e size v n c) (f:B <= H):w.ownsRow B e size v n c:=by
 refine ⟨h.1,?_⟩
 rcases h.2 with i | ⟨g,b,a,j,d,r⟩
 ·exact .inl i
 ·exact .inr ⟨g,b,a,j,Nat.le_trans f d,r⟩
theorem fA.moved {B H m sb d:Nat} {wr:World} {f:Value} {u:Key} {a:Nat->Value} {n:List dN} {b:Nat->List Nat} {cf v:Array Value} (h:fA H m wr f d 0 u a n b) (r:wr.heap[m]? = some (.cells cf 134 (0,0))) (q:wr.heap[sb]? = some (.cells v 134 (0,0))) (o:sb < H) (t:B <= sb):
  fA B sb (wr.setRow sb cf) f d 0 u a n b where
 row:=by
  obtain ⟨c,j,p,s⟩:=h.row;rw [r] at j;have e:cf=c:=by cases j;rfl
  subst e;exact ⟨cf,setRow_heap _ _ _ _ _ _ q,p,s⟩
 cls:=Bz (gy h.cls fun g i=>setRow_other _ _ _ _ (by have:=(h.cls.lt g i).1;omega)) (by omega)
 map:=h.map.kept (setRow_other _ _ _ _ (by have:=h.zO;omega))
 mR:=fun k l=>Bz (gy (h.mR k l) fun g i=>setRow_other _ _ _ _ (by have:=((h.mR k l).lt g i).1;omega)) (by omega)
 apart:=h.apart
 jg:=t
 zO:=by have:=h.zO;omega
theorem MZ {sb:Nat} {wr:World} {cf f:Array Value} (b:wr.heap[sb]? = some (.cells f 134 (0,0))):dn wr (wr.setRow sb cf):=fun k d=>setRow_other _ _ _ _ (fun e=>by
 obtain ⟨x,t,a,c,_⟩:=d
 first
  |(rw [e,b] at a;cases a;exact c rfl)
  |(rw [<- e,b] at a;cases a;exact c rfl))
structure zU (H fs YK:Nat) (wd:World) (u:Key) (es:List dN) (i:Nat) (YZ:Value) (Yv:Nat->Value) (ef:List dN) (Yh:Nat->List Nat) (wr:World):Prop where
 below:Below H wd wr
 keeps:dn wd wr
 fM:fA H fs wr YZ YK 0 u Yv ef Yh
 tab:nX H wr
 sig:sigs ef=(sigs (es.take i)).filter (fun p=>decide (0 < p.2))
 gU:fK ef Yh
def Wz (H fs YK:Nat) (wd:World) (u:Key) (es:List dN) (i29:Value) (wr:World):Prop:=
 ∃ (i:Nat) (YZ:Value) (Yv:Nat->Value) (ef:List dN) (Yh:Nat->List Nat),i29=.int .i64 i/\i <= es.length/\Hid (zU H fs YK wd u es i YZ Yv ef Yh wr)
theorem Bg {a:List dN} {i:Nat} (hi:i < a.length):sigs (a.take (i + 1))=sigs (a.take i) ++ [((a[i]).set,(a[i]).times)]:=by
 rw [List.take_add_one,List.getElem?_eq_getElem hi,Option.toList_some,Bl]
theorem Ot {H j c:Nat} {g wr:World} {u:Key} {f:List dN} {i:Nat} {d:Value} {a:Nat->Value} {k:List dN} {b:Nat->List Nat} (h:zU H j c g u f i d a k b wr) (hi:i < f.length) (l:(f[i]).times=0) {ws:World} (e:Below wr.heap.size wr ws):
  zU H j c g u f (i + 1) d a k b ws where
 below:=h.below.trans (e.mono h.fM.bsize)
 keeps:=h.keeps.trans (dn.of_below e)
 fM:=h.fM.later e
 tab:=h.tab.later (e.mono h.fM.bsize)
 sig:=by
  rw [Bg hi,List.filter_append,h.sig,l];simp
 gU:=h.gU
theorem Tf {H l e:Nat} {j ws:World} {u:Key} {c:List dN} {i:Nat} {g:Value} {d:Nat->Value} {h:List dN} {a:Nat->List Nat} (f:sigs h=(sigs (c.take i)).filter (fun p=>decide (0 < p.2))) (hi:i < c.length) (n:0 < (c[i]).times)
  (m:fK (h ++ [{ eH (c[i]).set with times:=(c[i]).times }]) a) (b:Below H j ws) (k:dn j ws) (S:fA H l ws g e 0 u d (h ++ [{ eH (c[i]).set with times:=(c[i]).times }]) a) (T:nX H ws):
  zU H l e j u c (i + 1) g d (h ++ [{ eH (c[i]).set with times:=(c[i]).times }]) a ws where
 below:=b
 keeps:=k
 fM:=S
 tab:=T
 sig:=by
  rw [Bg hi,List.filter_append,Bl,f]
  congr 1
  simp [n,eH]
 gU:=m
theorem Ou {b f:List dN} {i:Nat} (a:sigs f=(sigs (b.take i)).filter (fun p=>decide (0 < p.2))) (hi:i < b.length) (hd:(b.map dN.set).Nodup):look f (b[i]).set=none:=by
 rw [su];intro e k g;have:=yR k;rw [a,List.mem_filter] at this;obtain ⟨l,c,d,_⟩:=Dg this.1;obtain ⟨j,h,rfl⟩:=List.mem_iff_getElem.1 c;rw [List.length_take] at h;rw [List.getElem_take] at d;have:=uT hd (i:=j) (j:=i) (by omega) hi (d.trans g)
 omega
theorem Tg {a e:List dN} {i:Nat} (b:sigs e=(sigs (a.take i)).filter (fun p=>decide (0 < p.2))):e.length <= a.length:=by
 have d:=congrArg List.length b;have c:((sigs (a.take i)).filter (fun p=>decide (0 < p.2))).length <= (sigs (a.take i)).length:=List.length_filter_le _ _
 unfold sigs at d c;simp only [List.length_map] at d c;have:(a.take i).length <= a.length:=by rw [List.length_take];omega
 omega
theorem Eu {B sb mb:Nat} {cv:Value} {j:Int} {u:Key} {wv:Nat->Value} {d:List dN} {wl:Nat->List Nat} (w:World) (ae:d.length <= 274877906944) (hg:-1099511627776 <= j/\j <= 1099511627776)
  (O:fA B sb w cv mb j u wv d wl) (hT:nX B w) (hW:fK d wl) (hd:(d.map dN.set).Nodup) (hu:u.ok):
  Calls Tryz.prog 115 #[.pointer (some ⟨sb,0,none⟩)] w fun e w'=>e=.returned (.tuple #[])/\Below B w w'/\dn w w'/\
   ∃ (az:Value) (ar:Nat) (fE:Int) (aq:Nat->Value) (z:List dN) (K:Nat->List Nat),fA B sb w' az ar fE u aq z K/\((fE=j/\sigs z=sigs d/\fK z K)\/(fE=0/\zT d z K)):=by
 obtain ⟨a,aQ,av⟩:=p8 O.cls;subst av;have HS:=hide O;have HT:=hide hT;have HW:=hide hW;have HD:=hide hd;have H:=hide ae;have U:=(O.head 0 (by omega)).1
 have y2:=(O.head 2 (by omega)).1
 have y3:=(O.head 3 (by omega)).1
 have y4:=(O.head 4 (by omega)).1
 unfold iV at U y2 y3 y4;have dv:Int.tdiv (d.length:Int) 2=((d.length / 2:Nat):Int):=by
  rw [Int.tdiv_eq_ediv_of_nonneg (by omega)];omega
 clear O hT hW hd;go_enter Tryz.func115,Tryz.ntmps115
 by_cases aB:j <= 100 + ((d.length / 2:Nat):Int)
 ·go_wp2_with fail
  go_quiet (fail)
  have D:Hid (Below w.heap.size w (w.drewN nq)):=dY bR _;go_wp2;refine @bodyPost_ret _ _ _ _ _ (.tuple #[]) ?_ ?_ ?_
  ·simp [results,Tryz.results115,go_sem]
  ·rfl
  exact ⟨rfl,D.out.mono HS.out.bsize,dn.of_below D.out,_,_,_,_,_,_,HS.out.later D.out,.inl ⟨rfl,rfl,HW.out⟩⟩
 ·go_wp2_with fail
  go_quiet (fail)
  have D:Hid (Below w.heap.size w (w.drewN nq)):=dY bR _;have h:=hide (HS.out.later D.out);generalize w.drewN nq=b at D h ⊢;have U:=(h.out.head 0 (by omega)).1
  have y3:=(h.out.head 3 (by omega)).1
  have y4:=(h.out.head 4 (by omega)).1
  unfold iV at U y3 y4;have ac:=h.out.row.lt;have ns:¬ (sb=b.heap.size):=by omega
  have aI:¬ (b.heap.size=sb):=by omega
  have aw:=@run_makeMap Tryz.prog;have au:(storeCells ⟨b.heap.size + 1,0,none⟩ (((Tryz.zeroCells134.toList.set 1 (.map (some b.heap.size))).set 3 (.int .u64 (u.1:Int))).set 4 (.int .u64 (u.2:Int)))).run Tryz.prog ((b.alloc (.map #[] 0)).alloc (.cells Tryz.zeroCells134 134))=.ok () (((b.alloc (.map #[] 0)).alloc (.cells Tryz.zeroCells134 134)).setRow (b.heap.size + 1) (newRow b.heap.size u).toArray):=by
   rw [I8];have:=run_storeCells_from (P:=Tryz.prog) (b.heap.size + 1) 134 (newRow b.heap.size u) 0 Tryz.zeroCells134 ((b.alloc (.map #[] 0)).alloc (.cells Tryz.zeroCells134 134)) (by have:=heap_alloc_new (b.alloc (.map #[] 0)) (.cells Tryz.zeroCells134 134);simpa using this) (by rw [yM,Co]) (I9 _ _)
   simpa using this
  go_upto_region 2 with fail
  have r:((b.alloc (.map #[] 0)).alloc (.cells Tryz.zeroCells134 134)).heap[b.heap.size + 1]? = some (.cells Tryz.zeroCells134 134 (0,0)):=by have:=heap_alloc_new (b.alloc (.map #[] 0)) (.cells Tryz.zeroCells134 134);simpa using this
  obtain ⟨Y,hY⟩:∃ Y,Y=((b.alloc (.map #[] 0)).alloc (.cells Tryz.zeroCells134 134)).setRow (b.heap.size + 1) (newRow b.heap.size u).toArray:=⟨_,rfl⟩;have BY:Hid (Below b.heap.size b Y):=by
   unfold Hid;rw [hY];exact below_setRow ((bR.alloc lr _).alloc (by simp) _) (by omega) _
  have SY:Hid (fA b.heap.size (b.heap.size + 1) Y (.slice none 0 0) b.heap.size 0 u (fun _=>.slice none 0 0) [] (fun _=>[])):=by
   unfold Hid;refine fA.fresh ?_ ?_ (by omega) lr
   ·rw [hY];exact setRow_heap _ _ _ _ _ _ r
   ·rw [hY];refine (yS b).kept ?_;rw [setRow_other _ _ _ _ (by omega),Below.heap_alloc _ _ _ (by simp)]
  rw [<- hY];clear hY r au aw;have U:=(BY.out.cell (p:=⟨sb,0,none⟩) ac).trans U;have T0:Hid (zU b.heap.size (b.heap.size + 1) b.heap.size b u d 0 (.slice none 0 0) (fun _=>.slice none 0 0) [] (fun _=>[]) Y):=
   ⟨BY.out,dn.of_below BY.out,SY.out,by
    have t1:=HT.out.later (D.out.mono HS.out.bsize);have t2:=t1.later (BY.out.mono h.out.bsize);exact ⟨t2.1,by have:=t2.2;have:=h.out.bsize;omega⟩,by simp [sigs],fK.empty⟩
  clear SY BY;go_wp2;go_loopw [29] (fun i wr=>Wz b.heap.size (b.heap.size + 1) b.heap.size b u d i wr) (fun i _=>d.length - (intOf i).toNat)
  case atStart=>exact ⟨0,_,_,_,_,rfl,zl,T0⟩
  case round=>
   clear T0 U;obtain ⟨i,C,I,f,m,rfl,aN,T⟩:=hrel;have ap:=hide (h.out.later T.out.below);by_cases q:i < d.length
   ·obtain ⟨cb,aG,ah,aE,aD,aC,aF,c⟩:=ap.out.xz i q;obtain ⟨q1,q2,q3⟩:=Value.slice.inj ah;subst q1 q3;clear q2 ah;have c0:=(c 0 (by omega)).1
    have c1:=(c 1 (by omega)).1
    have c2:=(c 2 (by omega)).1
    have c3:=(c 3 (by omega)).1
    have c4:=(c 4 (by omega)).1
    simp only [lV,List.getElem?_cons_succ,List.getElem?_cons_zero] at c0 c1 c2 c3 c4;have c0:wr.cell? ⟨cb,i * 5,none⟩=some (.int .u64 ((d[i]).set.1:Int)):=c0;have aa:(d[i]).set.ok:=HW.out.ok _ (List.getElem_mem _);have aA:=hide (Ou T.out.sig q HD.out)
    have ao:Hid (∀ (o:World) (R:Value) (J:Nat->Value),0 < (d[i]).times->Below b.heap.size wr o->dn wr o->fA b.heap.size (b.heap.size + 1) o R b.heap.size 0 u J (f ++ [{ eH (d[i]).set with times:=(d[i]).times }]) (iP m (d[i]).set f.length)->zU b.heap.size (b.heap.size + 1) b.heap.size b u d (i + 1) R J (f ++ [{ eH (d[i]).set with times:=(d[i]).times }]) (iP m (d[i]).set f.length) o):=fun o R J h1 h2 h3 h4=>
     Tf T.out.sig q h1 (T.out.gU.enter aa _) (T.out.below.trans h2) (T.out.keeps.trans h3) h4 (T.out.tab.later h2)
    have an:Hid (∀ o,(d[i]).times=0->Below wr.heap.size wr o->zU b.heap.size (b.heap.size + 1) b.heap.size b u d (i + 1) C I f m o):=fun o h1 h2=>Ot T.out q h1 h2
    have Q:f.length <= d.length:=Tg T.out.sig;generalize (d[i]).set=s at *
    generalize (d[i]).watched=V at *
    generalize (d[i]).times=t at *
    clear c;have aM:(0:Int) <= (i:Int):=by omega
    have aL:(i:Int) < (d.length:Int):=by omega
    go_upto_region 5 with fail
    have Z:Hid (Below wr.heap.size wr (wr.alloc (.cells #[.int .u64 (s.1:Int),.int .u64 (s.2:Int),.int .u64 (V.1:Int),.int .u64 (V.2:Int),.int .i64 (t:Int)] 180))):=bR.alloc lr _;obtain ⟨X,r⟩:∃ X,X=wr.alloc (.cells #[.int .u64 (s.1:Int),.int .u64 (s.2:Int),.int .u64 (V.1:Int),.int .u64 (V.2:Int),.int .i64 (t:Int)] 180):=⟨_,rfl⟩;have kx:X.heap[wr.heap.size]? = some (.cells #[.int .u64 (s.1:Int),.int .u64 (s.2:Int),.int .u64 (V.1:Int),.int .u64 (V.2:Int),.int .i64 (t:Int)] 180 (0,0)):=by rw [r];exact heap_alloc_new _ _
    have k0:X.cell? ⟨wr.heap.size,0,none⟩=some (.int .u64 (s.1:Int)):=by rw [r];simp
    have k1:X.cell? ⟨wr.heap.size,1,none⟩=some (.int .u64 (s.2:Int)):=by rw [r];simp
    have k4:X.cell? ⟨wr.heap.size,4,none⟩=some (.int .i64 (t:Int)):=by rw [r];simp
    rw [<- r] at Z ⊢;clear r c0 c1 c2 c3 c4;by_cases ht:t=0
    ·subst ht;have NX:=hide (an.out X rfl Z.out);go_wp2;go_roundw
     case rel=>exact ⟨i + 1,_,_,_,_,lQ (by omega),by omega,NX⟩
     case measure=>simp [intOf];omega
    ·have tp:(0:Int) < (t:Int):=by omega
     have SX:=hide (T.out.fM.later Z.out);have TX:=hide (T.out.tab.later (Z.out.mono T.out.fM.bsize));have QE:=hide (zq s X aa aA.out (Nat.le_trans Q H.out) (fun k hk=>Nat.le_trans (T.out.gU.len hk) (by have:=H.out;omega)) SX.out TX.out)
     unfold dD at QE;have KK:Hid (C.ownBlock ≠ some wr.heap.size):=fun e=>by have:=(T.out.fM.cls.lt _ e).2;omega
     go_upto_region 6 with fail
     go_wp2_with fail
     with_reducible refine QE.out.mono ?_
     rintro e6 w6 ⟨rfl,ak,af,aO,aH,al,l⟩;simp only [];have k6:w6.cell? ⟨wr.heap.size,4,none⟩=some (.int .i64 (t:Int)):=(World.cell?_of_block (a:=⟨wr.heap.size,4,none⟩) (al _ _ kx KK.out).1).trans k4;have gx:f.length < (f ++ [eH s]).length:=by simp
     obtain ⟨S,am,ag,_,_,_,N,g⟩:=l.xz f.length gx;subst ag;have f4:=(g 4 (by omega)).1
     have f5:=(g 4 (by omega)).2
     rw [show (f ++ [eH s])[f.length]'gx=eH s by simp] at f4
     simp only [lV,List.getElem?_cons_succ,List.getElem?_cons_zero] at f4;have f0:w6.cell? ⟨b.heap.size + 1,0,none⟩=some (.slice (some ⟨S,0,none⟩) (f ++ [eH s]).length am):=(l.head 0 (by omega)).1
     have e9:iU (f ++ [eH s]) f.length t=f ++ [{ eH s with times:=t }]:=by unfold iU;rw [modify_last]
     have S9:=l.OJ gx t;rw [e9] at S9;have K9:dn wr (w6.setCell ⟨S,f.length * 5 + 4,none⟩ (.int .i64 (t:Int))):=((dn.of_below Z.out).trans af).trans (l.qZ _ _)
     have B9:Below b.heap.size wr (w6.setCell ⟨S,f.length * 5 + 4,none⟩ (.int .i64 (t:Int))):=((Z.out.mono T.out.fM.bsize).trans ak).setCell (by rcases l.cls.2 with ⟨W,_⟩ | ⟨g',c',aP,W,ax,_⟩ <;> cases W;exact ax) _
     have NX:=hide (ao.out _ _ _ (by omega) B9 K9 S9)
     have E:(f ++ [eH s]).length=f.length + 1:=by simp
     rw [E] at f0 N;rw [show (eH s).times=0 from rfl] at f4
     have aK:(0:Int) <= (f.length:Int):=by omega
     have aJ:(f.length:Int) < ((f.length + 1:Nat):Int):=by omega
     clear l af ak al g S9 K9 B9 e9 QE SX TX k0 k1 k4 kx gx E ao an;go_wp2;go_roundw
     case rel=>exact ⟨i + 1,_,_,_,_,lQ (by omega),by omega,NX⟩
     case measure=>simp [intOf];omega
   ·have ei:i=d.length:=by omega
    subst ei;obtain ⟨G,ai,L,aj⟩:=T.out.fM.row;obtain ⟨co,M,ad,_⟩:=ap.out.row;have ay:G.all (·.oneCell')=true:=by
     rw [Array.all_eq_true_iff_forall_mem];intro v hv;obtain ⟨k,hk,e⟩:=Array.mem_iff_getElem.1 hv;have:=aj k (by omega)
     rw [Array.getElem?_eq_getElem hk,e] at this;rw [Option.some.inj this]
     match k with
     | 0=>
      obtain ⟨x,y,W⟩:=p8 T.out.fM.cls;show C.oneCell'=true
      rw [W];rfl
     | 1=>rfl
     | 2=>rfl
     | 3=>rfl
     | 4=>rfl
     | n + 5=>
      obtain ⟨x,y,W⟩:=p8 (T.out.fM.mR n (by omega))
      show (I n).oneCell'=true
      rw [W];rfl
    have ab:(Tryz.prog.info? 134).map (·.size)=some G.size:=by rw [L];kernel_rfl
    have HB:B <= b.heap.size:=h.out.bsize;have SN:Hid (fA B sb (wr.setRow sb G) C b.heap.size 0 u I f m):=T.out.fM.moved ai M ac h.out.jg;have BN:Hid (Below B w (wr.setRow sb G)):=below_setRow ((D.out.mono HS.out.bsize).trans (T.out.below.mono HB)) h.out.jg _;have KN:Hid (dn w (wr.setRow sb G)):=((dn.of_below D.out).trans T.out.keeps).trans (MZ M);have TP:Hid (zT d f m):=⟨by have:=T.out.sig;rw [List.take_length] at this;exact this,T.out.gU⟩
    have sz:co.size=G.size:=by rw [ad,L]
    clear aj L ad;go_upto_region 9 with fail
    go_wp2_with (first
     |(refine wpList_load_row rfl 134 _ rfl (b.heap.size + 1) rfl 134 G (0,0) _ ai Tryz.underlying134 rfl ab ?_)
     |(refine wpList_store_row rfl 134 _ _ rfl sb G rfl rfl 134 co M ab sz ay ?_))
    go_end0
    exact ⟨rfl,BN.out,KN.out,_,_,_,_,_,_,SN.out,.inr ⟨rfl,TP.out⟩⟩
end
end
end Rd
end Go.Proofs.YtceahffmenbibaaGreatDoor
