/- Pstep Pisr Cref10 Phld. -/
import Derived.Test.YtceahffmenbibaaGreatDoorG18
import Derived.Test.YtceahffmenbibaaGreatDoorG23
import Derived.Deep.CutRange
import Derived.Test.YtceahffmenbibaaGreatDoorG17
import Derived.Test.YtceahffmenbibaaGreatDoorG13
import Derived.Outline
import Derived.Test.YtceahffmenbibaaGreatDoorG25
set_option linter.unusedVariables false
set_option linter.unusedSimpArgs false
namespace Go.Proofs.YtceahffmenbibaaGreatDoor
namespace Rd
open Go Go.RowKit Go.Deep
attribute [local go_sem ↓] Go.wp_at_zero Go.wp_at_succ
def stepF (g:Bool) (s f:Key):Nat→Value
 | 0=>.bool g
 | 1=>.int .u64 (s.1:Int)
 | 2=>.int .u64 (s.2:Int)
 | 3=>.int .u64 (f.1:Int)
 | _=>.int .u64 (f.2:Int)
def stepV (g:Bool) (s f:Key):Value:=.agg #[.bool g,.int .u64 (s.1:Int),.int .u64 (s.2:Int),.int .u64 (f.1:Int),.int .u64 (f.2:Int)]
def firstOf:Cl→Key
 | []=>(0,0)
 | l :: _=>single l
structure StepSt (H:Nat) (w:World) (g:Bool) (s f:Key) (wr:World):Prop where
 res:wr.rowIs H 86 5 (stepF false (0,0) (0,0))
 cur:wr.rowIs (H + 1) 86 5 (stepF g s f)
 below:Below H w wr
 hs:H + 2 ≤ wr.heap.size
theorem StepSt.later {H:Nat} {w wr wr':World} {g:Bool} {s f:Key} (h:StepSt H w g s f wr) (hb:Below wr.heap.size wr wr'):StepSt H w g s f wr':=
 ⟨h.res.of_block (hb.block _ (by have:=h.hs;omega)),h.cur.of_block (hb.block _ (by have:=h.hs;omega)),h.below.trans (hb.mono (by have:=h.hs;omega)),by have:=h.hs;have:=hb.size;omega⟩
theorem StepSt.setF {H:Nat} {w wr:World} {g:Bool} {s f:Key} (h:StepSt H w g s f wr) (t:Key):StepSt H w g s t ((wr.setCell ⟨H + 1,3,none⟩ (.int .u64 (t.1:Int))).setCell ⟨H + 1,4,none⟩ (.int .u64 (t.2:Int))) where
 res:=(h.res.setOther (by simp) _).setOther (by simp) _
 cur:=((h.cur.set 3 _).set 4 _).congr fun i hi=>by
  match i,hi with
  | 0,_=>rfl
  | 1,_=>rfl
  | 2,_=>rfl
  | 3,_=>rfl
  | 4,_=>rfl
 below:=(h.below.setCell (by simp) _).setCell (by simp) _
 hs:=by have:=h.hs;simp [World.setCell];omega
theorem StepSt.setS {H:Nat} {w wr:World} {g:Bool} {s f:Key} (h:StepSt H w g s f wr) (t:Key):StepSt H w g t f ((wr.setCell ⟨H + 1,1,none⟩ (.int .u64 (t.1:Int))).setCell ⟨H + 1,2,none⟩ (.int .u64 (t.2:Int))) where
 res:=(h.res.setOther (by simp) _).setOther (by simp) _
 cur:=((h.cur.set 1 _).set 2 _).congr fun i hi=>by
  match i,hi with
  | 0,_=>rfl
  | 1,_=>rfl
  | 2,_=>rfl
  | 3,_=>rfl
  | 4,_=>rfl
 below:=(h.below.setCell (by simp) _).setCell (by simp) _
 hs:=by have:=h.hs;simp [World.setCell];omega
def StepRel (H V:Nat) (w:World) (g:Bool) (L0:Option Cl) (t:Value) (wr:World):Prop:=
 ∃ (x:ByteArray) (f:Nat) (acc:Cl),t=.string x∧x.size < f∧x.size ≤ 1048576∧Hid (L0=(litsP (Lib.decDigits V) f x.data.toList).map (fun c=>acc ++ c))∧Hid (∀ l ∈ acc,In50 l)∧Hid (StepSt H w g (setOf acc) (firstOf acc) wr)
def StepRet (V:Nat) (s:ByteArray) (e:Ending):Prop:=
 (lineB (Lib.decDigits V) s.data.toList=none∧e=.returned (.tuple #[stepV false (0,0) (0,0),.bool false])) ∨
 ∃ g c,lineB (Lib.decDigits V) s.data.toList=some (g,c)∧e=.returned (.tuple #[stepV g (setOf c) (firstOf c),.bool true])
theorem cut_sp (s:ByteArray) (m:Int) (w:World) (hs:s.size ≤ 1048576) (hm:w.cell? ⟨0,0,none⟩=some (.int .i64 m)):
  Calls Tryz.prog 40 #[.string s,.string ⟨#[32]⟩] w fun e w'=>∃ x y:ByteArray,e=.returned (.tuple #[.string x,.string y,.bool (hasB 32 s.data.toList)])∧
   Hid (hasB 32 s.data.toList=true→x.data.toList=upto 32 s.data.toList∧y.data.toList=s.data.toList.drop ((upto 32 s.data.toList).length + 1))∧∃ n,w'=w.drewN n:=by
 refine (Tryz.strings_Cut s _ m _ (by omega) hm).mono ?_
 rintro e w' ⟨rfl,hn⟩
 rw [show Lib.cut s.data.toList (⟨#[32]⟩:ByteArray).data.toList=_ from cut_one 32 _]
 cases hasB 32 s.data.toList
 ·exact ⟨_,_,rfl,(fun h=>by cases h),hn⟩
 ·exact ⟨_,_,rfl,fun _=>⟨rfl,rfl⟩,hn⟩
set_option maxHeartbeats 1000000 in
set_option maxRecDepth 100000 in
theorem parseStep_any (s v:ByteArray) (V:Nat) (m:Int) (w:World) (hs:s.size ≤ 1048576) (hV:V ≤ 50) (hv:v.data.toList=Lib.decDigits V) (hm:w.cell? ⟨0,0,none⟩=some (.int .i64 m)):
  Calls Tryz.prog 41 #[.string s,.string v] w fun e w'=>Below w.heap.size w w'∧StepRet V s e:=by
 have vz:v.size ≤ 2:=by have:=congrArg List.length hv;have:=dd_len V (by omega);simp at *;omega
 have HV:=hide hv
 have HM:=hide hm
 clear hv hm
 go_enter Tryz.func41,Tryz.ntmps41
 go_wp2_with fail
 refine (Tryz.strings_CutPrefix s _ _).mono ?_
 rintro e1 w1 ⟨rfl,rfl⟩
 obtain ⟨x0,hx0⟩:∃ x:ByteArray,x=⟨(Lib.trimPrefix s.data.toList (⟨#[100,32]⟩:ByteArray).data.toList).toArray⟩:=⟨_,rfl⟩
 obtain ⟨g,hg⟩:∃ g,g=Lib.hasPrefix s.data.toList (⟨#[100,32]⟩:ByteArray).data.toList:=⟨_,rfl⟩
 rw [← hx0,← hg]
 have hx1:x0.data.toList=Lib.trimPrefix s.data.toList [100,32]:=by rw [hx0]
 have LB:Hid (lineB (Lib.decDigits V) s.data.toList=(litsP (Lib.decDigits V) (s.size + 1) x0.data.toList).map fun c=>(g,c)):=by
  unfold Hid
  rw [← lineP_eq,hx1,hg]
  unfold lineP Lib.trimPrefix
  show (if Lib.hasPrefix s.data.toList [100,32]=true then _ else _)=Option.map (fun c=>(Lib.hasPrefix s.data.toList [100,32],c)) _
  have hl:s.data.toList.length=s.size:=by simp
  rw [hl]
  cases h:Lib.hasPrefix s.data.toList [100,32] with
  | true=>rfl
  | false=>rfl
 have x0z:x0.size ≤ s.size:=by
  rw [len_of hx1];have:=trim_len s.data.toList [100,32];simpa using this
 clear hx0 hx1 hg
 obtain ⟨L0,hL0⟩:∃ L,L=litsP (Lib.decDigits V) (s.size + 1) x0.data.toList:=⟨_,rfl⟩
 rw [← hL0] at LB
 simp only []
 go_wp2_with fail
 obtain ⟨W,hW⟩:∃ W,W=(w.alloc (Obj.cells #[Value.bool false,Value.int IntKind.u64 0,Value.int IntKind.u64 0,Value.int IntKind.u64 0,Value.int IntKind.u64 0] 86)).alloc (Obj.cells #[Value.bool g,Value.int IntKind.u64 0,Value.int IntKind.u64 0,Value.int IntKind.u64 0,Value.int IntKind.u64 0] 86):=⟨_,rfl⟩
 rw [← hW]
 have S0:Hid (StepSt w.heap.size w g (0,0) (0,0) W):=by
  unfold Hid;rw [hW]
  have r1:(w.alloc (Obj.cells #[Value.bool false,Value.int IntKind.u64 0,Value.int IntKind.u64 0,Value.int IntKind.u64 0,Value.int IntKind.u64 0] 86)).rowIs w.heap.size 86 5 (stepF false (0,0) (0,0)):=⟨_,blk_alloc_new _ _,rfl,fun i hi=>by match i,hi with | 0,_=>rfl | 1,_=>rfl | 2,_=>rfl | 3,_=>rfl | 4,_=>rfl⟩
  have r2:((w.alloc (Obj.cells #[Value.bool false,Value.int IntKind.u64 0,Value.int IntKind.u64 0,Value.int IntKind.u64 0,Value.int IntKind.u64 0] 86)).alloc (Obj.cells #[Value.bool g,Value.int IntKind.u64 0,Value.int IntKind.u64 0,Value.int IntKind.u64 0,Value.int IntKind.u64 0] 86)).rowIs (w.heap.size + 1) 86 5 (stepF g (0,0) (0,0)):=by
   have:((w.alloc (Obj.cells #[Value.bool false,Value.int IntKind.u64 0,Value.int IntKind.u64 0,Value.int IntKind.u64 0,Value.int IntKind.u64 0] 86)).alloc (Obj.cells #[Value.bool g,Value.int IntKind.u64 0,Value.int IntKind.u64 0,Value.int IntKind.u64 0,Value.int IntKind.u64 0] 86)).rowIs (w.alloc (Obj.cells #[Value.bool false,Value.int IntKind.u64 0,Value.int IntKind.u64 0,Value.int IntKind.u64 0,Value.int IntKind.u64 0] 86)).heap.size 86 5 (stepF g (0,0) (0,0)):=⟨_,blk_alloc_new _ _,rfl,fun i hi=>by match i,hi with | 0,_=>rfl | 1,_=>rfl | 2,_=>rfl | 3,_=>rfl | 4,_=>rfl⟩
   simpa using this
  exact ⟨r1.alloc _,r2,below2 (Below.refl _ _) (Nat.le_refl _) _ _,by simp⟩
 clear hW
 go_loopw [7] (fun t wr=>StepRel w.heap.size V w g L0 t wr) (fun t _=>sizeOfStr t)
 case atStart=>exact ⟨x0,s.size + 1,[],rfl,by omega,by omega,by unfold Hid;rw [hL0];simp,by intro l hl;simp at hl,S0⟩
 case round=>
  clear S0 hL0
  obtain ⟨x,f,acc,rfl,hf,hx,hL,h50,hst⟩:=hrel
  obtain ⟨f',rfl⟩:∃ f',f=f' + 1:=⟨f - 1,by omega⟩
  have c0:=(unhide hst).cur.cell (i:=0) (by omega)
  have c1:=(unhide hst).cur.cell (i:=1) (by omega)
  have c2:=(unhide hst).cur.cell (i:=2) (by omega)
  have c3:=(unhide hst).cur.cell (i:=3) (by omega)
  have c4:=(unhide hst).cur.cell (i:=4) (by omega)
  have r0:=(unhide hst).res.cell (i:=0) (by omega)
  have r1:=(unhide hst).res.cell (i:=1) (by omega)
  have r2:=(unhide hst).res.cell (i:=2) (by omega)
  have r3:=(unhide hst).res.cell (i:=3) (by omega)
  have r4:=(unhide hst).res.cell (i:=4) (by omega)
  have g0:=(unhide hst).res.frozen 0
  have g1:=(unhide hst).res.frozen 1
  have g2:=(unhide hst).res.frozen 2
  have g3:=(unhide hst).res.frozen 3
  have g4:=(unhide hst).res.frozen 4
  simp only [stepF] at c0 c1 c2 c3 c4 r0 r1 r2 r3 r4
  cases hz:(!x.toList == [48]) with
  | false=>
   have E:Hid (lineB (Lib.decDigits V) s.data.toList=some (g,acc)):=by
    unfold Hid;rw [unhide LB,unhide hL];unfold litsP
    simp only [Bool.not_eq_false',ByteArray.toList_eq] at hz
    rw [hz];simp
   have BE:Hid (Below w.heap.size w (((((wr.setCell ⟨w.heap.size,0,none⟩ (.bool g)).setCell ⟨w.heap.size,1,none⟩ (.int .u64 ((setOf acc).1:Int))).setCell ⟨w.heap.size,2,none⟩ (.int .u64 ((setOf acc).2:Int))).setCell ⟨w.heap.size,3,none⟩ (.int .u64 ((firstOf acc).1:Int))).setCell ⟨w.heap.size,4,none⟩ (.int .u64 ((firstOf acc).2:Int)))):=((((((unhide hst).below.setCell (by simp) _).setCell (by simp) _).setCell (by simp) _).setCell (by simp) _).setCell (by simp) _)
   go_wp2
   refine bodyPost_ret (v:=.tuple #[stepV g (setOf acc) (firstOf acc),.bool true]) (by simp [results,Tryz.results41,go_sem,r0,r1,r2,r3,r4,stepV]) rfl ⟨unhide BE,.inr ⟨_,_,unhide E,rfl⟩⟩
  | true=>
   have hm':wr.cell? ⟨0,0,none⟩=some (.int .i64 m):=by rw [(unhide hst).below.cell (p:=⟨0,0,none⟩) (block_lt_of_cell (unhide HM))];exact unhide HM
   have q1:=cut_sp x m wr hx hm'
   have LF:Hid (L0=(if hasB 32 x.data.toList && litB (Lib.decDigits V) (upto 32 x.data.toList) then (litsP (Lib.decDigits V) f' (x.data.toList.drop ((upto 32 x.data.toList).length + 1))).map (litVal (upto 32 x.data.toList) :: ·) else none).map (fun c=>acc ++ c)):=by
    unfold Hid;rw [unhide hL];conv=>lhs;unfold litsP
    simp only [Bool.not_eq_true',ByteArray.toList_eq] at hz
    rw [hz];rfl
   have BN:Hid (Below w.heap.size w wr):=(unhide hst).below
   go_wp2_with fail
   with_reducible refine q1.mono ?_
   rintro e2 w2 ⟨y,z,rfl,hyz,n,rfl⟩
   clear q1 hm'
   simp only []
   cases hb:hasB 32 x.data.toList with
   | false=>
    have E:Hid (lineB (Lib.decDigits V) s.data.toList=none):=by unfold Hid;rw [unhide LB,unhide LF,hb];rfl
    go_wp2
    refine bodyPost_ret (v:=.tuple #[stepV false (0,0) (0,0),.bool false]) (by simp [results,Tryz.results41,go_sem,r0,r1,r2,r3,r4,stepV]) rfl ⟨?_,.inl ⟨unhide E,rfl⟩⟩
    exact ((((((bel_drewN' (unhide BN) n).setCell (by simp) _).setCell (by simp) _).setCell (by simp) _).setCell (by simp) _).setCell (by simp) _)
   | true=>
    obtain ⟨hy,hzz⟩:=unhide hyz hb
    have yz:y.size ≤ 1048576:=by
     rw [len_of hy];have:(upto 32 x.data.toList).length ≤ x.data.toList.length:=(List.takeWhile_prefix _).length_le
     simp at this;omega
    have zz:z.size < x.size:=by rw [len_of hzz];have:=hasB_len hb;simp at this;simpa using this
    rw [hb,← hzz,← hy] at LF
    have HY:=hide hy
    clear hy hzz hyz hb hz
    have q2:=hide (fun W'=>isLiteral_any y v W' (by unfold maxLen;omega) (by unfold maxLen;omega))
    go_wp2_with fail
    refine (unhide q2 _).mono ?_
    rintro e3 w3 ⟨rfl,rfl⟩
    rw [unhide HV]
    simp only []
    cases hl:litB (Lib.decDigits V) y.data.toList with
    | false=>
     have E:Hid (lineB (Lib.decDigits V) s.data.toList=none):=by unfold Hid;rw [unhide LB,unhide LF,hl];rfl
     go_wp2
     refine bodyPost_ret (v:=.tuple #[stepV false (0,0) (0,0),.bool false]) (by simp [results,Tryz.results41,go_sem,r0,r1,r2,r3,r4,stepV]) rfl ⟨?_,.inl ⟨unhide E,rfl⟩⟩
     exact ((((((bel_drewN' (unhide BN) n).setCell (by simp) _).setCell (by simp) _).setCell (by simp) _).setCell (by simp) _).setCell (by simp) _)
    | true=>
     have ys:=lit_strip hV hl
     have ysz:y.size ≤ 18:=by
      have h1:=ys.2.2
      have h2:y.data.toList.length ≤ (strip y.data.toList).length + 1:=by unfold strip;split <;> simp;omega
      simp at h2;omega
     have l50:=lit50 hV hl
     have at':=atoi_lit hl (by omega)
     have LG:Hid (L0=(litsP (Lib.decDigits V) f' z.data.toList).map (fun c=>(acc ++ [litVal y.data.toList]) ++ c)):=by
      unfold Hid;rw [unhide LF,hl]
      simp only [Bool.and_self,if_true,Option.map_map]
      congr 1;funext c;simp
     generalize litVal y.data.toList=l at l50 at' LG
     have A50:Hid (∀ k ∈ acc ++ [l],In50 k):=fun k hk=>by
      rcases List.mem_append.1 hk with hk | hk
      ·exact unhide h50 k hk
      ·simp at hk;rw [hk];exact l50
     have il:=in50_lit l50
     have fok:(firstOf acc).ok:=by
      cases acc with
      | nil=>exact empty_ok
      | cons a r=>exact single_ok (in50_lit (unhide h50 a (List.mem_cons_self ..)))
     have sok:(setOf acc).ok:=setOf_ok fun k hk=>in50_lit (unhide h50 k hk)
     have FE:Hid (firstOf (acc ++ [l])=if emptyB (firstOf acc) then single l else firstOf acc):=by
      unfold Hid
      cases acc with
      | nil=>rfl
      | cons a r=>
       have:emptyB (firstOf (a :: r))=false:=by
        unfold emptyB firstOf
        rw [decide_eq_false_iff_not]
        intro e
        have h1:=has_single (isLit_ne (in50_lit (unhide h50 a (List.mem_cons_self ..)))) a
        have e':single a=(0,0):=e
        rw [e',has_empty] at h1;simp at h1
       rw [this];rfl
     have SE:Hid (setOf (acc ++ [l])=(setOf acc).un (single l)):=setOf_snoc acc l
     have p1:=hide (fun W'=>toInt_any y l W' ysz at')
     have p2:=hide (fun W'=>single_any l W' il)
     have p3:=hide (fun W'=>isEmpty_any (firstOf acc) W' fok)
     have p4:=hide (fun W'=>union_any (setOf acc) (single l) W' sok (single_ok il))
     rw [← unhide SE] at p4
     unfold keyV at p2 p3 p4
     clear l50 il fok sok at' ysz ys LF q2 hl SE r0 r1 r2 r3 r4 g0 g1 g2 g3 g4 HY
     generalize single l=sl at p2 p4 FE
     generalize hsk:setOf acc=sk at c1 c2 hst p4
     generalize hsn:setOf (acc ++ [l])=sn at p4
     generalize hfk:firstOf acc=fk at c3 c4 hst p3 FE
     have HSN:=hide hsn
     clear hsk hsn hfk
     go_wp2_with fail
     refine (unhide p1 _).mono ?_
     rintro e4 w4 ⟨rfl,hb4⟩
     have st4:=hide ((unhide hst).later ((bel_drewN' (Below.refl _ _) n).trans hb4))
     clear hb4 hst
     simp only []
     go_wp2_with fail
     refine (unhide p2 _).mono ?_
     rintro e5 w5 ⟨rfl,hb5⟩
     have st5:=hide ((unhide st4).later hb5)
     clear hb5 st4
     have st6:=fun o=>(unhide st5).later ((Below.refl _ w5).alloc (Nat.le_refl _) o)
     have ST6:=hide st6
     have d3:=fun o=>(st6 o).cur.cell (i:=3) (by omega)
     have d4:=fun o=>(st6 o).cur.cell (i:=4) (by omega)
     have h5:=(unhide st5).hs
     have n5:¬ w.heap.size + 1=w5.heap.size:=by omega
     have n5':¬ w5.heap.size=w.heap.size + 1:=by omega
     have k3:=(unhide st5).cur.cell (i:=3) (by omega)
     have k4:=(unhide st5).cur.cell (i:=4) (by omega)
     simp only [stepF] at d3 d4 k3 k4
     clear st6 c0 c1 c2 c3 c4
     simp only []
     go_wp2_with fail
     refine (unhide p3 _).mono ?_
     rintro e7 w7 ⟨rfl,hb7⟩
     have st7:=hide ((unhide ST6 _).later hb7)
     have l0:w7.cell? ⟨w5.heap.size,0,none⟩=some (.int .u64 (sl.1:Int)):=by rw [hb7.cell (p:=⟨w5.heap.size,0,none⟩) (by simp)];simp
     have l1:w7.cell? ⟨w5.heap.size,1,none⟩=some (.int .u64 (sl.2:Int)):=by rw [hb7.cell (p:=⟨w5.heap.size,1,none⟩) (by simp)];simp
     have h57:w5.heap.size < w7.heap.size:=block_lt_of_cell l0
     clear hb7 ST6 d3 d4 k3 k4
     have m1:=(unhide st7).cur.cell (i:=1) (by omega)
     have m2:=(unhide st7).cur.cell (i:=2) (by omega)
     have m3:=(unhide st7).cur.cell (i:=3) (by omega)
     have m4:=(unhide st7).cur.cell (i:=4) (by omega)
     have z1:=(unhide st7).cur.frozen 1
     have z2:=(unhide st7).cur.frozen 2
     have z3:=(unhide st7).cur.frozen 3
     have z4:=(unhide st7).cur.frozen 4
     simp only [stepF] at m1 m2 m3 m4
     simp only []
     cases he:emptyB fk with
     | true=>
      have FN:Hid (firstOf (acc ++ [l])=sl):=by unfold Hid;rw [unhide FE,he];rfl
      have s8:=hide ((unhide st7).setF sl)
      have v1:=(unhide s8).cur.cell (i:=1) (by omega)
      have v2:=(unhide s8).cur.cell (i:=2) (by omega)
      simp only [stepF] at v1 v2
      go_wp2_with fail
      refine (unhide p4 _).mono ?_
      rintro e9 w9 ⟨rfl,hb9⟩
      have s9:=hide ((unhide s8).later hb9)
      have o1:=(unhide s9).cur.cell (i:=1) (by omega)
      have o2:=(unhide s9).cur.cell (i:=2) (by omega)
      have y1:=(unhide s9).cur.frozen 1
      have y2:=(unhide s9).cur.frozen 2
      simp only [stepF] at o1 o2
      have s10:=hide ((unhide s9).setS sn)
      clear hb9 s8 s9 v1 v2 m1 m2 m3 m4
      simp only []
      go_wp2
      go_roundw
      case rel=>exact ⟨z,f',acc ++ [l],rfl,by omega,by omega,LG,A50,by rw [unhide HSN,unhide FN];exact s10⟩
      case measure=>simpa [sizeOfStr] using zz
     | false=>
      have FN:Hid (firstOf (acc ++ [l])=fk):=by unfold Hid;rw [unhide FE,he];rfl
      go_wp2_with fail
      refine (unhide p4 _).mono ?_
      rintro e9 w9 ⟨rfl,hb9⟩
      have s9:=hide ((unhide st7).later hb9)
      have o1:=(unhide s9).cur.cell (i:=1) (by omega)
      have o2:=(unhide s9).cur.cell (i:=2) (by omega)
      have y1:=(unhide s9).cur.frozen 1
      have y2:=(unhide s9).cur.frozen 2
      simp only [stepF] at o1 o2
      have s10:=hide ((unhide s9).setS sn)
      clear hb9 s9 m1 m2 m3 m4
      simp only []
      go_wp2
      go_roundw
      case rel=>exact ⟨z,f',acc ++ [l],rfl,by omega,by omega,LG,A50,by rw [unhide HSN,unhide FN];exact s10⟩
      case measure=>simpa [sizeOfStr] using zz
end Rd
end Go.Proofs.YtceahffmenbibaaGreatDoor
namespace Go.Proofs.YtceahffmenbibaaGreatDoor
namespace Rd
open Go Go.RowKit Go.Deep
attribute [local go_sem ↓] Go.wp_at_zero Go.wp_at_succ
def IsrRet (B sb:Nat) (w:World) (cv:Value) (mb:Nat) (gone:Int) (u:Key) (es:List Ent) (L:List Cl) (c:Cl) (e:Ending) (w':World):Prop:=
 ∃ (b:Bool) (wv':Nat→Value) (es':List Ent) (wl':Nat→List Nat),e=.returned (.bool b)∧Below B w w'∧Keeps w w'∧Sto B sb w' cv mb gone u wv' es' wl'∧sigs es'=sigs es∧WInv es' wl'∧(b=true↔RightP L c)
def IsrCut (B sb:Nat) (W:World) (cv:Value) (mb:Nat) (gone:Int) (u:Key) (es:List Ent) (laid:Key) (p c:Value) (wx:World):Prop:=
 ∃ (db:Nat) (d:Key) (cf:Bool) (wv2:Nat→Value) (es2:List Ent) (wl2:Nat→List Nat),p=.pointer (some ⟨db,0,none⟩)∧c=.bool cf∧Hid (StoMem B sb W cv mb gone u wv2 es2 wl2 wx∧wx.rowIs db 84 2 (keyF d)∧SprPost es es2 (0,0) laid d cf∧WInv es2 wl2∧d.ok)
theorem isr_new {B sb mb:Nat} {W w8:World} {cv:Value} {gone:Int} {u:Key} {wv2:Nat→Value} {es es2:List Ent} {wl2:Nat→List Nat} {laid d:Key} {cf:Bool} (h:StoMem B sb W cv mb gone u wv2 es2 wl2 w8) (hP:SprPost es es2 (0,0) laid d cf) (hW:WInv es2 wl2) (hd:d.ok):
  IsrCut B sb W cv mb gone u es laid (.pointer (some ⟨w8.heap.size,0,none⟩)) (.bool cf) (w8.alloc (.cells #[.int .u64 (d.1:Int),.int .u64 (d.2:Int)] 84)):=
 ⟨_,d,cf,wv2,es2,wl2,rfl,rfl,h.later ((Below.refl _ _).alloc (Nat.le_refl _) _),rowIs_two _ _ _ _,hP,hW,hd⟩
theorem isr_set {B sb mb fb:Nat} {W w8:World} {cv:Value} {gone:Int} {u:Key} {wv2:Nat→Value} {es es2:List Ent} {wl2:Nat→List Nat} {laid d:Key} {cf:Bool} (h:StoMem B sb W cv mb gone u wv2 es2 wl2 w8) (hR:w8.rowIs fb 84 2 (keyF (0,0))) (hb:W.heap.size ≤ fb) (hP:SprPost es es2 (0,0) laid d cf) (hW:WInv es2 wl2) (hd:d.ok):
  IsrCut B sb W cv mb gone u es laid (.pointer (some ⟨fb,0,none⟩)) (.bool cf) ((w8.setCell ⟨fb,0,none⟩ (.int .u64 (d.1:Int))).setCell ⟨fb,1,none⟩ (.int .u64 (d.2:Int))):=
 ⟨fb,d,cf,wv2,es2,wl2,rfl,rfl,h.put hb hR d,keyF_set hR,hP,hW,hd⟩
set_option maxHeartbeats 4000000 in
set_option maxRecDepth 100000 in
theorem isRight_any {B sb mb:Nat} {cv:Value} {gone:Int} {u:Key} {wv:Nat→Value} {es:List Ent} {wl:Nat→List Nat} {L:List Cl} (c:Cl) (w:World) (hc:∀ l ∈ c,In50 l) (hlen:es.length ≤ 2097152)
  (hS:Sto B sb w cv mb gone u wv es wl) (hT:Tab B w) (hI:SInv es wl u L):
  Calls Tryz.prog 77 #[.pointer (some ⟨sb,0,none⟩),keyV (setOf c),keyV (firstOf c)] w fun e w'=>IsrRet B sb w cv mb gone u es L c e w':=by
 have HI:=hide hI
 have HC:=hide hc
 have HLEN:=hide hlen
 have aok:(setOf c).ok:=setOf_lit hc
 have fok:(firstOf c).ok:=by
  cases c with
  | nil=>exact empty_ok
  | cons l r=>exact single_ok (in50_lit (hc l (List.mem_cons_self ..)))
 have uok:=hI.units.ok
 have Q1:Hid (∀ V,Calls Tryz.prog 118 #[keyV (setOf c)] V fun e w'=>e=.returned (keyV (setOf c).op)∧Below V.heap.size V w'):=fun V=>opposites_any _ V
 have Q2:Hid (∀ V,Calls Tryz.prog 75 #[keyV u,keyV (setOf c).op] V fun e w'=>e=.returned (keyV (u.un (setOf c).op))∧Below V.heap.size V w'):=fun V=>union_any _ _ V uok (op_ok aok)
 have lok:(u.un (setOf c).op).ok:=un_ok uok (op_ok aok)
 obtain ⟨A,hA⟩:∃ A,setOf c=A:=⟨_,rfl⟩
 obtain ⟨F,hF⟩:∃ F,firstOf c=F:=⟨_,rfl⟩
 obtain ⟨laid,hL⟩:∃ k,u.un (setOf c).op=k:=⟨_,rfl⟩
 have HL:=hide hL
 have HF:=hide hF
 rw [hL] at Q2 lok
 rw [hA] at Q1 Q2 aok ⊢
 rw [hF] at fok ⊢
 generalize A.op=oA at Q1 Q2
 have R0:=hide hS
 have HTW:=hide hT
 unfold keyV at Q1 Q2 ⊢
 clear hS hT hI hc hlen hL hA hF
 go_enter Tryz.func77,Tryz.ntmps77
 go_upto_region 1 with fail
 obtain ⟨W,hWd⟩:∃ W,W=(w.alloc (Obj.cells #[Value.int IntKind.u64 (A.1:Int),Value.int IntKind.u64 (A.2:Int)] 84)).alloc (Obj.cells #[Value.int IntKind.u64 (F.1:Int),Value.int IntKind.u64 (F.2:Int)] 84):=⟨_,rfl⟩
 have BW:Hid (Below w.heap.size w W):=by rw [hWd];exact below2 (Below.refl _ _) (Nat.le_refl _) _ _
 have RA:Hid (W.rowIs w.heap.size 84 2 (keyF A)):=by rw [hWd];exact (rowIs_two w _ _ _).alloc _
 have RF:Hid (W.rowIs (w.heap.size + 1) 84 2 (keyF F)):=by rw [hWd];exact rowIs_two' w _ _ _ _
 rw [← hWd]
 clear hWd
 have M0:Hid (StoMem B sb W cv mb gone u wv es wl W):=StoMem.start ((unhide R0).later (unhide BW)) ((unhide HTW).later ((unhide BW).mono (unhide R0).bsize))
 have BW2:Hid (Below B w W):=(unhide BW).mono (unhide R0).bsize
 have KW2:Hid (Keeps w W):=Keeps.of_below (unhide BW)
 have QE:=hide (hasEmpty_any W (unhide HLEN) (unhide M0).sto)
 clear R0 HTW BW
 obtain ⟨em,hem⟩:∃ em,there es (0,0)=em:=⟨_,rfl⟩
 rw [hem] at QE
 have HEM:=hide hem
 clear hem
 go_wp2_with fail
 with_reducible refine (unhide QE).mono ?_
 rintro e6 w6 ⟨rfl,hb6⟩
 simp only []
 have M6:=hide ((unhide M0).later hb6)
 clear hb6 QE M0
 cases em with
 | true=>
  have RP:Hid (RightP L c):=.inl (conf_empty (unhide HI).rep (fun h=>by have:=(there_empty (unhide HI).dist).2 h;rw [unhide HEM] at this;cases this) _)
  go_wp2
  go_ret
  exact ⟨true,_,_,_,rfl,(unhide BW2).trans (unhide M6).below,(unhide KW2).trans (unhide M6).keeps,(unhide M6).sto,rfl,(unhide HI).winv,by simp only [true_iff];exact unhide RP⟩
 | false=>
  have NE:Hid (NoEmpty es):=(there_empty (unhide HI).dist).1 (unhide HEM)
  have Q3:Hid (∀ V,Below w6.heap.size w6 V→Calls Tryz.prog 117 #[.pointer (some ⟨sb,0,none⟩),keyV (0,0),keyV laid] V fun e w'=>∃ (dd:Key) (cf:Bool) (wv2:Nat→Value) (es2:List Ent) (wl2:Nat→List Nat),e=.returned (.tuple #[keyV dd,.bool cf])∧Hid (StoMem B sb W cv mb gone u wv2 es2 wl2 w'∧Keeps V w'∧SprPost es es2 (0,0) laid dd cf∧WInv es2 wl2∧dd.ok)):=fun V hV=>by
   have MV:=(unhide M6).later hV
   with_reducible refine (spread_any (0,0) laid V empty_ok lok (unhide HLEN) MV.sto MV.tab (unhide HI).winv (rest_empty _)).mono ?_
   rintro e w' ⟨dd,cf,wv2,es2,wl2,h1,h2,h3,h4,h5,h6,h7⟩
   exact ⟨dd,cf,wv2,es2,wl2,h1,MV.step h4 h3 h2,h3,h5,h6,h7⟩
  unfold keyV at Q3
  obtain ⟨a0,a1,_,_⟩:=row_facts ((unhide M6).row (unhide RA))
  have lA:=(unhide ((unhide M6).row (unhide RA))).lt
  have u0:=((unhide M6).sto.head 3 (by omega)).1
  have u1:=((unhide M6).sto.head 4 (by omega)).1
  unfold stoF at u0 u1
  have lS:=(unhide M6).sto.row.lt
  have WW:W.heap.size ≤ w6.heap.size:=(unhide M6).below.size
  have KS:Hid (∀ V,Below w6.heap.size w6 V→V.cell? ⟨sb,3,none⟩=some (.int .u64 (u.1:Int))∧V.cell? ⟨sb,4,none⟩=some (.int .u64 (u.2:Int))):=fun V h=>
   ⟨(h.cell (p:=⟨sb,3,none⟩) lS).trans u0,(h.cell (p:=⟨sb,4,none⟩) lS).trans u1⟩
  go_upto_region 3 with fail
  go_cut [7,8] from 9 (fun p c wx=>IsrCut B sb W cv mb gone u es laid p c wx)
  case first=>
   have n1:¬ (w.heap.size=w6.heap.size):=by omega
   have n3:¬ (sb=w6.heap.size):=by omega
   have n4:¬ (w6.heap.size=w.heap.size):=by omega
   have n6:¬ (w6.heap.size=sb):=by omega
   have lH:w.heap.size < w6.heap.size:=lA
   have lS':sb < w6.heap.size:=lS
   go_region_with (first
    |(go_at_call 118;refine (unhide Q1 _).mono ?_;rintro e7 w7 ⟨rfl,hb7⟩;have B7:Hid (Below w6.heap.size w6 w7):=(by first | exact hb7 | exact (Below.refl _ _).drew.trans hb7 | exact ((Below.refl _ _).drew.alloc (Nat.le_refl _) _).drew.trans (hb7.mono (by simp)) | exact ((Below.refl _ _).alloc (Nat.le_refl _) _).drew.trans (hb7.mono (by simp)) | exact ((Below.refl _ _).alloc (Nat.le_refl _) _).trans (hb7.mono (by simp)) | exact ((Below.refl _ _).drew.alloc (Nat.le_refl _) _).trans (hb7.mono (by simp)));obtain ⟨m0,m1⟩:=unhide KS w7 (unhide B7);have s7:w6.heap.size ≤ w7.heap.size:=(unhide B7).size;have n7:¬ (sb=w7.heap.size):=(by omega);have l7:sb < w7.heap.size:=(by omega);(first | (have N7:=(by with_reducible exact new_two hb7)) | (have N7:=(by with_reducible exact new_two' hb7)) | skip);clear hb7;simp only [])
    |(go_at_call 75;refine (unhide Q2 _).mono ?_;rintro e8 w8 ⟨rfl,hb8⟩;have B8:Hid (Below w6.heap.size w6 w8):=(by first | exact (unhide B7).trans (hb8.mono s7) | exact (unhide B7).drew.trans (hb8.mono s7) | exact ((unhide B7).alloc s7 _).trans (hb8.mono (by simp;omega)) | exact ((unhide B7).alloc s7 _).drew.trans (hb8.mono (by simp;omega)) | exact ((unhide B7).drew.alloc s7 _).trans (hb8.mono (by simp;omega)) | exact ((unhide B7).drew.alloc s7 _).drew.trans (hb8.mono (by simp;omega)));have s8:w6.heap.size ≤ w8.heap.size:=(unhide B8).size;(first | (have N8:=(by with_reducible exact new_two hb8)) | (have N8:=(by with_reducible exact new_two' hb8)) | (have N8:=(by with_reducible exact old_two hb8 N7)) | (have N8:=(by with_reducible exact old_two' hb8 N7)) | skip);clear hb8;simp only [])
    |(go_at_call 117;refine (unhide Q3 _ (by first | exact unhide B8 | exact (unhide B8).drew | exact (unhide B8).alloc s8 _ | exact ((unhide B8).alloc s8 _).drew | exact ((unhide B8).drew.alloc s8 _) | exact ((unhide B8).drew.alloc s8 _).drew)).mono ?_;rintro e9 w9 ⟨dd,cf,wv2,es2,wl2,rfl,H9⟩;(first | (have R9:=(by with_reducible exact kept_new (unhide H9).2.1);obtain ⟨z0,z1,z2,z3⟩:=row_facts R9) | (have R9:=(by with_reducible exact kept_new' (unhide H9).2.1);obtain ⟨z0,z1,z2,z3⟩:=row_facts R9) | (have R9:=(by with_reducible exact kept_old (unhide H9).2.1 N8);obtain ⟨z0,z1,z2,z3⟩:=row_facts R9) | (have R9:=(by with_reducible exact kept_old' (unhide H9).2.1 N8);obtain ⟨z0,z1,z2,z3⟩:=row_facts R9) | skip);simp only []))
   all_goals
    go_wp2_with fail
    go_meet
    first
     | exact isr_new (unhide H9).1 (unhide H9).2.2.1 (unhide H9).2.2.2.1 (unhide H9).2.2.2.2
     | exact isr_set (unhide H9).1 (unhide R9) (by omega) (unhide H9).2.2.1 (unhide H9).2.2.2.1 (unhide H9).2.2.2.2
  case rest=>
   obtain ⟨db,d,cf,wv2,es2,wl2,rfl,rfl,HX⟩:=hcut
   have SG:Hid (sigs es2=sigs es):=(unhide HX).2.2.1.same
   have MC:=hide (unhide HX).1
   have WI:=hide (unhide HX).2.2.2.1
   have PX:Hid (SprPost es es2 (0,0) (u.un (setOf c).op) d cf):=by
    have:=(unhide HX).2.2.1
    rw [← unhide HL] at this;exact this
   have dok:=(unhide HX).2.2.2.2
   have RI:Hid (cf=true↔Conf L (opp c 0)):=rup_iff (unhide HI).rep (unhide HC) (unhide PX) (unhide WI) (unhide HI).units (unhide NE)
   clear KS Q1 Q2 Q3 a0 a1 u0 u1 lA lS
   cases cf with
   | true=>
    have RP:Hid (RightP L c):=.inl ((unhide RI).1 rfl)
    go_wp2
    go_ret
    exact ⟨true,_,_,_,rfl,(unhide BW2).trans (unhide MC).below,(unhide KW2).trans (unhide MC).keeps,(unhide MC).sto,unhide SG,unhide WI,by simp only [true_iff];exact unhide RP⟩
   | false=>
    have NC:Hid (¬ Conf L (opp c 0)):=fun h=>by have:=(unhide RI).2 h;cases this
    have QI:Hid (∀ V,Calls Tryz.prog 74 #[keyV F] V fun e w'=>e=.returned (.bool (emptyB F))∧Below V.heap.size V w'):=fun V=>isEmpty_any F V fok
    obtain ⟨f0,f1,_,_⟩:=row_facts ((unhide MC).row (unhide RF))
    have lF:=(unhide ((unhide MC).row (unhide RF))).lt
    cases c with
    | nil=>
     have F0:(0,0)=F:=unhide HF
     subst F0
     have NR:Hid (¬ RightP L []):=rightP_nil (unhide NC)
     rw [show emptyB (0,0)=true by decide] at QI
     unfold keyV at QI
     go_wp2_with fail
     first | go_region_with (go_at_call 74;refine (unhide QI _).mono ?_;rintro e7 w7 ⟨rfl,hb7⟩;have B7:Hid (Below wc.heap.size wc w7):=(by first | exact hb7 | exact (Below.refl _ _).drew.trans hb7);clear hb7;simp only []) | fail
     all_goals
      have M7:=hide ((unhide MC).later (unhide B7))
      go_wp2
      go_ret
      exact ⟨false,_,_,_,rfl,(unhide BW2).trans (unhide M7).below,(unhide KW2).trans (unhide M7).keeps,(unhide M7).sto,unhide SG,unhide WI,by simp only [Bool.false_eq_true,false_iff];exact unhide NR⟩
    | cons l r=>
     have F0:single l=F:=unhide HF
     have il:IsLit l:=in50_lit (unhide HC l (List.mem_cons_self ..))
     have l0:=isLit_ne il
     have ne:F ≠ (0,0):=by rw [← F0];exact (nonempty_iff _).2 ⟨l,by rw [has_single l0];simp⟩
     rw [show emptyB F=false by unfold emptyB;exact decide_eq_false ne] at QI
     have QO:Hid (∀ V,Calls Tryz.prog 118 #[keyV F] V fun e w'=>e=.returned (keyV (single (-l)))∧Below V.heap.size V w'):=fun V=>by
      have:=opposites_any F V
      rw [show F.op=single (-l) by rw [← F0];exact single_op l0] at this
      exact this
     have UD:Hid (∀ x,u.has x=true→d.has x=true):=fun x hx=>((unhide PX).spr rfl).inc x (by rw [has_un,has_un,hx];simp)
     have QR:Hid (∀ V,Below wc.heap.size wc V→Calls Tryz.prog 119 #[.pointer (some ⟨sb,0,none⟩),keyV d,keyV (single (-l))] V fun e w'=>∃ (b:Bool) (wv':Nat→Value) (es':List Ent) (wl':Nat→List Nat),e=.returned (.bool b)∧Hid (StoMem B sb W cv mb gone u wv' es' wl' w'∧sigs es'=sigs es∧WInv es' wl'∧(b=true↔RightP L (l :: r)))):=fun V hV=>by
      have MV:=(unhide MC).later hV
      with_reducible refine (rightByOthers_any d l V dok il (by rw [sigs_len (unhide SG)];exact unhide HLEN) MV.sto MV.tab (unhide WI) ((unhide PX).spr rfl).rest (units_sigs (unhide SG) (unhide HI).units) (noEmpty_sigs (unhide SG) (unhide NE)) (unhide UD)).mono ?_
      rintro e w' ⟨b,wv',es',wl',h1,h2,h3,h4,h5,h6,h7⟩
      refine ⟨b,wv',es',wl',h1,MV.step h4 h3 h2,h5.trans (unhide SG),h6,?_⟩
      rw [h7,rightP_of (unhide HI).rep (unhide HC) ⟨r,rfl⟩ (unhide PX) (unhide HI).units (unhide NC)]
      have key:∀ e,RatOk es2 d l e↔RatOk es d l e:=fun e=>
       ⟨fun h a b M x y z=>h a b M x y ((stableE_sigs (unhide SG)).1 z),fun h a b M x y z=>h a b M x y ((stableE_sigs (unhide SG)).2 z)⟩
      constructor
      ·intro h e he
       obtain ⟨e',he',q1,q2⟩:=sigs_mem (unhide SG).symm he
       have:=(key e').1 (h e' he')
       unfold RatOk at this ⊢
       rw [q1,q2] at this;exact this
      ·intro h e he
       obtain ⟨e',he',q1,q2⟩:=sigs_mem (unhide SG) he
       have:=(key e').2 (h e' he')
       unfold RatOk at this ⊢
       rw [q1,q2] at this;exact this
     have DR:=hide (unhide HX).2.1
     obtain ⟨d0,d1,_,_⟩:=row_facts DR
     have lD:=(unhide DR).lt
     unfold keyV at QI QO QR
     obtain ⟨ml,hml⟩:∃ s,single (-l)=s:=⟨_,rfl⟩
     rw [hml] at QO QR
     have KS:Hid (∀ V,Below wc.heap.size wc V→(V.cell? ⟨db,0,none⟩=some (.int .u64 (d.1:Int))∧V.cell? ⟨db,1,none⟩=some (.int .u64 (d.2:Int)))∧V.cell? ⟨w.heap.size + 1,0,none⟩=some (.int .u64 (F.1:Int))∧V.cell? ⟨w.heap.size + 1,1,none⟩=some (.int .u64 (F.2:Int))):=fun V h=>
      ⟨⟨(h.cell (p:=⟨db,0,none⟩) lD).trans d0,(h.cell (p:=⟨db,1,none⟩) lD).trans d1⟩,(h.cell (p:=⟨w.heap.size + 1,0,none⟩) lF).trans f0,(h.cell (p:=⟨w.heap.size + 1,1,none⟩) lF).trans f1⟩
     clear hml F0 ne
     go_wp2_with fail
     go_region_with (first
      |(go_at_call 74;refine (unhide QI _).mono ?_;rintro e7 w7 ⟨rfl,hb7⟩;have B7:Hid (Below wc.heap.size wc w7):=(by first | exact hb7 | exact (Below.refl _ _).drew.trans hb7);obtain ⟨⟨m0,m1⟩,m2,m3⟩:=unhide KS w7 (unhide B7);clear hb7;simp only [])
      |(go_at_call 118;refine (unhide QO _).mono ?_;rintro e8 w8 ⟨rfl,hb8⟩;have B8:Hid (Below wc.heap.size wc w8):=(by first | exact (unhide B7).trans (hb8.mono (unhide B7).size) | exact (unhide B7).drew.trans (hb8.mono (unhide B7).size));obtain ⟨⟨q0,q1⟩,q2,q3⟩:=unhide KS w8 (unhide B8);clear hb8;simp only [])
      |(go_at_call 119;refine (unhide QR _ (by first | exact unhide B8 | exact (unhide B8).drew)).mono ?_;rintro e9 w9 ⟨b,wv9,es9,wl9,rfl,H9⟩;simp only []))
     all_goals
      go_wp2
      go_ret
      exact ⟨b,_,_,_,rfl,(unhide BW2).trans (unhide H9).1.below,(unhide KW2).trans (unhide H9).1.keeps,(unhide H9).1.sto,(unhide H9).2.1,(unhide H9).2.2.1,(unhide H9).2.2.2⟩
end Rd
end Go.Proofs.YtceahffmenbibaaGreatDoor
namespace Go.Proofs.YtceahffmenbibaaGreatDoor
namespace Rd
open Go Go.RowKit Go.Deep
def CheckRet (s proof:ByteArray) (e:Ending):Prop:=∃ n f,e=.returned (.tuple #[.int .i64 n,.int .i64 f])∧Checked s.data.toList proof.data.toList (n,f)
theorem rem_mem:∀ {L:List Cl} {c:Cl} {L':List Cl},rem L c=some L'→(∀ d ∈ L',d ∈ L)∧L'.length ≤ L.length
 | [],c,L',h=>by simp [rem] at h
 | d :: r,c,L',h=>by
  unfold rem at h
  split at h
  ·cases h;exact ⟨fun x hx=>List.mem_cons_of_mem _ hx,by simp⟩
  ·obtain ⟨M,hM,rfl⟩:=Option.map_eq_some_iff.1 h
   obtain ⟨h1,h2⟩:=rem_mem hM
   refine ⟨fun x hx=>?_,by simp;omega⟩
   rcases List.mem_cons.1 hx with rfl | hx
   ·exact List.mem_cons_self ..
   ·exact List.mem_cons_of_mem _ (h1 x hx)
end Rd
end Go.Proofs.YtceahffmenbibaaGreatDoor
namespace Go.Proofs.YtceahffmenbibaaGreatDoor
namespace Rd
open Go Go.RowKit Go.Deep
attribute [local go_sem ↓] Go.wp_at_zero Go.wp_at_succ
def Has (B sb:Nat) (L:List Cl) (N:Nat) (w:World):Prop:=
 ∃ (cv:Value) (mb:Nat) (gone:Int) (u:Key) (wv:Nat→Value) (es:List Ent) (wl:Nat→List Nat),Sto B sb w cv mb gone u wv es wl∧SInv es wl u L∧es.length ≤ N∧-(N:Int) ≤ gone∧gone ≤ (N:Int)∧L.length ≤ N
variable {B sb N:Nat} {L:List Cl} {c:Cl} {w w':World}
theorem Has.later (h:Has B sb L N w) (hb:Below w.heap.size w w'):Has B sb L N w':=by
 obtain ⟨cv,mb,gone,u,wv,es,wl,h1,r⟩:=h
 exact ⟨cv,mb,gone,u,wv,es,wl,h1.later hb,r⟩
theorem Has.bsize (h:Has B sb L N w):B ≤ w.heap.size:=by
 obtain ⟨cv,mb,gone,u,wv,es,wl,h1,r⟩:=h
 exact h1.bsize
theorem addE_len (es:List Ent) (s:Key):(addE es s).length ≤ es.length + 1:=by
 unfold addE
 split <;> simp
theorem add_has (h:Has B sb L N w) (hT:Tab B w) (hc:∀ l ∈ c,In50 l) (hN:N ≤ 1048576):
  Calls Tryz.prog 68 #[.pointer (some ⟨sb,0,none⟩),keyV (setOf c)] w fun e w'=>e=.returned (.tuple #[])∧Below B w w'∧Keeps w w'∧Has B sb (L ++ [c]) (N + 1) w':=by
 obtain ⟨cv,mb,gone,u,wv,es,wl,h1,h2,h3,h4,h5,h6⟩:=h
 refine (add_any (setOf c) w (setOf_lit hc) h2.units.ok (by omega) (fun k hk=>Nat.le_trans (h2.winv.len hk) (by omega)) ⟨by omega,by omega⟩ (fun e he=>by rw [h2.cnt e he];exact Nat.le_trans List.countP_le_length (by omega)) h1 hT).mono ?_
 rintro e w' ⟨q1,q2,q3,cv',wv',g',q4,q5⟩
 refine ⟨q1,q2,q3,cv',mb,g',_,wv',_,_,q5,h2.add hc,Nat.le_trans (addE_len _ _) (by omega),?_,?_,by simp;omega⟩
 ·rcases q4 with e | e <;> rw [e] <;> omega
 ·rcases q4 with e | e <;> rw [e] <;> omega
theorem rem_has (h:Has B sb L N w) (hT:Tab B w) (hc:∀ l ∈ c,In50 l) (hN:N ≤ 1048576):
  Calls Tryz.prog 76 #[.pointer (some ⟨sb,0,none⟩),keyV (setOf c)] w fun e w'=>Below B w w'∧Keeps w w'∧((rem L c=none∧e=.returned (.bool false)∧Has B sb L N w')∨∃ L',rem L c=some L'∧e=.returned (.bool true)∧Has B sb L' (N + 1) w'):=by
 obtain ⟨cv,mb,gone,u,wv,es,wl,h1,h2,h3,h4,h5,h6⟩:=h
 refine (remove_any c w hc (by omega) ⟨by omega,by omega⟩ h1 hT h2 (by omega)).mono ?_
 rintro e w' ⟨q1,q2,q3⟩
 refine ⟨q1,q2,?_⟩
 rcases q3 with ⟨r1,r2,cv',mb',g',u',wv',es',wl',r3,r4,r5,r6⟩ | ⟨L',r1,r2,cv',mb',g',u',wv',es',wl',r3,r4,r5,r6⟩
 ·exact .inl ⟨r1,r2,cv',mb',g',u',wv',es',wl',r3,r4,by omega,by omega,by omega,h6⟩
 ·exact .inr ⟨L',r1,r2,cv',mb',g',u',wv',es',wl',r3,r4,by omega,by omega,by omega,by have:=(rem_mem r1).2;omega⟩
theorem right_has (h:Has B sb L N w) (hT:Tab B w) (hc:∀ l ∈ c,In50 l) (hN:N ≤ 1048576):
  Calls Tryz.prog 77 #[.pointer (some ⟨sb,0,none⟩),keyV (setOf c),keyV (firstOf c)] w fun e w'=>∃ b,e=.returned (.bool b)∧Below B w w'∧Keeps w w'∧Has B sb L N w'∧(b=true↔RightP L c):=by
 obtain ⟨cv,mb,gone,u,wv,es,wl,h1,h2,h3,h4,h5,h6⟩:=h
 refine (isRight_any c w hc (by omega) h1 hT h2).mono ?_
 rintro e w' ⟨b,wv',es',wl',q1,q2,q3,q4,q5,q6,q7⟩
 exact ⟨b,q1,q2,q3,⟨cv,mb,gone,u,wv',es',wl',q4,h2.same q5 q6,by rw [sigs_len q5];exact h3,h4,h5,h6⟩,q7⟩
def TakeRet (B sb:Nat) (L:List Cl) (N:Nat) (g:Bool) (c:Cl) (w:World) (e:Ending) (w':World):Prop:=Below B w w'∧Keeps w w'∧
 ((g=true∧rem L c=none∧e=.returned (.bool false))∨(∃ L',g=true∧rem L c=some L'∧e=.returned (.bool true)∧Has B sb L' (N + 1) w') ∨
  (g=false∧¬ RightP L c∧e=.returned (.bool false))∨(g=false∧RightP L c∧e=.returned (.bool true)∧Has B sb (L ++ [c]) (N + 1) w'))
set_option maxHeartbeats 1000000 in
set_option maxRecDepth 100000 in
theorem take_any (g:Bool) (h:Has B sb L N w) (hT:Tab B w) (hc:∀ l ∈ c,In50 l) (hN:N ≤ 1048576):
  Calls Tryz.prog 42 #[.pointer (some ⟨sb,0,none⟩),stepV g (setOf c) (firstOf c)] w fun e w'=>TakeRet B sb L N g c w e w':=by
 have HH:=hide h
 have HT:=hide hT
 have HC:=hide hc
 have hB:=h.bsize
 have QR:Hid (∀ V,Below w.heap.size w V→Calls Tryz.prog 76 #[.pointer (some ⟨sb,0,none⟩),keyV (setOf c)] V fun e w'=>Below B w w'∧Keeps w w'∧((rem L c=none∧e=.returned (.bool false))∨∃ L',rem L c=some L'∧e=.returned (.bool true)∧Has B sb L' (N + 1) w')):=fun V hV=>by
  refine (rem_has ((unhide HH).later hV) ((unhide HT).later (hV.mono hB)) (unhide HC) hN).mono ?_
  rintro e w' ⟨q1,q2,q3⟩
  refine ⟨(hV.mono hB).trans q1,(Keeps.of_below hV).trans q2,?_⟩
  rcases q3 with ⟨r1,r2,_⟩ | r
  ·exact .inl ⟨r1,r2⟩
  ·exact .inr r
 have QI:Hid (∀ V,Below w.heap.size w V→Calls Tryz.prog 77 #[.pointer (some ⟨sb,0,none⟩),keyV (setOf c),keyV (firstOf c)] V fun e w'=>∃ b,e=.returned (.bool b)∧Hid (Below B w w'∧Keeps V w'∧Has B sb L N w'∧Tab B w'∧(b=true↔RightP L c))):=fun V hV=>by
  have T:=(unhide HT).later (hV.mono hB)
  refine (right_has ((unhide HH).later hV) T (unhide HC) hN).mono ?_
  rintro e w' ⟨b,q1,q2,q3,q4,q5⟩
  exact ⟨b,q1,(hV.mono hB).trans q2,q3,q4,T.later q2,q5⟩
 have QA:Hid (∀ V,Has B sb L N V→Tab B V→Calls Tryz.prog 68 #[.pointer (some ⟨sb,0,none⟩),keyV (setOf c)] V fun e w'=>e=.returned (.tuple #[])∧Below B V w'∧Keeps V w'∧Has B sb (L ++ [c]) (N + 1) w'):=fun V h1 h2=>add_has h1 h2 (unhide HC) hN
 obtain ⟨s,hs⟩:∃ s,setOf c=s:=⟨_,rfl⟩
 obtain ⟨f,hf⟩:∃ f,firstOf c=f:=⟨_,rfl⟩
 rw [hs] at QR QI QA ⊢
 rw [hf] at QI ⊢
 unfold keyV at QR QI QA
 unfold stepV
 clear h hT hc hs hf
 go_enter Tryz.func42,Tryz.ntmps42
 go_upto_region 1 with fail
 obtain ⟨W,hWd⟩:∃ W,W=w.alloc (Obj.cells #[.bool g,.int .u64 (s.1:Int),.int .u64 (s.2:Int),.int .u64 (f.1:Int),.int .u64 (f.2:Int)] 86):=⟨_,rfl⟩
 have BW:Hid (Below w.heap.size w W):=by rw [hWd];exact (Below.refl _ _).alloc (Nat.le_refl _) _
 have FW:Hid (Foreign W w.heap.size):=by rw [hWd];exact foreign_new _ _ _ (by decide)
 have x0:W.cell? ⟨w.heap.size,0,none⟩=some (.bool g):=by rw [hWd];simp
 have x1:W.cell? ⟨w.heap.size,1,none⟩=some (.int .u64 (s.1:Int)):=by rw [hWd];simp
 have x2:W.cell? ⟨w.heap.size,2,none⟩=some (.int .u64 (s.2:Int)):=by rw [hWd];simp
 have x3:W.cell? ⟨w.heap.size,3,none⟩=some (.int .u64 (f.1:Int)):=by rw [hWd];simp
 have x4:W.cell? ⟨w.heap.size,4,none⟩=some (.int .u64 (f.2:Int)):=by rw [hWd];simp
 rw [← hWd]
 clear hWd
 cases g with
 | true=>
  go_wp2_with fail
  with_reducible refine (unhide QR _ (unhide BW)).mono ?_
  rintro e6 w6 ⟨q1,q2,q3⟩
  have B6:=hide q1
  have K6:=hide q2
  clear q1 q2
  rcases q3 with ⟨r1,rfl⟩ | ⟨L',r1,rfl,r3⟩
  ·have R:=hide r1
   clear r1
   simp only []
   go_wp2
   go_ret
   exact ⟨unhide B6,unhide K6,.inl ⟨rfl,unhide R,rfl⟩⟩
  ·have R:=hide r1
   have R3:=hide r3
   clear r1 r3
   simp only []
   go_wp2
   go_ret
   exact ⟨unhide B6,unhide K6,.inr (.inl ⟨L',rfl,unhide R,rfl,unhide R3⟩)⟩
 | false=>
  go_wp2_with fail
  with_reducible refine (unhide QI _ (unhide BW)).mono ?_
  rintro e6 w6 ⟨b,rfl,H6⟩
  simp only []
  have z1:=((unhide H6).2.1.cell (j:=1) (unhide FW)).trans x1
  have z2:=((unhide H6).2.1.cell (j:=2) (unhide FW)).trans x2
  have KW:Hid (Keeps w w6):=(Keeps.of_below (unhide BW)).trans (unhide H6).2.1
  clear x0 x1 x2 x3 x4
  cases b with
  | false=>
   have R:Hid (¬ RightP L c):=fun h=>by have:=(unhide H6).2.2.2.2.2 h;cases this
   go_wp2
   go_ret
   exact ⟨(unhide H6).1,unhide KW,.inr (.inr (.inl ⟨rfl,unhide R,rfl⟩))⟩
  | true=>
   have R:Hid (RightP L c):=(unhide H6).2.2.2.2.1 rfl
   go_wp2_with fail
   with_reducible refine (unhide QA _ (unhide H6).2.2.1 (unhide H6).2.2.2.1).mono ?_
   rintro e7 w7 ⟨rfl,q1,q2,q3⟩
   simp only []
   have BE:=hide ((unhide H6).1.trans q1)
   have KE:=hide ((unhide KW).trans q2)
   have HE:=hide q3
   clear q1 q2 q3
   go_wp2
   go_ret
   exact ⟨unhide BE,unhide KE,.inr (.inr (.inr ⟨rfl,unhide R,rfl,unhide HE⟩))⟩
set_option maxHeartbeats 1000000 in
theorem ends_any (g:Bool) (s f:Key) (hs:s.ok) (w:World):
  Calls Tryz.prog 43 #[stepV g s f] w fun e w'=>e=.returned (.bool (!g && emptyB s))∧Below w.heap.size w w':=by
 have QE:=hide (fun V=>isEmpty_any s V hs)
 unfold keyV at QE
 unfold stepV
 obtain ⟨em,hem⟩:∃ em,emptyB s=em:=⟨_,rfl⟩
 rw [hem] at QE ⊢
 clear hem
 go_enter Tryz.func43,Tryz.ntmps43
 cases g with
 | true=>
  have BW:Hid (Below w.heap.size w (w.alloc (.cells #[.bool true,.int .u64 (s.1:Int),.int .u64 (s.2:Int),.int .u64 (f.1:Int),.int .u64 (f.2:Int)] 86))):=(Below.refl _ _).alloc (Nat.le_refl _) _
  go_wp2
  go_ret
  exact ⟨rfl,unhide BW⟩
 | false=>
  have BW:Hid (Below w.heap.size w (w.alloc (.cells #[.bool false,.int .u64 (s.1:Int),.int .u64 (s.2:Int),.int .u64 (f.1:Int),.int .u64 (f.2:Int)] 86))):=(Below.refl _ _).alloc (Nat.le_refl _) _
  go_wp2_with fail
  with_reducible refine (unhide QE _).mono ?_
  rintro e6 w6 ⟨rfl,hb6⟩
  simp only []
  have B6:Hid (Below w.heap.size w w6):=(unhide BW).trans (hb6.mono (by simp))
  clear hb6
  go_wp2
  go_ret
  exact ⟨by simp,unhide B6⟩
end Rd
end Go.Proofs.YtceahffmenbibaaGreatDoor
