/- Pnew Pchk. -/
import Derived.Test.YtceahffmenbibaaGreatDoorG26
import Derived.Test.YtceahffmenbibaaGreatDoorG12
set_option linter.unusedVariables false
set_option linter.unusedSimpArgs false
namespace Go.Proofs.YtceahffmenbibaaGreatDoor
namespace Rd
open Go Go.RowKit Go.Deep
attribute [local go_sem ↓] Go.wp_at_zero Go.wp_at_succ
theorem newRow_set1 (mb:Nat):Tryz.zeroCells134.setIfInBounds 1 (.map (some mb))=(newRow mb (0,0)).toArray:=by
 apply Array.toList_inj.1
 rw [Array.toList_setIfInBounds,Tryz.zeroSto];rfl
def NewRel (H:Nat) (w:World) (cl:List Cl) (i11:Value) (wr:World):Prop:=
 ∃ i:Nat,i11=.int .i64 i∧i ≤ cl.length∧Hid (Below H w wr∧Has H (H + 1) (cl.take i) i wr∧Tab H wr)
set_option maxHeartbeats 1000000 in
set_option maxRecDepth 100000 in
theorem newStore_any (cl:List Cl) (v:Value) (w:World) (hv:RdLists w v cl) (hl:∀ c ∈ cl,∀ l ∈ c,In50 l) (hlen:cl.length ≤ 20001) (hln:∀ c ∈ cl,c.length ≤ 20001) (hT:Tab w.heap.size w):
  Calls Tryz.prog 39 #[v] w fun e w'=>e=.returned (.pointer (some ⟨w.heap.size + 1,0,none⟩))∧Below w.heap.size w w'∧Has w.heap.size (w.heap.size + 1) cl cl.length w'∧Tab w.heap.size w':=by
 obtain ⟨a,cp,b,rfl,ha,hcl⟩:=hv
 have HCL:=hide hcl
 have HL:=hide hl
 have HLN:=hide hln
 have hmm:=@run_makeMap Tryz.prog
 clear hcl hl hln
 go_enter Tryz.func39,Tryz.ntmps39
 go_upto_region 2 with fail
 obtain ⟨Y,hY⟩:∃ Y,Y=(w.alloc (.map #[] 0)).alloc (.cells (Tryz.zeroCells134.setIfInBounds 1 (.map (some w.heap.size))) 134):=⟨_,rfl⟩
 have BY:Hid (Below w.heap.size w Y):=by unfold Hid;rw [hY];exact ((Below.refl _ _).alloc (Nat.le_refl _) _).alloc (by simp) _
 have SY:Hid (Sto w.heap.size (w.heap.size + 1) Y (.slice none 0 0) w.heap.size 0 (0,0) (fun _=>.slice none 0 0) [] (fun _=>[])):=by
  unfold Hid
  refine Sto.fresh ?_ ?_ (by omega) (Nat.le_refl _)
  ·rw [hY,newRow_set1]
   have:=heap_alloc_new (w.alloc (.map #[] 0)) (.cells (newRow w.heap.size (0,0)).toArray 134)
   simpa using this
  ·rw [hY]
   refine (mapIs_made w).kept ?_
   rw [Below.heap_alloc _ _ _ (by simp)]
 rw [← hY]
 clear hY hmm
 have T0:Hid (Below w.heap.size w Y∧Has w.heap.size (w.heap.size + 1) (cl.take 0) 0 Y∧Tab w.heap.size Y):=
  ⟨unhide BY,⟨_,_,_,_,_,_,_,unhide SY,by rw [List.take_zero];exact SInv.empty,Nat.le_refl _,by omega,by omega,by simp⟩,hT.later (unhide BY)⟩
 clear SY BY
 go_wp2
 go_loopw [11] (fun i wr=>NewRel w.heap.size w cl i wr) (fun i _=>cl.length - (intOf i).toNat)
 case atStart=>exact ⟨0,rfl,Nat.zero_le _,T0⟩
 case round=>
  clear T0
  obtain ⟨i,rfl,hil,T⟩:=hrel
  by_cases hlt:i < cl.length
  ·have ha':=ha (by omega)
   subst ha'
   obtain ⟨u,hu1,hu2⟩:=unhide HCL i hlt
   have blt:b < w.heap.size:=block_lt_of_cell hu1
   have hu3:=((unhide T).1.cell (p:=⟨b,i,none⟩) blt).trans hu1
   have ud:cl.getD i []=cl[i]:=by rw [List.getD_eq_getElem?_getD,List.getElem?_eq_getElem hlt];rfl
   rw [ud] at hu2
   have HU:Hid (RdRow wr u cl[i]):=by
    obtain ⟨ra,rc,rb,e1,e2,e3⟩:=hu2
    refine ⟨ra,rc,rb,e1,e2,fun j hj=>?_⟩
    have:=e3 j hj
    rw [(unhide T).1.cell (p:=⟨rb,j,none⟩) (block_lt_of_cell this)]
    exact this
   have c50:Hid (∀ l ∈ cl[i],In50 l):=unhide HL _ (List.getElem_mem _)
   have QS:=hide (setOf_any cl[i] u wr (unhide HU) (fun l hl=>in50_lit (unhide c50 l hl)) (Nat.le_trans (unhide HLN _ (List.getElem_mem _)) (by omega)))
   have TK:Hid (cl.take (i + 1)=cl.take i ++ [cl[i]]):=by
    unfold Hid;rw [List.take_add_one,List.getElem?_eq_getElem hlt];rfl
   have QA:Hid (∀ V,Below wr.heap.size wr V→Calls Tryz.prog 68 #[.pointer (some ⟨w.heap.size + 1,0,none⟩),keyV (setOf cl[i])] V fun e w'=>e=.returned (.tuple #[])∧Hid (Below w.heap.size w w'∧Has w.heap.size (w.heap.size + 1) (cl.take (i + 1)) (i + 1) w'∧Tab w.heap.size w')):=fun V hV=>by
    have hB:=(unhide T).2.1.bsize
    have TV:=(unhide T).2.2.later (hV.mono hB)
    refine (add_has ((unhide T).2.1.later hV) TV (unhide c50) (by omega)).mono ?_
    rintro e w' ⟨q1,q2,q3,q4⟩
    exact ⟨q1,((unhide T).1.trans (hV.mono hB)).trans q2,by rw [unhide TK];exact q4,TV.later q2⟩
   unfold keyV at QS QA
   generalize setOf cl[i]=sk at QS QA
   have ii0:(0:Int) ≤ (i:Int):=by omega
   have ii1:(i:Int) < (cl.length:Int):=by omega
   clear hu1 hu2 HU c50 TK ud
   go_wp2_with fail
   with_reducible refine (unhide QS).mono ?_
   rintro e6 w6 ⟨rfl,hb6⟩
   simp only []
   have B6:=hide hb6
   clear hb6
   go_wp2_with fail
   with_reducible refine (unhide QA _ (unhide B6)).mono ?_
   rintro e7 w7 ⟨rfl,H7⟩
   simp only []
   go_wp2
   go_roundw
   case rel=>exact ⟨i + 1,ret_int' (by omega),by omega,H7⟩
   case measure=>simp [intOf];omega
  ·have ei:i=cl.length:=by omega
   subst ei
   have TT:=unhide T
   rw [List.take_length] at TT
   have TH:=hide TT
   clear TT
   go_wp2
   go_ret
   exact ⟨rfl,(unhide TH).1,(unhide TH).2.1,(unhide TH).2.2⟩
end Rd
end Go.Proofs.YtceahffmenbibaaGreatDoor
namespace Go.Proofs.YtceahffmenbibaaGreatDoor
namespace Rd
open Go Go.RowKit Go.Deep Go.Proofs
attribute [local go_sem ↓] Go.wp_at_zero Go.wp_at_succ
theorem cut_nlB (s:ByteArray) (m:Int) (w:World) (hs:s.size ≤ 1048576) (hm:w.cell? ⟨0,0,none⟩=some (.int .i64 m)):
  Calls Tryz.prog 40 #[.string s,.string ⟨#[10]⟩] w fun e w'=>∃ x y:ByteArray,e=.returned (.tuple #[.string x,.string y,.bool (hasB 10 s.data.toList)])∧
   Hid (hasB 10 s.data.toList=true→x.data.toList=upto 10 s.data.toList∧y.data.toList=s.data.toList.drop ((upto 10 s.data.toList).length + 1))∧x.size ≤ s.size∧∃ n,w'=w.drewN n:=by
 refine (Tryz.strings_Cut s _ m _ (by omega) hm).mono ?_
 rintro e w' ⟨rfl,hn⟩
 rw [show Lib.cut s.data.toList (⟨#[10]⟩:ByteArray).data.toList=_ from cut_one 10 _]
 cases h:hasB 10 s.data.toList
 ·exact ⟨_,_,rfl,(fun h=>by cases h),by show s.data.toList.toArray.size ≤ s.size;simp,hn⟩
 ·refine ⟨_,_,rfl,fun _=>⟨rfl,rfl⟩,?_,hn⟩
  show (upto 10 s.data.toList).toArray.size ≤ s.size
  have h1:(upto 10 s.data.toList).length ≤ s.data.toList.length:=by unfold upto;exact (List.takeWhile_sublist _).length_le
  simp at h1 ⊢;exact h1
theorem emptyB_set {c:Cl} (hc:∀ l ∈ c,In50 l):emptyB (setOf c)=c.isEmpty:=by
 unfold emptyB
 cases c with
 | nil=>rfl
 | cons l r=>
  have h:(setOf (l :: r)).has l=true:=by rw [has_setOf (fun x hx=>in50_ne (hc x hx))];simp
  have:setOf (l :: r) ≠ (0,0):=(nonempty_iff _).2 ⟨l,h⟩
  rw [decide_eq_false this];rfl
theorem lineB_nil (v:Bs):lineB v []=none:=rfl
def ChkRel (B sb n0:Nat) (v:Bs) (proof:ByteArray) (L0:List Cl) (w2:World) (k10 r11:Value) (wr:World):Prop:=
 ∃ (k:Nat) (x:ByteArray) (L:List Cl),k10=.int .i64 k∧r11=.string x∧x.size + 2 * k ≤ proof.size∧Hid (Below B w2 wr∧Has B sb L (n0 + k) wr∧Tab B wr)∧Hid (∀ res,chk v L (splitR 10 x.data.toList) k res→chk v L0 (splitB 10 proof.data.toList) 0 res)
set_option maxHeartbeats 4000000 in
set_option maxRecDepth 100000 in
theorem check_any (s proof:ByteArray) (w:World) (hs:s.size ≤ maxLen) (hp:proof.size ≤ 1048576) (hg:Glob w) (hT:Tab w.heap.size w):
  Calls Tryz.prog 20 #[.string s,.string proof] w fun e w'=>Below w.heap.size w w'∧CheckRet s proof e:=by
 have HG:=hide hg
 have HT:=hide hT
 have QR:=hide (read_any s w hs hg)
 rw [read_eq] at QR
 have CK:Hid (∀ a b:Nat,(readB s.data.toList).2.2=0→chk (Lib.decDigits (readB s.data.toList).1.toNat) (readB s.data.toList).2.1 (splitB 10 proof.data.toList) 0 (a,b)→Checked s.data.toList proof.data.toList ((a:Int),(b:Int))):=fun a b h0 h=>by
  unfold Checked;rw [if_pos h0];exact ⟨a,b,rfl,h⟩
 have CN:Hid (¬ (readB s.data.toList).2.2=0→Checked s.data.toList proof.data.toList (0,(readB s.data.toList).2.2)):=fun h=>by
  unfold Checked;rw [if_neg h]
 have RO:=hide (readB_ok (s:=s.data.toList))
 clear hg hT
 generalize readB s.data.toList=r at QR CK CN RO
 obtain ⟨v1,L0,er⟩:=r
 simp only at QR CK CN RO
 go_enter Tryz.func20,Tryz.ntmps20
 go_wp2_with fail
 with_reducible refine (unhide QR).mono ?_
 rintro e1 w1 ⟨hb1,u1,rfl,hu1⟩
 simp only [] at hu1
 have B1:=hide hb1
 have RL:Hid (RdLists w1 u1 L0):=by
  rcases hu1 with ⟨e1,e2⟩ | h
  ·subst e1 e2;exact rdLists_nil w1
  ·exact h.read
 clear hb1 hu1 QR
 simp only []
 by_cases h0:er=0
 ·obtain ⟨V,hV,hv1,H50,hl1,hl2⟩:=unhide RO h0
  subst h0
  subst hv1
  have CKV:Hid (∀ a b:Nat,chk (Lib.decDigits V) L0 (splitB 10 proof.data.toList) 0 (a,b)→Checked s.data.toList proof.data.toList ((a:Int),(b:Int))):=fun a b h=>unhide CK a b rfl (by simpa using h)
  have T1:Hid (Tab w1.heap.size w1):=by
   have t:=(unhide HT).later (unhide B1)
   exact ⟨t.1,by have:=t.2;have:=(unhide B1).size;omega⟩
  have G1:=hide (Glob.later (unhide B1) (unhide HG))
  have QN:=hide (newStore_any L0 u1 w1 (unhide RL) H50 hl1 hl2 (unhide T1))
  have HBB:=(unhide B1).size
  have H4:Hid (4 ≤ w1.heap.size):=(unhide G1).2.2
  clear RO CK CN H50 hl2 RL HT
  go_wp2_with fail
  with_reducible refine (unhide QN).mono ?_
  rintro e2 w2 ⟨rfl,hb2,hh2,ht2⟩
  simp only []
  have G2:=hide (Glob.later hb2 (unhide G1))
  have B2:Hid (Below w.heap.size w w2):=(unhide B1).trans (hb2.mono HBB)
  have S0:Hid (Below w1.heap.size w2 w2∧Has w1.heap.size (w1.heap.size + 1) L0 (L0.length + 0) w2∧Tab w1.heap.size w2):=⟨Below.refl _ _,hh2,ht2⟩
  generalize w1.heap.size=B at S0 H4 HBB ⊢
  clear QN hb2 hh2 ht2 G1 B1 T1 HG
  go_wp2
  go_loopw [10,11] (fun k t wr=>ChkRel B (B + 1) L0.length (Lib.decDigits V) proof L0 w2 k t wr) (fun _ t _=>sizeOfStr t)
  case atStart=>exact ⟨0,proof,L0,rfl,rfl,by omega,S0,fun res h=>by rw [splitB_eq];exact h⟩
  case round=>
   clear S0
   obtain ⟨k,x,L,rfl,rfl,hxk,M,HCH⟩:=hrel
   by_cases x0:x.size=0
   ·have xl:x.data.toList=[]:=List.eq_nil_of_length_eq_zero (by simpa using x0)
    have R:Hid (Checked s.data.toList proof.data.toList ((k:Int),5)):=unhide CKV k 5 (unhide HCH _ (by rw [xl];exact chk_nothing))
    have pe:x.toList.isEmpty=true:=isEmpty_of x0
    have BE:Hid (Below w.heap.size w wr):=(unhide B2).trans ((unhide M).1.mono HBB)
    clear M HCH xl
    go_wp2
    go_ret2
    exact ⟨unhide BE,_,_,rfl,unhide R⟩
   ·have xl:x.data.toList ≠ []:=fun e=>x0 (by have:=congrArg List.length e;simpa using this)
    have pe:x.toList.isEmpty=false:=notEmpty_of x0
    have GR:=hide (Glob.below (unhide H4) (unhide M).1 (unhide G2))
    obtain ⟨⟨mx,hmx⟩,_,_⟩:=unhide GR
    have QC:=hide (cut_nlB x mx wr (by omega) hmx)
    clear hmx
    have L50:Hid (∀ g c,lineB (Lib.decDigits V) (upto 10 x.data.toList)=some (g,c)→∀ l ∈ c,In50 l):=fun g c h=>lineB50 hV h
    have QI:Hid (∀ X,Below wr.heap.size wr X→Calls Tryz.prog 36 #[.int .i64 V] X fun e w'=>∃ z:ByteArray,e=.returned (.string z)∧Hid (z.data.toList=Lib.decDigits V)∧Below X.heap.size X w'):=fun X hX=>itoa_any V (by omega) X (Glob.later hX (unhide GR))
    have QP:Hid (∀ X (l z:ByteArray),Below wr.heap.size wr X→l.size ≤ 1048576→z.data.toList=Lib.decDigits V→Calls Tryz.prog 41 #[.string l,.string z] X fun e w'=>Below X.heap.size X w'∧StepRet V l e):=fun X l z hX hl hz=>by
     obtain ⟨⟨m',hm'⟩,_,_⟩:=Glob.later hX (unhide GR)
     exact parseStep_any l z V m' X hl hV hz hm'
    go_wp2_with fail
    with_reducible refine (unhide QC).mono ?_
    rintro e3 w3 ⟨l,y,rfl,HLY,lsz,n3,rfl⟩
    simp only []
    have B3:Hid (Below wr.heap.size wr (wr.drewN n3)):=bel_drewN' (Below.refl _ _) _
    generalize wr.drewN n3=w3 at B3 ⊢
    obtain ⟨hb,hhb⟩:∃ hb,hasB 10 x.data.toList=hb:=⟨_,rfl⟩
    rw [hhb]
    have HHB:=hide hhb
    clear hhb QC
    go_wp2_with fail
    with_reducible refine (unhide QI _ (unhide B3)).mono ?_
    rintro e4 w4 ⟨z,rfl,hz,hb4⟩
    simp only []
    have B4:Hid (Below wr.heap.size wr w4):=(unhide B3).trans (hb4.mono (unhide B3).size)
    clear hb4
    go_wp2_with fail
    with_reducible refine (unhide QP _ l z (unhide B4) (by omega) (unhide hz)).mono ?_
    rintro e5 w5 ⟨hb5,hr5⟩
    have B5:Hid (Below wr.heap.size wr w5):=(unhide B4).trans (hb5.mono (unhide B4).size)
    have MB:=(unhide M).2.1.bsize
    have BE:Hid (Below w.heap.size w wr):=(unhide B2).trans ((unhide M).1.mono HBB)
    have sE:=(unhide BE).size
    clear hb5 QI QP
    rcases hr5 with ⟨hl,rfl⟩ | ⟨g,c,hl,rfl⟩
    ·have R:Hid (Checked s.data.toList proof.data.toList (((k + 1:Nat):Int),3)):=unhide CKV (k + 1) 3 (unhide HCH _ (by
      cases hb with
      | true=>exact chk_form (unhide HHB) (by rw [← (unhide HLY (unhide HHB)).1];exact hl)
      | false=>exact chk_open xl (unhide HHB)))
     have BF:Hid (Below w.heap.size w (w5.alloc (.cells #[.bool false,.int .u64 0,.int .u64 0,.int .u64 0,.int .u64 0] 86))):=((unhide BE).trans ((unhide B5).mono sE)).alloc (by have:=(unhide B5).size;omega) _
     unfold stepV
     clear hl M HCH HLY
     cases hb with
     | true=>
      simp only []
      go_wp2
      go_ret2
      exact ⟨unhide BF,_,_,rfl,unhide R⟩
     | false=>
      simp only []
      go_wp2
      go_ret2
      exact ⟨unhide BF,_,_,rfl,unhide R⟩
    ·cases hb with
     | false=>
      have R:Hid (Checked s.data.toList proof.data.toList (((k + 1:Nat):Int),3)):=unhide CKV (k + 1) 3 (unhide HCH _ (chk_open xl (unhide HHB)))
      have BF:Hid (∀ o,Below w.heap.size w (w5.alloc o)):=fun o=>((unhide BE).trans ((unhide B5).mono sE)).alloc (by have:=(unhide B5).size;omega) _
      unfold stepV
      clear hl M HCH HLY
      simp only []
      go_wp2
      go_ret2
      exact ⟨unhide BF _,_,_,rfl,unhide R⟩
     | true=>
      have HX:=unhide HHB
      obtain ⟨ly1,ly2⟩:=unhide HLY HX
      rw [ly1] at hl
      have c50:=unhide L50 g c hl
      have une:(upto 10 x.data.toList).length ≠ 0:=fun e=>by
       rw [List.eq_nil_of_length_eq_zero e,lineB_nil] at hl;cases hl
      have hxl:(upto 10 x.data.toList).length < x.data.toList.length:=of_decide_eq_true HX
      have yz:y.size + 2 ≤ x.size:=by
       have h1:=congrArg List.length ly2
       have h2:x.data.toList.length=x.size:=by simp
       have h3:y.data.toList.length=y.size:=by simp
       rw [List.length_drop,h2,h3] at h1
       rw [h2] at hxl
       omega
      have QE:Hid (∀ X,Calls Tryz.prog 43 #[stepV g (setOf c) (firstOf c)] X fun e w'=>e=.returned (.bool (!g && c.isEmpty))∧Below X.heap.size X w'):=fun X=>by
       have:=ends_any g (setOf c) (firstOf c) (setOf_lit c50) X
       rw [emptyB_set c50] at this;exact this
      have QT:Hid (∀ X,Below wr.heap.size wr X→Calls Tryz.prog 42 #[.pointer (some ⟨B + 1,0,none⟩),stepV g (setOf c) (firstOf c)] X fun e w'=>∃ b,e=.returned (.bool b)∧Hid (Below B X w'∧Keeps X w'∧Tab B w')∧Hid (b=false→Checked s.data.toList proof.data.toList (((k + 1:Nat):Int),4))∧Hid (b=true→∃ L',Has B (B + 1) L' (L0.length + (k + 1)) w'∧((!g && c.isEmpty)=true→Checked s.data.toList proof.data.toList (((k + 1:Nat):Int),0))∧((!g && c.isEmpty)=false→∀ res,chk (Lib.decDigits V) L' (splitR 10 y.data.toList) (k + 1) res→chk (Lib.decDigits V) L0 (splitB 10 proof.data.toList) 0 res))):=fun X hX=>by
       have TX:=(unhide M).2.2.later (hX.mono MB)
       refine (take_any (c:=c) g ((unhide M).2.1.later hX) TX c50 (by omega)).mono ?_
       rintro e w' ⟨q1,q2,q3⟩
       rcases q3 with ⟨rfl,r1,r2⟩ | ⟨L',rfl,r1,r2,r3⟩ | ⟨rfl,r1,r2⟩ | ⟨rfl,r1,r2,r3⟩
       ·exact ⟨false,r2,⟨q1,q2,TX.later q1⟩,fun _=>unhide CKV (k + 1) 4 (unhide HCH _ (chk_gone HX hl r1)),fun h=>by cases h⟩
       ·refine ⟨true,r2,⟨q1,q2,TX.later q1⟩,(fun h=>by cases h),fun _=>⟨L',r3,fun h=>by simp at h,fun _ res h=>unhide HCH _ ((chk_del HX hl r1).2 (by rw [← ly2];exact h))⟩⟩
       ·exact ⟨false,r2,⟨q1,q2,TX.later q1⟩,fun _=>unhide CKV (k + 1) 4 (unhide HCH _ (chk_wrong HX hl r1)),fun h=>by cases h⟩
       ·refine ⟨true,r2,⟨q1,q2,TX.later q1⟩,(fun h=>by cases h),fun _=>⟨L ++ [c],r3,fun h=>?_,fun h res h2=>?_⟩⟩
        ·have:c=[]:=by cases c with
          | nil=>rfl
          | cons a b=>simp at h
         subst this
         exact unhide CKV (k + 1) 0 (unhide HCH _ (chk_end HX hl r1))
        ·have:c ≠ []:=fun e=>by rw [e] at h;simp at h
         exact unhide HCH _ ((chk_add HX hl r1 this).2 (by rw [← ly2];exact h2))
      obtain ⟨en,hen⟩:∃ en,(!g && c.isEmpty)=en:=⟨_,rfl⟩
      rw [hen] at QE QT
      obtain ⟨sc,hsc⟩:∃ a,setOf c=a:=⟨_,rfl⟩
      obtain ⟨fc,hfc⟩:∃ a,firstOf c=a:=⟨_,rfl⟩
      rw [hsc,hfc] at QE QT ⊢
      have BX:Hid (Below wr.heap.size wr (w5.alloc (.cells #[.bool g,.int .u64 (sc.1:Int),.int .u64 (sc.2:Int),.int .u64 (fc.1:Int),.int .u64 (fc.2:Int)] 86))):=(unhide B5).alloc (unhide B5).size _
      have FX:=hide (foreign_new w5 #[.bool g,.int .u64 (sc.1:Int),.int .u64 (sc.2:Int),.int .u64 (fc.1:Int),.int .u64 (fc.2:Int)] 86 (by decide))
      have M1:=hide (unhide M).1
      unfold stepV at QE QT ⊢
      clear hen hsc hfc hl c50 ly1 ly2 une hxl HX HLY L50 M HCH CKV
      simp only []
      go_wp2_with fail
      with_reducible refine (unhide QT _ (unhide BX)).mono ?_
      rintro e6 w6 ⟨b,rfl,H6,HF,HT6⟩
      simp only []
      have B6:Hid (Below w.heap.size w w6):=(unhide BE).trans (((unhide BX).mono sE).trans ((unhide H6).1.mono HBB))
      cases b with
      | false=>
       have R:=hide (unhide HF rfl)
       go_wp2
       go_ret2
       exact ⟨unhide B6,_,_,rfl,unhide R⟩
      | true=>
       obtain ⟨L',hh6,hE1,hE2⟩:=unhide HT6 rfl
       have HH6:=hide hh6
       have HE1:=hide hE1
       have HE2:=hide hE2
       have x0':=((unhide H6).2.1.cell (j:=0) (unhide FX)).trans (by simp:_=some (.bool g))
       have x1':=((unhide H6).2.1.cell (j:=1) (unhide FX)).trans (by simp:_=some (.int .u64 (sc.1:Int)))
       have x2':=((unhide H6).2.1.cell (j:=2) (unhide FX)).trans (by simp:_=some (.int .u64 (sc.2:Int)))
       have x3':=((unhide H6).2.1.cell (j:=3) (unhide FX)).trans (by simp:_=some (.int .u64 (fc.1:Int)))
       have x4':=((unhide H6).2.1.cell (j:=4) (unhide FX)).trans (by simp:_=some (.int .u64 (fc.2:Int)))
       clear hh6 hE1 hE2 HT6 HF
       go_wp2_with fail
       with_reducible refine (unhide QE _).mono ?_
       rintro e7 w7 ⟨rfl,hb7⟩
       simp only []
       have B7:Hid (Below w.heap.size w w7):=(unhide B6).trans (hb7.mono (unhide B6).size)
       have M7:Hid (Below B w2 w7∧Has B (B + 1) L' (L0.length + (k + 1)) w7∧Tab B w7):=
        ⟨((unhide M1).trans (((unhide BX).mono MB).trans (unhide H6).1)).trans (hb7.mono (unhide HH6).bsize),(unhide HH6).later hb7,(unhide H6).2.2.later (hb7.mono (unhide HH6).bsize)⟩
       clear hb7 x0' x1' x2' x3' x4'
       cases en with
       | true=>
        have R:=hide (unhide HE1 rfl)
        go_wp2
        go_ret2
        exact ⟨unhide B7,_,_,rfl,unhide R⟩
       | false=>
        have RR:=hide (unhide HE2 rfl)
        go_wp2
        go_roundw
        case rel=>exact ⟨k + 1,y,L',ret_int' (by omega),rfl,by omega,M7,unhide RR⟩
        case measure=>simp [sizeOfStr];omega
 ·have R:Hid (Checked s.data.toList proof.data.toList (0,er)):=unhide CN h0
  have hne:(er != 0)=true:=by simpa using h0
  go_wp2
  go_ret2
  exact ⟨unhide B1,_,_,rfl,unhide R⟩
end Rd
end Go.Proofs.YtceahffmenbibaaGreatDoor
