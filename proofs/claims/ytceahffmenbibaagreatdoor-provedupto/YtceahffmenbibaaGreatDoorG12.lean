/- Rparse Rmake Rread Req. -/
import Derived.Test.YtceahffmenbibaaGreatDoorG11
import Derived.Test.YtceahffmenbibaaGreatDoorG00
import Derived.Test.YtceahffmenbibaaGreatDoorRows
import Derived.WalkSmall
import Derived.Lib.LaidTab
import Derived.Lib.SmallJoins
import Derived.Shelf.SlSorted.Search
import Derived.Deep.RegionWith
import Derived.Deep.QuietTactic
import Derived.BigQuiet
set_option linter.unusedVariables false
set_option linter.unusedSimpArgs false
namespace Go.Proofs.YtceahffmenbibaaGreatDoor
namespace Rd
open Go Go.RowKit Go.Proofs
def pw : String := Rows.lubysRow.named.getD 1 ""
theorem pw_global:Tryz.prog.globalNamed pw=some 1:=by kernel_rfl
def Glob (w:World):Prop:=(∃ m,w.cell? ⟨0,0,none⟩=some (.int .i64 m))∧Lib.TabIs Tryz.prog w pw .u64 Lib.pow10Tab∧4 ≤ w.heap.size
theorem Glob.below {B:Nat} {w w':World} (hB:4 ≤ B) (h:Below B w w') (hg:Glob w):Glob w':=by
 obtain ⟨⟨m,hm⟩,ht,hs⟩:=hg
 have:=h.size
 refine ⟨⟨m,?_⟩,var?_below h pw_global (by omega) ht,by omega⟩
 rw [h.cell (p:=⟨0,0,none⟩) (by show (0:Nat) < B;omega)];exact hm
theorem Glob.later {w w':World} (h:Below w.heap.size w w') (hg:Glob w):Glob w':=Glob.below hg.2.2 h hg
theorem itoa_any (n:Nat) (hn:n ≤ 20000) (w:World) (hg:Glob w):
  Calls Tryz.prog 36 #[.int .i64 n] w fun e w'=>∃ x:ByteArray,e=.returned (.string x)∧Hid (x.data.toList=Lib.decDigits n)∧Below w.heap.size w w':=by
 refine (Any.strconv_Itoa Tryz.laysM171 n (by omega) (by omega) w hg.2.1).mono ?_
 rintro e w' ⟨rfl,k,os,rfl⟩
 refine ⟨_,rfl,?_,below_grown_sl _ _ _ _ (Nat.le_refl _)⟩
 unfold Hid Lib.itoa
 rw [if_neg (by omega)]
 simp
theorem gap_pred (w:World):PredAt Tryz.prog 64 #[] encR gapRune w:=fun W r _=>by
 refine (isGap_any r W).mono ?_
 rintro e w' ⟨rfl,rfl⟩
 exact ⟨rfl,0,rfl⟩
theorem fields_any (s:ByteArray) (w:World) (hs:s.size ≤ 20000):
  Calls Tryz.prog 63 #[.string s,.func (.func 64) #[] #[]] w fun e w'=>∃ (A:Nat) (T:List ByteArray),e=.returned (.slice (some ⟨A,0,none⟩) T.length T.length)∧
   Hid (bss T=toks s.data.toList)∧w.heap.size ≤ A∧A < w'.heap.size∧Hid (∀ j (h:j < T.length),w'.cell? ⟨A,j,none⟩=some (.string T[j]))∧Below w.heap.size w w'∧T.length ≤ 20000∧Hid (∀ x ∈ T,x.size ≤ 20000):=by
 refine (Tryz.strings_FieldsFunc 64 #[] (enters_of Tryz.func64 (by kernel_rfl) rfl) gapRune s w (by omega) (gap_pred w)).mono ?_
 rintro e w' ⟨A,rfl,hA,hown,hb⟩
 have ht:=fields_toks s
 have hl:=toks_len s.data.toList
 rw [← ht] at hl
 refine ⟨A,Lib.goFieldsP gapRune s,rfl,ht,hA,(hown.lt A rfl).2,fun j h=>?_,hb,?_,fun x hx=>?_⟩
 ·have:=hown.cells (g:=A) rfl j (.string (Lib.goFieldsP gapRune s)[j]) (by simp [h])
  simpa [Addr.add_lit] using this
 ·have:=hl.1;simp at this;omega
 ·have:=hl.2 x.data.toList (List.mem_map.2 ⟨x,hx,rfl⟩)
  simp at this;omega
def parseB (s:Bs):Option (Bs × List Bs):=
 match (skipF (s.length + 1) s).bind cutP with
 | none=>none
 | some (v,c,r)=>if okAll v (toks r) && closedB (toks r) && Lib.decDigits (zeros (toks r)) == c then some (v,toks r) else none
def ParseEnd (s:Bs) (w w':World) (e:Ending):Prop:=
 (parseB s=none∧e=.returned (.tuple #[.agg (prs ⟨#[]⟩ 0 0 none 0),.bool false])) ∨
 ∃ (v:ByteArray) (T:List ByteArray) (A:Nat),parseB s=some (v.data.toList,bss T)∧e=.returned (.tuple #[.agg (prs v (zeros (bss T)) (lits (bss T)) (some ⟨A,0,none⟩) T.length),.bool true])∧
  w.heap.size ≤ A∧A < w'.heap.size∧(∀ j (h:j < T.length),w'.cell? ⟨A,j,none⟩=some (.string T[j]))∧T.length ≤ 20000∧(∀ x ∈ T,x.size ≤ 20000)∧v.size ≤ 20000
theorem parse_skip {s:Bs} (h:skipF (s.length + 1) s=none):parseB s=none:=by unfold parseB;rw [h];rfl
theorem parse_cut {s x:Bs} (h:skipF (s.length + 1) s=some x) (h':(cutP x).isSome=false):parseB s=none:=by
 have:cutP x=none:=by simpa using h'
 unfold parseB;rw [h];simp [this]
theorem parse_some {s x v c r:Bs} (h:skipF (s.length + 1) s=some x) (h':(cutP x).isSome=true) (hp:∀ o,cutP x=some o→o=(v,c,r)):
  parseB s=if okAll v (toks r) && closedB (toks r) && Lib.decDigits (zeros (toks r)) == c then some (v,toks r) else none:=by
 obtain ⟨o,ho⟩:=Option.isSome_iff_exists.1 h'
 have:=hp o ho
 subst this
 unfold parseB;rw [h];simp [ho]
theorem bel_drewN {B:Nat} {a w:World} (h:Below B a w) (n:Nat):Below B a (w.drewN n):=h.trans ⟨rfl,rfl,rfl,Nat.le_refl _,fun _ _=>rfl⟩
theorem cell_set {w:World} {b i A j:Nat} {v:Value} (h:A ≠ b):(w.setCell ⟨b,i,none⟩ v).cell? ⟨A,j,none⟩=w.cell? ⟨A,j,none⟩:=
 World.cell?_of_block (Below.heap_setCell _ _ _ _ h)
theorem size_len (s:ByteArray):s.data.toList.length=s.size:=by simp
theorem below4 {w w':World} (h:Below w.heap.size w w') (v0 v1 v2 v3:Value):
  Below w.heap.size w ((((w'.setCell ⟨w.heap.size,0,none⟩ v0).setCell ⟨w.heap.size,1,none⟩ v1).setCell ⟨w.heap.size,2,none⟩ v2).setCell ⟨w.heap.size,3,none⟩ v3):=
 (((h.setCell (Nat.le_refl _) _).setCell (Nat.le_refl _) _).setCell (Nat.le_refl _) _).setCell (Nat.le_refl _) _
set_option maxHeartbeats 1000000 in
theorem parse_any (s:ByteArray) (w:World) (hs:s.size ≤ 20000) (hg:Glob w):
  Calls Tryz.prog 34 #[.string s] w fun e w'=>Below w.heap.size w w'∧ParseEnd s.data.toList w w' e:=by
 have HG:=hide hg
 obtain ⟨⟨m,hm⟩,_,h16⟩:=hg
 have hm1:∀ o,(w.alloc o).cell? ⟨0,0,none⟩=some (.int .i64 m):=fun o=>by rw [World.cell?_alloc_lt _ _ _ (by show (0:Nat) < w.heap.size;omega)];exact hm
 clear hm
 go_enter Tryz.func34,Tryz.ntmps34
 go_wp2_with fail
 refine (skipComments_any s m _ hs (hm1 _)).mono ?_
 rintro e w1 ⟨⟨n1,rfl⟩,x,⟨hk,rfl⟩ | ⟨hk,hx,rfl⟩⟩
 ·have HP:Hid (parseB s.data.toList=none):=parse_skip (by rw [size_len];exact hk)
  clear hk hm1
  go_wp2
  exact bodyPost_ret (v:=.tuple #[.agg (prs ⟨#[]⟩ 0 0 none 0),.bool false]) (by simp [results,Tryz.results34,go_sem]) rfl ⟨below4 (bel_drewN ((Below.refl _ _).alloc (Nat.le_refl _) _) _) _ _ _ _,.inl ⟨unhide HP,rfl⟩⟩
 ·go_wp2_with fail
  refine (cutProblem_any x m _ hx (by exact hm1 _)).mono ?_
  rintro e w2 ⟨⟨n2,rfl⟩,a,b,z,rfl,hp,ha,hb,hz⟩
  cases c1:(cutP x.data.toList).isSome with
  | false=>
   have HP:Hid (parseB s.data.toList=none):=parse_cut (by rw [size_len];exact hk) c1
   clear hk hm1 hp c1
   go_wp2
   exact bodyPost_ret (v:=.tuple #[.agg (prs ⟨#[]⟩ 0 0 none 0),.bool false]) (by simp [results,Tryz.results34,go_sem]) rfl ⟨below4 (bel_drewN ((Below.refl _ _).alloc (Nat.le_refl _) _) _) _ _ _ _,.inl ⟨unhide HP,rfl⟩⟩
  | true=>
   have HP:=hide (parse_some (s:=s.data.toList) (by rw [size_len];exact hk) c1 hp)
   clear hk hm1 hp c1
   go_wp2_with fail
   refine (fields_any z _ hz).mono ?_
   rintro e w3 ⟨A,T,rfl,hT,hA,hA',hcell,hb3,hn,hsz⟩
   rw [← unhide hT] at HP
   clear hT
   have b3:Hid (Below w.heap.size w w3):=(bel_drewN ((Below.refl _ _).alloc (Nat.le_refl _) _) _).trans (hb3.mono (by simp))
   have s3:=hb3.size
   simp at s3 hA
   have kept:∀ j,w3.cell? ⟨w.heap.size,j,none⟩=(#[Value.string ⟨#[]⟩,.int .i64 0,.int .i64 0,.slice none 0 0]:Array Value)[j]? := fun j=>by
    rw [hb3.cell (p:=⟨w.heap.size,j,none⟩) (by simp)]
    exact World.cell?_alloc_at _ _ _ _ rfl
   have froz:∀ j,w3.frozen? ⟨w.heap.size,j,none⟩=false:=fun j=>by
    rw [hb3.frozen (p:=⟨w.heap.size,j,none⟩) (by simp)]
    simp [go_sem]
   clear hb3
   go_wp2_with fail
   refine (countTokens_any T a A _ hn (unhide hsz) ha hA' (unhide hcell)).mono ?_
   rintro e w4 ⟨hb4,hend⟩
   have b4:Hid (Below w.heap.size w w4):=(unhide b3).trans (hb4.mono (by omega))
   have s4:=hb4.size
   have q0:w4.cell? ⟨w.heap.size,0,none⟩=some (.string ⟨#[]⟩):=(hb4.cell (p:=⟨w.heap.size,0,none⟩) (by show w.heap.size < _;omega)).trans (kept 0)
   have q1:w4.cell? ⟨w.heap.size,1,none⟩=some (.int .i64 0):=(hb4.cell (p:=⟨w.heap.size,1,none⟩) (by show w.heap.size < _;omega)).trans (kept 1)
   have q2:w4.cell? ⟨w.heap.size,2,none⟩=some (.int .i64 0):=(hb4.cell (p:=⟨w.heap.size,2,none⟩) (by show w.heap.size < _;omega)).trans (kept 2)
   have q3:w4.cell? ⟨w.heap.size,3,none⟩=some (.slice none 0 0):=(hb4.cell (p:=⟨w.heap.size,3,none⟩) (by show w.heap.size < _;omega)).trans (kept 3)
   have f4:∀ j,w4.frozen? ⟨w.heap.size,j,none⟩=false:=fun j=>(hb4.frozen (p:=⟨w.heap.size,j,none⟩) (by show w.heap.size < _;omega)).trans (froz j)
   have HC4:Hid (∀ j (h:j < T.length),w4.cell? ⟨A,j,none⟩=some (.string T[j])):=fun j h=>(hb4.cell (p:=⟨A,j,none⟩) hA').trans (unhide hcell j h)
   have hlt:w.heap.size < w4.heap.size:=by omega
   clear kept froz hb4 hcell b3
   rcases hend with ⟨hok,rfl⟩ | ⟨hok,rfl⟩
   ·cases c2:closedB (bss T) with
    | false=>
     have HN:Hid (parseB s.data.toList=none):=by unfold Hid;rw [unhide HP,hok,c2];rfl
     clear HP hok c2
     go_wp2
     exact bodyPost_ret (v:=.tuple #[.agg (prs ⟨#[]⟩ 0 0 none 0),.bool false]) (by simp [results,Tryz.results34,go_sem,q0,q1,q2,q3,hlt]) rfl ⟨(below4 (unhide b4) _ _ _ _).alloc (by simp;omega) _,.inl ⟨unhide HN,rfl⟩⟩
    | true=>
     have HP2:Hid (parseB s.data.toList=if Lib.decDigits (zeros (bss T)) == b.data.toList then some (a.data.toList,bss T) else none):=by unfold Hid;rw [unhide HP,hok,c2];rfl
     clear HP hok c2
     have zl:=zeros_le (bss T)
     have zl':(bss T).length=T.length:=by simp [bss]
     go_wp2_with fail
     refine (itoa_any (zeros (bss T)) (by omega) _ ((Glob.later (unhide b4) (unhide HG)).later ((Below.refl _ _).alloc (Nat.le_refl _) _))).mono ?_
     rintro e w5 ⟨y,rfl,hy,hb5⟩
     have b5:Hid (Below w.heap.size w w5):=(unhide b4).trans (((Below.refl _ _).alloc (by omega) _).trans (hb5.mono (by simp;omega)))
     have s5:=hb5.size
     simp at s5
     have r0:w5.cell? ⟨w.heap.size,0,none⟩=some (.string ⟨#[]⟩):=(hb5.cell (p:=⟨w.heap.size,0,none⟩) (by simp;omega)).trans ((World.cell?_alloc_lt _ _ _ (by exact hlt)).trans q0)
     have r1:w5.cell? ⟨w.heap.size,1,none⟩=some (.int .i64 0):=(hb5.cell (p:=⟨w.heap.size,1,none⟩) (by simp;omega)).trans ((World.cell?_alloc_lt _ _ _ (by exact hlt)).trans q1)
     have r2:w5.cell? ⟨w.heap.size,2,none⟩=some (.int .i64 0):=(hb5.cell (p:=⟨w.heap.size,2,none⟩) (by simp;omega)).trans ((World.cell?_alloc_lt _ _ _ (by exact hlt)).trans q2)
     have r3:w5.cell? ⟨w.heap.size,3,none⟩=some (.slice none 0 0):=(hb5.cell (p:=⟨w.heap.size,3,none⟩) (by simp;omega)).trans ((World.cell?_alloc_lt _ _ _ (by exact hlt)).trans q3)
     have f5:∀ j,w5.frozen? ⟨w.heap.size,j,none⟩=false:=fun j=>(hb5.frozen (p:=⟨w.heap.size,j,none⟩) (by simp;omega)).trans (by simp [go_sem,hlt,f4])
     have t0:w5.cell? ⟨w4.heap.size,0,none⟩=some (.string a):=(hb5.cell (p:=⟨w4.heap.size,0,none⟩) (by simp)).trans (World.cell?_alloc_at _ _ _ _ rfl)
     have t1:w5.cell? ⟨w4.heap.size,1,none⟩=some (.int .i64 (zeros (bss T))):=(hb5.cell (p:=⟨w4.heap.size,1,none⟩) (by simp)).trans (World.cell?_alloc_at _ _ _ _ rfl)
     have t2:w5.cell? ⟨w4.heap.size,2,none⟩=some (.int .i64 (lits (bss T))):=(hb5.cell (p:=⟨w4.heap.size,2,none⟩) (by simp)).trans (World.cell?_alloc_at _ _ _ _ rfl)
     have t3:w5.cell? ⟨w4.heap.size,3,none⟩=some (.slice (some ⟨A,0,none⟩) T.length T.length):=(hb5.cell (p:=⟨w4.heap.size,3,none⟩) (by simp)).trans (World.cell?_alloc_at _ _ _ _ rfl)
     have HC5:Hid (∀ j (h:j < T.length),w5.cell? ⟨A,j,none⟩=some (.string T[j])):=fun j h=>(hb5.cell (p:=⟨A,j,none⟩) (by simp;omega)).trans ((World.cell?_alloc_lt _ _ _ (by show A < _;omega)).trans (unhide HC4 j h))
     clear hb5 q0 q1 q2 q3 f4 HC4
     cases c3:(!y.toList == b.toList) with
     | true=>
      have HN:Hid (parseB s.data.toList=none):=by
       unfold Hid;rw [unhide HP2,← unhide hy]
       rw [ByteArray.toList_eq,ByteArray.toList_eq] at c3
       simp at c3
       simp [c3]
      clear HP2
      go_wp2
      exact bodyPost_ret (v:=.tuple #[.agg (prs ⟨#[]⟩ 0 0 none 0),.bool false]) (by simp [results,Tryz.results34,go_sem,r0,r1,r2,r3]) rfl ⟨below4 (unhide b5) _ _ _ _,.inl ⟨unhide HN,rfl⟩⟩
     | false=>
      have HN:Hid (parseB s.data.toList=some (a.data.toList,bss T)):=by
       unfold Hid;rw [unhide HP2,← unhide hy]
       rw [ByteArray.toList_eq,ByteArray.toList_eq] at c3
       simp at c3
       simp [c3]
      clear HP2
      go_wp2
      refine bodyPost_ret (v:=.tuple #[.agg (prs a (zeros (bss T)) (lits (bss T)) (some ⟨A,0,none⟩) T.length),.bool true]) (by simp [results,Tryz.results34,go_sem,r0,r1,r2,r3]) rfl ⟨below4 (unhide b5) _ _ _ _,.inr ⟨a,T,A,unhide HN,rfl,by omega,by simp;omega,fun j h=>?_,hn,unhide hsz,ha⟩⟩
      rw [cell_set (by omega),cell_set (by omega),cell_set (by omega),cell_set (by omega)]
      exact unhide HC5 j h
   ·have HN:Hid (parseB s.data.toList=none):=by unfold Hid;rw [unhide HP,hok];rfl
    clear HP hok
    go_wp2
    exact bodyPost_ret (v:=.tuple #[.agg (prs ⟨#[]⟩ 0 0 none 0),.bool false]) (by simp [results,Tryz.results34,go_sem,q0,q1,q2,q3,hlt]) rfl ⟨(below4 (unhide b4) _ _ _ _).alloc (by simp;omega) _,.inl ⟨unhide HN,rfl⟩⟩
end Rd
end Go.Proofs.YtceahffmenbibaaGreatDoor
namespace Go.Proofs.YtceahffmenbibaaGreatDoor
namespace Rd
open Go Go.RowKit Go.Proofs Go.Deep
set_option maxHeartbeats 400000 in
theorem toInt_any (t:ByteArray) (n:Int) (w:World) (hl:t.size ≤ 18) (h:Lib.atoi t.data.toList=some n):
  Calls Tryz.prog 37 #[.string t] w fun e w'=>e=.returned (.int .i64 n)∧Below w.heap.size w w':=by
 have H:=hide h;clear h
 go_enter Tryz.func37,Tryz.ntmps37
 go_wp2_with fail
 refine (Tryz.strconv_Atoi t n hl (unhide H) _).mono ?_
 rintro e w1 ⟨rfl,s,rfl⟩
 go_wp2
 go_ret
 exact ⟨rfl,Joins.below_bytesWorld _ _ _ _ (Nat.le_refl _)⟩
theorem idx_zero:∀ (zs:List ByteArray) (i:Nat),0 < zeros (bss zs)→Lib.idxFromS zs ⟨#[48]⟩ i=((i + ((bss zs).takeWhile nz).length:Nat):Int)
 | [],i,h=>by simp [bss,zeros] at h
 | z :: r,i,h=>by
  have e:(z=(⟨#[48]⟩:ByteArray))↔zero z.data.toList=true:=by
   unfold zero
   constructor
   ·intro h;subst h;rfl
   ·intro h
    have h':z.data.toList=[48]:=by simpa using h
    exact ByteArray.ext (Array.toList_inj.1 h')
  have hb:bss (z :: r)=z.data.toList :: bss r:=rfl
  unfold Lib.idxFromS
  by_cases hz:zero z.data.toList=true
  ·rw [if_pos (e.2 hz),hb]
   simp [nz,hz]
  ·have hz':zero z.data.toList=false:=by simpa using hz
   rw [if_neg (fun h=>hz (e.1 h)),idx_zero r (i + 1) (by rw [hb,zeros_cons,hz'] at h;simpa using h),hb]
   simp [nz,hz']
   omega
theorem Tryz.infoInt:(Tryz.prog.info? 3).map (fun i=>(i.zero,i.size,i.bytes))=some (some (.int .i64 0),1,8):=by kernel_rfl
theorem Tryz.infoInts:(Tryz.prog.info? 43).map (fun i=>(i.zero,i.size,i.bytes))=some (some (.slice none 0 0),1,24):=by kernel_rfl
def shortLits (T:List Bs):Prop:=∀ t ∈ T,zero t=false→Lib.atoi t=some (litVal t)∧t.length ≤ 18
theorem cls_len:∀ (c:Nat) (T:List Bs) (j:Nat),((cls c T).getD j []).length ≤ T.length
 | 0,T,j=>by simp [cls]
 | c + 1,T,0=>by
  simp only [cls,List.getD_cons_zero,List.length_map]
  exact (List.takeWhile_prefix _).length_le
 | c + 1,T,j + 1=>by
  simp only [cls,List.getD_cons_succ]
  have:=cls_len c (T.drop ((T.takeWhile nz).length + 1)) j
  simp only [List.length_drop] at this
  omega
structure Cut (T:List ByteArray) (C:Nat) (cl:List (List Int)) (k off:Nat):Prop where
 le:off ≤ T.length
 zs:zeros (bss (T.drop off))=C - k
 cs:cls (C - k) (bss (T.drop off))=cl.drop k
structure CutNext (T:List ByteArray) (C:Nat) (cl:List (List Int)) (k off e:Nat):Prop where
 idx:((bss (T.drop off)).takeWhile nz).length=e
 lt:off + e < T.length
 len:(cl.getD k []).length=e
 lits:∀ q (h:off + q < T.length),q < e→zero (T[off + q]).data.toList=false∧litVal (T[off + q]).data.toList=(cl.getD k []).getD q 0
 next:Cut T C cl (k + 1) (off + e + 1)
theorem bss_drop (T:List ByteArray) (n:Nat):bss (T.drop n)=(bss T).drop n:=by simp [bss,List.map_drop]
theorem Cut.step {T:List ByteArray} {C:Nat} {cl:List (List Int)} {k off:Nat} (h:Cut T C cl k off) (hk:k < C):CutNext T C cl k off ((bss (T.drop off)).takeWhile nz).length:=by
 have hz:0 < zeros (bss (T.drop off)):=by rw [h.zs];omega
 obtain ⟨R,h1,h2,h3,h4⟩:=cut_zero hz
 have hcs:=h.cs
 rw [show C - k=(C - (k + 1)) + 1 by omega,cls,h2] at hcs
 have hk':cl.getD k []=((bss (T.drop off)).takeWhile nz).map litVal:=by
  rw [List.getD_eq_getElem?_getD]
  have:(cl.drop k)[0]? = cl[k]? := by simp
  rw [← this,← hcs];rfl
 have hd:cl.drop (k + 1)=cls (C - (k + 1)) R:=by
  have:(cl.drop k).drop 1=cl.drop (k + 1):=by rw [List.drop_drop]
  rw [← this,← hcs];rfl
 have hlen:=congrArg List.length h1
 simp only [List.length_append,List.length_cons] at hlen
 have hbl:(bss (T.drop off)).length=T.length - off:=by simp [bss]
 have hR:bss (T.drop (off + ((bss (T.drop off)).takeWhile nz).length + 1))=R:=by
  rw [bss_drop,Nat.add_assoc,← List.drop_drop,← bss_drop,h2]
 refine ⟨rfl,by omega,by rw [hk'];simp,?_,⟨by omega,by rw [hR];have:=h.zs;omega,by rw [hR,hd]⟩⟩
 intro q hq hqe
 have hget:(bss (T.drop off))[q]? = some (T[off + q]).data.toList:=by
  simp [bss,hq]
 have htw:((bss (T.drop off)).takeWhile nz)[q]? = some (T[off + q]).data.toList:=by
  rw [h1,List.getElem?_append_left hqe] at hget
  exact hget
 refine ⟨h4 _ (List.mem_of_getElem? htw),?_⟩
 rw [hk',List.getD_eq_getElem?_getD,List.getElem?_map,htw]
 rfl
theorem idx_at {T:List ByteArray} {C:Nat} {cl:List (List Int)} {k off:Nat} (h:Cut T C cl k off) (hk:k < C):Lib.idxOfS ((T.drop off).take (T.length - off)) ⟨#[48]⟩=((((bss (T.drop off)).takeWhile nz).length:Nat):Int):=by
 rw [List.take_of_length_le (by simp)]
 unfold Lib.idxOfS
 rw [idx_zero _ 0 (by rw [h.zs];omega)]
 simp
set_option maxHeartbeats 2000000 in
theorem makeClauses_any (v:ByteArray) (T:List ByteArray) (A:Nat) (w:World) (hn:T.length ≤ 20000) (hA:A < w.heap.size)
  (hc:∀ j (h:j < T.length),w.cell? ⟨A,j,none⟩=some (.string T[j])) (hs:shortLits (bss T)):
  Calls Tryz.prog 38 #[.agg (prs v (zeros (bss T)) (lits (bss T)) (some ⟨A,0,none⟩) T.length)] w fun e w'=>∃ u,e=.returned u∧Below w.heap.size w w'∧
   Lists 43 3 w.heap.size w' u (cls (zeros (bss T)) (bss T)):=by
 have HC:=hide hc;clear hc
 have HS:=hide hs;clear hs
 have zl:=zeros_le (bss T)
 have zl':(bss T).length=T.length:=by simp [bss]
 obtain ⟨C,hC⟩:∃ C,C=zeros (bss T):=⟨_,rfl⟩
 obtain ⟨cl,hcl⟩:∃ cl,cl=cls (zeros (bss T)) (bss T):=⟨_,rfl⟩
 have HL:Hid (cl.length=C):=by unfold Hid;rw [hcl,hC];exact cls_length _ _
 have HCL:Hid (cl=cls C (bss T)):=by unfold Hid;rw [hcl,hC]
 have HZ:=hide hC
 rw [← hcl,← hC]
 have hC':C ≤ 20000:=by omega
 have HLs:∀ j,Hid ((cl.getD j []).length ≤ 20000):=fun j=>by
  unfold Hid
  rw [hcl]
  have:=cls_len (zeros (bss T)) (bss T) j
  omega
 clear hC hcl zl zl'
 have mk1:=run_make_row' (P:=Tryz.prog) 32 43 (.slice none 0 0) 24 Tryz.underlying32 Tryz.infoInts rfl .i64 .i64 C (by omega) (by omega)
 go_enter Tryz.func38,Tryz.ntmps38
 go_wp2
 have M0:Hid (Mem 43 3 w.heap.size (w.heap.size + 1) cl w ((w.alloc (.cells (prs v C (lits (bss T)) (some ⟨A,0,none⟩) T.length) 72)).alloc (.cells (madeCells #[.slice none 0 0] C) 43)) 0 (fun _=>0) 20001):=by
  refine ⟨?_,fun j hj=>absurd hj (Nat.not_lt_zero _),fun j j' _ h=>absurd h (Nat.not_lt_zero _),((Below.refl _ _).alloc (Nat.le_refl _) _).alloc (by simp) _,by omega⟩
  rw [unhide HL]
  have hr:=World.rowIs_made (w.alloc (.cells (prs v C (lits (bss T)) (some ⟨A,0,none⟩) T.length) 72)) (.slice none 0 0) C 43
  simp only [World.size_alloc] at hr
  exact hr.congr fun i hi=>by simp [outAt]
 go_loopw [4,16] (fun t i wr=>∃ (k off:Nat) (B:Nat→Nat) (ao:Option Addr),k ≤ C∧i=.int .i64 k∧t=.slice ao (T.length - off) (T.length - off)∧(off < T.length→ao=some ⟨A,off,none⟩)∧
   Hid (Cut T C cl k off)∧Hid (Mem 43 3 w.heap.size (w.heap.size + 1) cl w wr k B 20001)) (fun _ i _=>C - (intOf i).toNat)
 case atStart=>exact ⟨0,0,fun _=>0,some ⟨A,0,none⟩,Nat.zero_le _,rfl,rfl,fun _=>rfl,⟨Nat.zero_le _,(unhide HZ).symm,(unhide HCL).symm⟩,M0⟩
 case round=>
  clear M0 mk1
  obtain ⟨k,off,B,ao,hk,rfl,rfl,hao,hcut,hmem⟩:=hrel
  by_cases hlt:k < C
  ·have N:=hide ((unhide hcut).step hlt)
   have I:=hide (idx_at (unhide hcut) hlt)
   obtain ⟨e,he⟩:∃ e,e=((bss (T.drop off)).takeWhile nz).length:=⟨_,rfl⟩
   rw [← he] at N I
   clear he
   have n1:=(unhide N).lt
   have hao':=hao (by omega)
   subst hao'
   have cC:=(unhide hmem).outer.cell (i:=k) (by rw [unhide HL];exact hlt)
   rw [show outAt cl B k k=.slice none 0 0 from by simp [outAt]] at cC
   have fC:=(unhide hmem).outer.frozen k
   have lC:=(unhide hmem).outer.lt
   clear hao
   go_wp2_with fail
   refine (Tryz.slices_Index_string A off (T.length - off) (T.length - off) (T.drop off) _ _ (by simp) (by omega) ?_).mono ?_
   ·intro j hj
    rw [(unhide hmem).below.cell (p:=⟨A,off + j,none⟩) hA]
    have hj':off + j < T.length:=by simp at hj;omega
    rw [unhide HC (off + j) hj']
    simp [List.getD_eq_getElem?_getD,hj']
   rintro e1 w1 ⟨rfl,rfl⟩
   rw [unhide I]
   have mk2:=run_make_row' (P:=Tryz.prog) 43 3 (.int .i64 0) 8 Tryz.underlying43 Tryz.infoInt rfl .i64 .i64 e (by omega) (by omega)
   go_wp2
   have M1:Hid (Mem 43 3 w.heap.size (w.heap.size + 1) cl w ((w1.setCell ⟨w.heap.size + 1,k,none⟩ (.slice (some ⟨w1.heap.size,0,none⟩) e e)).alloc (.cells (madeCells #[.int .i64 0] e) 3)) (k + 1) (fun j=>if j=k then w1.heap.size else B j) 0):=
    (unhide hmem).push (by rw [unhide HL];exact hlt) (fun j hj=>by
     have:=unhide (HLs j)
     omega) e (unhide N).len.symm
   clear mk2 cC fC
   go_loopw [30] (fun i wr=>∃ p:Nat,p ≤ e∧i=.int .i64 p∧Hid (Mem 43 3 w.heap.size (w.heap.size + 1) cl w wr (k + 1) (fun j=>if j=k then w1.heap.size else B j) p)) (fun i _=>e - (intOf i).toNat)
   case atStart=>exact ⟨0,Nat.zero_le _,rfl,M1⟩
   case round=>
    clear M1
    obtain ⟨p,hp,rfl,hm⟩:=hrel
    by_cases hpe:p < e
    ·have cO:=(unhide hm).outer.cell (i:=k) (by rw [unhide HL];exact hlt)
     rw [show outAt cl (fun j=>if j=k then w1.heap.size else B j) (k + 1) k=.slice (some ⟨w1.heap.size,0,none⟩) e e from by simp [outAt,inV];exact (unhide N).len] at cO
     have hin:=((unhide hm).inner k (by omega)).2
     simp only [if_true] at hin
     have cI:=hin.cell (i:=p) (by rw [(unhide N).len];exact hpe)
     rw [show partAt (cl.getD k []) (k + 1 == k + 1) p p=.int .i64 0 from by simp [partAt]] at cI
     have fI:=hin.frozen p
     have lI:=hin.lt
     have lO:=(unhide hm).outer.lt
     clear hin
     have hlT:off + p < T.length:=by omega
     have cT:wr.cell? ⟨A,off + p,none⟩=some (.string T[off + p]):=by
      rw [(unhide hm).below.cell (p:=⟨A,off + p,none⟩) hA];exact unhide HC (off + p) hlT
     obtain ⟨z1,z2⟩:=(unhide N).lits p hlT hpe
     obtain ⟨s1,s2⟩:=unhide HS (T[off + p]).data.toList (by simp only [bss,List.mem_map];exact ⟨_,List.getElem_mem hlT,rfl⟩) z1
     rw [z2] at s1
     have s3:(T[off + p]).size ≤ 18:=by simpa using s2
     obtain ⟨t,ht⟩:∃ t,t=T[off + p]:=⟨_,rfl⟩
     rw [← ht] at cT s1 s3
     have S1:=hide s1
     clear ht s1 s2 z1 z2
     obtain ⟨x,hx⟩:∃ x,x=(cl.getD k []).getD p 0:=⟨_,rfl⟩
     rw [← hx] at S1
     have HX:=hide hx
     clear hx
     have hAr:A < wr.heap.size:=by have:=(unhide hm).below.size;omega
     go_wp2
     go_region_with ((go_at_call 37;refine (toInt_any t x _ s3 (unhide S1)).mono ?_;rintro e2 w2 ⟨rfl,hb2⟩;have d1:=(hb2.cell (p:=⟨w1.heap.size,p,none⟩) lI).trans cI;have d2:=(hb2.frozen (p:=⟨w1.heap.size,p,none⟩) lI).trans fI;have d3:=(hb2.cell (p:=⟨w.heap.size + 1,k,none⟩) lO).trans cO;have HB2:=hide hb2;clear hb2))
     all_goals
      go_wp2
      go_roundw
      case rel=>
       refine ⟨p + 1,by omega,by go_num,?_⟩
       have m2:=((unhide hm).later ((Below.refl _ wr).drew.trans (unhide HB2))).put x (unhide HX)
       simp only [if_true] at m2
       exact m2
      case measure=>simp [intOf];omega
    ·have e1:p=e:=by omega
     subst e1
     have nx:=hide (unhide N).next
     have ML:Hid (Mem 43 3 w.heap.size (w.heap.size + 1) cl w wr (k + 1) (fun j=>if j=k then w1.heap.size else B j) 20001):=by
      have h:=unhide hm
      refine ⟨h.outer,fun j hj=>⟨(h.inner j hj).1,(h.inner j hj).2.congr fun q hq=>?_⟩,h.incr,h.below,h.basele⟩
      by_cases e:j=k
      ·subst e
       rw [(unhide N).len] at hq
       rw [partAt_full hq,partAt_full (by omega)]
      ·have:(j + 1 == k + 1)=false:=by simp;omega
       rw [this,partAt_false,partAt_false]
     go_wp2
     refine ⟨⟨k + 1,off + p + 1,_,(if T.length - off=p + 1 then some { block:=A,off:=off } else some { block:=A,off:=off + (p + 1) }),by omega,by go_num,?_,fun h=>?_,unhide nx,unhide ML⟩,by simp [intOf];omega⟩
     ·rw [show T.length - (off + p + 1)=T.length - off - (p + 1) by omega]
     ·rw [if_neg (by omega),show off + (p + 1)=off + p + 1 by omega]
  ·have e1:k=C:=by omega
   subst e1
   have hl:=unhide hmem
   rw [← unhide HL] at hl
   have LL:=hide (hl.lists (fun j hj=>by have:=unhide (HLs j);omega))
   have HB:=hide hl.below
   clear hl
   rw [unhide HL] at LL
   go_wp2
   go_ret
   exact ⟨_,rfl,unhide HB,unhide LL⟩
end Rd
end Go.Proofs.YtceahffmenbibaaGreatDoor
namespace Go.Proofs.YtceahffmenbibaaGreatDoor
namespace Rd
open Go Go.RowKit Go.Proofs Go.Deep
def readP (s:Bs):Int × List (List Int) × Int:=
 if 20000 < s.length then (0,[],1)
 else match parseB s with
  | none=>(0,[],2)
  | some (v,T)=>if above v [53,48] || decide (700 < lits T) then (0,[],1) else (value9 v,cls (zeros T) T,0)
theorem parse_facts {s v:Bs} {T:List Bs} (h:parseB s=some (v,T)):numB v=true∧okAll v T=true∧closedB T=true:=by
 unfold parseB at h
 cases h1:(skipF (s.length + 1) s).bind cutP with
 | none=>rw [h1] at h;simp at h
 | some o=>
  obtain ⟨v',c,r⟩:=o
  rw [h1] at h
  simp only at h
  split at h
  ·rename_i hc
   simp only [Option.some.injEq,Prod.mk.injEq] at h
   obtain ⟨rfl,rfl⟩:=h
   simp only [Bool.and_eq_true] at hc
   refine ⟨?_,hc.1.1,hc.1.2⟩
   obtain ⟨x,_,hx⟩:=Option.bind_eq_some_iff.1 h1
   unfold cutP at hx
   split at hx
   ·rename_i hy
    simp only [Bool.and_eq_true] at hy
    simp only [Option.some.injEq,Prod.mk.injEq] at hx
    rw [← hx.1];exact hy.1.2
   ·cases hx
  ·cases h
theorem short_of {v:Bs} {T:List Bs} (h:okAll v T=true) (hv:v.length ≤ 2):shortLits T:=by
 intro t ht hz
 have:=List.all_eq_true.1 h t ht
 rw [hz,Bool.false_or] at this
 have hl:(strip t).length ≤ 2:=by
  have h2:=this
  unfold litB at h2
  simp only [Bool.and_eq_true,Bool.not_eq_true'] at h2
  have:=not_above_len h2.2
  omega
 refine ⟨atoi_lit this (by omega),?_⟩
 unfold strip at hl
 split at hl
 ·simp at hl;omega
 ·omega
theorem itoa50 (w:World):Calls Tryz.prog 36 #[.int .i64 50] w fun e w'=>e=.returned (.string ⟨#[53,48]⟩)∧w'=w:=by
 refine (Tryz.strconv_Itoa_small 50 (by omega) w).mono ?_
 rintro e w' ⟨rfl,rfl⟩
 exact ⟨by rw [show Lib.decDigits 50=[53,48] from by decide +kernel],rfl⟩
theorem isAbove50 (v:ByteArray) (b:Bool) (w:World) (hv:v.size ≤ 20000) (hb:above v.data.toList [53,48]=b):
  Calls Tryz.prog 35 #[.string v,.string ⟨#[53,48]⟩] w fun e w'=>e=.returned (.bool b)∧w'=w:=by
 refine (isAbove_any v ⟨#[53,48]⟩ w (by unfold maxLen;omega) (by decide)).mono ?_
 rintro e w' ⟨rfl,rfl⟩
 exact ⟨by rw [show above v.data.toList (⟨#[53,48]⟩:ByteArray).data.toList=b from hb],rfl⟩
def ReadEnd (r:Int × List (List Int) × Int) (w w':World) (e:Ending):Prop:=
 ∃ u,e=.returned (.tuple #[.int .i64 r.1,u,.int .i64 r.2.2])∧((r.2.1=[]∧u=.slice none 0 0)∨Lists 43 3 w.heap.size w' u r.2.1)
set_option maxHeartbeats 2000000 in
theorem read_any (s:ByteArray) (w:World) (hs:s.size ≤ maxLen) (hg:Glob w):
  Calls Tryz.prog 18 #[.string s] w fun e w'=>Below w.heap.size w w'∧ReadEnd (readP s.data.toList) w w' e:=by
 unfold maxLen at hs
 by_cases h0:20000 < s.size
 ·have E:Hid (readP s.data.toList=(0,[],1)):=by unfold Hid readP;rw [if_pos (by simpa using h0)]
  go_enter Tryz.func18,Tryz.ntmps18
  go_wp2
  go_ret3
  exact ⟨Below.refl _ _,_,by rw [unhide E];rfl,.inl ⟨by rw [unhide E],rfl⟩⟩
 ·have h0':¬ (20000:Int) < (s.size:Int):=by omega
  have HG:=hide hg;clear hg
  go_enter Tryz.func18,Tryz.ntmps18
  go_wp2_with fail
  refine (parse_any s w (by omega) (unhide HG)).mono ?_
  rintro e w1 ⟨hb1,⟨hp,rfl⟩ | ⟨v,T,A,hp,rfl,hA,hA1,hc,hn,hT,hv⟩⟩
  ·have E:Hid (readP s.data.toList=(0,[],2)):=by unfold Hid readP;rw [if_neg (by simpa using h0),hp]
   clear hp
   go_wp2
   go_ret3
   exact ⟨hb1.alloc (by exact hb1.size) _,_,by rw [unhide E];rfl,.inl ⟨by rw [unhide E],rfl⟩⟩
  ·have E0:Hid (readP s.data.toList=if above v.data.toList [53,48] || decide (700 < lits (bss T)) then (0,[],1) else (value9 v.data.toList,cls (zeros (bss T)) (bss T),0)):=by
    unfold Hid readP;rw [if_neg (by simpa using h0),hp]
   obtain ⟨f1,f2,f3⟩:=parse_facts hp
   have F1:=hide f1
   have F2:=hide f2
   have HC:=hide hc
   have HT:=hide hT
   have HB1:=hide hb1
   have s1:=hb1.size
   clear hp f1 f2 f3 hc hT hb1
   have zl:=zeros_le (bss T)
   have ll:=lits_le (bss T)
   have zl':(bss T).length=T.length:=by simp [bss]
   cases c1:above v.data.toList [53,48] with
   | true=>
    have E:Hid (readP s.data.toList=(0,[],1)):=by unfold Hid;rw [unhide E0,c1];rfl
    have C1:=hide c1
    clear c1 E0
    go_wp2
    go_quiet ((first | (go_at_call 36;exact Calls.quiet_of_same (itoa50 _)) | (go_at_call 35;exact Calls.quiet_of_same (isAbove50 v true _ hv (unhide C1)))))
    go_wp2
    go_ret3
    exact ⟨bel_drewN ((unhide HB1).alloc s1 _) _,_,by rw [unhide E];rfl,.inl ⟨by rw [unhide E],rfl⟩⟩
   | false=>
    have C1:=hide c1
    clear c1
    by_cases c2:700 < lits (bss T)
    ·have E:Hid (readP s.data.toList=(0,[],1)):=by unfold Hid;rw [unhide E0,unhide C1];simp [c2]
     have hd:decide ((700:Int) < (lits (bss T):Int))=true:=by simp;omega
     clear c2 E0
     go_wp2
     go_quiet ((first | (go_at_call 36;exact Calls.quiet_of_same (itoa50 _)) | (go_at_call 35;exact Calls.quiet_of_same (isAbove50 v false _ hv (unhide C1)))))
     go_wp2
     go_ret3
     exact ⟨bel_drewN ((unhide HB1).alloc s1 _) _,_,by rw [unhide E];rfl,.inl ⟨by rw [unhide E],rfl⟩⟩
    ·have E:Hid (readP s.data.toList=(value9 v.data.toList,cls (zeros (bss T)) (bss T),0)):=by unfold Hid;rw [unhide E0,unhide C1];simp [c2]
     have hd:decide ((700:Int) < (lits (bss T):Int))=false:=by simp;omega
     have v2:v.size ≤ 2:=by have:=not_above_len (unhide C1);simpa using this
     have AT:=hide (atoi_num (unhide F1) (by simp;omega))
     have SH:=hide (short_of (unhide F2) (by simpa using v2))
     clear c2 E0
     go_wp2
     go_quiet ((first | (go_at_call 36;exact Calls.quiet_of_same (itoa50 _)) | (go_at_call 35;exact Calls.quiet_of_same (isAbove50 v false _ hv (unhide C1)))))
     go_wp2
     go_region_with (first
      |(go_at_call 37;refine (toInt_any v (value9 v.data.toList) _ (by omega) (unhide AT)).mono ?_;rintro e2 w2 ⟨rfl,hb2⟩;have d0:=hb2.cell (p:=⟨w1.heap.size,0,none⟩) (by simp);have d1:=hb2.cell (p:=⟨w1.heap.size,1,none⟩) (by simp);have d2:=hb2.cell (p:=⟨w1.heap.size,2,none⟩) (by simp);have d3:=hb2.cell (p:=⟨w1.heap.size,3,none⟩) (by simp);have A2:Hid (A < w2.heap.size):=(by have:=hb2.size;simp at this;unfold Hid;omega);have C2:Hid (∀ j (h:j < T.length),w2.cell? ⟨A,j,none⟩=some (.string T[j])):=fun j h=>(hb2.cell (p:=⟨A,j,none⟩) (by simp;omega)).trans ((World.cell?_alloc_lt _ _ _ (by exact hA1)).trans (unhide HC j h));have HB2:=hide hb2;clear hb2)
      |(go_at_call 38;refine (makeClauses_any v T A _ hn (by exact unhide A2) (by exact unhide C2) (unhide SH)).mono ?_;rintro e3 w3 ⟨u,rfl,hb3,hl3⟩;have HB3:=hide hb3;have HL3:=hide hl3;clear hb3 hl3))
     all_goals
      go_wp2
      go_ret3
      have s2:=(unhide HB2).size
      simp at s2
      refine ⟨?_,u,by rw [unhide E];rfl,.inr ?_⟩
      ·refine Below.trans (Below.trans (bel_drewN ((unhide HB1).alloc s1 _) _) (Below.trans (Below.drew (Below.refl _ _)) ((unhide HB2).mono (by simp;omega)))) ((unhide HB3).mono (by omega))
      ·rw [unhide E];exact (unhide HL3).mono (by omega)
end Rd
end Go.Proofs.YtceahffmenbibaaGreatDoor
namespace Go.Proofs.YtceahffmenbibaaGreatDoor
namespace Rd
open Go
def splitR (c:UInt8):Bs→List Bs
 | []=>[[]]
 | x :: l=>if x == c then [] :: splitR c l else match splitR c l with | h :: t=>(x :: h) :: t | []=>[[x]]
theorem splitR_ne (c:UInt8) (l:Bs):∃ h t,splitR c l=h :: t:=by
 cases l with
 | nil=>exact ⟨_,_,rfl⟩
 | cons x l=>
  unfold splitR
  split
  ·exact ⟨_,_,rfl⟩
  ·split
   ·exact ⟨_,_,rfl⟩
   ·exact ⟨_,_,rfl⟩
def splStep (c:UInt8) (st:List Bs × Bs) (x:UInt8):List Bs × Bs:=if x == c then (st.1 ++ [st.2],[]) else (st.1,st.2 ++ [x])
theorem splitTo_fold (c:UInt8) (l:Bs):splitTo c l=l.foldl (splStep c) ([],[]):=rfl
def addHead (cur:Bs):List Bs→List Bs
 | h :: t=>(cur ++ h) :: t
 | []=>[cur]
theorem split_fold (c:UInt8):∀ (l:Bs) (acc:List Bs) (cur:Bs),(l.foldl (splStep c) (acc,cur)).1 ++ [(l.foldl (splStep c) (acc,cur)).2]=acc ++ addHead cur (splitR c l)
 | [],acc,cur=>by simp [splitR,addHead]
 | x :: l,acc,cur=>by
  simp only [List.foldl_cons]
  cases h:(x == c) with
  | true=>
   simp only [splStep,h,if_true]
   rw [split_fold c l]
   obtain ⟨h1,t1,e⟩:=splitR_ne c l
   simp [splitR,h,addHead,e]
  | false=>
   simp only [splStep,h,Bool.false_eq_true,if_false]
   rw [split_fold c l]
   obtain ⟨h1,t1,e⟩:=splitR_ne c l
   simp [splitR,h,addHead,e]
theorem splitB_eq (c:UInt8) (l:Bs):splitB c l=splitR c l:=by
 have:=split_fold c l [] []
 unfold splitB
 rw [splitTo_fold,this]
 obtain ⟨h1,t1,e⟩:=splitR_ne c l
 simp [addHead,e]
theorem splitR_cons {c:UInt8}:∀ {l h:Bs} {t:List Bs},splitR c l=h :: t→t ≠ []→∃ l',l=h ++ c :: l'∧splitR c l'=t
 | [],h,t,e,ht=>by simp [splitR] at e;exact absurd e.2.symm (fun x=>ht x.symm)
 | x :: l,h,t,e,ht=>by
  unfold splitR at e
  cases hx:(x == c) with
  | true=>
   rw [hx,if_pos rfl] at e
   simp only [List.cons.injEq] at e
   have hc:x=c:=by simpa using hx
   exact ⟨l,by rw [← e.1,hc];rfl,e.2⟩
  | false=>
   rw [hx,if_neg (by simp)] at e
   obtain ⟨h1,t1,e1⟩:=splitR_ne c l
   rw [e1] at e
   simp only [List.cons.injEq] at e
   obtain ⟨l',e2,e3⟩:=splitR_cons (l:=l) (h:=h1) (t:=t1) e1 (by rw [e.2];exact ht)
   exact ⟨l',by rw [e2,← e.1];rfl,by rw [e3,e.2]⟩
def upto (c:UInt8) (l:Bs):Bs:=l.takeWhile (fun x=>!(x == c))
def hasB (c:UInt8) (l:Bs):Bool:=decide ((upto c l).length < l.length)
theorem splitR_upto (c:UInt8):∀ (l:Bs),splitR c l=if hasB c l then upto c l :: splitR c (l.drop ((upto c l).length + 1)) else [l]
 | []=>rfl
 | x :: l=>by
  rw [show splitR c (x :: l)=if x == c then [] :: splitR c l else match splitR c l with | h :: t=>(x :: h) :: t | []=>[[x]] from rfl]
  cases hx:(x == c) with
  | true=>
   have e:upto c (x :: l)=[]:=by simp [upto,hx]
   have e2:hasB c (x :: l)=true:=by unfold hasB;rw [e];simp
   rw [e2,e];rfl
  | false=>
   have e:upto c (x :: l)=x :: upto c l:=by simp [upto,hx]
   have e2:hasB c (x :: l)=hasB c l:=by unfold hasB;rw [e];simp
   rw [e2,e,if_neg (by simp),splitR_upto c l]
   cases hasB c l <;> rfl
theorem index_one (c:UInt8):∀ (l:Bs),Lib.index l [c]=if hasB c l then ((upto c l).length:Int) else -1
 | []=>by simp [Lib.index,upto,hasB]
 | x :: r=>by
  have ih:=index_one c r
  by_cases h:x=c
  ·subst h;simp [Lib.index,upto,hasB,List.isPrefixOf]
  ·have h':¬ c=x:=fun e=>h e.symm
   have hx:(x == c)=false:=by simpa using h
   unfold Lib.index
   rw [show List.isPrefixOf [c] (x :: r)=false from by simp [List.isPrefixOf,h'],ih]
   have e1:upto c (x :: r)=x :: upto c r:=by simp [upto,hx]
   have e2:hasB c (x :: r)=hasB c r:=by unfold hasB;rw [e1];simp
   rw [e2,e1]
   cases hasB c r <;> simp
theorem cut_one (c:UInt8) (l:Bs):Lib.cut l [c]=if hasB c l then (upto c l,l.drop ((upto c l).length + 1),true) else (l,[],false):=by
 unfold Lib.cut
 rw [index_one]
 cases h:hasB c l
 ·simp
 ·have ht:l.take (upto c l).length=upto c l:=by
   have:=List.takeWhile_prefix (l:=l) (p:=fun x=>!(x == c))
   exact (List.prefix_iff_eq_take.1 this).symm
  simp [ht]
theorem takeWhile_self {p:UInt8→Bool}:∀ (l:Bs),(∀ c ∈ l,p c=true)→l.takeWhile p=l
 | [],_=>rfl
 | a :: l,h=>by rw [List.takeWhile_cons,if_pos (h a (by simp)),takeWhile_self l (fun c hc=>h c (by simp [hc]))]
theorem numB_no32 {l:Bs} (h:numB l=true):hasB 32 l=false:=by
 have hd:=(numB_parts h).1
 have:upto 32 l=l:=by
  unfold upto
  refine takeWhile_self l fun x hx=>?_
  have:=List.all_eq_true.1 hd x hx
  simp [isDig] at this
  simp [← UInt8.toNat_inj]
  omega
 unfold hasB
 rw [this];simp
theorem pline_eq (ln:Bs):pline ln=if Lib.hasPrefix ln pcnf && (Lib.cut (Lib.trimPrefix ln pcnf) [32]).2.2 && numB (Lib.cut (Lib.trimPrefix ln pcnf) [32]).1 && numB (Lib.cut (Lib.trimPrefix ln pcnf) [32]).2.1
  then some ((Lib.cut (Lib.trimPrefix ln pcnf) [32]).1,(Lib.cut (Lib.trimPrefix ln pcnf) [32]).2.1) else none:=by
 unfold pline
 rw [splitB_eq]
 cases hp:Lib.hasPrefix ln pcnf with
 | true=>
  have htr:Lib.trimPrefix ln pcnf=ln.drop 6:=by unfold Lib.trimPrefix;rw [hp];rfl
  obtain ⟨n,hn⟩:=List.isPrefixOf_iff_prefix.1 (show pcnf.isPrefixOf ln=true from hp)
  have hd:ln.drop 6=n:=by rw [← hn];rfl
  rw [htr,hd]
  have hs:splitR 32 ln=[112] :: [99,110,102] :: splitR 32 n:=by
   obtain ⟨h1,t1,e⟩:=splitR_ne 32 n
   rw [← hn]
   simp [splitR,e,pcnf]
  rw [hs,cut_one,splitR_upto]
  cases hl:hasB 32 n with
  | true=>
   simp only [if_true]
   rw [splitR_upto]
   cases hl2:hasB 32 (n.drop ((upto 32 n).length + 1)) with
   | true=>
    simp only [if_true]
    obtain ⟨h1,t1,e⟩:=splitR_ne 32 ((n.drop ((upto 32 n).length + 1)).drop ((upto 32 (n.drop ((upto 32 n).length + 1))).length + 1))
    rw [e]
    have:numB (n.drop ((upto 32 n).length + 1))=false:=by
     rw [Bool.eq_false_iff];intro hh;rw [numB_no32 hh] at hl2;cases hl2
    simp [this]
   | false=>
    simp
  | false=>
   simp
 | false=>
  simp only [Bool.false_and]
  split
  ·rename_i a b v c heq
   split
   ·rename_i hc
    exfalso
    simp only [Bool.and_eq_true,beq_iff_eq] at hc
    obtain ⟨⟨⟨ha,hb⟩,_⟩,_⟩:=hc
    subst ha hb
    obtain ⟨l1,e1,e2⟩:=splitR_cons heq (by simp)
    obtain ⟨l2,e3,e4⟩:=splitR_cons e2 (by simp)
    rw [e1,e3] at hp
    simp [Lib.hasPrefix,pcnf,List.isPrefixOf] at hp
   ·rfl
  ·rfl
theorem pline_c (r:Bs):pline (99 :: r)=none:=by
 rw [pline_eq]
 have:Lib.hasPrefix (99 :: r) pcnf=false:=by simp [Lib.hasPrefix,pcnf,List.isPrefixOf]
 rw [this];rfl
theorem heads_eq:∀ (f:Nat) (l:Bs),l.length < f→(skipF f l).bind cutP=headF f l
 | 0,l,h=>by omega
 | f + 1,l,h=>by
  unfold skipF headF
  rw [hasPrefix_c]
  cases hc:(l.head? == some 99) with
  | true=>
   have hc':l.head? = some 99:=by simpa using hc
   simp only [if_true]
   cases he:ended l with
   | false=>rfl
   | true=>
    simp only [Bool.true_and,if_true]
    cases hm:comment (line l) with
    | true=>
     simp only [if_true]
     exact heads_eq f _ (by have:=rest_len he;omega)
    | false=>
     obtain ⟨r,hr⟩:=line_c hc'
     rw [hr,pline_c];rfl
  | false=>
   simp only [Bool.false_eq_true,if_false,Option.bind_some]
   unfold cutP
   cases he:ended l with
   | false=>rfl
   | true=>
    simp only [Bool.true_and,if_true]
    have hm:comment (line l)=false:=by
     rw [Bool.eq_false_iff];intro hm
     have:∃ r,line l=99 :: r:=by
      unfold comment at hm
      simp only [Bool.or_eq_true,beq_iff_eq] at hm
      rcases hm with hm | hm
      ·exact ⟨[],hm⟩
      ·obtain ⟨t,ht⟩:=List.isPrefixOf_iff_prefix.1 (show List.isPrefixOf [99,32] (line l)=true from hm)
       exact ⟨32 :: t,by rw [← ht];rfl⟩
     obtain ⟨r,hr⟩:=this
     have:=line_head hr
     rw [this] at hc
     simp at hc
    rw [hm,pline_eq]
    simp only [Bool.false_eq_true,if_false]
    split <;> rfl
theorem read_eq (s:Bs):readP s=readB s:=by
 unfold readP readB parseB
 by_cases h:20000 < s.length
 ·rw [if_pos h,if_pos h]
 ·rw [if_neg h,if_neg h,heads_eq (s.length + 1) s (by omega)]
  cases headF (s.length + 1) s with
  | none=>rfl
  | some o=>
   obtain ⟨v,c,r⟩:=o
   simp only
   unfold body
   rw [open_iff,clausesTo_length,cls_eq _ (toks r) rfl]
   show _=_
   rw [show (List.isEmpty (toks r) || (toks r).getLast? == some [48])=closedB (toks r) from rfl]
   cases okAll v (toks r) with
   | false=>rfl
   | true=>
    generalize closedB (toks r)=b1
    generalize (Lib.decDigits (zeros (toks r)) == c)=b2
    cases b1 <;> cases b2 <;> rfl
end Rd
end Go.Proofs.YtceahffmenbibaaGreatDoor
