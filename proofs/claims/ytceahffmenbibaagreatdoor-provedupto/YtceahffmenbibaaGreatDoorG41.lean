/- Kmts Srsm Kwrf Kwrk Kshb Ksho Kcla. -/
import Derived.Test.YtceahffmenbibaaGreatDoorG40
import Derived.Test.YtceahffmenbibaaGreatDoorG27
set_option linter.unusedVariables false
set_option linter.unusedSimpArgs false
namespace Go.Proofs.YtceahffmenbibaaGreatDoor
namespace Kp
open Go Go.RowKit Go.Deep Rd Go.Proofs.YtceahffmenbibaaGreatDoor.So
def clMet (c:Cl) (vals:Nat→Bool):Bool:=c.any fun x=>vals (x.natAbs - 1) == decide (0 < x)
def allMet (L:List Cl) (vals:Nat→Bool):Bool:=L.all fun c=>clMet c vals
def Rows (w:World) (lv:Value) (L:List Cl):Prop:=∃ (a:Option Addr) (c b:Nat),lv=.slice a L.length c∧(0 < L.length→a=some ⟨b,0,none⟩)∧∀ i (hi:i < L.length),∃ (ai:Option Addr) (ci bi:Nat),w.cell? ⟨b,i,none⟩=some (.slice ai (L[i]).length ci)∧(0 < (L[i]).length→ai=some ⟨bi,0,none⟩)∧∀ j (hj:j < (L[i]).length),w.cell? ⟨bi,j,none⟩=some (.int .i64 (L[i])[j])
set_option maxHeartbeats 4000000 in
set_option maxRecDepth 100000 in
theorem meets_any (w:World) (lv:Value) (L:List Cl) (n g:Nat) (vals:Nat→Bool) (hL:Rows w lv L) (hz:∀ c ∈ L,∀ x ∈ c,InV n x) (hl:∀ c ∈ L,c.length ≤ 20001) (hm:L.length ≤ 20001) (hn:n ≤ 50) (hv:∀ v,v < n→w.cell? ⟨g,v,none⟩=some (.bool (vals v))):
  Calls Tryz.prog 24 #[lv,.slice (some ⟨g,0,none⟩) n n] w fun e w'=>e=.returned (.bool (allMet L vals))∧Below w.heap.size w w':=by
 obtain ⟨la,lc,lb,rfl,hla,hrow⟩:=hL
 have HR:=hide hrow
 have HZ:=hide hz
 have HL:=hide hl
 have HV:=hide hv
 clear hrow hz hl hv
 go_enter Tryz.func24,Tryz.ntmps24
 go_wp2
 go_loopw [5] (fun i wr=>∃ k:Nat,k ≤ L.length∧i=.int .i64 k∧Hid ((L.take k).all (fun c=>clMet c vals)=true)∧∃ j,w.drewN j=wr) (fun i _=>L.length - (intOf i).toNat)
 case atStart=>exact ⟨0,Nat.zero_le _,rfl,rfl,0,rfl⟩
 case round=>
  obtain ⟨k,hk,rfl,ha,j0,rfl⟩:=hrel
  by_cases hlt:k < L.length
  ·obtain ⟨ai,ci,bi,e1,e2,e3⟩:=unhide HR k hlt
   have ea:=hla (by omega)
   subst ea
   clear hla
   have hcl:=unhide HL _ (List.getElem_mem hlt)
   have HCZ:Hid (∀ x ∈ L[k],InV n x):=unhide HZ _ (List.getElem_mem hlt)
   have E3:=hide e3
   have HT:Hid ((L.take (k + 1)).all (fun c=>clMet c vals)=clMet L[k] vals):=by
    unfold Hid
    rw [List.take_succ_eq_append_getElem hlt,List.all_append,unhide ha];simp
   have HF:Hid (clMet L[k] vals=false→allMet L vals=false):=fun h=>by
    unfold allMet
    rw [List.all_eq_false]
    exact ⟨_,List.getElem_mem hlt,by simpa using h⟩
   clear e3
   generalize L[k]=c at *
   go_wp2
   go_loopw [6,7] (fun sm i wr=>∃ q:Nat,q ≤ c.length∧i=.int .i64 q∧sm=.bool (clMet (c.take q) vals)∧∃ j,w.drewN j=wr) (fun _ i _=>c.length - (intOf i).toNat)
   case atStart=>exact ⟨0,Nat.zero_le _,rfl,rfl,j0,rfl⟩
   case round=>
    obtain ⟨q,hq,rfl,rfl,j1,rfl⟩:=hrel
    by_cases hqt:q < c.length
    ·have ei:=e2 (by omega)
     subst ei
     have e4:=unhide E3 q hqt
     obtain ⟨hx0,hx1⟩:=unhide HCZ _ (List.getElem_mem hqt)
     have HQ:Hid (clMet (c.take (q + 1)) vals=(clMet (c.take q) vals || (vals ((c[q]).natAbs - 1) == decide (0 < c[q])))):=by
      unfold Hid clMet
      rw [List.take_succ_eq_append_getElem hqt,List.any_append];simp
     have e5:=unhide HV ((c[q]).natAbs - 1) (by omega)
     generalize c[q]=x at *
     generalize clMet (c.take q) vals=sm at *
     have hd:∀ b:Bool,b=decide (0 < x)→(Value.bool (sm || (vals (x.natAbs - 1) == b)))=Value.bool (clMet (c.take (q + 1)) vals):=fun b h=>by rw [unhide HQ,h]
     by_cases hneg:x < 0
     ·have w1:IntKind.i64.wrap (-x)=-x:=by rw [IntKind.wrap_i64];omega
      have w2:IntKind.i64.wrap (-x - 1)=((x.natAbs - 1:Nat):Int):=by rw [IntKind.wrap_i64];omega
      have i3:x.natAbs - 1 < n:=by omega
      have i4:¬ -x < 1:=by omega
      have i5:¬ (n:Int) < -x:=by omega
      have i6:¬ 0 < x:=by omega
      have hd2:=hd false (by simp;omega)
      go_wp2
      cases sm
      ·go_region
       all_goals go_wp2
       all_goals go_roundw
       case rel=>exact ⟨q + 1,by omega,by go_num,(by first | exact hd2 | exact hd _ rfl | (rw [← hd2];simp)),j1 + 1,rfl⟩
       case measure=>simp [intOf];omega
      ·go_region
       all_goals go_wp2
       all_goals go_roundw
       case rel=>exact ⟨q + 1,by omega,by go_num,(by first | exact hd2 | exact hd _ rfl | (rw [← hd2];simp)),j1 + 1,rfl⟩
       case measure=>simp [intOf];omega
     ·have w2:IntKind.i64.wrap (x - 1)=((x.natAbs - 1:Nat):Int):=by rw [IntKind.wrap_i64];omega
      have i3:x.natAbs - 1 < n:=by omega
      have i4:¬ x < 1:=by omega
      have i5:¬ (n:Int) < x:=by omega
      have i6:0 < x:=by omega
      have hd2:=hd true (by simp;omega)
      go_wp2
      cases sm
      ·go_region
       all_goals go_wp2
       all_goals go_roundw
       case rel=>exact ⟨q + 1,by omega,by go_num,(by first | exact hd2 | exact hd _ rfl | (rw [← hd2];simp)),j1 + 1,rfl⟩
       case measure=>simp [intOf];omega
      ·go_region
       all_goals go_wp2
       all_goals go_roundw
       case rel=>exact ⟨q + 1,by omega,by go_num,(by first | exact hd2 | exact hd _ rfl | (rw [← hd2];simp)),j1 + 1,rfl⟩
       case measure=>simp [intOf];omega
    ·have e:q=c.length:=by omega
     subst e
     rw [List.take_length]
     cases hcm:clMet c vals
     ·have E:=hide (unhide HF hcm)
      go_wp2
      go_ret
      exact ⟨by rw [unhide E];rfl,belowN w j1⟩
     ·have E:Hid ((L.take (k + 1)).all (fun c=>clMet c vals)=true):=(unhide HT).trans hcm
      go_wp2
      go_roundw
      case rel=>exact ⟨k + 1,by omega,by go_num,E,j1,rfl⟩
      case measure=>simp [intOf];omega
  ·have e:k=L.length:=by omega
   subst e
   have E:Hid (allMet L vals=true):=by
    have:=unhide ha
    rw [List.take_length] at this;exact this
   go_wp2
   go_ret
   exact ⟨by rw [unhide E];rfl,belowN w j0⟩
end Kp
end Go.Proofs.YtceahffmenbibaaGreatDoor
namespace Go.Proofs.YtceahffmenbibaaGreatDoor
namespace So
open Go Go.RowKit Go.Deep Rd
variable {Z:Nat→Prop} {sb ob hb kb n:Nat} {L0:List Cl} {N0:Nat}
def Small (s:St):Prop:=s.m=s.k∧s.r=1∧s.mo=100
theorem small_k {brk:Bool} {w:World} {s:St} (hn:n ≤ 6) (h:Main Z sb ob hb kb n L0 N0 brk w s):s.k ≤ 31:=by
 have h1:=h.prof
 have h2:=prof_lt n (bits s.tr.length s.ch)
 have h3:2 ^ n ≤ 2 ^ 6:=Nat.pow_le_pow_right (by omega) hn
 omega
theorem steps_small (hn:n ≤ 6) (hN:N0 ≤ 500000000000):Steps Z sb ob hb kb n L0 N0 Small (fun s=>8 * (32 - s.k) + (7 - s.tr.length)) 31:=by
 intro brk w s h hr hs
 obtain ⟨e1,e2,e3⟩:=hs
 have hk:=small_k hn h
 have hnum:=h.num
 have fin:∀ e w',StepRet Z sb ob hb kb n L0 N0 w s e w'→Chg Z w w'∧((e=.returned (.tuple #[.int .i64 2,.nilIface])∧NeverAt Z kb n L0 31 w')∨(e=.returned (.tuple #[.int .i64 0,.nilIface])∧∃ s',Main Z sb ob hb kb n L0 N0 false w' s'∧Ready s'∧Small s'∧8 * (32 - s'.k) + (7 - s'.tr.length) < 8 * (32 - s.k) + (7 - s.tr.length)) ∨
  (e=.returned (.tuple #[.int .i64 1,.nilIface])∧∃ s',Main Z sb ob hb kb n L0 N0 false w' s'∧(∀ v,v < n→∃ x ∈ s'.tr,x / 2=v)∧s'.P=s'.tr.length∧s'.m ≤ 31)):=by
  rintro e w' ⟨c,⟨rfl,ls,L,a1,a2,a3,a4,a5⟩ | ⟨rfl,s',m',r',g⟩ | ⟨rfl,s',m',g1,g2,g3⟩⟩
  ·exact ⟨c,.inl ⟨rfl,ls,L,a1,a2,a3,a4,by omega⟩⟩
  ·refine ⟨c,.inr (.inl ⟨rfl,s',m',r',?_,?_⟩)⟩
   ·have l1:=h.lcm
    have hk':=small_k hn m'
    rcases g with ⟨g1,g2,g3,g4⟩ | ⟨g1,g2,g3,g4,g5⟩ | ⟨g1,g2,g3,g4,g5⟩
    ·have:=g4 (by omega)
     exact ⟨by omega,by omega,by omega⟩
    ·rw [e2] at g5
     have:Lb.lub 1 1=1:=by decide
     omega
    ·exact ⟨by omega,by omega,by omega⟩
   ·have t1:=h.pi.tri.len
    have t2:=m'.pi.tri.len
    have hk':=small_k hn m'
    rcases g with ⟨g1,g2,g3,g4⟩ | ⟨g1,g2,g3,g4,g5⟩ | ⟨g1,g2,g3,g4,g5⟩
    ·omega
    ·rw [e2] at g5
     have:Lb.lub 1 1=1:=by decide
     omega
    ·omega
  ·exact ⟨c,.inr (.inr ⟨rfl,s',m',g1,g2,by omega⟩)⟩
 cases brk
 ·refine (step_any h hr (by omega) (by omega) (by omega) (by omega) (forget_small (Z:=Z)) ?_).mono fin
  intro s' f1 f2 f3 f4 f5
  have l1:=h.lcm
  exact ⟨by omega,by omega⟩
 ·exact (step_broken h hr (by omega) (by omega) (by omega)).mono fin
theorem run_small (hn:n ≤ 6) (w:World) (lv:Value) (L:List Cl) (hL:Lst Z w lv L) (hz:∀ c ∈ L,∀ x ∈ c,InV n x) (hl:∀ c ∈ L,c.length ≤ 20001) (hm:L.length ≤ 20001) (hk:Snk Z kb w []) (hN:nsN L ≤ 500000000000):
  Calls Tryz.prog 31 #[.int .i64 (n:Nat),lv,.iface 105 (.pointer (some ⟨kb,0,none⟩))] w fun e w'=>RunRet Z kb n L 31 w e w':=
 run_any (by omega) w lv L hL hz hl hm hk (by omega) Small _ 31 (fun s h1 h2 h3 h4 h5=>⟨by omega,h3,h5⟩) (fun _ _ _=>steps_small hn hN)
end So
end Go.Proofs.YtceahffmenbibaaGreatDoor
namespace Go.Proofs.YtceahffmenbibaaGreatDoor
namespace Kp
open Go Rd Go.Proofs.YtceahffmenbibaaGreatDoor.So
def tx1:ByteArray:=⟨#[112,32,99,110,102,32,50,32,50,10,49,32,45,50,32,48,10,50,32,48,10]⟩
def tx2:ByteArray:=⟨#[112,32,99,110,102,32,49,32,50,10,49,32,48,10,45,49,32,48,10]⟩
def tx3:ByteArray:=⟨#[112,32,99,110,102,32,49,32,49,10,49,32,48,10]⟩
def pr0:ByteArray:=⟨#[48,10]⟩
theorem rd1:readB tx1.data.toList=(((2:Nat):Int),[[1,-2],[2]],0):=by decide +kernel
theorem rd2:readB tx2.data.toList=(((1:Nat):Int),[[1],[-1]],0):=by decide +kernel
theorem rd3:readB tx3.data.toList=(((1:Nat):Int),[[1]],0):=by decide +kernel
theorem sp0:splitB 10 pr0.data.toList=[[48],[]]:=by decide +kernel
theorem ln0:lineB (Lib.decDigits 1) [48]=some (false,[]):=line_of (V:=1) (by omega) false (c:=[]) (by simp)
theorem right2:RightP [[1],[-1]] []:=by
 left
 intro M hM _ hS
 have h1:M 1:=by
  rcases hS [1] (by simp) with ⟨l,hl,h⟩ | ⟨a,ha,b,hb,hab,_⟩
  ·simp at hl;subst hl;exact h
  ·simp at ha hb;rw [ha,hb] at hab;exact absurd rfl hab
 have h2:M (-1):=by
  rcases hS [-1] (by simp) with ⟨l,hl,h⟩ | ⟨a,ha,b,hb,hab,_⟩
  ·simp at hl;subst hl;exact h
  ·simp at ha hb;rw [ha,hb] at hab;exact absurd rfl hab
 exact hM 1 h1 h2
theorem wrong3:¬ RightP [[1]] []:=fun h=>by
 have hs:Sat (fun _=>true) [[1]]:=fun c hc=>by
  simp at hc;subst hc
  exact ⟨1,by simp,by decide,by decide⟩
 obtain ⟨t',hs'⟩:=right_sat hs (by intro d hd l hl;simp at hd;subst hd;simp at hl;subst hl;decide) (by intro l hl;cases hl) h
 obtain ⟨l,hl,_⟩:=hs' [] (by simp)
 cases hl
theorem ck2:Rd.Checked tx2.data.toList pr0.data.toList (1,0):=by
 unfold Rd.Checked
 rw [rd2,if_pos rfl,sp0]
 refine ⟨1,0,rfl,?_⟩
 show chk (Lib.decDigits 1) [[1],[-1]] [[48],[]] 0 (1,0)
 unfold chk
 rw [if_neg (by simp),ln0]
 exact ⟨fun h=>absurd right2 h,fun _=>by simp⟩
theorem ck3:Rd.Checked tx3.data.toList pr0.data.toList (1,4):=by
 unfold Rd.Checked
 rw [rd3,if_pos rfl,sp0]
 refine ⟨1,4,rfl,?_⟩
 show chk (Lib.decDigits 1) [[1]] [[48],[]] 0 (1,4)
 unfold chk
 rw [if_neg (by simp),ln0]
 exact ⟨fun _=>rfl,fun h=>absurd h wrong3⟩
theorem in1:∀ c ∈ ([[1,-2],[2]]:List Cl),∀ x ∈ c,InV 2 x:=by
 intro c hc x hx
 unfold InV
 simp at hc
 rcases hc with rfl | rfl <;> simp at hx
 ·rcases hx with rfl | rfl <;> decide
 ·subst hx;decide
theorem in2:∀ c ∈ ([[1],[-1]]:List Cl),∀ x ∈ c,InV 1 x:=by
 intro c hc x hx
 unfold InV
 simp at hc
 rcases hc with rfl | rfl <;> simp at hx <;> subst hx <;> decide
theorem run1:Runs 2 [[1,-2],[2]] 31:=fun Z kb w lv hL hk=>run_small (by omega) w lv _ hL in1 (by intro c hc;simp at hc;rcases hc with rfl | rfl <;> decide) (by decide) hk (by decide)
theorem run2:Runs 1 [[1],[-1]] 31:=fun Z kb w lv hL hk=>run_small (by omega) w lv _ hL in2 (by intro c hc;simp at hc;rcases hc with rfl | rfl <;> decide) (by decide) hk (by decide)
theorem sat1:∃ t,Sat t [[1,-2],[2]]:=⟨fun _=>true,fun c hc=>by
 simp at hc
 rcases hc with rfl | rfl
 ·exact ⟨1,by simp,by decide,by decide⟩
 ·exact ⟨2,by simp,by decide,by decide⟩⟩
theorem unsat2:¬ ∃ t,Sat t [[1],[-1]]:=fun ⟨t,h⟩=>by
 obtain ⟨l,hl,_,h1⟩:=h [1] (by simp)
 obtain ⟨l',hl',_,h2⟩:=h [-1] (by simp)
 simp at hl hl'
 subst hl;subst hl'
 have e1:t 1=true:=h1
 have e2:t 1=false:=h2
 rw [e1] at e2;cases e2
theorem vals1 {vals:Nat→Bool} (h:MetBy [[1,-2],[2]] vals):vals 0=true∧vals 1=true:=by
 obtain ⟨l,hl,_,h2⟩:=h [2] (by simp)
 simp at hl;subst hl
 have e2:vals 1=true:=h2
 obtain ⟨l,hl,_,h1⟩:=h [1,-2] (by simp)
 simp at hl
 rcases hl with rfl | rfl
 ·exact ⟨h1,e2⟩
 ·have:vals 1=false:=h1
  rw [this] at e2;cases e2
end Kp
end Go.Proofs.YtceahffmenbibaaGreatDoor
namespace Go.Proofs.YtceahffmenbibaaGreatDoor
namespace Kp
open Go Go.RowKit Go.Deep Rd Go.Proofs.YtceahffmenbibaaGreatDoor.So
theorem cell_later {w w':World} {p:Addr} {v:Value} (h:w.cell? p=some v) (hb:Below w.heap.size w w'):w'.cell? p=some v:=by
 rw [hb.cell (p:=p) (block_lt_of_cell h)];exact h
def WkA (w0:World) (g a:Nat) (w:World):Prop:=w.cell? ⟨a,0,none⟩=some (.int .i64 1)∧w.cell? ⟨a,1,none⟩=some (.slice (some ⟨g,0,none⟩) 2 2)∧w.cell? ⟨g,0,none⟩=some (.bool true)∧w.cell? ⟨g,1,none⟩=some (.bool true)∧Below w0.heap.size w0 w
theorem WkA.later {w0 w w':World} {g a:Nat} (h:WkA w0 g a w) (hb:Below w.heap.size w w'):WkA w0 g a w':=
 ⟨cell_later h.1 hb,cell_later h.2.1 hb,cell_later h.2.2.1 hb,cell_later h.2.2.2.1 hb,h.2.2.2.2.trans (hb.mono h.2.2.2.2.size)⟩
theorem WkA.bel {w0 w:World} {g a:Nat} (h:WkA w0 g a w):Below w0.heap.size w0 w:=h.2.2.2.2
theorem three {w:World} {x y z:Value} {t:TypeId}:(w.alloc (.cells #[x,y,z] t)).cell? ⟨w.heap.size,0,none⟩=some x∧(w.alloc (.cells #[x,y,z] t)).cell? ⟨w.heap.size,1,none⟩=some y∧Below w.heap.size w (w.alloc (.cells #[x,y,z] t)):=by
 have r:(w.alloc (.cells #[x,y,z] t)).rowIs w.heap.size t 3 (fun i=>if i=0 then x else if i=1 then y else z):=World.rowIs_alloc w _ _ _ fun i hi=>match i,hi with
  | 0,_=>rfl
  | 1,_=>rfl
  | 2,_=>rfl
 exact ⟨r.cell (i:=0) (by omega),r.cell (i:=1) (by omega),(Below.refl _ _).alloc (Nat.le_refl _) _⟩
theorem wkA_of {w0 w:World} {g:Nat} {p:Value} {t:TypeId} (c0:w.cell? ⟨g,0,none⟩=some (.bool true)) (c1:w.cell? ⟨g,1,none⟩=some (.bool true)) (hb:Below w0.heap.size w0 w):WkA w0 g w.heap.size (w.alloc (.cells #[.int .i64 1,.slice (some ⟨g,0,none⟩) 2 2,p] t)):=by
 obtain ⟨h1,h2,h3⟩:=three (w:=w) (x:=.int .i64 1) (y:=.slice (some ⟨g,0,none⟩) 2 2) (z:=p) (t:=t)
 exact ⟨h1,h2,cell_later c0 h3,cell_later c1 h3,hb.trans (h3.mono hb.size)⟩
set_option maxHeartbeats 4000000 in
set_option maxRecDepth 100000 in
theorem works_any (Sr:World→Prop) (hSr:∀ {a b:World},Sr a→Below a.heap.size a b→Sr b)
  (hS1:∀ W,Sr W→Calls Tryz.prog 17 #[.string tx1,.int .i64 (-1)] W fun e w'=>∃ (g:Nat) (p:ByteArray),e=.returned (.tuple #[.agg #[.int .i64 1,.slice (some ⟨g,0,none⟩) 2 2,.string p],.int .i64 0])∧w'.cell? ⟨g,0,none⟩=some (.bool true)∧w'.cell? ⟨g,1,none⟩=some (.bool true)∧Below W.heap.size W w')
  (hS2:∀ W,Sr W→Calls Tryz.prog 17 #[.string tx2,.int .i64 (-1)] W fun e w'=>∃ (p:ByteArray),e=.returned (.tuple #[.agg #[.int .i64 2,.slice none 0 0,.string p],.int .i64 0])∧Below W.heap.size W w')
  (hC2:∀ W,Sr W→Calls Tryz.prog 20 #[.string tx2,.string pr0] W fun e w'=>e=.returned (.tuple #[.int .i64 1,.int .i64 0])∧Below W.heap.size W w')
  (hC3:∀ W,Sr W→Calls Tryz.prog 20 #[.string tx3,.string pr0] W fun e w'=>e=.returned (.tuple #[.int .i64 1,.int .i64 4])∧Below W.heap.size W w')
  (w:World) (hw:Sr w):
  Calls Tryz.prog 16 #[] w fun e w'=>e=.returned (.bool true)∧Below w.heap.size w w':=by
 have Q1:=hide (hS1 w hw)
 have Q2:Hid (∀ W,Below w.heap.size w W→Calls Tryz.prog 17 #[.string tx2,.int .i64 (-1)] W fun e w'=>∃ (p:ByteArray),e=.returned (.tuple #[.agg #[.int .i64 2,.slice none 0 0,.string p],.int .i64 0])∧Below W.heap.size W w'):=fun W hb=>hS2 W (hSr hw hb)
 have Q3:Hid (∀ W,Below w.heap.size w W→Calls Tryz.prog 20 #[.string tx2,.string pr0] W fun e w'=>e=.returned (.tuple #[.int .i64 1,.int .i64 0])∧Below W.heap.size W w'):=fun W hb=>hC2 W (hSr hw hb)
 have Q4:Hid (∀ W,Below w.heap.size w W→Calls Tryz.prog 20 #[.string tx3,.string pr0] W fun e w'=>e=.returned (.tuple #[.int .i64 1,.int .i64 4])∧Below W.heap.size W w'):=fun W hb=>hC3 W (hSr hw hb)
 clear hS1 hS2 hC2 hC3 hw hSr
 unfold tx1 at Q1
 unfold tx2 at Q2 Q3
 unfold tx3 at Q4
 unfold pr0 at Q3 Q4
 go_enter Tryz.func16,Tryz.ntmps16
 go_upto_region 1 with fail
 go_upto_region 2 with (go_at_call 17;(with_reducible refine (unhide Q1).mono ?_);rintro e1 w1 ⟨g,p,rfl,c0,c1,hb1⟩;have B1:=hide hb1;clear hb1 Q1;simp only [])
 have A1:=hide (wkA_of (w0:=w) (p:=.string p) (t:=28) c0 c1 (unhide B1))
 clear c0 c1 B1
 generalize w1.alloc (.cells #[.int .i64 1,.slice (some ⟨g,0,none⟩) 2 2,.string p] 28)=w2 at *
 generalize w1.heap.size=a at *
 go_upto_region 3 with (go_at_call 17;(with_reducible refine (unhide Q2 _ (unhide A1).bel).mono ?_);rintro e3 w3 ⟨p3,rfl,hb3⟩;have A3:=hide ((unhide A1).later hb3);clear hb3 A1 Q2;simp only [])
 have A4:Hid (WkA w g a (w3.alloc (.cells #[.int .i64 2,.slice none 0 0,.string p3] 28))∧(w3.alloc (.cells #[.int .i64 2,.slice none 0 0,.string p3] 28)).cell? ⟨w3.heap.size,0,none⟩=some (.int .i64 2)):=⟨(unhide A3).later three.2.2,three.1⟩
 clear A3
 generalize w3.alloc (.cells #[.int .i64 2,.slice none 0 0,.string p3] 28)=w4 at *
 generalize w3.heap.size=b at *
 go_upto_region 4 with (go_at_call 20;(with_reducible refine (unhide Q3 _ (unhide A4).1.bel).mono ?_);rintro e5 w5 ⟨rfl,hb5⟩;have A5:Hid (WkA w g a w5∧w5.cell? ⟨b,0,none⟩=some (.int .i64 2)):=⟨(unhide A4).1.later hb5,cell_later (unhide A4).2 hb5⟩;clear hb5 A4 Q3;simp only [])
 go_upto_region 5 with (go_at_call 20;(with_reducible refine (unhide Q4 _ (unhide A5).1.bel).mono ?_);rintro e6 w6 ⟨rfl,hb6⟩;have A6:Hid (WkA w g a w6∧w6.cell? ⟨b,0,none⟩=some (.int .i64 2)):=⟨(unhide A5).1.later hb6,cell_later (unhide A5).2 hb6⟩;clear hb6 A5 Q4;simp only [])
 obtain ⟨⟨x0,x1,x2,x3,x4⟩,x5⟩:=unhide A6
 have HX:=hide x4
 clear x4 A6
 go_wp2
 go_ret
 exact ⟨rfl,unhide HX⟩
end Kp
end Go.Proofs.YtceahffmenbibaaGreatDoor
namespace Go.Proofs.YtceahffmenbibaaGreatDoor
namespace Kp
open Go Go.RowKit Go.Deep Rd Go.Proofs.YtceahffmenbibaaGreatDoor.So
theorem sat_met {L:List Cl} {n:Nat} {vals:Nat→Bool} (hz:∀ c ∈ L,∀ x ∈ c,InV n x) (h:MetBy L vals):allMet L vals=true:=by
 unfold allMet
 rw [List.all_eq_true]
 intro c hc
 obtain ⟨l,hl,h0,ht⟩:=h c hc
 unfold clMet
 rw [List.any_eq_true]
 exact ⟨l,hl,by simpa using ht⟩
theorem met_sat2 {L:List Cl} {vals:Nat→Bool} (hz:∀ c ∈ L,∀ x ∈ c,x ≠ 0) (h:allMet L vals=true):MetBy L vals:=fun c hc=>by
 have:=List.all_eq_true.1 h c hc
 obtain ⟨l,hl,ht⟩:=List.any_eq_true.1 this
 exact ⟨l,hl,hz c hc l hl,by simpa using ht⟩
theorem rows_lst {Z:Nat→Prop} {w:World} {u:Value} {L:List Cl} (h:Lst Z w u L):Rows w u L:=by
 obtain ⟨a,c,b,h1,h2,h3⟩:=h
 refine ⟨a,c,b,h1,fun h=>(h2 h).1,fun i hi=>?_⟩
 obtain ⟨ai,ci,bi,g1,g2,_,_,g5⟩:=h3 i hi
 exact ⟨ai,ci,bi,g1,g2,g5⟩
def ShN (w0:World) (p:ByteArray) (a:Nat) (w:World):Prop:=w.cell? ⟨a,0,none⟩=some (.int .i64 2)∧w.cell? ⟨a,1,none⟩=some (.slice none 0 0)∧w.cell? ⟨a,2,none⟩=some (.string p)∧Below w0.heap.size w0 w
theorem ShN.bel {w0 w:World} {p:ByteArray} {a:Nat} (h:ShN w0 p a w):Below w0.heap.size w0 w:=h.2.2.2
theorem ShN.later {w0 w w':World} {p:ByteArray} {a:Nat} (h:ShN w0 p a w) (hb:Below w.heap.size w w'):ShN w0 p a w':=
 ⟨cell_later h.1 hb,cell_later h.2.1 hb,cell_later h.2.2.1 hb,h.2.2.2.trans (hb.mono h.2.2.2.size)⟩
theorem shN_of {w0 w:World} {p:ByteArray} {t:TypeId} (hb:Below w0.heap.size w0 w):ShN w0 p w.heap.size (w.alloc (.cells #[.int .i64 2,.slice none 0 0,.string p] t)):=by
 have r:(w.alloc (.cells #[.int .i64 2,.slice none 0 0,.string p] t)).rowIs w.heap.size t 3 (fun i=>if i=0 then .int .i64 2 else if i=1 then .slice none 0 0 else .string p):=World.rowIs_alloc w _ _ _ fun i hi=>match i,hi with
  | 0,_=>rfl
  | 1,_=>rfl
  | 2,_=>rfl
 exact ⟨r.cell (i:=0) (by omega),r.cell (i:=1) (by omega),r.cell (i:=2) (by omega),hb.trans (three.2.2.mono hb.size)⟩
def ShM (w0:World) (n g:Nat) (vals:Nat→Bool) (a:Nat) (w:World):Prop:=w.cell? ⟨a,0,none⟩=some (.int .i64 1)∧w.cell? ⟨a,1,none⟩=some (.slice (some ⟨g,0,none⟩) n n)∧(∀ v,v < n→w.cell? ⟨g,v,none⟩=some (.bool (vals v)))∧Below w0.heap.size w0 w
theorem ShM.bel {w0 w:World} {n g:Nat} {vals:Nat→Bool} {a:Nat} (h:ShM w0 n g vals a w):Below w0.heap.size w0 w:=h.2.2.2
theorem ShM.later {w0 w w':World} {n g:Nat} {vals:Nat→Bool} {a:Nat} (h:ShM w0 n g vals a w) (hb:Below w.heap.size w w'):ShM w0 n g vals a w':=
 ⟨cell_later h.1 hb,cell_later h.2.1 hb,fun v hv=>cell_later (h.2.2.1 v hv) hb,h.2.2.2.trans (hb.mono h.2.2.2.size)⟩
theorem shM_of {w0 w:World} {p:Value} {n g:Nat} {vals:Nat→Bool} {t:TypeId} (hv:∀ v,v < n→w.cell? ⟨g,v,none⟩=some (.bool (vals v))) (hb:Below w0.heap.size w0 w):ShM w0 n g vals w.heap.size (w.alloc (.cells #[.int .i64 1,.slice (some ⟨g,0,none⟩) n n,p] t)):=by
 obtain ⟨h1,h2,h3⟩:=three (w:=w) (x:=.int .i64 1) (y:=.slice (some ⟨g,0,none⟩) n n) (z:=p) (t:=t)
 exact ⟨h1,h2,fun v h=>cell_later (hv v h) h3,hb.trans (h3.mono hb.size)⟩
def ShoRet (L:List Cl) (w:World) (e:Ending) (w':World):Prop:=∃ b:Bool,e=.returned (.tuple #[.bool true,.bool b])∧(b=true↔∃ t,Sat t L)∧Below w.heap.size w w'
set_option maxHeartbeats 4000000 in
set_option maxRecDepth 100000 in
theorem shown_by (Sr:World→Prop) (hSr:∀ {a b:World},Sr a→Below a.heap.size a b→Sr b) {s:ByteArray} {n mx:Nat} {L:List Cl} (hn:n ≤ 50) (hz:∀ c ∈ L,∀ x ∈ c,InV n x) (hl:∀ c ∈ L,c.length ≤ 20001) (hm:L.length ≤ 20001)
  (hS:∀ W,Sr W→Calls Tryz.prog 17 #[.string s,.int .i64 (-1)] W fun e w'=>SolRet n L mx W e w')
  (hR:∀ W,Sr W→Calls Tryz.prog 18 #[.string s] W fun e w'=>∃ a c,e=.returned (.tuple #[.int .i64 (n:Nat),.slice a L.length c,.int .i64 0])∧Rows w' (.slice a L.length c) L∧Below W.heap.size W w')
  (hC:∀ p:List UInt8,Never n L mx p→∀ W,Sr W→Calls Tryz.prog 20 #[.string s,.string ⟨p.toArray⟩] W fun e w'=>e=.returned (.tuple #[.int .i64 (nls p:Nat),.int .i64 0])∧Below W.heap.size W w')
  (hmx:410 * mx + 2 ≤ 1048576) (w:World) (hw:Sr w):
  Calls Tryz.prog 19 #[.string s] w fun e w'=>ShoRet L w e w':=by
 have QS:=hide (hS w hw)
 have QR:Hid (∀ W,Below w.heap.size w W→Calls Tryz.prog 18 #[.string s] W fun e w'=>∃ a c,e=.returned (.tuple #[.int .i64 (n:Nat),.slice a L.length c,.int .i64 0])∧Rows w' (.slice a L.length c) L∧Below W.heap.size W w'):=fun W hb=>hR W (hSr hw hb)
 have QC:Hid (∀ p:List UInt8,Never n L mx p→∀ W,Below w.heap.size w W→Calls Tryz.prog 20 #[.string s,.string ⟨p.toArray⟩] W fun e w'=>e=.returned (.tuple #[.int .i64 (nls p:Nat),.int .i64 0])∧Below W.heap.size W w'):=fun p hp W hb=>hC p hp W (hSr hw hb)
 have QL:Hid (∀ p:List UInt8,Never n L mx p→∀ W,Calls Tryz.prog 21 #[.string ⟨p.toArray⟩] W fun e w'=>e=.returned (.int .i64 (nls p:Nat))∧Below W.heap.size W w'):=fun p hp W=>by
  refine lines_any ⟨p.toArray⟩ W ?_
  obtain ⟨_,_,_,_,_,_,h5⟩:=id hp
  show p.length ≤ _
  unfold maxLen;omega
 have QM:Hid (∀ W (a:Option Addr) (c g:Nat) (vals:Nat→Bool),MetBy L vals→Rows W (.slice a L.length c) L→(∀ v,v < n→W.cell? ⟨g,v,none⟩=some (.bool (vals v)))→Calls Tryz.prog 24 #[.slice a L.length c,.slice (some ⟨g,0,none⟩) n n] W fun e w'=>e=.returned (.bool true)∧Below W.heap.size W w'):=fun W a c g vals hM hR hv=>by
  have:=meets_any W _ L n g vals hR hz hl hm hn hv
  rw [sat_met hz hM] at this;exact this
 have UN:Hid (∀ p,Never n L mx p→¬ ∃ t,Sat t L):=fun p hp=>never_unsat hz hp
 clear hS hR hC hw hSr hz hl
 go_enter Tryz.func19,Tryz.ntmps19
 go_upto_region 2 with (go_at_call 17;(with_reducible refine (unhide QS).mono ?_);rintro e1 w1 ⟨hb1,⟨p,rfl,hN⟩ | ⟨g,vals,p,rfl,hgs,hrow,hM⟩⟩ <;> (have B1:=hide hb1;clear hb1 QS;simp only []))
 ·have HN:=hide hN
  clear hN
  have A1:=hide (shN_of (p:=⟨p.toArray⟩) (t:=28) (unhide B1))
  have QL':=hide (unhide QL p (unhide HN))
  have QC':=hide (unhide QC p (unhide HN))
  generalize (⟨p.toArray⟩:ByteArray)=pt at *
  generalize w1.alloc (.cells #[.int .i64 2,.slice none 0 0,.string pt] 28)=w2 at *
  generalize w1.heap.size=a at *
  clear B1 QL QC
  go_upto_region 3 with (go_at_call 18;(with_reducible refine (unhide QR _ (unhide A1).bel).mono ?_);rintro e3 w3 ⟨la,lc,rfl,hR3,hb3⟩;have A3:=hide ((unhide A1).later hb3);clear hb3 hR3 A1 QR;simp only [])
  obtain ⟨y0,y1,y2,y3⟩:=unhide A3
  clear y3
  go_wp2_with (first
   |(go_at_call 20;(with_reducible refine (unhide QC' _ (unhide A3).bel).mono ?_);rintro e5 w5 ⟨rfl,hb5⟩;have A5:=hide ((unhide A3).later hb5);obtain ⟨z0,z1,z2,z3⟩:=unhide A5;clear z3 hb5 y0 y1 y2 A3;simp only [])
   |(go_at_call 21;(with_reducible refine (unhide QL' _).mono ?_);rintro e6 w6 ⟨rfl,hb6⟩;have A6:=hide ((unhide A5).later hb6);obtain ⟨x0,x1,x2,x3⟩:=unhide A6;clear x3 hb6 z0 z1 z2 A5;simp only []))
  go_ret2
  exact ⟨false,rfl,⟨fun h=>(by cases h),fun h=>absurd h (unhide UN p (unhide HN))⟩,(unhide A6).bel⟩
 ·have HM:=hide hM
  have A1:=hide (shM_of (p:=.string ⟨p⟩) (t:=28) (fun v hv=>hrow.cell hv) (unhide B1))
  clear hM hrow hgs B1 QL QC UN
  generalize w1.alloc (.cells #[.int .i64 1,.slice (some ⟨g,0,none⟩) n n,.string ⟨p⟩] 28)=w2 at *
  generalize w1.heap.size=a at *
  go_upto_region 3 with (go_at_call 18;(with_reducible refine (unhide QR _ (unhide A1).bel).mono ?_);rintro e3 w3 ⟨la,lc,rfl,hR3,hb3⟩;have A3:=hide ((unhide A1).later hb3);have R3:=hide hR3;clear hb3 hR3 A1 QR;simp only [])
  obtain ⟨y0,y1,y2,y3⟩:=unhide A3
  have QMM:=hide (unhide QM w3 la lc g vals (unhide HM) (unhide R3) y2)
  clear y3 y2
  go_wp2_with (go_at_call 24;(with_reducible refine (unhide QMM).mono ?_);rintro e5 w5 ⟨rfl,hb5⟩;have A5:=hide ((unhide A3).later hb5);clear hb5 y0 y1 A3 R3;simp only [])
  go_ret2
  exact ⟨true,rfl,⟨fun _=>⟨_,unhide HM⟩,fun _=>rfl⟩,(unhide A5).bel⟩
end Kp
end Go.Proofs.YtceahffmenbibaaGreatDoor
namespace Go.Proofs.YtceahffmenbibaaGreatDoor
namespace Kp
open Go Go.RowKit Go.Deep Rd Go.Proofs.YtceahffmenbibaaGreatDoor.So
structure Txt (s:ByteArray) (n:Nat) (L:List Cl) (mx:Nat):Prop where
 rd:readB s.data.toList=((n:Int),L,0)
 size:s.size ≤ maxLen
 n50:n ≤ 50
 inv:∀ c ∈ L,∀ x ∈ c,InV n x
 len:∀ c ∈ L,c.length ≤ 20001
 many:L.length ≤ 20001
 runs:Runs n L mx
 small:410 * mx + 2 ≤ 1048576
def Sure (w:World):Prop:=Glob w∧Tab w.heap.size w
theorem Sure.later {w w':World} (h:Sure w) (hb:Below w.heap.size w w'):Sure w':=
 ⟨Glob.below h.1.2.2 hb h.1,(h.2.later hb).1,Nat.lt_of_lt_of_le h.2.2 hb.size⟩
theorem read_txt {s:ByteArray} {n:Nat} {L:List Cl} {mx:Nat} (h:Txt s n L mx) (w:World) (hg:Sure w):
  Calls Tryz.prog 18 #[.string s] w fun e w'=>∃ a c,e=.returned (.tuple #[.int .i64 (n:Nat),.slice a L.length c,.int .i64 0])∧Rows w' (.slice a L.length c) L∧Below w.heap.size w w':=by
 refine (read_any s w h.size hg.1).mono ?_
 rintro e w' ⟨hb,u,he,hl⟩
 rw [read_eq,h.rd] at he hl
 have hr:=rows_lst (lst_of hl)
 obtain ⟨a,c,b,rfl,_⟩:=id hr
 exact ⟨a,c,he,hr,hb⟩
theorem check_txt {s:ByteArray} {n:Nat} {L:List Cl} {mx:Nat} (h:Txt s n L mx) {p:List UInt8} (hp:Never n L mx p) (w:World) (hg:Sure w):
  Calls Tryz.prog 20 #[.string s,.string ⟨p.toArray⟩] w fun e w'=>e=.returned (.tuple #[.int .i64 (nls p:Nat),.int .i64 0])∧Below w.heap.size w w':=by
 have hsz:(⟨p.toArray⟩:ByteArray).size ≤ 1048576:=by
  have h1:=h.small
  obtain ⟨_,_,_,_,_,_,h5⟩:=id hp
  show p.length ≤ _
  omega
 refine (check_any s ⟨p.toArray⟩ w h.size hsz hg.1 hg.2).mono ?_
 rintro e w' ⟨hb,a,f,rfl,hc⟩
 have:=checked_inj hc (never_checked h.n50 h.rd hp)
 cases this
 exact ⟨rfl,hb⟩
theorem shown_any {s:ByteArray} {n:Nat} {L:List Cl} {mx:Nat} (h:Txt s n L mx) (w:World) (hg:Sure w):
  Calls Tryz.prog 19 #[.string s] w fun e w'=>ShoRet L w e w':=
 shown_by Sure (fun h hb=>h.later hb) h.n50 h.inv h.len h.many (fun W hW=>solve_any (n:=n) (L:=L) (mx:=mx) s W hW.1 h.size h.rd h.runs) (fun W hW=>read_txt h W hW) (fun p hp W hW=>check_txt h hp W hW) h.small w hg
theorem works_sure (w:World) (hg:Sure w):Calls Tryz.prog 16 #[] w fun e w'=>e=.returned (.bool true)∧Below w.heap.size w w':=by
 refine works_any Sure (fun h hb=>h.later hb) (fun W hW=>?_) (fun W hW=>?_) (fun W hW=>?_) (fun W hW=>?_) w hg
 ·refine (solve_any (n:=2) (L:=[[1,-2],[2]]) (mx:=31) tx1 W hW.1 (by decide) rd1 run1).mono ?_
  rintro e w' ⟨hb,⟨p,rfl,hN⟩ | ⟨g,vals,p,rfl,hgs,hrow,hM⟩⟩
  ·exact absurd sat1 (never_unsat in1 hN)
  ·obtain ⟨e0,e1⟩:=vals1 hM
   refine ⟨g,⟨p⟩,rfl,?_,?_,hb⟩
   ·have:=hrow.cell (i:=0) (by omega)
    rw [e0] at this;exact this
   ·have:=hrow.cell (i:=1) (by omega)
    rw [e1] at this;exact this
 ·refine (solve_any (n:=1) (L:=[[1],[-1]]) (mx:=31) tx2 W hW.1 (by decide) rd2 run2).mono ?_
  rintro e w' ⟨hb,⟨p,rfl,hN⟩ | ⟨g,vals,p,rfl,hgs,hrow,hM⟩⟩
  ·exact ⟨_,rfl,hb⟩
  ·exact absurd (met_sat hM) unsat2
 ·refine (check_any tx2 pr0 W (by decide) (by decide) hW.1 hW.2).mono ?_
  rintro e w' ⟨hb,a,f,rfl,hc⟩
  cases checked_inj hc ck2
  exact ⟨rfl,hb⟩
 ·refine (check_any tx3 pr0 W (by decide) (by decide) hW.1 hW.2).mono ?_
  rintro e w' ⟨hb,a,f,rfl,hc⟩
  cases checked_inj hc ck3
  exact ⟨rfl,hb⟩
end Kp
end Go.Proofs.YtceahffmenbibaaGreatDoor
namespace Go.Proofs.YtceahffmenbibaaGreatDoor
namespace Kp
open Go Go.RowKit Go.Deep Rd Go.Proofs.YtceahffmenbibaaGreatDoor.So
def lits (vars:Nat):Nat→Nat→Cl
 | _,0=>[]
 | c,n + 1=>(if c / 4 / vars % 2=1 then -((1 + c / 4 % vars:Nat):Int) else ((1 + c / 4 % vars:Nat):Int)) :: lits vars (c / 4 / vars) n
def clOf (vars:Nat) (r:Int):Cl:=lits vars (pickN r 1152921504606846976) (1 + pickN r 1152921504606846976 % 4)
def clausesOf (raw:List Int) (vars most:Nat):List Cl:=(raw.take most).map (clOf vars)
theorem lits_len (vars:Nat):∀ n c,(lits vars c n).length=n
 | 0,_=>rfl
 | n + 1,c=>by simp [lits,lits_len vars n]
theorem lits_in {vars:Nat} (hv:0 < vars):∀ n c,∀ x ∈ lits vars c n,InV vars x
 | 0,_,x,h=>by cases h
 | n + 1,c,x,h=>by
  rcases List.mem_cons.1 h with rfl | h
  ·have:=Nat.mod_lt (c / 4) hv
   unfold InV
   split <;> omega
  ·exact lits_in hv n _ x h
theorem rows_own {te ti B:Nat} {w:World} {v:Value} {L:List Cl} (h:OwnL te ti B w v L):Rows w v L:=by
 obtain ⟨a,c,b,h1,h2,h3,h4⟩:=h.lists
 refine ⟨a,c,b,h1,h3,fun i hi=>?_⟩
 obtain ⟨u,g1,ai,ci,bi,g2,g3,g4,g5⟩:=h4 i hi
 have e:L.getD i []=L[i]:=by simp [List.getD,hi]
 rw [e] at g2 g4 g5
 subst g2
 exact ⟨ai,ci,bi,g1,g4,fun j hj=>by rw [g5 j hj];simp [List.getD,hj]⟩
set_option maxHeartbeats 4000000 in
set_option maxRecDepth 100000 in
theorem clauses_own (w:World) (rb off rc:Nat) (raw:List Int) (vars most:Nat) (hraw:∀ i (hi:i < raw.length),w.cell? ⟨rb,off + i,none⟩=some (.int .i64 raw[i])) (hr:∀ x ∈ raw,-9223372036854775808 ≤ x∧x ≤ 9223372036854775807) (ra:Option Addr) (hra:0 < raw.length→ra=some ⟨rb,off,none⟩) (hv:0 < vars) (hv2:vars ≤ 50) (hm:most ≤ 1000):
  Calls Tryz.prog 23 #[.slice ra raw.length rc,.int .i64 (vars:Nat),.int .i64 (most:Nat)] w fun e w'=>∃ v,e=.returned v∧OwnL 43 3 w.heap.size w' v (clausesOf raw vars most)∧Below w.heap.size w w':=by
 have HRAW:=hide hraw
 have HR:=hide hr
 clear hraw hr
 obtain ⟨i0,hi,hz0,hz1,hz2⟩:=info_parts Tryz.infoInt'
 obtain ⟨j0,hj,hy0,hy1,hy2⟩:=info_parts Tryz.infoInts'
 go_enter Tryz.func23,Tryz.ntmps23
 go_wp2
 go_loopw [7,8] (fun cv i wr=>∃ (k:Nat) (us:List Value),k ≤ raw.length∧k ≤ most∧i=.int .i64 k∧Hid (RMem 43 3 w.heap.size wr cv (.slice none 0 0) us ((raw.take k).map (clOf vars)) [])∧Hid (Below w.heap.size w wr)) (fun _ i _=>raw.length - (intOf i).toNat)
 case atStart=>exact ⟨0,[],Nat.zero_le _,Nat.zero_le _,rfl,⟨World.ownsRow_nil _ _ _ _,World.ownsRow_nil _ _ _ _,rfl,fun j u h=>by simp at h⟩,Below.refl _ _⟩
 case round=>
  obtain ⟨k,us,hk,hkm,rfl,hmem,hb⟩:=hrel
  obtain ⟨oa,oc,hcv⟩:=own_shape (unhide hmem).outer
  subst hcv
  by_cases hlt:k < raw.length
  ·by_cases hlm:k < most
   ·have ea:=hra (by omega)
    subst ea
    clear hra
    have ck:wr.cell? ⟨rb,off + k,none⟩=some (.int .i64 raw[k]):=by
     rw [(unhide hb).cell (p:=⟨rb,off + k,none⟩) (block_lt_of_cell (unhide HRAW k hlt))];exact unhide HRAW k hlt
    have hrr:=unhide HR _ (List.getElem_mem hlt)
    have HS:Hid ((raw.take (k + 1)).map (clOf vars)=(raw.take k).map (clOf vars) ++ [clOf vars raw[k]]):=by
     unfold Hid;rw [List.take_succ_eq_append_getElem hlt,List.map_append];rfl
    generalize raw[k]=r at *
    have QP:Hid (∀ W:World,Calls Tryz.prog 22 #[.int .i64 r,.int .i64 1152921504606846976] W fun e w'=>∃ c0:Nat,Hid (c0=pickN r 1152921504606846976)∧c0 < 1152921504606846976∧e=.returned (.int .i64 (c0:Nat))∧Below W.heap.size W w'):=fun W=>
     (pick_any r 1152921504606846976 W hrr.1 hrr.2 (by omega) (by omega)).mono fun e w' ⟨a,b⟩=>⟨_,rfl,Nat.mod_lt _ (by omega),a,b⟩
    clear hrr
    go_wp2_with (go_at_call 22;(with_reducible refine (unhide QP _).mono ?_);rintro e1 w1 ⟨c0,hc0,hcl,rfl,hb1⟩;have M1:=hide ((unhide hmem).later hb1);have B1:=hide ((unhide hb).trans (hb1.mono (unhide hb).size));clear hb1 hmem hb;simp only [])
    have HC0:Hid (clOf vars r=lits vars c0 (1 + c0 % 4)):=by unfold Hid clOf;rw [unhide hc0]
    clear QP hc0 ck
    go_loopw [9,10,11] (fun cvv lv nv wx=>∃ (c q:Nat) (cur:Cl),c < 1152921504606846976∧q ≤ 4∧cur.length + q ≤ 4∧cvv=.int .i64 (c:Nat)∧nv=.int .i64 (q:Nat)∧Hid (clOf vars r=cur ++ lits vars c q)∧Hid (RMem 43 3 w.heap.size wx (.slice oa us.length oc) lv us ((raw.take k).map (clOf vars)) cur)∧Hid (Below w.heap.size w wx)) (fun _ _ nv _=>(intOf nv).toNat)
    case atStart=>exact ⟨c0,1 + c0 % 4,[],hcl,by omega,by simp;omega,rfl,by go_num,HC0,M1,B1⟩
    case round=>
     obtain ⟨c,q,cur,hc,hq,hql,rfl,rfl,HC,hmem,hb⟩:=hrel
     clear M1 B1 HC0
     obtain ⟨la,lc,hlv⟩:=own_shape (unhide hmem).row
     subst hlv
     have ul:us.length ≤ 1000:=by rw [(unhide hmem).len];simp;omega
     have sb:=(unhide hb).size
     by_cases hq0:0 < q
     ·obtain ⟨c1,hc1⟩:∃ c1,c1=c / 4:=⟨_,rfl⟩
      obtain ⟨r1,hr1⟩:∃ r1,r1=c1 % vars:=⟨_,rfl⟩
      obtain ⟨c2,hc2⟩:∃ c2,c2=c1 / vars:=⟨_,rfl⟩
      have d1:(c:Int) / 4=(c1:Int):=by omega
      have d2:(c1:Int).tmod (vars:Int)=(r1:Int):=by rw [hr1,Int.tmod_eq_emod_of_nonneg (by omega),Int.natCast_emod]
      have d3:(c1:Int).tdiv (vars:Int)=(c2:Int):=by rw [hc2,Int.tdiv_eq_ediv_of_nonneg (by omega),Int.natCast_ediv]
      have hr1l:r1 < vars:=by rw [hr1];exact Nat.mod_lt _ hv
      have hc1l:c1 < 1152921504606846976:=by omega
      have hc2l:c2 < 1152921504606846976:=by rw [hc2];exact Nat.lt_of_le_of_lt (Nat.div_le_self _ _) hc1l
      have hv0:¬ (vars:Int)=0:=by omega
      have dw1:IntKind.i64.wrap (c1:Int)=(c1:Int):=by rw [IntKind.wrap_i64];omega
      have dw2:IntKind.i64.wrap (c2:Int)=(c2:Int):=by rw [IntKind.wrap_i64];omega
      have dw3:IntKind.i64.wrap (r1:Int)=(r1:Int):=by rw [IntKind.wrap_i64];omega
      have HL:Hid (lits vars c q=(if c2 % 2=1 then -((1 + r1:Nat):Int) else ((1 + r1:Nat):Int)) :: lits vars c2 (q - 1)):=by
       obtain ⟨q',rfl⟩:∃ q',q=q' + 1:=⟨q - 1,by omega⟩
       unfold Hid;rw [hr1,hc2,hc1];rfl
      clear hr1 hc2 hc1
      by_cases hodd:c2 % 2=1
      ·have ho:((c2:Int) % 2 == 1)=true:=by simp;omega
       rw [if_pos hodd] at HL
       have wn:IntKind.i64.wrap (-(1 + (r1:Int)))=-(1 + (r1:Int)):=by rw [IntKind.wrap_i64];omega
       obtain ⟨x,hx⟩:∃ x:Int,x=-(1 + (r1:Int)):=⟨_,rfl⟩
       have hx2:-((1 + r1:Nat):Int)=x:=by rw [hx];omega
       rw [hx2] at HL
       clear hx2
       go_upto_region 15 with fail
       rw [← hx]
       clear hx
       go_wp2_with (at_builtin;refine wpList_append_own_at _ rfl _ _ 43 rfl w.heap.size 3 i0 (.int .i64 0) 1 8 Tryz.underlying43 hi hz0 hz1 hz2 rfl (by decide) _ _ _ rfl ((unhide hmem).row.alloc _) ⟨wr.heap.size,0,none⟩ 1 1 [_] rfl rfl (cell_one_new _ _ _) (by simp [Value.oneCell']) (by unfold maxLen;omega) (by omega) (by simp;omega) ?_)
       intro clv' w6 hown' hgrow _ hat'
       have M:Hid (RMem 43 3 w.heap.size w6 (.slice oa us.length oc) clv' us ((raw.take k).map (clOf vars)) (cur ++ [x])):=(unhide hmem).lit (by decide) hown' hgrow (by simpa using hat')
       have B3:Hid (Below w.heap.size w w6):=((unhide hb).alloc sb _).grown hgrow (by simp;omega) (fun k hk=>((unhide hmem).row.lt k hk).1)
       clear hown' hgrow hat'
       go_wp2
       go_roundw
       case rel=>exact ⟨c2,q - 1,cur ++ [x],hc2l,by omega,by simp;omega,rfl,by go_num,by unfold Hid;rw [unhide HC,unhide HL];simp,M,B3⟩
       case measure=>simp [intOf];omega
      ·have ho:((c2:Int) % 2 == 1)=false:=by simp;omega
       rw [if_neg hodd] at HL
       obtain ⟨x,hx⟩:∃ x:Int,x=1 + (r1:Int):=⟨_,rfl⟩
       have hx2:((1 + r1:Nat):Int)=x:=by rw [hx];omega
       rw [hx2] at HL
       clear hx2
       go_upto_region 15 with fail
       rw [← hx]
       clear hx
       go_wp2_with (at_builtin;refine wpList_append_own_at _ rfl _ _ 43 rfl w.heap.size 3 i0 (.int .i64 0) 1 8 Tryz.underlying43 hi hz0 hz1 hz2 rfl (by decide) _ _ _ rfl ((unhide hmem).row.alloc _) ⟨wr.heap.size,0,none⟩ 1 1 [_] rfl rfl (cell_one_new _ _ _) (by simp [Value.oneCell']) (by unfold maxLen;omega) (by omega) (by simp;omega) ?_)
       intro clv' w6 hown' hgrow _ hat'
       have M:Hid (RMem 43 3 w.heap.size w6 (.slice oa us.length oc) clv' us ((raw.take k).map (clOf vars)) (cur ++ [x])):=(unhide hmem).lit (by decide) hown' hgrow (by simpa using hat')
       have B3:Hid (Below w.heap.size w w6):=((unhide hb).alloc sb _).grown hgrow (by simp;omega) (fun k hk=>((unhide hmem).row.lt k hk).1)
       clear hown' hgrow hat'
       go_wp2
       go_roundw
       case rel=>exact ⟨c2,q - 1,cur ++ [x],hc2l,by omega,by simp;omega,rfl,by go_num,by unfold Hid;rw [unhide HC,unhide HL];simp,M,B3⟩
       case measure=>simp [intOf];omega
     ·have hq00:q=0:=by omega
      subst hq00
      have HC':Hid (clOf vars r=cur):=by
       have:=unhide HC
       rw [show lits vars c 0=[] from rfl,List.append_nil] at this;exact this
      go_wp2_with (at_builtin;refine wpList_append_own_at _ rfl _ _ 32 rfl w.heap.size 43 j0 (.slice none 0 0) 1 24 Tryz.underlying32 hj hy0 hy1 hy2 rfl (by decide) _ _ _ rfl ((unhide hmem).outer.alloc _) ⟨wr.heap.size,0,none⟩ 1 1 [.slice la _ lc] rfl rfl (cell_one_new _ _ _) (by simp [Value.oneCell']) (by unfold maxLen;omega) (by omega) (by simp;omega) ?_)
      intro cv' w3 hown' hgrow _ hat
      have M:Hid (RMem 43 3 w.heap.size w3 cv' (.slice none 0 0) (us ++ [.slice la cur.length lc]) ((raw.take (k + 1)).map (clOf vars)) []):=by
       unfold Hid;rw [unhide HS,unhide HC']
       exact (unhide hmem).zero (by decide) hown' hgrow
      have B3:Hid (Below w.heap.size w w3):=((unhide hb).alloc sb _).grown hgrow (by simp;omega) (fun k hk=>((unhide hmem).outer.lt k hk).1)
      clear hown' hgrow hat
      go_wp2
      go_roundw
      case rel=>exact ⟨k + 1,_,by omega,by omega,by go_num,M,B3⟩
      case measure=>simp [intOf];omega
   ·have E:Hid (clausesOf raw vars most=(raw.take k).map (clOf vars)):=by
     have:k=most:=by omega
     rw [this];rfl
    go_wp2
    go_ret
    exact ⟨_,rfl,by rw [unhide E];exact (unhide hmem).ownL,unhide hb⟩
  ·have E:Hid (clausesOf raw vars most=(raw.take k).map (clOf vars)):=by
    unfold Hid clausesOf
    rw [List.take_of_length_le (by omega),List.take_of_length_le (by omega)]
   go_wp2
   go_ret
   exact ⟨_,rfl,by rw [unhide E];exact (unhide hmem).ownL,unhide hb⟩
theorem clauses_any (w:World) (rb off rc:Nat) (raw:List Int) (vars most:Nat) (hraw:∀ i (hi:i < raw.length),w.cell? ⟨rb,off + i,none⟩=some (.int .i64 raw[i])) (hr:∀ x ∈ raw,-9223372036854775808 ≤ x∧x ≤ 9223372036854775807) (ra:Option Addr) (hra:0 < raw.length→ra=some ⟨rb,off,none⟩) (hv:0 < vars) (hv2:vars ≤ 50) (hm:most ≤ 1000):
  Calls Tryz.prog 23 #[.slice ra raw.length rc,.int .i64 (vars:Nat),.int .i64 (most:Nat)] w fun e w'=>∃ v,e=.returned v∧Rows w' v (clausesOf raw vars most)∧Below w.heap.size w w':=
 (clauses_own w rb off rc raw vars most hraw hr ra hra hv hv2 hm).mono fun e w' ⟨v,h1,h2,h3⟩=>⟨v,h1,rows_own h2,h3⟩
end Kp
end Go.Proofs.YtceahffmenbibaaGreatDoor
