/- Stak Stk2. -/
import Derived.Test.YtceahffmenbibaaGreatDoorG29
import Derived.Lib.OthersKept
set_option linter.unusedVariables false
set_option linter.unusedSimpArgs false
set_option maxHeartbeats 4000000
set_option maxRecDepth 100000
namespace Go.Proofs.YtceahffmenbibaaGreatDoor
namespace So
section
open Go Go.RowKit Go.Deep Rd
variable {Z:Nat->Prop} {kb:Nat} {w:World} {l:List UInt8}
theorem vN (pt it ty:TypeId) (p:Option Addr) (w:World):(Builtin.unsafeString_ #[pt,it] ty #[.pointer p,.int .i64 0]).run Tryz.prog w=.ok (.string ⟨#[]⟩) w:=Lib.run_unsafeString_none w pt it ty p
theorem Gc (c1:w.cell? ⟨kb,1,none⟩=some (.slice none 0 0)) (B:Nat):
  Calls Tryz.prog 59 #[.pointer (some ⟨kb,0,none⟩)] w fun e w'=>e=.returned (.string ⟨#[]⟩)/\Below B w w'/\Lib.OthersKept 5 none w w':=by
 have hSD:(Builtin.unsafeSliceData_ #[107] 171 #[.slice none 0 0]).run Tryz.prog w.drew=.ok (.pointer none) w.drew:=rfl;have hUS:=vN 171 3 9;have c2:w.drew.cell? ⟨kb,1,none⟩=some (.slice none 0 0):=c1;go_enter Tryz.func59,Tryz.ntmps59
 go_wp2;go_region
 all_goals (go_wp2;go_ret;exact ⟨rfl,Below.drew (Below.refl B w),(Lib.OthersKept.refl _ _ w).drew⟩)
theorem Cs {g cap:Nat} (c1:w.cell? ⟨kb,1,none⟩=some (.slice (some ⟨g,0,none⟩) 0 cap)) (hc:cap ≠ 0) (B:Nat):
  Calls Tryz.prog 59 #[.pointer (some ⟨kb,0,none⟩)] w fun e w'=>e=.returned (.string ⟨#[]⟩)/\Below B w w'/\Lib.OthersKept 5 none w w':=by
 have hSD:(Builtin.unsafeSliceData_ #[107] 171 #[.slice (some ⟨g,0,none⟩) 0 cap]).run Tryz.prog w.drew=.ok (.pointer (some ⟨g,0,none⟩)) w.drew:=Lib.run_unsafeSliceData_row _ _ _ _ _ _ hc;clear hc;have hUS:=vN 171 3 9;have c2:w.drew.cell? ⟨kb,1,none⟩=some (.slice (some ⟨g,0,none⟩) 0 cap):=c1;go_enter Tryz.func59,Tryz.ntmps59
 go_wp2;go_region
 all_goals (go_wp2;go_ret;exact ⟨rfl,Below.drew (Below.refl B w),(Lib.OthersKept.refl _ _ w).drew⟩)
theorem yj {g sz:Nat} (c1:w.cell? ⟨kb,1,none⟩=some (.slice (some ⟨g,0,none⟩) 0 0)) (hsh:w.shape? g=some (5,sz)) (B:Nat) (hB:B <= w.heap.size):
  Calls Tryz.prog 59 #[.pointer (some ⟨kb,0,none⟩)] w fun e w'=>e=.returned (.string ⟨#[]⟩)/\Below B w w'/\Lib.OthersKept 5 none w w':=by
 have hSD:(Builtin.unsafeSliceData_ #[107] 171 #[.slice (some ⟨g,0,none⟩) 0 0]).run Tryz.prog w.drew=.ok (.pointer (some ⟨w.drew.heap.size,0,none⟩)) (w.drew.alloc (.view ⟨g,0,none⟩ 5)):=
  Lib.run_unsafeSliceData_zero w.drew _ _ 5 Tryz.underlying171 ⟨g,0,none⟩ 0 _ hsh
 have hUS:=vN 171 3 9;have hlt:kb < w.heap.size:=block_lt_of_cell c1;have c2:w.drew.cell? ⟨kb,1,none⟩=some (.slice (some ⟨g,0,none⟩) 0 0):=c1;have hfin:Below B w (w.drew.alloc (.view ⟨g,0,none⟩ 5)):=(Below.drew (Below.refl B w)).alloc hB _;have OM:Lib.OthersKept 5 none w (w.drew.alloc (.view ⟨g,0,none⟩ 5)):=((Lib.OthersKept.refl _ _ w).drew).alloc _;have c3:(w.drew.alloc (.view ⟨g,0,none⟩ 5)).cell? ⟨kb,1,none⟩=some (.slice (some ⟨g,0,none⟩) 0 0):=by
  rw [((Below.refl w.drew.heap.size w.drew).alloc (Nat.le_refl _) (.view ⟨g,0,none⟩ 5)).cell (p:=⟨kb,1,none⟩) hlt];exact c2
 have c4:(w.alloc (.view ⟨g,0,none⟩ 5)).drew.cell? ⟨kb,1,none⟩=some (.slice (some ⟨g,0,none⟩) 0 0):=c3;have c5:(w.alloc (.view ⟨g,0,none⟩ 5)).cell? ⟨kb,1,none⟩=some (.slice (some ⟨g,0,none⟩) 0 0):=c3;clear hB hlt hsh;go_enter Tryz.func59,Tryz.ntmps59
 go_wp2;go_region
 all_goals (go_wp2;go_ret;exact ⟨rfl,hfin,OM⟩)
theorem Cr {g cap sz:Nat} (c1:w.cell? ⟨kb,1,none⟩=some (.slice (some ⟨g,0,none⟩) l.length cap)) (hsh:w.shape? g=some (5,sz)) (hgc:∃ cur fz,w.heap[g]? = some (.cells cur 5 fz)) (hl:l ≠ []) (hc:l.length <= cap) (hcs:l.length <= sz) (h63:l.length <= 9223372036854775807) (hcell:∀ j x,l[j]? = some x->w.cell? ((⟨g,0,none⟩:Addr).add j)=some (.int .u8 x.toNat)) (B:Nat) (hB:B <= g):
  Calls Tryz.prog 59 #[.pointer (some ⟨kb,0,none⟩)] w fun e w'=>e=.returned (.string ⟨l.toArray⟩)/\Below B w w'/\Lib.OthersKept 5 none w w':=by
 have hl0:l.length ≠ 0:=by simpa using hl
 have hSD:(Builtin.unsafeSliceData_ #[107] 171 #[.slice (some ⟨g,0,none⟩) l.length cap]).run Tryz.prog w.drew=.ok (.pointer (some ⟨g,0,none⟩)) w.drew:=Lib.run_unsafeSliceData_row _ _ _ _ _ _ (by omega)
 have hUS:(Builtin.unsafeString_ #[171,3] 9 #[.pointer (some ⟨g,0,none⟩),.int .i64 l.length]).run Tryz.prog w.drew=.ok (.string ⟨l.toArray⟩) (w.drew.freeze ⟨g,0,none⟩ l.length):=
  Lib.run_unsafeString_row w.drew _ _ _ 5 Tryz.underlying171 (by kernel_rfl) g sz hsh l hl hcs h63 hcell
 have c2:w.drew.cell? ⟨kb,1,none⟩=some (.slice (some ⟨g,0,none⟩) l.length cap):=c1;have hfin:Below B w (w.drew.freeze ⟨g,0,none⟩ l.length):=Lib.below_freeze (Below.drew (Below.refl B w)) (p:=⟨g,0,none⟩) hB _;have OM:Lib.OthersKept 5 none w (w.drew.freeze ⟨g,0,none⟩ l.length):=((Lib.OthersKept.refl _ _ w).drew).freeze ⟨g,0,none⟩ _ hgc;clear hB hsh hl hcs h63 hcell hl0 hc hgc;go_enter Tryz.func59,Tryz.ntmps59
 go_wp2;go_region
 all_goals (go_wp2;go_ret;exact ⟨rfl,hfin,OM⟩)
theorem Gd (B:Nat) (h:ky (fun g=>B <= g) kb w l) (hB:B <= w.heap.size):
  Calls Tryz.prog 59 #[.pointer (some ⟨kb,0,none⟩)] w fun e w'=>e=.returned (.string ⟨l.toArray⟩)/\Below B w w'/\Lib.OthersKept 5 none w w':=by
 obtain ⟨f,hr,-,ho,hz⟩:=h.ex;have c1:w.cell? ⟨kb,1,none⟩=some (f 1):=hr.cell (by omega)
 obtain ⟨hlen,hn | ⟨g,cap,cur,hv,hbg,hg,hnc,hcm,hcs,htake⟩⟩:=id ho
 ·obtain ⟨hv,h0⟩:=hn;have hl:l=[]:=List.eq_nil_of_length_eq_zero h0;subst hl;rw [hv] at c1;exact Gc c1 B
 ·rw [hv] at c1;have hsh:w.shape? g=some (5,cur.size):=by simp [World.shape?,hg]
  cases l with
  | nil=>
   by_cases hc:cap=0
   ·subst hc;exact yj c1 hsh B hB
   ·exact Cs c1 hc B
  | cons x r=>
   refine Cr c1 hsh ⟨_,_,hg⟩ (by simp) hnc (by omega) (by unfold maxLen at hcm;omega) (fun j y hy=>?_) B (hz g (by rw [hv];rfl))
   exact (hv ▸ ho).cells (g:=g) rfl j (.int .u8 y.toNat) (by unfold aM;rw [List.getElem?_map,hy];rfl)
end
section
open Go Go.RowKit Go.Deep Rd
variable {Z:Nat->Prop} {kb:Nat} {w:World} {l:List UInt8}
theorem BG (v:Value) (w:World):(Instr.typeAssert (.iface 105 v) 62 105 true).run Tryz.prog w=.ok (.tuple #[v,.bool true]) w:=by kernel_rfl
theorem JB (B:Nat) (h:ky (fun g=>B <= g) kb w l) (hB:B <= w.heap.size):
  Calls Tryz.prog 33 #[.iface 105 (.pointer (some ⟨kb,0,none⟩))] w fun e w'=>e=.returned (.string ⟨l.toArray⟩)/\Below B w w'/\Lib.OthersKept 5 none w w':=by
 have QS:=hide (Gd B h hB);have hA:=BG;clear h hB;go_enter Tryz.func33,Tryz.ntmps33
 go_wp2_with (go_at_call 59;(with_reducible refine QS.out.mono ?_);rintro e w' ⟨rfl,hb⟩;have HB:=hide hb;clear hb;simp only [])
 go_ret
 exact ⟨rfl,HB.out⟩
theorem Ta (B:Nat) (hB:B <= w.heap.size):
  Calls Tryz.prog 30 #[.int .i64 (-1)] w fun e w'=>∃ k,e=.returned (.iface 105 (.pointer (some ⟨k,0,none⟩)))/\ky (fun g=>B <= g) k w' []/\w.heap.size <= k/\Below w.heap.size w w':=by
 go_enter Tryz.func30,Tryz.ntmps30
 go_wp2;go_ret
 have hbel:Below w.heap.size w (w.alloc (Obj.cells #[Value.pointer none,Value.slice none 0 0] 111)):=(Below.refl _ _).alloc (Nat.le_refl _) _;refine ⟨_,rfl,⟨⟨fun i=>if i=0 then .pointer none else .slice none 0 0,World.rowIs_alloc w _ _ _ fun i hi=>?_,.inl rfl,⟨rfl,.inl ⟨rfl,rfl⟩⟩,fun g hg=>by cases hg⟩,hB,fun g hg=>Nat.le_trans hB (Nat.le_trans hbel.size hg)⟩,Nat.le_refl _,hbel⟩
 ·match i,hi with
  | 0,_=>rfl
  | 1,_=>rfl
theorem Ch (met:Bool):
  Calls Tryz.prog 32 #[.bool met,.nilIface] w fun e w'=>e=.returned (.int .i64 (if met then 1 else 2))/\Below w.heap.size w w':=by
 cases met
 all_goals (go_enter Tryz.func32,Tryz.ntmps32;go_wp2;go_ret;exact ⟨rfl,Below.refl _ _⟩)
end
end So
end Go.Proofs.YtceahffmenbibaaGreatDoor
