/- Pfwk. -/
import Derived.Test.YtceahffmenbibaaGreatDoorG18
import Derived.Laws.CopyOwn
import Derived.Deep.CutRange
set_option linter.unusedVariables false
set_option linter.unusedSimpArgs false
namespace Go.Proofs.YtceahffmenbibaaGreatDoor
namespace Rd
section
open Go Go.RowKit Go.Deep
attribute [local go_sem ↓] Go.wp_at_zero Go.wp_at_succ
theorem dw.start {B sb mb:Nat} {cv:Value} {gone:Int} {u:Key} {wv:Nat->Value} {es:List aX} {wl:Nat->List Nat} {w:World} (L D:Key) (hS:di B sb w cv mb gone u wv es wl) (hT:nL B w):
  dw B sb w L D (0,0) cv mb gone u wv es wl (((w.alloc (Obj.cells #[Value.int IntKind.u64 (L.1:Int),Value.int IntKind.u64 (L.2:Int)] 84)).alloc (Obj.cells #[Value.int IntKind.u64 (D.1:Int),Value.int IntKind.u64 (D.2:Int)] 84)).alloc (Obj.cells #[Value.int IntKind.u64 0,Value.int IntKind.u64 0] 84)):=by
 have hb:Below w.heap.size w (((w.alloc (Obj.cells #[Value.int IntKind.u64 (L.1:Int),Value.int IntKind.u64 (L.2:Int)] 84)).alloc (Obj.cells #[Value.int IntKind.u64 (D.1:Int),Value.int IntKind.u64 (D.2:Int)] 84)).alloc (Obj.cells #[Value.int IntKind.u64 0,Value.int IntKind.u64 0] 84)):=HY (Below.refl _ _) (Nat.le_refl _) _ _ _;have r1:=dS w (Value.int IntKind.u64 (L.1:Int)) (Value.int IntKind.u64 (L.2:Int)) 84;have r2:=mr w (Obj.cells #[Value.int IntKind.u64 (L.1:Int),Value.int IntKind.u64 (L.2:Int)] 84) (Value.int IntKind.u64 (D.1:Int)) (Value.int IntKind.u64 (D.2:Int)) 84;have r3:=mr (w.alloc (Obj.cells #[Value.int IntKind.u64 (L.1:Int),Value.int IntKind.u64 (L.2:Int)] 84)) (Obj.cells #[Value.int IntKind.u64 (D.1:Int),Value.int IntKind.u64 (D.2:Int)] 84) (Value.int IntKind.u64 0) (Value.int IntKind.u64 0) 84;exact {
  je:=(r1.alloc _).alloc _
  uR:=r2.alloc _
  mO:=by
   have:(w.alloc (Obj.cells #[Value.int IntKind.u64 (L.1:Int),Value.int IntKind.u64 (L.2:Int)] 84)).heap.size + 1=w.heap.size + 2:=by simp
   rw [this] at r3;exact r3
  nK:=hS.later hb
  below:=hb.mono hS.bsize
  keeps:=aA.of_below hb
  hs:=by simp
  tab:=hT.later (hb.mono hS.bsize)
  bw:=hS.bsize }
theorem AR {X w6:World} (hb:Below ((X.alloc (.cells #[.int .u64 0,.int .u64 0] 84)).drew).heap.size ((X.alloc (.cells #[.int .u64 0,.int .u64 0] 84)).drew) w6):Hid (w6.rowIs X.heap.size 84 2 (fA (0,0))):=by
 have r:=(dS X (.int .u64 0) (.int .u64 0) 84).drew;exact r.of_block (hb.block _ r.lt)
theorem wC {X w6:World} (hb:Below (X.alloc (.cells #[.int .u64 0,.int .u64 0] 84)).heap.size (X.alloc (.cells #[.int .u64 0,.int .u64 0] 84)) w6):Hid (w6.rowIs X.heap.size 84 2 (fA (0,0))):=by
 have r:=dS X (.int .u64 0) (.int .u64 0) 84;exact r.of_block (hb.block _ r.lt)
theorem Sw {X w7:World} {c:Nat} (hb:Below X.drew.heap.size X.drew w7) (h:Hid (X.rowIs c 84 2 (fA (0,0)))):Hid (w7.rowIs c 84 2 (fA (0,0))):=h.out.of_block (hb.block _ h.out.lt)
theorem NH {X w7:World} {c:Nat} (hb:Below X.heap.size X w7) (h:Hid (X.rowIs c 84 2 (fA (0,0)))):Hid (w7.rowIs c 84 2 (fA (0,0))):=h.out.of_block (hb.block _ h.out.lt)
theorem aF {w7:World} {c:Nat} {s:Key} (h:Hid (w7.rowIs c 84 2 (fA s))):w7.cell? ⟨c,0,none⟩=some (.int .u64 (s.1:Int))/\w7.cell? ⟨c,1,none⟩=some (.int .u64 (s.2:Int))/\w7.frozen? ⟨c,0,none⟩=false/\w7.frozen? ⟨c,1,none⟩=false:=
 ⟨h.out.cell (i:=0) (by omega),h.out.cell (i:=1) (by omega),h.out.frozen 0,h.out.frozen 1⟩
end
end Rd
end Go.Proofs.YtceahffmenbibaaGreatDoor
