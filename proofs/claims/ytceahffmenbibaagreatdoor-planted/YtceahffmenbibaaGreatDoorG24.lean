/- Prbo. -/
import Derived.Test.YtceahffmenbibaaGreatDoorG21
import Derived.Deep.CutRange
set_option linter.unusedVariables false
set_option linter.unusedSimpArgs false
namespace Go.Proofs.YtceahffmenbibaaGreatDoor
namespace Rd
section
open Go Go.RowKit Go.Deep
attribute [local go_sem ↓] Go.wp_at_zero Go.wp_at_succ
structure fB (B sb:Nat) (W:World) (cv:Value) (mb:Nat) (gone:Int) (u:Key) (wv:Nat->Value) (es:List aX) (wl:Nat->List Nat) (wr:World):Prop where
 nK:di B sb wr cv mb gone u wv es wl
 below:Below B W wr
 keeps:aA W wr
 tab:nL B wr
 bw:B <= W.heap.size
section
variable {B sb mb:Nat} {W wr ws:World} {cv cv':Value} {gone gB:Int} {u u':Key} {wv wv':Nat->Value} {es es':List aX} {wl iO:Nat->List Nat}
theorem fB.start (h:di B sb W cv mb gone u wv es wl) (hT:nL B W):fB B sb W cv mb gone u wv es wl W:=⟨h,Below.refl _ _,aA.refl _,hT,h.bsize⟩
theorem fB.step {mb':Nat} (h:fB B sb W cv mb gone u wv es wl wr) (S:di B sb ws cv' mb' gB u' wv' es' iO) (k:aA wr ws) (b:Below B wr ws):fB B sb W cv' mb' gB u' wv' es' iO ws:=
 ⟨S,h.below.trans b,h.keeps.trans k,h.tab.later b,h.bw⟩
theorem fB.later (h:fB B sb W cv mb gone u wv es wl wr) (hb:Below wr.heap.size wr ws):fB B sb W cv mb gone u wv es wl ws:=
 h.step (h.nK.later hb) (aA.of_below hb) (hb.mono h.nK.bsize)
theorem fB.row {b:Nat} {s:Key} (h:fB B sb W cv mb gone u wv es wl wr) (hr:W.rowIs b 84 2 (fA s)):Hid (wr.rowIs b 84 2 (fA s)):=hr.of_block (h.keeps _ (dV hr))
theorem fB.put {b:Nat} {s:Key} (h:fB B sb W cv mb gone u wv es wl wr) (hb:W.heap.size <= b) (hr:wr.rowIs b 84 2 (fA s)) (t:Key):fB B sb W cv mb gone u wv es wl ((wr.setCell ⟨b,0,none⟩ (.int .u64 (t.1:Int))).setCell ⟨b,1,none⟩ (.int .u64 (t.2:Int))) where
 nK:=kE h.nK hr bP
 below:=(h.below.setCell (by have:=h.bw;simp;omega) _).setCell (by have:=h.bw;simp;omega) _
 keeps:=pq h.keeps hb
 tab:=h.tab.later (((Below.refl _ _).setCell (by have:=h.bw;simp;omega) _).setCell (by have:=h.bw;simp;omega) _)
 bw:=h.bw
end
end
end Rd
end Go.Proofs.YtceahffmenbibaaGreatDoor
