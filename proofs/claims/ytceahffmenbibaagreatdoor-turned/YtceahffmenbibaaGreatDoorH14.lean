/- Prbo. -/
import Derived.Test.YtceahffmenbibaaGreatDoorH12
import Derived.Test.YtceahffmenbibaaGreatDoorH13
set_option linter.unusedVariables false
set_option linter.unusedSimpArgs false
namespace Go.Proofs.YtceahffmenbibaaGreatDoor
namespace Rd
section
open Go Go.RowKit Go.Deep
section
attribute [local go_sem ↓] Go.wp_at_zero Go.wp_at_succ
structure gz (B sb:Nat) (W:World) (cv:Value) (mb:Nat) (gone:Int) (u:Key) (wv:Nat->Value) (es:List dN) (wl:Nat->List Nat) (wr:World):Prop where
 fK:fu B sb wr cv mb gone u wv es wl
 below:Below B W wr
 keeps:dm W wr
 tab:nT B wr
 bw:B <= W.heap.size
section
variable {B sb mb:Nat} {W wr ws:World} {cv cv':Value} {gone fB:Int} {u u':Key} {wv wv':Nat->Value} {es es':List dN} {wl mr:Nat->List Nat}
theorem gz.start (h:fu B sb W cv mb gone u wv es wl) (a:nT B W):gz B sb W cv mb gone u wv es wl W:=⟨h,bR,dm.refl _,a,h.bsize⟩
theorem gz.step {a:Nat} (h:gz B sb W cv mb gone u wv es wl wr) (S:fu B sb ws cv' a fB u' wv' es' mr) (k:dm wr ws) (b:Below B wr ws):gz B sb W cv' a fB u' wv' es' mr ws:=
 ⟨S,h.below.trans b,h.keeps.trans k,h.tab.later b,h.bw⟩
theorem gz.later (h:gz B sb W cv mb gone u wv es wl wr) (a:Below wr.heap.size wr ws):gz B sb W cv mb gone u wv es wl ws:=
 h.step (h.fK.later a) (dm.of_below a) (a.mono h.fK.bsize)
theorem gz.row {b:Nat} {s:Key} (h:gz B sb W cv mb gone u wv es wl wr) (a:W.rowIs b 84 2 (gJ s)):Hid (wr.rowIs b 84 2 (gJ s)):=a.of_block (h.keeps _ (gI a))
theorem gz.put {b:Nat} {s:Key} (h:gz B sb W cv mb gone u wv es wl wr) (c:W.heap.size <= b) (a:wr.rowIs b 84 2 (gJ s)) (t:Key):gz B sb W cv mb gone u wv es wl ((wr.setCell ⟨b,0,none⟩ (.int .u64 (t.1:Int))).setCell ⟨b,1,none⟩ (.int .u64 (t.2:Int))) where
 fK:=lJ h.fK a dZ
 below:=(h.below.setCell (by have:=h.bw;simp;omega) _).setCell (by have:=h.bw;simp;omega) _
 keeps:=pq h.keeps c
 tab:=h.tab.later ((bR.setCell (by have:=h.bw;simp;omega) _).setCell (by have:=h.bw;simp;omega) _)
 bw:=h.bw
end
end
end
end Rd
end Go.Proofs.YtceahffmenbibaaGreatDoor
