/- Prbo. -/
import Derived.Test.YtceahffmenbibaaGreatDoorG15
import Derived.Test.YtceahffmenbibaaGreatDoorG16
import Derived.Test.YtceahffmenbibaaGreatDoorG08
import Derived.Deep.CutRange
set_option linter.unusedVariables false
set_option linter.unusedSimpArgs false
namespace Go.Proofs.YtceahffmenbibaaGreatDoor
namespace Rd
section
open Go Go.RowKit Go.Deep
section
attribute [local go_sem ↓] Go.wp_at_zero Go.wp_at_succ
structure gB (B sb:Nat) (W:World) (cv:Value) (mb:Nat) (gone:Int) (u:Key) (wv:Nat->Value) (es:List dN) (wl:Nat->List Nat) (wr:World):Prop where
 fM:fA B sb wr cv mb gone u wv es wl
 below:Below B W wr
 keeps:dn W wr
 tab:nX B wr
 bw:B <= W.heap.size
section
variable {B sb mb:Nat} {W wr ws:World} {cv cv':Value} {gone fE:Int} {u u':Key} {wv wv':Nat->Value} {es es':List dN} {wl mE:Nat->List Nat}
theorem gB.start (h:fA B sb W cv mb gone u wv es wl) (a:nX B W):gB B sb W cv mb gone u wv es wl W:=⟨h,bR,dn.refl _,a,h.bsize⟩
theorem gB.step {a:Nat} (h:gB B sb W cv mb gone u wv es wl wr) (S:fA B sb ws cv' a fE u' wv' es' mE) (k:dn wr ws) (b:Below B wr ws):gB B sb W cv' a fE u' wv' es' mE ws:=
 ⟨S,h.below.trans b,h.keeps.trans k,h.tab.later b,h.bw⟩
theorem gB.later (h:gB B sb W cv mb gone u wv es wl wr) (a:Below wr.heap.size wr ws):gB B sb W cv mb gone u wv es wl ws:=
 h.step (h.fM.later a) (dn.of_below a) (a.mono h.fM.bsize)
theorem gB.row {b:Nat} {s:Key} (h:gB B sb W cv mb gone u wv es wl wr) (a:W.rowIs b 84 2 (gK s)):Hid (wr.rowIs b 84 2 (gK s)):=a.of_block (h.keeps _ (gJ a))
theorem gB.put {b:Nat} {s:Key} (h:gB B sb W cv mb gone u wv es wl wr) (c:W.heap.size <= b) (a:wr.rowIs b 84 2 (gK s)) (t:Key):gB B sb W cv mb gone u wv es wl ((wr.setCell ⟨b,0,none⟩ (.int .u64 (t.1:Int))).setCell ⟨b,1,none⟩ (.int .u64 (t.2:Int))) where
 fM:=lM h.fM a eu
 below:=(h.below.setCell (by have:=h.bw;simp;omega) _).setCell (by have:=h.bw;simp;omega) _
 keeps:=pI h.keeps c
 tab:=h.tab.later ((bR.setCell (by have:=h.bw;simp;omega) _).setCell (by have:=h.bw;simp;omega) _)
 bw:=h.bw
end
end
end
end Rd
end Go.Proofs.YtceahffmenbibaaGreatDoor
