/- Pstep Pisr. -/
import Derived.Test.YtceahffmenbibaaGreatDoorG18
import Derived.Test.YtceahffmenbibaaGreatDoorG24
import Derived.Deep.CutRange
set_option linter.unusedVariables false
set_option linter.unusedSimpArgs false
namespace Go.Proofs.YtceahffmenbibaaGreatDoor
namespace Rd
section
open Go Go.RowKit Go.Deep
attribute [local go_sem ↓] Go.wp_at_zero Go.wp_at_succ
def Iw (g:Bool) (s f:Key):Nat->Value
 | 0=>.bool g
 | 1=>.int .u64 (s.1:Int)
 | 2=>.int .u64 (s.2:Int)
 | 3=>.int .u64 (f.1:Int)
 | _=>.int .u64 (f.2:Int)
def vO (g:Bool) (s f:Key):Value:=.agg #[.bool g,.int .u64 (s.1:Int),.int .u64 (s.2:Int),.int .u64 (f.1:Int),.int .u64 (f.2:Int)]
def Br:Cl->Key
 | []=>(0,0)
 | l :: _=>single l
end
section
open Go Go.RowKit Go.Deep
attribute [local go_sem ↓] Go.wp_at_zero Go.wp_at_succ
def XD (B sb:Nat) (w:World) (cv:Value) (mb:Nat) (gone:Int) (u:Key) (es:List aX) (L:List Cl) (c:Cl) (e:Ending) (w':World):Prop:=
 ∃ (b:Bool) (wv':Nat->Value) (es':List aX) (iO:Nat->List Nat),e=.returned (.bool b)/\Below B w w'/\aA w w'/\di B sb w' cv mb gone u wv' es' iO/\sigs es'=sigs es/\dP es' iO/\(b=true↔bH L c)
def Ig (B sb:Nat) (W:World) (cv:Value) (mb:Nat) (gone:Int) (u:Key) (es:List aX) (laid:Key) (p c:Value) (wx:World):Prop:=
 ∃ (db:Nat) (d:Key) (cf:Bool) (wv2:Nat->Value) (es2:List aX) (pR:Nat->List Nat),p=.pointer (some ⟨db,0,none⟩)/\c=.bool cf/\Hid (fB B sb W cv mb gone u wv2 es2 pR wx/\wx.rowIs db 84 2 (fA d)/\dF es es2 (0,0) laid d cf/\dP es2 pR/\d.ok)
theorem TQ {B sb mb:Nat} {W w8:World} {cv:Value} {gone:Int} {u:Key} {wv2:Nat->Value} {es es2:List aX} {pR:Nat->List Nat} {laid d:Key} {cf:Bool} (h:fB B sb W cv mb gone u wv2 es2 pR w8) (hP:dF es es2 (0,0) laid d cf) (hW:dP es2 pR) (hd:d.ok):
  Ig B sb W cv mb gone u es laid (.pointer (some ⟨w8.heap.size,0,none⟩)) (.bool cf) (w8.alloc (.cells #[.int .u64 (d.1:Int),.int .u64 (d.2:Int)] 84)):=
 ⟨_,d,cf,wv2,es2,pR,rfl,rfl,h.later ((Below.refl _ _).alloc (Nat.le_refl _) _),dS _ _ _ _,hP,hW,hd⟩
theorem TP {B sb mb fb:Nat} {W w8:World} {cv:Value} {gone:Int} {u:Key} {wv2:Nat->Value} {es es2:List aX} {pR:Nat->List Nat} {laid d:Key} {cf:Bool} (h:fB B sb W cv mb gone u wv2 es2 pR w8) (hR:w8.rowIs fb 84 2 (fA (0,0))) (hb:W.heap.size <= fb) (hP:dF es es2 (0,0) laid d cf) (hW:dP es2 pR) (hd:d.ok):
  Ig B sb W cv mb gone u es laid (.pointer (some ⟨fb,0,none⟩)) (.bool cf) ((w8.setCell ⟨fb,0,none⟩ (.int .u64 (d.1:Int))).setCell ⟨fb,1,none⟩ (.int .u64 (d.2:Int))):=
 ⟨fb,d,cf,wv2,es2,pR,rfl,rfl,h.put hb hR d,oh hR,hP,hW,hd⟩
end
end Rd
end Go.Proofs.YtceahffmenbibaaGreatDoor
