/- Stak Stk2. -/
import Derived.Test.YtceahffmenbibaaGreatDoorH18
set_option linter.unusedVariables false
set_option linter.unusedSimpArgs false
set_option maxHeartbeats 4000000
set_option maxRecDepth 100000
namespace Go.Proofs.YtceahffmenbibaaGreatDoor
namespace So
section
open Go Go.RowKit Go.Deep Rd
section
variable {Z:Nat->Prop} {kb:Nat} {w:World} {l:List UInt8}
theorem xR (b it a:TypeId) (p:Option Addr) (w:World):(Builtin.unsafeString_ #[b,it] a #[.pointer p,.int .i64 0]).run Tryz.prog w=.ok (.string ⟨#[]⟩) w:=Lib.run_unsafeString_none w b it a p
theorem Iu (d:w.cell? ⟨kb,1,none⟩=some (.slice none 0 0)) (B:Nat):
  Calls Tryz.prog 59 #[.pointer (some ⟨kb,0,none⟩)] w fun e a=>e=.returned (.string ⟨#[]⟩)/\Below B w a/\Lib.OthersKept 5 none w a:=by
 have c:(Builtin.unsafeSliceData_ #[107] 171 #[.slice none 0 0]).run Tryz.prog w.drew=.ok (.pointer none) w.drew:=rfl;have b:=xR 171 3 9;have f:w.drew.cell? ⟨kb,1,none⟩=some (.slice none 0 0):=d;go_enter Tryz.func59,Tryz.ntmps59
 go_wp2;go_region
 all_goals (go_wp2;go_ret;exact ⟨rfl,Below.drew (Below.refl B w),(Lib.OthersKept.refl _ _ w).drew⟩)
theorem Ep {g cap:Nat} (f:w.cell? ⟨kb,1,none⟩=some (.slice (some ⟨g,0,none⟩) 0 cap)) (b:cap ≠ 0) (B:Nat):
  Calls Tryz.prog 59 #[.pointer (some ⟨kb,0,none⟩)] w fun e a=>e=.returned (.string ⟨#[]⟩)/\Below B w a/\Lib.OthersKept 5 none w a:=by
 have d:(Builtin.unsafeSliceData_ #[107] 171 #[.slice (some ⟨g,0,none⟩) 0 cap]).run Tryz.prog w.drew=.ok (.pointer (some ⟨g,0,none⟩)) w.drew:=Lib.run_unsafeSliceData_row _ _ _ _ _ _ b;clear b;have c:=xR 171 3 9;have h:w.drew.cell? ⟨kb,1,none⟩=some (.slice (some ⟨g,0,none⟩) 0 cap):=f;go_enter Tryz.func59,Tryz.ntmps59
 go_wp2;go_region
 all_goals (go_wp2;go_ret;exact ⟨rfl,Below.drew (Below.refl B w),(Lib.OthersKept.refl _ _ w).drew⟩)
theorem zX {g k:Nat} (j:w.cell? ⟨kb,1,none⟩=some (.slice (some ⟨g,0,none⟩) 0 0)) (b:w.shape? g=some (5,k)) (B:Nat) (h:B <= w.heap.size):
  Calls Tryz.prog 59 #[.pointer (some ⟨kb,0,none⟩)] w fun e f=>e=.returned (.string ⟨#[]⟩)/\Below B w f/\Lib.OthersKept 5 none w f:=by
 have n:(Builtin.unsafeSliceData_ #[107] 171 #[.slice (some ⟨g,0,none⟩) 0 0]).run Tryz.prog w.drew=.ok (.pointer (some ⟨w.drew.heap.size,0,none⟩)) (w.drew.alloc (.view ⟨g,0,none⟩ 5)):=
  Lib.run_unsafeSliceData_zero w.drew _ _ 5 Tryz.underlying171 ⟨g,0,none⟩ 0 _ b
 have m:=xR 171 3 9;have c:kb < w.heap.size:=block_lt_of_cell j;have o:w.drew.cell? ⟨kb,1,none⟩=some (.slice (some ⟨g,0,none⟩) 0 0):=j;have d:Below B w (w.drew.alloc (.view ⟨g,0,none⟩ 5)):=(Below.drew (Below.refl B w)).alloc h _;have a:Lib.OthersKept 5 none w (w.drew.alloc (.view ⟨g,0,none⟩ 5)):=((Lib.OthersKept.refl _ _ w).drew).alloc _;have i:(w.drew.alloc (.view ⟨g,0,none⟩ 5)).cell? ⟨kb,1,none⟩=some (.slice (some ⟨g,0,none⟩) 0 0):=by
  rw [((Below.refl w.drew.heap.size w.drew).alloc lr (.view ⟨g,0,none⟩ 5)).cell (p:=⟨kb,1,none⟩) c];exact o
 have r:(w.alloc (.view ⟨g,0,none⟩ 5)).drew.cell? ⟨kb,1,none⟩=some (.slice (some ⟨g,0,none⟩) 0 0):=i;have q:(w.alloc (.view ⟨g,0,none⟩ 5)).cell? ⟨kb,1,none⟩=some (.slice (some ⟨g,0,none⟩) 0 0):=i;clear h c b;go_enter Tryz.func59,Tryz.ntmps59
 go_wp2;go_region
 all_goals (go_wp2;go_ret;exact ⟨rfl,d,a⟩)
theorem Eo {g cap k:Nat} (y:w.cell? ⟨kb,1,none⟩=some (.slice (some ⟨g,0,none⟩) l.length cap)) (c:w.shape? g=some (5,k)) (d:∃ o v,w.heap[g]? = some (.cells o 5 v)) (n:l ≠ []) (s:l.length <= cap) (h:l.length <= k) (i:l.length <= 9223372036854775807) (a:∀ j x,l[j]? = some x->w.cell? ((⟨g,0,none⟩:Addr).add j)=some (.int .u8 x.toNat)) (B:Nat) (r:B <= g):
  Calls Tryz.prog 59 #[.pointer (some ⟨kb,0,none⟩)] w fun e q=>e=.returned (.string ⟨l.toArray⟩)/\Below B w q/\Lib.OthersKept 5 none w q:=by
 have m:l.length ≠ 0:=by simpa using n
 have u:(Builtin.unsafeSliceData_ #[107] 171 #[.slice (some ⟨g,0,none⟩) l.length cap]).run Tryz.prog w.drew=.ok (.pointer (some ⟨g,0,none⟩)) w.drew:=Lib.run_unsafeSliceData_row _ _ _ _ _ _ (by omega);have t:(Builtin.unsafeString_ #[171,3] 9 #[.pointer (some ⟨g,0,none⟩),.int .i64 l.length]).run Tryz.prog w.drew=.ok (.string ⟨l.toArray⟩) (w.drew.freeze ⟨g,0,none⟩ l.length):=
  Lib.run_unsafeString_row w.drew _ _ _ 5 Tryz.underlying171 (by kernel_rfl) g k c l n h i a
 have z:w.drew.cell? ⟨kb,1,none⟩=some (.slice (some ⟨g,0,none⟩) l.length cap):=y;have f:Below B w (w.drew.freeze ⟨g,0,none⟩ l.length):=Lib.below_freeze (Below.drew (Below.refl B w)) (p:=⟨g,0,none⟩) r _;have b:Lib.OthersKept 5 none w (w.drew.freeze ⟨g,0,none⟩ l.length):=((Lib.OthersKept.refl _ _ w).drew).freeze ⟨g,0,none⟩ _ d;clear r c n h i a m s d;go_enter Tryz.func59,Tryz.ntmps59
 go_wp2;go_region
 all_goals (go_wp2;go_ret;exact ⟨rfl,f,b⟩)
theorem Iw (B:Nat) (h:nR (fun g=>B <= g) kb w l) (H:B <= w.heap.size):
  Calls Tryz.prog 59 #[.pointer (some ⟨kb,0,none⟩)] w fun e o=>e=.returned (.string ⟨l.toArray⟩)/\Below B w o/\Lib.OthersKept 5 none w o:=by
 obtain ⟨f,z,-,p,u⟩:=h.ex;have a:w.cell? ⟨kb,1,none⟩=some (f 1):=z.cell (by omega)
 obtain ⟨q,C | ⟨g,n,m,b,G,s,i,k,E,d⟩⟩:=id p
 ·obtain ⟨b,I⟩:=C;have D:l=[]:=List.eq_nil_of_length_eq_zero I;subst D;rw [b] at a;exact Iu a B
 ·rw [b] at a;have c:w.shape? g=some (5,m.size):=by simp [World.shape?,s]
  cases l with
  | nil=>
   by_cases t:n=0
   ·subst t;exact zX a c B H
   ·exact Ep a t B
  | cons x r=>
   refine Eo a c ⟨_,_,s⟩ (by simp) i (by omega) (by unfold maxLen at k;omega) (fun j y v=>?_) B (u g (by rw [b];rfl));exact (b ▸ p).cells (g:=g) rfl j (.int .u8 y.toNat) (by unfold dM;rw [List.getElem?_map,v];rfl)
end
section
variable {Z:Nat->Prop} {kb:Nat} {w:World} {l:List UInt8}
theorem DC (v:Value) (w:World):(Instr.typeAssert (.iface 105 v) 62 105 true).run Tryz.prog w=.ok (.tuple #[v,.bool true]) w:=by kernel_rfl
theorem KT (B:Nat) (h:nR (fun g=>B <= g) kb w l) (c:B <= w.heap.size):
  Calls Tryz.prog 33 #[.iface 105 (.pointer (some ⟨kb,0,none⟩))] w fun e a=>e=.returned (.string ⟨l.toArray⟩)/\Below B w a/\Lib.OthersKept 5 none w a:=by
 have d:=hide (Iw B h c);have i:=DC;clear h c;go_enter Tryz.func33,Tryz.ntmps33
 go_wp2_with (go_at_call 59;(with_reducible refine d.out.mono ?_);rintro e a ⟨rfl,b⟩;have f:=hide b;clear b;simp only [])
 go_ret
 exact ⟨rfl,f.out⟩
theorem TG (B:Nat) (d:B <= w.heap.size):
  Calls Tryz.prog 30 #[.int .i64 (-1)] w fun e c=>∃ k,e=.returned (.iface 105 (.pointer (some ⟨k,0,none⟩)))/\nR (fun g=>B <= g) k c []/\w.heap.size <= k/\Below w.heap.size w c:=by
 go_enter Tryz.func30,Tryz.ntmps30
 go_wp2;go_ret
 have a:Below w.heap.size w (w.alloc (.cells #[Value.pointer none,.slice none 0 0] 111)):=bR.alloc lr _;refine ⟨_,rfl,⟨⟨fun i=>if i=0 then .pointer none else .slice none 0 0,World.rowIs_alloc w _ _ _ fun i f=>?_,.inl rfl,⟨rfl,.inl ⟨rfl,rfl⟩⟩,fun g b=>by cases b⟩,d,fun g b=>Nat.le_trans d (Nat.le_trans a.size b)⟩,lr,a⟩
 ·match i,f with
  | 0,_=>rfl
  | 1,_=>rfl
theorem D8 (met:Bool):
  Calls Tryz.prog 32 #[.bool met,.nilIface] w fun e a=>e=.returned (.int .i64 (if met then 1 else 2))/\Below w.heap.size w a:=by
 cases met
 all_goals (go_enter Tryz.func32,Tryz.ntmps32;go_wp2;go_ret;exact ⟨rfl,bR⟩)
end
end
end So
end Go.Proofs.YtceahffmenbibaaGreatDoor
