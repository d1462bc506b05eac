/- Cset2 Pmap Psto. -/
import Derived.Test.YtceahffmenbibaaGreatDoorJ12
import Derived.Shelf.Spec.TrailingZeros
import Derived.Deep.QuietTactic
import Derived.BigQuiet
import Derived.Maps.OwnSet
import Derived.Maps.Views
import Derived.DeepKeys4
import Derived.Test.YtceahffmenbibaaGreatDoorJ01
import Derived.Deep.RegionLaw
import Derived.Deep.RegionHeld3
set_option linter.unusedVariables false
set_option linter.unusedSimpArgs false
set_option maxHeartbeats 1000000
set_option maxRecDepth 1000000
namespace Go.Proofs.YtceahffmenbibaaGreatDoor
namespace Rd
section
open Go Go.RowKit
theorem IZ {x:Nat} (a:x ≠ 0) (h:x < wide):bits .and .u64 (x:Int) (IntKind.u64.wrap (-(x:Int)))=((2 ^ Lib.ctz 64 x:Nat):Int):=by
 have b:IntKind.u64.wrap (-(x:Int))=((18446744073709551616 - x:Nat):Int):=by unfold wide at h;rw [IntKind.wrap_u64];omega
 rw [b,bits_and_u64_nat x _ h (by omega)]
 congr 1
 exact (Lib.lowest_bit 64 x a h).1
theorem Tp (x c:Int) (w:World) (a:(x == 0)=true) (y:Int) (k:bits .and .u64 y (IntKind.u64.wrap (-y))=c):
  Calls Tryz.prog 158 #[.agg #[.int .u64 x,.int .u64 y]] w fun e w'=>e=.returned (.agg #[.int .u64 0,.int .u64 c])/\Below w.heap.size w w':=by
 have b:(x != 0)=false:=by simpa using a
 clear a;go_enter Tryz.func158,Tryz.ntmps158
 go_wp2;exact bodyPost_ret (v:=.agg #[.int .u64 0,.int .u64 c]) (by simp [results,Tryz.results158,go_sem,k]) rfl ⟨rfl,qU bR lr _ _⟩
theorem Tq (x c:Int) (w:World) (a:(x != 0)=true) (y:Int) (k:bits .and .u64 x (IntKind.u64.wrap (-x))=c):
  Calls Tryz.prog 158 #[.agg #[.int .u64 x,.int .u64 y]] w fun e w'=>e=.returned (.agg #[.int .u64 c,.int .u64 0])/\Below w.heap.size w w':=by
 go_enter Tryz.func158,Tryz.ntmps158
 go_wp2;exact bodyPost_ret (v:=.agg #[.int .u64 c,.int .u64 0]) (by simp [results,Tryz.results158,go_sem,k]) rfl ⟨rfl,qU bR lr _ _⟩
theorem wL (s:Key) (w:World) (c:s.ok) (f:s ≠ (0,0)):
  Calls Tryz.prog 158 #[dn s] w fun e w'=>e=.returned (dn s.one)/\Below w.heap.size w w':=by
 unfold Key.one;by_cases h:s.1=0
 ·have d:s.2 ≠ 0:=by
   intro e;apply f;obtain ⟨a,b⟩:=s;simp only at h e;rw [h,e]
  rw [if_neg (by simpa using h)];exact Tp _ _ w (by rw [h];rfl) _ (IZ d c.2)
 ·rw [if_pos h];exact Tq _ _ w (by simpa using h) _ (IZ h c.1)
theorem Ph (x k a:Nat) (w:World) (d:((x:Int) == 0)=false)
  (b:IntKind.u64.wrap (bits BinOp.and IntKind.u64 (x:Int) (IntKind.u64.wrap (-(x:Int))) * 285870213051353865) / 288230376151711744=(a:Int))
  (g:a < 64) (f:k < 64) (c:w.cell? ⟨5,a,none⟩=some (.int .u8 k)):
  Calls Tryz.prog 228 #[.int .u64 x] w fun e w'=>e=.returned (.int .i64 k)/\w=w':=by
 go_enter Tryz.func228,Tryz.ntmps228
 go_wp2_with (simp only [b])
 go_ret
 exact ⟨rfl,rfl⟩
theorem Lu (x:Nat) (w:World) (d:x < wide) (h:x ≠ 0) (i:TabAt 5 Lib.deBruijn64tab w):
  Calls Tryz.prog 228 #[.int .u64 x] w fun e w'=>e=.returned (.int .i64 (Lib.ctz 64 x))/\w=w':=by
 obtain ⟨c,f⟩:=Lib.lowest_bit 64 x h d;obtain ⟨g,b⟩:=Lib.deBruijn64_at _ f;have a:=i _ g;rw [b] at a;exact Ph x _ _ w (by simp;omega) (tz64_key x _ d h c) g f a
theorem J5 (x f d c b a h g:Int) (w:World)
  (o:IntKind.u64.wrap (bits .and .u64 (x / 2) 6148914691236517205 + bits .and .u64 x 6148914691236517205)=f)
  (n:IntKind.u64.wrap (bits .and .u64 (f / 4) 3689348814741910323 + bits .and .u64 f 3689348814741910323)=d)
  (m:bits .and .u64 (IntKind.u64.wrap (d / 16 + d)) 1085102592571150095=c)
  (l:IntKind.u64.wrap (c + c / 256)=b) (k:IntKind.u64.wrap (b + b / 65536)=a) (j:IntKind.u64.wrap (a + a / 4294967296)=h)
  (i:bits .and .i64 (wrap64 h) 127=g):
  Calls Tryz.prog 160 #[.int .u64 x] w fun e w'=>e=.returned (.int .i64 g)/\w=w':=by
 go_enter Tryz.func160,Tryz.ntmps160
 go_wp2_with (simp only [o,n,m,l,k,j,i])
 go_ret
 exact ⟨rfl,rfl⟩
theorem wX (n:Int) (c:0 <= n) (a:n < 2 ^ 63):IntKind.i64.wrap n=n:=by
 have b:n < 9223372036854775808:=a;rw [IntKind.wrap_i64];omega
theorem Qj (z:Nat) (h:z < 9223372036854775808):bits .and .i64 (z:Int) 127=((z % 128:Nat):Int):=by
 have:=(bits_nat .i64 63 (by decide) wX z 127 h (by decide)).1;rw [show ((127:Nat):Int)=127 from rfl] at this;rw [this]
 congr 1
 exact Nat.and_two_pow_sub_one_eq_mod z 7
theorem MJ (x:Nat) (w:World) (d:x < wide):
  Calls Tryz.prog 160 #[.int .u64 x] w fun e w'=>e=.returned (.int .i64 (pc x))/\w=w':=by
 obtain ⟨c,i⟩:∃ z,z=p3 8 x + p3 8 x / 256:=⟨_,rfl⟩;obtain ⟨b,h⟩:∃ z,z=c + c / 65536:=⟨_,rfl⟩;obtain ⟨a,g⟩:∃ z,z=b + b / 4294967296:=⟨_,rfl⟩;obtain ⟨m,r,q,n,s,_⟩:=BU x c b a d i h g;have p:p1 8 x <= 12297829382473034410:=by
  have l:(x / 2 &&& rep 85 8) <= rep 85 8:=Nat.and_le_right;have k:(x &&& rep 85 8) <= rep 85 8:=Nat.and_le_right;have j:rep 85 8=6148914691236517205:=by decide
  unfold p1;omega
 have o:p2 8 x <= 7378697629483820646:=by
  have l:(p1 8 x / 4 &&& rep 51 8) <= rep 51 8:=Nat.and_le_right;have k:(p1 8 x &&& rep 51 8) <= rep 51 8:=Nat.and_le_right;have j:rep 51 8=3689348814741910323:=by decide
  unfold p2;omega
 unfold wide at *
 refine J5 x (p1 8 x:Nat) (p2 8 x:Nat) (p3 8 x:Nat) (c:Nat) (b:Nat) (a:Nat) (pc x:Nat) w ?_ ?_ ?_ ?_ ?_ ?_ ?_
 ·rw [show (x:Int) / 2=((x / 2:Nat):Int) by omega,show (6148914691236517205:Int)=((6148914691236517205:Nat):Int) from rfl,bits_and_u64_nat _ _ (by omega) (by omega),bits_and_u64_nat _ _ d (by omega),IntKind.wrap_u64];have:p1 8 x=(x / 2 &&& 6148914691236517205) + (x &&& 6148914691236517205):=rfl;omega
 ·rw [show ((p1 8 x:Nat):Int) / 4=((p1 8 x / 4:Nat):Int) by omega,show (3689348814741910323:Int)=((3689348814741910323:Nat):Int) from rfl,bits_and_u64_nat _ _ (by omega) (by omega),bits_and_u64_nat _ _ (by omega) (by omega),IntKind.wrap_u64];have:p2 8 x=(p1 8 x / 4 &&& 3689348814741910323) + (p1 8 x &&& 3689348814741910323):=rfl;omega
 ·have e:IntKind.u64.wrap (((p2 8 x:Nat):Int) / 16 + (p2 8 x:Nat))=((p2 8 x / 16 + p2 8 x:Nat):Int):=by rw [IntKind.wrap_u64];omega
  rw [e,show (1085102592571150095:Int)=((1085102592571150095:Nat):Int) from rfl,bits_and_u64_nat _ _ (by omega) (by omega)];rfl
 ·rw [IntKind.wrap_u64];omega
 ·rw [IntKind.wrap_u64];omega
 ·rw [IntKind.wrap_u64];omega
 ·rw [<- m];have f:wrap64 (a:Int)=(a:Int):=by unfold wrap64;omega
  rw [f,Qj a n]
theorem FO {B:Nat} {a w:World} (h:Below B a w) (n:Nat):Below B a (w.drewN n):=h.trans ⟨rfl,rfl,rfl,lr,fun _ _=>rfl⟩
theorem Au (x:Nat) (w:World) (a:x < wide):
  Calls Tryz.prog 160 #[.int .u64 x] w fun e w'=>e=.returned (.int .i64 (pc x))/\w'=w:=
 (MJ x w a).mono fun e w' h=>⟨h.1,h.2.symm⟩
theorem lM (s:Key) (w:World) (d:s.ok):
  Calls Tryz.prog 110 #[dn s] w fun e w'=>e=.returned (.int .i64 (s.size:Nat))/\Below w.heap.size w w':=by
 have m:pc s.1 <= 64:=(BU s.1 _ _ _ d.1 rfl rfl rfl).2.2.2.2.2;have l:pc s.2 <= 64:=(BU s.2 _ _ _ d.2 rfl rfl rfl).2.2.2.2.2;obtain ⟨g,f⟩:=d;obtain ⟨a,b⟩:=s;have i:=fun w=>Au a w g
 have h:=fun w=>Au b w f
 simp only at m l;unfold dn Key.size;simp only;generalize pc a=k at *
 generalize pc b=j at *
 clear g f;go_enter Tryz.func110,Tryz.ntmps110
 go_wp2;generalize c:w.alloc (.cells #[.int .u64 (a:Int),.int .u64 (b:Int)] 84)=W
 have p:W.cell? ⟨w.heap.size,0,none⟩=some (.int .u64 (a:Int)):=by rw [<- c];simp
 have o:W.cell? ⟨w.heap.size,1,none⟩=some (.int .u64 (b:Int)):=by rw [<- c];simp
 have n:=hide c;clear c
 go_quiet ((go_at_call 160;first | with_reducible exact Calls.quiet_of_same (i _) | with_reducible exact Calls.quiet_of_same (h _)))
 go_wp2;go_ret
 refine ⟨?_,?_⟩
 ·show Ending.returned (.int .i64 ((k:Int) + (j:Int)))=_
  rw [<- Int.natCast_add]
 ·refine FO ?_ _;rw [<- n.out];exact bR.alloc lr _
theorem Ab {g:Nat} {a:List Nat} {w:World} (h:TabAt g a w) (o:Obj):TabAt g a (w.alloc o):=by
 intro j b;have:=h j b;rw [<- this];exact ((Below.refl w.heap.size w).alloc lr o).cell (p:=⟨g,j,none⟩) (block_lt_of_cell this)
theorem Jg (k:Nat) (a:k < 64):Lib.ctz 64 (2 ^ k)=k:=by
 have c:2 ^ k ≠ 0:=Nat.ne_of_gt (Nat.two_pow_pos k);have b:2 ^ k < wide:=show 2 ^ k < 2 ^ 64 from Nat.pow_lt_pow_right (by decide) a
 have:=(Cs c b).1;rw [Nat.testBit_two_pow] at this;simpa using (of_decide_eq_true this).symm
theorem Mx (a b:Nat) (w:World) (f:a < wide) (h:((a:Int) != 0)=true) (k:Nat) (j:k < 64) (e:Lib.ctz 64 a=k) (g:TabAt 5 Lib.deBruijn64tab w):
  Calls Tryz.prog 199 #[.agg #[.int .u64 (a:Int),.int .u64 (b:Int)]] w fun e w'=>e=.returned (.int .i64 k)/\Below w.heap.size w w':=by
 have d:a ≠ 0:=by intro e;subst e;simp at h
 have c:=fun o=>Lu a (w.alloc o) f d (Ab g o)
 rw [e] at c;clear g d f e;go_enter Tryz.func199,Tryz.ntmps199
 go_wp2_with fail
 refine (c _).mono ?_;rintro l i ⟨rfl,rfl⟩;go_wp2;go_ret;exact ⟨rfl,bR.alloc lr _⟩
theorem Mw (a b:Nat) (w:World) (f:b < wide) (j:((a:Int) != 0)=false) (c:b ≠ 0) (k:Nat) (i:k < 64) (e:Lib.ctz 64 b=k) (g:TabAt 5 Lib.deBruijn64tab w):
  Calls Tryz.prog 199 #[.agg #[.int .u64 (a:Int),.int .u64 (b:Int)]] w fun e w'=>e=.returned (.int .i64 (64 + k:Nat))/\Below w.heap.size w w':=by
 have d:=fun o=>Lu b (w.alloc o) f c (Ab g o)
 rw [e] at d;clear g c f e;go_enter Tryz.func199,Tryz.ntmps199
 go_wp2_with fail
 refine (d _).mono ?_;rintro l h ⟨rfl,rfl⟩;go_wp2;go_ret;exact ⟨by show Ending.returned (.int .i64 (64 + (k:Int)))=_;rw [Int.natCast_add];rfl,bR.alloc lr _⟩
theorem Ap (l:Int) (w:World) (c:dV l) (a:TabAt 5 Lib.deBruijn64tab w):
  Calls Tryz.prog 199 #[dn (single l)] w fun e w'=>e=.returned (.int .i64 (place l:Nat))/\Below w.heap.size w w':=by
 unfold dn single place
 rcases c with h | h
 ·rw [if_neg (by omega),if_pos (by omega)];have b:2 ^ (l.toNat - 1) ≠ 0:=Nat.ne_of_gt (Nat.two_pow_pos _);exact Mx _ _ w (show _ < 2 ^ 64 from Nat.pow_lt_pow_right (by decide) (by omega)) (by rw [bne_iff_ne];exact_mod_cast b) _ (by omega) (Jg _ (by omega)) a
 ·rw [if_pos (by omega),if_neg (by omega)];exact Mw _ _ w (show _ < 2 ^ 64 from Nat.pow_lt_pow_right (by decide) (by omega)) rfl (Nat.ne_of_gt (Nat.two_pow_pos _)) _ (by omega) (Jg _ (by omega)) a
theorem xA (l:Int) (w:World) (b:dV l):
  Calls Tryz.prog 73 #[.int .i64 l] w fun e w'=>e=.returned (dn (single l))/\Below w.heap.size w w':=by
 unfold dn single
 rcases b with h | h
 ·obtain ⟨k,rfl⟩:∃ k:Nat,l=(k:Int) + 1:=⟨(l - 1).toNat,by omega⟩;have a:2 ^ k < 18446744073709551616:=show 2 ^ k < 2 ^ 64 from Nat.pow_lt_pow_right (by decide) (by omega)
  have e:IntKind.u64.wrap (2 ^ k)=((2 ^ k:Nat):Int):=by
   rw [IntKind.wrap_u64,show (2:Int) ^ k=((2 ^ k:Nat):Int) by simp];generalize 2 ^ k=z at a ⊢;omega
  rw [if_neg (by omega),show ((k:Int) + 1).toNat - 1=k by omega,<- e];clear e a;go_enter Tryz.func73,Tryz.ntmps73
  go_wp2;exact bodyPost_ret (v:=.agg #[.int .u64 (IntKind.u64.wrap (2 ^ k)),.int .u64 0]) (by simp [results,Tryz.results73,go_sem]) rfl ⟨rfl,bR.alloc lr _⟩
 ·obtain ⟨k,rfl⟩:∃ k:Nat,l=-((k:Int) + 1):=⟨(-l - 1).toNat,by omega⟩;have a:2 ^ k < 18446744073709551616:=show 2 ^ k < 2 ^ 64 from Nat.pow_lt_pow_right (by decide) (by omega)
  have e:IntKind.u64.wrap (2 ^ k)=((2 ^ k:Nat):Int):=by
   rw [IntKind.wrap_u64,show (2:Int) ^ k=((2 ^ k:Nat):Int) by simp];generalize 2 ^ k=z at a ⊢;omega
  rw [if_pos (by omega),show (-(-((k:Int) + 1))).toNat - 1=k by omega,<- e];clear e a;go_enter Tryz.func73,Tryz.ntmps73
  go_wp2;exact bodyPost_ret (v:=.agg #[.int .u64 0,.int .u64 (IntKind.u64.wrap (2 ^ k))]) (by simp [results,Tryz.results73,go_sem]) rfl ⟨rfl,bR.alloc lr _⟩
end
section
open Go Go.RowKit Go.Maps
theorem Tryz.Nr:laidOutB Tryz.prog=true:=by kernel_rfl
theorem Tryz.Mk:(84:TypeId) < Tryz.prog.types.size:=of_decide_eq_true (by kernel_rfl)
theorem Tryz.Pd:(match Tryz.prog.underlying 84 with | some (.array _ _) | some (.struct _)=>true | _=>false)=true:=by rw [Tryz.underlying84]
theorem Tryz.VS:Tryz.prog.keyTypeAt 3 84=true:=by kernel_rfl
theorem Tryz.Cz:Keyed Tryz.prog 84:=Keyed.of_law (deep_law_laid Tryz.Nr (m:=3) (by omega) Tryz.Mk Tryz.VS Tryz.Pd)
theorem Tryz.Ol:Tryz.prog.cellsOf 84=2:=by kernel_rfl
theorem Tryz.O5 (w:World):(zeroValue 3).run Tryz.prog w=.ok (.int .i64 0) w:=by kernel_rfl
theorem Tryz.UU:Tryz.prog.keyType 84=true:=by kernel_rfl
theorem Tryz.Oj:Tryz.prog.cellsOf 82=1:=by kernel_rfl
theorem Tryz.Lv:∃ n,Tryz.prog.types.size=n + 1:=⟨Tryz.prog.types.size - 1,(Nat.succ_pred_eq_of_pos (Nat.lt_of_le_of_lt zl Tryz.Mk)).symm⟩
def wE (s:Key):Lit:=.string (keyBytes [.int .u64 (s.1:Int),.int .u64 (s.2:Int)])
theorem Kq {P : Program} {k u n : Nat} {j : Array Field} {m l : Field} (d : P.underlying k = some (.struct j)) (g : j = #[m, l]) (C : j.all (fun f => f.name != "_") = true) (t : m.type = u) (y : m.offset = 0) (s : l.type = u) (v : l.offset = 1)
  (D:P.keyType k=true) (p:P.cellsOf k=2) (i:P.cellsOf u=1) (c:P.underlying u=some (.int .u64)) (e:P.types.size=n + 1) {a b:Int} (r:(Lit.int .u64 a).wf=true) (q:(Lit.int .u64 b).wf=true):
  keyOf P k (.agg #[.int .u64 a,.int .u64 b])=some (.string (keyBytes [.int .u64 a,.int .u64 b])):=by
 have h:(Value.agg #[.int .u64 a,.int .u64 b]).formed P k=true:=by simp [Value.formed,d,p]
 have o:∀ x,(Lit.int .u64 x).wf=true->P.keyLits (n + 1) u [.int .u64 x]=some [.int .u64 x]:=fun x A=>by simp [Program.keyLits,c,A]
 have z:P.keyLits (n + 1 + 1) k [.int .u64 a,.int .u64 b]=some [.int .u64 a,.int .u64 b]:=by
  subst g
  conv=>lhs;unfold Program.keyLits
  rw [d];simp only [p,C,List.length_cons,List.length_nil,and_self,if_true];simp [t,s,y,v,i,o a r,o b q]
 unfold keyOf;rw [d];simp only [D,h,Bool.and_self,if_true,e];show Option.map _ (P.keyLits (n + 1 + 1) k [.int .u64 a,.int .u64 b])=_
 rw [z];rfl
theorem oL {s:Key} (a:s.ok):keyOf Tryz.prog 84 (dn s)=some (wE s):=by
 have c:(Lit.int .u64 (s.1:Int)).wf=true:=by
  have:=a.1;unfold wide at this;simp [Lit.wf,IntKind.min,IntKind.max,IntKind.signed,IntKind.bits];omega
 have b:(Lit.int .u64 (s.2:Int)).wf=true:=by
  have:=a.2;unfold wide at this;simp [Lit.wf,IntKind.min,IntKind.max,IntKind.signed,IntKind.bits];omega
 obtain ⟨n,d⟩:=Tryz.Lv;exact Kq Tryz.underlying84 rfl (by kernel_rfl) rfl rfl rfl rfl Tryz.UU Tryz.Ol Tryz.Oj Tryz.underlying82 d c b
theorem Ns {s t:Key} (i:s.ok) (g:t.ok) (h:wE s=wE t):s=t:=by
 have f:=oL i;have e:=oL g;rw [<- h] at e;have:=Tryz.Cz.inj f e;unfold dn at this;simp at this;obtain ⟨a,b⟩:=s;obtain ⟨c,d⟩:=t;simp only at this;have f:a=c:=by have:=this.1;omega
 have e:b=d:=by have:=this.2;omega
 rw [f,e]
theorem Eu {s:Key} (a:s.ok):WideAt.IsKeyLit (wE s):=Tryz.Cz.key (oL a)
def jh (w:World) (b n:Nat) (m:Key->Option Nat):Prop:=∃ D:DataW Unit,w.ownsMap Tryz.prog 84 (plainElem Tryz.prog 3) b n D/\IsMap D/\
 ∀ s:Key,s.ok->Maps.has D (wE s)=(m s).isSome/\∀ i,m s=some i->D.atKey (wE s) (.lit (.int .i64 0))=.lit (.int .i64 (i:Nat))
theorem sI (w:World):jh (w.alloc (.map #[] 0)) w.heap.size 0 (fun _=>none):=by
 refine ⟨.map [],World.ownsMap_made _ _ _ _,⟨[],rfl⟩,fun s b=>⟨rfl,fun i a=>by cases a⟩⟩
theorem jh.congr {w:World} {b n:Nat} {m a:Key->Option Nat} (h:jh w b n m) (e:∀ s,s.ok->m s=a s):jh w b n a:=by
 obtain ⟨D,g,f,d⟩:=h;exact ⟨D,g,f,fun s c=>by rw [<- e s c];exact d s c⟩
theorem jh.kept {w w':World} {b n:Nat} {m:Key->Option Nat} (h:jh w b n m) (a:w'.heap[b]? = w.heap[b]?):jh w' b n m:=by
 obtain ⟨D,⟨es,f,e,d⟩,c⟩:=h;exact ⟨D,⟨es,f,by rw [a];exact e,d⟩,c⟩
theorem jh.lt {w:World} {b n:Nat} {m:Key->Option Nat} (h:jh w b n m):b < w.heap.size:=by
 obtain ⟨D,⟨es,c,a,_⟩,_⟩:=h;exact (Array.getElem?_eq_some_iff.1 a).1
theorem jh.gP {w:World} {b n:Nat} {m:Key->Option Nat} (h:jh w b n m) {c:Array Value} {t:TypeId} {f:Nat × Nat}:w.heap[b]? ≠ some (.cells c t f):=by
 obtain ⟨D,⟨es,d,a,_⟩,_⟩:=h;rw [a];intro e;cases e
theorem jh.put {w w':World} {b n i:Nat} {m:Key->Option Nat} {k:Key} (l:k.ok) {D:DataW Unit} (d:IsMap D) (g:∀ s:Key,s.ok->Maps.has D (wE s)=(m s).isSome/\∀ i,m s=some i->D.atKey (wE s) (.lit (.int .i64 0))=.lit (.int .i64 (i:Nat)))
  (h:w'.ownsMap Tryz.prog 84 (plainElem Tryz.prog 3) b n (D.put (wE k) (.lit (.int .i64 (i:Nat))))):jh w' b n (fun s=>if s=k then some i else m s):=by
 refine ⟨_,h,d.put _ _,fun s a=>?_⟩;by_cases e:s=k
 ·subst e;simp only [if_true];refine ⟨by rw [has_put_same d (Eu a)];rfl,fun j c=>?_⟩;cases c
  exact atKey_put_same d (Eu a) _ _
 ·simp only [e,if_false];have f:wE s ≠ wE k:=fun h=>e (Ns a l h)
  rw [has_put_other f];refine ⟨(g s a).1,fun j c=>?_⟩;rw [atKey_put_other f];exact (g s a).2 j c
theorem jh.update {w:World} {b n i:Nat} {m:Key->Option Nat} {k:Key} (h:jh w b n m) (c:k.ok) (g:n < maxLen) (p:i <= 1700000000000):∃ w',(Instr.mapUpdate 130 (.map (some b)) (dn k) (.int .i64 (i:Nat))).run Tryz.prog w=.ok () w'/\
  w.grownBy w' (some b)/\jh w' b (n + 1) (fun s=>if s=k then some i else m s):=by
 obtain ⟨D,o,l,j⟩:=h;obtain ⟨w',f,e,d⟩:=o.update Tryz.Cz Tryz.underlying130 g (oL c) (plainElem_int (H:=Unit) Tryz.underlying3 (a:=(i:Int)) (by simp [Lit.wf,IntKind.min,IntKind.max,IntKind.signed,IntKind.bits];omega));exact ⟨_,f,d,jh.put (w:=w) c l j e⟩
theorem jh.lookup {w:World} {b n:Nat} {m:Key->Option Nat} {k:Key} (h:jh w b n m) (g:k.ok):∃ c:Int,(∀ i,m k=some i->c=(i:Int))/\∀ w':World,w'.heap[b]? = w.heap[b]? -> (Instr.lookup 130 (.map (some b)) (dn k) true).run Tryz.prog w'=.ok (.tuple #[.int .i64 c,.bool (m k).isSome]) w':=by
 obtain ⟨D,y,F,q⟩:=h;have f:(Lit.int .i64 0).wf=true:=by decide
 have a:∀ w':World,w'.heap[b]? = w.heap[b]? -> ∃ c:Int,(Instr.lookup 130 (.map (some b)) (dn k) true).run Tryz.prog w'=.ok (.tuple #[.int .i64 c,.bool (m k).isSome]) w'/\D.atKey (wE k) (.lit (.int .i64 0))=.lit (.int .i64 c):=by
  intro w' j;have o:w'.ownsMap Tryz.prog 84 (plainElem Tryz.prog 3) b n D:=by
   obtain ⟨es,C,z,p⟩:=y;exact ⟨es,C,by rw [j];exact z,p⟩
  obtain ⟨v,E,d,r⟩:=o.look_ok Tryz.Cz Tryz.underlying130 (Tryz.O5 w') (plainElem_int Tryz.underlying3 f) (oL g);obtain ⟨c,rfl,x,_⟩:=plainElem_int_inv Tryz.underlying3 r;exact ⟨c,by rw [d,(q k g).1],congrArg Prod.fst x⟩
 obtain ⟨c,_,l⟩:=a w rfl;refine ⟨c,fun i t=>?_,fun w' j=>?_⟩
 ·have p:=(q k g).2 i t;rw [p] at l;cases l;rfl
 ·obtain ⟨G,s,e⟩:=a w' j;rw [l] at e;cases e
  exact s
end
section
open Go Go.RowKit Go.Deep
section
structure dH where
 set:Key
 watched:Key
 times:Nat
def kV (e:dH):List Value:=[.int .u64 (e.set.1:Int),.int .u64 (e.set.2:Int),.int .u64 (e.watched.1:Int),.int .u64 (e.watched.2:Int),.int .i64 (e.times:Int)]
def jH (es:List dH):List Value:=es.flatMap kV
def fq (xs:List Nat):List Value:=xs.map fun (n:Nat)=>Value.int .i64 (n:Int)
def iH (cv:Value) (mb:Nat) (gone:Int) (u:Key) (wv:Nat->Value):Nat->Value
 | 0=>cv
 | 1=>.map (some mb)
 | 2=>.int .i64 gone
 | 3=>.int .u64 (u.1:Int)
 | 4=>.int .u64 (u.2:Int)
 | k + 5=>wv k
def look (es:List dH) (s:Key):Option Nat:=es.findIdx? (fun e=>decide (e.set=s))
theorem KG (es:List dH) (i:Nat) (b:i < es.length) (j:Nat) (d:j < 5):(jH es)[i * 5 + j]? = (kV es[i])[j]? := by
 induction es generalizing i with
 | nil=>simp at b
 | cons a r ih=>
  have e:jH (a :: r)=kV a ++ jH r:=rfl;have c:(kV a).length=5:=rfl;rw [e]
  cases i with
  | zero=>rw [List.getElem?_append_left (by omega)];simp
  | succ i=>
   rw [List.getElem?_append_right (by omega),c,show (i + 1) * 5 + j - 5=i * 5 + j by omega];exact ih i (by simpa using b)
theorem Hr (es:List dH) (e:dH):jH (es ++ [e])=jH es ++ kV e:=by unfold jH;rw [List.flatMap_append];simp
structure eG (B sb:Nat) (w:World) (cv:Value) (mb:Nat) (gone:Int) (u:Key) (wv:Nat->Value) (es:List dH) (wl:Nat->List Nat):Prop where
 row:w.rowIs sb 134 133 (iH cv mb gone u wv)
 cls:w.ownsRow B 180 5 cv es.length (jH es)
 map:jh w mb es.length (look es)
 mr:∀ k,k < 128->w.ownsRow B 3 1 (wv k) (wl k).length (fq (wl k))
 apart:∀ k k',k < 128->k' < 128->k ≠ k'->(wv k).ownBlock=none\/(wv k).ownBlock ≠ (wv k').ownBlock
 jA:B <= sb
 yR:B <= mb
variable {B sb mb:Nat} {w w':World} {cv:Value} {gone:Int} {u:Key} {wv:Nat->Value} {es:List dH} {wl:Nat->List Nat}
theorem eG.later (h:eG B sb w cv mb gone u wv es wl) (a:Below w.heap.size w w'):eG B sb w' cv mb gone u wv es wl where
 row:=h.row.of_block (a.block _ h.row.lt)
 cls:=xK h.cls a
 map:=h.map.kept (a.block _ h.map.lt)
 mr:=fun k b=>xK (h.mr k b) a
 apart:=h.apart
 jA:=h.jA
 yR:=h.yR
theorem eG.bsize (h:eG B sb w cv mb gone u wv es wl):B <= w.heap.size:=by have:=h.row.lt;have:=h.jA;omega
theorem eG.uZ (h:eG B sb w cv mb gone u wv es wl) (i:Nat) (l:i < es.length):∃ b a,cv=.slice (some ⟨b,0,none⟩) es.length a/\B <= b/\b < w.heap.size/\b ≠ sb/\es.length <= a/\∀ j,j < 5->w.cell? ⟨b,i * 5 + j,none⟩=(kV es[i])[j]? /\ w.frozen? ⟨b,i * 5 + j,none⟩=false:=by
 have d:=h.cls
 rcases h.cls.2 with ⟨_,r⟩ | ⟨g,a,q,e,f,o,m,_⟩
 ·omega
 ·refine ⟨g,a,e,f,(d.lt g (by rw [e];rfl)).2,?_,m,fun j n=>?_⟩
  ·intro p;obtain ⟨c,k,_⟩:=h.row;rw [<- p,o] at k;cases k
  ·rw [e] at d;refine ⟨?_,d.frozenAt _⟩;rw [d.cellAt (i * 5 + j) (by have:i + 1 <= es.length:=l;have:=Nat.mul_le_mul_right 5 this;omega),KG es i l j n]
theorem eG.head (h:eG B sb w cv mb gone u wv es wl) (j:Nat) (a:j < 133):w.cell? ⟨sb,j,none⟩=some (iH cv mb gone u wv j)/\w.frozen? ⟨sb,j,none⟩=false:=⟨h.row.cell a,h.row.frozen j⟩
def eO (es:List dH) (i:Nat) (k:Key):List dH:=es.modify i (fun e=>{ e with watched:=k })
def iq (es:List dH) (i:Nat) (n:Nat):List dH:=es.modify i (fun e=>{ e with times:=n })
theorem pO (a:dH) (r:List dH):jH (a :: r)=kV a ++ jH r:=rfl
theorem ES (es:List dH) (i:Nat) (c:i < es.length) (k:Key):jH (eO es i k)=((jH es).set (i * 5 + 2) (.int .u64 (k.1:Int))).set (i * 5 + 3) (.int .u64 (k.2:Int)):=by
 unfold eO
 induction es generalizing i with
 | nil=>simp at c
 | cons a r ih=>
  cases i with
  | zero=>rfl
  | succ i=>
   have b:(kV a).length=5:=rfl;rw [List.modify_succ_cons,pO,pO,ih i (by simpa using c),List.set_append_right _ _ (by rw [b];omega),List.set_append_right _ _ (by rw [b];omega),b]
   congr 2
   ·congr 1;omega
   ·omega
theorem ET (es:List dH) (i:Nat) (c:i < es.length) (n:Nat):jH (iq es i n)=(jH es).set (i * 5 + 4) (.int .i64 (n:Int)):=by
 unfold iq
 induction es generalizing i with
 | nil=>simp at c
 | cons a r ih=>
  cases i with
  | zero=>rfl
  | succ i=>
   have b:(kV a).length=5:=rfl;rw [List.modify_succ_cons,pO,pO,ih i (by simpa using c),List.set_append_right _ _ (by rw [b];omega),b]
   congr 2
   omega
theorem gM (es:List dH) (i:Nat) (k:Key):(eO es i k).length=es.length:=by unfold eO;simp
theorem kL (es:List dH) (i:Nat) (n:Nat):(iq es i n).length=es.length:=by unfold iq;simp
theorem Gl (es:List dH) (i:Nat) (k:Key):(eO es i k).map dH.set=es.map dH.set:=by
 unfold eO;refine List.ext_getElem? fun j=>?_
 rw [List.getElem?_map,List.getElem?_map,List.getElem?_modify];split
 ·rename_i h;subst h;cases es[i]? <;> rfl
 ·simp
theorem Gm (es:List dH) (i:Nat) (n:Nat):(iq es i n).map dH.set=es.map dH.set:=by
 unfold iq;refine List.ext_getElem? fun j=>?_
 rw [List.getElem?_map,List.getElem?_map,List.getElem?_modify];split
 ·rename_i h;subst h;cases es[i]? <;> rfl
 ·simp
theorem Kj {es b:List dH} (h:b.map dH.set=es.map dH.set) (s:Key):look b s=look es s:=by
 have a:∀ l:List dH,look l s=(l.map dH.set).findIdx? (fun k=>decide (k=s)):=fun l=>by
  unfold look;rw [List.findIdx?_map];rfl
 rw [a,a,h]
theorem eG.Jb {t cap:Nat} {b:List dH} {v:World} (h:eG B sb w cv mb gone u wv es wl) (p:cv=.slice (some ⟨t,0,none⟩) es.length cap) (f:b.length=es.length) (j:b.map dH.set=es.map dH.set)
  (m:v.ownsRow B 180 5 cv es.length (jH b)) (a:∀ k,k ≠ t->v.heap[k]? = w.heap[k]?):eG B sb v cv mb gone u wv b wl:=by
 obtain ⟨d,l⟩:∃ d,w.heap[t]? = some (.cells d 180 (0,0)):=by
  rcases h.cls.2 with ⟨e,_⟩ | ⟨g,i,d,e,_,o,_⟩
  ·rw [p] at e;cases e
  ·rw [p] at e;cases e;exact ⟨d,o⟩
 have x:sb ≠ t:=fun e=>by
  obtain ⟨c,z,_⟩:=h.row;rw [e,l] at z;cases z
 have y:mb ≠ t:=fun e=>h.map.gP (by rw [e];exact l)
 exact {
  row:=h.row.of_block (a _ x)
  cls:=by rw [f];exact m
  map:=by rw [f];exact (h.map.kept (a _ y)).congr fun s _=>(Kj j s).symm
  mr:=fun k A=>by
   have n:=h.mr k A;refine ⟨n.1,?_⟩
   rcases n.2 with e | ⟨g,i,q,e,C,o,r⟩
   ·exact .inl e
   ·refine .inr ⟨g,i,q,e,C,?_,r⟩;rw [a g (fun D=>by rw [D,l] at o;cases o)];exact o
  apart:=h.apart
  jA:=h.jA
  yR:=h.yR }
theorem eG.fu (h:eG B sb w cv mb gone u wv es wl) (g:Int):eG B sb (w.setCell ⟨sb,2,none⟩ (.int .i64 g)) cv mb g u wv es wl where
 row:=(h.row.set 2 _).congr fun i n=>by
  match i with
  | 0=>rfl
  | 1=>rfl
  | 2=>rfl
  | 3=>rfl
  | 4=>rfl
  | k + 5=>simp [iH]
 cls:=ownsRow_setCell_other h.cls (fun e=>by
  rcases h.cls.2 with ⟨b,_⟩ | ⟨m,d,j,b,_,f,_⟩
  ·rw [b] at e;cases e
  ·rw [b] at e;cases e
   obtain ⟨c,a,_⟩:=h.row;rw [f] at a;cases a) _
 map:=h.map.kept (Below.heap_setCell _ _ _ _ (fun e=>by
  obtain ⟨c,a,_⟩:=h.row;exact h.map.gP (by rw [e];exact a)))
 mr:=fun k l=>ownsRow_setCell_other (h.mr k l) (fun e=>by
  rcases (h.mr k l).2 with ⟨b,_⟩ | ⟨m,d,j,b,_,f,_⟩
  ·rw [b] at e;cases e
  ·rw [b] at e;cases e
   obtain ⟨c,a,_⟩:=h.row;rw [f] at a;cases a) _
 apart:=h.apart
 jA:=h.jA
 yR:=h.yR
theorem eG.iF (h:eG B sb w cv mb gone u wv es wl):mb ≠ sb/\(∀ g,cv.ownBlock=some g->g ≠ sb)/\∀ k,k < 128->∀ g,(wv k).ownBlock=some g->g ≠ sb:=by
 obtain ⟨c,i,_⟩:=h.row;refine ⟨fun e=>h.map.gP (by rw [e];exact i),fun g b e=>?_,fun k l g b e=>?_⟩
 ·rcases h.cls.2 with ⟨d,_⟩ | ⟨m,f,j,d,_,a,_⟩
  ·rw [d] at b;cases b
  ·rw [d] at b;cases b;simp only at e;rw [e,i] at a;cases a
 ·rcases (h.mr k l).2 with ⟨d,_⟩ | ⟨m,f,j,d,_,a,_⟩
  ·rw [d] at b;cases b
  ·rw [d] at b;cases b;simp only at e;rw [e,i] at a;cases a
theorem fT {w w':World} {B e size n:Nat} {v:Value} {c:List Value} (h:w.ownsRow B e size v n c) (d:∀ g,v.ownBlock=some g->w'.heap[g]? = w.heap[g]?):w'.ownsRow B e size v n c:=by
 refine ⟨h.1,?_⟩
 rcases h.2 with e | ⟨g,b,a,e,i,f,r⟩
 ·exact .inl e
 ·exact .inr ⟨g,b,a,e,i,by rw [d g (by rw [e];rfl)];exact f,r⟩
theorem eG.UF {c:World} {i:Int} {e:Key} (h:eG B sb w cv mb gone u wv es wl) (b:c.rowIs sb 134 133 (iH cv mb i e wv)) (a:∀ k,k ≠ sb->c.heap[k]? = w.heap[k]?):eG B sb c cv mb i e wv es wl where
 row:=b
 cls:=fT h.cls fun g d=>a g (h.iF.2.1 g d)
 map:=h.map.kept (a _ h.iF.1)
 mr:=fun k f=>fT (h.mr k f) fun g d=>a g (h.iF.2.2 k f g d)
 apart:=h.apart
 jA:=h.jA
 yR:=h.yR
theorem eG.IJ {w6:World} {ob:Obj} {v':Value} {p at':Nat} (h:eG B sb w cv mb gone u wv es wl) (q:p < 128) (A:dz (w.alloc ob) B 3 1 (wv p) (wl p).length (fq (wl p)) 1 [.int .i64 (at':Int)] v' w6):
  eG B sb (w6.setCell ⟨sb,5 + p,none⟩ v') cv mb gone u (fun k=>if k=p then v' else wv k) es (fun k=>if k=p then wl p ++ [at'] else wl k):=by
 have d:=h.later (bR.alloc lr ob);have far:∀ k,k < (w.alloc ob).heap.size->some k ≠ (wv p).ownBlock->w6.heap[k]? = (w.alloc ob).heap[k]? := A.grew.block;have l:∀ g,(wv p).ownBlock=some g->∃ f,(w.alloc ob).heap[g]? = some (.cells f 3 (0,0)):=fun g b=>by
  rcases (d.mr p q).2 with ⟨c,_⟩ | ⟨G,C,f,c,_,j,_⟩
  ·rw [c] at b;cases b
  ·rw [c] at b;cases b;exact ⟨f,j⟩
 have s:w6.rowIs sb 134 133 (iH cv mb gone u wv):=d.row.of_block (far _ d.row.lt (fun e=>(d.iF.2.2 p q sb e.symm) rfl));have D:∀ g,v'.ownBlock=some g->g ≠ sb:=fun g b e=>by
  rcases A.at' with c | c
  ·rw [c] at b;exact d.iF.2.2 p q g b e
  ·rw [c] at b;cases b;have:=d.row.lt;omega
 have z:∀ g,cv.ownBlock=some g->some g ≠ (wv p).ownBlock:=fun g b e=>by
  obtain ⟨f,E⟩:=l g e.symm
  rcases d.cls.2 with ⟨c,_⟩ | ⟨G,C,F,c,_,j,_⟩
  ·rw [c] at b;cases b
  ·rw [c] at b;cases b;rw [E] at j;cases j
 have y:some mb ≠ (wv p).ownBlock:=fun e=>by
  obtain ⟨f,E⟩:=l mb e.symm;exact d.map.gP E
 exact {
  row:=(s.set (5 + p) _).congr fun i H=>by
   match i with
   | 0=>rw [if_neg (by omega)];rfl
   | 1=>rw [if_neg (by omega)];rfl
   | 2=>rw [if_neg (by omega)];rfl
   | 3=>rw [if_neg (by omega)];rfl
   | 4=>rw [if_neg (by omega)];rfl
   | k + 5=>
    by_cases e:k=p
    ·subst e;simp [iH,Nat.add_comm]
    ·have:¬ (k + 5=5 + p):=by omega
     simp [iH,this,e]
  cls:=ownsRow_setCell_other (fT d.cls fun g b=>far g (d.cls.lt g b).2 (z g b)) (fun e=>d.iF.2.1 sb e rfl) _
  map:=(d.map.kept (far _ d.map.lt y)).kept (Below.heap_setCell _ _ _ _ d.iF.1)
  mr:=fun k m=>by
   by_cases e:k=p
   ·subst e;simp only [if_true];have:=ownsRow_setCell_other A.own (a:=⟨sb,5 + k,none⟩) (fun e=>D sb e rfl) v';unfold fq at *
    rw [List.map_append,List.length_append];exact this
   ·simp only [e,if_false];refine ownsRow_setCell_other (fT (d.mr k m) fun g b=>far g ((d.mr k m).lt g b).2 (fun c=>?_)) (fun e=>d.iF.2.2 k m sb e rfl) _
    rcases h.apart k p m q e with o | o
    ·rw [o] at b;cases b
    ·exact o (by rw [b,c])
  apart:=fun k t m n v=>by
   by_cases e:k=p
   ·by_cases r:t=p
    ·exact absurd (by rw [e,r]) v
    ·simp only [e,r,if_true,if_false]
     rcases A.at' with c | c
     ·rw [c];exact h.apart p t q n (fun x=>r x.symm)
     ·right;rw [c];intro o
      have:=((d.mr t n).lt _ o.symm).2;omega
   ·by_cases r:t=p
    ·simp only [e,r,if_true,if_false]
     rcases A.at' with c | c
     ·rw [c];exact h.apart k p m q e
     ·cases b:(wv k).ownBlock with
      | none=>exact .inl rfl
      | some g=>
       right;rw [c];intro o
       have:=((d.mr k m).lt _ b).2;cases o;omega
    ·simp only [e,r,if_false];exact h.apart k t m n v
  jA:=h.jA
  yR:=h.yR }
theorem eG.setW {a cap i:Nat} (h:eG B sb w (.slice (some ⟨a,0,none⟩) es.length cap) mb gone u wv es wl) (c:i < es.length) (k:Key):
  eG B sb ((w.setCell ⟨a,i * 5 + 2,none⟩ (.int .u64 (k.1:Int))).setCell ⟨a,i * 5 + 2 + 1,none⟩ (.int .u64 (k.2:Int))) (.slice (some ⟨a,0,none⟩) es.length cap) mb gone u wv (eO es i k) wl:=by
 refine h.Jb rfl (gM es i k) (Gl es i k) ?_ (fun j b=>?_)
 ·rw [ES es i c k];exact ((h.cls.stored (i * 5 + 2) _).1.stored (i * 5 + 3) _).1
 ·rw [Below.heap_setCell _ _ _ _ b,Below.heap_setCell _ _ _ _ b]
theorem eG.Mh {a cap i:Nat} (h:eG B sb w (.slice (some ⟨a,0,none⟩) es.length cap) mb gone u wv es wl) (c:i < es.length) (n:Nat):
  eG B sb (w.setCell ⟨a,i * 5 + 4,none⟩ (.int .i64 (n:Int))) (.slice (some ⟨a,0,none⟩) es.length cap) mb gone u wv (iq es i n) wl:=by
 refine h.Jb rfl (kL es i n) (Gm es i n) ?_ (fun j b=>?_)
 ·rw [ET es i c n];exact (h.cls.stored (i * 5 + 4) _).1
 ·rw [Below.heap_setCell _ _ _ _ b]
theorem eG.lu {w6:World} {ob:Obj} {v':Value} {p at':Nat} (h:eG B sb w cv mb gone u wv es wl) (c:p < 128) (A:dz (w.alloc ob) B 3 1 (wv p) (wl p).length (fq (wl p)) 1 [.int .i64 (at':Int)] v' w6) (j:Nat) (d:j < 133):
  w6.cell? ⟨sb,j,none⟩=some (iH cv mb gone u wv j)/\w6.frozen? ⟨sb,j,none⟩=false:=by
 have b:=h.later (bR.alloc lr ob);have a:w6.rowIs sb 134 133 (iH cv mb gone u wv):=b.row.of_block (A.grew.block _ b.row.lt (fun e=>(b.iF.2.2 p c sb e.symm) rfl));exact ⟨a.cell d,a.frozen j⟩
theorem eG.oV {w0 w6:World} {ob:Obj} {v':Value} {p at':Nat} (h:eG B sb w cv mb gone u wv es wl) (a:p < 128) (A:dz (w.alloc ob) B 3 1 (wv p) (wl p).length (fq (wl p)) 1 [.int .i64 (at':Int)] v' w6) (c:Below B w0 w) (x:Value) (j:Nat):
  Below B w0 (w6.setCell ⟨sb,j,none⟩ x):=
 ((c.alloc h.bsize ob).grown A.grew (by have:=h.bsize;simp;omega) (fun k b=>((h.mr p a).lt k b).1)).setCell h.jA _
theorem Ki (es:List dH) (e:dH) (h:look es e.set=none) (s:Key):look (es ++ [e]) s=if s=e.set then some es.length else look es s:=by
 unfold look at *
 rw [List.findIdx?_append];by_cases a:s=e.set
 ·subst a;rw [h,if_pos rfl];simp [List.findIdx?_cons]
 ·rw [if_neg a]
  cases b:es.findIdx? (fun x=>decide (x.set=s)) with
  | some i=>rfl
  | none=>
   have:¬ e.set=s:=fun x=>a x.symm
   simp [List.findIdx?_cons,this]
theorem eG.UI {p w6:World} {ob:Obj} {l:Value} {e:dH} (h:eG B sb w cv mb gone u wv es wl) (I:look es e.set=none) (v:w.grownBy p (some mb)) (z:jh p mb (es.length + 1) (fun s=>if s=e.set then some es.length else look es s))
  (A:dz (p.alloc ob) B 180 5 cv es.length (jH es) 1 (kV e) l w6):eG B sb (w6.setCell ⟨sb,0,none⟩ l) l mb gone u wv (es ++ [e]) wl:=by
 have H:=v.size;have K:∀ k,k < w.heap.size->k ≠ mb->(p.alloc ob).heap[k]? = w.heap[k]? := fun k m q=>by
  rw [Below.heap_alloc p ob k (by omega)];exact v.block k m (fun e=>q (Option.some.inj e))
 have D:=h.map.lt;have t:=h.row.lt;have x:∀ g,cv.ownBlock=some g->g < w.heap.size/\∃ b,w.heap[g]? = some (.cells b 180 (0,0)):=fun g d=>by
  refine ⟨(h.cls.lt g d).2,?_⟩
  rcases h.cls.2 with ⟨f,_⟩ | ⟨E,o,b,f,_,j,_⟩
  ·rw [f] at d;cases d
  ·rw [f] at d;cases d;exact ⟨b,j⟩
 have F:∀ k,k < w.heap.size->k ≠ mb->(∀ b,w.heap[k]? ≠ some (.cells b 180 (0,0)))->w6.heap[k]? = w.heap[k]? := fun k m q J=>by
  rw [A.grew.block k (by simp;omega) (fun e=>by obtain ⟨_,b,n⟩:=x k e.symm;exact J b n),K k m q]
 have r:w6.rowIs sb 134 133 (iH cv mb gone u wv):=h.row.of_block (F sb t (fun e=>h.iF.1 e.symm) (fun b n=>by obtain ⟨c,C,_⟩:=h.row;rw [n] at C;cases C));have G:w6.heap[mb]? = p.heap[mb]? := by
  rw [A.grew.block mb (by simp;omega) (fun e=>by obtain ⟨_,b,n⟩:=x mb e.symm;exact h.map.gP n),Below.heap_alloc p ob mb (by omega)]
 have y:∀ g,l.ownBlock=some g->g ≠ sb:=fun g d e=>by
  rcases A.at' with f | f
  ·rw [f] at d;exact h.iF.2.1 g d e
  ·rw [f] at d;cases d;simp at e;omega
 exact {
  row:=(r.set 0 _).congr fun i M=>by
   match i with
   | 0=>rfl
   | 1=>rfl
   | 2=>rfl
   | 3=>rfl
   | 4=>rfl
   | k + 5=>simp [iH]
  cls:=by
   have:=ownsRow_setCell_other A.own (a:=⟨sb,0,none⟩) (fun e=>y sb e rfl) l;rw [List.length_append,Hr];exact this
  map:=by
   rw [List.length_append];refine ((z.kept G).kept (Below.heap_setCell _ _ _ _ h.iF.1)).congr fun s L=>?_
   exact (Ki es e I s).symm
  mr:=fun k m=>by
   refine ownsRow_setCell_other (fT (h.mr k m) fun g d=>F g ((h.mr k m).lt g d).2 (fun e=>?_) (fun b n=>?_)) (fun e=>h.iF.2.2 k m sb e rfl) _
   ·rcases (h.mr k m).2 with ⟨f,_⟩ | ⟨E,o,b,f,_,j,_⟩
    ·rw [f] at d;cases d
    ·rw [f] at d;cases d;exact h.map.gP (by rw [<- e];exact j)
   ·rcases (h.mr k m).2 with ⟨f,_⟩ | ⟨E,o,b,f,_,j,_⟩
    ·rw [f] at d;cases d
    ·rw [f] at d;cases d;simp only at n;rw [n] at j;cases j
  apart:=h.apart
  jA:=h.jA
  yR:=h.yR }
theorem eG.Si {c w6:World} {ob:Obj} {d:Value} {e:dH} (h:eG B sb w cv mb gone u wv es wl) (b:w.grownBy c (some mb))
  (A:dz (c.alloc ob) B 180 5 cv es.length (jH es) 1 (kV e) d w6):w6.cell? ⟨sb,0,none⟩=some cv/\w6.frozen? ⟨sb,0,none⟩=false:=by
 have f:=b.size;have a:=h.row.lt;have g:w6.heap[sb]? = w.heap[sb]? := by
  rw [A.grew.block sb (by simp;omega) (fun e=>h.iF.2.1 sb e.symm rfl),Below.heap_alloc c ob sb (by omega)];exact b.block sb a (fun e=>h.iF.1 (Option.some.inj e).symm)
 have:=h.row.of_block g;exact ⟨this.cell (by omega),this.frozen 0⟩
theorem eG.TR {w0 d w6:World} {ob:Obj} {c:Value} {e:dH} (h:eG B sb w cv mb gone u wv es wl) (a:w.grownBy d (some mb))
  (A:dz (d.alloc ob) B 180 5 cv es.length (jH es) 1 (kV e) c w6) (f:Below B w0 w) (x:Value):Below B w0 (w6.setCell ⟨sb,0,none⟩ x):=by
 have g:=h.bsize;have i:=a.size;exact (((f.grown a g (fun k b=>by cases b;exact h.yR)).alloc (by omega) ob).grown A.grew (by simp;omega) (fun k b=>(h.cls.lt k b).1)).setCell h.jA _
def jK (w:World) (k:Nat):Prop:=∃ cur t,w.heap[k]? = some (.cells cur t (0,0))/\t ≠ 134/\t ≠ 180/\t ≠ 3
def di (w w':World):Prop:=∀ k,jK w k->w'.heap[k]? = w.heap[k]?
theorem jK.lt {w:World} {k:Nat} (h:jK w k):k < w.heap.size:=by
 obtain ⟨c,t,e,_⟩:=h;exact (Array.getElem?_eq_some_iff.1 e).1
theorem di.refl (w:World):di w w:=fun _ _=>rfl
theorem di.trans {a b c:World} (h:di a b) (k:di b c):di a c:=fun n d=>by
 have e:=h n d;rw [k n (by obtain ⟨x,t,g,f⟩:=d;exact ⟨x,t,by rw [e];exact g,f⟩),e]
theorem di.of_below {w w':World} (h:Below w.heap.size w w'):di w w':=fun k a=>h.block k a.lt
theorem di.cell {w w':World} (h:di w w') {b j:Nat} (c:jK w b):w'.cell? ⟨b,j,none⟩=w.cell? ⟨b,j,none⟩:=World.cell?_of_block (a:=⟨b,j,none⟩) (h b c)
theorem di.rJ {w w':World} (h:di w w') {b:Nat} (a:jK w b):jK w' b:=by
 have e:=h b a;obtain ⟨x,t,d,c⟩:=a;exact ⟨x,t,by rw [e];exact d,c⟩
theorem eG.qL (h:eG B sb w cv mb gone u wv es wl) (j:Nat) (x:Value):di w (w.setCell ⟨sb,j,none⟩ x):=fun k d=>Below.heap_setCell _ _ _ _ (fun e=>by
 obtain ⟨c,b,_⟩:=h.row;obtain ⟨y,t,a,f,_⟩:=d;rw [e,b] at a;cases a;exact f rfl)
theorem eG.qM {d n cap:Nat} (h:eG B sb w (.slice (some ⟨d,0,none⟩) n cap) mb gone u wv es wl) (j:Nat) (x:Value):di w (w.setCell ⟨d,j,none⟩ x):=fun k g=>Below.heap_setCell _ _ _ _ (fun e=>by
 obtain ⟨y,t,c,_,i,_⟩:=g
 rcases h.cls.2 with ⟨b,_⟩ | ⟨m,f,l,b,_,a,_⟩
 ·cases b
 ·cases b;rw [e,a] at c;cases c;exact i rfl)
theorem eG.Kt {w6:World} {ob:Obj} {v':Value} {p at':Nat} (h:eG B sb w cv mb gone u wv es wl) (n:p < 128) (A:dz (w.alloc ob) B 3 1 (wv p) (wl p).length (fq (wl p)) 1 [.int .i64 (at':Int)] v' w6) (x:Value) (j:Nat):
  di w (w6.setCell ⟨sb,j,none⟩ x):=fun k g=>by
 have f:=g.lt;obtain ⟨c,m,_⟩:=h.row;have d:k ≠ sb:=fun e=>by obtain ⟨y,t,b,a,_⟩:=g;rw [e,m] at b;cases b;exact a rfl
 rw [Below.heap_setCell _ _ _ _ d,A.grew.block k (by simp;omega) (fun e=>?_),Below.heap_alloc w ob k f];obtain ⟨y,t,b,_,_,o⟩:=g
 rcases (h.mr p n).2 with ⟨a,_⟩ | ⟨r,l,q,a,_,i,_⟩
 ·rw [a] at e;cases e
 ·rw [a] at e;cases e;rw [i] at b;cases b;exact o rfl
theorem eG.TD {g w6:World} {ob:Obj} {n:Value} {e:dH} (h:eG B sb w cv mb gone u wv es wl) (b:w.grownBy g (some mb))
  (A:dz (g.alloc ob) B 180 5 cv es.length (jH es) 1 (kV e) n w6) (x:Value):di w (w6.setCell ⟨sb,0,none⟩ x):=fun k f=>by
 have l:=f.lt;have p:=b.size;obtain ⟨c,q,_⟩:=h.row;have i:k ≠ sb:=fun e=>by obtain ⟨y,t,a,d,_⟩:=f;rw [e,q] at a;cases a;exact d rfl
 have j:k ≠ mb:=fun e=>by obtain ⟨y,t,a,_⟩:=f;rw [e] at a;exact h.map.gP a
 rw [Below.heap_setCell _ _ _ _ i,A.grew.block k (by simp;omega) (fun e=>?_),Below.heap_alloc g ob k (by omega),b.block k l (fun e=>j (Option.some.inj e))];obtain ⟨y,t,a,_,r,_⟩:=f
 rcases h.cls.2 with ⟨d,_⟩ | ⟨v,o,s,d,_,m,_⟩
 ·rw [d] at e;cases e
 ·rw [d] at e;cases e;rw [m] at a;cases a;exact r rfl
theorem lQ (w:World) (c:Array Value) (t:TypeId) (h:t ≠ 134/\t ≠ 180/\t ≠ 3):jK (w.alloc (.cells c t)) w.heap.size:=⟨c,t,heap_alloc_new _ _,h⟩
theorem eG.uU {a n cap:Nat} (h:eG B sb w (.slice (some ⟨a,0,none⟩) n cap) mb gone u wv es wl) (j i:Nat) (x y:Value):di w ((w.setCell ⟨a,j,none⟩ x).setCell ⟨a,i,none⟩ y):=fun k l=>by
 have d:k ≠ a:=fun e=>by
  obtain ⟨y,t,f,_,m,_⟩:=l
  rcases h.cls.2 with ⟨c,_⟩ | ⟨p,g,o,c,_,b,_⟩
  ·cases c
  ·cases c;rw [e,b] at f;cases f;exact m rfl
 rw [Below.heap_setCell _ _ _ _ d,Below.heap_setCell _ _ _ _ d]
def iB (cv cv':Value) (w w':World):Prop:=∀ k cur,w.heap[k]? = some (.cells cur 180 (0,0))->cv.ownBlock ≠ some k->w'.heap[k]? = w.heap[k]? /\ cv'.ownBlock ≠ some k
theorem iB.trans {j i g:Value} {a b c:World} (h:iB j i a b) (k:iB i g b c):iB j g a c:=fun n d e l=>by
 obtain ⟨f,p⟩:=h n d e l;obtain ⟨o,m⟩:=k n d (by rw [f];exact e) p;exact ⟨o.trans f,m⟩
theorem iB.of_below {cv:Value} {w w':World} (h:Below w.heap.size w w'):iB cv cv w w':=fun k c b a=>⟨h.block k (Array.getElem?_eq_some_iff.1 b).1,a⟩
theorem eG.Ku {a n cap:Nat} (h:eG B sb w (.slice (some ⟨a,0,none⟩) n cap) mb gone u wv es wl) (j d:Nat) (x y:Value):iB (.slice (some ⟨a,0,none⟩) n cap) (.slice (some ⟨a,0,none⟩) n cap) w ((w.setCell ⟨a,j,none⟩ x).setCell ⟨a,d,none⟩ y):=fun k f g c=>by
 have b:k ≠ a:=fun e=>c (by rw [e];rfl)
 rw [Below.heap_setCell _ _ _ _ b,Below.heap_setCell _ _ _ _ b];exact ⟨rfl,c⟩
theorem eG.Kv {w6:World} {ob:Obj} {v':Value} {p at':Nat} (h:eG B sb w cv mb gone u wv es wl) (n:p < 128) (A:dz (w.alloc ob) B 3 1 (wv p) (wl p).length (fq (wl p)) 1 [.int .i64 (at':Int)] v' w6) (x:Value) (j:Nat):
  iB cv cv w (w6.setCell ⟨sb,j,none⟩ x):=fun k i a o=>by
 have d:=(Array.getElem?_eq_some_iff.1 a).1;obtain ⟨c,m,_⟩:=h.row;have b:k ≠ sb:=fun e=>by rw [e,m] at a;cases a
 refine ⟨?_,o⟩;rw [Below.heap_setCell _ _ _ _ b,A.grew.block k (by simp;omega) (fun e=>?_),Below.heap_alloc w ob k d]
 rcases (h.mr p n).2 with ⟨g,_⟩ | ⟨q,l,i,g,_,f,_⟩
 ·rw [g] at e;cases e
 ·rw [g] at e;cases e;rw [f] at a;cases a
theorem eG.QJ {f w6:World} {ob:Obj} {d:Value} {e:dH} (h:eG B sb w cv mb gone u wv es wl) (b:w.grownBy f (some mb))
  (A:dz (f.alloc ob) B 180 5 cv es.length (jH es) 1 (kV e) d w6) (x:Value):iB cv d w (w6.setCell ⟨sb,0,none⟩ x):=fun k p a m=>by
 have j:=(Array.getElem?_eq_some_iff.1 a).1;have n:=b.size;obtain ⟨c,o,_⟩:=h.row;have g:k ≠ sb:=fun e=>by rw [e,o] at a;cases a
 have i:k ≠ mb:=fun e=>by rw [e] at a;exact h.map.gP a
 refine ⟨?_,fun e=>?_⟩
 ·rw [Below.heap_setCell _ _ _ _ g,A.grew.block k (by simp;omega) (fun e=>m (by first | exact e | exact e.symm)),Below.heap_alloc f ob k (by omega),b.block k j (fun e=>i (Option.some.inj e))]
 ·rcases A.at' with l | l
  ·rw [l] at e;exact m e
  ·rw [l] at e;have:=Option.some.inj e;simp at this;omega
end
end
end Rd
end Go.Proofs.YtceahffmenbibaaGreatDoor
