/- Cbits Cmark Capp Cref5 Sfam Schg Ssol Slog Slit Srd Scl. -/
import Derived.Test.YtceahffmenbibaaGreatDoorJ00
import Derived.Lib.TrailingZeros
import Derived.Maps.AppendAt
import Derived.Laws.AppendOwnNone
import Derived.Deep.AppendLies
import Derived.Outline
import Derived.Deep.RegionHeld3
import Derived.Deep.RegionWith
import Derived.Deep.OwnRows
import Derived.BigQuiet
set_option linter.unusedVariables false
set_option linter.unusedSimpArgs false
set_option maxHeartbeats 1000000
namespace Go.Proofs.YtceahffmenbibaaGreatDoor
namespace Rd
abbrev Key:Type:=Nat × Nat
def wide:Nat:=18446744073709551616
def Key.ok (s:Key):Prop:=s.1 < wide/\s.2 < wide
def dV (l:Int):Prop:=(1 <= l/\l <= 64)\/(-64 <= l/\l <= -1)
def Key.has (s:Key) (l:Int):Bool:=if 0 < l then s.1.testBit (l.toNat - 1) else if l < 0 then s.2.testBit ((-l).toNat - 1) else false
def andNot (a b:Nat):Nat:=a ^^^ (a &&& b)
def Key.un (s t:Key):Key:=(s.1 ||| t.1,s.2 ||| t.2)
def Key.wo (s t:Key):Key:=(andNot s.1 t.1,andNot s.2 t.2)
def Key.op (s:Key):Key:=(s.2,s.1)
def single (l:Int):Key:=if l < 0 then (0,2 ^ ((-l).toNat - 1)) else (2 ^ (l.toNat - 1),0)
def Key.one (s:Key):Key:=if s.1 ≠ 0 then (2 ^ Lib.ctz 64 s.1,0) else (0,2 ^ Lib.ctz 64 s.2)
def Key.gI (s:Key):Int:=if s.1 ≠ 0 then (Lib.ctz 64 s.1:Int) + 1 else -((Lib.ctz 64 s.2:Int) + 1)
def place (l:Int):Nat:=if 0 < l then l.toNat - 1 else 64 + ((-l).toNat - 1)
def setOf (c:List Int):Key:=c.foldl (fun s l=>s.un (single l)) (0,0)
theorem sV {x i:Nat} (h:x < wide) (c:x.testBit i=true):i < 64:=by
 rcases Nat.lt_or_ge i 64 with b | b
 ·exact b
 ·have:x < 2 ^ i:=Nat.lt_of_lt_of_le (show x < 2 ^ 64 from h) (Nat.pow_le_pow_right (by decide) b);rw [Nat.testBit_lt_two_pow this] at c;cases c
theorem Key.Jc {s:Key} (h:s.ok) {l:Int} (b:s.has l=true):dV l:=by
 unfold Key.has at b;split at b
 ·have:=sV h.1 b;left;omega
 ·split at b
  ·have:=sV h.2 b;right;omega
  ·cases b
theorem fP (s:Key) (i:Nat):s.has ((i:Int) + 1)=s.1.testBit i:=by
 unfold Key.has;rw [if_pos (by omega)];congr 1
theorem fQ (s:Key) (i:Nat):s.has (-((i:Int) + 1))=s.2.testBit i:=by
 unfold Key.has;rw [if_neg (by omega),if_pos (by omega)];congr 1
theorem gT (l:Int):l=0\/(∃ i:Nat,l=(i:Int) + 1)\/∃ i:Nat,l=-((i:Int) + 1):=by
 rcases Int.lt_trichotomy l 0 with h | h | h
 ·right;right;exact ⟨(-l - 1).toNat,by omega⟩
 ·left;exact h
 ·right;left;exact ⟨(l - 1).toNat,by omega⟩
theorem jf (s:Key):s.has 0=false:=by unfold Key.has;simp
theorem kz {s t:Key} (h:∀ l,s.has l=t.has l):s=t:=by
 obtain ⟨e,d⟩:=s;obtain ⟨c,b⟩:=t
 congr 1
 ·exact Nat.eq_of_testBit_eq fun i=>by have:=h ((i:Int) + 1);rwa [fP,fP] at this
 ·exact Nat.eq_of_testBit_eq fun i=>by have:=h (-((i:Int) + 1));rwa [fQ,fQ] at this
theorem mO (a b i:Nat):(andNot a b).testBit i=(a.testBit i && !b.testBit i):=by
 unfold andNot;rw [Nat.testBit_xor,Nat.testBit_and];cases a.testBit i <;> cases b.testBit i <;> rfl
theorem dE (s t:Key) (l:Int):(s.un t).has l=(s.has l || t.has l):=by
 rcases gT l with rfl | ⟨i,rfl⟩ | ⟨i,rfl⟩
 ·simp [jf]
 ·simp [fP,Key.un,Nat.testBit_or]
 ·simp only [fQ,Key.un,Nat.testBit_or]
theorem jN (s t:Key) (l:Int):(s.wo t).has l=(s.has l && !t.has l):=by
 rcases gT l with rfl | ⟨i,rfl⟩ | ⟨i,rfl⟩
 ·simp [jf]
 ·simp only [fP,Key.wo,mO]
 ·simp only [fQ,Key.wo,mO]
theorem CF (s:Key) (l:Int):s.op.has l=s.has (-l):=by
 rcases gT l with rfl | ⟨i,rfl⟩ | ⟨i,rfl⟩
 ·simp [jf]
 ·rw [fP,fQ];rfl
 ·rw [fQ,Int.neg_neg,fP];rfl
theorem ek (l:Int):Key.has (0,0) l=false:=by
 rcases gT l with rfl | ⟨i,rfl⟩ | ⟨i,rfl⟩
 ·simp [jf]
 ·rw [fP];simp
 ·rw [fQ];simp
theorem df {l:Int} (b:l ≠ 0) (x:Int):(single l).has x=decide (x=l):=by
 rcases gT l with rfl | ⟨i,rfl⟩ | ⟨i,rfl⟩
 ·exact absurd rfl b
 ·have e:single ((i:Int) + 1)=(2 ^ i,0):=by unfold single;rw [if_neg (by omega)];congr 2
  rw [e]
  rcases gT x with rfl | ⟨j,rfl⟩ | ⟨j,rfl⟩
  ·rw [jf];symm;simp;omega
  ·rw [fP,Nat.testBit_two_pow];simp;omega
  ·rw [fQ];simp;omega
 ·have e:single (-((i:Int) + 1))=(0,2 ^ i):=by unfold single;rw [if_pos (by omega)];congr 2
  rw [e]
  rcases gT x with rfl | ⟨j,rfl⟩ | ⟨j,rfl⟩
  ·rw [jf];symm;simp;omega
  ·rw [fP];simp;omega
  ·rw [fQ,Nat.testBit_two_pow];simp;omega
theorem qm {s t:Key} (c:s.ok) (b:t.ok):(s.un t).ok:=
 ⟨show _ < 2 ^ 64 from Nat.or_lt_two_pow c.1 b.1,show _ < 2 ^ 64 from Nat.or_lt_two_pow c.2 b.2⟩
theorem vD {a b:Nat} (h:a < wide):andNot a b < wide:=by
 show _ < 2 ^ 64
 exact Nat.xor_lt_two_pow h (Nat.lt_of_le_of_lt Nat.and_le_left h)
theorem qi {s:Key} (b:s.ok) (t:Key):(s.wo t).ok:=⟨vD b.1,vD b.2⟩
theorem IM {s:Key} (b:s.ok):s.op.ok:=⟨b.2,b.1⟩
theorem kG:Key.ok (0,0):=⟨by decide,by decide⟩
theorem fE {l:Int} (h:dV l):(single l).ok:=by
 unfold single
 rcases h with h | h
 ·rw [if_neg (by omega)];exact ⟨show _ < 2 ^ 64 from Nat.pow_lt_pow_right (by decide) (by omega),show 0 < wide by decide⟩
 ·rw [if_pos (by omega)];exact ⟨show 0 < wide by decide,show _ < 2 ^ 64 from Nat.pow_lt_pow_right (by decide) (by omega)⟩
theorem yl (c:List Int) (b:∀ l ∈ c,l ≠ 0):∀ (s:Key) (x:Int),(c.foldl (fun s l=>s.un (single l)) s).has x=(s.has x || decide (x ∈ c)):=by
 induction c with
 | nil=>intro s x;simp
 | cons a r ih=>
  intro s x;rw [List.foldl_cons,ih (fun l d=>b l (List.mem_cons_of_mem _ d)),dE,df (b a (List.mem_cons_self ..)),Bool.or_assoc]
  congr 1
  by_cases e:x=a <;> simp [e]
theorem has_setOf {c:List Int} (b:∀ l ∈ c,l ≠ 0) (x:Int):(setOf c).has x=decide (x ∈ c):=by
 unfold setOf;rw [yl c b,ek];simp
theorem zu (c:List Int) (h:∀ l ∈ c,dV l):∀ (s:Key),s.ok->(c.foldl (fun s l=>s.un (single l)) s).ok:=by
 induction c with
 | nil=>intro s b;exact b
 | cons a r ih=>intro s b;exact ih (fun l d=>h l (List.mem_cons_of_mem _ d)) _ (qm b (fE (h a (List.mem_cons_self ..))))
theorem xC {c:List Int} (h:∀ l ∈ c,dV l):(setOf c).ok:=zu c h _ kG
theorem setOf_snoc (c:List Int) (l:Int):setOf (c ++ [l])=(setOf c).un (single l):=by unfold setOf;rw [List.foldl_append];rfl
theorem dw {l:Int} (h:dV l):l ≠ 0:=by rcases h with h | h <;> omega
theorem AR {l:Int} (h:dV l):dV (-l):=by
 rcases h with h | h
 ·right;omega
 ·left;omega
theorem Be (s:Key):(s.1 ||| s.2=0)↔s=(0,0):=by
 obtain ⟨a,b⟩:=s;constructor
 ·intro h
  have c:(a ||| b)=0:=h;have e:a=0:=Nat.eq_of_testBit_eq fun i=>by have:=congrArg (Nat.testBit · i) c;simp only [Nat.testBit_or,Nat.zero_testBit,Bool.or_eq_false_iff] at this;simp [this.1]
  have d:b=0:=Nat.eq_of_testBit_eq fun i=>by have:=congrArg (Nat.testBit · i) c;simp only [Nat.testBit_or,Nat.zero_testBit,Bool.or_eq_false_iff] at this;simp [this.2]
  rw [e,d]
 ·intro h;cases h;rfl
theorem nM {x:Nat}:x ≠ 0↔∃ i,x.testBit i=true:=⟨Nat.exists_testBit_of_ne_zero,fun ⟨i,h⟩ e=>by rw [e] at h;simp at h⟩
theorem jq (s:Key):s ≠ (0,0)↔∃ l,s.has l=true:=by
 constructor
 ·intro h
  rcases Classical.em (∃ l,s.has l=true) with b | b
  ·exact b
  ·exact absurd (kz fun l=>by rw [ek];cases e:s.has l with | false=>rfl | true=>exact absurd ⟨l,e⟩ b) h
 ·rintro ⟨l,c⟩ rfl;rw [ek] at c;cases c
theorem Kh (s t:Key):((s.1 &&& t.1) ||| (s.2 &&& t.2) ≠ 0)↔∃ l,s.has l=true/\t.has l=true:=by
 have e:∀ l,Key.has (s.1 &&& t.1,s.2 &&& t.2) l=(s.has l && t.has l):=fun l=>by
  rcases gT l with rfl | ⟨i,rfl⟩ | ⟨i,rfl⟩
  ·simp [jf]
  ·simp only [fP,Nat.testBit_and]
  ·simp only [fQ,Nat.testBit_and]
 have c:=Be (s.1 &&& t.1,s.2 &&& t.2);have b:=jq (s.1 &&& t.1,s.2 &&& t.2);simp only [e,Bool.and_eq_true] at b;rw [<- b];exact not_congr c
theorem KO (s:Key):(s.1 &&& s.2 ≠ 0)↔∃ l,s.has l=true/\s.has (-l)=true:=by
 rw [nM];constructor
 ·rintro ⟨i,d⟩;rw [Nat.testBit_and,Bool.and_eq_true] at d;exact ⟨(i:Int) + 1,by rw [fP];exact d.1,by rw [fQ];exact d.2⟩
 ·rintro ⟨l,b,c⟩
  rcases gT l with rfl | ⟨i,rfl⟩ | ⟨i,rfl⟩
  ·rw [jf] at b;cases b
  ·rw [fP] at b;rw [fQ] at c;exact ⟨i,by rw [Nat.testBit_and,b,c];rfl⟩
  ·rw [fQ] at b;rw [Int.neg_neg,fP] at c;exact ⟨i,by rw [Nat.testBit_and,b,c];rfl⟩
theorem Cs {x:Nat} (d:x ≠ 0) (h:x < wide):x.testBit (Lib.ctz 64 x)=true/\Lib.ctz 64 x < 64:=by
 obtain ⟨c,b⟩:=Lib.lowest_bit 64 x d h;refine ⟨?_,b⟩;have:=congrArg (Nat.testBit · (Lib.ctz 64 x)) c;simp only [Nat.testBit_and,Nat.testBit_two_pow_self,Bool.and_eq_true] at this;exact this.1
theorem mE {s:Key} (i:s.ok) (h:s ≠ (0,0)):s.one=single s.gI/\s.has s.gI=true/\dV s.gI:=by
 unfold Key.one Key.gI;by_cases c:s.1 ≠ 0
 ·rw [if_pos c,if_pos c];obtain ⟨d,j⟩:=Cs c i.1;refine ⟨?_,by rw [fP];exact d,.inl (by omega)⟩;unfold single;rw [if_neg (by omega)];congr 2
 ·rw [if_neg c,if_neg c];have k:s.2 ≠ 0:=by
   intro e;apply h;obtain ⟨a,b⟩:=s;simp only [ne_eq,Decidable.not_not] at c;simp only at e c;rw [c,e]
  obtain ⟨d,j⟩:=Cs k i.2;refine ⟨?_,by rw [fQ];exact d,.inr (by omega)⟩;unfold single;rw [if_pos (by omega)];congr 2
theorem gz {l:Int} (h:dV l):place l < 128:=by unfold place;rcases h with h | h <;> split <;> omega
theorem jS {l b:Int} (h:dV l) (c:dV b) (e:place l=place b):l=b:=by
 unfold place at e
 rcases h with h | h <;> rcases c with c | c <;> (split at e <;> split at e <;> omega)
section
open Go Go.RowKit Go.Deep
theorem lq {l:Int} (h:gH l):l ≠ 0:=by rcases h with h | h <;> omega
theorem kE {l:Int} (h:gH l):dV l:=by
 rcases h with h | h
 ·left;omega
 ·right;omega
theorem Bj {α:Type} {p q:α->Bool}:∀ {l:List α},(∀ x ∈ l,p x=true->q x=true)->(∃ x ∈ l,q x=true/\p x=false)->l.countP p < l.countP q
 | [],_,⟨x,b,_⟩=>by simp at b
 | a :: l,h,⟨x,b,h1,h2⟩=>by
  have i:l.countP p <= l.countP q:=List.countP_mono_left fun y c d=>h y (List.mem_cons_of_mem _ c) d
  rcases List.mem_cons.1 b with rfl | b
  ·rw [List.countP_cons_of_neg (by simp [h2]),List.countP_cons_of_pos h1];omega
  ·have e:=Bj (l:=l) (fun y c=>h y (List.mem_cons_of_mem _ c)) ⟨x,b,h1,h2⟩;have j:=h a (List.mem_cons_self ..);rw [List.countP_cons,List.countP_cons]
   cases d:p a with
   | true=>rw [j d];simp;exact e
   | false=>simp;omega
end
section
open Go
section
def Src (w:World) (y:Value) (m:Nat) (news:List Value):Prop:=
 (y=.slice none 0 0/\m=0/\news=[])\/∃ ad c,y=.slice (some ad) m c/\∀ j u,news[j]? = some u->w.cell? (ad.add j)=some u
structure dz (w:World) (base e size:Nat) (v:Value) (n:Nat) (xs:List Value) (m:Nat) (news:List Value) (v':Value) (w':World):Prop where
 own:w'.ownsRow base e size v' (n + m) (xs ++ news)
 grew:w.grownBy w' v.ownBlock
 at':v'.ownBlock=v.ownBlock\/v'.ownBlock=some w.heap.size
section
variable {P:Program}
theorem xE (w:World) (t q b e:Nat) (i:TypeInfo) (z:Value) (size bytes:Nat) (D:P.underlying t=some (.slice e)) (E:P.info? e=some i) (F:i.zero=some z)
  (j:i.size=size) (A:i.bytes=bytes) (r:z.cells.size=size) (s:0 < size) (v:Value) (n:Nat) (l:List Value) (d:w.ownsRow b e size v n l)
  (y:Value) (m:Nat) (news:List Value) (G:Src w y m news) (I:news.length=m * size) (O:∀ u ∈ news,u.oneCell'=true)
  (C:n + m <= maxLen) (h:(n + m) * bytes <= 140737488355328) (k:b <= w.heap.size):
  ∃ p w',(Builtin.append_ #[t,t] q #[v,y]).run P w=.ok p w'/\dz w b e size v n l m news p w':=by
 rcases G with ⟨rfl,rfl,rfl⟩ | ⟨Q,c,rfl,J⟩
 ·exact ⟨v,w,run_append_owned_none (P:=P) (w:=w) b t q e i size D E v n l d,by simpa using d,⟨rfl,rfl,rfl,lr,fun _ _ _=>rfl⟩,.inl rfl⟩
 ·obtain ⟨p,w',H,N,M,_,L⟩:=run_append_own_at (P:=P) w b t q e i z size bytes D E F j A r s v n l d Q m c news I J O C h k;exact ⟨p,w',H,N,M,L⟩
theorem rT (w:World) {o:Oper} {a:Act} {K:Act->World->Prop} {Q:Exit->Act->World->Prop} (s x:Operand) (t:TypeId)
  (J:o.op=.call { callee:=.builtin .append,args:=#[s,x],argTypes:=#[t,t] })
  (b e:Nat) (i:TypeInfo) (z:Value) (size bytes:Nat) (G:P.underlying t=some (.slice e)) (M:P.info? e=some i) (D:i.zero=some z)
  (d:i.size=size) (A:i.bytes=bytes) (q:z.cells.size=size) (r:0 < size) (v:Value) (n:Nat) (p:List Value) (H:a.eval s=v) (k:w.ownsRow b e size v n p)
  (y:Value) (m:Nat) (news:List Value) (F:a.eval x=y) (E:Src w y m news) (L:news.length=m * size) (O:∀ u ∈ news,u.oneCell'=true)
  (C:n + m <= maxLen) (c:(n + m) * bytes <= 140737488355328) (j:b <= w.heap.size)
  (h:∀ l w',dz w b e size v n p m news l w'->K (a.put o.dst l) w'):o.wp P a w K Q:=by
 obtain ⟨l,w',I,N⟩:=xE (P:=P) w t o.type b e i z size bytes G M D d A q r v n p k y m news E L O C c j;unfold Oper.wp execOp;simp only [J,resolve,invoke,builtin,Sem.run_bind,Sem.run_pure,Result.andThen_ok,List.map_toArray,List.map_cons,List.map_nil,H,F,I];exact h l w' N
theorem dF (w:World) {k:Array Oper} {rest:List Oper} {o:Oper} {a:Act} {Q:Exit->Act->World->Prop} (C:o.guard=none) (s x:Operand) (t:TypeId)
  (L:o.op=.call { callee:=.builtin .append,args:=#[s,x],argTypes:=#[t,t] })
  (b e:Nat) (i:TypeInfo) (z:Value) (size bytes:Nat) (I:P.underlying t=some (.slice e)) (N:P.info? e=some i) (F:i.zero=some z)
  (d:i.size=size) (D:i.bytes=bytes) (r:z.cells.size=size) (A:0 < size) (v:Value) (n:Nat) (q:List Value) (J:a.eval s=v) (l:w.ownsRow b e size v n q)
  (y:Value) (m:Nat) (news:List Value) (H:a.eval x=y) (G:Src w y m news) (M:news.length=m * size) (S:∀ u ∈ news,u.oneCell'=true)
  (E:n + m <= maxLen) (c:(n + m) * bytes <= 140737488355328) (j:b <= w.heap.size)
  (h:∀ p w',dz w b e size v n q m news p w'->wpList P k Q rest (a.put o.dst p) w'):wpList P k Q (o :: rest) a w:=
 wpList_plain C fun _ O=>rT w s x t L b e i z size bytes I N F d D r A v n q J l y m news H G M S E c j fun p w' R=>O _ _ (h p w' R)
theorem iQ (w:World) {k:Array Oper} {o:Oper} {a:Act} {K:Act->World->Prop} {Q:Exit->Act->World->Prop} {E:Prop} (A:o.guard=none) (s x:Operand) (t:TypeId)
  (N:o.op=.call { callee:=.builtin .append,args:=#[s,x],argTypes:=#[t,t] })
  (b e:Nat) (i:TypeInfo) (z:Value) (size bytes:Nat) (L:P.underlying t=some (.slice e)) (R:P.info? e=some i) (G:i.zero=some z)
  (d:i.size=size) (C:i.bytes=bytes) (q:z.cells.size=size) (r:0 < size) (v:Value) (n:Nat) (p:List Value) (M:a.eval s=v) (l:w.ownsRow b e size v n p)
  (y:Value) (m:Nat) (news:List Value) (I:a.eval x=y) (H:Src w y m news) (O:news.length=m * size) (S:∀ u ∈ news,u.oneCell'=true)
  (D:n + m <= maxLen) (c:(n + m) * bytes <= 140737488355328) (j:b <= w.heap.size)
  (h:∀ F w',dz w b e size v n p m news F w'->K (a.put o.dst F) w'):
  if Region.wanted o (yielded k a.tmps)=true then Oper.wp P o a w K Q else E:=by
 have J:Region.wanted o (yielded k a.tmps)=true:=by simp [Region.wanted,A]
 rw [if_pos J];exact rT w s x t N b e i z size bytes L R G d C q r v n p M l y m news I H O S D c j h
end
end
end
section
open Go Go.RowKit Go.Deep
theorem xK {w w':World} {B e size n:Nat} {v:Value} {c:List Value} (h:w.ownsRow B e size v n c) (b:Below w.heap.size w w'):w'.ownsRow B e size v n c:=by
 have i:w.grownBy w' none:=⟨b.os,b.tape,b.output,b.size,fun k d _=>b.block k d⟩;refine h.kept i ?_
 cases j:v.ownBlock with
 | none=>exact .inl rfl
 | some g=>exact .inr (by simp)
end
end Rd
end Go.Proofs.YtceahffmenbibaaGreatDoor
namespace Go.Proofs.YtceahffmenbibaaGreatDoor
namespace So
section
open Go Go.RowKit Rd
section
structure rQ (B:Nat) (w:World) (K:Nat) (T:Nat->TypeId) (V:Nat->Value) (X:Nat->List Value):Prop where
 own:∀ k,k < K->w.ownsRow B (T k) 1 (V k) (X k).length (X k)
 apart:∀ k k',k < K->k' < K->k ≠ k'->(V k).ownBlock=none\/(V k).ownBlock ≠ (V k').ownBlock
def upd {α:Type} (f:Nat->α) (k:Nat) (a:α):Nat->α:=fun j=>if j=k then a else f j
theorem cK {α:Type} (f:Nat->α) (k:Nat) (a:α):upd f k a k=a:=by unfold upd;rw [if_pos rfl]
theorem cu {α:Type} (f:Nat->α) {k j:Nat} (a:α) (h:j ≠ k):upd f k a j=f j:=by unfold upd;rw [if_neg h]
theorem upd_same {α:Type} (f:Nat->α) (k:Nat):upd f k (f k)=f:=by funext j;unfold upd;split <;> simp_all
variable {B K:Nat} {w w':World} {T:Nat->TypeId} {V:Nat->Value} {X:Nat->List Value}
theorem ownB {e size n:Nat} {v:Value} {d:List Value} (h:w.ownsRow B e size v n d) (k:∀ g,v.ownBlock=some g->w'.heap[g]? = w.heap[g]?):w'.ownsRow B e size v n d:=by
 refine ⟨h.1,?_⟩
 rcases h.2 with l | ⟨g,cap,c,i,b,j,r⟩
 ·exact .inl l
 ·exact .inr ⟨g,cap,c,i,b,by rw [k g (by rw [i];rfl)];exact j,r⟩
theorem rQ.kept (h:rQ B w K T V X) (d:∀ k g,k < K->(V k).ownBlock=some g->w'.heap[g]? = w.heap[g]?):rQ B w' K T V X:=
 ⟨fun k b=>ownB (h.own k b) fun g c=>d k g b c,h.apart⟩
theorem rQ.later (h:rQ B w K T V X) (d:Below w.heap.size w w'):rQ B w' K T V X:=
 h.kept fun k g b c=>d.block g ((h.own k b).lt g c).2
theorem rQ.shape (h:rQ B w K T V X) {k:Nat} (b:k < K):∃ a c,V k=.slice a (X k).length c:=dI (h.own k b)
theorem rQ.block (h:rQ B w K T V X) {k:Nat} (d:k < K) (l:0 < (X k).length):∃ g cap b,V k=.slice (some ⟨g,0,none⟩) (X k).length cap/\B <= g/\w.heap[g]? = some (.cells b (T k) (0,0))/\(X k).length <= cap:=by
 rcases (h.own k d).2 with ⟨e,p⟩ | ⟨g,cap,b,e,j,i,c,_⟩
 ·omega
 ·exact ⟨g,cap,b,e,j,i,c⟩
theorem rQ.cell (h:rQ B w K T V X) {k:Nat} (l:k < K) {g n cap:Nat} (d:V k=.slice (some ⟨g,0,none⟩) n cap) {j:Nat} (p:j < (X k).length):w.cell? ⟨g,j,none⟩=(X k)[j]? /\ w.frozen? ⟨g,j,none⟩=false:=by
 have b:=h.own k l;rw [d] at b;have i:n=(X k).length:=by
  obtain ⟨a,c,e⟩:=dI b;exact (Value.slice.inj e).2.1
 subst i;exact ⟨b.cellAt j (by omega),b.frozenAt j⟩
theorem rQ.set (h:rQ B w K T V X) {k:Nat} (s:k < K) {g n cap:Nat} (q:V k=.slice (some ⟨g,0,none⟩) n cap) (j:Nat) (u:Value):rQ B (w.setCell ⟨g,j,none⟩ u) K T V (upd X k ((X k).set j u)) where
 own:=fun i d=>by
  by_cases e:i=k
  ·subst e;rw [cK,List.length_set];have b:=h.own i d;rw [q] at b ⊢;have r:n=(X i).length:=by
    obtain ⟨a,c,e⟩:=dI b;exact (Value.slice.inj e).2.1
   subst r;exact (b.stored j u).1
  ·rw [cu _ _ e];refine ownsRow_setCell_other (h.own i d) (fun p=>?_) u
   rcases h.apart i k d s e with l | l
   ·rw [l] at p;cases p
   ·exact l (by rw [p,q];rfl)
 apart:=h.apart
theorem rQ.push (h:rQ B w K T V X) {k:Nat} (u:k < K) {v':Value} {w6:World} {m:Nat} {news:List Value} (s:news.length=m) (A:dz w B (T k) 1 (V k) (X k).length (X k) m news v' w6):rQ B w6 K T (upd V k v') (upd X k (X k ++ news)) where
 own:=fun i c=>by
  by_cases e:i=k
  ·subst e;rw [cK,cK,List.length_append,s];exact A.own
  ·rw [cu _ _ e,cu _ _ e];refine (h.own i c).kept A.grew ?_
   rcases h.apart i k c u e with p | p
   ·exact .inl p
   ·exact .inr p
 apart:=fun i j c l b=>by
  by_cases e:i=k
  ·subst e;rw [cK,cu _ _ (fun e=>b e.symm)]
   rcases A.at' with d | d
   ·rw [d];exact h.apart i j c l b
   ·rw [d];refine .inr fun q=>?_
    have:=((h.own j l).lt _ q.symm).2;omega
  ·rw [cu _ _ e];by_cases r:j=k
   ·subst r;rw [cK]
    rcases A.at' with d | d
    ·rw [d];exact h.apart i j c l b
    ·rw [d]
     cases v:(V i).ownBlock with
     | none=>exact .inl rfl
     | some g=>
      refine .inr fun q=>?_
      have:=((h.own i c).lt _ v).2;have:=Option.some.inj q;omega
   ·rw [cu _ _ r];exact h.apart i j c l b
theorem rQ.cut (h:rQ B w K T V X) {k:Nat} (I:k < K) {a:Option Addr} {n cap m:Nat} (s:V k=.slice a n cap) (v:m <= (X k).length):rQ B w K T (upd V k (.slice a m cap)) (upd X k ((X k).take m)) where
 own:=fun i c=>by
  by_cases e:i=k
  ·subst e;rw [cK,cK,List.length_take,Nat.min_eq_left v];have u:=h.own i c;rw [s] at u;refine ⟨by rw [List.length_take,Nat.min_eq_left v];omega,?_⟩
   rcases u.2 with ⟨q,J⟩ | ⟨g,y,r,q,G,F,H,A,D,C⟩
   ·obtain ⟨l,z,d⟩:=Value.slice.inj q;subst l d;have:m=0:=by omega
    subst this;exact .inl ⟨rfl,rfl⟩
   ·obtain ⟨l,z,d⟩:=Value.slice.inj q;subst l d;refine .inr ⟨g,cap,r,rfl,G,F,by omega,A,D,?_⟩;rw [<- C,List.take_take];congr 1;omega
  ·rw [cu _ _ e,cu _ _ e];exact h.own i c
 apart:=fun i j c E p=>by
  have b:∀ x,(upd V k (.slice a m cap) x).ownBlock=(V x).ownBlock:=fun x=>by
   by_cases e:x=k
   ·subst e;rw [cK,s];cases a <;> rfl
   ·rw [cu _ _ e]
  rw [b,b];exact h.apart i j c E p
end
section
structure dD (Z:Nat->Prop) (w w':World):Prop where
 ny:Below 0 w w'
 block:∀ g,g < w.heap.size->¬ Z g->w'.heap[g]? = w.heap[g]?
variable {Z:Nat->Prop} {a w w':World}
theorem dD.size (h:dD Z w w'):w.heap.size <= w'.heap.size:=h.ny.size
theorem dD.refl (w:World):dD Z w w:=⟨bR,fun _ _ _=>rfl⟩
theorem dD.trans (h:dD Z a w) (k:dD Z w w'):dD Z a w':=⟨h.ny.trans k.ny,fun g c b=>(k.block g (Nat.lt_of_lt_of_le c h.size) b).trans (h.block g c b)⟩
theorem dD.drew (h:dD Z a w):dD Z a w.drew:=⟨h.ny.drew,h.block⟩
theorem dD.alloc (h:dD Z a w) (o:Obj):dD Z a (w.alloc o):=h.trans ⟨bR.alloc zl o,fun g b _=>Below.heap_alloc _ _ _ b⟩
theorem dD.setCell (h:dD Z a w) {p:Addr} (c:Z p.block) (u:Value):dD Z a (w.setCell p u):=h.trans ⟨bR.setCell zl u,fun g d b=>Below.heap_setCell _ _ _ _ (fun e=>b (e ▸ c))⟩
theorem dD.grown {row:Option Nat} (h:dD Z a w) (b:w.grownBy w' row) (d:∀ k,row=some k->Z k):dD Z a w':=h.trans ⟨bR.grown b zl (fun _ _=>zl),fun g i c=>b.block g i (fun e=>c (d g e.symm))⟩
theorem dD.of_below (h:Below w.heap.size w w'):dD Z w w':=⟨h.mono zl,fun g b _=>h.block g b⟩
theorem dD.mono {Z':Nat->Prop} (h:dD Z w w') (c:∀ g,g < w.heap.size->Z g->Z' g):dD Z' w w':=⟨h.ny,fun g b d=>h.block g b (fun e=>d (c g b e))⟩
theorem dD.below {B:Nat} (h:dD Z w w') (d:B <= w.heap.size) (b:∀ g,g < B->¬ Z g):Below B w w':=⟨h.ny.os,h.ny.tape,h.ny.output,h.ny.size,fun g c=>h.block g (by omega) (b g c)⟩
end
end
section
open Go Go.RowKit Go.Deep Rd
section
def ni (k:Nat):TypeId:=if k=9 then 43 else if k=10\/k=11 then 4 else if k=12 then 5 else if k=14 then 2 else 3
theorem Rh (k:Nat):ni k ≠ 167:=by unfold ni;split <;> (try split) <;> (try split) <;> (try split) <;> decide
def cellOf:Nat->Nat
 | 0=>2 | 1=>6 | 2=>8 | 3=>9 | 4=>10 | 5=>11 | 6=>13 | 7=>15 | 8=>19 | 9=>5 | 10=>16 | 11=>17 | _=>1
structure dX (Z:Nat->Prop) (sb:Nat) (w:World) (K:Nat) (f V:Nat->Value) (X:Nat->List Value):Prop where
 row:w.rowIs sb 167 22 f
 fG:rQ 0 w K ni V X
 hdr:∀ k,k < 13->f (cellOf k)=V k
 jA:Z sb
 al:∀ k,k < K->∀ g,(V k).ownBlock=some g->Z g
 az:∀ g,w.heap.size <= g->Z g
 hK:16 <= K
variable {Z:Nat->Prop} {sb K:Nat} {w w':World} {f V:Nat->Value} {X:Nat->List Value}
theorem dX.far (h:dX Z sb w K f V X) {k:Nat} (l:k < K):∀ g,(V k).ownBlock=some g->g ≠ sb:=fun g d e=>by
 obtain ⟨c,j,_⟩:=h.row
 rcases (h.fG.own k l).2 with ⟨i,_⟩ | ⟨p,cap,q,i,_,b,_⟩
 ·rw [i] at d;cases d
 ·rw [i] at d;obtain rfl:p=g:=Option.some.inj d;rw [e,j] at b;exact Rh k (Obj.cells.inj (Option.some.inj b)).2.1.symm
theorem dX.later (h:dX Z sb w K f V X) (b:Below w.heap.size w w'):dX Z sb w' K f V X:=
 ⟨h.row.of_block (b.block _ h.row.lt),h.fG.later b,h.hdr,h.jA,h.al,fun g c=>h.az g (Nat.le_trans b.size c),h.hK⟩
theorem dX.head (h:dX Z sb w K f V X) (j:Nat) (b:j < 22):w.cell? ⟨sb,j,none⟩=some (f j)/\w.frozen? ⟨sb,j,none⟩=false:=⟨h.row.cell b,h.row.frozen j⟩
theorem dX.hd (h:dX Z sb w K f V X) {k:Nat} (b:k < 13):w.cell? ⟨sb,cellOf k,none⟩=some (V k)/\w.frozen? ⟨sb,cellOf k,none⟩=false:=by
 have c:cellOf k < 22:=by unfold cellOf;split <;> decide
 have:=h.head _ c;rw [h.hdr k b] at this;exact this
theorem dX.scalar (h:dX Z sb w K f V X) (j:Nat) (u:Value) (d:∀ k,k < 13->cellOf k ≠ j):dX Z sb (w.setCell ⟨sb,j,none⟩ u) K (upd f j u) V X where
 row:=(h.row.set j u).congr fun i e=>by unfold upd;rfl
 fG:=h.fG.kept fun k g b c=>Below.heap_setCell _ _ _ _ (by simpa using h.far b g c)
 hdr:=fun k b=>by rw [cu _ _ (d k b)];exact h.hdr k b
 jA:=h.jA
 al:=h.al
 az:=fun g c=>h.az g (by simpa [World.setCell] using c)
 hK:=h.hK
theorem dX.set (h:dX Z sb w K f V X) {k:Nat} (c:k < K) {g n cap:Nat} (b:V k=.slice (some ⟨g,0,none⟩) n cap) (j:Nat) (u:Value):dX Z sb (w.setCell ⟨g,j,none⟩ u) K f V (upd X k ((X k).set j u)) where
 row:=h.row.of_block (Below.heap_setCell _ _ _ _ (fun e=>h.far c g (by rw [b];rfl) e.symm))
 fG:=h.fG.set c b j u
 hdr:=h.hdr
 jA:=h.jA
 al:=h.al
 az:=fun g d=>h.az g (by simpa [World.setCell] using d)
 hK:=h.hK
theorem Ib:∀ k,k < 13->∀ j,j < 13->cellOf k=cellOf j->k=j:=by decide +kernel
theorem dX.header (h:dX Z sb w K f V X) {k:Nat} (s:k < 13) {l:Nat->Value} {X':Nat->List Value} {w6:World} {v':Value} (b:w6.rowIs sb 167 22 f) (j:rQ 0 w6 K ni l X') (u:l=upd V k v') (d:∀ i,i < K->∀ g,(l i).ownBlock=some g->g ≠ sb) (r:w.heap.size <= w6.heap.size) (q:∀ i,i < K->∀ g,(l i).ownBlock=some g->Z g):
  dX Z sb (w6.setCell ⟨sb,cellOf k,none⟩ v') K (upd f (cellOf k) v') l X' where
 row:=(b.set (cellOf k) v').congr fun i c=>by unfold upd;rfl
 fG:=j.kept fun i g c p=>Below.heap_setCell _ _ _ _ (by simpa using d i c g p)
 hdr:=fun i c=>by
  rw [u];by_cases e:i=k
  ·subst e;rw [cK,cK]
  ·rw [cu _ _ e,cu _ _ (fun v=>e (Ib i c k s v))];exact h.hdr i c
 jA:=h.jA
 al:=q
 az:=fun g p=>h.az g (by simp [World.setCell] at p;omega)
 hK:=h.hK
theorem dX.push (h:dX Z sb w K f V X) {k:Nat} (r:k < 13) {ob:Obj} {v':Value} {w6:World} {m:Nat} {news:List Value} (q:news.length=m) (A:dz (w.alloc ob) 0 (ni k) 1 (V k) (X k).length (X k) m news v' w6):
  dX Z sb (w6.setCell ⟨sb,cellOf k,none⟩ v') K (upd f (cellOf k) v') (upd V k v') (upd X k (X k ++ news)):=by
 have j:k < K:=by have:=h.hK;omega
 have d:=h.later ((Below.refl _ w).alloc lr ob);have p:=d.row.lt;refine h.header r (d.row.of_block (A.grew.block sb p (fun e=>d.far j sb e.symm rfl))) (d.fG.push j q A) rfl (fun i l g b=>?_) (by have:=A.grew.size;simp at this;omega) (fun i l g b=>?_)
 ·by_cases e:i=k
  ·subst e;rw [cK] at b
   rcases A.at' with c | c
   ·rw [c] at b;exact d.far l g b
   ·rw [c] at b;have:=Option.some.inj b;omega
  ·rw [cu _ _ e] at b;exact d.far l g b
 ·by_cases e:i=k
  ·subst e;rw [cK] at b
   rcases A.at' with c | c
   ·rw [c] at b;exact h.al i l g b
   ·rw [c] at b;have:=Option.some.inj b;exact h.az g (by simp at this;omega)
  ·rw [cu _ _ e] at b;exact h.al i l g b
theorem dX.lu (h:dX Z sb w K f V X) {k:Nat} (d:k < K) {ob:Obj} {v':Value} {w6:World} {m:Nat} {news:List Value} (A:dz (w.alloc ob) 0 (ni k) 1 (V k) (X k).length (X k) m news v' w6) (j:Nat) (i:j < 22):w6.cell? ⟨sb,j,none⟩=some (f j)/\w6.frozen? ⟨sb,j,none⟩=false:=by
 have b:=h.later ((Below.refl _ w).alloc lr ob);have c:=b.row.of_block (A.grew.block sb b.row.lt (fun e=>b.far d sb e.symm rfl));exact ⟨c.cell i,c.frozen j⟩
theorem dX.oV (h:dX Z sb w K f V X) {k:Nat} (b:k < K) {ob:Obj} {v':Value} {w6:World} {m:Nat} {news:List Value} (A:dz (w.alloc ob) 0 (ni k) 1 (V k) (X k).length (X k) m news v' w6) (j:Nat) (u:Value):dD Z w (w6.setCell ⟨sb,j,none⟩ u):=
 (((dD.refl w).alloc ob).grown A.grew (fun g c=>h.al k b g c)).setCell h.jA _
theorem dX.elem (h:dX Z sb w K f V X) {k j n:Nat} (p:k < 13) (l:(X k).length=n) (c:j < n):∃ g cap t,V k=.slice (some ⟨g,0,none⟩) n cap/\w.cell? ⟨sb,cellOf k,none⟩=some (.slice (some ⟨g,0,none⟩) n cap)/\w.cell? ⟨g,j,none⟩=some t/\(X k)[j]? = some t/\w.frozen? ⟨g,j,none⟩=false/\Z g/\g < w.heap.size/\g ≠ sb:=by
 have b:k < K:=by have:=h.hK;omega
 subst l;obtain ⟨g,cap,q,e,v,s,u⟩:=h.fG.block b (by omega);obtain ⟨i,r⟩:=h.fG.cell b e c;have d:=(h.hd p).1;rw [e] at d;rw [List.getElem?_eq_getElem c] at i;exact ⟨g,cap,(X k)[j],e,d,i,List.getElem?_eq_getElem c,r,h.al k b g (by rw [e];rfl),((h.fG.own k b).lt g (by rw [e];rfl)).2,h.far b g (by rw [e];rfl)⟩
theorem dX.cut (h:dX Z sb w K f V X) {k:Nat} (q:k < 13) {a:Option Addr} {n cap m:Nat} (l:V k=.slice a n cap) (p:m <= (X k).length):
  dX Z sb (w.setCell ⟨sb,cellOf k,none⟩ (.slice a m cap)) K (upd f (cellOf k) (.slice a m cap)) (upd V k (.slice a m cap)) (upd X k ((X k).take m)):=by
 have d:k < K:=by have:=h.hK;omega
 have c:∀ i g,(upd V k (.slice a m cap) i).ownBlock=some g->(V i).ownBlock=some g:=fun i g b=>by
  by_cases e:i=k
  ·subst e;rw [cK] at b;rw [l];cases a <;> exact b
  ·rw [cu _ _ e] at b;exact b
 exact h.header q h.row (h.fG.cut d l p) rfl (fun i j g b=>h.far j g (c i g b)) lr (fun i j g b=>h.al i j g (c i g b))
end
end
section
open Rd
def wr (x:Nat):Int:=if x % 2=0 then ((x / 2:Nat):Int) + 1 else -(((x / 2:Nat):Int) + 1)
def op (x:Nat):Nat:=if x % 2=0 then x + 1 else x - 1
theorem gq (x:Nat):op x / 2=x / 2:=by unfold op;split <;> omega
theorem jT (x:Nat):op (op x)=x:=by unfold op;split <;> split <;> omega
theorem Dt (x:Nat):wr (op x)=-(wr x):=by
 unfold wr;rw [gq];unfold op;split
 ·rename_i h;rw [if_neg (by omega)]
 ·rename_i h;rw [if_pos (by omega)];omega
theorem RV (x:Nat):wr x ≠ 0:=by unfold wr;split <;> omega
theorem IP (x:Nat):op x ≠ x:=by unfold op;split <;> omega
theorem MI {x y:Nat} (h:op x=op y):x=y:=by rw [<- jT x,h,jT]
theorem qE {x y:Nat} (h:x / 2=y / 2):x=y\/x=op y:=by unfold op;split <;> omega
def There (L:List Cl) (c:List Nat):Prop:=∃ d ∈ L,∀ x:Int,x ∈ d↔∃ y ∈ c,wr y=x
structure Trail (L:List Cl) (tr:List Nat) (rs:Nat->Option (List Nat)):Prop where
 nodup:(tr.map (· / 2)).Nodup
 why:∀ (i:Nat) (h:i < tr.length) c,rs (tr[i] / 2)=some c->∃ r,c=tr[i] :: r/\There L c/\∀ y ∈ r,∃ j,∃ hj:j < tr.length,j < i/\tr[j]=op y
theorem KJ {L:List Cl} {q:List Nat} {Q:Nat->Option (List Nat)} (T:Trail L q Q) {N:Nat->Prop} {cut:List Nat}
  (W:∀ (i:Nat) (h:i < q.length),N (q[i] / 2)->q[i] ∈ cut\/∃ c r,Q (q[i] / 2)=some c/\c=q[i] :: r/\∀ y ∈ r,N (y / 2))
  {M:Int->Prop} (hM:Cons M) (U:∀ l ∈ cut.map wr,M l) (R:Stable L M):∀ (n i:Nat) (h:i < q.length),i <= n->N (q[i] / 2)->M (wr q[i]):=by
 intro n
 induction n with
 | zero=>
  intro i h hi v
  rcases W i h v with C | ⟨c,r,C,A,Y⟩
  ·exact U _ (List.mem_map.2 ⟨_,C,rfl⟩)
  ·obtain ⟨r',e,F,G⟩:=T.why i h c C;rw [A] at e;obtain ⟨_,rfl⟩:=List.cons.inj e
   cases r with
   | nil=>
    obtain ⟨d,hd,p⟩:=F
    rcases R d hd with ⟨l,H,E⟩ | ⟨a,O,b,J,s,_⟩
    ·obtain ⟨y,k,rfl⟩:=(p l).1 H;rw [A] at k;obtain rfl:y=q[i]:=by simpa using k
     exact E
    ·obtain ⟨y,k,rfl⟩:=(p a).1 O;obtain ⟨z,u,rfl⟩:=(p b).1 J;rw [A] at k u;obtain rfl:y=q[i]:=by simpa using k
     obtain rfl:z=q[i]:=by simpa using u
     exact absurd rfl s
   | cons y r=>
    obtain ⟨j,S,I,_⟩:=G y (List.mem_cons_self ..);omega
 | succ n ih=>
  intro i h hi v
  rcases W i h v with C | ⟨c,r,C,A,Y⟩
  ·exact U _ (List.mem_map.2 ⟨_,C,rfl⟩)
  ·obtain ⟨r',e,F,G⟩:=T.why i h c C;rw [A] at e;obtain ⟨_,rfl⟩:=List.cons.inj e;have D:∀ y ∈ r,M (-(wr y)):=fun y k=>by
    obtain ⟨j,S,I,e⟩:=G y k;have:=ih j S (by omega) (by rw [e,gq];exact Y y k);rw [e,Dt] at this;exact this
   obtain ⟨d,hd,p⟩:=F
   rcases R d hd with ⟨l,H,E⟩ | ⟨a,O,b,J,s,n1,n2⟩
   ·obtain ⟨y,k,rfl⟩:=(p l).1 H;rw [A] at k
    rcases List.mem_cons.1 k with rfl | k
    ·exact E
    ·exact absurd (D y k) (fun h=>hM _ E h)
   ·obtain ⟨y,k,rfl⟩:=(p a).1 O;obtain ⟨z,u,rfl⟩:=(p b).1 J;rw [A] at k u
    rcases List.mem_cons.1 k with e1 | k
    ·rcases List.mem_cons.1 u with e2 | u
     ·rw [e1,e2] at s;exact absurd rfl s
     ·exact absurd (D z u) n2
    ·exact absurd (D y k) n1
theorem x9 {L:List Cl} {j:List Nat} {u:Nat->Option (List Nat)} (T:Trail L j u) {N:Nat->Prop} {cut s:List Nat}
  (J:∀ (i:Nat) (h:i < j.length),N (j[i] / 2)->j[i] ∈ cut\/∃ c r,u (j[i] / 2)=some c/\c=j[i] :: r/\∀ y ∈ r,N (y / 2))
  (O:There L s) (F:∀ y ∈ s,op y ∈ j) (C:∀ y ∈ s,N (y / 2)):mq L (cut.map wr):=by
 intro M z G v;have q:∀ y ∈ s,M (-(wr y)):=fun y k=>by
  obtain ⟨i,h,e⟩:=List.mem_iff_getElem.1 (F y k);have:=KJ T J z G v i i h lr (by rw [e,gq];exact C y k);rw [e,Dt] at this;exact this
 obtain ⟨d,hd,p⟩:=O
 rcases v d hd with ⟨l,E,D⟩ | ⟨a,I,b,R,H,A,Q⟩
 ·obtain ⟨y,k,rfl⟩:=(p l).1 E;exact z _ D (q y k)
 ·obtain ⟨y,k,rfl⟩:=(p a).1 I;exact A (q y k)
theorem NS {L:List Cl} {b:List Nat} {d:Nat->Option (List Nat)} (T:Trail L b d) (p:∀ (i:Nat) (h:i < b.length),∃ c,d (b[i] / 2)=some c) {k:List Nat} (q:There L k) (l:∀ y ∈ k,op y ∈ b):mq L []:=by
 have:=x9 (cut:=[]) (N:=fun _=>True) T (fun i h _=>by
  obtain ⟨c,j⟩:=p i h;obtain ⟨r,e,_⟩:=T.why i h c j;exact .inr ⟨c,r,j,e,fun _ _=>trivial⟩) q l (fun _ _=>trivial)
 exact this
end
section
open Go Go.RowKit
theorem fB (x:Nat) (w:World) (b:x <= 1000):Calls Tryz.prog 176 #[.int .i64 x] w fun e w'=>e=.returned (.int .i64 ((x / 2:Nat):Int))/\w'=w:=by
 have hd:Int.tdiv (x:Int) 2=((x / 2:Nat):Int):=by rw [Int.tdiv_eq_ediv_of_nonneg (by omega)];omega
 go_enter Tryz.func176,Tryz.ntmps176
 go_wp2;go_ret
 exact ⟨rfl,rfl⟩
theorem BK (x:Nat) (w:World) (b:x <= 1000):Calls Tryz.prog 215 #[.int .i64 x] w fun e w'=>e=.returned (.bool (decide (x % 2=0)))/\w'=w:=by
 have hd:Int.tmod (x:Int) 2=((x % 2:Nat):Int):=by rw [Int.tmod_eq_emod_of_nonneg (by omega)];omega
 go_enter Tryz.func215,Tryz.ntmps215
 go_wp2;go_ret
 refine ⟨?_,rfl⟩
 congr 2
 rcases Nat.mod_two_eq_zero_or_one x with h | h
 ·simp [h];omega
 ·simp [h];omega
theorem O8:∀ x:Nat,x < 128->Go.bits .xor .i64 (x:Int) 1=((op x:Nat):Int):=by decide +kernel
theorem ko (x:Nat) (w:World) (b:x < 128):Calls Tryz.prog 139 #[.int .i64 x] w fun e w'=>e=.returned (.int .i64 ((op x:Nat):Int))/\w'=w:=by
 have c:=O8 x b;go_enter Tryz.func139,Tryz.ntmps139
 go_wp2;go_ret
 exact ⟨rfl,rfl⟩
def lit (z:Int):Nat:=if z < 0 then 2 * ((-z).toNat - 1) + 1 else 2 * (z.toNat - 1)
theorem Bt {z:Int} (h:z ≠ 0):wr (lit z)=z:=by
 unfold wr lit;split <;> split <;> omega
theorem og (z:Int) (w:World) (c:z ≠ 0) (i:-64 <= z) (d:z <= 64):Calls Tryz.prog 95 #[.int .i64 z] w fun e w'=>e=.returned (.int .i64 ((lit z:Nat):Int))/\w'=w:=by
 by_cases h:z < 0
 ·have b:((lit z:Nat):Int)=2 * (-z - 1) + 1:=by unfold lit;rw [if_pos h];omega
  rw [b];go_enter Tryz.func95,Tryz.ntmps95
  go_wp2;go_ret
  exact ⟨rfl,rfl⟩
 ·have b:((lit z:Nat):Int)=2 * (z - 1):=by unfold lit;rw [if_neg h];omega
  rw [b];go_enter Tryz.func95,Tryz.ntmps95
  go_wp2;go_ret
  exact ⟨rfl,rfl⟩
theorem zq (x:Nat) (w:World) (j:x <= 1000):Calls Tryz.prog 181 #[.int .i64 x] w fun e w'=>e=.returned (.int .i64 (wr x))/\w'=w:=by
 obtain ⟨t,b⟩:∃ t,decide (x % 2=0)=t:=⟨_,rfl⟩;have c:=Rd.hide (fun V=>fB x V j);have d:=Rd.hide (fun V=>BK x V j);rw [b] at d;have hd:(x / 2:Nat) <= 500:=by omega
 have i:Hid (wr x=if t then ((x / 2:Nat):Int) + 1 else -(((x / 2:Nat):Int) + 1)):=by
  unfold Hid wr;subst b;by_cases h:x % 2=0 <;> simp [h]
 generalize x / 2=v at c hd i;clear b;go_enter Tryz.func181,Tryz.ntmps181
 cases t with
 | true=>
  go_wp2_with (first | (go_at_call 176;refine (Rd.jd c _).mono ?_;rintro e w' ⟨rfl,rfl⟩) | (go_at_call 215;refine (Rd.jd d _).mono ?_;rintro e w' ⟨rfl,rfl⟩))
  go_ret
  exact ⟨by rw [Rd.jd i];rfl,rfl⟩
 | false=>
  go_wp2_with (first | (go_at_call 176;refine (Rd.jd c _).mono ?_;rintro e w' ⟨rfl,rfl⟩) | (go_at_call 215;refine (Rd.jd d _).mono ?_;rintro e w' ⟨rfl,rfl⟩))
  go_ret
  exact ⟨by rw [Rd.jd i];rfl,rfl⟩
section
variable (sb o g n cap x:Nat) (t:Int) (w:World)
theorem yh (i:w.cell? ⟨sb,o + 3,none⟩=some (.slice (some ⟨g,0,none⟩) n cap)) (d:x < n) (h:w.cell? ⟨g,x,none⟩=some (.int .i64 t)):
  Calls Tryz.prog 103 #[.pointer (some ⟨sb,o,none⟩),.int .i64 x] w fun e w'=>e=.returned (.bool (decide (0 < t)))/\w'=w:=by
 have c:(0:Int) <= (x:Int):=by omega
 have b:(x:Int) < (n:Int):=by omega
 go_enter Tryz.func103,Tryz.ntmps103
 go_wp2;go_ret
 exact ⟨rfl,rfl⟩
theorem qN (i:w.cell? ⟨sb,o + 3,none⟩=some (.slice (some ⟨g,0,none⟩) n cap)) (d:x < n) (h:w.cell? ⟨g,x,none⟩=some (.int .i64 t)):
  Calls Tryz.prog 134 #[.pointer (some ⟨sb,o,none⟩),.int .i64 x] w fun e w'=>e=.returned (.bool (decide (t < 0)))/\w'=w:=by
 have c:(0:Int) <= (x:Int):=by omega
 have b:(x:Int) < (n:Int):=by omega
 go_enter Tryz.func134,Tryz.ntmps134
 go_wp2;go_ret
 exact ⟨rfl,rfl⟩
theorem sJ (i:w.cell? ⟨sb,o + 3,none⟩=some (.slice (some ⟨g,0,none⟩) n cap)) (d:x < n) (h:w.cell? ⟨g,x,none⟩=some (.int .i64 t)):
  Calls Tryz.prog 135 #[.pointer (some ⟨sb,o,none⟩),.int .i64 x] w fun e w'=>e=.returned (.bool (t == 0))/\w'=w:=by
 have c:(0:Int) <= (x:Int):=by omega
 have b:(x:Int) < (n:Int):=by omega
 go_enter Tryz.func135,Tryz.ntmps135
 go_wp2;go_ret
 exact ⟨rfl,rfl⟩
theorem mH (a:Option Addr) (b:w.cell? ⟨sb,o + 2,none⟩=some (.slice a n cap)):
  Calls Tryz.prog 99 #[.pointer (some ⟨sb,o,none⟩)] w fun e w'=>e=.returned (.int .i64 n)/\w'=w:=by
 go_enter Tryz.func99,Tryz.ntmps99
 go_wp2;go_ret
 exact ⟨rfl,rfl⟩
theorem lM (j:w.cell? ⟨sb,o,none⟩=some (.slice (some ⟨g,0,none⟩) n cap)) (h:x < n) (b:n <= maxLen) (i:w.cell? ⟨g,x,none⟩=some (.int .i64 t)):
  Calls Tryz.prog 220 #[.pointer (some ⟨sb,o,none⟩),.int .i64 x] w fun e w'=>e=.returned (.int .i64 t)/\w'=w:=by
 unfold maxLen at b;have d:(0:Int) <= (x:Int):=by omega
 have c:(x:Int) < (n:Int):=by omega
 go_enter Tryz.func220,Tryz.ntmps220
 go_wp2;go_ret
 exact ⟨rfl,rfl⟩
end
section
variable (sb o g n cap x m:Nat) (w:World)
theorem Ie (d:w.cell? ⟨sb,o,none⟩=some (.slice (some ⟨g,0,none⟩) n cap)) (i:x + 3 + m <= n) (c:n <= maxLen) (b:w.cell? ⟨g,x,none⟩=some (.int .i64 m)):
  Calls Tryz.prog 213 #[.pointer (some ⟨sb,o,none⟩),.int .i64 x] w fun e w'=>e=.returned (.int .i64 ((x + 3 + m:Nat):Int))/\w'=w:=by
 have h:=Rd.hide (fun (V:World) (hV:V.cell? ⟨sb,o,none⟩=some (.slice (some ⟨g,0,none⟩) n cap)) (b:V.cell? ⟨g,x,none⟩=some (.int .i64 m))=>lM sb o g n cap x m V hV (by omega) c b);unfold maxLen at c;have e:Hid (((x + 3 + m:Nat):Int)=(x:Int) + 3 + m):=by unfold Hid;omega
 go_enter Tryz.func213,Tryz.ntmps213
 go_wp2_with (go_at_call 220;refine (Rd.jd h _ d b).mono ?_;rintro e w' ⟨rfl,rfl⟩)
 go_ret
 refine ⟨?_,rfl⟩;rw [Rd.jd e];rfl
def jM (g x m cap:Nat):Value:=.slice (if cap=x + 3 then some ⟨g,0,none⟩ else some ⟨g,x + 3,none⟩) m (cap - (x + 3))
theorem ky (i:w.cell? ⟨sb,o,none⟩=some (.slice (some ⟨g,0,none⟩) n cap)) (h:x + 3 + m <= n) (c:n <= maxLen) (d:n <= cap) (b:w.cell? ⟨g,x,none⟩=some (.int .i64 m)):
  Calls Tryz.prog 175 #[.pointer (some ⟨sb,o,none⟩),.int .i64 x] w fun e w'=>e=.returned (jM g x m cap)/\∃ k,w'=w.drewN k:=by
 have j:=Rd.hide (fun (V:World) (hV:V.cell? ⟨sb,o,none⟩=some (.slice (some ⟨g,0,none⟩) n cap)) (b:V.cell? ⟨g,x,none⟩=some (.int .i64 m))=>Ie sb o g n cap x m V hV h c b);unfold maxLen at c;have s:(0:Int) <= (x:Int) + 3:=by omega
 have r:(x:Int) + 3 <= ((x + 3 + m:Nat):Int):=by omega
 have q:((x + 3 + m:Nat):Int) <= (cap:Int):=by omega
 have p:((x:Int) + 3).toNat=x + 3:=by omega
 have l:(((x + 3 + m:Nat):Int)).toNat=x + 3 + m:=by omega
 go_enter Tryz.func175,Tryz.ntmps175
 go_wp2_with fail
 go_quiet ((go_at_call 213;exact Calls.quiet_of_same (Rd.jd j _ i b)))
 go_wp2
 ·go_ret
  exact ⟨by unfold jM;rw [if_pos rfl];simp,_,rfl⟩
 ·go_ret
  refine ⟨?_,_,rfl⟩;unfold jM;rw [if_neg (by assumption)];rfl
end
end
end So
end Go.Proofs.YtceahffmenbibaaGreatDoor
