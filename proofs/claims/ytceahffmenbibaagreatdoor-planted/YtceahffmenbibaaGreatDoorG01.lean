/- Cbits Cmark Capp Cref5 Sfam Schg Ssol Slog Slit Srd Scl. -/
import Derived.Test.YtceahffmenbibaaGreatDoorG00
import Derived.Lib.TrailingZeros
import Derived.Maps.AppendAt
import Derived.Laws.AppendOwnNone
import Derived.Deep.AppendLies
import Derived.Outline
import Derived.Deep.RegionHeld3
import Derived.Deep.RegionWith
import Derived.Deep.OwnRows
import Derived.BigQuiet
set_option linter.unusedVariables false
set_option linter.unusedSimpArgs false
set_option maxHeartbeats 1000000
namespace Go.Proofs.YtceahffmenbibaaGreatDoor
namespace Rd
abbrev Key:Type:=Nat × Nat
def wide:Nat:=18446744073709551616
def Key.ok (s:Key):Prop:=s.1 < wide/\s.2 < wide
def dB (l:Int):Prop:=(1 <= l/\l <= 64)\/(-64 <= l/\l <= -1)
def Key.has (s:Key) (l:Int):Bool:=if 0 < l then s.1.testBit (l.toNat - 1) else if l < 0 then s.2.testBit ((-l).toNat - 1) else false
def andNot (a b:Nat):Nat:=a ^^^ (a &&& b)
def Key.un (s t:Key):Key:=(s.1 ||| t.1,s.2 ||| t.2)
def Key.wo (s t:Key):Key:=(andNot s.1 t.1,andNot s.2 t.2)
def Key.op (s:Key):Key:=(s.2,s.1)
def single (l:Int):Key:=if l < 0 then (0,2 ^ ((-l).toNat - 1)) else (2 ^ (l.toNat - 1),0)
def Key.one (s:Key):Key:=if s.1 ≠ 0 then (2 ^ Lib.ctz 64 s.1,0) else (0,2 ^ Lib.ctz 64 s.2)
def Key.dW (s:Key):Int:=if s.1 ≠ 0 then (Lib.ctz 64 s.1:Int) + 1 else -((Lib.ctz 64 s.2:Int) + 1)
def place (l:Int):Nat:=if 0 < l then l.toNat - 1 else 64 + ((-l).toNat - 1)
def setOf (c:List Int):Key:=c.foldl (fun s l=>s.un (single l)) (0,0)
theorem qN {x i:Nat} (h:x < wide) (hb:x.testBit i=true):i < 64:=by
 rcases Nat.lt_or_ge i 64 with h1 | h1
 ·exact h1
 ·have:x < 2 ^ i:=Nat.lt_of_lt_of_le (show x < 2 ^ 64 from h) (Nat.pow_le_pow_right (by decide) h1)
  rw [Nat.testBit_lt_two_pow this] at hb;cases hb
theorem Key.I5 {s:Key} (h:s.ok) {l:Int} (hl:s.has l=true):dB l:=by
 unfold Key.has at hl;split at hl
 ·have:=qN h.1 hl;left;omega
 ·split at hl
  ·have:=qN h.2 hl;right;omega
  ·cases hl
theorem dD (s:Key) (i:Nat):s.has ((i:Int) + 1)=s.1.testBit i:=by
 unfold Key.has;rw [if_pos (by omega)];congr 1
theorem dE (s:Key) (i:Nat):s.has (-((i:Int) + 1))=s.2.testBit i:=by
 unfold Key.has;rw [if_neg (by omega),if_pos (by omega)];congr 1
theorem eP (l:Int):l=0\/(∃ i:Nat,l=(i:Int) + 1)\/∃ i:Nat,l=-((i:Int) + 1):=by
 rcases Int.lt_trichotomy l 0 with h | h | h
 ·right;right;exact ⟨(-l - 1).toNat,by omega⟩
 ·left;exact h
 ·right;left;exact ⟨(l - 1).toNat,by omega⟩
theorem gI (s:Key):s.has 0=false:=by unfold Key.has;simp
theorem rE {s t:Key} (h:∀ l,s.has l=t.has l):s=t:=by
 obtain ⟨s1,s2⟩:=s;obtain ⟨t1,t2⟩:=t
 congr 1
 ·exact Nat.eq_of_testBit_eq fun i=>by have:=h ((i:Int) + 1);rwa [dD,dD] at this
 ·exact Nat.eq_of_testBit_eq fun i=>by have:=h (-((i:Int) + 1));rwa [dE,dE] at this
theorem jM (a b i:Nat):(andNot a b).testBit i=(a.testBit i && !b.testBit i):=by
 unfold andNot;rw [Nat.testBit_xor,Nat.testBit_and];cases a.testBit i <;> cases b.testBit i <;> rfl
theorem df (s t:Key) (l:Int):(s.un t).has l=(s.has l || t.has l):=by
 rcases eP l with rfl | ⟨i,rfl⟩ | ⟨i,rfl⟩
 ·simp [gI]
 ·simp [dD,Key.un,Nat.testBit_or]
 ·simp only [dE,Key.un,Nat.testBit_or]
theorem mM (s t:Key) (l:Int):(s.wo t).has l=(s.has l && !t.has l):=by
 rcases eP l with rfl | ⟨i,rfl⟩ | ⟨i,rfl⟩
 ·simp [gI]
 ·simp only [dD,Key.wo,jM]
 ·simp only [dE,Key.wo,jM]
theorem OU (s:Key) (l:Int):s.op.has l=s.has (-l):=by
 rcases eP l with rfl | ⟨i,rfl⟩ | ⟨i,rfl⟩
 ·simp [gI]
 ·rw [dD,dE];rfl
 ·rw [dE,Int.neg_neg,dD];rfl
theorem bY (l:Int):Key.has (0,0) l=false:=by
 rcases eP l with rfl | ⟨i,rfl⟩ | ⟨i,rfl⟩
 ·simp [gI]
 ·rw [dD];simp
 ·rw [dE];simp
theorem aR {l:Int} (hl:l ≠ 0) (x:Int):(single l).has x=decide (x=l):=by
 rcases eP l with rfl | ⟨i,rfl⟩ | ⟨i,rfl⟩
 ·exact absurd rfl hl
 ·have e:single ((i:Int) + 1)=(2 ^ i,0):=by unfold single;rw [if_neg (by omega)];congr 2
  rw [e]
  rcases eP x with rfl | ⟨j,rfl⟩ | ⟨j,rfl⟩
  ·rw [gI];symm;simp;omega
  ·rw [dD,Nat.testBit_two_pow];simp;omega
  ·rw [dE];simp;omega
 ·have e:single (-((i:Int) + 1))=(0,2 ^ i):=by unfold single;rw [if_pos (by omega)];congr 2
  rw [e]
  rcases eP x with rfl | ⟨j,rfl⟩ | ⟨j,rfl⟩
  ·rw [gI];symm;simp;omega
  ·rw [dD];simp;omega
  ·rw [dE,Nat.testBit_two_pow];simp;omega
theorem uh {s t:Key} (hs:s.ok) (ht:t.ok):(s.un t).ok:=
 ⟨show _ < 2 ^ 64 from Nat.or_lt_two_pow hs.1 ht.1,show _ < 2 ^ 64 from Nat.or_lt_two_pow hs.2 ht.2⟩
theorem tK {a b:Nat} (h:a < wide):andNot a b < wide:=by
 show _ < 2 ^ 64
 exact Nat.xor_lt_two_pow h (Nat.lt_of_le_of_lt Nat.and_le_left h)
theorem Cg {s:Key} (hs:s.ok) (t:Key):(s.wo t).ok:=⟨tK hs.1,tK hs.2⟩
theorem UM {s:Key} (hs:s.ok):s.op.ok:=⟨hs.2,hs.1⟩
theorem iU:Key.ok (0,0):=⟨by decide,by decide⟩
theorem gy {l:Int} (h:dB l):(single l).ok:=by
 unfold single
 rcases h with h | h
 ·rw [if_neg (by omega)];exact ⟨show _ < 2 ^ 64 from Nat.pow_lt_pow_right (by decide) (by omega),show 0 < wide by decide⟩
 ·rw [if_pos (by omega)];exact ⟨show 0 < wide by decide,show _ < 2 ^ 64 from Nat.pow_lt_pow_right (by decide) (by omega)⟩
theorem wX (c:List Int) (h0:∀ l ∈ c,l ≠ 0):∀ (s:Key) (x:Int),(c.foldl (fun s l=>s.un (single l)) s).has x=(s.has x || decide (x ∈ c)):=by
 induction c with
 | nil=>intro s x;simp
 | cons a r ih=>
  intro s x;rw [List.foldl_cons,ih (fun l hl=>h0 l (List.mem_cons_of_mem _ hl)),df,aR (h0 a (List.mem_cons_self ..)),Bool.or_assoc]
  congr 1
  by_cases e:x=a <;> simp [e]
theorem has_setOf {c:List Int} (h0:∀ l ∈ c,l ≠ 0) (x:Int):(setOf c).has x=decide (x ∈ c):=by
 unfold setOf;rw [wX c h0,bY];simp
theorem ym (c:List Int) (h:∀ l ∈ c,dB l):∀ (s:Key),s.ok->(c.foldl (fun s l=>s.un (single l)) s).ok:=by
 induction c with
 | nil=>intro s hs;exact hs
 | cons a r ih=>intro s hs;exact ih (fun l hl=>h l (List.mem_cons_of_mem _ hl)) _ (uh hs (gy (h a (List.mem_cons_self ..))))
theorem CE {c:List Int} (h:∀ l ∈ c,dB l):(setOf c).ok:=ym c h _ iU
theorem setOf_snoc (c:List Int) (l:Int):setOf (c ++ [l])=(setOf c).un (single l):=by unfold setOf;rw [List.foldl_append];rfl
theorem bX {l:Int} (h:dB l):l ≠ 0:=by rcases h with h | h <;> omega
theorem KN {l:Int} (h:dB l):dB (-l):=by
 rcases h with h | h
 ·right;omega
 ·left;omega
theorem Lh (s:Key):(s.1 ||| s.2=0)↔s=(0,0):=by
 obtain ⟨a,b⟩:=s;constructor
 ·intro h
  have h':(a ||| b)=0:=h;have ha:a=0:=Nat.eq_of_testBit_eq fun i=>by have:=congrArg (Nat.testBit · i) h';simp only [Nat.testBit_or,Nat.zero_testBit,Bool.or_eq_false_iff] at this;simp [this.1]
  have hb:b=0:=Nat.eq_of_testBit_eq fun i=>by have:=congrArg (Nat.testBit · i) h';simp only [Nat.testBit_or,Nat.zero_testBit,Bool.or_eq_false_iff] at this;simp [this.2]
  rw [ha,hb]
 ·intro h;cases h;rfl
theorem kL {x:Nat}:x ≠ 0↔∃ i,x.testBit i=true:=⟨Nat.exists_testBit_of_ne_zero,fun ⟨i,h⟩ e=>by rw [e] at h;simp at h⟩
theorem mG (s:Key):s ≠ (0,0)↔∃ l,s.has l=true:=by
 constructor
 ·intro h
  rcases Classical.em (∃ l,s.has l=true) with h1 | h1
  ·exact h1
  ·exact absurd (rE fun l=>by rw [bY];cases e:s.has l with | false=>rfl | true=>exact absurd ⟨l,e⟩ h1) h
 ·rintro ⟨l,hl⟩ rfl;rw [bY] at hl;cases hl
theorem Ls (s:Key):(s.1 &&& s.2 ≠ 0)↔∃ l,s.has l=true/\s.has (-l)=true:=by
 rw [kL];constructor
 ·rintro ⟨i,hi⟩;rw [Nat.testBit_and,Bool.and_eq_true] at hi;exact ⟨(i:Int) + 1,by rw [dD];exact hi.1,by rw [dE];exact hi.2⟩
 ·rintro ⟨l,h1,h2⟩
  rcases eP l with rfl | ⟨i,rfl⟩ | ⟨i,rfl⟩
  ·rw [gI] at h1;cases h1
  ·rw [dD] at h1;rw [dE] at h2;exact ⟨i,by rw [Nat.testBit_and,h1,h2];rfl⟩
  ·rw [dE] at h1;rw [Int.neg_neg,dD] at h2;exact ⟨i,by rw [Nat.testBit_and,h1,h2];rfl⟩
theorem Bc {x:Nat} (h0:x ≠ 0) (h:x < wide):x.testBit (Lib.ctz 64 x)=true/\Lib.ctz 64 x < 64:=by
 obtain ⟨h1,h2⟩:=Lib.lowest_bit 64 x h0 h;refine ⟨?_,h2⟩;have:=congrArg (Nat.testBit · (Lib.ctz 64 x)) h1;simp only [Nat.testBit_and,Nat.testBit_two_pow_self,Bool.and_eq_true] at this;exact this.1
theorem lM {s:Key} (hs:s.ok) (h:s ≠ (0,0)):s.one=single s.dW/\s.has s.dW=true/\dB s.dW:=by
 unfold Key.one Key.dW;by_cases h1:s.1 ≠ 0
 ·rw [if_pos h1,if_pos h1];obtain ⟨hb,hc⟩:=Bc h1 hs.1;refine ⟨?_,by rw [dD];exact hb,.inl (by omega)⟩
  unfold single;rw [if_neg (by omega)];congr 2
 ·rw [if_neg h1,if_neg h1];have h2:s.2 ≠ 0:=by
   intro e;apply h;obtain ⟨a,b⟩:=s;simp only [ne_eq,Decidable.not_not] at h1;simp only at e h1;rw [h1,e]
  obtain ⟨hb,hc⟩:=Bc h2 hs.2;refine ⟨?_,by rw [dE];exact hb,.inr (by omega)⟩
  unfold single;rw [if_pos (by omega)];congr 2
theorem lL {l:Int} (h:dB l):place l < 128:=by unfold place;rcases h with h | h <;> split <;> omega
theorem J5 {l l':Int} (h:dB l) (h':dB l') (e:place l=place l'):l=l':=by
 unfold place at e
 rcases h with h | h <;> rcases h' with h' | h' <;> (split at e <;> split at e <;> omega)
section
open Go Go.RowKit Go.Deep
theorem vg {l:Int} (h:oP l):l ≠ 0:=by rcases h with h | h <;> omega
theorem wT {l:Int} (h:oP l):dB l:=by
 rcases h with h | h
 ·left;omega
 ·right;omega
theorem zX {α:Type} {p q:α->Bool}:∀ {l:List α},(∀ x ∈ l,p x=true->q x=true)->(∃ x ∈ l,q x=true/\p x=false)->l.countP p < l.countP q
 | [],_,⟨x,hx,_⟩=>by simp at hx
 | a :: l,h,⟨x,hx,h1,h2⟩=>by
  have hle:l.countP p <= l.countP q:=List.countP_mono_left fun y hy hp=>h y (List.mem_cons_of_mem _ hy) hp
  rcases List.mem_cons.1 hx with rfl | hx
  ·rw [List.countP_cons_of_neg (by simp [h2]),List.countP_cons_of_pos h1];omega
  ·have ih:=zX (l:=l) (fun y hy=>h y (List.mem_cons_of_mem _ hy)) ⟨x,hx,h1,h2⟩
   have ha:=h a (List.mem_cons_self ..);rw [List.countP_cons,List.countP_cons]
   cases hp:p a with
   | true=>rw [ha hp];simp;exact ih
   | false=>simp;omega
def XA (w:World) (v:Value) (cl:List (List Int)):Prop:=∃ (a:Option Addr) (c b:Nat),v=.slice a cl.length c/\cl.length <= c/\(0 < cl.length->a=some ⟨b,0,none⟩)/\∀ i,i < cl.length->∃ u,w.cell? ⟨b,i,none⟩=some u/\Z4 w u (cl.getD i [])
theorem Xw.lists {te ti B:Nat} {w:World} {v:Value} {cl:List (List Int)} (h:Xw te ti B w v cl):XA w v cl:=by
 obtain ⟨us,h⟩:=h;have hl:=h.len;have hc:=h.outer
 rcases h.outer.2 with ⟨rfl,h0⟩ | ⟨g,cap,cur',rfl,_,_,hn,_⟩
 ·exact ⟨none,0,0,by rw [<- hl,h0],by omega,fun hh=>by omega,fun j hj=>by omega⟩
 ·refine ⟨some ⟨g,0,none⟩,cap,g,by rw [hl],by omega,fun _=>rfl,fun i hi=>?_⟩
  have hi':i < us.length:=by omega
  refine ⟨us[i],?_,Nf (h.inner i us[i] (List.getElem?_eq_getElem hi')).1⟩;have:=hc.cells (g:=g) rfl i us[i] (List.getElem?_eq_getElem hi');simpa [Addr.add_lit] using this
end
section
open Go
def Src (w:World) (y:Value) (m:Nat) (news:List Value):Prop:=
 (y=.slice none 0 0/\m=0/\news=[])\/∃ ad c,y=.slice (some ad) m c/\∀ j u,news[j]? = some u->w.cell? (ad.add j)=some u
structure aB (w:World) (base e size:Nat) (v:Value) (n:Nat) (xs:List Value) (m:Nat) (news:List Value) (v':Value) (w':World):Prop where
 own:w'.ownsRow base e size v' (n + m) (xs ++ news)
 grew:w.grownBy w' v.ownBlock
 at':v'.ownBlock=v.ownBlock\/v'.ownBlock=some w.heap.size
section
variable {P:Program}
theorem vU (w:World) (t ty base e:Nat) (i:TypeInfo) (z:Value) (size bytes:Nat) (ht:P.underlying t=some (.slice e)) (hi:P.info? e=some i) (hz:i.zero=some z)
  (hsize:i.size=size) (hby:i.bytes=bytes) (hzs:z.cells.size=size) (hsz:0 < size) (v:Value) (n:Nat) (xs:List Value) (hown:w.ownsRow base e size v n xs)
  (y:Value) (m:Nat) (news:List Value) (hy:Src w y m news) (hl:news.length=m * size) (h1:∀ u ∈ news,u.oneCell'=true)
  (h63:n + m <= maxLen) (hbytes:(n + m) * bytes <= 140737488355328) (hbase:base <= w.heap.size):
  ∃ v' w',(Builtin.append_ #[t,t] ty #[v,y]).run P w=.ok v' w'/\aB w base e size v n xs m news v' w':=by
 rcases hy with ⟨rfl,rfl,rfl⟩ | ⟨ad,c,rfl,hc⟩
 ·exact ⟨v,w,run_append_owned_none (P:=P) (w:=w) base t ty e i size ht hi v n xs hown,by simpa using hown,⟨rfl,rfl,rfl,Nat.le_refl _,fun _ _ _=>rfl⟩,.inl rfl⟩
 ·obtain ⟨v',w',hr,h2,h3,_,h5⟩:=run_append_own_at (P:=P) w base t ty e i z size bytes ht hi hz hsize hby hzs hsz v n xs hown ad m c news hl hc h1 h63 hbytes hbase;exact ⟨v',w',hr,h2,h3,h5⟩
theorem pQ (w:World) {o:Oper} {a:Act} {K:Act->World->Prop} {Q:Exit->Act->World->Prop} (s x:Operand) (t:TypeId)
  (ho:o.op=.call { callee:=.builtin .append,args:=#[s,x],argTypes:=#[t,t] })
  (base e:Nat) (i:TypeInfo) (z:Value) (size bytes:Nat) (ht:P.underlying t=some (.slice e)) (hi:P.info? e=some i) (hz:i.zero=some z)
  (hsize:i.size=size) (hby:i.bytes=bytes) (hzs:z.cells.size=size) (hsz:0 < size) (v:Value) (n:Nat) (xs:List Value) (hs:a.eval s=v) (hown:w.ownsRow base e size v n xs)
  (y:Value) (m:Nat) (news:List Value) (hx:a.eval x=y) (hy:Src w y m news) (hl:news.length=m * size) (h1:∀ u ∈ news,u.oneCell'=true)
  (h63:n + m <= maxLen) (hbytes:(n + m) * bytes <= 140737488355328) (hbase:base <= w.heap.size)
  (h:∀ v' w',aB w base e size v n xs m news v' w'->K (a.put o.dst v') w'):o.wp P a w K Q:=by
 obtain ⟨v',w',hr,h2⟩:=vU (P:=P) w t o.type base e i z size bytes ht hi hz hsize hby hzs hsz v n xs hown y m news hy hl h1 h63 hbytes hbase;unfold Oper.wp execOp;simp only [ho,resolve,invoke,builtin,Sem.run_bind,Sem.run_pure,Result.andThen_ok,List.map_toArray,List.map_cons,List.map_nil,hs,hx,hr];exact h v' w' h2
theorem aU (w:World) {ops:Array Oper} {rest:List Oper} {o:Oper} {a:Act} {Q:Exit->Act->World->Prop} (hgd:o.guard=none) (s x:Operand) (t:TypeId)
  (ho:o.op=.call { callee:=.builtin .append,args:=#[s,x],argTypes:=#[t,t] })
  (base e:Nat) (i:TypeInfo) (z:Value) (size bytes:Nat) (ht:P.underlying t=some (.slice e)) (hi:P.info? e=some i) (hz:i.zero=some z)
  (hsize:i.size=size) (hby:i.bytes=bytes) (hzs:z.cells.size=size) (hsz:0 < size) (v:Value) (n:Nat) (xs:List Value) (hs:a.eval s=v) (hown:w.ownsRow base e size v n xs)
  (y:Value) (m:Nat) (news:List Value) (hx:a.eval x=y) (hy:Src w y m news) (hl:news.length=m * size) (h1:∀ u ∈ news,u.oneCell'=true)
  (h63:n + m <= maxLen) (hbytes:(n + m) * bytes <= 140737488355328) (hbase:base <= w.heap.size)
  (h:∀ v' w',aB w base e size v n xs m news v' w'->wpList P ops Q rest (a.put o.dst v') w'):wpList P ops Q (o :: rest) a w:=
 wpList_plain hgd fun _ hK=>pQ w s x t ho base e i z size bytes ht hi hz hsize hby hzs hsz v n xs hs hown y m news hx hy hl h1 h63 hbytes hbase fun v' w' h2=>hK _ _ (h v' w' h2)
theorem dR (w:World) {ops:Array Oper} {o:Oper} {a:Act} {K:Act->World->Prop} {Q:Exit->Act->World->Prop} {E:Prop} (hgd:o.guard=none) (s x:Operand) (t:TypeId)
  (ho:o.op=.call { callee:=.builtin .append,args:=#[s,x],argTypes:=#[t,t] })
  (base e:Nat) (i:TypeInfo) (z:Value) (size bytes:Nat) (ht:P.underlying t=some (.slice e)) (hi:P.info? e=some i) (hz:i.zero=some z)
  (hsize:i.size=size) (hby:i.bytes=bytes) (hzs:z.cells.size=size) (hsz:0 < size) (v:Value) (n:Nat) (xs:List Value) (hs:a.eval s=v) (hown:w.ownsRow base e size v n xs)
  (y:Value) (m:Nat) (news:List Value) (hx:a.eval x=y) (hy:Src w y m news) (hl:news.length=m * size) (h1:∀ u ∈ news,u.oneCell'=true)
  (h63:n + m <= maxLen) (hbytes:(n + m) * bytes <= 140737488355328) (hbase:base <= w.heap.size)
  (h:∀ v' w',aB w base e size v n xs m news v' w'->K (a.put o.dst v') w'):
  if Region.wanted o (yielded ops a.tmps)=true then Oper.wp P o a w K Q else E:=by
 have hw:Region.wanted o (yielded ops a.tmps)=true:=by simp [Region.wanted,hgd]
 rw [if_pos hw];exact pQ w s x t ho base e i z size bytes ht hi hz hsize hby hzs hsz v n xs hs hown y m news hx hy hl h1 h63 hbytes hbase h
end
end
section
open Go Go.RowKit Go.Deep
theorem vZ {w w':World} {B e size n:Nat} {v:Value} {xs:List Value} (h:w.ownsRow B e size v n xs) (hb:Below w.heap.size w w'):w'.ownsRow B e size v n xs:=by
 have hg:w.grownBy w' none:=⟨hb.os,hb.tape,hb.output,hb.size,fun k hk _=>hb.block k hk⟩
 refine h.kept hg ?_
 cases hv:v.ownBlock with
 | none=>exact .inl rfl
 | some g=>exact .inr (by simp)
end
end Rd
end Go.Proofs.YtceahffmenbibaaGreatDoor
namespace Go.Proofs.YtceahffmenbibaaGreatDoor
namespace So
section
open Go Go.RowKit Rd
structure oU (B:Nat) (w:World) (K:Nat) (T:Nat->TypeId) (V:Nat->Value) (X:Nat->List Value):Prop where
 own:∀ k,k < K->w.ownsRow B (T k) 1 (V k) (X k).length (X k)
 apart:∀ k k',k < K->k' < K->k ≠ k'->(V k).ownBlock=none\/(V k).ownBlock ≠ (V k').ownBlock
def upd {α:Type} (f:Nat->α) (k:Nat) (a:α):Nat->α:=fun j=>if j=k then a else f j
theorem ae {α:Type} (f:Nat->α) (k:Nat) (a:α):upd f k a k=a:=by unfold upd;rw [if_pos rfl]
theorem aa {α:Type} (f:Nat->α) {k j:Nat} (a:α) (h:j ≠ k):upd f k a j=f j:=by unfold upd;rw [if_neg h]
theorem upd_same {α:Type} (f:Nat->α) (k:Nat):upd f k (f k)=f:=by funext j;unfold upd;split <;> simp_all
variable {B K:Nat} {w w':World} {T:Nat->TypeId} {V:Nat->Value} {X:Nat->List Value}
theorem ownB {e size n:Nat} {v:Value} {xs:List Value} (h:w.ownsRow B e size v n xs) (hb:∀ g,v.ownBlock=some g->w'.heap[g]? = w.heap[g]?):w'.ownsRow B e size v n xs:=by
 refine ⟨h.1,?_⟩
 rcases h.2 with h2 | ⟨g,cap,cur,e1,hb1,hg,r⟩
 ·exact .inl h2
 ·exact .inr ⟨g,cap,cur,e1,hb1,by rw [hb g (by rw [e1];rfl)];exact hg,r⟩
theorem oU.kept (h:oU B w K T V X) (hb:∀ k g,k < K->(V k).ownBlock=some g->w'.heap[g]? = w.heap[g]?):oU B w' K T V X:=
 ⟨fun k hk=>ownB (h.own k hk) fun g hg=>hb k g hk hg,h.apart⟩
theorem oU.later (h:oU B w K T V X) (hb:Below w.heap.size w w'):oU B w' K T V X:=
 h.kept fun k g hk hg=>hb.block g ((h.own k hk).lt g hg).2
theorem oU.shape (h:oU B w K T V X) {k:Nat} (hk:k < K):∃ a c,V k=.slice a (X k).length c:=aH (h.own k hk)
theorem oU.block (h:oU B w K T V X) {k:Nat} (hk:k < K) (hx:0 < (X k).length):∃ g cap cur,V k=.slice (some ⟨g,0,none⟩) (X k).length cap/\B <= g/\w.heap[g]? = some (.cells cur (T k) (0,0))/\(X k).length <= cap:=by
 rcases (h.own k hk).2 with ⟨e,h0⟩ | ⟨g,cap,cur,e,hb,hg,hn,_⟩
 ·omega
 ·exact ⟨g,cap,cur,e,hb,hg,hn⟩
theorem oU.cell (h:oU B w K T V X) {k:Nat} (hk:k < K) {g n cap:Nat} (hv:V k=.slice (some ⟨g,0,none⟩) n cap) {j:Nat} (hj:j < (X k).length):w.cell? ⟨g,j,none⟩=(X k)[j]? /\ w.frozen? ⟨g,j,none⟩=false:=by
 have ho:=h.own k hk;rw [hv] at ho;have hn:n=(X k).length:=by
  obtain ⟨a,c,e⟩:=aH ho;exact (Value.slice.inj e).2.1
 subst hn;exact ⟨ho.cellAt j (by omega),ho.frozenAt j⟩
theorem oU.set (h:oU B w K T V X) {k:Nat} (hk:k < K) {g n cap:Nat} (hv:V k=.slice (some ⟨g,0,none⟩) n cap) (j:Nat) (u:Value):oU B (w.setCell ⟨g,j,none⟩ u) K T V (upd X k ((X k).set j u)) where
 own:=fun i hi=>by
  by_cases e:i=k
  ·subst e;rw [ae,List.length_set];have ho:=h.own i hi;rw [hv] at ho ⊢;have hn:n=(X i).length:=by
    obtain ⟨a,c,e⟩:=aH ho;exact (Value.slice.inj e).2.1
   subst hn;exact (ho.stored j u).1
  ·rw [aa _ _ e];refine ownsRow_setCell_other (h.own i hi) (fun h2=>?_) u
   rcases h.apart i k hi hk e with h3 | h3
   ·rw [h3] at h2;cases h2
   ·exact h3 (by rw [h2,hv];rfl)
 apart:=h.apart
theorem oU.push (h:oU B w K T V X) {k:Nat} (hk:k < K) {v':Value} {w6:World} {m:Nat} {news:List Value} (hm:news.length=m) (A:aB w B (T k) 1 (V k) (X k).length (X k) m news v' w6):oU B w6 K T (upd V k v') (upd X k (X k ++ news)) where
 own:=fun i hi=>by
  by_cases e:i=k
  ·subst e;rw [ae,ae,List.length_append,hm];exact A.own
  ·rw [aa _ _ e,aa _ _ e];refine (h.own i hi).kept A.grew ?_
   rcases h.apart i k hi hk e with h3 | h3
   ·exact .inl h3
   ·exact .inr h3
 apart:=fun i j hi hj hij=>by
  by_cases e:i=k
  ·subst e;rw [ae,aa _ _ (fun e=>hij e.symm)]
   rcases A.at' with h1 | h1
   ·rw [h1];exact h.apart i j hi hj hij
   ·rw [h1];refine .inr fun h2=>?_
    have:=((h.own j hj).lt _ h2.symm).2;omega
  ·rw [aa _ _ e];by_cases e2:j=k
   ·subst e2;rw [ae]
    rcases A.at' with h1 | h1
    ·rw [h1];exact h.apart i j hi hj hij
    ·rw [h1]
     cases hb:(V i).ownBlock with
     | none=>exact .inl rfl
     | some g=>
      refine .inr fun h2=>?_
      have:=((h.own i hi).lt _ hb).2;have:=Option.some.inj h2;omega
   ·rw [aa _ _ e2];exact h.apart i j hi hj hij
theorem oU.cut (h:oU B w K T V X) {k:Nat} (hk:k < K) {a:Option Addr} {n cap m:Nat} (hv:V k=.slice a n cap) (hm:m <= (X k).length):oU B w K T (upd V k (.slice a m cap)) (upd X k ((X k).take m)) where
 own:=fun i hi=>by
  by_cases e:i=k
  ·subst e;rw [ae,ae,List.length_take,Nat.min_eq_left hm];have ho:=h.own i hi;rw [hv] at ho;refine ⟨by rw [List.length_take,Nat.min_eq_left hm];omega,?_⟩
   rcases ho.2 with ⟨e2,h0⟩ | ⟨g,cap',cur,e2,hb,hg,hn,hx,hs,ht⟩
   ·obtain ⟨q1,q2,q3⟩:=Value.slice.inj e2;subst q1 q3;have:m=0:=by omega
    subst this;exact .inl ⟨rfl,rfl⟩
   ·obtain ⟨q1,q2,q3⟩:=Value.slice.inj e2;subst q1 q3;refine .inr ⟨g,cap,cur,rfl,hb,hg,by omega,hx,hs,?_⟩
    rw [<- ht,List.take_take];congr 1;omega
  ·rw [aa _ _ e,aa _ _ e];exact h.own i hi
 apart:=fun i j hi hj hij=>by
  have key:∀ x,(upd V k (.slice a m cap) x).ownBlock=(V x).ownBlock:=fun x=>by
   by_cases e:x=k
   ·subst e;rw [ae,hv];cases a <;> rfl
   ·rw [aa _ _ e]
  rw [key,key];exact h.apart i j hi hj hij
end
section
open Go Go.RowKit Rd
structure aC (Z:Nat->Prop) (w w':World):Prop where
 jK:Below 0 w w'
 block:∀ g,g < w.heap.size->¬ Z g->w'.heap[g]? = w.heap[g]?
variable {Z:Nat->Prop} {a w w':World}
theorem aC.size (h:aC Z w w'):w.heap.size <= w'.heap.size:=h.jK.size
theorem aC.refl (w:World):aC Z w w:=⟨Below.refl _ _,fun _ _ _=>rfl⟩
theorem aC.trans (h:aC Z a w) (k:aC Z w w'):aC Z a w':=⟨h.jK.trans k.jK,fun g hg hz=>(k.block g (Nat.lt_of_lt_of_le hg h.size) hz).trans (h.block g hg hz)⟩
theorem aC.drew (h:aC Z a w):aC Z a w.drew:=⟨h.jK.drew,h.block⟩
theorem aC.alloc (h:aC Z a w) (o:Obj):aC Z a (w.alloc o):=h.trans ⟨(Below.refl _ _).alloc (Nat.zero_le _) o,fun g hg _=>Below.heap_alloc _ _ _ hg⟩
theorem aC.setCell (h:aC Z a w) {p:Addr} (hp:Z p.block) (u:Value):aC Z a (w.setCell p u):=h.trans ⟨(Below.refl _ _).setCell (Nat.zero_le _) u,fun g hg hz=>Below.heap_setCell _ _ _ _ (fun e=>hz (e ▸ hp))⟩
theorem aC.grown {row:Option Nat} (h:aC Z a w) (hg:w.grownBy w' row) (hr:∀ k,row=some k->Z k):aC Z a w':=h.trans ⟨(Below.refl _ _).grown hg (Nat.zero_le _) (fun _ _=>Nat.zero_le _),fun g h1 hz=>hg.block g h1 (fun e=>hz (hr g e.symm))⟩
theorem aC.of_below (h:Below w.heap.size w w'):aC Z w w':=⟨h.mono (Nat.zero_le _),fun g hg _=>h.block g hg⟩
theorem aC.mono {Z':Nat->Prop} (h:aC Z w w') (hz:∀ g,g < w.heap.size->Z g->Z' g):aC Z' w w':=⟨h.jK,fun g hg hn=>h.block g hg (fun e=>hn (hz g hg e))⟩
theorem aC.below {B:Nat} (h:aC Z w w') (hB:B <= w.heap.size) (hz:∀ g,g < B->¬ Z g):Below B w w':=⟨h.jK.os,h.jK.tape,h.jK.output,h.jK.size,fun g hg=>h.block g (by omega) (hz g hg)⟩
end
section
open Go Go.RowKit Go.Deep Rd
def iC (k:Nat):TypeId:=if k=9 then 43 else if k=10\/k=11 then 4 else if k=12 then 5 else if k=14 then 2 else 3
theorem Ui (k:Nat):iC k ≠ 167:=by unfold iC;split <;> (try split) <;> (try split) <;> (try split) <;> decide
def cellOf:Nat->Nat
 | 0=>2 | 1=>6 | 2=>8 | 3=>9 | 4=>10 | 5=>11 | 6=>13 | 7=>15 | 8=>19 | 9=>5 | 10=>16 | 11=>17 | _=>1
structure aQ (Z:Nat->Prop) (sb:Nat) (w:World) (K:Nat) (f V:Nat->Value) (X:Nat->List Value):Prop where
 row:w.rowIs sb 167 22 f
 bC:oU 0 w K iC V X
 hdr:∀ k,k < 13->f (cellOf k)=V k
 fZ:Z sb
 al:∀ k,k < K->∀ g,(V k).ownBlock=some g->Z g
 az:∀ g,w.heap.size <= g->Z g
 hK:16 <= K
variable {Z:Nat->Prop} {sb K:Nat} {w w':World} {f V:Nat->Value} {X:Nat->List Value}
theorem aQ.far (h:aQ Z sb w K f V X) {k:Nat} (hk:k < K):∀ g,(V k).ownBlock=some g->g ≠ sb:=fun g hg e=>by
 obtain ⟨c,hr,_⟩:=h.row
 rcases (h.bC.own k hk).2 with ⟨e2,_⟩ | ⟨g',cap,cur,e2,_,hg',_⟩
 ·rw [e2] at hg;cases hg
 ·rw [e2] at hg;obtain rfl:g'=g:=Option.some.inj hg;rw [e,hr] at hg';exact Ui k (Obj.cells.inj (Option.some.inj hg')).2.1.symm
theorem aQ.later (h:aQ Z sb w K f V X) (hb:Below w.heap.size w w'):aQ Z sb w' K f V X:=
 ⟨h.row.of_block (hb.block _ h.row.lt),h.bC.later hb,h.hdr,h.fZ,h.al,fun g hg=>h.az g (Nat.le_trans hb.size hg),h.hK⟩
theorem aQ.head (h:aQ Z sb w K f V X) (j:Nat) (hj:j < 22):w.cell? ⟨sb,j,none⟩=some (f j)/\w.frozen? ⟨sb,j,none⟩=false:=⟨h.row.cell hj,h.row.frozen j⟩
theorem aQ.hd (h:aQ Z sb w K f V X) {k:Nat} (hk:k < 13):w.cell? ⟨sb,cellOf k,none⟩=some (V k)/\w.frozen? ⟨sb,cellOf k,none⟩=false:=by
 have hc:cellOf k < 22:=by unfold cellOf;split <;> decide
 have:=h.head _ hc;rw [h.hdr k hk] at this;exact this
theorem aQ.scalar (h:aQ Z sb w K f V X) (j:Nat) (u:Value) (hj:∀ k,k < 13->cellOf k ≠ j):aQ Z sb (w.setCell ⟨sb,j,none⟩ u) K (upd f j u) V X where
 row:=(h.row.set j u).congr fun i hi=>by unfold upd;rfl
 bC:=h.bC.kept fun k g hk hg=>Below.heap_setCell _ _ _ _ (by simpa using h.far hk g hg)
 hdr:=fun k hk=>by rw [aa _ _ (hj k hk)];exact h.hdr k hk
 fZ:=h.fZ
 al:=h.al
 az:=fun g hg=>h.az g (by simpa [World.setCell] using hg)
 hK:=h.hK
theorem aQ.set (h:aQ Z sb w K f V X) {k:Nat} (hk:k < K) {g n cap:Nat} (hv:V k=.slice (some ⟨g,0,none⟩) n cap) (j:Nat) (u:Value):aQ Z sb (w.setCell ⟨g,j,none⟩ u) K f V (upd X k ((X k).set j u)) where
 row:=h.row.of_block (Below.heap_setCell _ _ _ _ (fun e=>h.far hk g (by rw [hv];rfl) e.symm))
 bC:=h.bC.set hk hv j u
 hdr:=h.hdr
 fZ:=h.fZ
 al:=h.al
 az:=fun g hg=>h.az g (by simpa [World.setCell] using hg)
 hK:=h.hK
theorem Hz:∀ k,k < 13->∀ j,j < 13->cellOf k=cellOf j->k=j:=by decide +kernel
theorem aQ.header (h:aQ Z sb w K f V X) {k:Nat} (hk:k < 13) {V':Nat->Value} {X':Nat->List Value} {w6:World} {v':Value} (hrow:w6.rowIs sb 167 22 f) (WV:oU 0 w6 K iC V' X') (hV:V'=upd V k v') (WU:∀ i,i < K->∀ g,(V' i).ownBlock=some g->g ≠ sb) (hsz:w.heap.size <= w6.heap.size) (hal:∀ i,i < K->∀ g,(V' i).ownBlock=some g->Z g):
  aQ Z sb (w6.setCell ⟨sb,cellOf k,none⟩ v') K (upd f (cellOf k) v') V' X' where
 row:=(hrow.set (cellOf k) v').congr fun i hi=>by unfold upd;rfl
 bC:=WV.kept fun i g hi hg=>Below.heap_setCell _ _ _ _ (by simpa using WU i hi g hg)
 hdr:=fun i hi=>by
  rw [hV];by_cases e:i=k
  ·subst e;rw [ae,ae]
  ·rw [aa _ _ e,aa _ _ (fun e2=>e (Hz i hi k hk e2))]
   exact h.hdr i hi
 fZ:=h.fZ
 al:=hal
 az:=fun g hg=>h.az g (by simp [World.setCell] at hg;omega)
 hK:=h.hK
theorem aQ.push (h:aQ Z sb w K f V X) {k:Nat} (hk:k < 13) {ob:Obj} {v':Value} {w6:World} {m:Nat} {news:List Value} (hm:news.length=m) (A:aB (w.alloc ob) 0 (iC k) 1 (V k) (X k).length (X k) m news v' w6):
  aQ Z sb (w6.setCell ⟨sb,cellOf k,none⟩ v') K (upd f (cellOf k) v') (upd V k v') (upd X k (X k ++ news)):=by
 have wW:k < K:=by have:=h.hK;omega
 have hl:=h.later ((Below.refl _ w).alloc (Nat.le_refl _) ob);have hlt:=hl.row.lt;refine h.header hk (hl.row.of_block (A.grew.block sb hlt (fun e=>hl.far wW sb e.symm rfl))) (hl.bC.push wW hm A) rfl (fun i hi g hg=>?_) (by have:=A.grew.size;simp at this;omega) (fun i hi g hg=>?_)
 ·by_cases e:i=k
  ·subst e;rw [ae] at hg
   rcases A.at' with h1 | h1
   ·rw [h1] at hg;exact hl.far hi g hg
   ·rw [h1] at hg;have:=Option.some.inj hg;omega
  ·rw [aa _ _ e] at hg;exact hl.far hi g hg
 ·by_cases e:i=k
  ·subst e;rw [ae] at hg
   rcases A.at' with h1 | h1
   ·rw [h1] at hg;exact h.al i hi g hg
   ·rw [h1] at hg;have:=Option.some.inj hg;exact h.az g (by simp at this;omega)
  ·rw [aa _ _ e] at hg;exact h.al i hi g hg
theorem aQ.gM (h:aQ Z sb w K f V X) {k:Nat} (hk:k < K) {ob:Obj} {v':Value} {w6:World} {m:Nat} {news:List Value} (A:aB (w.alloc ob) 0 (iC k) 1 (V k) (X k).length (X k) m news v' w6) (j:Nat) (hj:j < 22):w6.cell? ⟨sb,j,none⟩=some (f j)/\w6.frozen? ⟨sb,j,none⟩=false:=by
 have hl:=h.later ((Below.refl _ w).alloc (Nat.le_refl _) ob);have hr:=hl.row.of_block (A.grew.block sb hl.row.lt (fun e=>hl.far hk sb e.symm rfl))
 exact ⟨hr.cell hj,hr.frozen j⟩
theorem aQ.jY (h:aQ Z sb w K f V X) {k:Nat} (hk:k < K) {ob:Obj} {v':Value} {w6:World} {m:Nat} {news:List Value} (A:aB (w.alloc ob) 0 (iC k) 1 (V k) (X k).length (X k) m news v' w6) (j:Nat) (u:Value):aC Z w (w6.setCell ⟨sb,j,none⟩ u):=
 (((aC.refl w).alloc ob).grown A.grew (fun g hg=>h.al k hk g hg)).setCell h.fZ _
theorem aQ.elem (h:aQ Z sb w K f V X) {k j n:Nat} (hk:k < 13) (hn:(X k).length=n) (hj:j < n):∃ g cap t,V k=.slice (some ⟨g,0,none⟩) n cap/\w.cell? ⟨sb,cellOf k,none⟩=some (.slice (some ⟨g,0,none⟩) n cap)/\w.cell? ⟨g,j,none⟩=some t/\(X k)[j]? = some t/\w.frozen? ⟨g,j,none⟩=false/\Z g/\g < w.heap.size/\g ≠ sb:=by
 have wW:k < K:=by have:=h.hK;omega
 subst hn;obtain ⟨g,cap,cur,e,hb,hg,hc⟩:=h.bC.block wW (by omega)
 obtain ⟨c1,c2⟩:=h.bC.cell wW e hj;have hh:=(h.hd hk).1;rw [e] at hh;rw [List.getElem?_eq_getElem hj] at c1;exact ⟨g,cap,(X k)[j],e,hh,c1,List.getElem?_eq_getElem hj,c2,h.al k wW g (by rw [e];rfl),((h.bC.own k wW).lt g (by rw [e];rfl)).2,h.far wW g (by rw [e];rfl)⟩
theorem aQ.cut (h:aQ Z sb w K f V X) {k:Nat} (hk:k < 13) {a:Option Addr} {n cap m:Nat} (hv:V k=.slice a n cap) (hm:m <= (X k).length):
  aQ Z sb (w.setCell ⟨sb,cellOf k,none⟩ (.slice a m cap)) K (upd f (cellOf k) (.slice a m cap)) (upd V k (.slice a m cap)) (upd X k ((X k).take m)):=by
 have wW:k < K:=by have:=h.hK;omega
 have key:∀ i g,(upd V k (.slice a m cap) i).ownBlock=some g->(V i).ownBlock=some g:=fun i g hg=>by
  by_cases e:i=k
  ·subst e;rw [ae] at hg;rw [hv];cases a <;> exact hg
  ·rw [aa _ _ e] at hg;exact hg
 exact h.header hk h.row (h.bC.cut wW hv hm) rfl (fun i hi g hg=>h.far hi g (key i g hg)) (Nat.le_refl _) (fun i hi g hg=>h.al i hi g (key i g hg))
end
section
open Rd
def wr (x:Nat):Int:=if x % 2=0 then ((x / 2:Nat):Int) + 1 else -(((x / 2:Nat):Int) + 1)
def op (x:Nat):Nat:=if x % 2=0 then x + 1 else x - 1
theorem dC (x:Nat):op x / 2=x / 2:=by unfold op;split <;> omega
theorem gQ (x:Nat):op (op x)=x:=by unfold op;split <;> split <;> omega
theorem Cf (x:Nat):wr (op x)=-(wr x):=by
 unfold wr;rw [dC];unfold op;split
 ·rename_i h;rw [if_neg (by omega)]
 ·rename_i h;rw [if_pos (by omega)]
  omega
theorem Mi (x:Nat):wr x ≠ 0:=by unfold wr;split <;> omega
theorem IG (x:Nat):op x ≠ x:=by unfold op;split <;> omega
theorem NF {x y:Nat} (h:op x=op y):x=y:=by rw [<- gQ x,h,gQ]
theorem nT {x y:Nat} (h:x / 2=y / 2):x=y\/x=op y:=by unfold op;split <;> omega
def There (L:List Cl) (c:List Nat):Prop:=∃ d ∈ L,∀ x:Int,x ∈ d↔∃ y ∈ c,wr y=x
structure Trail (L:List Cl) (tr:List Nat) (rs:Nat->Option (List Nat)):Prop where
 nodup:(tr.map (· / 2)).Nodup
 why:∀ (i:Nat) (h:i < tr.length) c,rs (tr[i] / 2)=some c->∃ r,c=tr[i] :: r/\There L c/\∀ y ∈ r,∃ j,∃ hj:j < tr.length,j < i/\tr[j]=op y
theorem Lj {L:List Cl} {tr:List Nat} {rs:Nat->Option (List Nat)} (T:Trail L tr rs) {N:Nat->Prop} {cut:List Nat}
  (hN:∀ (i:Nat) (h:i < tr.length),N (tr[i] / 2)->tr[i] ∈ cut\/∃ c r,rs (tr[i] / 2)=some c/\c=tr[i] :: r/\∀ y ∈ r,N (y / 2))
  {M:Int->Prop} (hM:Cons M) (hc:∀ l ∈ cut.map wr,M l) (hs:Stable L M):∀ (n i:Nat) (h:i < tr.length),i <= n->N (tr[i] / 2)->M (wr tr[i]):=by
 intro n
 induction n with
 | zero=>
  intro i h hi hNi
  rcases hN i h hNi with h1 | ⟨c,r,h1,h2,h3⟩
  ·exact hc _ (List.mem_map.2 ⟨_,h1,rfl⟩)
  ·obtain ⟨r',e,ht,hr⟩:=T.why i h c h1;rw [h2] at e;obtain ⟨_,rfl⟩:=List.cons.inj e
   cases r with
   | nil=>
    obtain ⟨d,hd,hd2⟩:=ht
    rcases hs d hd with ⟨l,hl,hm⟩ | ⟨a,ha,b,hb,hab,_⟩
    ·obtain ⟨y,hy,rfl⟩:=(hd2 l).1 hl;rw [h2] at hy;obtain rfl:y=tr[i]:=by simpa using hy
     exact hm
    ·obtain ⟨y,hy,rfl⟩:=(hd2 a).1 ha;obtain ⟨z,hz,rfl⟩:=(hd2 b).1 hb;rw [h2] at hy hz;obtain rfl:y=tr[i]:=by simpa using hy
     obtain rfl:z=tr[i]:=by simpa using hz
     exact absurd rfl hab
   | cons y r=>
    obtain ⟨j,hj,hji,_⟩:=hr y (List.mem_cons_self ..);omega
 | succ n ih=>
  intro i h hi hNi
  rcases hN i h hNi with h1 | ⟨c,r,h1,h2,h3⟩
  ·exact hc _ (List.mem_map.2 ⟨_,h1,rfl⟩)
  ·obtain ⟨r',e,ht,hr⟩:=T.why i h c h1;rw [h2] at e;obtain ⟨_,rfl⟩:=List.cons.inj e;have Vd:∀ y ∈ r,M (-(wr y)):=fun y hy=>by
    obtain ⟨j,hj,hji,e⟩:=hr y hy;have:=ih j hj (by omega) (by rw [e,dC];exact h3 y hy)
    rw [e,Cf] at this;exact this
   obtain ⟨d,hd,hd2⟩:=ht
   rcases hs d hd with ⟨l,hl,hm⟩ | ⟨a,ha,b,hb,hab,n1,n2⟩
   ·obtain ⟨y,hy,rfl⟩:=(hd2 l).1 hl;rw [h2] at hy
    rcases List.mem_cons.1 hy with rfl | hy
    ·exact hm
    ·exact absurd (Vd y hy) (fun h=>hM _ hm h)
   ·obtain ⟨y,hy,rfl⟩:=(hd2 a).1 ha;obtain ⟨z,hz,rfl⟩:=(hd2 b).1 hb;rw [h2] at hy hz
    rcases List.mem_cons.1 hy with e1 | hy
    ·rcases List.mem_cons.1 hz with e2 | hz
     ·rw [e1,e2] at hab;exact absurd rfl hab
     ·exact absurd (Vd z hz) n2
    ·exact absurd (Vd y hy) n1
theorem wO {L:List Cl} {tr:List Nat} {rs:Nat->Option (List Nat)} (T:Trail L tr rs) {N:Nat->Prop} {cut c0:List Nat}
  (hN:∀ (i:Nat) (h:i < tr.length),N (tr[i] / 2)->tr[i] ∈ cut\/∃ c r,rs (tr[i] / 2)=some c/\c=tr[i] :: r/\∀ y ∈ r,N (y / 2))
  (h0:There L c0) (hf:∀ y ∈ c0,op y ∈ tr) (hn:∀ y ∈ c0,N (y / 2)):nJ L (cut.map wr):=by
 intro M hM hc hs;have Vd:∀ y ∈ c0,M (-(wr y)):=fun y hy=>by
  obtain ⟨i,h,e⟩:=List.mem_iff_getElem.1 (hf y hy);have:=Lj T hN hM hc hs i i h (Nat.le_refl _) (by rw [e,dC];exact hn y hy)
  rw [e,Cf] at this;exact this
 obtain ⟨d,hd,hd2⟩:=h0
 rcases hs d hd with ⟨l,hl,hm⟩ | ⟨a,ha,b,hb,hab,n1,n2⟩
 ·obtain ⟨y,hy,rfl⟩:=(hd2 l).1 hl;exact hM _ hm (Vd y hy)
 ·obtain ⟨y,hy,rfl⟩:=(hd2 a).1 ha;exact n1 (Vd y hy)
theorem Pv {L:List Cl} {tr:List Nat} {rs:Nat->Option (List Nat)} (T:Trail L tr rs) (ha:∀ (i:Nat) (h:i < tr.length),∃ c,rs (tr[i] / 2)=some c) {c0:List Nat} (h0:There L c0) (hf:∀ y ∈ c0,op y ∈ tr):nJ L []:=by
 have:=wO (cut:=[]) (N:=fun _=>True) T (fun i h _=>by
  obtain ⟨c,hc⟩:=ha i h;obtain ⟨r,e,_⟩:=T.why i h c hc;exact .inr ⟨c,r,hc,e,fun _ _=>trivial⟩) h0 hf (fun _ _=>trivial)
 exact this
end
section
open Go Go.RowKit
theorem bF (x:Nat) (w:World) (hx:x <= 1000):Calls Tryz.prog 176 #[.int .i64 x] w fun e w'=>e=.returned (.int .i64 ((x / 2:Nat):Int))/\w'=w:=by
 have hd:Int.tdiv (x:Int) 2=((x / 2:Nat):Int):=by rw [Int.tdiv_eq_ediv_of_nonneg (by omega)];omega
 go_enter Tryz.func176,Tryz.ntmps176
 go_wp2;go_ret
 exact ⟨rfl,rfl⟩
theorem Ap (x:Nat) (w:World) (hx:x <= 1000):Calls Tryz.prog 215 #[.int .i64 x] w fun e w'=>e=.returned (.bool (decide (x % 2=0)))/\w'=w:=by
 have hd:Int.tmod (x:Int) 2=((x % 2:Nat):Int):=by rw [Int.tmod_eq_emod_of_nonneg (by omega)];omega
 go_enter Tryz.func215,Tryz.ntmps215
 go_wp2;go_ret
 refine ⟨?_,rfl⟩
 congr 2
 rcases Nat.mod_two_eq_zero_or_one x with h | h
 ·simp [h];omega
 ·simp [h];omega
theorem Ru:∀ x:Nat,x < 128->Go.bits .xor .i64 (x:Int) 1=((op x:Nat):Int):=by decide +kernel
theorem iw (x:Nat) (w:World) (hx:x < 128):Calls Tryz.prog 139 #[.int .i64 x] w fun e w'=>e=.returned (.int .i64 ((op x:Nat):Int))/\w'=w:=by
 have hb:=Ru x hx;go_enter Tryz.func139,Tryz.ntmps139
 go_wp2;go_ret
 exact ⟨rfl,rfl⟩
def lit (z:Int):Nat:=if z < 0 then 2 * ((-z).toNat - 1) + 1 else 2 * (z.toNat - 1)
theorem zZ {z:Int} (h:z ≠ 0):wr (lit z)=z:=by
 unfold wr lit;split <;> split <;> omega
theorem kY (z:Int) (w:World) (hz:z ≠ 0) (h1:-64 <= z) (h2:z <= 64):Calls Tryz.prog 95 #[.int .i64 z] w fun e w'=>e=.returned (.int .i64 ((lit z:Nat):Int))/\w'=w:=by
 by_cases h:z < 0
 ·have hl:((lit z:Nat):Int)=2 * (-z - 1) + 1:=by unfold lit;rw [if_pos h];omega
  rw [hl];go_enter Tryz.func95,Tryz.ntmps95
  go_wp2;go_ret
  exact ⟨rfl,rfl⟩
 ·have hl:((lit z:Nat):Int)=2 * (z - 1):=by unfold lit;rw [if_neg h];omega
  rw [hl];go_enter Tryz.func95,Tryz.ntmps95
  go_wp2;go_ret
  exact ⟨rfl,rfl⟩
theorem yg (x:Nat) (w:World) (hx:x <= 1000):Calls Tryz.prog 181 #[.int .i64 x] w fun e w'=>e=.returned (.int .i64 (wr x))/\w'=w:=by
 obtain ⟨t,ht⟩:∃ t,decide (x % 2=0)=t:=⟨_,rfl⟩;have QV:=Rd.hide (fun V=>bF x V hx)
 have QS:=Rd.hide (fun V=>Ap x V hx)
 rw [ht] at QS;have hd:(x / 2:Nat) <= 500:=by omega
 have HW:Hid (wr x=if t then ((x / 2:Nat):Int) + 1 else -(((x / 2:Nat):Int) + 1)):=by
  unfold Hid wr;subst ht;by_cases h:x % 2=0 <;> simp [h]
 generalize x / 2=v at QV hd HW;clear ht;go_enter Tryz.func181,Tryz.ntmps181
 cases t with
 | true=>
  go_wp2_with (first | (go_at_call 176;refine (Rd.gV QV _).mono ?_;rintro e w' ⟨rfl,rfl⟩) | (go_at_call 215;refine (Rd.gV QS _).mono ?_;rintro e w' ⟨rfl,rfl⟩))
  go_ret
  exact ⟨by rw [Rd.gV HW];rfl,rfl⟩
 | false=>
  go_wp2_with (first | (go_at_call 176;refine (Rd.gV QV _).mono ?_;rintro e w' ⟨rfl,rfl⟩) | (go_at_call 215;refine (Rd.gV QS _).mono ?_;rintro e w' ⟨rfl,rfl⟩))
  go_ret
  exact ⟨by rw [Rd.gV HW];rfl,rfl⟩
end
section
open Go Go.RowKit
variable (sb o g n cap x:Nat) (t:Int) (w:World)
theorem qD (h0:w.cell? ⟨sb,o + 3,none⟩=some (.slice (some ⟨g,0,none⟩) n cap)) (hx:x < n) (hc:w.cell? ⟨g,x,none⟩=some (.int .i64 t)):
  Calls Tryz.prog 103 #[.pointer (some ⟨sb,o,none⟩),.int .i64 x] w fun e w'=>e=.returned (.bool (decide (0 < t)))/\w'=w:=by
 have x0:(0:Int) <= (x:Int):=by omega
 have x1:(x:Int) < (n:Int):=by omega
 go_enter Tryz.func103,Tryz.ntmps103
 go_wp2;go_ret
 exact ⟨rfl,rfl⟩
theorem oq (h0:w.cell? ⟨sb,o + 3,none⟩=some (.slice (some ⟨g,0,none⟩) n cap)) (hx:x < n) (hc:w.cell? ⟨g,x,none⟩=some (.int .i64 t)):
  Calls Tryz.prog 134 #[.pointer (some ⟨sb,o,none⟩),.int .i64 x] w fun e w'=>e=.returned (.bool (decide (t < 0)))/\w'=w:=by
 have x0:(0:Int) <= (x:Int):=by omega
 have x1:(x:Int) < (n:Int):=by omega
 go_enter Tryz.func134,Tryz.ntmps134
 go_wp2;go_ret
 exact ⟨rfl,rfl⟩
theorem qE (h0:w.cell? ⟨sb,o + 3,none⟩=some (.slice (some ⟨g,0,none⟩) n cap)) (hx:x < n) (hc:w.cell? ⟨g,x,none⟩=some (.int .i64 t)):
  Calls Tryz.prog 135 #[.pointer (some ⟨sb,o,none⟩),.int .i64 x] w fun e w'=>e=.returned (.bool (t == 0))/\w'=w:=by
 have x0:(0:Int) <= (x:Int):=by omega
 have x1:(x:Int) < (n:Int):=by omega
 go_enter Tryz.func135,Tryz.ntmps135
 go_wp2;go_ret
 exact ⟨rfl,rfl⟩
theorem jH (a:Option Addr) (h0:w.cell? ⟨sb,o + 2,none⟩=some (.slice a n cap)):
  Calls Tryz.prog 99 #[.pointer (some ⟨sb,o,none⟩)] w fun e w'=>e=.returned (.int .i64 n)/\w'=w:=by
 go_enter Tryz.func99,Tryz.ntmps99
 go_wp2;go_ret
 exact ⟨rfl,rfl⟩
theorem gZ (h0:w.cell? ⟨sb,o,none⟩=some (.slice (some ⟨g,0,none⟩) n cap)) (hx:x < n) (hn:n <= maxLen) (hc:w.cell? ⟨g,x,none⟩=some (.int .i64 t)):
  Calls Tryz.prog 220 #[.pointer (some ⟨sb,o,none⟩),.int .i64 x] w fun e w'=>e=.returned (.int .i64 t)/\w'=w:=by
 unfold maxLen at hn;have x0:(0:Int) <= (x:Int):=by omega
 have x1:(x:Int) < (n:Int):=by omega
 go_enter Tryz.func220,Tryz.ntmps220
 go_wp2;go_ret
 exact ⟨rfl,rfl⟩
theorem wP (h0:w.cell? ⟨sb,o,none⟩=some (.slice (some ⟨g,0,none⟩) n cap)) (hx:x + 1 < n) (hn:n <= maxLen) (hc:w.cell? ⟨g,x + 1,none⟩=some (.int .i64 t)):
  Calls Tryz.prog 219 #[.pointer (some ⟨sb,o,none⟩),.int .i64 x] w fun e w'=>e=.returned (.int .i64 t)/\w'=w:=by
 unfold maxLen at hn;have x0:(0:Int) <= (x:Int) + 1:=by omega
 have x1:(x:Int) + 1 < (n:Int):=by omega
 have x2:((x:Int) + 1).toNat=x + 1:=by omega
 go_enter Tryz.func219,Tryz.ntmps219
 go_wp2;go_ret
 exact ⟨rfl,rfl⟩
theorem PT (h0:w.cell? ⟨sb,o,none⟩=some (.slice (some ⟨g,0,none⟩) n cap)) (hx:x + 2 < n) (hn:n <= maxLen) (hc:w.cell? ⟨g,x + 2,none⟩=some (.int .i64 t)):
  Calls Tryz.prog 242 #[.pointer (some ⟨sb,o,none⟩),.int .i64 x] w fun e w'=>e=.returned (.int .i64 t)/\w'=w:=by
 unfold maxLen at hn;have x0:(0:Int) <= (x:Int) + 2:=by omega
 have x1:(x:Int) + 2 < (n:Int):=by omega
 have x2:((x:Int) + 2).toNat=x + 2:=by omega
 go_enter Tryz.func242,Tryz.ntmps242
 go_wp2;go_ret
 exact ⟨rfl,rfl⟩
end
section
open Go Go.RowKit
variable (sb o g n cap x m:Nat) (w:World)
theorem mV (h0:w.cell? ⟨sb,o,none⟩=some (.slice (some ⟨g,0,none⟩) n cap)) (hx:x + 3 + m <= n) (hn:n <= maxLen) (hc:w.cell? ⟨g,x,none⟩=some (.int .i64 m)):
  Calls Tryz.prog 213 #[.pointer (some ⟨sb,o,none⟩),.int .i64 x] w fun e w'=>e=.returned (.int .i64 ((x + 3 + m:Nat):Int))/\w'=w:=by
 have QS:=Rd.hide (fun (V:World) (hV:V.cell? ⟨sb,o,none⟩=some (.slice (some ⟨g,0,none⟩) n cap)) (hc:V.cell? ⟨g,x,none⟩=some (.int .i64 m))=>gZ sb o g n cap x m V hV (by omega) hn hc)
 unfold maxLen at hn;have e:Hid (((x + 3 + m:Nat):Int)=(x:Int) + 3 + m):=by unfold Hid;omega
 go_enter Tryz.func213,Tryz.ntmps213
 go_wp2_with (go_at_call 220;refine (Rd.gV QS _ h0 hc).mono ?_;rintro e w' ⟨rfl,rfl⟩)
 go_ret
 refine ⟨?_,rfl⟩;rw [Rd.gV e];rfl
def fV (g x m cap:Nat):Value:=.slice (if cap=x + 3 then some ⟨g,0,none⟩ else some ⟨g,x + 3,none⟩) m (cap - (x + 3))
theorem fu (h0:w.cell? ⟨sb,o,none⟩=some (.slice (some ⟨g,0,none⟩) n cap)) (hx:x + 3 + m <= n) (hn:n <= maxLen) (hcap:n <= cap) (hc:w.cell? ⟨g,x,none⟩=some (.int .i64 m)):
  Calls Tryz.prog 175 #[.pointer (some ⟨sb,o,none⟩),.int .i64 x] w fun e w'=>e=.returned (fV g x m cap)/\∃ k,w'=w.drewN k:=by
 have QB:=Rd.hide (fun (V:World) (hV:V.cell? ⟨sb,o,none⟩=some (.slice (some ⟨g,0,none⟩) n cap)) (hc:V.cell? ⟨g,x,none⟩=some (.int .i64 m))=>mV sb o g n cap x m V hV hx hn hc)
 unfold maxLen at hn;have a0:(0:Int) <= (x:Int) + 3:=by omega
 have a1:(x:Int) + 3 <= ((x + 3 + m:Nat):Int):=by omega
 have a2:((x + 3 + m:Nat):Int) <= (cap:Int):=by omega
 have a3:((x:Int) + 3).toNat=x + 3:=by omega
 have a4:(((x + 3 + m:Nat):Int)).toNat=x + 3 + m:=by omega
 go_enter Tryz.func175,Tryz.ntmps175
 go_wp2_with fail
 go_quiet ((go_at_call 213;exact Calls.quiet_of_same (Rd.gV QB _ h0 hc)))
 go_wp2
 ·go_ret
  exact ⟨by unfold fV;rw [if_pos rfl];simp,_,rfl⟩
 ·go_ret
  refine ⟨?_,_,rfl⟩;unfold fV;rw [if_neg (by assumption)]
  rfl
end
end So
end Go.Proofs.YtceahffmenbibaaGreatDoor
