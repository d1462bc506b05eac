/- Ssol Slog Slit Srd Scl Sasg Sdel Sbck Sadd Sles Spro. -/
import Derived.Test.YtceahffmenbibaaGreatDoorG00
import Derived.Deep.OwnRows
import Derived.BigQuiet
import Derived.Deep.CutRange
import Derived.Deep.RegionWith
import Derived.Outline
set_option linter.unusedVariables false
set_option linter.unusedSimpArgs false
set_option maxHeartbeats 2000000
set_option maxRecDepth 100000
namespace Go.Proofs.YtceahffmenbibaaGreatDoor
namespace So
section
open Go Go.RowKit Go.Deep Rd
section
def kP (k:Nat):TypeId:=if k=9 then 43 else if k=10\/k=11 then 4 else if k=12 then 5 else if k=14 then 2 else 3
theorem UG (k:Nat):kP k ≠ 167:=by unfold kP;split <;> (try split) <;> (try split) <;> (try split) <;> decide
def cellOf:Nat->Nat
 | 0=>2 | 1=>6 | 2=>8 | 3=>9 | 4=>10 | 5=>11 | 6=>13 | 7=>15 | 8=>19 | 9=>5 | 10=>16 | 11=>17 | _=>1
structure dQ (Z:Nat->Prop) (sb:Nat) (w:World) (K:Nat) (f V:Nat->Value) (X:Nat->List Value):Prop where
 row:w.rowIs sb 167 22 f
 eO:rU 0 w K kP V X
 hdr:∀ k,k < 13->f (cellOf k)=V k
 jg:Z sb
 al:∀ k,k < K->∀ g,(V k).ownBlock=some g->Z g
 az:∀ g,w.heap.size <= g->Z g
 hK:16 <= K
variable {Z:Nat->Prop} {sb K:Nat} {w w':World} {f V:Nat->Value} {X:Nat->List Value}
theorem dQ.far (h:dQ Z sb w K f V X) {k:Nat} (j:k < K):∀ g,(V k).ownBlock=some g->g ≠ sb:=fun g b e=>by
 obtain ⟨c,i,_⟩:=h.row
 rcases (h.eO.own k j).2 with ⟨d,_⟩ | ⟨l,cap,p,d,_,a,_⟩
 ·rw [d] at b;cases b
 ·rw [d] at b;obtain rfl:l=g:=Option.some.inj b;rw [e,i] at a;exact UG k (Obj.cells.inj (Option.some.inj a)).2.1.symm
theorem dQ.later (h:dQ Z sb w K f V X) (a:Below w.heap.size w w'):dQ Z sb w' K f V X:=
 ⟨h.row.of_block (a.block _ h.row.lt),h.eO.later a,h.hdr,h.jg,h.al,fun g b=>h.az g (Nat.le_trans a.size b),h.hK⟩
theorem dQ.head (h:dQ Z sb w K f V X) (j:Nat) (a:j < 22):w.cell? ⟨sb,j,none⟩=some (f j)/\w.frozen? ⟨sb,j,none⟩=false:=⟨h.row.cell a,h.row.frozen j⟩
theorem dQ.hd (h:dQ Z sb w K f V X) {k:Nat} (a:k < 13):w.cell? ⟨sb,cellOf k,none⟩=some (V k)/\w.frozen? ⟨sb,cellOf k,none⟩=false:=by
 have b:cellOf k < 22:=by unfold cellOf;split <;> decide
 have:=h.head _ b;rw [h.hdr k a] at this;exact this
theorem dQ.scalar (h:dQ Z sb w K f V X) (j:Nat) (u:Value) (c:∀ k,k < 13->cellOf k ≠ j):dQ Z sb (w.setCell ⟨sb,j,none⟩ u) K (upd f j u) V X where
 row:=(h.row.set j u).congr fun i d=>by unfold upd;rfl
 eO:=h.eO.kept fun k g a b=>Below.heap_setCell _ _ _ _ (by simpa using h.far a g b)
 hdr:=fun k a=>by rw [cz _ _ (c k a)];exact h.hdr k a
 jg:=h.jg
 al:=h.al
 az:=fun g b=>h.az g (by simpa [World.setCell] using b)
 hK:=h.hK
theorem dQ.set (h:dQ Z sb w K f V X) {k:Nat} (b:k < K) {g n cap:Nat} (a:V k=.slice (some ⟨g,0,none⟩) n cap) (j:Nat) (u:Value):dQ Z sb (w.setCell ⟨g,j,none⟩ u) K f V (upd X k ((X k).set j u)) where
 row:=h.row.of_block (Below.heap_setCell _ _ _ _ (fun e=>h.far b g (by rw [a];rfl) e.symm))
 eO:=h.eO.set b a j u
 hdr:=h.hdr
 jg:=h.jg
 al:=h.al
 az:=fun g c=>h.az g (by simpa [World.setCell] using c)
 hK:=h.hK
theorem JL:∀ k,k < 13->∀ j,j < 13->cellOf k=cellOf j->k=j:=by decide +kernel
theorem dQ.header (h:dQ Z sb w K f V X) {k:Nat} (r:k < 13) {j:Nat->Value} {X':Nat->List Value} {w6:World} {v':Value} (a:w6.rowIs sb 167 22 f) (d:rU 0 w6 K kP j X') (s:j=upd V k v') (c:∀ i,i < K->∀ g,(j i).ownBlock=some g->g ≠ sb) (q:w.heap.size <= w6.heap.size) (p:∀ i,i < K->∀ g,(j i).ownBlock=some g->Z g):
  dQ Z sb (w6.setCell ⟨sb,cellOf k,none⟩ v') K (upd f (cellOf k) v') j X' where
 row:=(a.set (cellOf k) v').congr fun i b=>by unfold upd;rfl
 eO:=d.kept fun i g b l=>Below.heap_setCell _ _ _ _ (by simpa using c i b g l)
 hdr:=fun i b=>by
  rw [s];by_cases e:i=k
  ·subst e;rw [cK,cK]
  ·rw [cz _ _ e,cz _ _ (fun u=>e (JL i b k r u))]
   exact h.hdr i b
 jg:=h.jg
 al:=p
 az:=fun g l=>h.az g (by simp [World.setCell] at l;omega)
 hK:=h.hK
theorem dQ.push (h:dQ Z sb w K f V X) {k:Nat} (q:k < 13) {ob:Obj} {v':Value} {w6:World} {m:Nat} {news:List Value} (p:news.length=m) (A:dB (w.alloc ob) 0 (kP k) 1 (V k) (X k).length (X k) m news v' w6):
  dQ Z sb (w6.setCell ⟨sb,cellOf k,none⟩ v') K (upd f (cellOf k) v') (upd V k v') (upd X k (X k ++ news)):=by
 have d:k < K:=by have:=h.hK;omega
 have c:=h.later ((Below.refl _ w).alloc lr ob);have l:=c.row.lt;refine h.header q (c.row.of_block (A.grew.block sb l (fun e=>c.far d sb e.symm rfl))) (c.eO.push d p A) rfl (fun i j g a=>?_) (by have:=A.grew.size;simp at this;omega) (fun i j g a=>?_)
 ·by_cases e:i=k
  ·subst e;rw [cK] at a
   rcases A.at' with b | b
   ·rw [b] at a;exact c.far j g a
   ·rw [b] at a;have:=Option.some.inj a;omega
  ·rw [cz _ _ e] at a;exact c.far j g a
 ·by_cases e:i=k
  ·subst e;rw [cK] at a
   rcases A.at' with b | b
   ·rw [b] at a;exact h.al i j g a
   ·rw [b] at a;have:=Option.some.inj a;exact h.az g (by simp at this;omega)
  ·rw [cz _ _ e] at a;exact h.al i j g a
theorem dQ.jR (h:dQ Z sb w K f V X) {k:Nat} (c:k < K) {ob:Obj} {v':Value} {w6:World} {m:Nat} {news:List Value} (A:dB (w.alloc ob) 0 (kP k) 1 (V k) (X k).length (X k) m news v' w6) (j:Nat) (d:j < 22):w6.cell? ⟨sb,j,none⟩=some (f j)/\w6.frozen? ⟨sb,j,none⟩=false:=by
 have a:=h.later ((Below.refl _ w).alloc lr ob);have b:=a.row.of_block (A.grew.block sb a.row.lt (fun e=>a.far c sb e.symm rfl))
 exact ⟨b.cell d,b.frozen j⟩
theorem dQ.nS (h:dQ Z sb w K f V X) {k:Nat} (a:k < K) {ob:Obj} {v':Value} {w6:World} {m:Nat} {news:List Value} (A:dB (w.alloc ob) 0 (kP k) 1 (V k) (X k).length (X k) m news v' w6) (j:Nat) (u:Value):dC Z w (w6.setCell ⟨sb,j,none⟩ u):=
 (((dC.refl w).alloc ob).grown A.grew (fun g b=>h.al k a g b)).setCell h.jg _
theorem dQ.elem (h:dQ Z sb w K f V X) {k j n:Nat} (l:k < 13) (i:(X k).length=n) (b:j < n):∃ g cap t,V k=.slice (some ⟨g,0,none⟩) n cap/\w.cell? ⟨sb,cellOf k,none⟩=some (.slice (some ⟨g,0,none⟩) n cap)/\w.cell? ⟨g,j,none⟩=some t/\(X k)[j]? = some t/\w.frozen? ⟨g,j,none⟩=false/\Z g/\g < w.heap.size/\g ≠ sb:=by
 have a:k < K:=by have:=h.hK;omega
 subst i;obtain ⟨g,cap,p,e,u,r,s⟩:=h.eO.block a (by omega)
 obtain ⟨d,q⟩:=h.eO.cell a e b;have c:=(h.hd l).1;rw [e] at c;rw [List.getElem?_eq_getElem b] at d;exact ⟨g,cap,(X k)[j],e,c,d,List.getElem?_eq_getElem b,q,h.al k a g (by rw [e];rfl),((h.eO.own k a).lt g (by rw [e];rfl)).2,h.far a g (by rw [e];rfl)⟩
theorem dQ.cut (h:dQ Z sb w K f V X) {k:Nat} (q:k < 13) {a:Option Addr} {n cap m:Nat} (l:V k=.slice a n cap) (p:m <= (X k).length):
  dQ Z sb (w.setCell ⟨sb,cellOf k,none⟩ (.slice a m cap)) K (upd f (cellOf k) (.slice a m cap)) (upd V k (.slice a m cap)) (upd X k ((X k).take m)):=by
 have d:k < K:=by have:=h.hK;omega
 have c:∀ i g,(upd V k (.slice a m cap) i).ownBlock=some g->(V i).ownBlock=some g:=fun i g b=>by
  by_cases e:i=k
  ·subst e;rw [cK] at b;rw [l];cases a <;> exact b
  ·rw [cz _ _ e] at b;exact b
 exact h.header q h.row (h.eO.cut d l p) rfl (fun i j g b=>h.far j g (c i g b)) lr (fun i j g b=>h.al i j g (c i g b))
end
end
section
open Rd
def wr (x:Nat):Int:=if x % 2=0 then ((x / 2:Nat):Int) + 1 else -(((x / 2:Nat):Int) + 1)
def op (x:Nat):Nat:=if x % 2=0 then x + 1 else x - 1
theorem gH (x:Nat):op x / 2=x / 2:=by unfold op;split <;> omega
theorem kr (x:Nat):op (op x)=x:=by unfold op;split <;> split <;> omega
theorem Em (x:Nat):wr (op x)=-(wr x):=by
 unfold wr;rw [gH];unfold op;split
 ·rename_i h;rw [if_neg (by omega)]
 ·rename_i h;rw [if_pos (by omega)]
  omega
theorem U5 (x:Nat):wr x ≠ 0:=by unfold wr;split <;> omega
theorem Kj (x:Nat):op x ≠ x:=by unfold op;split <;> omega
theorem Pv {x y:Nat} (h:op x=op y):x=y:=by rw [<- kr x,h,kr]
theorem qQ {x y:Nat} (h:x / 2=y / 2):x=y\/x=op y:=by unfold op;split <;> omega
def There (L:List Cl) (c:List Nat):Prop:=∃ d ∈ L,∀ x:Int,x ∈ d↔∃ y ∈ c,wr y=x
structure Trail (L:List Cl) (tr:List Nat) (rs:Nat->Option (List Nat)):Prop where
 nodup:(tr.map (· / 2)).Nodup
 why:∀ (i:Nat) (h:i < tr.length) c,rs (tr[i] / 2)=some c->∃ r,c=tr[i] :: r/\There L c/\∀ y ∈ r,∃ j,∃ hj:j < tr.length,j < i/\tr[j]=op y
theorem Ns {L:List Cl} {tr:List Nat} {J:Nat->Option (List Nat)} (T:Trail L tr J) {N:Nat->Prop} {cut:List Nat}
  (R:∀ (i:Nat) (h:i < tr.length),N (tr[i] / 2)->tr[i] ∈ cut\/∃ c r,J (tr[i] / 2)=some c/\c=tr[i] :: r/\∀ y ∈ r,N (y / 2))
  {M:Int->Prop} (hM:Cons M) (Q:∀ l ∈ cut.map wr,M l) (O:Stable L M):∀ (n i:Nat) (h:i < tr.length),i <= n->N (tr[i] / 2)->M (wr tr[i]):=by
 intro n
 induction n with
 | zero=>
  intro i h hi u
  rcases R i h u with A | ⟨c,r,A,v,S⟩
  ·exact Q _ (List.mem_map.2 ⟨_,A,rfl⟩)
  ·obtain ⟨U,e,D,E⟩:=T.why i h c A;rw [v] at e;obtain ⟨_,rfl⟩:=List.cons.inj e
   cases r with
   | nil=>
    obtain ⟨d,hd,p⟩:=D
    rcases O d hd with ⟨l,F,C⟩ | ⟨a,I,b,H,q,_⟩
    ·obtain ⟨y,k,rfl⟩:=(p l).1 F;rw [v] at k;obtain rfl:y=tr[i]:=by simpa using k
     exact C
    ·obtain ⟨y,k,rfl⟩:=(p a).1 I;obtain ⟨z,s,rfl⟩:=(p b).1 H;rw [v] at k s;obtain rfl:y=tr[i]:=by simpa using k
     obtain rfl:z=tr[i]:=by simpa using s
     exact absurd rfl q
   | cons y r=>
    obtain ⟨j,P,G,_⟩:=E y (List.mem_cons_self ..);omega
 | succ n ih=>
  intro i h hi u
  rcases R i h u with A | ⟨c,r,A,v,S⟩
  ·exact Q _ (List.mem_map.2 ⟨_,A,rfl⟩)
  ·obtain ⟨U,e,D,E⟩:=T.why i h c A;rw [v] at e;obtain ⟨_,rfl⟩:=List.cons.inj e;have B:∀ y ∈ r,M (-(wr y)):=fun y k=>by
    obtain ⟨j,P,G,e⟩:=E y k;have:=ih j P (by omega) (by rw [e,gH];exact S y k)
    rw [e,Em] at this;exact this
   obtain ⟨d,hd,p⟩:=D
   rcases O d hd with ⟨l,F,C⟩ | ⟨a,I,b,H,q,Y,W⟩
   ·obtain ⟨y,k,rfl⟩:=(p l).1 F;rw [v] at k
    rcases List.mem_cons.1 k with rfl | k
    ·exact C
    ·exact absurd (B y k) (fun h=>hM _ C h)
   ·obtain ⟨y,k,rfl⟩:=(p a).1 I;obtain ⟨z,s,rfl⟩:=(p b).1 H;rw [v] at k s
    rcases List.mem_cons.1 k with e1 | k
    ·rcases List.mem_cons.1 s with e2 | s
     ·rw [e1,e2] at q;exact absurd rfl q
     ·exact absurd (B z s) W
    ·exact absurd (B y k) Y
theorem za {L:List Cl} {tr:List Nat} {s:Nat->Option (List Nat)} (T:Trail L tr s) {N:Nat->Prop} {cut q:List Nat}
  (H:∀ (i:Nat) (h:i < tr.length),N (tr[i] / 2)->tr[i] ∈ cut\/∃ c r,s (tr[i] / 2)=some c/\c=tr[i] :: r/\∀ y ∈ r,N (y / 2))
  (I:There L q) (D:∀ y ∈ q,op y ∈ tr) (A:∀ y ∈ q,N (y / 2)):jo L (cut.map wr):=by
 intro M v E u;have p:∀ y ∈ q,M (-(wr y)):=fun y j=>by
  obtain ⟨i,h,e⟩:=List.mem_iff_getElem.1 (D y j);have:=Ns T H v E u i i h lr (by rw [e,gH];exact A y j)
  rw [e,Em] at this;exact this
 obtain ⟨d,hd,k⟩:=I
 rcases u d hd with ⟨l,C,B⟩ | ⟨a,G,b,O,F,z,J⟩
 ·obtain ⟨y,j,rfl⟩:=(k l).1 C;exact v _ B (p y j)
 ·obtain ⟨y,j,rfl⟩:=(k a).1 G;exact z (p y j)
theorem QY {L:List Cl} {tr:List Nat} {a:Nat->Option (List Nat)} (T:Trail L tr a) (k:∀ (i:Nat) (h:i < tr.length),∃ c,a (tr[i] / 2)=some c) {d:List Nat} (l:There L d) (j:∀ y ∈ d,op y ∈ tr):jo L []:=by
 have:=za (cut:=[]) (N:=fun _=>True) T (fun i h _=>by
  obtain ⟨c,b⟩:=k i h;obtain ⟨r,e,_⟩:=T.why i h c b;exact .inr ⟨c,r,b,e,fun _ _=>trivial⟩) l j (fun _ _=>trivial)
 exact this
end
section
open Go Go.RowKit
theorem eT (x:Nat) (w:World) (a:x <= 1000):Calls Tryz.prog 176 #[.int .i64 x] w fun e w'=>e=.returned (.int .i64 ((x / 2:Nat):Int))/\w'=w:=by
 have hd:Int.tdiv (x:Int) 2=((x / 2:Nat):Int):=by rw [Int.tdiv_eq_ediv_of_nonneg (by omega)];omega
 go_enter Tryz.func176,Tryz.ntmps176
 go_wp2;go_ret
 exact ⟨rfl,rfl⟩
theorem CS (x:Nat) (w:World) (a:x <= 1000):Calls Tryz.prog 215 #[.int .i64 x] w fun e w'=>e=.returned (.bool (decide (x % 2=0)))/\w'=w:=by
 have hd:Int.tmod (x:Int) 2=((x % 2:Nat):Int):=by rw [Int.tmod_eq_emod_of_nonneg (by omega)];omega
 go_enter Tryz.func215,Tryz.ntmps215
 go_wp2;go_ret
 refine ⟨?_,rfl⟩
 congr 2
 rcases Nat.mod_two_eq_zero_or_one x with h | h
 ·simp [h];omega
 ·simp [h];omega
theorem Sw:∀ x:Nat,x < 128->Go.bits .xor .i64 (x:Int) 1=((op x:Nat):Int):=by decide +kernel
theorem kG (x:Nat) (w:World) (a:x < 128):Calls Tryz.prog 139 #[.int .i64 x] w fun e w'=>e=.returned (.int .i64 ((op x:Nat):Int))/\w'=w:=by
 have b:=Sw x a;go_enter Tryz.func139,Tryz.ntmps139
 go_wp2;go_ret
 exact ⟨rfl,rfl⟩
def lit (z:Int):Nat:=if z < 0 then 2 * ((-z).toNat - 1) + 1 else 2 * (z.toNat - 1)
theorem Cr {z:Int} (h:z ≠ 0):wr (lit z)=z:=by
 unfold wr lit;split <;> split <;> omega
theorem oQ (z:Int) (w:World) (b:z ≠ 0) (d:-64 <= z) (c:z <= 64):Calls Tryz.prog 95 #[.int .i64 z] w fun e w'=>e=.returned (.int .i64 ((lit z:Nat):Int))/\w'=w:=by
 by_cases h:z < 0
 ·have a:((lit z:Nat):Int)=2 * (-z - 1) + 1:=by unfold lit;rw [if_pos h];omega
  rw [a];go_enter Tryz.func95,Tryz.ntmps95
  go_wp2;go_ret
  exact ⟨rfl,rfl⟩
 ·have a:((lit z:Nat):Int)=2 * (z - 1):=by unfold lit;rw [if_neg h];omega
  rw [a];go_enter Tryz.func95,Tryz.ntmps95
  go_wp2;go_ret
  exact ⟨rfl,rfl⟩
theorem Ah (x:Nat) (w:World) (i:x <= 1000):Calls Tryz.prog 181 #[.int .i64 x] w fun e w'=>e=.returned (.int .i64 (wr x))/\w'=w:=by
 obtain ⟨t,a⟩:∃ t,decide (x % 2=0)=t:=⟨_,rfl⟩;have b:=Rd.hide (fun V=>eT x V i)
 have c:=Rd.hide (fun V=>CS x V i)
 rw [a] at c;have hd:(x / 2:Nat) <= 500:=by omega
 have d:Hid (wr x=if t then ((x / 2:Nat):Int) + 1 else -(((x / 2:Nat):Int) + 1)):=by
  unfold Hid wr;subst a;by_cases h:x % 2=0 <;> simp [h]
 generalize x / 2=v at b hd d;clear a;go_enter Tryz.func181,Tryz.ntmps181
 cases t with
 | true=>
  go_wp2_with (first | (go_at_call 176;refine (Rd.jV b _).mono ?_;rintro e w' ⟨rfl,rfl⟩) | (go_at_call 215;refine (Rd.jV c _).mono ?_;rintro e w' ⟨rfl,rfl⟩))
  go_ret
  exact ⟨by rw [Rd.jV d];rfl,rfl⟩
 | false=>
  go_wp2_with (first | (go_at_call 176;refine (Rd.jV b _).mono ?_;rintro e w' ⟨rfl,rfl⟩) | (go_at_call 215;refine (Rd.jV c _).mono ?_;rintro e w' ⟨rfl,rfl⟩))
  go_ret
  exact ⟨by rw [Rd.jV d];rfl,rfl⟩
section
variable (sb o g n cap x:Nat) (t:Int) (w:World)
theorem ug (h:w.cell? ⟨sb,o + 3,none⟩=some (.slice (some ⟨g,0,none⟩) n cap)) (c:x < n) (d:w.cell? ⟨g,x,none⟩=some (.int .i64 t)):
  Calls Tryz.prog 103 #[.pointer (some ⟨sb,o,none⟩),.int .i64 x] w fun e w'=>e=.returned (.bool (decide (0 < t)))/\w'=w:=by
 have b:(0:Int) <= (x:Int):=by omega
 have a:(x:Int) < (n:Int):=by omega
 go_enter Tryz.func103,Tryz.ntmps103
 go_wp2;go_ret
 exact ⟨rfl,rfl⟩
theorem rf (h:w.cell? ⟨sb,o + 3,none⟩=some (.slice (some ⟨g,0,none⟩) n cap)) (c:x < n) (d:w.cell? ⟨g,x,none⟩=some (.int .i64 t)):
  Calls Tryz.prog 134 #[.pointer (some ⟨sb,o,none⟩),.int .i64 x] w fun e w'=>e=.returned (.bool (decide (t < 0)))/\w'=w:=by
 have b:(0:Int) <= (x:Int):=by omega
 have a:(x:Int) < (n:Int):=by omega
 go_enter Tryz.func134,Tryz.ntmps134
 go_wp2;go_ret
 exact ⟨rfl,rfl⟩
theorem uh (h:w.cell? ⟨sb,o + 3,none⟩=some (.slice (some ⟨g,0,none⟩) n cap)) (c:x < n) (d:w.cell? ⟨g,x,none⟩=some (.int .i64 t)):
  Calls Tryz.prog 135 #[.pointer (some ⟨sb,o,none⟩),.int .i64 x] w fun e w'=>e=.returned (.bool (t == 0))/\w'=w:=by
 have b:(0:Int) <= (x:Int):=by omega
 have a:(x:Int) < (n:Int):=by omega
 go_enter Tryz.func135,Tryz.ntmps135
 go_wp2;go_ret
 exact ⟨rfl,rfl⟩
theorem ny (a:Option Addr) (b:w.cell? ⟨sb,o + 2,none⟩=some (.slice a n cap)):
  Calls Tryz.prog 99 #[.pointer (some ⟨sb,o,none⟩)] w fun e w'=>e=.returned (.int .i64 n)/\w'=w:=by
 go_enter Tryz.func99,Tryz.ntmps99
 go_wp2;go_ret
 exact ⟨rfl,rfl⟩
theorem jw (i:w.cell? ⟨sb,o,none⟩=some (.slice (some ⟨g,0,none⟩) n cap)) (d:x < n) (a:n <= maxLen) (h:w.cell? ⟨g,x,none⟩=some (.int .i64 t)):
  Calls Tryz.prog 220 #[.pointer (some ⟨sb,o,none⟩),.int .i64 x] w fun e w'=>e=.returned (.int .i64 t)/\w'=w:=by
 unfold maxLen at a;have c:(0:Int) <= (x:Int):=by omega
 have b:(x:Int) < (n:Int):=by omega
 go_enter Tryz.func220,Tryz.ntmps220
 go_wp2;go_ret
 exact ⟨rfl,rfl⟩
theorem zb (j:w.cell? ⟨sb,o,none⟩=some (.slice (some ⟨g,0,none⟩) n cap)) (h:x + 1 < n) (a:n <= maxLen) (i:w.cell? ⟨g,x + 1,none⟩=some (.int .i64 t)):
  Calls Tryz.prog 219 #[.pointer (some ⟨sb,o,none⟩),.int .i64 x] w fun e w'=>e=.returned (.int .i64 t)/\w'=w:=by
 unfold maxLen at a;have d:(0:Int) <= (x:Int) + 1:=by omega
 have c:(x:Int) + 1 < (n:Int):=by omega
 have b:((x:Int) + 1).toNat=x + 1:=by omega
 go_enter Tryz.func219,Tryz.ntmps219
 go_wp2;go_ret
 exact ⟨rfl,rfl⟩
theorem Rn (j:w.cell? ⟨sb,o,none⟩=some (.slice (some ⟨g,0,none⟩) n cap)) (h:x + 2 < n) (a:n <= maxLen) (i:w.cell? ⟨g,x + 2,none⟩=some (.int .i64 t)):
  Calls Tryz.prog 242 #[.pointer (some ⟨sb,o,none⟩),.int .i64 x] w fun e w'=>e=.returned (.int .i64 t)/\w'=w:=by
 unfold maxLen at a;have d:(0:Int) <= (x:Int) + 2:=by omega
 have c:(x:Int) + 2 < (n:Int):=by omega
 have b:((x:Int) + 2).toNat=x + 2:=by omega
 go_enter Tryz.func242,Tryz.ntmps242
 go_wp2;go_ret
 exact ⟨rfl,rfl⟩
end
section
variable (sb o g n cap x m:Nat) (w:World)
theorem qz (c:w.cell? ⟨sb,o,none⟩=some (.slice (some ⟨g,0,none⟩) n cap)) (h:x + 3 + m <= n) (b:n <= maxLen) (a:w.cell? ⟨g,x,none⟩=some (.int .i64 m)):
  Calls Tryz.prog 213 #[.pointer (some ⟨sb,o,none⟩),.int .i64 x] w fun e w'=>e=.returned (.int .i64 ((x + 3 + m:Nat):Int))/\w'=w:=by
 have d:=Rd.hide (fun (V:World) (hV:V.cell? ⟨sb,o,none⟩=some (.slice (some ⟨g,0,none⟩) n cap)) (a:V.cell? ⟨g,x,none⟩=some (.int .i64 m))=>jw sb o g n cap x m V hV (by omega) b a)
 unfold maxLen at b;have e:Hid (((x + 3 + m:Nat):Int)=(x:Int) + 3 + m):=by unfold Hid;omega
 go_enter Tryz.func213,Tryz.ntmps213
 go_wp2_with (go_at_call 220;refine (Rd.jV d _ c a).mono ?_;rintro e w' ⟨rfl,rfl⟩)
 go_ret
 refine ⟨?_,rfl⟩;rw [Rd.jV e];rfl
def jB (g x m cap:Nat):Value:=.slice (if cap=x + 3 then some ⟨g,0,none⟩ else some ⟨g,x + 3,none⟩) m (cap - (x + 3))
theorem iY (h:w.cell? ⟨sb,o,none⟩=some (.slice (some ⟨g,0,none⟩) n cap)) (d:x + 3 + m <= n) (b:n <= maxLen) (c:n <= cap) (a:w.cell? ⟨g,x,none⟩=some (.int .i64 m)):
  Calls Tryz.prog 175 #[.pointer (some ⟨sb,o,none⟩),.int .i64 x] w fun e w'=>e=.returned (jB g x m cap)/\∃ k,w'=w.drewN k:=by
 have i:=Rd.hide (fun (V:World) (hV:V.cell? ⟨sb,o,none⟩=some (.slice (some ⟨g,0,none⟩) n cap)) (a:V.cell? ⟨g,x,none⟩=some (.int .i64 m))=>qz sb o g n cap x m V hV d b a)
 unfold maxLen at b;have r:(0:Int) <= (x:Int) + 3:=by omega
 have q:(x:Int) + 3 <= ((x + 3 + m:Nat):Int):=by omega
 have p:((x + 3 + m:Nat):Int) <= (cap:Int):=by omega
 have l:((x:Int) + 3).toNat=x + 3:=by omega
 have j:(((x + 3 + m:Nat):Int)).toNat=x + 3 + m:=by omega
 go_enter Tryz.func175,Tryz.ntmps175
 go_wp2_with fail
 go_quiet ((go_at_call 213;exact Calls.quiet_of_same (Rd.jV i _ h a)))
 go_wp2
 ·go_ret
  exact ⟨by unfold jB;rw [if_pos rfl];simp,_,rfl⟩
 ·go_ret
  refine ⟨?_,_,rfl⟩;unfold jB;rw [if_neg (by assumption)]
  rfl
end
end
section
open Go Go.RowKit Go.Deep Rd
section
variable {Z:Nat->Prop} {sb K:Nat} {w w':World} {f V:Nat->Value} {X:Nat->List Value}
theorem Tryz.fP:(Tryz.prog.info? 3).map (fun i=>(i.zero,i.size,i.bytes))=some (some (.int .i64 0),1,8):=by kernel_rfl
def fw (X:Nat->List Value) (x:Nat) (r:Int) (d:Nat):Nat->List Value:=
 upd (upd (upd (upd X 1 (X 1 ++ [.int .i64 x])) 3 (((X 3).set x (.int .i64 1)).set (op x) (.int .i64 (-1)))) 4 ((X 4).set (x / 2) (.int .i64 d))) 5 ((X 5).set (x / 2) (.int .i64 r))
theorem qA (x vars d:Nat) (r:Int) (hx:x < 2 * vars) (ac:vars <= 50) (h:dQ Z sb w K f V X) (h1:(X 1).length <= 1000) (h2:(X 2).length=d) (h3:(X 3).length=2 * vars) (h4:(X 4).length=vars) (h5:(X 5).length=vars):
  Calls Tryz.prog 136 #[.pointer (some ⟨sb,6,none⟩),.int .i64 x,.int .i64 r] w fun e w'=>e=.returned (.tuple #[])/\dC Z w w'/\∃ v',dQ Z sb w' K (upd f 6 v') (upd V 1 v') (fw X x r d):=by
 obtain ⟨i0,hi,ab,aa,W⟩:=info_parts Tryz.fP;have R:=hide h;have hK:=h.hK;obtain ⟨a1,c1,P⟩:=h.eO.shape (k:=1) (by omega)
 have s:=(h.hd (k:=1) (by omega)).1
 have G:=(h.hd (k:=1) (by omega)).2
 rw [show cellOf 1=6 from rfl] at s G
 rw [P] at s;have O1:Hid (w.ownsRow 0 3 1 (.slice a1 (X 1).length c1) (X 1).length (X 1)):=by
  have:=h.eO.own 1 (by omega)
  rw [P] at this;exact this
 have E1:=hide P;have ak:=h.row.lt;have al:=h.jg;have ns:¬ (sb=w.heap.size):=by omega
 clear h P;go_enter Tryz.func136,Tryz.ntmps136
 go_wp2_with (at_builtin;refine dR _ rfl _ _ 43 rfl 0 3 i0 (.int .i64 0) 1 8 Tryz.underlying43 hi ab aa W rfl (by decide) _ _ _ rfl (O1.out.alloc (.cells #[.int .i64 (x:Int)] 3)) (.slice (some ⟨w.heap.size,0,none⟩) 1 1) 1 [.int .i64 (x:Int)] rfl (.inr ⟨⟨w.heap.size,0,none⟩,1,rfl,(cell_one_new w _ _)⟩) rfl (by simp [Value.oneCell']) (by unfold maxLen;omega) (by omega) zl ?_)
 intro v6 w6 A6;have O:dB (w.alloc (.cells #[.int .i64 (x:Int)] 3)) 0 (kP 1) 1 (V 1) (X 1).length (X 1) 1 [.int .i64 (x:Int)] v6 w6:=by rw [E1.out];exact A6
 have D:=hide (R.out.push (k:=1) (m:=1) (news:=[.int .i64 (x:Int)]) (by omega) rfl O)
 have B6:=hide (R.out.nS (k:=1) (by omega) O 6 v6)
 have g6:=(R.out.jR (k:=1) (by omega) O 6 (by omega)).1
 have z6:=(R.out.jR (k:=1) (by omega) O 6 (by omega)).2
 obtain ⟨q,p,ad⟩:=dG A6.own;subst ad;rw [show cellOf 1=6 from rfl] at D
 clear A6 O s G O1;go_upto_region 1 with fail
 generalize af:w6.setCell ⟨sb,6,none⟩ (.slice q ((X 1).length + 1) p)=W1 at D B6 ⊢;clear af g6 z6;obtain ⟨M,z⟩:∃ F,F=upd f 6 (.slice q ((X 1).length + 1) p):=⟨_,rfl⟩;obtain ⟨H,y⟩:∃ V',V'=upd V 1 (.slice q ((X 1).length + 1) p):=⟨_,rfl⟩;obtain ⟨b,i⟩:∃ X',X'=upd X 1 (X 1 ++ [.int .i64 (x:Int)]):=⟨_,rfl⟩;rw [<- z,<- y,<- i] at D;have L2:(b 2).length=d:=by rw [i,cz _ _ (by decide)];exact h2
 have L3:(b 3).length=2 * vars:=by rw [i,cz _ _ (by decide)];exact h3
 have L4:(b 4).length=vars:=by rw [i,cz _ _ (by decide)];exact h4
 have L5:(b 5).length=vars:=by rw [i,cz _ _ (by decide)];exact h5
 have B:Hid (upd (upd (upd (upd b 3 ((b 3).set x (.int .i64 1))) 3 (((upd b 3 ((b 3).set x (.int .i64 1))) 3).set (op x) (.int .i64 (-1)))) 4 ((b 4).set (x / 2) (.int .i64 d))) 5 ((b 5).set (x / 2) (.int .i64 r))=fw X x r d):=by
  unfold Hid;rw [cK,i];unfold fw
  funext k
  unfold upd;by_cases k5:k=5
  ·simp [k5]
  ·by_cases k4:k=4
   ·simp [k4]
   ·by_cases k3:k=3
    ·simp [k3]
    ·simp [k5,k4,k3]
 have ai:=hide z;have ah:=hide y;clear i z y;have x0:(0:Int) <= (x:Int):=by omega
 have x1:(x:Int) < ((2 * vars:Nat):Int):=by omega
 obtain ⟨g3,c3,t3,e3,q3,r3,_,z3,b3,l3,n3⟩:=D.out.elem (k:=3) (j:=x) (by omega) L3 hx
 rw [show cellOf 3=9 from rfl] at q3
 have Q:=hide (D.out.set (k:=3) (by omega) e3 x (.int .i64 1))
 have B7:Hid (dC Z w (W1.setCell ⟨g3,x,none⟩ (.int .i64 1))):=B6.out.setCell b3 _;have E3:=hide e3;clear e3;go_upto_region 2 with fail
 generalize ae:W1.setCell ⟨g3,x,none⟩ (.int .i64 1)=W2 at Q B7 ⊢;clear ae q3 r3 z3 l3 n3 D B6;have U:op x < 2 * vars:=by unfold op;split <;> omega
 have M3:((upd b 3 ((b 3).set x (.int .i64 1))) 3).length=2 * vars:=by rw [cK,List.length_set];exact L3
 obtain ⟨g4,c4,t4,e4,q4,r4,_,z4,b4,l4,n4⟩:=Q.out.elem (k:=3) (j:=op x) (by omega) M3 U
 rw [show cellOf 3=9 from rfl] at q4
 have S8:=hide (fun (Y:World) (u:dQ Z sb Y K M H (upd b 3 ((b 3).set x (.int .i64 1))))=>u.set (k:=3) (by omega) e4 (op x) (.int .i64 (-1)))
 have QO:=hide (fun Y=>kG x Y (by omega))
 have o0:(0:Int) <= ((op x:Nat):Int):=by omega
 have o1:((op x:Nat):Int) < ((2 * vars:Nat):Int):=by omega
 clear e4;generalize op x=ox at *
 go_cut [] from 6 (fun E=>Hid (dQ Z sb E K M H (upd (upd b 3 ((b 3).set x (.int .i64 1))) 3 (((upd b 3 ((b 3).set x (.int .i64 1))) 3).set ox (.int .i64 (-1)))))/\Hid (dC Z w E))
 case first=>
  go_region_with (go_at_call 139;refine (QO.out _).mono ?_;rintro e7 w7 ⟨rfl,rfl⟩;simp only [])
  all_goals
   go_wp2_with fail
   go_meet;exact ⟨(S8.out _ Q.out).later bR.drew,(B7.out.setCell b4 _).drew⟩
 case rest=>
  obtain ⟨C,B9⟩:=hcut;clear Q S8 B7 q4 r4 z4 l4 n4 QO;generalize l:upd (upd b 3 ((b 3).set x (.int .i64 1))) 3 (((upd b 3 ((b 3).set x (.int .i64 1))) 3).set ox (.int .i64 (-1)))=c at C B;have P2:(c 2).length=d:=by rw [<- l,cz _ _ (by decide),cz _ _ (by decide)];exact L2
  have P4:(c 4).length=vars:=by rw [<- l,cz _ _ (by decide),cz _ _ (by decide)];exact L4
  have E4:Hid (b 4=c 4):=by unfold Hid;rw [<- l,cz _ _ (by decide),cz _ _ (by decide)]
  have N:Hid (b 5=c 5):=by unfold Hid;rw [<- l,cz _ _ (by decide),cz _ _ (by decide)]
  have P5:(c 5).length=vars:=by rw [<- N.out];exact L5
  have am:(c 4).length=vars:=P4;rw [E4.out,N.out] at B;clear l E4 N M3;have vl:x / 2 < vars:=by omega
  have QV:=hide (fun Y=>eT x Y (by omega))
  have v0:(0:Int) <= ((x / 2:Nat):Int):=by omega
  have v1:((x / 2:Nat):Int) < (vars:Int):=by omega
  obtain ⟨g5,c5,t5,e5,q5,r5,_,z5,b5,l5,n5⟩:=C.out.elem (k:=4) (j:=x / 2) (by omega) P4 vl
  rw [show cellOf 4=10 from rfl] at q5
  obtain ⟨a2,c2,e2⟩:=C.out.eO.shape (k:=2) (by omega)
  have S:=(C.out.hd (k:=2) (by omega)).1
  rw [show cellOf 2=8 from rfl,e2,P2] at S
  have QD:Hid (∀ Y:World,Y.heap=wc.heap->Calls Tryz.prog 99 #[.pointer (some ⟨sb,6,none⟩)] Y fun e w'=>e=.returned (.int .i64 d)/\w'=Y):=fun Y u=>ny sb 6 d c2 Y a2 (by rw [show Y.cell? ⟨sb,6 + 2,none⟩=wc.cell? ⟨sb,8,none⟩ from World.cell?_of_block (a:=⟨sb,8,none⟩) (by rw [u])];exact S)
  have L:=hide (fun (Y:World) (u:dQ Z sb Y K M H c)=>u.set (k:=4) (by omega) e5 (x / 2) (.int .i64 d))
  clear e5 e2;generalize x / 2=v at *
  go_upto_region 3 with fail
  go_cut [] from 6 (fun E=>Hid (dQ Z sb E K M H (upd c 4 ((c 4).set v (.int .i64 d))))/\Hid (dC Z w E))
  case first=>
   go_region_with (first
    |(go_at_call 176;refine (QV.out _).mono ?_;rintro e7 w7 ⟨rfl,rfl⟩;simp only [])
    |(go_at_call 99;refine (QD.out _ (by rfl)).mono ?_;rintro e8 w8 ⟨rfl,rfl⟩;simp only []))
   all_goals
    go_wp2_with fail
    go_meet;exact ⟨(L.out _ C.out).later bR.drew,(B9.out.setCell b5 _).drew⟩
  case rest=>
   obtain ⟨J,aj⟩:=hcut;clear C L B9 q5 r5 z5 l5 n5 QD S;have ag:((upd c 4 ((c 4).set v (.int .i64 d))) 5).length=vars:=by rw [cz _ _ (by decide)];exact P5
   have N:Hid ((upd c 4 ((c 4).set v (.int .i64 d))) 5=c 5):=cz _ _ (by decide)
   obtain ⟨g6,c6,t6,e6,q6,r6,_,z6,b6,l6,n6⟩:=J.out.elem (k:=5) (j:=v) (by omega) ag vl
   rw [show cellOf 5=11 from rfl] at q6
   have I:=hide (fun (Y:World) (u:dQ Z sb Y K M H (upd c 4 ((c 4).set v (.int .i64 d))))=>u.set (k:=5) (by omega) e6 v (.int .i64 r))
   rw [N.out,B.out] at I;clear e6;go_upto_region 4 with fail
   go_region_with (go_at_call 176;refine (QV.out _).mono ?_;rintro e7 w7 ⟨rfl,rfl⟩;simp only [])
   all_goals
    go_wp2;go_end0
    have SE:=(I.out _ J.out).later bR.drew;rw [ai.out,ah.out] at SE;exact ⟨rfl,(aj.out.setCell b6 _).drew,_,SE⟩
end
section
variable {Z:Nat->Prop} {sb K:Nat} {w w':World} {f V:Nat->Value} {X:Nat->List Value}
theorem wE (n:Int) (c:0 <= n) (a:n < 2 ^ 63):IntKind.i64.wrap n=n:=by
 have b:n < 9223372036854775808:=a;rw [IntKind.wrap_i64];omega
theorem JD (x n m:Nat) (l ws:Int) (h:dQ Z sb w K f V X) (N:(X 0).length=n) (hx:x + 2 < n) (hb:n <= 17592186044416) (P:(X 0)[x]? = some (.int .i64 m)) (O:m <= 1000) (Q:f 3=.int .i64 l) (M:f 4=.int .i64 ws) (l0:-4611686018427387904 <= l) (l1:l <= 4611686018427387904) (w0:0 <= ws) (w1:ws <= 4611686018427387904):
  Calls Tryz.prog 187 #[.pointer (some ⟨sb,2,none⟩),.int .i64 x] w fun e w'=>e=.returned (.tuple #[])/\dC Z w w'/\dQ Z sb w' K (upd (upd f 3 (.int .i64 (l - 1))) 4 (.int .i64 (ws + (3 + m)))) V (upd X 0 ((X 0).set (x + 1) (.int .i64 2))):=by
 obtain ⟨g,cap,t',v,C,L,i,I,R,g1,n1⟩:=h.elem (k:=0) (j:=x + 1) (by omega) N (by omega)
 rw [show cellOf 0=2 from rfl] at C
 have hK:=h.hK;have p:=hide (h.set (k:=0) (by omega) v (x + 1) (.int .i64 2))
 have z:Hid (dC Z w (w.setCell ⟨g,x + 1,none⟩ (.int .i64 2))):=(dC.refl _).setCell R _;have x0:(0:Int) <= (x:Int) + 1:=by omega
 have x1:(x:Int) + 1 < (n:Int):=by omega
 have W:((x:Int) + 1).toNat=x + 1:=by omega
 have c:=h.jg;have G:=hide v;have U:=hide P;clear h i v;go_enter Tryz.func187,Tryz.ntmps187
 go_upto_region 1 with fail
 generalize u:w.setCell ⟨g,x + 1,none⟩ (.int .i64 2)=E at p z ⊢;clear u C L I;obtain ⟨b,r⟩:=p.out.head 3 (by omega)
 rw [Q] at b;have d:=hide (p.out.scalar 3 (.int .i64 (l - 1)) (by decide +kernel))
 have H:Hid (dC Z w (E.setCell ⟨sb,3,none⟩ (.int .i64 (l - 1)))):=z.out.setCell c _;go_upto_region 2 with fail
 generalize s:E.setCell ⟨sb,3,none⟩ (.int .i64 (l - 1))=y at d H ⊢;clear s b r p z;obtain ⟨q,J⟩:=d.out.head 4 (by omega)
 rw [cz _ _ (by decide),M] at q
 have B:=(d.out.hd (k:=0) (by omega)).1
 rw [show cellOf 0=2 from rfl,G.out] at B
 have i:=(d.out.eO.cell (k:=0) (by omega) G.out (j:=x) (by rw [cK,List.length_set];omega)).1
 rw [cK,List.getElem?_set_ne (by omega),U.out] at i
 have S:=hide (d.out.scalar 4 (.int .i64 (ws + (3 + m))) (by decide +kernel))
 have T:Hid (∀ Y:World,Y.heap=y.heap->Calls Tryz.prog 220 #[.pointer (some ⟨sb,2,none⟩),.int .i64 x] Y fun e w'=>e=.returned (.int .i64 m)/\w'=Y):=fun Y D=>jw sb 2 g n cap x m Y (by rw [show Y.cell? ⟨sb,2,none⟩=y.cell? ⟨sb,2,none⟩ from World.cell?_of_block (a:=⟨sb,2,none⟩) (by rw [D])];exact B) (by omega) (by unfold maxLen;omega) (by rw [show Y.cell? ⟨g,x,none⟩=y.cell? ⟨g,x,none⟩ from World.cell?_of_block (a:=⟨g,x,none⟩) (by rw [D])];exact i)
 have p1:IntKind.i64.wrap (3 + (m:Int))=3 + (m:Int):=wE _ (by omega) (by omega)
 have p2:IntKind.i64.wrap (ws + (3 + (m:Int)))=ws + (3 + (m:Int)):=wE _ (by omega) (by omega)
 go_region_with (go_at_call 220;refine (T.out _ (by rfl)).mono ?_;rintro e8 w8 ⟨rfl,rfl⟩;simp only [])
 all_goals
  go_wp2;go_end0
  exact ⟨rfl,(H.out.setCell c _).drew,S.out.later bR.drew⟩
end
section
variable {Z:Nat->Prop} {sb K:Nat} {w w':World} {f V:Nat->Value} {X:Nat->List Value}
theorem eQ {α:Type} (f:Nat->α) (k:Nat) (a b:α):upd (upd f k a) k b=upd f k b:=by funext j;unfold upd;split <;> simp_all
def dx (l:List Nat):List Value:=l.map fun (n:Nat)=>Value.int .i64 (n:Int)
theorem df (l:List Nat):(dx l).length=l.length:=by simp [dx]
theorem iK (l:List Nat) (i:Nat) (h:i < l.length):(dx l)[i]? = some (.int .i64 (l[i]:Nat)):=by simp [dx,h]
def o8 (T:List Value):List Nat->List Value
 | []=>T
 | x :: r=>o8 ((T.set x (.int .i64 0)).set (op x) (.int .i64 0)) r
theorem Ld (T:List Value) (l:List Nat) (x:Nat):o8 T (l ++ [x])=((o8 T l).set x (.int .i64 0)).set (op x) (.int .i64 0):=by
 induction l generalizing T with
 | nil=>rfl
 | cons y r ih=>exact ih _
theorem yh (T:List Value) (l:List Nat):(o8 T l).length=T.length:=by
 induction l generalizing T with
 | nil=>rfl
 | cons y r ih=>rw [o8,ih];simp
def W9 (Z:Nat->Prop) (sb:Nat) (w:World) (K:Nat) (f V:Nat->Value) (X:Nat->List Value) (tr:List Nat) (i28:Value) (wr:World):Prop:=
 ∃ i:Nat,i28=.int .i64 i/\i <= tr.length/\Hid (dQ Z sb wr K f V (upd X 3 (o8 (X 3) (tr.take i)))/\dC Z w wr)
theorem UM (b:Nat) (h:dQ Z sb w K f V X) (hd:(X 2).length <= b) (i:b <= 1000):
  Calls Tryz.prog 177 #[.pointer (some ⟨sb,6,none⟩),.int .i64 b] w fun e w'=>e=.returned (.slice none 0 0)/\w'=w:=by
 have u:=h.hK;obtain ⟨p,l,d⟩:=h.eO.shape (k:=2) (by omega)
 have c:=(h.hd (k:=2) (by omega)).1
 rw [show cellOf 2=8 from rfl,d] at c
 have q:Hid (∀ Y:World,Y.heap=w.heap->Calls Tryz.prog 99 #[.pointer (some ⟨sb,6,none⟩)] Y fun e w'=>e=.returned (.int .i64 (X 2).length)/\w'=Y):=fun Y j=>ny sb 6 (X 2).length l Y p (by rw [show Y.cell? ⟨sb,6 + 2,none⟩=w.cell? ⟨sb,8,none⟩ from World.cell?_of_block (a:=⟨sb,8,none⟩) (by rw [j])];exact c)
 generalize (X 2).length=n at *
 have s:(n:Int) <= (b:Int):=by omega
 clear h d;go_enter Tryz.func177,Tryz.ntmps177
 go_wp2_with (go_at_call 99;refine (q.out _ (by rfl)).mono ?_;rintro v r ⟨rfl,rfl⟩)
 go_ret
 exact ⟨rfl,rfl⟩
def Ee (Z:Nat->Prop) (sb:Nat) (w:World) (K:Nat) (f V:Nat->Value) (X:Nat->List Value) (tr ch:List Nat) (s d0:Nat) (e:Ending) (w':World):Prop:=
 ∃ g1 c1 g2 c2,V 1=.slice (some ⟨g1,0,none⟩) tr.length c1/\V 2=.slice (some ⟨g2,0,none⟩) ch.length c2/\e=.returned (.slice (some ⟨g1,s,none⟩) (tr.length - s) (c1 - s))/\dC Z w w'/\(∀ j (hj:j < tr.length),w'.cell? ⟨g1,j,none⟩=some (.int .i64 (tr[j]:Nat)))/\
  dQ Z sb w' K (upd (upd (upd f 6 (.slice (some ⟨g1,0,none⟩) s c1)) 8 (.slice (some ⟨g2,0,none⟩) d0 c2)) 7 (.int .i64 s)) (upd (upd V 1 (.slice (some ⟨g1,0,none⟩) s c1)) 2 (.slice (some ⟨g2,0,none⟩) d0 c2)) (upd (upd (upd X 3 (o8 (X 3) (tr.drop s))) 1 (dx (tr.take s))) 2 (dx (ch.take d0)))
theorem Ru (b vars s:Nat) (tr ch:List Nat) (h:dQ Z sb w K f V X) (N:X 1=dx tr) (h2:X 2=dx ch) (hd:b < ch.length) (hs:ch[b]=s) (ab:s < tr.length) (h3:(X 3).length=2 * vars) (hl:∀ x ∈ tr,x < 2 * vars) (aa:vars <= 50) (hn:tr.length <= 1000) (hc:ch.length <= 1000):
  Calls Tryz.prog 177 #[.pointer (some ⟨sb,6,none⟩),.int .i64 b] w fun e w'=>Ee Z sb w K f V X tr ch s b e w':=by
 have hK:=h.hK;have HS:=hide h;have J:(X 1).length=tr.length:=by rw [N,df]
 have U:(X 2).length=ch.length:=by rw [h2,df]
 obtain ⟨g2,d,t2,e2,q2,r2,R,z2,b2,l2,m2⟩:=h.elem (k:=2) (j:=b) (by omega) U hd
 rw [h2,iK ch b hd,hs] at R;obtain rfl:=Option.some.inj R;obtain ⟨g1,c,t1,O,q1,r1,s1,z1,b1,l1,W⟩:=h.elem (k:=1) (j:=s) (by omega) J ab
 rw [show cellOf 1=6 from rfl] at q1
 rw [show cellOf 2=8 from rfl] at q2
 have QD:Hid (∀ Y:World,Y.heap=w.heap->Calls Tryz.prog 99 #[.pointer (some ⟨sb,6,none⟩)] Y fun e w'=>e=.returned (.int .i64 ch.length)/\w'=Y):=fun Y hY=>ny sb 6 ch.length d Y (some ⟨g2,0,none⟩) (by rw [show Y.cell? ⟨sb,6 + 2,none⟩=w.cell? ⟨sb,8,none⟩ from World.cell?_of_block (a:=⟨sb,8,none⟩) (by rw [hY])];exact q2)
 have af:tr.length <= c:=by
  rcases (h.eO.own 1 (by omega)).2 with ⟨e,_⟩ | ⟨g,cap,ad,e,_,_,B,_⟩
  ·rw [O] at e;cases e
  ·rw [O] at e;obtain ⟨_,_,q⟩:=Value.slice.inj e;rw [J] at B;omega
 have hh:¬ ((ch.length:Int) <= (b:Int)):=by omega
 have d1:(0:Int) <= (b:Int):=by omega
 have d2:(b:Int) < (ch.length:Int):=by omega
 have k0:(0:Int) <= (s:Int):=by omega
 have k1:(s:Int) <= (tr.length:Int):=by omega
 have k2:(s:Int) <= (c:Int):=by omega
 have k3:¬ (c=s):=by omega
 have E1:=hide O;have H:=hide e2;clear h e2 O s1 R;go_enter Tryz.func177,Tryz.ntmps177
 go_wp2_with (go_at_call 99;refine (QD.out _ (by rfl)).mono ?_;rintro e7 I ⟨rfl,rfl⟩)
 have an:=H;have LT:=hide hl;obtain ⟨u,M⟩:∃ u,u=tr.drop s:=⟨_,rfl⟩;have Q:u.length=tr.length - s:=by rw [M];simp
 have ua:Hid (∀ i (h:i < u.length) (h':s + i < tr.length),u[i]=tr[s + i]):=fun i h h'=>by simp [M]
 rw [<- Q,show decide (ch.length <= b)=false from decide_eq_false (by omega)]
 have UL:=hide Q;have HU:=hide M;have um:u.length <= 1000:=by omega
 clear hh hl Q M;go_loopw [8,28] (fun _ i wr=>W9 Z sb I K f V X u i wr) (fun _ i _=>u.length - (intOf i).toNat)
 case atStart=>exact ⟨0,rfl,zl,by rw [List.take_zero,show o8 (X 3) []=X 3 from rfl,upd_same];exact ⟨HS.out,dC.refl _⟩⟩
 case round=>
  obtain ⟨i,rfl,am,T⟩:=hrel;by_cases C:i < u.length
  ·have l:s + i < tr.length:=by have:=UL.out;omega
   have D:=(T.out.1.eO.cell (k:=1) (by omega) E1.out (j:=s + i) (by rw [cz _ _ (by decide),J];exact l)).1
   rw [cz _ _ (by decide),N,iK tr (s + i) l,<- ua.out i C l] at D
   have hx:u[i] < 2 * vars:=by rw [ua.out i C l];exact LT.out _ (List.getElem_mem _)
   have NX:Hid (o8 (X 3) (u.take (i + 1))=((o8 (X 3) (u.take i)).set u[i] (.int .i64 0)).set (op u[i]) (.int .i64 0)):=by
    unfold Hid;rw [List.take_add_one,List.getElem?_eq_getElem C,Option.toList_some,Ld]
   have A3:((upd X 3 (o8 (X 3) (u.take i))) 3).length=2 * vars:=by rw [cK,yh];exact h3
   obtain ⟨x,L⟩:∃ x,u[i]=x:=⟨_,rfl⟩;rw [L] at D hx NX;obtain ⟨g3,c3,t3,e3,q3,r3,_,z3,b3,l3,m3⟩:=T.out.1.elem (k:=3) (j:=x) (by omega) A3 hx
   rw [show cellOf 3=9 from rfl] at q3
   have P:=hide (T.out.1.set (k:=3) (by omega) e3 x (.int .i64 0))
   rw [cK,eQ] at P;have B1:Hid (dC Z I (wr.setCell ⟨g3,x,none⟩ (.int .i64 0))):=T.out.2.setCell b3 _;have i0:(0:Int) <= (i:Int):=by omega
   have i1:(i:Int) < (u.length:Int):=by omega
   have x0:(0:Int) <= (x:Int):=by omega
   have x1:(x:Int) < ((2 * vars:Nat):Int):=by omega
   clear e3 L;go_upto_region 9 with fail
   generalize ac:wr.setCell ⟨g3,x,none⟩ (.int .i64 0)=W2 at P B1 ⊢;clear ac q3 r3 z3 l3 m3 D;have S:op x < 2 * vars:=by unfold op;split <;> omega
   have A4:((upd X 3 ((o8 (X 3) (u.take i)).set x (.int .i64 0))) 3).length=2 * vars:=by rw [cK,List.length_set,yh];exact h3
   obtain ⟨g4,c4,t4,e4,q4,r4,_,z4,b4,l4,m4⟩:=P.out.elem (k:=3) (j:=op x) (by omega) A4 S
   rw [show cellOf 3=9 from rfl] at q4
   have S2:=hide (P.out.set (k:=3) (by omega) e4 (op x) (.int .i64 0))
   rw [cK,eQ,<- NX.out] at S2;have QO:=hide (fun Y=>kG x Y (by omega))
   have o0:(0:Int) <= ((op x:Nat):Int):=by omega
   have o1:((op x:Nat):Int) < ((2 * vars:Nat):Int):=by omega
   clear e4 NX;generalize op x=ox at *
   have T2:Hid (dQ Z sb (W2.setCell ⟨g4,ox,none⟩ (.int .i64 0)).drew K f V (upd X 3 (o8 (X 3) (u.take (i + 1))))/\dC Z I (W2.setCell ⟨g4,ox,none⟩ (.int .i64 0)).drew):=⟨S2.out.later bR.drew,(B1.out.setCell b4 _).drew⟩;go_region_with (go_at_call 139;refine (QO.out _).mono ?_;rintro e8 w8 ⟨rfl,rfl⟩;simp only [])
   all_goals
    go_wp2;go_roundw
    case rel=>exact ⟨i + 1,by go_num,by omega,T2⟩
    case measure=>simp [intOf];omega
  ·have ei:i=u.length:=by omega
   have G:=hide T.out.1;have B0:=hide T.out.2;rw [ei,List.take_length,HU.out] at G;have p:=E1.out;have z:Hid (dQ Z sb (wr.setCell ⟨sb,6,none⟩ (.slice (some ⟨g1,0,none⟩) s c)) K (upd f 6 (.slice (some ⟨g1,0,none⟩) s c)) (upd V 1 (.slice (some ⟨g1,0,none⟩) s c)) (upd (upd X 3 (o8 (X 3) (tr.drop s))) 1 (dx (tr.take s)))):=by
    have r:=G.out.cut (k:=1) (m:=s) (by omega) p (by rw [cz _ _ (by decide),J];omega)
    rw [cz X _ (by decide:(1:Nat) ≠ 3),N,show (dx tr).take s=dx (tr.take s) by unfold dx;rw [List.map_take]] at r
    exact r
   have y:Hid (dQ Z sb ((wr.setCell ⟨sb,6,none⟩ (.slice (some ⟨g1,0,none⟩) s c)).setCell ⟨sb,8,none⟩ (.slice (some ⟨g2,0,none⟩) b d)) K (upd (upd f 6 (.slice (some ⟨g1,0,none⟩) s c)) 8 (.slice (some ⟨g2,0,none⟩) b d)) (upd (upd V 1 (.slice (some ⟨g1,0,none⟩) s c)) 2 (.slice (some ⟨g2,0,none⟩) b d)) (upd (upd (upd X 3 (o8 (X 3) (tr.drop s))) 1 (dx (tr.take s))) 2 (dx (ch.take b)))):=by
    have r:=z.out.cut (k:=2) (m:=b) (a:=some ⟨g2,0,none⟩) (n:=ch.length) (cap:=d) (by omega) (by rw [cz _ _ (by decide)];exact H.out) (by rw [cz _ _ (by decide),cz _ _ (by decide),U];omega)
    rw [cz _ _ (by decide:(2:Nat) ≠ 1),cz X _ (by decide:(2:Nat) ≠ 3),h2,show (dx ch).take b=dx (ch.take b) by unfold dx;rw [List.map_take]] at r
    exact r
   have v:=hide (y.out.scalar 7 (.int .i64 s) (by decide +kernel))
   have CL:Hid (∀ j (hj:j < tr.length),(((wr.setCell ⟨sb,6,none⟩ (.slice (some ⟨g1,0,none⟩) s c)).setCell ⟨sb,8,none⟩ (.slice (some ⟨g2,0,none⟩) b d)).setCell ⟨sb,7,none⟩ (.int .i64 s)).cell? ⟨g1,j,none⟩=some (.int .i64 (tr[j]:Nat))):=fun j hj=>by
    rw [World.cell?_setCell_far _ _ _ _ (by simpa using fun e=>W e.symm),World.cell?_setCell_far _ _ _ _ (by simpa using fun e=>W e.symm),World.cell?_setCell_far _ _ _ _ (by simpa using fun e=>W e.symm)]
    have r:=(G.out.eO.cell (k:=1) (by omega) p (j:=j) (by rw [cz _ _ (by decide),J];exact hj)).1
    rw [cz _ _ (by decide),N,iK tr j hj] at r
    exact r
   have E:=HS.out.jg;have BF:Hid (dC Z I (((wr.setCell ⟨sb,6,none⟩ (.slice (some ⟨g1,0,none⟩) s c)).setCell ⟨sb,8,none⟩ (.slice (some ⟨g2,0,none⟩) b d)).setCell ⟨sb,7,none⟩ (.int .i64 s))):=((B0.out.setCell E _).setCell E _).setCell E _;have y1:=(G.out.hd (k:=1) (by omega))
   have y2:=(G.out.hd (k:=2) (by omega))
   rw [show cellOf 1=6 from rfl,p] at y1
   rw [show cellOf 2=8 from rfl,H.out] at y2
   obtain ⟨al,ak⟩:=y1;obtain ⟨aj,ai⟩:=y2;obtain ⟨ah,ag⟩:=G.out.head 7 (by omega)
   have ae:ch.length <= d:=by
    rcases (HS.out.eO.own 2 (by omega)).2 with ⟨e,_⟩ | ⟨g,cap,ad,e,_,_,B,_⟩
    ·rw [H.out] at e;cases e
    ·rw [H.out] at e;obtain ⟨_,_,q⟩:=Value.slice.inj e;rw [U] at B;omega
   have dc:(b:Int) <= (d:Int):=by omega
   subst ei;clear p;have FE:Hid (Ee Z sb I K f V X tr ch s b (.returned (.slice (some ⟨g1,s,none⟩) (tr.length - s) (c - s))) (((wr.setCell ⟨sb,6,none⟩ (.slice (some ⟨g1,0,none⟩) s c)).setCell ⟨sb,8,none⟩ (.slice (some ⟨g2,0,none⟩) b d)).setCell ⟨sb,7,none⟩ (.int .i64 s))):=
    ⟨g1,c,g2,d,E1.out,H.out,rfl,BF.out,CL.out,v.out⟩
   rw [<- UL.out] at FE;clear CL BF z y v G B0;go_wp2;go_ret;exact FE.out
end
section
variable {Z:Nat->Prop} {sb K:Nat} {w w':World} {f V:Nat->Value} {X:Nat->List Value}
theorem dQ.Va (h:dQ Z sb w K f V X) {k:Nat} (r:k < 13) {v':Value} {w6:World} {m:Nat} {news:List Value} (q:news.length=m) (A:dB w 0 (kP k) 1 (V k) (X k).length (X k) m news v' w6):
  dQ Z sb (w6.setCell ⟨sb,cellOf k,none⟩ v') K (upd f (cellOf k) v') (upd V k v') (upd X k (X k ++ news))/\dC Z w (w6.setCell ⟨sb,cellOf k,none⟩ v')/\∀ j,j < 22->w6.cell? ⟨sb,j,none⟩=some (f j)/\w6.frozen? ⟨sb,j,none⟩=false:=by
 have b:k < K:=by have:=h.hK;omega
 have p:=h.row.lt;have l:=h.row.of_block (A.grew.block sb p (fun e=>h.far b sb e.symm rfl))
 refine ⟨h.header r l (h.eO.push b q A) rfl (fun i d g a=>?_) A.grew.size (fun i d g a=>?_),((dC.refl w).grown A.grew (fun g a=>h.al k b g a)).setCell h.jg _,fun j s=>⟨l.cell s,l.frozen j⟩⟩
 ·by_cases e:i=k
  ·subst e;rw [cK] at a
   rcases A.at' with c | c
   ·rw [c] at a;exact h.far d g a
   ·rw [c] at a;have:=Option.some.inj a;omega
  ·rw [cz _ _ e] at a;exact h.far d g a
 ·by_cases e:i=k
  ·subst e;rw [cK] at a
   rcases A.at' with c | c
   ·rw [c] at a;exact h.al i d g a
   ·rw [c] at a;have:=Option.some.inj a;exact h.az g (by omega)
  ·rw [cz _ _ e] at a;exact h.al i d g a
def NK (sb:Nat) (V0:Value) (w:World) (v:Value) (c:List Nat):Prop:=∃ (a:Option Addr) (cp bs off:Nat),v=.slice a c.length cp/\(a=none->cp=0)/\(0 < c.length->a=some ⟨bs,off,none⟩/\bs < w.heap.size/\bs ≠ sb/\V0.ownBlock ≠ some bs/\∀ j (hj:j < c.length),w.cell? ⟨bs,off + j,none⟩=some (.int .i64 (c[j]:Nat)))
theorem Hw (c:List Nat) (b:Nat) (l:Int) (v:Value) (h:dQ Z sb w K f V X) (hL:NK sb (V 0) w v c) (hc:c.length <= 1000) (hk:b <= 2) (hn:(X 0).length <= 1099511627776) (hl:f 3=.int .i64 l) (l0:0 <= l) (l1:l <= 4611686018427387904):
  Calls Tryz.prog 132 #[.pointer (some ⟨sb,2,none⟩),v,.int .i64 b] w fun e w'=>e=.returned (.int .i64 (X 0).length)/\dC Z w w'/\∃ v',dQ Z sb w' K (upd (upd f 2 v') 3 (.int .i64 (if b=1 then l + 1 else l))) (upd V 0 v') (upd X 0 (X 0 ++ dx (c.length :: b :: 0 :: c))):=by
 obtain ⟨i0,hi,L,J,I⟩:=info_parts Tryz.fP;obtain ⟨a,U,s,off,rfl,ac,hL⟩:=hL;have Q:=hide h;have HL:=hide hL;have hK:=h.hK;obtain ⟨a0,c0,S⟩:=h.eO.shape (k:=0) (by omega)
 have G:=(h.hd (k:=0) (by omega)).1
 rw [show cellOf 0=2 from rfl,S] at G
 have O0:Hid (w.ownsRow 0 3 1 (.slice a0 (X 0).length c0) (X 0).length (X 0)):=by
  have:=h.eO.own 0 (by omega)
  rw [S] at this;exact this
 have E0:=hide S;have ak:=h.row.lt;have ns:¬ (sb=w.heap.size):=by omega
 clear h S hL;go_enter Tryz.func132,Tryz.ntmps132
 go_wp2_with (at_builtin;refine dR _ rfl _ _ 43 rfl 0 3 i0 (.int .i64 0) 1 8 Tryz.underlying43 hi L J I rfl (by decide) _ _ _ rfl (O0.out.alloc (.cells #[.int .i64 (c.length:Int),.int .i64 (b:Int),.int .i64 0] 3)) (.slice (some ⟨w.heap.size,0,none⟩) 3 3) 3 [.int .i64 (c.length:Int),.int .i64 (b:Int),.int .i64 0] rfl (.inr ⟨⟨w.heap.size,0,none⟩,3,rfl,World.news_of_block (cs:=#[.int .i64 (c.length:Int),.int .i64 (b:Int),.int .i64 0]) (t:=3) (fr:=(0,0)) (heap_alloc_new w _)⟩) rfl (by simp [Value.oneCell']) (by unfold maxLen;omega) (by omega) zl ?_)
 intro R Y A6;have D:dB (w.alloc (.cells #[.int .i64 (c.length:Int),.int .i64 (b:Int),.int .i64 0] 3)) 0 (kP 0) 1 (V 0) (X 0).length (X 0) 3 [.int .i64 (c.length:Int),.int .i64 (b:Int),.int .i64 0] R Y:=by rw [E0.out];exact A6
 have C:=hide (Q.out.push (k:=0) (m:=3) (news:=[.int .i64 (c.length:Int),.int .i64 (b:Int),.int .i64 0]) (by omega) rfl D)
 have B6:=hide (Q.out.nS (k:=0) (by omega) D 2 R)
 have g6:=(Q.out.jR (k:=0) (by omega) D 2 (by omega)).1
 have z6:=(Q.out.jR (k:=0) (by omega) D 2 (by omega)).2
 have C6:Hid (0 < c.length->∀ j (M:j < c.length),(Y.setCell ⟨sb,2,none⟩ R).cell? ⟨s,off + j,none⟩=some (.int .i64 (c[j]:Nat))):=fun E j M=>by
  obtain ⟨_,h2,N,h4,h5⟩:=HL.out E;rw [World.cell?_setCell_far _ _ _ _ (by simpa using fun e=>N e.symm),World.cell?_of_block (w:=w) (a:=⟨s,off + j,none⟩) ((D.grew.block s (by simp;omega) (fun e=>h4 e.symm)).trans (Below.heap_alloc w _ s h2))]
  exact h5 j M
 have V6:Hid (R.ownBlock=some s->0 < c.length->False):=fun e E=>by
  obtain ⟨_,h2,N,h4,h5⟩:=HL.out E
  rcases D.at' with h1 | h1
  ·rw [h1] at e;exact h4 e
  ·rw [h1] at e;have:=Option.some.inj e;simp at this;omega
 obtain ⟨B,z,ab⟩:=dG A6.own;subst ab;rw [show cellOf 0=2 from rfl] at C
 clear A6 D G O0;go_upto_region 3 with fail
 generalize af:Y.setCell ⟨sb,2,none⟩ (.slice B ((X 0).length + 3) z)=W1 at C B6 C6 ⊢;clear af g6 z6;obtain ⟨d,r⟩:∃ l,l=X 0 ++ [.int .i64 (c.length:Int),.int .i64 (b:Int),.int .i64 0]:=⟨_,rfl⟩;have H:d.length=(X 0).length + 3:=by rw [r];simp
 rw [<- r] at C;have G:=(C.out.hd (k:=0) (by omega)).1
 rw [show cellOf 0=2 from rfl,cK,<- H] at G
 have O1:Hid (W1.ownsRow 0 3 1 (.slice B d.length z) d.length d):=by
  have:=C.out.eO.own 0 (by omega)
  rw [cK,cK,<- H] at this;exact this
 have O:Hid (Src W1 (.slice a c.length U) c.length (dx c)):=by
  unfold Hid Src
  rcases Nat.eq_zero_or_pos c.length with e | E
  ·have cn:c=[]:=List.eq_nil_of_length_eq_zero e;subst cn
   cases a with
   | none=>exact .inl ⟨by rw [ac rfl];rfl,rfl,rfl⟩
   | some ad=>exact .inr ⟨ad,U,rfl,fun j u q=>by simp [dx] at q⟩
  ·refine .inr ?_;obtain ⟨ha,_⟩:=HL.out E;refine ⟨⟨s,off,none⟩,U,by rw [ha],fun j u q=>?_⟩
   have M:j < c.length:=by
    rcases Nat.lt_or_ge j c.length with h | h
    ·exact h
    ·rw [List.getElem?_eq_none (by rw [df];exact h)] at q;cases q
   rw [iK c j M] at q;obtain rfl:=Option.some.inj q;rw [show (Addr.add ⟨s,off,none⟩ j:Addr)=⟨s,off + j,none⟩ by simp [Addr.add]]
   exact C6.out E j M
 have ah:=hide r;have NL:=hide H;have aj:d.length <= 1099511627779:=by omega
 have ag:(dx c).length=c.length * 1:=by rw [df];omega
 have one:∀ u ∈ dx c,u.oneCell'=true:=fun u q=>by
  unfold dx at q;obtain ⟨y,_,rfl⟩:=List.mem_map.1 q;rfl
 rw [<- H] at C ⊢;clear r H;go_wp2_with (at_builtin;refine dR _ rfl _ _ 43 rfl 0 3 i0 (.int .i64 0) 1 8 Tryz.underlying43 hi L J I rfl (by decide) _ _ _ rfl O1.out (.slice a c.length U) c.length (dx c) rfl O.out ag one (by unfold maxLen;omega) (by omega) zl ?_)
 intro v8 w8 A8;have A9:dB W1 0 (kP 0) 1 ((upd V 0 (.slice B d.length z)) 0) ((upd X 0 d) 0).length ((upd X 0 d) 0) c.length (dx c) v8 w8:=by rw [cK,cK];exact A8
 obtain ⟨s8,b8,c8⟩:=C.out.Va (k:=0) (by omega) (df c) A9
 rw [show cellOf 0=2 from rfl] at s8 b8
 have P:=hide s8;have B8:=hide (B6.out.trans b8);obtain ⟨g8,z8⟩:=c8 2 (by omega)
 obtain ⟨p,i,aa⟩:=dG A8.own;subst aa;clear s8 b8 c8 A8 A9 G O1 O;go_upto_region 4 with fail
 generalize ae:w8.setCell ⟨sb,2,none⟩ (.slice p (d.length + c.length) i)=W2 at P B8 ⊢;clear ae g8 z8;have FX:Hid ((upd (upd X 0 d) 0 ((upd X 0 d) 0 ++ dx c))=upd X 0 (X 0 ++ dx (c.length :: b :: 0 :: c))):=by
  unfold Hid;rw [cK,eQ,ah.out,List.append_assoc];rfl
 rw [FX.out,eQ,eQ] at P;obtain ⟨W,ai⟩:=P.out.head 3 (by omega)
 rw [cz _ _ (by decide),hl] at W
 by_cases k1:b=1
 ·subst k1;have S9:=hide (P.out.scalar 3 (.int .i64 (l + 1)) (by decide +kernel))
  have B9:Hid (dC Z w (W2.setCell ⟨sb,3,none⟩ (.int .i64 (l + 1)))):=B8.out.setCell Q.out.jg _;go_wp2;go_ret;exact ⟨rfl,B9.out,_,S9.out⟩
 ·have kb:((b:Int) == 1)=false:=by simp;omega
  have S9:Hid (dQ Z sb W2 K (upd (upd f 2 (.slice p (d.length + c.length) i)) 3 (.int .i64 l)) (upd V 0 (.slice p (d.length + c.length) i)) (upd X 0 (X 0 ++ dx (c.length :: b :: 0 :: c)))):=by
   have e:upd (upd f 2 (.slice p (d.length + c.length) i)) 3 (.int .i64 l)=upd f 2 (.slice p (d.length + c.length) i):=by
    funext j;unfold upd
    by_cases N:j=3
    ·subst N;simp [hl]
    ·simp [N]
   rw [e];exact P.out
  go_wp2;go_ret
  exact ⟨rfl,B8.out,_,S9.out⟩
end
end
section
open Rd
def By (tr:List Nat) (rs:Nat->Option (List Nat)) (p:Nat->Prop) (i:Nat):Prop:=∃ h:i < tr.length,∃ c r,rs (tr[i] / 2)=some c/\c=tr[i] :: r/\∀ y ∈ r,p (y / 2)
structure JR (tr:List Nat) (rs:Nat->Option (List Nat)) (lev:Nat->Nat) (last:Nat) (c0:List Nat) (seen fol:Nat->Prop) (iu:Nat) (kept:List Nat):Prop where
 hiu:iu < tr.length
 first:∀ y ∈ c0,lev (y / 2)=0\/seen (y / 2)
 behind:∀ i (h:i < tr.length),iu < i->seen (tr[i] / 2)->By tr rs (fun v=>lev v=0\/seen v) i
 low:∀ i (h:i < tr.length),last <= i->i < iu->¬ seen (tr[i] / 2)
 XJ:last <= iu
 follows:∀ i (h:i < tr.length),i < last->fol (tr[i] / 2)->seen (tr[i] / 2)\/By tr rs fol i
 Vg:∀ i (h:i < tr.length),i < last->seen (tr[i] / 2)->op tr[i] ∈ kept\/By tr rs fol i
 zero:∀ i (h:i < tr.length),lev (tr[i] / 2)=0->By tr rs (fun v=>lev v=0) i
 Gw:∀ v,fol v->∃ i,∃ h:i < tr.length,i < last/\tr[i] / 2=v
theorem By.mono {tr:List Nat} {b:Nat->Option (List Nat)} {p q:Nat->Prop} {i:Nat} (h:By tr b p i) (a:∀ v,p v->q v):By tr b q i:=by
 obtain ⟨e,c,r,l,k,j⟩:=h;exact ⟨e,c,r,l,k,fun y d=>a _ (j y d)⟩
theorem JR.conf {L:List Cl} {tr:List Nat} {k:Nat->Option (List Nat)} {lev:Nat->Nat} {last:Nat} {z:List Nat} {seen fol:Nat->Prop} {l:Nat} {kept:List Nat} (H:JR tr k lev last z seen fol l kept) (T:Trail L tr k) (G:There L z) (E:∀ y ∈ z,op y ∈ tr):
  jo L (((tr[l]'H.hiu) :: kept.map op).map wr):=by
 refine za (N:=fun v=>lev v=0\/seen v\/fol v) T (fun i h F=>?_) G E (fun y B=>(H.first y B).imp id .inl)
 have fin:By tr k (fun v=>lev v=0\/seen v\/fol v) i->tr[i] ∈ (tr[l]'H.hiu) :: kept.map op\/∃ c r,k (tr[i] / 2)=some c/\c=tr[i] :: r/\∀ y ∈ r,(lev (y / 2)=0\/seen (y / 2)\/fol (y / 2)):=fun s=>by
  obtain ⟨_,r⟩:=s;exact .inr r
 have early:i < last->seen (tr[i] / 2)\/fol (tr[i] / 2)->tr[i] ∈ (tr[l]'H.hiu) :: kept.map op\/∃ c r,k (tr[i] / 2)=some c/\c=tr[i] :: r/\∀ y ∈ r,(lev (y / 2)=0\/seen (y / 2)\/fol (y / 2)):=fun p a=>by
  have q:seen (tr[i] / 2)->tr[i] ∈ (tr[l]'H.hiu) :: kept.map op\/∃ c r,k (tr[i] / 2)=some c/\c=tr[i] :: r/\∀ y ∈ r,(lev (y / 2)=0\/seen (y / 2)\/fol (y / 2)):=fun a=>by
   rcases H.Vg i h p a with C | s
   ·exact .inl (List.mem_cons_of_mem _ (List.mem_map.2 ⟨_,C,kr _⟩))
   ·exact fin (s.mono fun v b=>.inr (.inr b))
  rcases a with a | a
  ·exact q a
  ·rcases H.follows i h p a with a | s
   ·exact q a
   ·exact fin (s.mono fun v b=>.inr (.inr b))
 rcases F with A | a | a
 ·exact fin ((H.zero i h A).mono fun v b=>.inl b)
 ·rcases Nat.lt_or_ge i last with p | p
  ·exact early p (.inl a)
  ·rcases Nat.lt_trichotomy i l with d | d | d
   ·exact absurd a (H.low i h p d)
   ·subst d;exact .inl (List.mem_cons_self ..)
   ·exact fin ((H.behind i h d a).mono fun v b=>b.imp id .inl)
 ·obtain ⟨j,D,u,e⟩:=H.Gw _ a;have:j=i:=by
   have d:(tr.map (· / 2))[j]'(by simpa using D)=(tr.map (· / 2))[i]'(by simpa using h):=by simpa using e
   exact (List.getElem_inj T.nodup).1 d
  subst this;exact early u (.inr a)
end
def gN:Nat->List Bool->Nat
 | 0,_=>0
 | _ + 1,[]=>0
 | n + 1,b :: r=>(if b then 2 ^ n else 0) + gN n r
theorem EO (n:Nat):gN n []=0:=by cases n <;> rfl
theorem CZ:∀ (n:Nat) (l:List Bool),gN n l < 2 ^ n
 | 0,_=>by simp [gN]
 | n + 1,[]=>by simp only [gN];exact Nat.pos_of_ne_zero (by simp)
 | n + 1,b :: r=>by
  have:=CZ n r;simp only [gN];rw [Nat.pow_succ];cases b <;> simp <;> omega
theorem tT:∀ (n:Nat) (l:List Bool),gN n (l ++ [false])=gN n l
 | 0,l=>rfl
 | n + 1,[]=>by simp [gN,EO]
 | n + 1,b :: r=>by
  simp only [List.cons_append,gN];rw [tT n r]
theorem vI:∀ (n:Nat) (p r:List Bool),p.length < n->gN n (p ++ false :: r) < gN n (p ++ [true])
 | 0,p,r,h=>by simp at h
 | n + 1,[],r,h=>by
  have:=CZ n r;simp only [List.nil_append,gN,EO];simp;omega
 | n + 1,b :: p,r,h=>by
  have:=vI n p r (by simpa using h)
  simp only [List.cons_append,gN];omega
theorem L6 (n:Nat) (l:List Bool) (h:l.length < n):gN n l < gN n (l ++ [true]):=by
 have a:=vI n l [] h;rw [tT] at a;exact a
def bits (len:Nat) (ch:List Nat):List Bool:=(List.range len).map fun p=>!ch.contains p
theorem zP (len:Nat) (ch:List Nat):(bits len ch).length=len:=by simp [bits]
theorem wX {len:Nat} {ch:List Nat} (h:∀ p ∈ ch,p < len):bits (len + 1) ch=bits len ch ++ [true]:=by
 unfold bits;rw [List.range_succ,List.map_append]
 congr 1
 have:¬ len ∈ ch:=fun a=>by have:=h len a;omega
 simp [this]
theorem Hm {len:Nat} {ch:List Nat} (h:∀ p ∈ ch,p < len):bits (len + 1) (ch ++ [len])=bits len ch ++ [false]:=by
 unfold bits;rw [List.range_succ,List.map_append]
 congr 1
 ·apply List.map_congr_left
  intro p a;have a:=List.mem_range.1 a;have:p ≠ len:=by omega
  simp [List.contains_eq_mem,this]
 ·simp
def Ii (ch:List Nat) (len:Nat):Prop:=ch.Pairwise (· < ·)/\∀ p ∈ ch,p < len
theorem ND {len:Nat} {ch:List Nat} (h:Ii ch len) {d:Nat} (hd:d < ch.length):∃ r,bits len ch=bits ch[d] (ch.take d) ++ false :: r:=by
 have q:ch[d] < len:=h.2 _ (List.getElem_mem hd);refine ⟨((List.range len).drop (ch[d] + 1)).map fun p=>!ch.contains p,?_⟩
 unfold bits;have e:List.range len=List.range ch[d] ++ ch[d] :: (List.range len).drop (ch[d] + 1):=by
  refine List.ext_getElem? fun i=>?_
  rcases Nat.lt_trichotomy i ch[d] with a | a | a
  ·rw [List.getElem?_append_left (by simpa using a),List.getElem?_range a,List.getElem?_range (by omega)]
  ·rw [a,List.getElem?_append_right (by simp)]
   simp [q]
  ·rw [List.getElem?_append_right (by simp;omega)]
   simp only [List.length_range];obtain ⟨k,s⟩:∃ k,i - ch[d]=k + 1:=⟨i - ch[d] - 1,by omega⟩
   rw [s,List.getElem?_cons_succ,List.getElem?_drop]
   congr 1;omega
 conv=>lhs;rw [e]
 rw [List.map_append,List.map_cons];have pw:=h.1
 congr 1
 ·apply List.map_congr_left
  intro p l;have l:=List.mem_range.1 l
  congr 1
  rw [List.contains_eq_mem,List.contains_eq_mem];apply decide_eq_decide.2;constructor
  ·intro b;obtain ⟨j,u,rfl⟩:=List.mem_iff_getElem.1 b;refine List.mem_iff_getElem.2 ⟨j,?_,List.getElem_take⟩;rw [List.length_take]
   rcases Nat.lt_or_ge j d with a | a
   ·omega
   ·rcases Nat.eq_or_lt_of_le a with c | c
    ·subst c;omega
    ·have:=List.pairwise_iff_getElem.1 pw d j hd u c;omega
  ·exact fun b=>List.mem_of_mem_take b
 ·have:ch.contains ch[d]=true:=by rw [List.contains_iff_mem];exact List.getElem_mem hd
  rw [this];rfl
theorem IW {n len:Nat} {ch:List Nat} (h:Ii ch len) {d:Nat} (hd:d < ch.length) (i:len <= n):gN n (bits len ch) < gN n (bits (ch[d] + 1) (ch.take d)):=by
 obtain ⟨r,e⟩:=ND h hd;have c:ch[d] < len:=h.2 _ (List.getElem_mem hd);rw [e,wX (fun p a=>by
  obtain ⟨j,b,rfl⟩:=List.mem_iff_getElem.1 a;rw [List.length_take] at b;rw [List.getElem_take];exact List.pairwise_iff_getElem.1 h.1 j d (by omega) hd (by omega))]
 exact vI n _ _ (by rw [zP];omega)
end So
end Go.Proofs.YtceahffmenbibaaGreatDoor
