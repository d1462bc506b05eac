/- Pmap Psto Plog Pfal Pmov Pwst. -/
import Derived.Test.YtceahffmenbibaaGreatDoorH06
set_option linter.unusedVariables false
set_option linter.unusedSimpArgs false
set_option maxRecDepth 1000000
namespace Go.Proofs.YtceahffmenbibaaGreatDoor
namespace Rd
section
open Go Go.RowKit Go.Maps
theorem Tryz.PN:laidOutB Tryz.prog=true:=by kernel_rfl
theorem Tryz.Ot:(84:TypeId) < Tryz.prog.types.size:=of_decide_eq_true (by kernel_rfl)
theorem Tryz.Sk:(match Tryz.prog.underlying 84 with | some (.array _ _) | some (.struct _)=>true | _=>false)=true:=by rw [Tryz.underlying84]
theorem Tryz.YN:Tryz.prog.keyTypeAt 3 84=true:=by kernel_rfl
theorem Tryz.Dm:Keyed Tryz.prog 84:=Keyed.of_law (deep_law_laid Tryz.PN (m:=3) (by omega) Tryz.Ot Tryz.YN Tryz.Sk)
theorem Tryz.Q0:Tryz.prog.cellsOf 84=2:=by kernel_rfl
theorem Tryz.Sc (w:World):(zeroValue 3).run Tryz.prog w=.ok (.int .i64 0) w:=by kernel_rfl
theorem Tryz.XA:Tryz.prog.keyType 84=true:=by kernel_rfl
theorem Tryz.QY:Tryz.prog.cellsOf 82=1:=by kernel_rfl
theorem Tryz.NP:∃ n,Tryz.prog.types.size=n + 1:=⟨Tryz.prog.types.size - 1,(Nat.succ_pred_eq_of_pos (Nat.lt_of_le_of_lt zl Tryz.Ot)).symm⟩
def wW (s:Key):Lit:=.string (keyBytes [.int .u64 (s.1:Int),.int .u64 (s.2:Int)])
theorem Mw {P : Program} {k u n : Nat} {l : Array Field} {o m : Field} (d : P.underlying k = some (.struct l)) (g : l = #[o, m]) (D : l.all (fun f => f.name != "_") = true) (v : o.type = u) (z : o.offset = 0) (t : m.type = u) (y : m.offset = 1)
  (E:P.keyType k=true) (q:P.cellsOf k=2) (j:P.cellsOf u=1) (c:P.underlying u=some (.int .u64)) (e:P.types.size=n + 1) {a b:Int} (s:(Lit.int .u64 a).wf=true) (r:(Lit.int .u64 b).wf=true):
  keyOf P k (.agg #[.int .u64 a,.int .u64 b])=some (.string (keyBytes [.int .u64 a,.int .u64 b])):=by
 have h:(Value.agg #[.int .u64 a,.int .u64 b]).formed P k=true:=by simp [Value.formed,d,q]
 have p:∀ x,(Lit.int .u64 x).wf=true->P.keyLits (n + 1) u [.int .u64 x]=some [.int .u64 x]:=fun x C=>by simp [Program.keyLits,c,C]
 have A:P.keyLits (n + 1 + 1) k [.int .u64 a,.int .u64 b]=some [.int .u64 a,.int .u64 b]:=by
  subst g
  conv=>lhs;unfold Program.keyLits
  rw [d];simp only [q,D,List.length_cons,List.length_nil,and_self,if_true];simp [v,t,z,y,j,p a s,p b r]
 unfold keyOf;rw [d];simp only [E,h,Bool.and_self,if_true,e];show Option.map _ (P.keyLits (n + 1 + 1) k [.int .u64 a,.int .u64 b])=_
 rw [A];rfl
theorem o9 {s:Key} (a:s.ok):keyOf Tryz.prog 84 (dC s)=some (wW s):=by
 have c:(Lit.int .u64 (s.1:Int)).wf=true:=by
  have:=a.1;unfold wide at this;simp [Lit.wf,IntKind.min,IntKind.max,IntKind.signed,IntKind.bits];omega
 have b:(Lit.int .u64 (s.2:Int)).wf=true:=by
  have:=a.2;unfold wide at this;simp [Lit.wf,IntKind.min,IntKind.max,IntKind.signed,IntKind.bits];omega
 obtain ⟨n,d⟩:=Tryz.NP;exact Mw Tryz.underlying84 rfl (by kernel_rfl) rfl rfl rfl rfl Tryz.XA Tryz.Q0 Tryz.QY Tryz.underlying82 d c b
theorem PO {s t:Key} (j:s.ok) (g:t.ok) (h:wW s=wW t):s=t:=by
 have f:=o9 j;have e:=o9 g;rw [<- h] at e;have:=Tryz.Dm.inj f e;unfold dC at this;simp at this;obtain ⟨a,b⟩:=s;obtain ⟨c,d⟩:=t;simp only at this;have f:a=c:=by have:=this.1;omega
 have e:b=d:=by have:=this.2;omega
 rw [f,e]
theorem FJ {s:Key} (a:s.ok):WideAt.IsKeyLit (wW s):=Tryz.Dm.key (o9 a)
def jB (w:World) (b n:Nat) (m:Key->Option Nat):Prop:=∃ D:DataW Unit,w.ownsMap Tryz.prog 84 (plainElem Tryz.prog 3) b n D/\IsMap D/\
 ∀ s:Key,s.ok->Maps.has D (wW s)=(m s).isSome/\∀ i,m s=some i->D.atKey (wW s) (.lit (.int .i64 0))=.lit (.int .i64 (i:Nat))
theorem yE (w:World):jB (w.alloc (.map #[] 0)) w.heap.size 0 (fun _=>none):=by
 refine ⟨.map [],World.ownsMap_made _ _ _ _,⟨[],rfl⟩,fun s b=>⟨rfl,fun i a=>by cases a⟩⟩
theorem jB.congr {w:World} {b n:Nat} {m a:Key->Option Nat} (h:jB w b n m) (e:∀ s,s.ok->m s=a s):jB w b n a:=by
 obtain ⟨D,g,f,d⟩:=h;exact ⟨D,g,f,fun s c=>by rw [<- e s c];exact d s c⟩
theorem jB.kept {w w':World} {b n:Nat} {m:Key->Option Nat} (h:jB w b n m) (a:w'.heap[b]? = w.heap[b]?):jB w' b n m:=by
 obtain ⟨D,⟨es,f,e,d⟩,c⟩:=h;exact ⟨D,⟨es,f,by rw [a];exact e,d⟩,c⟩
theorem jB.lt {w:World} {b n:Nat} {m:Key->Option Nat} (h:jB w b n m):b < w.heap.size:=by
 obtain ⟨D,⟨es,c,a,_⟩,_⟩:=h;exact (Array.getElem?_eq_some_iff.1 a).1
theorem jB.iq {w:World} {b n:Nat} {m:Key->Option Nat} (h:jB w b n m) {c:Array Value} {t:TypeId} {f:Nat × Nat}:w.heap[b]? ≠ some (.cells c t f):=by
 obtain ⟨D,⟨es,d,a,_⟩,_⟩:=h;rw [a];intro e;cases e
theorem jB.put {w w':World} {b n i:Nat} {m:Key->Option Nat} {k:Key} (l:k.ok) {D:DataW Unit} (d:IsMap D) (g:∀ s:Key,s.ok->Maps.has D (wW s)=(m s).isSome/\∀ i,m s=some i->D.atKey (wW s) (.lit (.int .i64 0))=.lit (.int .i64 (i:Nat)))
  (h:w'.ownsMap Tryz.prog 84 (plainElem Tryz.prog 3) b n (D.put (wW k) (.lit (.int .i64 (i:Nat))))):jB w' b n (fun s=>if s=k then some i else m s):=by
 refine ⟨_,h,d.put _ _,fun s a=>?_⟩;by_cases e:s=k
 ·subst e;simp only [if_true];refine ⟨by rw [has_put_same d (FJ a)];rfl,fun j c=>?_⟩;cases c
  exact atKey_put_same d (FJ a) _ _
 ·simp only [e,if_false];have f:wW s ≠ wW k:=fun h=>e (PO a l h)
  rw [has_put_other f];refine ⟨(g s a).1,fun j c=>?_⟩;rw [atKey_put_other f];exact (g s a).2 j c
theorem jB.update {w:World} {b n i:Nat} {m:Key->Option Nat} {k:Key} (h:jB w b n m) (c:k.ok) (g:n < maxLen) (hi:i <= 1700000000000):∃ w',(Instr.mapUpdate 130 (.map (some b)) (dC k) (.int .i64 (i:Nat))).run Tryz.prog w=.ok () w'/\
  w.grownBy w' (some b)/\jB w' b (n + 1) (fun s=>if s=k then some i else m s):=by
 obtain ⟨D,o,l,j⟩:=h;obtain ⟨w',f,e,d⟩:=o.update Tryz.Dm Tryz.underlying130 g (o9 c) (plainElem_int (H:=Unit) Tryz.underlying3 (a:=(i:Int)) (by simp [Lit.wf,IntKind.min,IntKind.max,IntKind.signed,IntKind.bits];omega));exact ⟨_,f,d,jB.put (w:=w) c l j e⟩
theorem jB.lookup {w:World} {b n:Nat} {m:Key->Option Nat} {k:Key} (h:jB w b n m) (g:k.ok):∃ c:Int,(∀ i,m k=some i->c=(i:Int))/\∀ w':World,w'.heap[b]? = w.heap[b]? -> (Instr.lookup 130 (.map (some b)) (dC k) true).run Tryz.prog w'=.ok (.tuple #[.int .i64 c,.bool (m k).isSome]) w':=by
 obtain ⟨D,y,F,q⟩:=h;have f:(Lit.int .i64 0).wf=true:=by decide
 have a:∀ w':World,w'.heap[b]? = w.heap[b]? -> ∃ c:Int,(Instr.lookup 130 (.map (some b)) (dC k) true).run Tryz.prog w'=.ok (.tuple #[.int .i64 c,.bool (m k).isSome]) w'/\D.atKey (wW k) (.lit (.int .i64 0))=.lit (.int .i64 c):=by
  intro w' j;have o:w'.ownsMap Tryz.prog 84 (plainElem Tryz.prog 3) b n D:=by
   obtain ⟨es,C,z,p⟩:=y;exact ⟨es,C,by rw [j];exact z,p⟩
  obtain ⟨v,E,d,r⟩:=o.look_ok Tryz.Dm Tryz.underlying130 (Tryz.Sc w') (plainElem_int Tryz.underlying3 f) (o9 g);obtain ⟨c,rfl,x,_⟩:=plainElem_int_inv Tryz.underlying3 r;exact ⟨c,by rw [d,(q k g).1],congrArg Prod.fst x⟩
 obtain ⟨c,_,l⟩:=a w rfl;refine ⟨c,fun i t=>?_,fun w' j=>?_⟩
 ·have p:=(q k g).2 i t;rw [p] at l;cases l;rfl
 ·obtain ⟨G,s,e⟩:=a w' j;rw [l] at e;cases e
  exact s
end
section
open Go Go.RowKit Go.Deep
section
structure dN where
 set:Key
 watched:Key
 times:Nat
def lQ (e:dN):List Value:=[.int .u64 (e.set.1:Int),.int .u64 (e.set.2:Int),.int .u64 (e.watched.1:Int),.int .u64 (e.watched.2:Int),.int .i64 (e.times:Int)]
def jO (es:List dN):List Value:=es.flatMap lQ
def fA (xs:List Nat):List Value:=xs.map fun (n:Nat)=>Value.int .i64 (n:Int)
def iU (cv:Value) (mb:Nat) (gone:Int) (u:Key) (wv:Nat->Value):Nat->Value
 | 0=>cv
 | 1=>.map (some mb)
 | 2=>.int .i64 gone
 | 3=>.int .u64 (u.1:Int)
 | 4=>.int .u64 (u.2:Int)
 | k + 5=>wv k
def look (es:List dN) (s:Key):Option Nat:=es.findIdx? (fun e=>decide (e.set=s))
theorem MP (es:List dN) (i:Nat) (hi:i < es.length) (j:Nat) (c:j < 5):(jO es)[i * 5 + j]? = (lQ es[i])[j]? := by
 induction es generalizing i with
 | nil=>simp at hi
 | cons a r ih=>
  have e:jO (a :: r)=lQ a ++ jO r:=rfl;have b:(lQ a).length=5:=rfl;rw [e]
  cases i with
  | zero=>rw [List.getElem?_append_left (by omega)];simp
  | succ i=>
   rw [List.getElem?_append_right (by omega),b,show (i + 1) * 5 + j - 5=i * 5 + j by omega];exact ih i (by simpa using hi)
theorem Jj (es:List dN) (e:dN):jO (es ++ [e])=jO es ++ lQ e:=by unfold jO;rw [List.flatMap_append];simp
structure fu (B sb:Nat) (w:World) (cv:Value) (mb:Nat) (gone:Int) (u:Key) (wv:Nat->Value) (es:List dN) (wl:Nat->List Nat):Prop where
 row:w.rowIs sb 134 133 (iU cv mb gone u wv)
 cls:w.ownsRow B 180 5 cv es.length (jO es)
 map:jB w mb es.length (look es)
 mP:∀ k,k < 128->w.ownsRow B 3 1 (wv k) (wl k).length (fA (wl k))
 apart:∀ k k',k < 128->k' < 128->k ≠ k'->(wv k).ownBlock=none\/(wv k).ownBlock ≠ (wv k').ownBlock
 jf:B <= sb
 zB:B <= mb
variable {B sb mb:Nat} {w w':World} {cv:Value} {gone:Int} {u:Key} {wv:Nat->Value} {es:List dN} {wl:Nat->List Nat}
theorem fu.later (h:fu B sb w cv mb gone u wv es wl) (a:Below w.heap.size w w'):fu B sb w' cv mb gone u wv es wl where
 row:=h.row.of_block (a.block _ h.row.lt)
 cls:=ym h.cls a
 map:=h.map.kept (a.block _ h.map.lt)
 mP:=fun k b=>ym (h.mP k b) a
 apart:=h.apart
 jf:=h.jf
 zB:=h.zB
theorem fu.bsize (h:fu B sb w cv mb gone u wv es wl):B <= w.heap.size:=by have:=h.row.lt;have:=h.jf;omega
theorem fu.wY (h:fu B sb w cv mb gone u wv es wl) (i:Nat) (hi:i < es.length):∃ b a,cv=.slice (some ⟨b,0,none⟩) es.length a/\B <= b/\b < w.heap.size/\b ≠ sb/\es.length <= a/\∀ j,j < 5->w.cell? ⟨b,i * 5 + j,none⟩=(lQ es[i])[j]? /\ w.frozen? ⟨b,i * 5 + j,none⟩=false:=by
 have d:=h.cls
 rcases h.cls.2 with ⟨_,q⟩ | ⟨g,a,p,e,f,n,l,_⟩
 ·omega
 ·refine ⟨g,a,e,f,(d.lt g (by rw [e];rfl)).2,?_,l,fun j m=>?_⟩
  ·intro o;obtain ⟨c,k,_⟩:=h.row;rw [<- o,n] at k;cases k
  ·rw [e] at d;refine ⟨?_,d.frozenAt _⟩;rw [d.cellAt (i * 5 + j) (by have:i + 1 <= es.length:=hi;have:=Nat.mul_le_mul_right 5 this;omega),MP es i hi j m]
theorem fu.head (h:fu B sb w cv mb gone u wv es wl) (j:Nat) (a:j < 133):w.cell? ⟨sb,j,none⟩=some (iU cv mb gone u wv j)/\w.frozen? ⟨sb,j,none⟩=false:=⟨h.row.cell a,h.row.frozen j⟩
def eZ (es:List dN) (i:Nat) (k:Key):List dN:=es.modify i (fun e=>{ e with watched:=k })
def iT (es:List dN) (i:Nat) (n:Nat):List dN:=es.modify i (fun e=>{ e with times:=n })
theorem pY (a:dN) (r:List dN):jO (a :: r)=lQ a ++ jO r:=rfl
theorem Gr (es:List dN) (i:Nat) (hi:i < es.length) (k:Key):jO (eZ es i k)=((jO es).set (i * 5 + 2) (.int .u64 (k.1:Int))).set (i * 5 + 3) (.int .u64 (k.2:Int)):=by
 unfold eZ
 induction es generalizing i with
 | nil=>simp at hi
 | cons a r ih=>
  cases i with
  | zero=>rfl
  | succ i=>
   have b:(lQ a).length=5:=rfl;rw [List.modify_succ_cons,pY,pY,ih i (by simpa using hi),List.set_append_right _ _ (by rw [b];omega),List.set_append_right _ _ (by rw [b];omega),b]
   congr 2
   ·congr 1;omega
   ·omega
theorem Gs (es:List dN) (i:Nat) (hi:i < es.length) (n:Nat):jO (iT es i n)=(jO es).set (i * 5 + 4) (.int .i64 (n:Int)):=by
 unfold iT
 induction es generalizing i with
 | nil=>simp at hi
 | cons a r ih=>
  cases i with
  | zero=>rfl
  | succ i=>
   have b:(lQ a).length=5:=rfl;rw [List.modify_succ_cons,pY,pY,ih i (by simpa using hi),List.set_append_right _ _ (by rw [b];omega),b]
   congr 2
   omega
theorem ic (es:List dN) (i:Nat) (k:Key):(eZ es i k).length=es.length:=by unfold eZ;simp
theorem kT (es:List dN) (i:Nat) (n:Nat):(iT es i n).length=es.length:=by unfold iT;simp
theorem Ic (es:List dN) (i:Nat) (k:Key):(eZ es i k).map dN.set=es.map dN.set:=by
 unfold eZ;refine List.ext_getElem? fun j=>?_
 rw [List.getElem?_map,List.getElem?_map,List.getElem?_modify];split
 ·rename_i h;subst h;cases es[i]? <;> rfl
 ·simp
theorem Ie (es:List dN) (i:Nat) (n:Nat):(iT es i n).map dN.set=es.map dN.set:=by
 unfold iT;refine List.ext_getElem? fun j=>?_
 rw [List.getElem?_map,List.getElem?_map,List.getElem?_modify];split
 ·rename_i h;subst h;cases es[i]? <;> rfl
 ·simp
theorem Ml {es b:List dN} (h:b.map dN.set=es.map dN.set) (s:Key):look b s=look es s:=by
 have a:∀ l:List dN,look l s=(l.map dN.set).findIdx? (fun k=>decide (k=s)):=fun l=>by
  unfold look;rw [List.findIdx?_map];rfl
 rw [a,a,h]
theorem fu.Km {v cap:Nat} {b:List dN} {ws:World} (h:fu B sb w cv mb gone u wv es wl) (q:cv=.slice (some ⟨v,0,none⟩) es.length cap) (f:b.length=es.length) (l:b.map dN.set=es.map dN.set)
  (n:ws.ownsRow B 180 5 cv es.length (jO b)) (a:∀ k,k ≠ v->ws.heap[k]? = w.heap[k]?):fu B sb ws cv mb gone u wv b wl:=by
 obtain ⟨d,m⟩:∃ d,w.heap[v]? = some (.cells d 180 (0,0)):=by
  rcases h.cls.2 with ⟨e,_⟩ | ⟨g,j,d,e,_,p,_⟩
  ·rw [q] at e;cases e
  ·rw [q] at e;cases e;exact ⟨d,p⟩
 have x:sb ≠ v:=fun e=>by
  obtain ⟨c,z,_⟩:=h.row;rw [e,m] at z;cases z
 have y:mb ≠ v:=fun e=>h.map.iq (by rw [e];exact m)
 exact {
  row:=h.row.of_block (a _ x)
  cls:=by rw [f];exact n
  map:=by rw [f];exact (h.map.kept (a _ y)).congr fun s _=>(Ml l s).symm
  mP:=fun k A=>by
   have o:=h.mP k A;refine ⟨o.1,?_⟩
   rcases o.2 with e | ⟨g,j,t,e,C,p,r⟩
   ·exact .inl e
   ·refine .inr ⟨g,j,t,e,C,?_,r⟩;rw [a g (fun D=>by rw [D,m] at p;cases p)];exact p
  apart:=h.apart
  jf:=h.jf
  zB:=h.zB }
theorem fu.fB (h:fu B sb w cv mb gone u wv es wl) (g:Int):fu B sb (w.setCell ⟨sb,2,none⟩ (.int .i64 g)) cv mb g u wv es wl where
 row:=(h.row.set 2 _).congr fun i n=>by
  match i with
  | 0=>rfl
  | 1=>rfl
  | 2=>rfl
  | 3=>rfl
  | 4=>rfl
  | k + 5=>simp [iU]
 cls:=ownsRow_setCell_other h.cls (fun e=>by
  rcases h.cls.2 with ⟨b,_⟩ | ⟨m,d,j,b,_,f,_⟩
  ·rw [b] at e;cases e
  ·rw [b] at e;cases e
   obtain ⟨c,a,_⟩:=h.row;rw [f] at a;cases a) _
 map:=h.map.kept (Below.heap_setCell _ _ _ _ (fun e=>by
  obtain ⟨c,a,_⟩:=h.row;exact h.map.iq (by rw [e];exact a)))
 mP:=fun k l=>ownsRow_setCell_other (h.mP k l) (fun e=>by
  rcases (h.mP k l).2 with ⟨b,_⟩ | ⟨m,d,j,b,_,f,_⟩
  ·rw [b] at e;cases e
  ·rw [b] at e;cases e
   obtain ⟨c,a,_⟩:=h.row;rw [f] at a;cases a) _
 apart:=h.apart
 jf:=h.jf
 zB:=h.zB
theorem fu.iN (h:fu B sb w cv mb gone u wv es wl):mb ≠ sb/\(∀ g,cv.ownBlock=some g->g ≠ sb)/\∀ k,k < 128->∀ g,(wv k).ownBlock=some g->g ≠ sb:=by
 obtain ⟨c,j,_⟩:=h.row;refine ⟨fun e=>h.map.iq (by rw [e];exact j),fun g b e=>?_,fun k m g b e=>?_⟩
 ·rcases h.cls.2 with ⟨d,_⟩ | ⟨n,f,l,d,_,a,_⟩
  ·rw [d] at b;cases b
  ·rw [d] at b;cases b;simp only at e;rw [e,j] at a;cases a
 ·rcases (h.mP k m).2 with ⟨d,_⟩ | ⟨n,f,l,d,_,a,_⟩
  ·rw [d] at b;cases b
  ·rw [d] at b;cases b;simp only at e;rw [e,j] at a;cases a
theorem gu {w w':World} {B e size n:Nat} {v:Value} {c:List Value} (h:w.ownsRow B e size v n c) (d:∀ g,v.ownBlock=some g->w'.heap[g]? = w.heap[g]?):w'.ownsRow B e size v n c:=by
 refine ⟨h.1,?_⟩
 rcases h.2 with e | ⟨g,b,a,e,j,f,r⟩
 ·exact .inl e
 ·exact .inr ⟨g,b,a,e,j,by rw [d g (by rw [e];rfl)];exact f,r⟩
theorem fu.Xn {ws:World} {f:Int} {d:Key} (h:fu B sb w cv mb gone u wv es wl) (b:ws.rowIs sb 134 133 (iU cv mb f d wv)) (a:∀ k,k ≠ sb->ws.heap[k]? = w.heap[k]?):fu B sb ws cv mb f d wv es wl where
 row:=b
 cls:=gu h.cls fun g c=>a g (h.iN.2.1 g c)
 map:=h.map.kept (a _ h.iN.1)
 mP:=fun k e=>gu (h.mP k e) fun g c=>a g (h.iN.2.2 k e g c)
 apart:=h.apart
 jf:=h.jf
 zB:=h.zB
theorem fu.JW {w6:World} {ob:Obj} {v':Value} {p at':Nat} (h:fu B sb w cv mb gone u wv es wl) (q:p < 128) (A:dz (w.alloc ob) B 3 1 (wv p) (wl p).length (fA (wl p)) 1 [.int .i64 (at':Int)] v' w6):
  fu B sb (w6.setCell ⟨sb,5 + p,none⟩ v') cv mb gone u (fun k=>if k=p then v' else wv k) es (fun k=>if k=p then wl p ++ [at'] else wl k):=by
 have d:=h.later (bR.alloc lr ob);have far:∀ k,k < (w.alloc ob).heap.size->some k ≠ (wv p).ownBlock->w6.heap[k]? = (w.alloc ob).heap[k]? := A.grew.block;have l:∀ g,(wv p).ownBlock=some g->∃ f,(w.alloc ob).heap[g]? = some (.cells f 3 (0,0)):=fun g b=>by
  rcases (d.mP p q).2 with ⟨c,_⟩ | ⟨G,C,f,c,_,j,_⟩
  ·rw [c] at b;cases b
  ·rw [c] at b;cases b;exact ⟨f,j⟩
 have s:w6.rowIs sb 134 133 (iU cv mb gone u wv):=d.row.of_block (far _ d.row.lt (fun e=>(d.iN.2.2 p q sb e.symm) rfl));have D:∀ g,v'.ownBlock=some g->g ≠ sb:=fun g b e=>by
  rcases A.at' with c | c
  ·rw [c] at b;exact d.iN.2.2 p q g b e
  ·rw [c] at b;cases b;have:=d.row.lt;omega
 have z:∀ g,cv.ownBlock=some g->some g ≠ (wv p).ownBlock:=fun g b e=>by
  obtain ⟨f,E⟩:=l g e.symm
  rcases d.cls.2 with ⟨c,_⟩ | ⟨G,C,F,c,_,j,_⟩
  ·rw [c] at b;cases b
  ·rw [c] at b;cases b;rw [E] at j;cases j
 have y:some mb ≠ (wv p).ownBlock:=fun e=>by
  obtain ⟨f,E⟩:=l mb e.symm;exact d.map.iq E
 exact {
  row:=(s.set (5 + p) _).congr fun i H=>by
   match i with
   | 0=>rw [if_neg (by omega)];rfl
   | 1=>rw [if_neg (by omega)];rfl
   | 2=>rw [if_neg (by omega)];rfl
   | 3=>rw [if_neg (by omega)];rfl
   | 4=>rw [if_neg (by omega)];rfl
   | k + 5=>
    by_cases e:k=p
    ·subst e;simp [iU,Nat.add_comm]
    ·have:¬ (k + 5=5 + p):=by omega
     simp [iU,this,e]
  cls:=ownsRow_setCell_other (gu d.cls fun g b=>far g (d.cls.lt g b).2 (z g b)) (fun e=>d.iN.2.1 sb e rfl) _
  map:=(d.map.kept (far _ d.map.lt y)).kept (Below.heap_setCell _ _ _ _ d.iN.1)
  mP:=fun k m=>by
   by_cases e:k=p
   ·subst e;simp only [if_true];have:=ownsRow_setCell_other A.own (a:=⟨sb,5 + k,none⟩) (fun e=>D sb e rfl) v';unfold fA at *
    rw [List.map_append,List.length_append];exact this
   ·simp only [e,if_false];refine ownsRow_setCell_other (gu (d.mP k m) fun g b=>far g ((d.mP k m).lt g b).2 (fun c=>?_)) (fun e=>d.iN.2.2 k m sb e rfl) _
    rcases h.apart k p m q e with o | o
    ·rw [o] at b;cases b
    ·exact o (by rw [b,c])
  apart:=fun k t m n v=>by
   by_cases e:k=p
   ·by_cases r:t=p
    ·exact absurd (by rw [e,r]) v
    ·simp only [e,r,if_true,if_false]
     rcases A.at' with c | c
     ·rw [c];exact h.apart p t q n (fun x=>r x.symm)
     ·right;rw [c];intro o
      have:=((d.mP t n).lt _ o.symm).2;omega
   ·by_cases r:t=p
    ·simp only [e,r,if_true,if_false]
     rcases A.at' with c | c
     ·rw [c];exact h.apart k p m q e
     ·cases b:(wv k).ownBlock with
      | none=>exact .inl rfl
      | some g=>
       right;rw [c];intro o
       have:=((d.mP k m).lt _ b).2;cases o;omega
    ·simp only [e,r,if_false];exact h.apart k t m n v
  jf:=h.jf
  zB:=h.zB }
theorem fu.setW {a cap i:Nat} (h:fu B sb w (.slice (some ⟨a,0,none⟩) es.length cap) mb gone u wv es wl) (hi:i < es.length) (k:Key):
  fu B sb ((w.setCell ⟨a,i * 5 + 2,none⟩ (.int .u64 (k.1:Int))).setCell ⟨a,i * 5 + 2 + 1,none⟩ (.int .u64 (k.2:Int))) (.slice (some ⟨a,0,none⟩) es.length cap) mb gone u wv (eZ es i k) wl:=by
 refine h.Km rfl (ic es i k) (Ic es i k) ?_ (fun j b=>?_)
 ·rw [Gr es i hi k];exact ((h.cls.stored (i * 5 + 2) _).1.stored (i * 5 + 3) _).1
 ·rw [Below.heap_setCell _ _ _ _ b,Below.heap_setCell _ _ _ _ b]
theorem fu.Ol {a cap i:Nat} (h:fu B sb w (.slice (some ⟨a,0,none⟩) es.length cap) mb gone u wv es wl) (hi:i < es.length) (n:Nat):
  fu B sb (w.setCell ⟨a,i * 5 + 4,none⟩ (.int .i64 (n:Int))) (.slice (some ⟨a,0,none⟩) es.length cap) mb gone u wv (iT es i n) wl:=by
 refine h.Km rfl (kT es i n) (Ie es i n) ?_ (fun j b=>?_)
 ·rw [Gs es i hi n];exact (h.cls.stored (i * 5 + 4) _).1
 ·rw [Below.heap_setCell _ _ _ _ b]
theorem fu.jQ {w6:World} {ob:Obj} {v':Value} {p at':Nat} (h:fu B sb w cv mb gone u wv es wl) (c:p < 128) (A:dz (w.alloc ob) B 3 1 (wv p) (wl p).length (fA (wl p)) 1 [.int .i64 (at':Int)] v' w6) (j:Nat) (d:j < 133):
  w6.cell? ⟨sb,j,none⟩=some (iU cv mb gone u wv j)/\w6.frozen? ⟨sb,j,none⟩=false:=by
 have b:=h.later (bR.alloc lr ob);have a:w6.rowIs sb 134 133 (iU cv mb gone u wv):=b.row.of_block (A.grew.block _ b.row.lt (fun e=>(b.iN.2.2 p c sb e.symm) rfl));exact ⟨a.cell d,a.frozen j⟩
theorem fu.nO {w0 w6:World} {ob:Obj} {v':Value} {p at':Nat} (h:fu B sb w cv mb gone u wv es wl) (a:p < 128) (A:dz (w.alloc ob) B 3 1 (wv p) (wl p).length (fA (wl p)) 1 [.int .i64 (at':Int)] v' w6) (c:Below B w0 w) (x:Value) (j:Nat):
  Below B w0 (w6.setCell ⟨sb,j,none⟩ x):=
 ((c.alloc h.bsize ob).grown A.grew (by have:=h.bsize;simp;omega) (fun k b=>((h.mP p a).lt k b).1)).setCell h.jf _
theorem Mk (es:List dN) (e:dN) (h:look es e.set=none) (s:Key):look (es ++ [e]) s=if s=e.set then some es.length else look es s:=by
 unfold look at *
 rw [List.findIdx?_append];by_cases a:s=e.set
 ·subst a;rw [h,if_pos rfl];simp [List.findIdx?_cons]
 ·rw [if_neg a]
  cases b:es.findIdx? (fun x=>decide (x.set=s)) with
  | some i=>rfl
  | none=>
   have:¬ e.set=s:=fun x=>a x.symm
   simp [List.findIdx?_cons,this]
theorem fu.Xq {p w6:World} {ob:Obj} {l:Value} {e:dN} (h:fu B sb w cv mb gone u wv es wl) (I:look es e.set=none) (v:w.grownBy p (some mb)) (z:jB p mb (es.length + 1) (fun s=>if s=e.set then some es.length else look es s))
  (A:dz (p.alloc ob) B 180 5 cv es.length (jO es) 1 (lQ e) l w6):fu B sb (w6.setCell ⟨sb,0,none⟩ l) l mb gone u wv (es ++ [e]) wl:=by
 have H:=v.size;have K:∀ k,k < w.heap.size->k ≠ mb->(p.alloc ob).heap[k]? = w.heap[k]? := fun k m q=>by
  rw [Below.heap_alloc p ob k (by omega)];exact v.block k m (fun e=>q (Option.some.inj e))
 have D:=h.map.lt;have t:=h.row.lt;have x:∀ g,cv.ownBlock=some g->g < w.heap.size/\∃ b,w.heap[g]? = some (.cells b 180 (0,0)):=fun g d=>by
  refine ⟨(h.cls.lt g d).2,?_⟩
  rcases h.cls.2 with ⟨f,_⟩ | ⟨E,o,b,f,_,j,_⟩
  ·rw [f] at d;cases d
  ·rw [f] at d;cases d;exact ⟨b,j⟩
 have F:∀ k,k < w.heap.size->k ≠ mb->(∀ b,w.heap[k]? ≠ some (.cells b 180 (0,0)))->w6.heap[k]? = w.heap[k]? := fun k m q J=>by
  rw [A.grew.block k (by simp;omega) (fun e=>by obtain ⟨_,b,n⟩:=x k e.symm;exact J b n),K k m q]
 have r:w6.rowIs sb 134 133 (iU cv mb gone u wv):=h.row.of_block (F sb t (fun e=>h.iN.1 e.symm) (fun b n=>by obtain ⟨c,C,_⟩:=h.row;rw [n] at C;cases C));have G:w6.heap[mb]? = p.heap[mb]? := by
  rw [A.grew.block mb (by simp;omega) (fun e=>by obtain ⟨_,b,n⟩:=x mb e.symm;exact h.map.iq n),Below.heap_alloc p ob mb (by omega)]
 have y:∀ g,l.ownBlock=some g->g ≠ sb:=fun g d e=>by
  rcases A.at' with f | f
  ·rw [f] at d;exact h.iN.2.1 g d e
  ·rw [f] at d;cases d;simp at e;omega
 exact {
  row:=(r.set 0 _).congr fun i M=>by
   match i with
   | 0=>rfl
   | 1=>rfl
   | 2=>rfl
   | 3=>rfl
   | 4=>rfl
   | k + 5=>simp [iU]
  cls:=by
   have:=ownsRow_setCell_other A.own (a:=⟨sb,0,none⟩) (fun e=>y sb e rfl) l;rw [List.length_append,Jj];exact this
  map:=by
   rw [List.length_append];refine ((z.kept G).kept (Below.heap_setCell _ _ _ _ h.iN.1)).congr fun s L=>?_
   exact (Mk es e I s).symm
  mP:=fun k m=>by
   refine ownsRow_setCell_other (gu (h.mP k m) fun g d=>F g ((h.mP k m).lt g d).2 (fun e=>?_) (fun b n=>?_)) (fun e=>h.iN.2.2 k m sb e rfl) _
   ·rcases (h.mP k m).2 with ⟨f,_⟩ | ⟨E,o,b,f,_,j,_⟩
    ·rw [f] at d;cases d
    ·rw [f] at d;cases d;exact h.map.iq (by rw [<- e];exact j)
   ·rcases (h.mP k m).2 with ⟨f,_⟩ | ⟨E,o,b,f,_,j,_⟩
    ·rw [f] at d;cases d
    ·rw [f] at d;cases d;simp only at n;rw [n] at j;cases j
  apart:=h.apart
  jf:=h.jf
  zB:=h.zB }
theorem fu.U9 {c w6:World} {ob:Obj} {d:Value} {e:dN} (h:fu B sb w cv mb gone u wv es wl) (b:w.grownBy c (some mb))
  (A:dz (c.alloc ob) B 180 5 cv es.length (jO es) 1 (lQ e) d w6):w6.cell? ⟨sb,0,none⟩=some cv/\w6.frozen? ⟨sb,0,none⟩=false:=by
 have f:=b.size;have a:=h.row.lt;have g:w6.heap[sb]? = w.heap[sb]? := by
  rw [A.grew.block sb (by simp;omega) (fun e=>h.iN.2.1 sb e.symm rfl),Below.heap_alloc c ob sb (by omega)];exact b.block sb a (fun e=>h.iN.1 (Option.some.inj e).symm)
 have:=h.row.of_block g;exact ⟨this.cell (by omega),this.frozen 0⟩
theorem fu.Wp {w0 d w6:World} {ob:Obj} {c:Value} {e:dN} (h:fu B sb w cv mb gone u wv es wl) (a:w.grownBy d (some mb))
  (A:dz (d.alloc ob) B 180 5 cv es.length (jO es) 1 (lQ e) c w6) (f:Below B w0 w) (x:Value):Below B w0 (w6.setCell ⟨sb,0,none⟩ x):=by
 have g:=h.bsize;have j:=a.size;exact (((f.grown a g (fun k b=>by cases b;exact h.zB)).alloc (by omega) ob).grown A.grew (by simp;omega) (fun k b=>(h.cls.lt k b).1)).setCell h.jf _
def kP (w:World) (k:Nat):Prop:=∃ cur t,w.heap[k]? = some (.cells cur t (0,0))/\t ≠ 134/\t ≠ 180/\t ≠ 3
def dm (w w':World):Prop:=∀ k,kP w k->w'.heap[k]? = w.heap[k]?
theorem kP.lt {w:World} {k:Nat} (h:kP w k):k < w.heap.size:=by
 obtain ⟨c,t,e,_⟩:=h;exact (Array.getElem?_eq_some_iff.1 e).1
theorem dm.refl (w:World):dm w w:=fun _ _=>rfl
theorem dm.trans {a b c:World} (h:dm a b) (k:dm b c):dm a c:=fun n d=>by
 have e:=h n d;rw [k n (by obtain ⟨x,t,g,f⟩:=d;exact ⟨x,t,by rw [e];exact g,f⟩),e]
theorem dm.of_below {w w':World} (h:Below w.heap.size w w'):dm w w':=fun k a=>h.block k a.lt
theorem dm.cell {w w':World} (h:dm w w') {b j:Nat} (c:kP w b):w'.cell? ⟨b,j,none⟩=w.cell? ⟨b,j,none⟩:=World.cell?_of_block (a:=⟨b,j,none⟩) (h b c)
theorem dm.rV {w w':World} (h:dm w w') {b:Nat} (a:kP w b):kP w' b:=by
 have e:=h b a;obtain ⟨x,t,d,c⟩:=a;exact ⟨x,t,by rw [e];exact d,c⟩
theorem fu.qN (h:fu B sb w cv mb gone u wv es wl) (j:Nat) (x:Value):dm w (w.setCell ⟨sb,j,none⟩ x):=fun k d=>Below.heap_setCell _ _ _ _ (fun e=>by
 obtain ⟨c,b,_⟩:=h.row;obtain ⟨y,t,a,f,_⟩:=d;rw [e,b] at a;cases a;exact f rfl)
theorem fu.qO {d n cap:Nat} (h:fu B sb w (.slice (some ⟨d,0,none⟩) n cap) mb gone u wv es wl) (j:Nat) (x:Value):dm w (w.setCell ⟨d,j,none⟩ x):=fun k g=>Below.heap_setCell _ _ _ _ (fun e=>by
 obtain ⟨y,t,c,_,l,_⟩:=g
 rcases h.cls.2 with ⟨b,_⟩ | ⟨o,f,m,b,_,a,_⟩
 ·cases b
 ·cases b;rw [e,a] at c;cases c;exact l rfl)
theorem fu.ME {w6:World} {ob:Obj} {v':Value} {p at':Nat} (h:fu B sb w cv mb gone u wv es wl) (o:p < 128) (A:dz (w.alloc ob) B 3 1 (wv p) (wl p).length (fA (wl p)) 1 [.int .i64 (at':Int)] v' w6) (x:Value) (j:Nat):
  dm w (w6.setCell ⟨sb,j,none⟩ x):=fun k g=>by
 have f:=g.lt;obtain ⟨c,n,_⟩:=h.row;have d:k ≠ sb:=fun e=>by obtain ⟨y,t,b,a,_⟩:=g;rw [e,n] at b;cases b;exact a rfl
 rw [Below.heap_setCell _ _ _ _ d,A.grew.block k (by simp;omega) (fun e=>?_),Below.heap_alloc w ob k f];obtain ⟨y,t,b,_,_,q⟩:=g
 rcases (h.mP p o).2 with ⟨a,_⟩ | ⟨s,m,r,a,_,l,_⟩
 ·rw [a] at e;cases e
 ·rw [a] at e;cases e;rw [l] at b;cases b;exact q rfl
theorem fu.V9 {g w6:World} {ob:Obj} {o:Value} {e:dN} (h:fu B sb w cv mb gone u wv es wl) (b:w.grownBy g (some mb))
  (A:dz (g.alloc ob) B 180 5 cv es.length (jO es) 1 (lQ e) o w6) (x:Value):dm w (w6.setCell ⟨sb,0,none⟩ x):=fun k f=>by
 have m:=f.lt;have q:=b.size;obtain ⟨c,r,_⟩:=h.row;have j:k ≠ sb:=fun e=>by obtain ⟨y,t,a,d,_⟩:=f;rw [e,r] at a;cases a;exact d rfl
 have l:k ≠ mb:=fun e=>by obtain ⟨y,t,a,_⟩:=f;rw [e] at a;exact h.map.iq a
 rw [Below.heap_setCell _ _ _ _ j,A.grew.block k (by simp;omega) (fun e=>?_),Below.heap_alloc g ob k (by omega),b.block k m (fun e=>l (Option.some.inj e))];obtain ⟨y,t,a,_,s,_⟩:=f
 rcases h.cls.2 with ⟨d,_⟩ | ⟨z,p,v,d,_,n,_⟩
 ·rw [d] at e;cases e
 ·rw [d] at e;cases e;rw [n] at a;cases a;exact s rfl
theorem qQ (w:World) (c:Array Value) (t:TypeId) (h:t ≠ 134/\t ≠ 180/\t ≠ 3):kP (w.alloc (.cells c t)) w.heap.size:=⟨c,t,heap_alloc_new _ _,h⟩
theorem fu.vD {a n cap:Nat} (h:fu B sb w (.slice (some ⟨a,0,none⟩) n cap) mb gone u wv es wl) (j l:Nat) (x y:Value):dm w ((w.setCell ⟨a,j,none⟩ x).setCell ⟨a,l,none⟩ y):=fun k m=>by
 have d:k ≠ a:=fun e=>by
  obtain ⟨y,t,f,_,o,_⟩:=m
  rcases h.cls.2 with ⟨c,_⟩ | ⟨q,g,p,c,_,b,_⟩
  ·cases c
  ·cases c;rw [e,b] at f;cases f;exact o rfl
 rw [Below.heap_setCell _ _ _ _ d,Below.heap_setCell _ _ _ _ d]
def iJ (cv cv':Value) (w w':World):Prop:=∀ k cur,w.heap[k]? = some (.cells cur 180 (0,0))->cv.ownBlock ≠ some k->w'.heap[k]? = w.heap[k]? /\ cv'.ownBlock ≠ some k
theorem iJ.trans {l j g:Value} {a b c:World} (h:iJ l j a b) (k:iJ j g b c):iJ l g a c:=fun n d e m=>by
 obtain ⟨f,q⟩:=h n d e m;obtain ⟨p,o⟩:=k n d (by rw [f];exact e) q;exact ⟨p.trans f,o⟩
theorem iJ.of_below {cv:Value} {w w':World} (h:Below w.heap.size w w'):iJ cv cv w w':=fun k c b a=>⟨h.block k (Array.getElem?_eq_some_iff.1 b).1,a⟩
theorem fu.MF {a n cap:Nat} (h:fu B sb w (.slice (some ⟨a,0,none⟩) n cap) mb gone u wv es wl) (j d:Nat) (x y:Value):iJ (.slice (some ⟨a,0,none⟩) n cap) (.slice (some ⟨a,0,none⟩) n cap) w ((w.setCell ⟨a,j,none⟩ x).setCell ⟨a,d,none⟩ y):=fun k f g c=>by
 have b:k ≠ a:=fun e=>c (by rw [e];rfl)
 rw [Below.heap_setCell _ _ _ _ b,Below.heap_setCell _ _ _ _ b];exact ⟨rfl,c⟩
theorem fu.MG {w6:World} {ob:Obj} {v':Value} {p at':Nat} (h:fu B sb w cv mb gone u wv es wl) (o:p < 128) (A:dz (w.alloc ob) B 3 1 (wv p) (wl p).length (fA (wl p)) 1 [.int .i64 (at':Int)] v' w6) (x:Value) (j:Nat):
  iJ cv cv w (w6.setCell ⟨sb,j,none⟩ x):=fun k l a q=>by
 have d:=(Array.getElem?_eq_some_iff.1 a).1;obtain ⟨c,n,_⟩:=h.row;have b:k ≠ sb:=fun e=>by rw [e,n] at a;cases a
 refine ⟨?_,q⟩;rw [Below.heap_setCell _ _ _ _ b,A.grew.block k (by simp;omega) (fun e=>?_),Below.heap_alloc w ob k d]
 rcases (h.mP p o).2 with ⟨g,_⟩ | ⟨r,m,l,g,_,f,_⟩
 ·rw [g] at e;cases e
 ·rw [g] at e;cases e;rw [f] at a;cases a
theorem fu.Um {f w6:World} {ob:Obj} {d:Value} {e:dN} (h:fu B sb w cv mb gone u wv es wl) (b:w.grownBy f (some mb))
  (A:dz (f.alloc ob) B 180 5 cv es.length (jO es) 1 (lQ e) d w6) (x:Value):iJ cv d w (w6.setCell ⟨sb,0,none⟩ x):=fun k q a n=>by
 have l:=(Array.getElem?_eq_some_iff.1 a).1;have o:=b.size;obtain ⟨c,p,_⟩:=h.row;have g:k ≠ sb:=fun e=>by rw [e,p] at a;cases a
 have j:k ≠ mb:=fun e=>by rw [e] at a;exact h.map.iq a
 refine ⟨?_,fun e=>?_⟩
 ·rw [Below.heap_setCell _ _ _ _ g,A.grew.block k (by simp;omega) (fun e=>n (by first | exact e | exact e.symm)),Below.heap_alloc f ob k (by omega),b.block k l (fun e=>j (Option.some.inj e))]
 ·rcases A.at' with m | m
  ·rw [m] at e;exact n e
  ·rw [m] at e;have:=Option.some.inj e;simp at this;omega
end
end
def iL (es:List dN) (M:Int->Prop):Prop:=∀ e ∈ es,0 < e.times->(∃ l,e.set.has l=true/\M l)\/∃ a b,a ≠ b/\e.set.has a=true/\e.set.has b=true/\¬ M (-a)/\¬ M (-b)
def sigs (es:List dN):List (Key × Nat):=es.map fun e=>(e.set,e.times)
def xu (k:Key) (M:Int->Prop):Prop:=∀ l,k.has l=true->M l
theorem mI {es c:List dN} (h:sigs c=sigs es) {M:Int->Prop}:iL es M↔iL c M:=by
 have f:∀ (a b:List dN),sigs a=sigs b->iL a M->iL b M:=fun a b j n e m k=>by
  have l:(e.set,e.times) ∈ sigs a:=by rw [j];exact List.mem_map.2 ⟨e,m,rfl⟩
  obtain ⟨o,g,d⟩:=List.mem_map.1 l;simp only [Prod.mk.injEq] at d;have:=n o g (by rw [d.2];exact k);rw [d.1] at this;exact this
 exact ⟨f es c h.symm,f c es h⟩
theorem Ev {es a:List dN} (h:sigs a=sigs es) {j:Nat} (d:j < es.length) (b:j < a.length):(a[j]).set=(es[j]).set/\(a[j]).times=(es[j]).times:=by
 have c:(sigs a)[j]? = (sigs es)[j]? := by rw [h]
 unfold sigs at c;rw [List.getElem?_map,List.getElem?_map,List.getElem?_eq_getElem d,List.getElem?_eq_getElem b] at c;simpa using c
theorem o6 {es a:List dN} (h:sigs a=sigs es):a.length=es.length:=by
 have:=congrArg List.length h;simpa [sigs] using this
def oG (k:Key):Prop:=∀ l,k.has l=true->k.has (-l)=false
theorem Nf {k:Key}:oO k=false↔oG k:=by
 rw [<- Bool.not_eq_true,zy];constructor
 ·intro h l b
  cases e:k.has (-l) with
  | false=>rfl
  | true=>exact absurd ⟨l,b,e⟩ h
 ·rintro h ⟨l,c,a⟩;rw [h l c] at a;cases a
theorem CS {k:Key} (h:oG k):Cons (fun l=>k.has l=true):=fun l c b=>by
 have a:k.has (-l)=true:=b;rw [h l c] at a;cases a
structure iE (es es':List dN) (lit:Int) (down forced:Key) (conflict:Bool):Prop where
 same:sigs es'=sigs es
 old:∀ j (h:j < es.length) (h':j < es'.length) l,(es'[j]).watched.has l=true->(es[j]).watched.has l=true\/down.has (-l)=false
 sound:∀ M,Cons M->xu down M->iL es M->xu forced M/\conflict=false
 kept:conflict=false->∀ j (h':j < es'.length),0 < (es'[j]).times->(es'[j]).watched.has lit=true->∃ l,(es'[j]).set.has l=true/\(down.un forced).has l=true
 cons:oG down->oG (down.un forced)
 fresh:∀ l,forced.has l=true->down.has l=false
 Gl:forced.ok
def XN (es:List dN):Prop:=∀ j (h:j < es.length),2 <= (es[j]).set.size->∃ a b,a ≠ b/\(es[j]).set.has a=true/\(es[j]).set.has b=true/\(es[j]).watched.has a=true/\(es[j]).watched.has b=true
def Rest (es:List dN) (D:Key):Prop:=∀ j (h:j < es.length),0 < (es[j]).times->2 <= (es[j]).set.size->(∃ l,(es[j]).set.has l=true/\D.has l=true)\/∀ l,(es[j]).watched.has l=true->D.has (-l)=false
theorem IB (es:List dN):Rest es (0,0):=fun j h _ _=>.inr fun l _=>fw _
structure Nu (es0:List dN) (base:Key) (es:List dN) (down pending:Key):Prop where
 same:sigs es=sigs es0
 sub:∀ l,pending.has l=true->down.has l=true
 inc:∀ l,base.has l=true->down.has l=true
 under:∀ M,Cons M->xu base M->iL es0 M->xu down M
 watch:∀ j (h:j < es.length),0 < (es[j]).times->2 <= (es[j]).set.size->(∃ l,(es[j]).set.has l=true/\down.has l=true)\/∀ l,(es[j]).watched.has l=true->down.has (-l)=true->pending.has (-l)=true
 TE:oG down
 Yh:down.ok
 Yd:pending.ok
theorem Nu.start {es:List dN} {dG a:Key} (f:Rest es dG) (hd:dG.ok) (b:a.ok) (g:oG (dG.un a)):Nu es (dG.un a) es (dG.un a) (a.wo dG) where
 same:=rfl
 sub:=fun l h=>by rw [kK,Bool.and_eq_true] at h;rw [dL,h.1,Bool.or_true]
 inc:=fun l h=>h
 under:=fun M _ h _=>h
 watch:=fun j h d e=>by
  rcases f j h d e with ⟨l,c,k⟩ | c
  ·exact .inl ⟨l,c,by rw [dL,k];rfl⟩
  ·refine .inr fun l b hd=>?_
   rw [dL,c l b,Bool.false_or] at hd;rw [kK,hd,c l b];rfl
 TE:=g
 Yh:=qB hd b
 Yd:=sD b _
theorem Nu.step {es0 es f:List dN} {base c a forced:Key} {p:Int} (h:Nu es0 base es c a) (A:a.has p=true) (n:p ≠ 0) (F:iE es f (-p) c forced false):
  Nu es0 base f (c.un forced) ((a.wo (single p)).un forced) where
 same:=F.same.trans h.same
 sub:=fun l b=>by
  rw [dL,Bool.or_eq_true] at b;rw [dL,Bool.or_eq_true]
  rcases b with b | b
  ·rw [kK,Bool.and_eq_true] at b;exact .inl (h.sub l b.1)
  ·exact .inr b
 inc:=fun l b=>by rw [dL,h.inc l b];rfl
 under:=fun M s v g l b=>by
  rw [dL,Bool.or_eq_true] at b;have hd:=h.under M s v g
  rcases b with b | b
  ·exact hd l b
  ·exact (F.sound M s hd ((mI h.same.symm).2 g |> fun x=>x)).1 l b
 watch:=fun j k r g=>by
  have d:j < es.length:=by rw [<- o6 F.same];exact k
  obtain ⟨t,y⟩:=Ev F.same d k;by_cases q:∃ l,(f[j]).set.has l=true/\(c.un forced).has l=true
  ·exact .inl q
  ·refine .inr fun l b hd=>?_
   rw [dL,Bool.or_eq_true] at hd ⊢
   rcases hd with hd | hd
   ·
    left
    rcases F.old j d k l b with o | o
    ·rcases h.watch j d (by rw [<- y];exact r) (by rw [<- t];exact g) with ⟨x,x1,x2⟩ | hw
     ·exact absurd ⟨x,by rw [t];exact x1,by rw [dL,x2];rfl⟩ q
     ·have m:=hw l o hd;rw [kK,m,dh n];have:¬ (-l=p):=fun e=>by
       have z:l=-p:=by omega
       rw [z] at b;exact q (F.kept rfl j k r b)
      simp [this]
    ·rw [o] at hd;cases hd
   ·exact .inr hd
 TE:=F.cons h.TE
 Yh:=qB h.Yh F.Gl
 Yd:=qB (sD h.Yd _) F.Gl
theorem rest_step {es d:List dN} {D a forced:Key} {lit:Int} {b:Bool} (n:Rest es D) (p:∀ l,D.has l=true->a.has l=true) (F:iE es d lit a forced b):Rest d D:=fun j g k m=>by
 have c:j < es.length:=by rw [<- o6 F.same];exact g
 obtain ⟨h,q⟩:=Ev F.same c g
 rcases n j c (by rw [<- q];exact k) (by rw [<- h];exact m) with ⟨l,h1,h2⟩ | hw
 ·exact .inl ⟨l,by rw [h];exact h1,h2⟩
 ·refine .inr fun l o=>?_
  rcases F.old j c g l o with f | f
  ·exact hw l f
  ·cases e:D.has (-l) with
   | false=>rfl
   | true=>rw [p _ e] at f;cases f
theorem Nu.conflict {es0 es c:List dN} {base b a forced:Key} {lit:Int} (h:Nu es0 base es b a) (F:iE es c lit b forced true):∀ M,Cons M->xu base M->¬ iL es0 M:=fun M e f d=>by
 have:=(F.sound M e (h.under M e f d) ((mI h.same.symm).2 d |> fun x=>x)).2;cases this
theorem Nu.finish {es0 es:List dN} {base c:Key} (h:Nu es0 base es c (0,0)) (s:XN es) (v:∀ e ∈ es,e.set.ok) (t:∀ e ∈ es,0 < e.times->e.set.size=1->∃ l,e.set.has l=true/\c.has l=true) (A:∀ e ∈ es,0 < e.times->e.set.size ≠ 0):iL es0 (fun l=>c.has l=true):=by
 refine (mI h.same).2 fun e k g=>?_
 obtain ⟨j,p,rfl⟩:=List.mem_iff_getElem.1 k
 rcases Nat.lt_or_ge (es[j]).set.size 2 with d | d
 ·have f:∀ n:Nat,n < 2->n ≠ 0->n=1:=fun n a b=>by omega
  exact .inl (t _ k g (f _ d (A _ k g)))
 ·rcases h.watch j p g d with x | o
  ·exact .inl x
  ·obtain ⟨a,b,m,z,y,r,q⟩:=s j p d;refine .inr ⟨a,b,m,z,y,fun hd=>?_,fun hd=>?_⟩
   ·have:=o a r hd;rw [fw] at this;cases this
   ·have:=o b q hd;rw [fw] at this;cases this
structure UK (es:List dN) (L:List Cl):Prop where
 YA:∀ e ∈ es,0 < e.times->∃ c ∈ L,setOf c=e.set
 from':∀ c ∈ L,∃ e ∈ es,0 < e.times/\e.set=setOf c
 lits:∀ c ∈ L,∀ l ∈ c,jG l
theorem UK.has {es:List dN} {L:List Cl} (h:UK es L) {c:Cl} (b:c ∈ L) (l:Int):(setOf c).has l=true↔l ∈ c:=by
 rw [has_setOf (fun x a=>rU (h.lits c b x a))];simp
theorem UK.stable {es:List dN} {L:List Cl} (h:UK es L) (M:Int->Prop):iL es M↔Stable L M:=by
 constructor
 ·intro n c g;obtain ⟨e,o,m,d⟩:=h.from' c g
  rcases n e o m with ⟨l,f,j⟩ | ⟨a,b,k,f,j,q,p⟩
  ·rw [d,h.has g] at f;exact .inl ⟨l,f,j⟩
  ·rw [d,h.has g] at f j;exact .inr ⟨a,f,b,j,k,q,p⟩
 ·intro n e o m;obtain ⟨c,g,d⟩:=h.YA e o m
  rcases n c g with ⟨l,f,j⟩ | ⟨a,f,b,j,k,q,p⟩
  ·exact .inl ⟨l,by rw [<- d,h.has g];exact f,j⟩
  ·exact .inr ⟨a,b,k,by rw [<- d,h.has g];exact f,by rw [<- d,h.has g];exact j,q,p⟩
theorem UK.conf {es:List dN} {L:List Cl} (h:UK es L) (e:List Int):jk L e↔∀ M,Cons M->(∀ l ∈ e,M l)->¬ iL es M:=by
 unfold jk;constructor
 ·intro c M d b a;exact c M d b ((h.stable M).1 a)
 ·intro c M d b a;exact c M d b ((h.stable M).2 a)
section
structure fJ (es:List dN) (wl:Nat->List Nat):Prop where
 two:∀ j (h:j < es.length),2 <= (es[j]).set.size->∃ a b,a ≠ b/\dY a/\dY b/\(es[j]).set.has a=true/\(es[j]).set.has b=true/\(es[j]).watched=(single a).un (single b)/\j ∈ wl (place a)/\j ∈ wl (place b)
 one:∀ j (h:j < es.length),¬ 2 <= (es[j]).set.size->(es[j]).watched=(0,0)
 lists:∀ k,k < 128->∀ j ∈ wl k,∃ h:j < es.length,2 <= (es[j]).set.size/\∃ l,dY l/\place l=k/\(es[j]).watched.has l=true
 nodup:∀ k,k < 128->(wl k).Nodup
 ok:∀ e ∈ es,e.set.ok
theorem fJ.Yn {es:List dN} {wl:Nat->List Nat} (h:fJ es wl):XN es:=fun j k g=>by
 obtain ⟨a,b,c,f,e,m,l,d,_⟩:=h.two j k g;exact ⟨a,b,c,m,l,by rw [d,dL,dh (dD f)];simp,by rw [d,dL,dh (dD e)];simp⟩
theorem fJ.pair {es:List dN} {wl:Nat->List Nat} (h:fJ es wl) {lit:Int} (m:dY lit) {j:Nat} (y:j ∈ wl (place lit)):∃ (f:j < es.length) (b:Int),2 <= (es[j]).set.size/\b ≠ lit/\dY b/\(es[j]).set.has lit=true/\(es[j]).set.has b=true/\(es[j]).watched=(single lit).un (single b)/\j ∈ wl (place b):=by
 obtain ⟨f,k,l,t,v,g⟩:=h.lists _ (gN m) j y;have e:=kg t m v;subst e;obtain ⟨a,b,d,o,n,q,p,c,s,r⟩:=h.two j f k;rw [c,dL,dh (dD o),dh (dD n)] at g;simp only [Bool.or_eq_true,decide_eq_true_eq] at g
 rcases g with e | e
 ·subst e;exact ⟨f,b,k,fun e=>d e.symm,n,q,p,c,r⟩
 ·subst e;refine ⟨f,a,k,d,o,p,q,?_,s⟩;rw [c];exact kH fun x=>by rw [dL,dL,Bool.or_comm]
structure jY (es0:List dN) (lit:Int) (dG:Key) (cK:List Nat) (i:Nat) (es:List dN) (wl:Nat->List Nat) (kl:List Nat) (forced:Key):Prop where
 same:sigs es=sigs es0
 gT:fJ es (fun k=>if k=place lit then kl ++ cK.drop i else wl k)
 old:∀ j (h0:j < es0.length) (h:j < es.length) l,(es[j]).watched.has l=true->(es0[j]).watched.has l=true\/dG.has (-l)=false
 sound:∀ M,Cons M->xu dG M->iL es0 M->xu forced M
 kept:∀ j ∈ kl,∀ h:j < es.length,0 < (es[j]).times->∃ l,(es[j]).set.has l=true/\(dG.un forced).has l=true
 cons:oG dG->oG (dG.un forced)
 fresh:∀ l,forced.has l=true->dG.has l=false
 Gl:forced.ok
 o8:kl.length <= i
 vH:i <= cK.length
variable {es0 es:List dN} {lit:Int} {dG forced:Key} {cK kl:List Nat} {i:Nat} {wl:Nat->List Nat}
theorem jY.start (h:fJ es0 wl):jY es0 lit dG (wl (place lit)) 0 es0 wl [] (0,0) where
 same:=rfl
 gT:=by
  have e:(fun k=>if k=place lit then [] ++ (wl (place lit)).drop 0 else wl k)=wl:=by
   funext k;split
   ·rename_i e;rw [e];rfl
   ·rfl
  rw [e];exact h
 old:=fun j c h l a=>.inl a
 sound:=fun M _ _ _ l a=>by rw [fw] at a;cases a
 kept:=fun j b=>by simp at b
 cons:=fun h=>by
  have:dG.un (0,0)=dG:=kH fun x=>by rw [dL,fw,Bool.or_false]
  rw [this];exact h
 fresh:=fun l a=>by rw [fw] at a;cases a
 Gl:=kN
 o8:=zl
 vH:=zl
theorem drop_at {cK:List Nat} {i:Nat} (hi:i < cK.length):cK.drop i=cK[i] :: cK.drop (i + 1):=List.drop_eq_getElem_cons hi
theorem jY.FM (h:jY es0 lit dG cK i es wl kl forced) (hi:i < cK.length):fJ es (fun k=>if k=place lit then (kl ++ [cK[i]]) ++ cK.drop (i + 1) else wl k):=by
 have e:(kl ++ [cK[i]]) ++ cK.drop (i + 1)=kl ++ cK.drop i:=by rw [drop_at hi];simp
 rw [e];exact h.gT
theorem jY.skip (h:jY es0 lit dG cK i es wl kl forced) (hi:i < cK.length) (d:∀ a:cK[i] < es.length,0 < (es[cK[i]]).times->∃ l,(es[cK[i]]).set.has l=true/\(dG.un forced).has l=true):jY es0 lit dG cK (i + 1) es wl (kl ++ [cK[i]]) forced where
 same:=h.same
 gT:=h.FM hi
 old:=h.old
 sound:=h.sound
 kept:=fun j a c b=>by
  rcases List.mem_append.1 a with a | a
  ·exact h.kept j a c b
  ·simp at a;subst a;exact d c b
 cons:=h.cons
 fresh:=h.fresh
 Gl:=h.Gl
 o8:=by have:=h.o8;simp;omega
 vH:=hi
theorem yV (s d:Key) (l:Int):(s.wo d.op).has l=(s.has l && !d.has (-l)):=by rw [kK,Ja]
theorem AU (e:sigs es=sigs es0) {M:Int->Prop} (c:iL es0 M) {j:Nat} (f:j < es.length) (d:0 < (es[j]).times):(∃ l,(es[j]).set.has l=true/\M l)\/∃ a b,a ≠ b/\(es[j]).set.has a=true/\(es[j]).set.has b=true/\¬ M (-a)/\¬ M (-b):=
 (mI e).1 c _ (List.getElem_mem f) d
theorem jY.unit (h:jY es0 lit dG cK i es wl kl forced) (hi:i < cK.length) (K:cK[i] < es.length) (I:0 < (es[cK[i]]).times) {l:Int} (f:dY l) (L:(es[cK[i]]).set.wo (dG.un forced).op=single l) (J:¬ ∃ x,(es[cK[i]]).set.has x=true/\(dG.un forced).has x=true):
  jY es0 lit dG cK (i + 1) es wl (kl ++ [cK[i]]) (forced.un (single l)):=by
 have F:∀ x,((es[cK[i]]).set.has x && !(dG.un forced).has (-x))=decide (x=l):=fun x=>by rw [<- yV,L,dh (dD f)]
 have o:=F l;simp only [decide_true,Bool.and_eq_true,Bool.not_eq_true'] at o;have n:(dG.un forced).has l=false:=by
  cases e:(dG.un forced).has l with
  | false=>rfl
  | true=>exact absurd ⟨l,o.1,e⟩ J
 have k:dG.un (forced.un (single l))=(dG.un forced).un (single l):=kH fun x=>by simp only [dL,Bool.or_assoc]
 exact {
  same:=h.same
  gT:=h.FM hi
  old:=h.old
  sound:=fun M D hd m x c=>by
   rw [dL,Bool.or_eq_true] at c;have E:=h.sound M D hd m
   rcases c with c | c
   ·exact E x c
   ·rw [dh (dD f)] at c;have p:x=l:=of_decide_eq_true c;subst p;have Q:xu (dG.un forced) M:=fun y g=>by
     rw [dL,Bool.or_eq_true] at g
     rcases g with g | g
     ·exact hd y g
     ·exact E y g
    have C:∀ y,(es[cK[i]]).set.has y=true->y ≠ x->M (-y):=fun y g s=>by
     have:=F y;rw [g,Bool.true_and,show decide (y=x)=false from by simpa using s] at this;simp only [Bool.not_eq_false'] at this;exact Q _ this
    rcases AU h.same m K I with ⟨y,A,q⟩ | ⟨a,b,z,P,O,H,G⟩
    ·by_cases e:y=x
     ·rw [<- e];exact q
     ·exact absurd (C y A e) (fun R=>D y q R)
    ·exfalso
     by_cases e:a=x
     ·exact G (C b O (fun S=>z (by rw [e,S])))
     ·exact H (C a P e)
  kept:=fun j d t r=>by
   rw [k]
   rcases List.mem_append.1 d with d | d
   ·obtain ⟨y,A,q⟩:=h.kept j d t r;exact ⟨y,A,by rw [dL,q];rfl⟩
   ·simp at d;subst d;exact ⟨l,o.1,by rw [dL,dh (dD f)];simp⟩
  cons:=fun N x c=>by
   have v:=h.cons N;rw [k] at c ⊢;rw [dL,Bool.or_eq_true] at c;rw [dL,Bool.or_eq_false_iff]
   rcases c with c | c
   ·refine ⟨v x c,?_⟩;rw [dh (dD f)];simp only [decide_eq_false_iff_not];intro e;have T:x=-l:=by omega
    rw [T,o.2] at c;cases c
   ·rw [dh (dD f)] at c;have p:x=l:=of_decide_eq_true c;subst p;refine ⟨o.2,?_⟩;rw [dh (dD f)];have:=dD f;simp;omega
  fresh:=fun x c=>by
   rw [dL,Bool.or_eq_true] at c
   rcases c with c | c
   ·exact h.fresh x c
   ·rw [dh (dD f)] at c;have p:x=l:=of_decide_eq_true c;subst p;rw [dL,Bool.or_eq_false_iff] at n;exact n.1
  Gl:=qB h.Gl (fP f)
  o8:=by have:=h.o8;simp;omega
  vH:=hi }
theorem jY.zq (h:jY es0 lit dG cK i es wl kl forced) (hi:i < cK.length) (m:cK[i] < es.length) (l:0 < (es[cK[i]]).times) (n:(es[cK[i]]).set.wo (dG.un forced).op=(0,0)):iE es0 es lit dG forced true where
 same:=h.same
 old:=h.old
 sound:=fun M g hd d=>by
  exfalso
  have q:=h.sound M g hd d;have r:xu (dG.un forced) M:=fun y c=>by
   rw [dL,Bool.or_eq_true] at c
   rcases c with c | c
   ·exact hd y c
   ·exact q y c
  have j:∀ y,(es[cK[i]]).set.has y=true->M (-y):=fun y c=>by
   have:=yV (es[cK[i]]).set (dG.un forced) y;rw [n,fw,c,Bool.true_and] at this;have f:(dG.un forced).has (-y)=true:=by simpa using this.symm
   exact r _ f
  rcases AU h.same d m l with ⟨y,s,f⟩ | ⟨a,b,o,p,v,k,t⟩
  ·exact g y f (j y s)
  ·exact k (j a p)
 kept:=fun e=>by cases e
 cons:=h.cons
 fresh:=h.fresh
 Gl:=h.Gl
theorem jY.done (h:jY es0 lit dG cK cK.length es wl kl forced) (z:dY lit):iE es0 es lit dG forced false/\fJ es (fun k=>if k=place lit then kl else wl k):=by
 have e:kl ++ cK.drop cK.length=kl:=by simp
 have d:=h.gT;rw [e] at d;refine ⟨{
  same:=h.same
  old:=h.old
  sound:=fun M y hd g=>⟨h.sound M y hd g,rfl⟩
  kept:=fun _ j n t c=>by
   have v:2 <= (es[j]).set.size:=by
    rcases Nat.lt_or_ge (es[j]).set.size 2 with l | o
    ·rw [d.one j n (Nat.not_le.2 l),fw] at c;cases c
    ·exact o
   obtain ⟨a,b,x,s,r,_,_,f,q,p⟩:=d.two j n v;rw [f,dL,dh (dD s),dh (dD r)] at c;simp only [Bool.or_eq_true,decide_eq_true_eq] at c;have m:j ∈ kl:=by
    rcases c with e | e
    ·subst e;simpa using q
    ·subst e;simpa using p
   exact h.kept j m n t
  cons:=h.cons
  fresh:=h.fresh
  Gl:=h.Gl },d⟩
end
section
theorem ny (es:List dN) (i:Nat) (k:Key) (j:Nat) (h:j < (eZ es i k).length) (a:j < es.length):(eZ es i k)[j]=if i=j then { es[j] with watched:=k } else es[j]:=by
 simp only [eZ,List.getElem_modify]
theorem jT (es:List dN) (i:Nat) (k:Key) (h:i < (eZ es i k).length) (a:i < es.length):(eZ es i k)[i]={ es[i] with watched:=k }:=by
 rw [ny es i k i h a,if_pos rfl]
theorem jo (es:List dN) (i:Nat) (k:Key) (j:Nat) (a:j ≠ i) (h:j < (eZ es i k).length) (b:j < es.length):(eZ es i k)[j]=es[j]:=by
 rw [ny es i k j h b,if_neg (fun e=>a e.symm)]
theorem D7 (es:List dN) (i:Nat) (k c:Key):eZ (eZ es i k) i c=eZ es i c:=by
 refine List.ext_getElem (by simp [ic]) fun j b e=>?_
 have a:j < (eZ es i k).length:=by rw [ic] at b;exact b
 have d:j < es.length:=by rw [ic] at a;exact a
 rw [ny _ _ _ _ b a,ny _ _ _ _ e d,ny _ _ _ _ a d];split <;> rfl
theorem Ib (es:List dN) (i:Nat) (k:Key):sigs (eZ es i k)=sigs es:=by
 refine List.ext_getElem (by simp [sigs,ic]) fun j d c=>?_
 have a:j < es.length:=by simpa [sigs] using c
 have b:j < (eZ es i k).length:=by rw [ic];exact a
 simp only [sigs,List.getElem_map];rw [ny _ _ _ _ b a];split <;> rfl
theorem rE (es:List dN) (i:Nat) (k:Key) (j:Nat) (h:j < (eZ es i k).length) (a:j < es.length):((eZ es i k)[j]).set=(es[j]).set/\((eZ es i k)[j]).times=(es[j]).times:=by
 rw [ny _ _ _ _ h a];split <;> exact ⟨rfl,rfl⟩
variable {es0 es:List dN} {lit:Int} {dG forced:Key} {cK kl:List Nat} {i:Nat} {wl:Nat->List Nat}
theorem jY.nd (h:jY es0 lit dG cK i es wl kl forced) (a:dY lit) (hi:i < cK.length):(kl ++ cK[i] :: cK.drop (i + 1)).Nodup:=by
 have:=h.gT.nodup _ (gN a);simp only [if_true] at this;rw [drop_at hi] at this;exact this
theorem jY.J8 (h:jY es0 lit dG cK i es wl kl forced) (c:dY lit) (hi:i < cK.length):cK[i] ∉ kl ++ cK.drop (i + 1):=by
 have:=h.nd c hi;rw [List.nodup_append] at this;obtain ⟨_,b,d⟩:=this;rw [List.nodup_cons] at b;intro a
 rcases List.mem_append.1 a with a | a
 ·exact d _ a _ (List.mem_cons_self ..) rfl
 ·exact b.1 a
theorem jY.pair (h:jY es0 lit dG cK i es wl kl forced) (a:dY lit) (hi:i < cK.length):∃ (c:cK[i] < es.length) (b:Int),2 <= (es[cK[i]]).set.size/\b ≠ lit/\dY b/\(es[cK[i]]).set.has lit=true/\(es[cK[i]]).set.has b=true/\(es[cK[i]]).watched=(single lit).un (single b)/\cK[i] ∈ wl (place b):=by
 obtain ⟨c,b,n,g,f,m,l,k,d⟩:=h.gT.pair a (j:=cK[i]) (by
  show cK[i] ∈ (if place lit=place lit then kl ++ cK.drop i else wl (place lit))
  rw [if_pos rfl,drop_at hi];exact List.mem_append_right _ (List.mem_cons_self ..))
 have:place b ≠ place lit:=fun e=>g (kg f a e)
 rw [if_neg this] at d;exact ⟨c,b,n,g,f,m,l,k,d⟩
theorem jY.move (h:jY es0 lit dG cK i es wl kl forced) (hi:i < cK.length) (v:dY lit) {c:Int} (C:dY c) (I:cK[i] < es.length) (Q:(es[cK[i]]).set.has c=true) (W:c ≠ lit) (t:(es[cK[i]]).watched.has c=false) (F:(dG.un forced).has (-c)=false):
  jY es0 lit dG cK (i + 1) (eZ es cK[i] (((es[cK[i]]).watched.wo (single lit)).un (single c))) (fun k=>if k=place c then wl k ++ [cK[i]] else wl k) kl forced:=by
 obtain ⟨_,b,E,H,q,ac,hb,r,V⟩:=h.pair v hi;have R:=h.J8 v hi;have S:=h.nd v hi;have X:c ≠ b:=fun e=>by
  rw [r,dL,dh (dD v),dh (dD q),e] at t;simp at t
 have P:((es[cK[i]]).watched.wo (single lit)).un (single c)=(single b).un (single c):=kH fun x=>by
  rw [dL,dL,kK,r,dL,dh (dD v),dh (dD q)];by_cases L:x=lit
  ·subst L;have e2:¬ x=b:=fun e=>H e.symm
   simp [e2]
  ·simp [L]
 rw [P];have pl:place b ≠ place lit:=fun e=>H (kg q v e)
 have M:place c ≠ place lit:=fun e=>W (kg C v e)
 have len:∀ {j},j < (eZ es cK[i] ((single b).un (single c))).length->j < es.length:=fun h=>by rwa [ic] at h
 have hW:∀ k,k ≠ place lit->∀ x,x ∈ wl k->x ∈ (if k=place lit then kl ++ cK.drop (i + 1) else if k=place c then wl k ++ [cK[i]] else wl k):=fun k A x g=>by
  rw [if_neg A];split
  ·exact List.mem_append_left _ g
  ·exact g
 have hO:∀ k x,x ≠ cK[i]->x ∈ (if k=place lit then kl ++ cK.drop i else wl k)->x ∈ (if k=place lit then kl ++ cK.drop (i + 1) else if k=place c then wl k ++ [cK[i]] else wl k):=fun k x s g=>by
  by_cases e:k=place lit
  ·rw [if_pos e] at g ⊢;rw [drop_at hi] at g
   rcases List.mem_append.1 g with g | g
   ·exact List.mem_append_left _ g
   ·rcases List.mem_cons.1 g with g | g
    ·exact absurd g s
    ·exact List.mem_append_right _ g
  ·rw [if_neg e] at g;exact hW k e x g
 exact {
  same:=by rw [Ib];exact h.same
  gT:={
   two:=fun j f p=>by
    have d:=len f;obtain ⟨ab,ad⟩:=rE es cK[i] ((single b).un (single c)) j f d;rw [ab] at p ⊢;by_cases e:j=cK[i]
    ·subst e;refine ⟨b,c,fun e=>X e.symm,q,C,hb,Q,by rw [jT _ _ _ f d],hW _ pl _ V,?_⟩;show _ ∈ (if place c=place lit then kl ++ cK.drop (i + 1) else if place c=place c then wl (place c) ++ [cK[i]] else wl (place c))
     rw [if_neg M,if_pos rfl];simp
    ·obtain ⟨a,b',Z,ia,N,ha,Y,O,ja,jb⟩:=h.gT.two j d p;exact ⟨a,b',Z,ia,N,ha,Y,by rw [jo _ _ _ _ e f d];exact O,hO _ _ e ja,hO _ _ e jb⟩
   one:=fun j f p=>by
    have d:=len f;rw [(rE es cK[i] ((single b).un (single c)) j f d).1] at p;by_cases e:j=cK[i]
    ·subst e;exact absurd E p
    ·rw [jo _ _ _ _ e f d];exact h.gT.one j d p
   lists:=fun k A j m=>by
    have m:j ∈ (if k=place lit then kl ++ cK.drop (i + 1) else if k=place c then wl k ++ [cK[i]] else wl k):=m;by_cases e:k=place lit
    ·rw [if_pos e] at m;have s:j ≠ cK[i]:=fun e=>R (e ▸ m)
     obtain ⟨d,p,l,D,z,o⟩:=h.gT.lists k A j (by
      show j ∈ (if k=place lit then kl ++ cK.drop i else wl k)
      rw [if_pos e,drop_at hi]
      rcases List.mem_append.1 m with g | g
      ·exact List.mem_append_left _ g
      ·exact List.mem_append_right _ (List.mem_cons_of_mem _ g))
     have f:j < (eZ es cK[i] ((single b).un (single c))).length:=by rw [ic];exact d
     exact ⟨f,by rw [jo _ _ _ _ s f d];exact p,l,D,z,by rw [jo _ _ _ _ s f d];exact o⟩
    ·rw [if_neg e] at m;by_cases J:j=cK[i]
     ·subst J;have f:cK[i] < (eZ es cK[i] ((single b).un (single c))).length:=by rw [ic];exact I
      refine ⟨f,by rw [jT _ _ _ f I];exact E,?_⟩;by_cases K:k=place c
      ·exact ⟨c,C,K.symm,by rw [jT _ _ _ f I];show ((single b).un (single c)).has c=true;rw [dL,dh (dD C)];simp⟩
      ·rw [if_neg K] at m;obtain ⟨_,_,l,D,z,o⟩:=h.gT.lists k A _ (by
        show cK[i] ∈ (if k=place lit then kl ++ cK.drop i else wl k)
        rw [if_neg e];exact m)
       rw [r,dL,dh (dD v),dh (dD q)] at o;simp only [Bool.or_eq_true,decide_eq_true_eq] at o
       rcases o with o | o
       ·exact absurd (by rw [<- z,o]) e
       ·exact ⟨b,q,by rw [<- o];exact z,by rw [jT _ _ _ f I];show ((single b).un (single c)).has b=true;rw [dL,dh (dD q)];simp⟩
     ·have T:j ∈ wl k:=by
       split at m
       ·rcases List.mem_append.1 m with g | g
        ·exact g
        ·simp at g;exact absurd g J
       ·exact m
      obtain ⟨d,p,l,D,z,o⟩:=h.gT.lists k A j (by
       show j ∈ (if k=place lit then kl ++ cK.drop i else wl k)
       rw [if_neg e];exact T)
      have f:j < (eZ es cK[i] ((single b).un (single c))).length:=by rw [ic];exact d
      exact ⟨f,by rw [jo _ _ _ _ J f d];exact p,l,D,z,by rw [jo _ _ _ _ J f d];exact o⟩
   nodup:=fun k A=>by
    show (if k=place lit then kl ++ cK.drop (i + 1) else if k=place c then wl k ++ [cK[i]] else wl k).Nodup
    have G:=h.gT.nodup k A;by_cases e:k=place lit
    ·rw [if_pos e];exact S.sublist ((List.Sublist.refl kl).append (List.sublist_cons_self _ _))
    ·rw [if_neg e];have G:(if k=place lit then kl ++ cK.drop i else wl k).Nodup:=G;rw [if_neg e] at G;split
     ·rename_i K;refine List.nodup_append.2 ⟨G,by simp,fun x g y hy=>?_⟩;simp at hy;subst hy;intro aa;rw [aa] at g;obtain ⟨_,_,l,D,z,o⟩:=h.gT.lists k A cK[i] (by
       show cK[i] ∈ (if k=place lit then kl ++ cK.drop i else wl k)
       rw [if_neg e];exact g)
      have:l=c:=kg D C (z.trans K);rw [this] at o
      first | (rw [t] at o;cases o) | (simp [t] at o)
     ·exact G
   ok:=fun e he=>by
    obtain ⟨j,f,rfl⟩:=List.getElem_of_mem he;rw [(rE es cK[i] _ j f (len f)).1];exact h.gT.ok _ (List.getElem_mem _) }
  old:=fun j h0 f l n=>by
   have d:=len f;by_cases e:j=cK[i]
   ·subst e;rw [jT _ _ _ f d] at n;have n:((single b).un (single c)).has l=true:=n;rw [dL,dh (dD q),dh (dD C)] at n;simp only [Bool.or_eq_true,decide_eq_true_eq] at n
    rcases n with e | e
    ·exact h.old _ h0 d l (by rw [r,dL,dh (dD q),e];simp)
    ·subst e;rw [dL,Bool.or_eq_false_iff] at F;exact .inr F.1
   ·rw [jo _ _ _ _ e f d] at n;exact h.old _ h0 d l n
  sound:=h.sound
  kept:=fun j U f ht=>by
   have d:=len f;obtain ⟨L,e2⟩:=rE es cK[i] ((single b).un (single c)) j f d;rw [L];rw [e2] at ht;exact h.kept j U d ht
  cons:=h.cons
  fresh:=h.fresh
  Gl:=h.Gl
  o8:=Nat.le_succ_of_le h.o8
  vH:=hi }
end
section
open Go Go.RowKit Go.Deep
section
variable {B sb mb:Nat} {w w':World} {cv:Value} {gone:Int} {u:Key} {wv:Nat->Value} {es:List dN} {wl:Nat->List Nat}
theorem L6 (b:List Nat) (i a:Nat):fA (b.set i a)=(fA b).set i (.int .i64 (a:Int)):=by unfold fA;rw [List.map_set]
theorem iw (a:List Nat):(fA a).length=a.length:=by unfold fA;simp
theorem fu.Xc (h:fu B sb w cv mb gone u wv es wl) {p b n cap:Nat} (f:p < 128) (c:wv p=.slice (some ⟨b,0,none⟩) n cap):∃ a,w.heap[b]? = some (.cells a 3 (0,0))/\B <= b/\n=(wl p).length/\n <= cap:=by
 rcases (h.mP p f).2 with ⟨e,_⟩ | ⟨g,d,a,e,l,k,j,_⟩
 ·rw [c] at e;cases e
 ·rw [c] at e;cases e;exact ⟨a,k,l,rfl,j⟩
theorem fu.YQ (h:fu B sb w cv mb gone u wv es wl) {p f n cap:Nat} (s:p < 128) (q:wv p=.slice (some ⟨f,0,none⟩) n cap):sb ≠ f/\mb ≠ f/\(∀ g,cv.ownBlock=some g->g ≠ f)/\∀ k,k < 128->k ≠ p->∀ g,(wv k).ownBlock=some g->g ≠ f:=by
 obtain ⟨y,l,_⟩:=h.Xc s q;refine ⟨fun e=>?_,fun e=>h.map.iq (by rw [e];exact l),fun g a e=>?_,fun k x j g b e=>?_⟩
 ·obtain ⟨c,r,_⟩:=h.row;rw [e,l] at r;cases r
 ·rcases h.cls.2 with ⟨o,_⟩ | ⟨z,v,t,o,_,d,_⟩
  ·rw [o] at a;cases a
  ·rw [o] at a;cases a;simp only at e;rw [e,l] at d;cases d
 ·rcases h.apart k p x s j with m | m
  ·rw [m] at b;cases b
  ·exact m (by rw [b,q,e];rfl)
theorem fu.Kl {p j n cap:Nat} {c:List Nat} {ws:World} (h:fu B sb w cv mb gone u wv es wl) (m:p < 128) (l:wv p=.slice (some ⟨j,0,none⟩) n cap)
  (b:ws.ownsRow B 3 1 (wv p) c.length (fA c)) (a:∀ k,k ≠ j->ws.heap[k]? = w.heap[k]?):fu B sb ws cv mb gone u wv es (fun k=>if k=p then c else wl k):=by
 obtain ⟨s,r,q,o⟩:=h.YQ m l;exact {
  row:=h.row.of_block (a _ s)
  cls:=gu h.cls fun g d=>a g (q g d)
  map:=h.map.kept (a _ r)
  mP:=fun k f=>by
   by_cases e:k=p
   ·subst e;simp only [if_true];exact b
   ·simp only [e,if_false];exact gu (h.mP k f) fun g d=>a g (o k f e g d)
  apart:=h.apart
  jf:=h.jf
  zB:=h.zB }
theorem fu.Yq {p e n cap i a:Nat} (h:fu B sb w cv mb gone u wv es wl) (c:p < 128) (b:wv p=.slice (some ⟨e,0,none⟩) n cap):
  fu B sb (w.setCell ⟨e,i,none⟩ (.int .i64 (a:Int))) cv mb gone u wv es (fun k=>if k=p then (wl p).set i a else wl k):=by
 refine h.Kl c b ?_ (fun k g=>Below.heap_setCell _ _ _ _ g);rw [L6,List.length_set];have d:=h.mP p c;obtain ⟨_,_,_,f,_⟩:=h.Xc c b;rw [b,f] at d ⊢;exact (d.stored i _).1
theorem fu.V8 {p b n cap:Nat} (h:fu B sb w cv mb gone u wv es wl) (f:p < 128) (d:wv p=.slice (some ⟨b,0,none⟩) n cap) (i:Nat) (x:Value):dm w (w.setCell ⟨b,i,none⟩ x):=fun k g=>Below.heap_setCell _ _ _ _ (fun e=>by
 obtain ⟨m,j,_⟩:=h.Xc f d;obtain ⟨c,t,a,_,_,l⟩:=g;simp only at e;rw [e,j] at a;cases a;exact l rfl)
theorem yC (a:List Nat) (i:Nat):fA (a.take i)=(fA a).take i:=by unfold fA;rw [List.map_take]
theorem LH {w:World} {B e:Nat} {a:Option Addr} {n k cap:Nat} {d:List Value} (h:w.ownsRow B e 1 (.slice a n cap) n d) (s:k <= n):w.ownsRow B e 1 (.slice a k cap) k (d.take k):=by
 have o:=h.1;refine ⟨by rw [List.length_take,o];omega,?_⟩
 rcases h.2 with ⟨b,t⟩ | ⟨g,f,c,b,q,p,r,m,l,j⟩
 ·cases b
  have:k=0:=by omega
  subst this;exact .inl ⟨rfl,rfl⟩
 ·cases b
  refine .inr ⟨g,cap,c,rfl,q,p,by omega,m,l,?_⟩;rw [<- j,List.take_take];congr 1;omega
theorem fu.XH {p n cap k0:Nat} {a:Option Addr} (h:fu B sb w cv mb gone u wv es wl) (o:p < 128) (f:wv p=.slice a n cap) (j:k0 <= (wl p).length):
  fu B sb (w.setCell ⟨sb,5 + p,none⟩ (.slice a k0 cap)) cv mb gone u (fun k=>if k=p then .slice a k0 cap else wv k) es (fun k=>if k=p then (wl p).take k0 else wl k):=by
 have d:=h.mP p o;have q:n=(wl p).length:=by
  obtain ⟨v,t,e⟩:=dH d;rw [f] at e;cases e;rfl
 have own:w.ownsRow B 3 1 (.slice a k0 cap) k0 (fA ((wl p).take k0)):=by
  rw [yC];rw [f,q] at d;exact LH d j
 have c:(Value.slice a k0 cap).ownBlock=(wv p).ownBlock:=by rw [f];cases a <;> rfl
 have r:((wl p).take k0).length=k0:=by rw [List.length_take];omega
 exact {
  row:=(h.row.set (5 + p) _).congr fun i s=>by
   match i with
   | 0=>rw [if_neg (by omega)];rfl
   | 1=>rw [if_neg (by omega)];rfl
   | 2=>rw [if_neg (by omega)];rfl
   | 3=>rw [if_neg (by omega)];rfl
   | 4=>rw [if_neg (by omega)];rfl
   | k + 5=>
    by_cases e:k=p
    ·subst e;simp [iU,Nat.add_comm]
    ·have:¬ (k + 5=5 + p):=by omega
     simp [iU,this,e]
  cls:=ownsRow_setCell_other h.cls (fun e=>h.iN.2.1 sb e rfl) _
  map:=h.map.kept (Below.heap_setCell _ _ _ _ h.iN.1)
  mP:=fun k b=>by
   by_cases e:k=p
   ·subst e;simp only [if_true];rw [r];exact ownsRow_setCell_other own (fun e=>h.iN.2.2 k b sb (by rw [<- c];exact e) rfl) _
   ·simp only [e,if_false];exact ownsRow_setCell_other (h.mP k b) (fun e=>h.iN.2.2 k b sb e rfl) _
  apart:=fun k m j b g=>by
   have l:∀ x,(if x=p then Value.slice a k0 cap else wv x).ownBlock=(wv x).ownBlock:=fun x=>by
    split
    ·rename_i e;rw [e];exact c
    ·rfl
   rw [l,l];exact h.apart k m j b g
  jf:=h.jf
  zB:=h.zB }
def mix (kl cK:List Nat):List Nat:=kl ++ cK.drop kl.length
theorem Db (cK:List Nat):mix [] cK=cK:=rfl
theorem fT {kl cK:List Nat} (h:kl.length <= cK.length):(mix kl cK).length=cK.length:=by unfold mix;simp;omega
theorem IU {kl cK:List Nat} {i:Nat} (h:kl.length <= i) (hi:i < cK.length) (a:i < (mix kl cK).length):(mix kl cK)[i]=cK[i]:=by
 simp only [mix];rw [List.getElem_append_right h,List.getElem_drop]
 congr 1;omega
theorem Da {kl cK:List Nat} {a:Nat} (h:kl.length < cK.length):(mix kl cK).set kl.length a=mix (kl ++ [a]) cK:=by
 unfold mix;rw [List.set_append_right _ _ lr,Nat.sub_self,drop_at h,List.set_cons_zero];simp
theorem qJ {kl cK:List Nat}:(mix kl cK).take kl.length=kl:=by unfold mix;simp
end
end
end Rd
end Go.Proofs.YtceahffmenbibaaGreatDoor
