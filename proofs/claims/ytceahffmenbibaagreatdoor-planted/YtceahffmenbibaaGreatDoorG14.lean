/- Pmap Psto Plog Pfal. -/
import Derived.Test.YtceahffmenbibaaGreatDoorG13
import Derived.Maps.OwnSet
import Derived.Maps.Views
import Derived.DeepKeys4
import Derived.Test.YtceahffmenbibaaGreatDoorG01
import Derived.Deep.RegionLaw
import Derived.Deep.RegionHeld3
set_option linter.unusedVariables false
set_option linter.unusedSimpArgs false
set_option maxRecDepth 1000000
namespace Go.Proofs.YtceahffmenbibaaGreatDoor
namespace Rd
section
open Go Go.RowKit Go.Maps
theorem Tryz.Ot:laidOutB Tryz.prog=true:=by kernel_rfl
theorem Tryz.Nc:(84:TypeId) < Tryz.prog.types.size:=of_decide_eq_true (by kernel_rfl)
theorem Tryz.Rx:(match Tryz.prog.underlying 84 with | some (.array _ _) | some (.struct _)=>true | _=>false)=true:=by rw [Tryz.underlying84]
theorem Tryz.ktAt:Tryz.prog.keyTypeAt 3 84=true:=by kernel_rfl
theorem Tryz.Bg:Keyed Tryz.prog 84:=Keyed.of_law (deep_law_laid Tryz.Ot (m:=3) (by omega) Tryz.Nc Tryz.ktAt Tryz.Rx)
theorem Tryz.PS:Tryz.prog.cellsOf 84=2:=by kernel_rfl
theorem Tryz.Rt (w:World):(zeroValue 3).run Tryz.prog w=.ok (.int .i64 0) w:=by kernel_rfl
theorem Tryz.Y4:Tryz.prog.keyType 84=true:=by kernel_rfl
theorem Tryz.PR:Tryz.prog.cellsOf 82=1:=by kernel_rfl
theorem Tryz.ME:∃ n,Tryz.prog.types.size=n + 1:=⟨Tryz.prog.types.size - 1,(Nat.succ_pred_eq_of_pos (Nat.lt_of_le_of_lt (Nat.zero_le _) Tryz.Nc)).symm⟩
def uP (s:Key):Lit:=.string (keyBytes [.int .u64 (s.1:Int),.int .u64 (s.2:Int)])
theorem KG {P : Program} {k u n : Nat} {fs : Array Field} {f1 f2 : Field} (hu : P.underlying k = some (.struct fs)) (hfs : fs = #[f1, f2]) (hn : fs.all (fun f => f.name != "_") = true) (t1 : f1.type = u) (o1 : f1.offset = 0) (t2 : f2.type = u) (o2 : f2.offset = 1)
  (hk:P.keyType k=true) (hc:P.cellsOf k=2) (hc1:P.cellsOf u=1) (hui:P.underlying u=some (.int .u64)) (hsz:P.types.size=n + 1) {a b:Int} (w1:(Lit.int .u64 a).wf=true) (w2:(Lit.int .u64 b).wf=true):
  keyOf P k (.agg #[.int .u64 a,.int .u64 b])=some (.string (keyBytes [.int .u64 a,.int .u64 b])):=by
 have Rb:(Value.agg #[.int .u64 a,.int .u64 b]).formed P k=true:=by simp [Value.formed,hu,hc]
 have k1:∀ x,(Lit.int .u64 x).wf=true->P.keyLits (n + 1) u [.int .u64 x]=some [.int .u64 x]:=fun x hx=>by simp [Program.keyLits,hui,hx]
 have k2:P.keyLits (n + 1 + 1) k [.int .u64 a,.int .u64 b]=some [.int .u64 a,.int .u64 b]:=by
  subst hfs
  conv=>lhs;unfold Program.keyLits
  rw [hu];simp only [hc,hn,List.length_cons,List.length_nil,and_self,if_true];simp [t1,t2,o1,o2,hc1,k1 a w1,k1 b w2]
 unfold keyOf;rw [hu];simp only [hk,Rb,Bool.and_self,if_true,hsz];show Option.map _ (P.keyLits (n + 1 + 1) k [.int .u64 a,.int .u64 b])=_
 rw [k2];rfl
theorem lN {s:Key} (hs:s.ok):keyOf Tryz.prog 84 (aK s)=some (uP s):=by
 have w1:(Lit.int .u64 (s.1:Int)).wf=true:=by
  have:=hs.1;unfold wide at this;simp [Lit.wf,IntKind.min,IntKind.max,IntKind.signed,IntKind.bits];omega
 have w2:(Lit.int .u64 (s.2:Int)).wf=true:=by
  have:=hs.2;unfold wide at this;simp [Lit.wf,IntKind.min,IntKind.max,IntKind.signed,IntKind.bits];omega
 obtain ⟨n,hn⟩:=Tryz.ME;exact KG Tryz.underlying84 rfl (by kernel_rfl) rfl rfl rfl rfl Tryz.Y4 Tryz.PS Tryz.PR Tryz.underlying82 hn w1 w2
theorem Ou {s t:Key} (hs:s.ok) (ht:t.ok) (h:uP s=uP t):s=t:=by
 have h1:=lN hs;have h2:=lN ht;rw [<- h] at h2;have:=Tryz.Bg.inj h1 h2;unfold aK at this;simp at this;obtain ⟨a,b⟩:=s;obtain ⟨c,d⟩:=t;simp only at this;have h1:a=c:=by have:=this.1;omega
 have h2:b=d:=by have:=this.2;omega
 rw [h1,h2]
theorem DW {s:Key} (hs:s.ok):WideAt.IsKeyLit (uP s):=Tryz.Bg.key (lN hs)
def gm (w:World) (b n:Nat) (m:Key->Option Nat):Prop:=∃ D:DataW Unit,w.ownsMap Tryz.prog 84 (plainElem Tryz.prog 3) b n D/\IsMap D/\
 ∀ s:Key,s.ok->Maps.has D (uP s)=(m s).isSome/\∀ i,m s=some i->D.atKey (uP s) (.lit (.int .i64 0))=.lit (.int .i64 (i:Nat))
theorem Gz (w:World):gm (w.alloc (.map #[] 0)) w.heap.size 0 (fun _=>none):=by
 refine ⟨.map [],World.ownsMap_made _ _ _ _,⟨[],rfl⟩,fun s hs=>⟨rfl,fun i hi=>by cases hi⟩⟩
theorem gm.congr {w:World} {b n:Nat} {m m':Key->Option Nat} (h:gm w b n m) (e:∀ s,s.ok->m s=m' s):gm w b n m':=by
 obtain ⟨D,h1,h2,h3⟩:=h;exact ⟨D,h1,h2,fun s hs=>by rw [<- e s hs];exact h3 s hs⟩
theorem gm.kept {w w':World} {b n:Nat} {m:Key->Option Nat} (h:gm w b n m) (hb:w'.heap[b]? = w.heap[b]?):gm w' b n m:=by
 obtain ⟨D,⟨es,cl,h0,h1⟩,h2⟩:=h;exact ⟨D,⟨es,cl,by rw [hb];exact h0,h1⟩,h2⟩
theorem gm.lt {w:World} {b n:Nat} {m:Key->Option Nat} (h:gm w b n m):b < w.heap.size:=by
 obtain ⟨D,⟨es,cl,h0,_⟩,_⟩:=h;exact (Array.getElem?_eq_some_iff.1 h0).1
theorem gm.eO {w:World} {b n:Nat} {m:Key->Option Nat} (h:gm w b n m) {c:Array Value} {t:TypeId} {f:Nat × Nat}:w.heap[b]? ≠ some (.cells c t f):=by
 obtain ⟨D,⟨es,cl,h0,_⟩,_⟩:=h;rw [h0];intro e;cases e
theorem gm.put {w w':World} {b n i:Nat} {m:Key->Option Nat} {k:Key} (hk:k.ok) {D:DataW Unit} (hD:IsMap D) (h3:∀ s:Key,s.ok->Maps.has D (uP s)=(m s).isSome/\∀ i,m s=some i->D.atKey (uP s) (.lit (.int .i64 0))=.lit (.int .i64 (i:Nat)))
  (h:w'.ownsMap Tryz.prog 84 (plainElem Tryz.prog 3) b n (D.put (uP k) (.lit (.int .i64 (i:Nat))))):gm w' b n (fun s=>if s=k then some i else m s):=by
 refine ⟨_,h,hD.put _ _,fun s hs=>?_⟩
 by_cases e:s=k
 ·subst e;simp only [if_true];refine ⟨by rw [has_put_same hD (DW hs)];rfl,fun j hj=>?_⟩
  cases hj
  exact atKey_put_same hD (DW hs) _ _
 ·simp only [e,if_false];have ne:uP s ≠ uP k:=fun h=>e (Ou hs hk h)
  rw [has_put_other ne];refine ⟨(h3 s hs).1,fun j hj=>?_⟩
  rw [atKey_put_other ne];exact (h3 s hs).2 j hj
theorem gm.update {w:World} {b n i:Nat} {m:Key->Option Nat} {k:Key} (h:gm w b n m) (hk:k.ok) (hn:n < maxLen) (hi:i <= 1099511627776):∃ w',(Instr.mapUpdate 130 (.map (some b)) (aK k) (.int .i64 (i:Nat))).run Tryz.prog w=.ok () w'/\
  w.grownBy w' (some b)/\gm w' b (n + 1) (fun s=>if s=k then some i else m s):=by
 obtain ⟨D,h1,h2,h3⟩:=h;obtain ⟨w',hr,r1,r2⟩:=h1.update Tryz.Bg Tryz.underlying130 hn (lN hk) (plainElem_int (H:=Unit) Tryz.underlying3 (a:=(i:Int)) (by simp [Lit.wf,IntKind.min,IntKind.max,IntKind.signed,IntKind.bits];omega))
 exact ⟨_,hr,r2,gm.put (w:=w) hk h2 h3 r1⟩
theorem gm.lookup {w:World} {b n:Nat} {m:Key->Option Nat} {k:Key} (h:gm w b n m) (hk:k.ok):∃ c:Int,(∀ i,m k=some i->c=(i:Int))/\∀ w':World,w'.heap[b]? = w.heap[b]? -> (Instr.lookup 130 (.map (some b)) (aK k) true).run Tryz.prog w'=.ok (.tuple #[.int .i64 c,.bool (m k).isSome]) w':=by
 obtain ⟨D,h1,h2,h3⟩:=h;have hw0:(Lit.int .i64 0).wf=true:=by decide
 have key:∀ w':World,w'.heap[b]? = w.heap[b]? -> ∃ c:Int,(Instr.lookup 130 (.map (some b)) (aK k) true).run Tryz.prog w'=.ok (.tuple #[.int .i64 c,.bool (m k).isSome]) w'/\D.atKey (uP k) (.lit (.int .i64 0))=.lit (.int .i64 c):=by
  intro w' hb;have h1':w'.ownsMap Tryz.prog 84 (plainElem Tryz.prog 3) b n D:=by
   obtain ⟨es,cl,e0,e1⟩:=h1;exact ⟨es,cl,by rw [hb];exact e0,e1⟩
  obtain ⟨v,ps,hrun,hv⟩:=h1'.look_ok Tryz.Bg Tryz.underlying130 (Tryz.Rt w') (plainElem_int Tryz.underlying3 hw0) (lN hk);obtain ⟨c,rfl,hc,_⟩:=plainElem_int_inv Tryz.underlying3 hv;exact ⟨c,by rw [hrun,(h3 k hk).1],congrArg Prod.fst hc⟩
 obtain ⟨c,_,hD⟩:=key w rfl;refine ⟨c,fun i hi=>?_,fun w' hb=>?_⟩
 ·have e1:=(h3 k hk).2 i hi;rw [e1] at hD;cases hD;rfl
 ·obtain ⟨c',hr,hD'⟩:=key w' hb;rw [hD] at hD';cases hD'
  exact hr
end
section
open Go Go.RowKit Go.Deep
structure aX where
 set:Key
 watched:Key
 times:Nat
def lV (e:aX):List Value:=[.int .u64 (e.set.1:Int),.int .u64 (e.set.2:Int),.int .u64 (e.watched.1:Int),.int .u64 (e.watched.2:Int),.int .i64 (e.times:Int)]
def gJ (es:List aX):List Value:=es.flatMap lV
def kM (xs:List Nat):List Value:=xs.map fun (n:Nat)=>Value.int .i64 (n:Int)
def gT (cv:Value) (mb:Nat) (gone:Int) (u:Key) (wv:Nat->Value):Nat->Value
 | 0=>cv
 | 1=>.map (some mb)
 | 2=>.int .i64 gone
 | 3=>.int .u64 (u.1:Int)
 | 4=>.int .u64 (u.2:Int)
 | k + 5=>wv k
def look (es:List aX) (s:Key):Option Nat:=es.findIdx? (fun e=>decide (e.set=s))
theorem Ld (es:List aX) (i:Nat) (hi:i < es.length) (j:Nat) (hj:j < 5):(gJ es)[i * 5 + j]? = (lV es[i])[j]? := by
 induction es generalizing i with
 | nil=>simp at hi
 | cons a r ih=>
  have e:gJ (a :: r)=lV a ++ gJ r:=rfl;have l5:(lV a).length=5:=rfl;rw [e]
  cases i with
  | zero=>rw [List.getElem?_append_left (by omega)];simp
  | succ i=>
   rw [List.getElem?_append_right (by omega),l5,show (i + 1) * 5 + j - 5=i * 5 + j by omega]
   exact ih i (by simpa using hi)
theorem He (es:List aX) (e:aX):gJ (es ++ [e])=gJ es ++ lV e:=by unfold gJ;rw [List.flatMap_append];simp
structure di (B sb:Nat) (w:World) (cv:Value) (mb:Nat) (gone:Int) (u:Key) (wv:Nat->Value) (es:List aX) (wl:Nat->List Nat):Prop where
 row:w.rowIs sb 134 133 (gT cv mb gone u wv)
 cls:w.ownsRow B 180 5 cv es.length (gJ es)
 map:gm w mb es.length (look es)
 nO:∀ k,k < 128->w.ownsRow B 3 1 (wv k) (wl k).length (kM (wl k))
 apart:∀ k k',k < 128->k' < 128->k ≠ k'->(wv k).ownBlock=none\/(wv k).ownBlock ≠ (wv k').ownBlock
 fZ:B <= sb
 Ce:B <= mb
variable {B sb mb:Nat} {w w':World} {cv:Value} {gone:Int} {u:Key} {wv:Nat->Value} {es:List aX} {wl:Nat->List Nat}
theorem di.later (h:di B sb w cv mb gone u wv es wl) (hb:Below w.heap.size w w'):di B sb w' cv mb gone u wv es wl where
 row:=h.row.of_block (hb.block _ h.row.lt)
 cls:=vZ h.cls hb
 map:=h.map.kept (hb.block _ h.map.lt)
 nO:=fun k hk=>vZ (h.nO k hk) hb
 apart:=h.apart
 fZ:=h.fZ
 Ce:=h.Ce
theorem di.bsize (h:di B sb w cv mb gone u wv es wl):B <= w.heap.size:=by have:=h.row.lt;have:=h.fZ;omega
theorem di.Le (h:di B sb w cv mb gone u wv es wl) (i:Nat) (hi:i < es.length):∃ cb cap,cv=.slice (some ⟨cb,0,none⟩) es.length cap/\B <= cb/\cb < w.heap.size/\cb ≠ sb/\es.length <= cap/\∀ j,j < 5->w.cell? ⟨cb,i * 5 + j,none⟩=(lV es[i])[j]? /\ w.frozen? ⟨cb,i * 5 + j,none⟩=false:=by
 have hc:=h.cls
 rcases h.cls.2 with ⟨_,h0⟩ | ⟨g,cap,cur,e,hbg,hg,hn,_⟩
 ·omega
 ·refine ⟨g,cap,e,hbg,(hc.lt g (by rw [e];rfl)).2,?_,hn,fun j hj=>?_⟩
  ·intro eg;obtain ⟨c,hr,_⟩:=h.row;rw [<- eg,hg] at hr;cases hr
  ·rw [e] at hc;refine ⟨?_,hc.frozenAt _⟩;rw [hc.cellAt (i * 5 + j) (by have:i + 1 <= es.length:=hi;have:=Nat.mul_le_mul_right 5 this;omega),Ld es i hi j hj]
theorem di.head (h:di B sb w cv mb gone u wv es wl) (j:Nat) (hj:j < 133):w.cell? ⟨sb,j,none⟩=some (gT cv mb gone u wv j)/\w.frozen? ⟨sb,j,none⟩=false:=⟨h.row.cell hj,h.row.frozen j⟩
def kC (es:List aX) (i:Nat) (k:Key):List aX:=es.modify i (fun e=>{ e with watched:=k })
def nN (es:List aX) (i:Nat) (n:Nat):List aX:=es.modify i (fun e=>{ e with times:=n })
theorem mP (a:aX) (r:List aX):gJ (a :: r)=lV a ++ gJ r:=rfl
theorem Ex (es:List aX) (i:Nat) (hi:i < es.length) (k:Key):gJ (kC es i k)=((gJ es).set (i * 5 + 2) (.int .u64 (k.1:Int))).set (i * 5 + 3) (.int .u64 (k.2:Int)):=by
 unfold kC
 induction es generalizing i with
 | nil=>simp at hi
 | cons a r ih=>
  cases i with
  | zero=>rfl
  | succ i=>
   have l5:(lV a).length=5:=rfl;rw [List.modify_succ_cons,mP,mP,ih i (by simpa using hi),List.set_append_right _ _ (by rw [l5];omega),List.set_append_right _ _ (by rw [l5];omega),l5]
   congr 2
   ·congr 1;omega
   ·omega
theorem Ey (es:List aX) (i:Nat) (hi:i < es.length) (n:Nat):gJ (nN es i n)=(gJ es).set (i * 5 + 4) (.int .i64 (n:Int)):=by
 unfold nN
 induction es generalizing i with
 | nil=>simp at hi
 | cons a r ih=>
  cases i with
  | zero=>rfl
  | succ i=>
   have l5:(lV a).length=5:=rfl;rw [List.modify_succ_cons,mP,mP,ih i (by simpa using hi),List.set_append_right _ _ (by rw [l5];omega),l5]
   congr 2
   omega
theorem Jt (es:List aX) (i:Nat) (k:Key):(kC es i k).length=es.length:=by unfold kC;simp
theorem Ju (es:List aX) (i:Nat) (n:Nat):(nN es i n).length=es.length:=by unfold nN;simp
theorem FV (es:List aX) (i:Nat) (k:Key):(kC es i k).map aX.set=es.map aX.set:=by
 unfold kC;refine List.ext_getElem? fun j=>?_
 rw [List.getElem?_map,List.getElem?_map,List.getElem?_modify];split
 ·rename_i h;subst h;cases es[i]? <;> rfl
 ·simp
theorem FY (es:List aX) (i:Nat) (n:Nat):(nN es i n).map aX.set=es.map aX.set:=by
 unfold nN;refine List.ext_getElem? fun j=>?_
 rw [List.getElem?_map,List.getElem?_map,List.getElem?_modify];split
 ·rename_i h;subst h;cases es[i]? <;> rfl
 ·simp
theorem Ko {es es':List aX} (h:es'.map aX.set=es.map aX.set) (s:Key):look es' s=look es s:=by
 have key:∀ l:List aX,look l s=(l.map aX.set).findIdx? (fun k=>decide (k=s)):=fun l=>by
  unfold look;rw [List.findIdx?_map];rfl
 rw [key,key,h]
theorem di.IZ {cb cap:Nat} {es':List aX} {ws:World} (h:di B sb w cv mb gone u wv es wl) (hcv:cv=.slice (some ⟨cb,0,none⟩) es.length cap) (hlen:es'.length=es.length) (Zf:es'.map aX.set=es.map aX.set)
  (hown:ws.ownsRow B 180 5 cv es.length (gJ es')) (hblk:∀ k,k ≠ cb->ws.heap[k]? = w.heap[k]?):di B sb ws cv mb gone u wv es' wl:=by
 obtain ⟨cur,hcb⟩:∃ cur,w.heap[cb]? = some (.cells cur 180 (0,0)):=by
  rcases h.cls.2 with ⟨e,_⟩ | ⟨g,cap',cur,e,_,hg,_⟩
  ·rw [hcv] at e;cases e
  ·rw [hcv] at e;cases e;exact ⟨cur,hg⟩
 have SF:sb ≠ cb:=fun e=>by
  obtain ⟨c,hr,_⟩:=h.row;rw [e,hcb] at hr;cases hr
 have YT:mb ≠ cb:=fun e=>h.map.eO (by rw [e];exact hcb)
 exact {
  row:=h.row.of_block (hblk _ SF)
  cls:=by rw [hlen];exact hown
  map:=by rw [hlen];exact (h.map.kept (hblk _ YT)).congr fun s _=>(Ko Zf s).symm
  nO:=fun k hk=>by
   have hk':=h.nO k hk;refine ⟨hk'.1,?_⟩
   rcases hk'.2 with e | ⟨g,cap',cur',e,hb,hg,r⟩
   ·exact .inl e
   ·refine .inr ⟨g,cap',cur',e,hb,?_,r⟩;rw [hblk g (fun e2=>by rw [e2,hcb] at hg;cases hg)];exact hg
  apart:=h.apart
  fZ:=h.fZ
  Ce:=h.Ce }
theorem di.gB (h:di B sb w cv mb gone u wv es wl) (g:Int):di B sb (w.setCell ⟨sb,2,none⟩ (.int .i64 g)) cv mb g u wv es wl where
 row:=(h.row.set 2 _).congr fun i hi=>by
  match i with
  | 0=>rfl
  | 1=>rfl
  | 2=>rfl
  | 3=>rfl
  | 4=>rfl
  | k + 5=>simp [gT]
 cls:=ownsRow_setCell_other h.cls (fun e=>by
  rcases h.cls.2 with ⟨e2,_⟩ | ⟨g',cap',cur,e2,_,hg,_⟩
  ·rw [e2] at e;cases e
  ·rw [e2] at e;cases e
   obtain ⟨c,hr,_⟩:=h.row;rw [hg] at hr;cases hr) _
 map:=h.map.kept (Below.heap_setCell _ _ _ _ (fun e=>by
  obtain ⟨c,hr,_⟩:=h.row;exact h.map.eO (by rw [e];exact hr)))
 nO:=fun k hk=>ownsRow_setCell_other (h.nO k hk) (fun e=>by
  rcases (h.nO k hk).2 with ⟨e2,_⟩ | ⟨g',cap',cur,e2,_,hg,_⟩
  ·rw [e2] at e;cases e
  ·rw [e2] at e;cases e
   obtain ⟨c,hr,_⟩:=h.row;rw [hg] at hr;cases hr) _
 apart:=h.apart
 fZ:=h.fZ
 Ce:=h.Ce
theorem di.eT (h:di B sb w cv mb gone u wv es wl):mb ≠ sb/\(∀ g,cv.ownBlock=some g->g ≠ sb)/\∀ k,k < 128->∀ g,(wv k).ownBlock=some g->g ≠ sb:=by
 obtain ⟨c,hr,_⟩:=h.row;refine ⟨fun e=>h.map.eO (by rw [e];exact hr),fun g hg e=>?_,fun k hk g hg e=>?_⟩
 ·rcases h.cls.2 with ⟨e2,_⟩ | ⟨g',cap',cur,e2,_,hg',_⟩
  ·rw [e2] at hg;cases hg
  ·rw [e2] at hg;cases hg;simp only at e;rw [e,hr] at hg';cases hg'
 ·rcases (h.nO k hk).2 with ⟨e2,_⟩ | ⟨g',cap',cur,e2,_,hg',_⟩
  ·rw [e2] at hg;cases hg
  ·rw [e2] at hg;cases hg;simp only at e;rw [e,hr] at hg';cases hg'
theorem fP {w w':World} {B e size n:Nat} {v:Value} {xs:List Value} (h:w.ownsRow B e size v n xs) (hb:∀ g,v.ownBlock=some g->w'.heap[g]? = w.heap[g]?):w'.ownsRow B e size v n xs:=by
 refine ⟨h.1,?_⟩
 rcases h.2 with e | ⟨g,cap,cur,e,h1,h2,r⟩
 ·exact .inl e
 ·exact .inr ⟨g,cap,cur,e,h1,by rw [hb g (by rw [e];rfl)];exact h2,r⟩
theorem di.YA {ws:World} {g':Int} {u':Key} (h:di B sb w cv mb gone u wv es wl) (hrow:ws.rowIs sb 134 133 (gT cv mb g' u' wv)) (hblk:∀ k,k ≠ sb->ws.heap[k]? = w.heap[k]?):di B sb ws cv mb g' u' wv es wl where
 row:=hrow
 cls:=fP h.cls fun g hg=>hblk g (h.eT.2.1 g hg)
 map:=h.map.kept (hblk _ h.eT.1)
 nO:=fun k hk=>fP (h.nO k hk) fun g hg=>hblk g (h.eT.2.2 k hk g hg)
 apart:=h.apart
 fZ:=h.fZ
 Ce:=h.Ce
theorem di.Iy {w6:World} {ob:Obj} {v':Value} {p at':Nat} (h:di B sb w cv mb gone u wv es wl) (hp:p < 128) (A:aB (w.alloc ob) B 3 1 (wv p) (wl p).length (kM (wl p)) 1 [.int .i64 (at':Int)] v' w6):
  di B sb (w6.setCell ⟨sb,5 + p,none⟩ v') cv mb gone u (fun k=>if k=p then v' else wv k) es (fun k=>if k=p then wl p ++ [at'] else wl k):=by
 have h':=h.later ((Below.refl _ _).alloc (Nat.le_refl _) ob);have far:∀ k,k < (w.alloc ob).heap.size->some k ≠ (wv p).ownBlock->w6.heap[k]? = (w.alloc ob).heap[k]? := A.grew.block;have YM:∀ g,(wv p).ownBlock=some g->∃ cur,(w.alloc ob).heap[g]? = some (.cells cur 3 (0,0)):=fun g hg=>by
  rcases (h'.nO p hp).2 with ⟨e2,_⟩ | ⟨g',cap',cur,e2,_,hg',_⟩
  ·rw [e2] at hg;cases hg
  ·rw [e2] at hg;cases hg;exact ⟨cur,hg'⟩
 have JR:w6.rowIs sb 134 133 (gT cv mb gone u wv):=h'.row.of_block (far _ h'.row.lt (fun e=>(h'.eT.2.2 p hp sb e.symm) rfl))
 have vne:∀ g,v'.ownBlock=some g->g ≠ sb:=fun g hg e=>by
  rcases A.at' with e2 | e2
  ·rw [e2] at hg;exact h'.eT.2.2 p hp g hg e
  ·rw [e2] at hg;cases hg;have:=h'.row.lt;omega
 have hcls:∀ g,cv.ownBlock=some g->some g ≠ (wv p).ownBlock:=fun g hg e=>by
  obtain ⟨cur,hc⟩:=YM g e.symm
  rcases h'.cls.2 with ⟨e2,_⟩ | ⟨g',cap',cur',e2,_,hg',_⟩
  ·rw [e2] at hg;cases hg
  ·rw [e2] at hg;cases hg;rw [hc] at hg';cases hg'
 have hmap:some mb ≠ (wv p).ownBlock:=fun e=>by
  obtain ⟨cur,hc⟩:=YM mb e.symm;exact h'.map.eO hc
 exact {
  row:=(JR.set (5 + p) _).congr fun i hi=>by
   match i with
   | 0=>rw [if_neg (by omega)];rfl
   | 1=>rw [if_neg (by omega)];rfl
   | 2=>rw [if_neg (by omega)];rfl
   | 3=>rw [if_neg (by omega)];rfl
   | 4=>rw [if_neg (by omega)];rfl
   | k + 5=>
    by_cases e:k=p
    ·subst e;simp [gT,Nat.add_comm]
    ·have:¬ (k + 5=5 + p):=by omega
     simp [gT,this,e]
  cls:=ownsRow_setCell_other (fP h'.cls fun g hg=>far g (h'.cls.lt g hg).2 (hcls g hg)) (fun e=>h'.eT.2.1 sb e rfl) _
  map:=(h'.map.kept (far _ h'.map.lt hmap)).kept (Below.heap_setCell _ _ _ _ h'.eT.1)
  nO:=fun k hk=>by
   by_cases e:k=p
   ·subst e;simp only [if_true];have:=ownsRow_setCell_other A.own (a:=⟨sb,5 + k,none⟩) (fun e=>vne sb e rfl) v'
    unfold kM at *
    rw [List.map_append,List.length_append];exact this
   ·simp only [e,if_false];refine ownsRow_setCell_other (fP (h'.nO k hk) fun g hg=>far g ((h'.nO k hk).lt g hg).2 (fun e2=>?_)) (fun e=>h'.eT.2.2 k hk sb e rfl) _
    rcases h.apart k p hk hp e with e3 | e3
    ·rw [e3] at hg;cases hg
    ·exact e3 (by rw [hg,e2])
  apart:=fun k k' hk hk' hne=>by
   by_cases e:k=p
   ·by_cases e':k'=p
    ·exact absurd (by rw [e,e']) hne
    ·simp only [e,e',if_true,if_false]
     rcases A.at' with e2 | e2
     ·rw [e2];exact h.apart p k' hp hk' (fun x=>e' x.symm)
     ·right;rw [e2];intro e3
      have:=((h'.nO k' hk').lt _ e3.symm).2;omega
   ·by_cases e':k'=p
    ·simp only [e,e',if_true,if_false]
     rcases A.at' with e2 | e2
     ·rw [e2];exact h.apart k p hk hp e
     ·cases hg:(wv k).ownBlock with
      | none=>exact .inl rfl
      | some g=>
       right;rw [e2];intro e3
       have:=((h'.nO k hk).lt _ hg).2;cases e3;omega
    ·simp only [e,e',if_false];exact h.apart k k' hk hk' hne
  fZ:=h.fZ
  Ce:=h.Ce }
theorem di.setW {cb cap i:Nat} (h:di B sb w (.slice (some ⟨cb,0,none⟩) es.length cap) mb gone u wv es wl) (hi:i < es.length) (k:Key):
  di B sb ((w.setCell ⟨cb,i * 5 + 2,none⟩ (.int .u64 (k.1:Int))).setCell ⟨cb,i * 5 + 2 + 1,none⟩ (.int .u64 (k.2:Int))) (.slice (some ⟨cb,0,none⟩) es.length cap) mb gone u wv (kC es i k) wl:=by
 refine h.IZ rfl (Jt es i k) (FV es i k) ?_ (fun j hj=>?_)
 ·rw [Ex es i hi k];exact ((h.cls.stored (i * 5 + 2) _).1.stored (i * 5 + 3) _).1
 ·rw [Below.heap_setCell _ _ _ _ hj,Below.heap_setCell _ _ _ _ hj]
theorem di.VM {cb cap i:Nat} (h:di B sb w (.slice (some ⟨cb,0,none⟩) es.length cap) mb gone u wv es wl) (hi:i < es.length) (n:Nat):
  di B sb (w.setCell ⟨cb,i * 5 + 4,none⟩ (.int .i64 (n:Int))) (.slice (some ⟨cb,0,none⟩) es.length cap) mb gone u wv (nN es i n) wl:=by
 refine h.IZ rfl (Ju es i n) (FY es i n) ?_ (fun j hj=>?_)
 ·rw [Ey es i hi n];exact (h.cls.stored (i * 5 + 4) _).1
 ·rw [Below.heap_setCell _ _ _ _ hj]
theorem di.gM {w6:World} {ob:Obj} {v':Value} {p at':Nat} (h:di B sb w cv mb gone u wv es wl) (hp:p < 128) (A:aB (w.alloc ob) B 3 1 (wv p) (wl p).length (kM (wl p)) 1 [.int .i64 (at':Int)] v' w6) (j:Nat) (hj:j < 133):
  w6.cell? ⟨sb,j,none⟩=some (gT cv mb gone u wv j)/\w6.frozen? ⟨sb,j,none⟩=false:=by
 have h':=h.later ((Below.refl _ _).alloc (Nat.le_refl _) ob);have JR:w6.rowIs sb 134 133 (gT cv mb gone u wv):=h'.row.of_block (A.grew.block _ h'.row.lt (fun e=>(h'.eT.2.2 p hp sb e.symm) rfl))
 exact ⟨JR.cell hj,JR.frozen j⟩
theorem di.jY {w0 w6:World} {ob:Obj} {v':Value} {p at':Nat} (h:di B sb w cv mb gone u wv es wl) (hp:p < 128) (A:aB (w.alloc ob) B 3 1 (wv p) (wl p).length (kM (wl p)) 1 [.int .i64 (at':Int)] v' w6) (hb:Below B w0 w) (x:Value) (j:Nat):
  Below B w0 (w6.setCell ⟨sb,j,none⟩ x):=
 ((hb.alloc h.bsize ob).grown A.grew (by have:=h.bsize;simp;omega) (fun k hk=>((h.nO p hp).lt k hk).1)).setCell h.fZ _
theorem Kn (es:List aX) (e:aX) (h:look es e.set=none) (s:Key):look (es ++ [e]) s=if s=e.set then some es.length else look es s:=by
 unfold look at *
 rw [List.findIdx?_append];by_cases hs:s=e.set
 ·subst hs;rw [h,if_pos rfl];simp [List.findIdx?_cons]
 ·rw [if_neg hs]
  cases hf:es.findIdx? (fun x=>decide (x.set=s)) with
  | some i=>rfl
  | none=>
   have:¬ e.set=s:=fun x=>hs x.symm
   simp [List.findIdx?_cons,this]
theorem di.YL {w1 w6:World} {ob:Obj} {cv':Value} {e:aX} (h:di B sb w cv mb gone u wv es wl) (hn:look es e.set=none) (hg1:w.grownBy w1 (some mb)) (hm1:gm w1 mb (es.length + 1) (fun s=>if s=e.set then some es.length else look es s))
  (A:aB (w1.alloc ob) B 180 5 cv es.length (gJ es) 1 (lV e) cv' w6):di B sb (w6.setCell ⟨sb,0,none⟩ cv') cv' mb gone u wv (es ++ [e]) wl:=by
 have hs1:=hg1.size;have f1:∀ k,k < w.heap.size->k ≠ mb->(w1.alloc ob).heap[k]? = w.heap[k]? := fun k hk hne=>by
  rw [Below.heap_alloc w1 ob k (by omega)];exact hg1.block k hk (fun e=>hne (Option.some.inj e))
 have hmlt:=h.map.lt;have WB:=h.row.lt;have cvb:∀ g,cv.ownBlock=some g->g < w.heap.size/\∃ cur,w.heap[g]? = some (.cells cur 180 (0,0)):=fun g hg=>by
  refine ⟨(h.cls.lt g hg).2,?_⟩
  rcases h.cls.2 with ⟨e2,_⟩ | ⟨g',cap',cur,e2,_,hg',_⟩
  ·rw [e2] at hg;cases hg
  ·rw [e2] at hg;cases hg;exact ⟨cur,hg'⟩
 have f6:∀ k,k < w.heap.size->k ≠ mb->(∀ cur,w.heap[k]? ≠ some (.cells cur 180 (0,0)))->w6.heap[k]? = w.heap[k]? := fun k hk hne hc=>by
  rw [A.grew.block k (by simp;omega) (fun e=>by obtain ⟨_,cur,hx⟩:=cvb k e.symm;exact hc cur hx),f1 k hk hne]
 have JR:w6.rowIs sb 134 133 (gT cv mb gone u wv):=h.row.of_block (f6 sb WB (fun e=>h.eT.1 e.symm) (fun cur hx=>by obtain ⟨c,hr,_⟩:=h.row;rw [hx] at hr;cases hr))
 have m6:w6.heap[mb]? = w1.heap[mb]? := by
  rw [A.grew.block mb (by simp;omega) (fun e=>by obtain ⟨_,cur,hx⟩:=cvb mb e.symm;exact h.map.eO hx),Below.heap_alloc w1 ob mb (by omega)]
 have vne:∀ g,cv'.ownBlock=some g->g ≠ sb:=fun g hg e=>by
  rcases A.at' with e2 | e2
  ·rw [e2] at hg;exact h.eT.2.1 g hg e
  ·rw [e2] at hg;cases hg;simp at e;omega
 exact {
  row:=(JR.set 0 _).congr fun i hi=>by
   match i with
   | 0=>rfl
   | 1=>rfl
   | 2=>rfl
   | 3=>rfl
   | 4=>rfl
   | k + 5=>simp [gT]
  cls:=by
   have:=ownsRow_setCell_other A.own (a:=⟨sb,0,none⟩) (fun e=>vne sb e rfl) cv'
   rw [List.length_append,He];exact this
  map:=by
   rw [List.length_append];refine ((hm1.kept m6).kept (Below.heap_setCell _ _ _ _ h.eT.1)).congr fun s hs=>?_
   exact (Kn es e hn s).symm
  nO:=fun k hk=>by
   refine ownsRow_setCell_other (fP (h.nO k hk) fun g hg=>f6 g ((h.nO k hk).lt g hg).2 (fun e=>?_) (fun cur hx=>?_)) (fun e=>h.eT.2.2 k hk sb e rfl) _
   ·rcases (h.nO k hk).2 with ⟨e2,_⟩ | ⟨g',cap',cur,e2,_,hg',_⟩
    ·rw [e2] at hg;cases hg
    ·rw [e2] at hg;cases hg;exact h.map.eO (by rw [<- e];exact hg')
   ·rcases (h.nO k hk).2 with ⟨e2,_⟩ | ⟨g',cap',cur,e2,_,hg',_⟩
    ·rw [e2] at hg;cases hg
    ·rw [e2] at hg;cases hg;simp only at hx;rw [hx] at hg';cases hg'
  apart:=h.apart
  fZ:=h.fZ
  Ce:=h.Ce }
theorem di.U7 {w1 w6:World} {ob:Obj} {cv':Value} {e:aX} (h:di B sb w cv mb gone u wv es wl) (hg1:w.grownBy w1 (some mb))
  (A:aB (w1.alloc ob) B 180 5 cv es.length (gJ es) 1 (lV e) cv' w6):w6.cell? ⟨sb,0,none⟩=some cv/\w6.frozen? ⟨sb,0,none⟩=false:=by
 have hs1:=hg1.size;have WB:=h.row.lt;have b6:w6.heap[sb]? = w.heap[sb]? := by
  rw [A.grew.block sb (by simp;omega) (fun e=>h.eT.2.1 sb e.symm rfl),Below.heap_alloc w1 ob sb (by omega)]
  exact hg1.block sb WB (fun e=>h.eT.1 (Option.some.inj e).symm)
 have:=h.row.of_block b6;exact ⟨this.cell (by omega),this.frozen 0⟩
theorem di.Xl {w0 w1 w6:World} {ob:Obj} {cv':Value} {e:aX} (h:di B sb w cv mb gone u wv es wl) (hg1:w.grownBy w1 (some mb))
  (A:aB (w1.alloc ob) B 180 5 cv es.length (gJ es) 1 (lV e) cv' w6) (hb:Below B w0 w) (x:Value):Below B w0 (w6.setCell ⟨sb,0,none⟩ x):=by
 have h1:=h.bsize;have h2:=hg1.size;exact (((hb.grown hg1 h1 (fun k hk=>by cases hk;exact h.Ce)).alloc (by omega) ob).grown A.grew (by simp;omega) (fun k hk=>(h.cls.lt k hk).1)).setCell h.fZ _
def iE (w:World) (k:Nat):Prop:=∃ cur t,w.heap[k]? = some (.cells cur t (0,0))/\t ≠ 134/\t ≠ 180/\t ≠ 3
def aA (w w':World):Prop:=∀ k,iE w k->w'.heap[k]? = w.heap[k]?
theorem iE.lt {w:World} {k:Nat} (h:iE w k):k < w.heap.size:=by
 obtain ⟨c,t,e,_⟩:=h;exact (Array.getElem?_eq_some_iff.1 e).1
theorem aA.refl (w:World):aA w w:=fun _ _=>rfl
theorem aA.trans {a b c:World} (h:aA a b) (k:aA b c):aA a c:=fun n hn=>by
 have e:=h n hn;rw [k n (by obtain ⟨x,t,e1,e2⟩:=hn;exact ⟨x,t,by rw [e];exact e1,e2⟩),e]
theorem aA.of_below {w w':World} (h:Below w.heap.size w w'):aA w w':=fun k hk=>h.block k hk.lt
theorem aA.cell {w w':World} (h:aA w w') {b j:Nat} (hb:iE w b):w'.cell? ⟨b,j,none⟩=w.cell? ⟨b,j,none⟩:=World.cell?_of_block (a:=⟨b,j,none⟩) (h b hb)
theorem aA.pF {w w':World} (h:aA w w') {b:Nat} (hb:iE w b):iE w' b:=by
 have e:=h b hb;obtain ⟨x,t,e1,e2⟩:=hb;exact ⟨x,t,by rw [e];exact e1,e2⟩
theorem di.DZ (h:di B sb w cv mb gone u wv es wl) (j:Nat) (x:Value):aA w (w.setCell ⟨sb,j,none⟩ x):=fun k hk=>Below.heap_setCell _ _ _ _ (fun e=>by
 obtain ⟨c,hr,_⟩:=h.row;obtain ⟨y,t,e1,e2,_⟩:=hk;rw [e,hr] at e1;cases e1;exact e2 rfl)
theorem di.wQ {cb n cap:Nat} (h:di B sb w (.slice (some ⟨cb,0,none⟩) n cap) mb gone u wv es wl) (j:Nat) (x:Value):aA w (w.setCell ⟨cb,j,none⟩ x):=fun k hk=>Below.heap_setCell _ _ _ _ (fun e=>by
 obtain ⟨y,t,e1,_,e3,_⟩:=hk
 rcases h.cls.2 with ⟨e2,_⟩ | ⟨g',cap',cur,e2,_,hg',_⟩
 ·cases e2
 ·cases e2;rw [e,hg'] at e1;cases e1;exact e3 rfl)
theorem di.KI {w6:World} {ob:Obj} {v':Value} {p at':Nat} (h:di B sb w cv mb gone u wv es wl) (hp:p < 128) (A:aB (w.alloc ob) B 3 1 (wv p) (wl p).length (kM (wl p)) 1 [.int .i64 (at':Int)] v' w6) (x:Value) (j:Nat):
  aA w (w6.setCell ⟨sb,j,none⟩ x):=fun k hk=>by
 have hlt:=hk.lt;obtain ⟨c,hr,_⟩:=h.row;have SF:k ≠ sb:=fun e=>by obtain ⟨y,t,e1,e2,_⟩:=hk;rw [e,hr] at e1;cases e1;exact e2 rfl
 rw [Below.heap_setCell _ _ _ _ SF,A.grew.block k (by simp;omega) (fun e=>?_),Below.heap_alloc w ob k hlt]
 obtain ⟨y,t,e1,_,_,e4⟩:=hk
 rcases (h.nO p hp).2 with ⟨e2,_⟩ | ⟨g',cap',cur,e2,_,hg',_⟩
 ·rw [e2] at e;cases e
 ·rw [e2] at e;cases e;rw [hg'] at e1;cases e1;exact e4 rfl
theorem di.Wv {w1 w6:World} {ob:Obj} {cv':Value} {e:aX} (h:di B sb w cv mb gone u wv es wl) (hg1:w.grownBy w1 (some mb))
  (A:aB (w1.alloc ob) B 180 5 cv es.length (gJ es) 1 (lV e) cv' w6) (x:Value):aA w (w6.setCell ⟨sb,0,none⟩ x):=fun k hk=>by
 have hlt:=hk.lt;have hs1:=hg1.size;obtain ⟨c,hr,_⟩:=h.row;have SF:k ≠ sb:=fun e=>by obtain ⟨y,t,e1,e2,_⟩:=hk;rw [e,hr] at e1;cases e1;exact e2 rfl
 have YT:k ≠ mb:=fun e=>by obtain ⟨y,t,e1,_⟩:=hk;rw [e] at e1;exact h.map.eO e1
 rw [Below.heap_setCell _ _ _ _ SF,A.grew.block k (by simp;omega) (fun e=>?_),Below.heap_alloc w1 ob k (by omega),hg1.block k hlt (fun e=>YT (Option.some.inj e))]
 obtain ⟨y,t,e1,_,e3,_⟩:=hk
 rcases h.cls.2 with ⟨e2,_⟩ | ⟨g',cap',cur,e2,_,hg',_⟩
 ·rw [e2] at e;cases e
 ·rw [e2] at e;cases e;rw [hg'] at e1;cases e1;exact e3 rfl
theorem oz (w:World) (c:Array Value) (t:TypeId) (h:t ≠ 134/\t ≠ 180/\t ≠ 3):iE (w.alloc (.cells c t)) w.heap.size:=⟨c,t,heap_alloc_new _ _,h⟩
theorem di.KH {cb n cap:Nat} (h:di B sb w (.slice (some ⟨cb,0,none⟩) n cap) mb gone u wv es wl) (j j':Nat) (x y:Value):aA w ((w.setCell ⟨cb,j,none⟩ x).setCell ⟨cb,j',none⟩ y):=fun k hk=>by
 have ne:k ≠ cb:=fun e=>by
  obtain ⟨y,t,e1,_,e3,_⟩:=hk
  rcases h.cls.2 with ⟨e2,_⟩ | ⟨g',cap',cur,e2,_,hg',_⟩
  ·cases e2
  ·cases e2;rw [e,hg'] at e1;cases e1;exact e3 rfl
 rw [Below.heap_setCell _ _ _ _ ne,Below.heap_setCell _ _ _ _ ne]
def eF (cv cv':Value) (w w':World):Prop:=∀ k cur,w.heap[k]? = some (.cells cur 180 (0,0))->cv.ownBlock ≠ some k->w'.heap[k]? = w.heap[k]? /\ cv'.ownBlock ≠ some k
theorem eF.trans {c1 c2 c3:Value} {a b c:World} (h:eF c1 c2 a b) (k:eF c2 c3 b c):eF c1 c3 a c:=fun n cur hn ho=>by
 obtain ⟨e1,e2⟩:=h n cur hn ho;obtain ⟨e3,e4⟩:=k n cur (by rw [e1];exact hn) e2
 exact ⟨e3.trans e1,e4⟩
theorem eF.of_below {cv:Value} {w w':World} (h:Below w.heap.size w w'):eF cv cv w w':=fun k cur hk ho=>⟨h.block k (Array.getElem?_eq_some_iff.1 hk).1,ho⟩
theorem di.KJ {cb n cap:Nat} (h:di B sb w (.slice (some ⟨cb,0,none⟩) n cap) mb gone u wv es wl) (j j':Nat) (x y:Value):eF (.slice (some ⟨cb,0,none⟩) n cap) (.slice (some ⟨cb,0,none⟩) n cap) w ((w.setCell ⟨cb,j,none⟩ x).setCell ⟨cb,j',none⟩ y):=fun k cur hk ho=>by
 have ne:k ≠ cb:=fun e=>ho (by rw [e];rfl)
 rw [Below.heap_setCell _ _ _ _ ne,Below.heap_setCell _ _ _ _ ne];exact ⟨rfl,ho⟩
theorem di.KL {w6:World} {ob:Obj} {v':Value} {p at':Nat} (h:di B sb w cv mb gone u wv es wl) (hp:p < 128) (A:aB (w.alloc ob) B 3 1 (wv p) (wl p).length (kM (wl p)) 1 [.int .i64 (at':Int)] v' w6) (x:Value) (j:Nat):
  eF cv cv w (w6.setCell ⟨sb,j,none⟩ x):=fun k cur hk ho=>by
 have hlt:=(Array.getElem?_eq_some_iff.1 hk).1;obtain ⟨c,hr,_⟩:=h.row;have SF:k ≠ sb:=fun e=>by rw [e,hr] at hk;cases hk
 refine ⟨?_,ho⟩;rw [Below.heap_setCell _ _ _ _ SF,A.grew.block k (by simp;omega) (fun e=>?_),Below.heap_alloc w ob k hlt]
 rcases (h.nO p hp).2 with ⟨e2,_⟩ | ⟨g',cap',cur,e2,_,hg',_⟩
 ·rw [e2] at e;cases e
 ·rw [e2] at e;cases e;rw [hg'] at hk;cases hk
theorem di.TL {w1 w6:World} {ob:Obj} {cv':Value} {e:aX} (h:di B sb w cv mb gone u wv es wl) (hg1:w.grownBy w1 (some mb))
  (A:aB (w1.alloc ob) B 180 5 cv es.length (gJ es) 1 (lV e) cv' w6) (x:Value):eF cv cv' w (w6.setCell ⟨sb,0,none⟩ x):=fun k cur hk ho=>by
 have hlt:=(Array.getElem?_eq_some_iff.1 hk).1;have hs1:=hg1.size;obtain ⟨c,hr,_⟩:=h.row;have SF:k ≠ sb:=fun e=>by rw [e,hr] at hk;cases hk
 have YT:k ≠ mb:=fun e=>by rw [e] at hk;exact h.map.eO hk
 refine ⟨?_,fun e=>?_⟩
 ·rw [Below.heap_setCell _ _ _ _ SF,A.grew.block k (by simp;omega) (fun e=>ho (by first | exact e | exact e.symm)),Below.heap_alloc w1 ob k (by omega),hg1.block k hlt (fun e=>YT (Option.some.inj e))]
 ·rcases A.at' with e2 | e2
  ·rw [e2] at e;exact ho e
  ·rw [e2] at e;have:=Option.some.inj e;simp at this;omega
end
def fD (es:List aX) (M:Int->Prop):Prop:=∀ e ∈ es,0 < e.times->(∃ l,e.set.has l=true/\M l)\/∃ a b,a ≠ b/\e.set.has a=true/\e.set.has b=true/\¬ M (-a)/\¬ M (-b)
def sigs (es:List aX):List (Key × Nat):=es.map fun e=>(e.set,e.times)
def yO (k:Key) (M:Int->Prop):Prop:=∀ l,k.has l=true->M l
theorem mq {es es':List aX} (h:sigs es'=sigs es) {M:Int->Prop}:fD es M↔fD es' M:=by
 have key:∀ (a b:List aX),sigs a=sigs b->fD a M->fD b M:=fun a b hab ha e he ht=>by
  have hm:(e.set,e.times) ∈ sigs a:=by rw [hab];exact List.mem_map.2 ⟨e,he,rfl⟩
  obtain ⟨e',he',heq⟩:=List.mem_map.1 hm;simp only [Prod.mk.injEq] at heq;have:=ha e' he' (by rw [heq.2];exact ht)
  rw [heq.1] at this;exact this
 exact ⟨key es es' h.symm,key es' es h⟩
theorem Cz {es es':List aX} (h:sigs es'=sigs es) {j:Nat} (hj:j < es.length) (hj':j < es'.length):(es'[j]).set=(es[j]).set/\(es'[j]).times=(es[j]).times:=by
 have h1:(sigs es')[j]? = (sigs es)[j]? := by rw [h]
 unfold sigs at h1;rw [List.getElem?_map,List.getElem?_map,List.getElem?_eq_getElem hj,List.getElem?_eq_getElem hj'] at h1;simpa using h1
theorem qU {es es':List aX} (h:sigs es'=sigs es):es'.length=es.length:=by
 have:=congrArg List.length h;simpa [sigs] using this
def kS (k:Key):Prop:=∀ l,k.has l=true->k.has (-l)=false
theorem Lt {k:Key}:kZ k=false↔kS k:=by
 rw [<- Bool.not_eq_true,xG];constructor
 ·intro h l hl
  cases e:k.has (-l) with
  | false=>rfl
  | true=>exact absurd ⟨l,hl,e⟩ h
 ·rintro h ⟨l,h1,h2⟩;rw [h l h1] at h2;cases h2
theorem AQ {k:Key} (h:kS k):Cons (fun l=>k.has l=true):=fun l h1 h2=>by
 have h2':k.has (-l)=true:=h2;rw [h l h1] at h2';cases h2'
structure gq (es es':List aX) (lit:Int) (down forced:Key) (conflict:Bool):Prop where
 same:sigs es'=sigs es
 old:∀ j (h:j < es.length) (h':j < es'.length) l,(es'[j]).watched.has l=true->(es[j]).watched.has l=true\/down.has (-l)=false
 sound:∀ M,Cons M->yO down M->fD es M->yO forced M/\conflict=false
 kept:conflict=false->∀ j (h':j < es'.length),0 < (es'[j]).times->(es'[j]).watched.has lit=true->∃ l,(es'[j]).set.has l=true/\(down.un forced).has l=true
 cons:kS down->kS (down.un forced)
 fresh:∀ l,forced.has l=true->down.has l=false
 La:forced.ok
def ZW (es:List aX):Prop:=∀ j (h:j < es.length),2 <= (es[j]).set.size->∃ a b,a ≠ b/\(es[j]).set.has a=true/\(es[j]).set.has b=true/\(es[j]).watched.has a=true/\(es[j]).watched.has b=true
def Rest (es:List aX) (D:Key):Prop:=∀ j (h:j < es.length),0 < (es[j]).times->2 <= (es[j]).set.size->(∃ l,(es[j]).set.has l=true/\D.has l=true)\/∀ l,(es[j]).watched.has l=true->D.has (-l)=false
theorem Gl (es:List aX):Rest es (0,0):=fun j h _ _=>.inr fun l _=>bY _
structure Mf (es0:List aX) (base:Key) (es:List aX) (down pending:Key):Prop where
 same:sigs es=sigs es0
 sub:∀ l,pending.has l=true->down.has l=true
 inc:∀ l,base.has l=true->down.has l=true
 under:∀ M,Cons M->yO base M->fD es0 M->yO down M
 watch:∀ j (h:j < es.length),0 < (es[j]).times->2 <= (es[j]).set.size->(∃ l,(es[j]).set.has l=true/\down.has l=true)\/∀ l,(es[j]).watched.has l=true->down.has (-l)=true->pending.has (-l)=true
 SQ:kS down
 Rh:down.ok
 Ra:pending.ok
theorem Mf.start {es:List aX} {ak laid:Key} (hr:Rest es ak) (hd:ak.ok) (hl:laid.ok) (hc:kS (ak.un laid)):Mf es (ak.un laid) es (ak.un laid) (laid.wo ak) where
 same:=rfl
 sub:=fun l h=>by rw [mM,Bool.and_eq_true] at h;rw [df,h.1,Bool.or_true]
 inc:=fun l h=>h
 under:=fun M _ h _=>h
 watch:=fun j h ht hs=>by
  rcases hr j h ht hs with ⟨l,h1,h2⟩ | h1
  ·exact .inl ⟨l,h1,by rw [df,h2];rfl⟩
  ·refine .inr fun l hl hd=>?_
   rw [df,h1 l hl,Bool.false_or] at hd;rw [mM,hd,h1 l hl];rfl
 SQ:=hc
 Rh:=uh hd hl
 Ra:=Cg hl _
theorem Mf.step {es0 es es':List aX} {base down pending forced:Key} {p:Int} (h:Mf es0 base es down pending) (hp:pending.has p=true) (hp0:p ≠ 0) (F:gq es es' (-p) down forced false):
  Mf es0 base es' (down.un forced) ((pending.wo (single p)).un forced) where
 same:=F.same.trans h.same
 sub:=fun l hl=>by
  rw [df,Bool.or_eq_true] at hl;rw [df,Bool.or_eq_true]
  rcases hl with hl | hl
  ·rw [mM,Bool.and_eq_true] at hl;exact .inl (h.sub l hl.1)
  ·exact .inr hl
 inc:=fun l hl=>by rw [df,h.inc l hl];rfl
 under:=fun M hM hb hs l hl=>by
  rw [df,Bool.or_eq_true] at hl;have hd:=h.under M hM hb hs
  rcases hl with hl | hl
  ·exact hd l hl
  ·exact (F.sound M hM hd ((mq h.same.symm).2 hs |> fun x=>x)).1 l hl
 watch:=fun j hj ht hs=>by
  have hj0:j < es.length:=by rw [<- qU F.same];exact hj
  obtain ⟨e1,e2⟩:=Cz F.same hj0 hj;by_cases hm:∃ l,(es'[j]).set.has l=true/\(down.un forced).has l=true
  ·exact .inl hm
  ·refine .inr fun l hl hd=>?_
   rw [df,Bool.or_eq_true] at hd ⊢
   rcases hd with hd | hd
   ·
    left
    rcases F.old j hj0 hj l hl with ho | ho
    ·rcases h.watch j hj0 (by rw [<- e2];exact ht) (by rw [<- e1];exact hs) with ⟨x,x1,x2⟩ | hw
     ·exact absurd ⟨x,by rw [e1];exact x1,by rw [df,x2];rfl⟩ hm
     ·have hpd:=hw l ho hd;rw [mM,hpd,aR hp0];have:¬ (-l=p):=fun e=>by
       have e':l=-p:=by omega
       rw [e'] at hl;exact hm (F.kept rfl j hj ht hl)
      simp [this]
    ·rw [ho] at hd;cases hd
   ·exact .inr hd
 SQ:=F.cons h.SQ
 Rh:=uh h.Rh F.La
 Ra:=uh (Cg h.Ra _) F.La
theorem rest_step {es es':List aX} {D down forced:Key} {lit:Int} {b:Bool} (hr:Rest es D) (hD:∀ l,D.has l=true->down.has l=true) (F:gq es es' lit down forced b):Rest es' D:=fun j hj ht hs=>by
 have hj0:j < es.length:=by rw [<- qU F.same];exact hj
 obtain ⟨e1,e2⟩:=Cz F.same hj0 hj
 rcases hr j hj0 (by rw [<- e2];exact ht) (by rw [<- e1];exact hs) with ⟨l,h1,h2⟩ | hw
 ·exact .inl ⟨l,by rw [e1];exact h1,h2⟩
 ·refine .inr fun l hl=>?_
  rcases F.old j hj0 hj l hl with ho | ho
  ·exact hw l ho
  ·cases e:D.has (-l) with
   | false=>rfl
   | true=>rw [hD _ e] at ho;cases ho
theorem Mf.conflict {es0 es es':List aX} {base down pending forced:Key} {lit:Int} (h:Mf es0 base es down pending) (F:gq es es' lit down forced true):∀ M,Cons M->yO base M->¬ fD es0 M:=fun M hM hb hs=>by
 have:=(F.sound M hM (h.under M hM hb hs) ((mq h.same.symm).2 hs |> fun x=>x)).2
 cases this
theorem Mf.finish {es0 es:List aX} {base down:Key} (h:Mf es0 base es down (0,0)) (hw:ZW es) (hok:∀ e ∈ es,e.set.ok) (hu:∀ e ∈ es,0 < e.times->e.set.size=1->∃ l,e.set.has l=true/\down.has l=true) (h0:∀ e ∈ es,0 < e.times->e.set.size ≠ 0):fD es0 (fun l=>down.has l=true):=by
 refine (mq h.same).2 fun e he ht=>?_
 obtain ⟨j,hj,rfl⟩:=List.mem_iff_getElem.1 he
 rcases Nat.lt_or_ge (es[j]).set.size 2 with h2 | h2
 ·have key:∀ n:Nat,n < 2->n ≠ 0->n=1:=fun n a b=>by omega
  exact .inl (hu _ he ht (key _ h2 (h0 _ he ht)))
 ·rcases h.watch j hj ht h2 with hm | hn
  ·exact .inl hm
  ·obtain ⟨a,b,hab,ha,hb,wa,wb⟩:=hw j hj h2;refine .inr ⟨a,b,hab,ha,hb,fun hd=>?_,fun hd=>?_⟩
   ·have:=hn a wa hd;rw [bY] at this;cases this
   ·have:=hn b wb hd;rw [bY] at this;cases this
structure Uy (es:List aX) (L:List Cl):Prop where
 ofE:∀ e ∈ es,0 < e.times->∃ c ∈ L,setOf c=e.set
 from':∀ c ∈ L,∃ e ∈ es,0 < e.times/\e.set=setOf c
 lits:∀ c ∈ L,∀ l ∈ c,oP l
theorem Uy.has {es:List aX} {L:List Cl} (h:Uy es L) {c:Cl} (hc:c ∈ L) (l:Int):(setOf c).has l=true↔l ∈ c:=by
 rw [has_setOf (fun x hx=>vg (h.lits c hc x hx))];simp
theorem Uy.stable {es:List aX} {L:List Cl} (h:Uy es L) (M:Int->Prop):fD es M↔Stable L M:=by
 constructor
 ·intro hs c hc;obtain ⟨e,he,ht,hset⟩:=h.from' c hc
  rcases hs e he ht with ⟨l,h1,h2⟩ | ⟨a,b,hab,h1,h2,h3,h4⟩
  ·rw [hset,h.has hc] at h1;exact .inl ⟨l,h1,h2⟩
  ·rw [hset,h.has hc] at h1 h2;exact .inr ⟨a,h1,b,h2,hab,h3,h4⟩
 ·intro hs e he ht;obtain ⟨c,hc,hset⟩:=h.ofE e he ht
  rcases hs c hc with ⟨l,h1,h2⟩ | ⟨a,h1,b,h2,hab,h3,h4⟩
  ·exact .inl ⟨l,by rw [<- hset,h.has hc];exact h1,h2⟩
  ·exact .inr ⟨a,b,hab,by rw [<- hset,h.has hc];exact h1,by rw [<- hset,h.has hc];exact h2,h3,h4⟩
theorem Uy.conf {es:List aX} {L:List Cl} (h:Uy es L) (ls:List Int):nJ L ls↔∀ M,Cons M->(∀ l ∈ ls,M l)->¬ fD es M:=by
 unfold nJ;constructor
 ·intro hc M hM hl hs;exact hc M hM hl ((h.stable M).1 hs)
 ·intro hc M hM hl hs;exact hc M hM hl ((h.stable M).2 hs)
section
structure dP (es:List aX) (wl:Nat->List Nat):Prop where
 two:∀ j (h:j < es.length),2 <= (es[j]).set.size->∃ a b,a ≠ b/\dB a/\dB b/\(es[j]).set.has a=true/\(es[j]).set.has b=true/\(es[j]).watched=(single a).un (single b)/\j ∈ wl (place a)/\j ∈ wl (place b)
 one:∀ j (h:j < es.length),¬ 2 <= (es[j]).set.size->(es[j]).watched=(0,0)
 lists:∀ k,k < 128->∀ j ∈ wl k,∃ h:j < es.length,2 <= (es[j]).set.size/\∃ l,dB l/\place l=k/\(es[j]).watched.has l=true
 nodup:∀ k,k < 128->(wl k).Nodup
 ok:∀ e ∈ es,e.set.ok
theorem dP.wtwo {es:List aX} {wl:Nat->List Nat} (h:dP es wl):ZW es:=fun j hj hs=>by
 obtain ⟨a,b,hab,ia,ib,ha,hb,hw,_⟩:=h.two j hj hs;exact ⟨a,b,hab,ha,hb,by rw [hw,df,aR (bX ia)];simp,by rw [hw,df,aR (bX ib)];simp⟩
structure LY (es0:List aX) (lit:Int) (ak:Key) (af:List Nat) (i:Nat) (es:List aX) (wl:Nat->List Nat) (kl:List Nat) (forced:Key):Prop where
 same:sigs es=sigs es0
 qg:dP es (fun k=>if k=place lit then kl ++ af.drop i else wl k)
 old:∀ j (h0:j < es0.length) (h:j < es.length) l,(es[j]).watched.has l=true->(es0[j]).watched.has l=true\/ak.has (-l)=false
 sound:∀ M,Cons M->yO ak M->fD es0 M->yO forced M
 kept:∀ j ∈ kl,∀ h:j < es.length,0 < (es[j]).times->∃ l,(es[j]).set.has l=true/\(ak.un forced).has l=true
 cons:kS ak->kS (ak.un forced)
 fresh:∀ l,forced.has l=true->ak.has l=false
 La:forced.ok
 rD:kl.length <= i
 yF:i <= af.length
variable {es0 es:List aX} {lit:Int} {ak forced:Key} {af kl:List Nat} {i:Nat} {wl:Nat->List Nat}
theorem LY.start (h:dP es0 wl):LY es0 lit ak (wl (place lit)) 0 es0 wl [] (0,0) where
 same:=rfl
 qg:=by
  have e:(fun k=>if k=place lit then [] ++ (wl (place lit)).drop 0 else wl k)=wl:=by
   funext k;split
   ·rename_i e;rw [e];rfl
   ·rfl
  rw [e];exact h
 old:=fun j h0 h l hl=>.inl hl
 sound:=fun M _ _ _ l hl=>by rw [bY] at hl;cases hl
 kept:=fun j hj=>by simp at hj
 cons:=fun h=>by
  have:ak.un (0,0)=ak:=rE fun x=>by rw [df,bY,Bool.or_false]
  rw [this];exact h
 fresh:=fun l hl=>by rw [bY] at hl;cases hl
 La:=iU
 rD:=Nat.zero_le _
 yF:=Nat.zero_le _
theorem LY.done (h:LY es0 lit ak af af.length es wl kl forced) (il:dB lit):gq es0 es lit ak forced false/\dP es (fun k=>if k=place lit then kl else wl k):=by
 have e:kl ++ af.drop af.length=kl:=by simp
 have hw:=h.qg;rw [e] at hw;refine ⟨{
  same:=h.same
  old:=h.old
  sound:=fun M hM hd hst=>⟨h.sound M hM hd hst,rfl⟩
  kept:=fun _ j hj ht hwl=>by
   have hs:2 <= (es[j]).set.size:=by
    rcases Nat.lt_or_ge (es[j]).set.size 2 with hlt | hge
    ·rw [hw.one j hj (Nat.not_le.2 hlt),bY] at hwl;cases hwl
    ·exact hge
   obtain ⟨a,b,hab,ia,ib,_,_,hwe,ja,jb⟩:=hw.two j hj hs;rw [hwe,df,aR (bX ia),aR (bX ib)] at hwl;simp only [Bool.or_eq_true,decide_eq_true_eq] at hwl;have hjk:j ∈ kl:=by
    rcases hwl with e | e
    ·subst e;simpa using ja
    ·subst e;simpa using jb
   exact h.kept j hjk hj ht
  cons:=h.cons
  fresh:=h.fresh
  La:=h.La },hw⟩
end
end Rd
end Go.Proofs.YtceahffmenbibaaGreatDoor
