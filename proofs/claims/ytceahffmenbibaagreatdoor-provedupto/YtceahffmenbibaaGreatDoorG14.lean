/- Pmap Psto Plog. -/
import Derived.Test.YtceahffmenbibaaGreatDoorG13
import Derived.Maps.OwnSet
import Derived.Maps.Views
import Derived.DeepKeys4
import Derived.Test.YtceahffmenbibaaGreatDoorG01
import Derived.Deep.RegionLaw
import Derived.Deep.RegionHeld3
set_option linter.unusedVariables false
set_option linter.unusedSimpArgs false
namespace Go.Proofs.YtceahffmenbibaaGreatDoor
namespace Rd
open Go Go.RowKit Go.Maps
theorem Tryz.laidOut':laidOutB Tryz.prog=true:=by kernel_rfl
theorem Tryz.rowKey:(84:TypeId) < Tryz.prog.types.size:=of_decide_eq_true (by kernel_rfl)
theorem Tryz.wideKey:(match Tryz.prog.underlying 84 with | some (.array _ _) | some (.struct _)=>true | _=>false)=true:=by rw [Tryz.underlying84]
theorem Tryz.ktAt:Tryz.prog.keyTypeAt 3 84=true:=by kernel_rfl
set_option maxRecDepth 1000000 in
theorem Tryz.lawKey:Keyed Tryz.prog 84:=Keyed.of_law (deep_law_laid Tryz.laidOut' (m:=3) (by omega) Tryz.rowKey Tryz.ktAt Tryz.wideKey)
theorem Tryz.cellsKey:Tryz.prog.cellsOf 84=2:=by kernel_rfl
theorem Tryz.zeroInt (w:World):(zeroValue 3).run Tryz.prog w=.ok (.int .i64 0) w:=by kernel_rfl
theorem Tryz.ktKey:Tryz.prog.keyType 84=true:=by kernel_rfl
theorem Tryz.cellsU64:Tryz.prog.cellsOf 82=1:=by kernel_rfl
set_option maxRecDepth 1000000 in
theorem Tryz.typesPos:∃ n,Tryz.prog.types.size=n + 1:=⟨Tryz.prog.types.size - 1,(Nat.succ_pred_eq_of_pos (Nat.lt_of_le_of_lt (Nat.zero_le _) Tryz.rowKey)).symm⟩
def klOf (s:Key):Lit:=.string (keyBytes [.int .u64 (s.1:Int),.int .u64 (s.2:Int)])
theorem keyOf_two {P : Program} {k u n : Nat} {fs : Array Field} {f1 f2 : Field} (hu : P.underlying k = some (.struct fs)) (hfs : fs = #[f1, f2]) (hn : fs.all (fun f => f.name != "_") = true) (t1 : f1.type = u) (o1 : f1.offset = 0) (t2 : f2.type = u) (o2 : f2.offset = 1)
  (hk:P.keyType k=true) (hc:P.cellsOf k=2) (hc1:P.cellsOf u=1) (hui:P.underlying u=some (.int .u64)) (hsz:P.types.size=n + 1) {a b:Int} (w1:(Lit.int .u64 a).wf=true) (w2:(Lit.int .u64 b).wf=true):
  keyOf P k (.agg #[.int .u64 a,.int .u64 b])=some (.string (keyBytes [.int .u64 a,.int .u64 b])):=by
 have hff:(Value.agg #[.int .u64 a,.int .u64 b]).formed P k=true:=by simp [Value.formed,hu,hc]
 have k1:∀ x,(Lit.int .u64 x).wf=true→P.keyLits (n + 1) u [.int .u64 x]=some [.int .u64 x]:=fun x hx=>by simp [Program.keyLits,hui,hx]
 have k2:P.keyLits (n + 1 + 1) k [.int .u64 a,.int .u64 b]=some [.int .u64 a,.int .u64 b]:=by
  subst hfs
  conv=>lhs;unfold Program.keyLits
  rw [hu]
  simp only [hc,hn,List.length_cons,List.length_nil,and_self,if_true]
  simp [t1,t2,o1,o2,hc1,k1 a w1,k1 b w2]
 unfold keyOf
 rw [hu]
 simp only [hk,hff,Bool.and_self,if_true,hsz]
 show Option.map _ (P.keyLits (n + 1 + 1) k [.int .u64 a,.int .u64 b])=_
 rw [k2];rfl
set_option maxRecDepth 1000000 in
theorem keyOf_key {s:Key} (hs:s.ok):keyOf Tryz.prog 84 (keyV s)=some (klOf s):=by
 have w1:(Lit.int .u64 (s.1:Int)).wf=true:=by
  have:=hs.1;unfold wide at this
  simp [Lit.wf,IntKind.min,IntKind.max,IntKind.signed,IntKind.bits];omega
 have w2:(Lit.int .u64 (s.2:Int)).wf=true:=by
  have:=hs.2;unfold wide at this
  simp [Lit.wf,IntKind.min,IntKind.max,IntKind.signed,IntKind.bits];omega
 obtain ⟨n,hn⟩:=Tryz.typesPos
 exact keyOf_two Tryz.underlying84 rfl (by kernel_rfl) rfl rfl rfl rfl Tryz.ktKey Tryz.cellsKey Tryz.cellsU64 Tryz.underlying82 hn w1 w2
theorem klOf_inj {s t:Key} (hs:s.ok) (ht:t.ok) (h:klOf s=klOf t):s=t:=by
 have h1:=keyOf_key hs
 have h2:=keyOf_key ht
 rw [← h] at h2
 have:=Tryz.lawKey.inj h1 h2
 unfold keyV at this
 simp at this
 obtain ⟨a,b⟩:=s;obtain ⟨c,d⟩:=t
 simp only at this
 have h1:a=c:=by have:=this.1;omega
 have h2:b=d:=by have:=this.2;omega
 rw [h1,h2]
theorem klOf_key {s:Key} (hs:s.ok):WideAt.IsKeyLit (klOf s):=Tryz.lawKey.key (keyOf_key hs)
def MapIs (w:World) (b n:Nat) (m:Key→Option Nat):Prop:=∃ D:DataW Unit,w.ownsMap Tryz.prog 84 (plainElem Tryz.prog 3) b n D∧IsMap D∧
 ∀ s:Key,s.ok→Maps.has D (klOf s)=(m s).isSome∧∀ i,m s=some i→D.atKey (klOf s) (.lit (.int .i64 0))=.lit (.int .i64 (i:Nat))
theorem mapIs_made (w:World):MapIs (w.alloc (.map #[] 0)) w.heap.size 0 (fun _=>none):=by
 refine ⟨.map [],World.ownsMap_made _ _ _ _,⟨[],rfl⟩,fun s hs=>⟨rfl,fun i hi=>by cases hi⟩⟩
theorem MapIs.congr {w:World} {b n:Nat} {m m':Key→Option Nat} (h:MapIs w b n m) (e:∀ s,s.ok→m s=m' s):MapIs w b n m':=by
 obtain ⟨D,h1,h2,h3⟩:=h
 exact ⟨D,h1,h2,fun s hs=>by rw [← e s hs];exact h3 s hs⟩
theorem MapIs.kept {w w':World} {b n:Nat} {m:Key→Option Nat} (h:MapIs w b n m) (hb:w'.heap[b]? = w.heap[b]?):MapIs w' b n m:=by
 obtain ⟨D,⟨es,cl,h0,h1⟩,h2⟩:=h
 exact ⟨D,⟨es,cl,by rw [hb];exact h0,h1⟩,h2⟩
theorem MapIs.lt {w:World} {b n:Nat} {m:Key→Option Nat} (h:MapIs w b n m):b < w.heap.size:=by
 obtain ⟨D,⟨es,cl,h0,_⟩,_⟩:=h
 exact (Array.getElem?_eq_some_iff.1 h0).1
theorem MapIs.not_cells {w:World} {b n:Nat} {m:Key→Option Nat} (h:MapIs w b n m) {c:Array Value} {t:TypeId} {f:Nat × Nat}:w.heap[b]? ≠ some (.cells c t f):=by
 obtain ⟨D,⟨es,cl,h0,_⟩,_⟩:=h
 rw [h0];intro e;cases e
theorem MapIs.put {w w':World} {b n i:Nat} {m:Key→Option Nat} {k:Key} (hk:k.ok) {D:DataW Unit} (hD:IsMap D) (h3:∀ s:Key,s.ok→Maps.has D (klOf s)=(m s).isSome∧∀ i,m s=some i→D.atKey (klOf s) (.lit (.int .i64 0))=.lit (.int .i64 (i:Nat)))
  (h:w'.ownsMap Tryz.prog 84 (plainElem Tryz.prog 3) b n (D.put (klOf k) (.lit (.int .i64 (i:Nat))))):MapIs w' b n (fun s=>if s=k then some i else m s):=by
 refine ⟨_,h,hD.put _ _,fun s hs=>?_⟩
 by_cases e:s=k
 ·subst e
  simp only [if_true]
  refine ⟨by rw [has_put_same hD (klOf_key hs)];rfl,fun j hj=>?_⟩
  cases hj
  exact atKey_put_same hD (klOf_key hs) _ _
 ·simp only [e,if_false]
  have ne:klOf s ≠ klOf k:=fun h=>e (klOf_inj hs hk h)
  rw [has_put_other ne]
  refine ⟨(h3 s hs).1,fun j hj=>?_⟩
  rw [atKey_put_other ne]
  exact (h3 s hs).2 j hj
theorem MapIs.update {w:World} {b n i:Nat} {m:Key→Option Nat} {k:Key} (h:MapIs w b n m) (hk:k.ok) (hn:n < maxLen) (hi:i ≤ 4294967296):∃ w',(Instr.mapUpdate 130 (.map (some b)) (keyV k) (.int .i64 (i:Nat))).run Tryz.prog w=.ok () w'∧
  w.grownBy w' (some b)∧MapIs w' b (n + 1) (fun s=>if s=k then some i else m s):=by
 obtain ⟨D,h1,h2,h3⟩:=h
 obtain ⟨w',hr,r1,r2⟩:=h1.update Tryz.lawKey Tryz.underlying130 hn (keyOf_key hk) (plainElem_int (H:=Unit) Tryz.underlying3 (a:=(i:Int)) (by simp [Lit.wf,IntKind.min,IntKind.max,IntKind.signed,IntKind.bits];omega))
 exact ⟨_,hr,r2,MapIs.put (w:=w) hk h2 h3 r1⟩
theorem MapIs.lookup {w:World} {b n:Nat} {m:Key→Option Nat} {k:Key} (h:MapIs w b n m) (hk:k.ok):∃ c:Int,(∀ i,m k=some i→c=(i:Int))∧∀ w':World,w'.heap[b]? = w.heap[b]? → (Instr.lookup 130 (.map (some b)) (keyV k) true).run Tryz.prog w'=.ok (.tuple #[.int .i64 c,.bool (m k).isSome]) w':=by
 obtain ⟨D,h1,h2,h3⟩:=h
 have hw0:(Lit.int .i64 0).wf=true:=by decide
 have key:∀ w':World,w'.heap[b]? = w.heap[b]? → ∃ c:Int,(Instr.lookup 130 (.map (some b)) (keyV k) true).run Tryz.prog w'=.ok (.tuple #[.int .i64 c,.bool (m k).isSome]) w'∧D.atKey (klOf k) (.lit (.int .i64 0))=.lit (.int .i64 c):=by
  intro w' hb
  have h1':w'.ownsMap Tryz.prog 84 (plainElem Tryz.prog 3) b n D:=by
   obtain ⟨es,cl,e0,e1⟩:=h1
   exact ⟨es,cl,by rw [hb];exact e0,e1⟩
  obtain ⟨v,ps,hrun,hv⟩:=h1'.look_ok Tryz.lawKey Tryz.underlying130 (Tryz.zeroInt w') (plainElem_int Tryz.underlying3 hw0) (keyOf_key hk)
  obtain ⟨c,rfl,hc,_⟩:=plainElem_int_inv Tryz.underlying3 hv
  exact ⟨c,by rw [hrun,(h3 k hk).1],congrArg Prod.fst hc⟩
 obtain ⟨c,_,hD⟩:=key w rfl
 refine ⟨c,fun i hi=>?_,fun w' hb=>?_⟩
 ·have e1:=(h3 k hk).2 i hi
  rw [e1] at hD
  cases hD;rfl
 ·obtain ⟨c',hr,hD'⟩:=key w' hb
  rw [hD] at hD'
  cases hD'
  exact hr
end Rd
end Go.Proofs.YtceahffmenbibaaGreatDoor
namespace Go.Proofs.YtceahffmenbibaaGreatDoor
namespace Rd
open Go Go.RowKit Go.Deep
structure Ent where
 set:Key
 watched:Key
 times:Nat
def entV (e:Ent):List Value:=[.int .u64 (e.set.1:Int),.int .u64 (e.set.2:Int),.int .u64 (e.watched.1:Int),.int .u64 (e.watched.2:Int),.int .i64 (e.times:Int)]
def entsV (es:List Ent):List Value:=es.flatMap entV
def natsV (xs:List Nat):List Value:=xs.map fun (n:Nat)=>Value.int .i64 (n:Int)
def stoF (cv:Value) (mb:Nat) (gone:Int) (u:Key) (wv:Nat→Value):Nat→Value
 | 0=>cv
 | 1=>.map (some mb)
 | 2=>.int .i64 gone
 | 3=>.int .u64 (u.1:Int)
 | 4=>.int .u64 (u.2:Int)
 | k + 5=>wv k
def look (es:List Ent) (s:Key):Option Nat:=es.findIdx? (fun e=>decide (e.set=s))
theorem entsV_get (es:List Ent) (i:Nat) (hi:i < es.length) (j:Nat) (hj:j < 5):(entsV es)[i * 5 + j]? = (entV es[i])[j]? := by
 induction es generalizing i with
 | nil=>simp at hi
 | cons a r ih=>
  have e:entsV (a :: r)=entV a ++ entsV r:=rfl
  have l5:(entV a).length=5:=rfl
  rw [e]
  cases i with
  | zero=>rw [List.getElem?_append_left (by omega)];simp
  | succ i=>
   rw [List.getElem?_append_right (by omega),l5,show (i + 1) * 5 + j - 5=i * 5 + j by omega]
   exact ih i (by simpa using hi)
theorem entsV_snoc (es:List Ent) (e:Ent):entsV (es ++ [e])=entsV es ++ entV e:=by unfold entsV;rw [List.flatMap_append];simp
structure Sto (B sb:Nat) (w:World) (cv:Value) (mb:Nat) (gone:Int) (u:Key) (wv:Nat→Value) (es:List Ent) (wl:Nat→List Nat):Prop where
 row:w.rowIs sb 134 133 (stoF cv mb gone u wv)
 cls:w.ownsRow B 180 5 cv es.length (entsV es)
 map:MapIs w mb es.length (look es)
 wat:∀ k,k < 128→w.ownsRow B 3 1 (wv k) (wl k).length (natsV (wl k))
 apart:∀ k k',k < 128→k' < 128→k ≠ k'→(wv k).ownBlock=none∨(wv k).ownBlock ≠ (wv k').ownBlock
 bsb:B ≤ sb
 bmb:B ≤ mb
variable {B sb mb:Nat} {w w':World} {cv:Value} {gone:Int} {u:Key} {wv:Nat→Value} {es:List Ent} {wl:Nat→List Nat}
theorem Sto.later (h:Sto B sb w cv mb gone u wv es wl) (hb:Below w.heap.size w w'):Sto B sb w' cv mb gone u wv es wl where
 row:=h.row.of_block (hb.block _ h.row.lt)
 cls:=owns_later h.cls hb
 map:=h.map.kept (hb.block _ h.map.lt)
 wat:=fun k hk=>owns_later (h.wat k hk) hb
 apart:=h.apart
 bsb:=h.bsb
 bmb:=h.bmb
theorem Sto.bsize (h:Sto B sb w cv mb gone u wv es wl):B ≤ w.heap.size:=by have:=h.row.lt;have:=h.bsb;omega
theorem Sto.ents (h:Sto B sb w cv mb gone u wv es wl) (i:Nat) (hi:i < es.length):∃ cb cap,cv=.slice (some ⟨cb,0,none⟩) es.length cap∧B ≤ cb∧cb < w.heap.size∧cb ≠ sb∧es.length ≤ cap∧∀ j,j < 5→w.cell? ⟨cb,i * 5 + j,none⟩=(entV es[i])[j]? ∧ w.frozen? ⟨cb,i * 5 + j,none⟩=false:=by
 have hc:=h.cls
 rcases h.cls.2 with ⟨_,h0⟩ | ⟨g,cap,cur,e,hbg,hg,hn,_⟩
 ·omega
 ·refine ⟨g,cap,e,hbg,(hc.lt g (by rw [e];rfl)).2,?_,hn,fun j hj=>?_⟩
  ·intro eg
   obtain ⟨c,hr,_⟩:=h.row
   rw [← eg,hg] at hr
   cases hr
  ·rw [e] at hc
   refine ⟨?_,hc.frozenAt _⟩
   rw [hc.cellAt (i * 5 + j) (by have:i + 1 ≤ es.length:=hi;have:=Nat.mul_le_mul_right 5 this;omega),entsV_get es i hi j hj]
theorem Sto.head (h:Sto B sb w cv mb gone u wv es wl) (j:Nat) (hj:j < 133):w.cell? ⟨sb,j,none⟩=some (stoF cv mb gone u wv j)∧w.frozen? ⟨sb,j,none⟩=false:=⟨h.row.cell hj,h.row.frozen j⟩
def withW (es:List Ent) (i:Nat) (k:Key):List Ent:=es.modify i (fun e=>{ e with watched:=k })
def withT (es:List Ent) (i:Nat) (n:Nat):List Ent:=es.modify i (fun e=>{ e with times:=n })
theorem entsV_cons (a:Ent) (r:List Ent):entsV (a :: r)=entV a ++ entsV r:=rfl
theorem entsV_withW (es:List Ent) (i:Nat) (hi:i < es.length) (k:Key):entsV (withW es i k)=((entsV es).set (i * 5 + 2) (.int .u64 (k.1:Int))).set (i * 5 + 3) (.int .u64 (k.2:Int)):=by
 unfold withW
 induction es generalizing i with
 | nil=>simp at hi
 | cons a r ih=>
  cases i with
  | zero=>rfl
  | succ i=>
   have l5:(entV a).length=5:=rfl
   rw [List.modify_succ_cons,entsV_cons,entsV_cons,ih i (by simpa using hi),List.set_append_right _ _ (by rw [l5];omega),List.set_append_right _ _ (by rw [l5];omega),l5]
   congr 2
   ·congr 1;omega
   ·omega
theorem entsV_withT (es:List Ent) (i:Nat) (hi:i < es.length) (n:Nat):entsV (withT es i n)=(entsV es).set (i * 5 + 4) (.int .i64 (n:Int)):=by
 unfold withT
 induction es generalizing i with
 | nil=>simp at hi
 | cons a r ih=>
  cases i with
  | zero=>rfl
  | succ i=>
   have l5:(entV a).length=5:=rfl
   rw [List.modify_succ_cons,entsV_cons,entsV_cons,ih i (by simpa using hi),List.set_append_right _ _ (by rw [l5];omega),l5]
   congr 2
   omega
theorem withW_len (es:List Ent) (i:Nat) (k:Key):(withW es i k).length=es.length:=by unfold withW;simp
theorem withT_len (es:List Ent) (i:Nat) (n:Nat):(withT es i n).length=es.length:=by unfold withT;simp
theorem withW_sets (es:List Ent) (i:Nat) (k:Key):(withW es i k).map Ent.set=es.map Ent.set:=by
 unfold withW
 refine List.ext_getElem? fun j=>?_
 rw [List.getElem?_map,List.getElem?_map,List.getElem?_modify]
 split
 ·rename_i h;subst h;cases es[i]? <;> rfl
 ·simp
theorem withT_sets (es:List Ent) (i:Nat) (n:Nat):(withT es i n).map Ent.set=es.map Ent.set:=by
 unfold withT
 refine List.ext_getElem? fun j=>?_
 rw [List.getElem?_map,List.getElem?_map,List.getElem?_modify]
 split
 ·rename_i h;subst h;cases es[i]? <;> rfl
 ·simp
theorem look_sets {es es':List Ent} (h:es'.map Ent.set=es.map Ent.set) (s:Key):look es' s=look es s:=by
 have key:∀ l:List Ent,look l s=(l.map Ent.set).findIdx? (fun k=>decide (k=s)):=fun l=>by
  unfold look;rw [List.findIdx?_map];rfl
 rw [key,key,h]
theorem Sto.intoCls {cb cap:Nat} {es':List Ent} {ws:World} (h:Sto B sb w cv mb gone u wv es wl) (hcv:cv=.slice (some ⟨cb,0,none⟩) es.length cap) (hlen:es'.length=es.length) (hsets:es'.map Ent.set=es.map Ent.set)
  (hown:ws.ownsRow B 180 5 cv es.length (entsV es')) (hblk:∀ k,k ≠ cb→ws.heap[k]? = w.heap[k]?):Sto B sb ws cv mb gone u wv es' wl:=by
 obtain ⟨cur,hcb⟩:∃ cur,w.heap[cb]? = some (.cells cur 180 (0,0)):=by
  rcases h.cls.2 with ⟨e,_⟩ | ⟨g,cap',cur,e,_,hg,_⟩
  ·rw [hcv] at e;cases e
  ·rw [hcv] at e;cases e;exact ⟨cur,hg⟩
 have nsb:sb ≠ cb:=fun e=>by
  obtain ⟨c,hr,_⟩:=h.row
  rw [e,hcb] at hr;cases hr
 have nmb:mb ≠ cb:=fun e=>h.map.not_cells (by rw [e];exact hcb)
 exact {
  row:=h.row.of_block (hblk _ nsb)
  cls:=by rw [hlen];exact hown
  map:=by rw [hlen];exact (h.map.kept (hblk _ nmb)).congr fun s _=>(look_sets hsets s).symm
  wat:=fun k hk=>by
   have hk':=h.wat k hk
   refine ⟨hk'.1,?_⟩
   rcases hk'.2 with e | ⟨g,cap',cur',e,hb,hg,r⟩
   ·exact .inl e
   ·refine .inr ⟨g,cap',cur',e,hb,?_,r⟩
    rw [hblk g (fun e2=>by rw [e2,hcb] at hg;cases hg)];exact hg
  apart:=h.apart
  bsb:=h.bsb
  bmb:=h.bmb }
theorem Sto.gone' (h:Sto B sb w cv mb gone u wv es wl) (g:Int):Sto B sb (w.setCell ⟨sb,2,none⟩ (.int .i64 g)) cv mb g u wv es wl where
 row:=(h.row.set 2 _).congr fun i hi=>by
  match i with
  | 0=>rfl
  | 1=>rfl
  | 2=>rfl
  | 3=>rfl
  | 4=>rfl
  | k + 5=>simp [stoF]
 cls:=ownsRow_setCell_other h.cls (fun e=>by
  rcases h.cls.2 with ⟨e2,_⟩ | ⟨g',cap',cur,e2,_,hg,_⟩
  ·rw [e2] at e;cases e
  ·rw [e2] at e;cases e
   obtain ⟨c,hr,_⟩:=h.row
   rw [hg] at hr;cases hr) _
 map:=h.map.kept (Below.heap_setCell _ _ _ _ (fun e=>by
  obtain ⟨c,hr,_⟩:=h.row
  exact h.map.not_cells (by rw [e];exact hr)))
 wat:=fun k hk=>ownsRow_setCell_other (h.wat k hk) (fun e=>by
  rcases (h.wat k hk).2 with ⟨e2,_⟩ | ⟨g',cap',cur,e2,_,hg,_⟩
  ·rw [e2] at e;cases e
  ·rw [e2] at e;cases e
   obtain ⟨c,hr,_⟩:=h.row
   rw [hg] at hr;cases hr) _
 apart:=h.apart
 bsb:=h.bsb
 bmb:=h.bmb
theorem Sto.far_sb (h:Sto B sb w cv mb gone u wv es wl):mb ≠ sb∧(∀ g,cv.ownBlock=some g→g ≠ sb)∧∀ k,k < 128→∀ g,(wv k).ownBlock=some g→g ≠ sb:=by
 obtain ⟨c,hr,_⟩:=h.row
 refine ⟨fun e=>h.map.not_cells (by rw [e];exact hr),fun g hg e=>?_,fun k hk g hg e=>?_⟩
 ·rcases h.cls.2 with ⟨e2,_⟩ | ⟨g',cap',cur,e2,_,hg',_⟩
  ·rw [e2] at hg;cases hg
  ·rw [e2] at hg;cases hg;simp only at e;rw [e,hr] at hg';cases hg'
 ·rcases (h.wat k hk).2 with ⟨e2,_⟩ | ⟨g',cap',cur,e2,_,hg',_⟩
  ·rw [e2] at hg;cases hg
  ·rw [e2] at hg;cases hg;simp only at e;rw [e,hr] at hg';cases hg'
theorem owns_block {w w':World} {B e size n:Nat} {v:Value} {xs:List Value} (h:w.ownsRow B e size v n xs) (hb:∀ g,v.ownBlock=some g→w'.heap[g]? = w.heap[g]?):w'.ownsRow B e size v n xs:=by
 refine ⟨h.1,?_⟩
 rcases h.2 with e | ⟨g,cap,cur,e,h1,h2,r⟩
 ·exact .inl e
 ·exact .inr ⟨g,cap,cur,e,h1,by rw [hb g (by rw [e];rfl)];exact h2,r⟩
theorem Sto.reRow {ws:World} {g':Int} {u':Key} (h:Sto B sb w cv mb gone u wv es wl) (hrow:ws.rowIs sb 134 133 (stoF cv mb g' u' wv)) (hblk:∀ k,k ≠ sb→ws.heap[k]? = w.heap[k]?):Sto B sb ws cv mb g' u' wv es wl where
 row:=hrow
 cls:=owns_block h.cls fun g hg=>hblk g (h.far_sb.2.1 g hg)
 map:=h.map.kept (hblk _ h.far_sb.1)
 wat:=fun k hk=>owns_block (h.wat k hk) fun g hg=>hblk g (h.far_sb.2.2 k hk g hg)
 apart:=h.apart
 bsb:=h.bsb
 bmb:=h.bmb
theorem Sto.pushW {w6:World} {ob:Obj} {v':Value} {p at':Nat} (h:Sto B sb w cv mb gone u wv es wl) (hp:p < 128) (A:Appended (w.alloc ob) B 3 1 (wv p) (wl p).length (natsV (wl p)) 1 [.int .i64 (at':Int)] v' w6):
  Sto B sb (w6.setCell ⟨sb,5 + p,none⟩ v') cv mb gone u (fun k=>if k=p then v' else wv k) es (fun k=>if k=p then wl p ++ [at'] else wl k):=by
 have h':=h.later ((Below.refl _ _).alloc (Nat.le_refl _) ob)
 have far:∀ k,k < (w.alloc ob).heap.size→some k ≠ (wv p).ownBlock→w6.heap[k]? = (w.alloc ob).heap[k]? := A.grew.block
 have pint:∀ g,(wv p).ownBlock=some g→∃ cur,(w.alloc ob).heap[g]? = some (.cells cur 3 (0,0)):=fun g hg=>by
  rcases (h'.wat p hp).2 with ⟨e2,_⟩ | ⟨g',cap',cur,e2,_,hg',_⟩
  ·rw [e2] at hg;cases hg
  ·rw [e2] at hg;cases hg;exact ⟨cur,hg'⟩
 have row6:w6.rowIs sb 134 133 (stoF cv mb gone u wv):=h'.row.of_block (far _ h'.row.lt (fun e=>(h'.far_sb.2.2 p hp sb e.symm) rfl))
 have vne:∀ g,v'.ownBlock=some g→g ≠ sb:=fun g hg e=>by
  rcases A.at' with e2 | e2
  ·rw [e2] at hg;exact h'.far_sb.2.2 p hp g hg e
  ·rw [e2] at hg;cases hg;have:=h'.row.lt;omega
 have hcls:∀ g,cv.ownBlock=some g→some g ≠ (wv p).ownBlock:=fun g hg e=>by
  obtain ⟨cur,hc⟩:=pint g e.symm
  rcases h'.cls.2 with ⟨e2,_⟩ | ⟨g',cap',cur',e2,_,hg',_⟩
  ·rw [e2] at hg;cases hg
  ·rw [e2] at hg;cases hg;rw [hc] at hg';cases hg'
 have hmap:some mb ≠ (wv p).ownBlock:=fun e=>by
  obtain ⟨cur,hc⟩:=pint mb e.symm
  exact h'.map.not_cells hc
 exact {
  row:=(row6.set (5 + p) _).congr fun i hi=>by
   match i with
   | 0=>rw [if_neg (by omega)];rfl
   | 1=>rw [if_neg (by omega)];rfl
   | 2=>rw [if_neg (by omega)];rfl
   | 3=>rw [if_neg (by omega)];rfl
   | 4=>rw [if_neg (by omega)];rfl
   | k + 5=>
    by_cases e:k=p
    ·subst e;simp [stoF,Nat.add_comm]
    ·have:¬ (k + 5=5 + p):=by omega
     simp [stoF,this,e]
  cls:=ownsRow_setCell_other (owns_block h'.cls fun g hg=>far g (h'.cls.lt g hg).2 (hcls g hg)) (fun e=>h'.far_sb.2.1 sb e rfl) _
  map:=(h'.map.kept (far _ h'.map.lt hmap)).kept (Below.heap_setCell _ _ _ _ h'.far_sb.1)
  wat:=fun k hk=>by
   by_cases e:k=p
   ·subst e
    simp only [if_true]
    have:=ownsRow_setCell_other A.own (a:=⟨sb,5 + k,none⟩) (fun e=>vne sb e rfl) v'
    unfold natsV at *
    rw [List.map_append,List.length_append];exact this
   ·simp only [e,if_false]
    refine ownsRow_setCell_other (owns_block (h'.wat k hk) fun g hg=>far g ((h'.wat k hk).lt g hg).2 (fun e2=>?_)) (fun e=>h'.far_sb.2.2 k hk sb e rfl) _
    rcases h.apart k p hk hp e with e3 | e3
    ·rw [e3] at hg;cases hg
    ·exact e3 (by rw [hg,e2])
  apart:=fun k k' hk hk' hne=>by
   by_cases e:k=p
   ·by_cases e':k'=p
    ·exact absurd (by rw [e,e']) hne
    ·simp only [e,e',if_true,if_false]
     rcases A.at' with e2 | e2
     ·rw [e2];exact h.apart p k' hp hk' (fun x=>e' x.symm)
     ·right;rw [e2];intro e3
      have:=((h'.wat k' hk').lt _ e3.symm).2
      omega
   ·by_cases e':k'=p
    ·simp only [e,e',if_true,if_false]
     rcases A.at' with e2 | e2
     ·rw [e2];exact h.apart k p hk hp e
     ·cases hg:(wv k).ownBlock with
      | none=>exact .inl rfl
      | some g=>
       right;rw [e2];intro e3
       have:=((h'.wat k hk).lt _ hg).2
       cases e3;omega
    ·simp only [e,e',if_false]
     exact h.apart k k' hk hk' hne
  bsb:=h.bsb
  bmb:=h.bmb }
theorem Sto.setW {cb cap i:Nat} (h:Sto B sb w (.slice (some ⟨cb,0,none⟩) es.length cap) mb gone u wv es wl) (hi:i < es.length) (k:Key):
  Sto B sb ((w.setCell ⟨cb,i * 5 + 2,none⟩ (.int .u64 (k.1:Int))).setCell ⟨cb,i * 5 + 2 + 1,none⟩ (.int .u64 (k.2:Int))) (.slice (some ⟨cb,0,none⟩) es.length cap) mb gone u wv (withW es i k) wl:=by
 refine h.intoCls rfl (withW_len es i k) (withW_sets es i k) ?_ (fun j hj=>?_)
 ·rw [entsV_withW es i hi k]
  exact ((h.cls.stored (i * 5 + 2) _).1.stored (i * 5 + 3) _).1
 ·rw [Below.heap_setCell _ _ _ _ hj,Below.heap_setCell _ _ _ _ hj]
theorem Sto.setT {cb cap i:Nat} (h:Sto B sb w (.slice (some ⟨cb,0,none⟩) es.length cap) mb gone u wv es wl) (hi:i < es.length) (n:Nat):
  Sto B sb (w.setCell ⟨cb,i * 5 + 4,none⟩ (.int .i64 (n:Int))) (.slice (some ⟨cb,0,none⟩) es.length cap) mb gone u wv (withT es i n) wl:=by
 refine h.intoCls rfl (withT_len es i n) (withT_sets es i n) ?_ (fun j hj=>?_)
 ·rw [entsV_withT es i hi n]
  exact (h.cls.stored (i * 5 + 4) _).1
 ·rw [Below.heap_setCell _ _ _ _ hj]
theorem Sto.headApp {w6:World} {ob:Obj} {v':Value} {p at':Nat} (h:Sto B sb w cv mb gone u wv es wl) (hp:p < 128) (A:Appended (w.alloc ob) B 3 1 (wv p) (wl p).length (natsV (wl p)) 1 [.int .i64 (at':Int)] v' w6) (j:Nat) (hj:j < 133):
  w6.cell? ⟨sb,j,none⟩=some (stoF cv mb gone u wv j)∧w6.frozen? ⟨sb,j,none⟩=false:=by
 have h':=h.later ((Below.refl _ _).alloc (Nat.le_refl _) ob)
 have row6:w6.rowIs sb 134 133 (stoF cv mb gone u wv):=h'.row.of_block (A.grew.block _ h'.row.lt (fun e=>(h'.far_sb.2.2 p hp sb e.symm) rfl))
 exact ⟨row6.cell hj,row6.frozen j⟩
theorem Sto.belowApp {w0 w6:World} {ob:Obj} {v':Value} {p at':Nat} (h:Sto B sb w cv mb gone u wv es wl) (hp:p < 128) (A:Appended (w.alloc ob) B 3 1 (wv p) (wl p).length (natsV (wl p)) 1 [.int .i64 (at':Int)] v' w6) (hb:Below B w0 w) (x:Value) (j:Nat):
  Below B w0 (w6.setCell ⟨sb,j,none⟩ x):=
 ((hb.alloc h.bsize ob).grown A.grew (by have:=h.bsize;simp;omega) (fun k hk=>((h.wat p hp).lt k hk).1)).setCell h.bsb _
theorem look_snoc (es:List Ent) (e:Ent) (h:look es e.set=none) (s:Key):look (es ++ [e]) s=if s=e.set then some es.length else look es s:=by
 unfold look at *
 rw [List.findIdx?_append]
 by_cases hs:s=e.set
 ·subst hs
  rw [h,if_pos rfl]
  simp [List.findIdx?_cons]
 ·rw [if_neg hs]
  cases hf:es.findIdx? (fun x=>decide (x.set=s)) with
  | some i=>rfl
  | none=>
   have:¬ e.set=s:=fun x=>hs x.symm
   simp [List.findIdx?_cons,this]
theorem Sto.pushE {w1 w6:World} {ob:Obj} {cv':Value} {e:Ent} (h:Sto B sb w cv mb gone u wv es wl) (hn:look es e.set=none) (hg1:w.grownBy w1 (some mb)) (hm1:MapIs w1 mb (es.length + 1) (fun s=>if s=e.set then some es.length else look es s))
  (A:Appended (w1.alloc ob) B 180 5 cv es.length (entsV es) 1 (entV e) cv' w6):Sto B sb (w6.setCell ⟨sb,0,none⟩ cv') cv' mb gone u wv (es ++ [e]) wl:=by
 have hs1:=hg1.size
 have f1:∀ k,k < w.heap.size→k ≠ mb→(w1.alloc ob).heap[k]? = w.heap[k]? := fun k hk hne=>by
  rw [Below.heap_alloc w1 ob k (by omega)];exact hg1.block k hk (fun e=>hne (Option.some.inj e))
 have hmlt:=h.map.lt
 have hslt:=h.row.lt
 have cvb:∀ g,cv.ownBlock=some g→g < w.heap.size∧∃ cur,w.heap[g]? = some (.cells cur 180 (0,0)):=fun g hg=>by
  refine ⟨(h.cls.lt g hg).2,?_⟩
  rcases h.cls.2 with ⟨e2,_⟩ | ⟨g',cap',cur,e2,_,hg',_⟩
  ·rw [e2] at hg;cases hg
  ·rw [e2] at hg;cases hg;exact ⟨cur,hg'⟩
 have f6:∀ k,k < w.heap.size→k ≠ mb→(∀ cur,w.heap[k]? ≠ some (.cells cur 180 (0,0)))→w6.heap[k]? = w.heap[k]? := fun k hk hne hc=>by
  rw [A.grew.block k (by simp;omega) (fun e=>by obtain ⟨_,cur,hx⟩:=cvb k e.symm;exact hc cur hx),f1 k hk hne]
 have row6:w6.rowIs sb 134 133 (stoF cv mb gone u wv):=h.row.of_block (f6 sb hslt (fun e=>h.far_sb.1 e.symm) (fun cur hx=>by obtain ⟨c,hr,_⟩:=h.row;rw [hx] at hr;cases hr))
 have m6:w6.heap[mb]? = w1.heap[mb]? := by
  rw [A.grew.block mb (by simp;omega) (fun e=>by obtain ⟨_,cur,hx⟩:=cvb mb e.symm;exact h.map.not_cells hx),Below.heap_alloc w1 ob mb (by omega)]
 have vne:∀ g,cv'.ownBlock=some g→g ≠ sb:=fun g hg e=>by
  rcases A.at' with e2 | e2
  ·rw [e2] at hg;exact h.far_sb.2.1 g hg e
  ·rw [e2] at hg;cases hg;simp at e;omega
 exact {
  row:=(row6.set 0 _).congr fun i hi=>by
   match i with
   | 0=>rfl
   | 1=>rfl
   | 2=>rfl
   | 3=>rfl
   | 4=>rfl
   | k + 5=>simp [stoF]
  cls:=by
   have:=ownsRow_setCell_other A.own (a:=⟨sb,0,none⟩) (fun e=>vne sb e rfl) cv'
   rw [List.length_append,entsV_snoc];exact this
  map:=by
   rw [List.length_append]
   refine ((hm1.kept m6).kept (Below.heap_setCell _ _ _ _ h.far_sb.1)).congr fun s hs=>?_
   exact (look_snoc es e hn s).symm
  wat:=fun k hk=>by
   refine ownsRow_setCell_other (owns_block (h.wat k hk) fun g hg=>f6 g ((h.wat k hk).lt g hg).2 (fun e=>?_) (fun cur hx=>?_)) (fun e=>h.far_sb.2.2 k hk sb e rfl) _
   ·rcases (h.wat k hk).2 with ⟨e2,_⟩ | ⟨g',cap',cur,e2,_,hg',_⟩
    ·rw [e2] at hg;cases hg
    ·rw [e2] at hg;cases hg;exact h.map.not_cells (by rw [← e];exact hg')
   ·rcases (h.wat k hk).2 with ⟨e2,_⟩ | ⟨g',cap',cur,e2,_,hg',_⟩
    ·rw [e2] at hg;cases hg
    ·rw [e2] at hg;cases hg;simp only at hx;rw [hx] at hg';cases hg'
  apart:=h.apart
  bsb:=h.bsb
  bmb:=h.bmb }
theorem Sto.headE {w1 w6:World} {ob:Obj} {cv':Value} {e:Ent} (h:Sto B sb w cv mb gone u wv es wl) (hg1:w.grownBy w1 (some mb))
  (A:Appended (w1.alloc ob) B 180 5 cv es.length (entsV es) 1 (entV e) cv' w6):w6.cell? ⟨sb,0,none⟩=some cv∧w6.frozen? ⟨sb,0,none⟩=false:=by
 have hs1:=hg1.size
 have hslt:=h.row.lt
 have b6:w6.heap[sb]? = w.heap[sb]? := by
  rw [A.grew.block sb (by simp;omega) (fun e=>h.far_sb.2.1 sb e.symm rfl),Below.heap_alloc w1 ob sb (by omega)]
  exact hg1.block sb hslt (fun e=>h.far_sb.1 (Option.some.inj e).symm)
 have:=h.row.of_block b6
 exact ⟨this.cell (by omega),this.frozen 0⟩
theorem Sto.belowE {w0 w1 w6:World} {ob:Obj} {cv':Value} {e:Ent} (h:Sto B sb w cv mb gone u wv es wl) (hg1:w.grownBy w1 (some mb))
  (A:Appended (w1.alloc ob) B 180 5 cv es.length (entsV es) 1 (entV e) cv' w6) (hb:Below B w0 w) (x:Value):Below B w0 (w6.setCell ⟨sb,0,none⟩ x):=by
 have h1:=h.bsize
 have h2:=hg1.size
 exact (((hb.grown hg1 h1 (fun k hk=>by cases hk;exact h.bmb)).alloc (by omega) ob).grown A.grew (by simp;omega) (fun k hk=>(h.cls.lt k hk).1)).setCell h.bsb _
def Foreign (w:World) (k:Nat):Prop:=∃ cur t,w.heap[k]? = some (.cells cur t (0,0))∧t ≠ 134∧t ≠ 180∧t ≠ 3
def Keeps (w w':World):Prop:=∀ k,Foreign w k→w'.heap[k]? = w.heap[k]?
theorem Foreign.lt {w:World} {k:Nat} (h:Foreign w k):k < w.heap.size:=by
 obtain ⟨c,t,e,_⟩:=h
 exact (Array.getElem?_eq_some_iff.1 e).1
theorem Keeps.refl (w:World):Keeps w w:=fun _ _=>rfl
theorem Keeps.trans {a b c:World} (h:Keeps a b) (k:Keeps b c):Keeps a c:=fun n hn=>by
 have e:=h n hn
 rw [k n (by obtain ⟨x,t,e1,e2⟩:=hn;exact ⟨x,t,by rw [e];exact e1,e2⟩),e]
theorem Keeps.of_below {w w':World} (h:Below w.heap.size w w'):Keeps w w':=fun k hk=>h.block k hk.lt
theorem Keeps.cell {w w':World} (h:Keeps w w') {b j:Nat} (hb:Foreign w b):w'.cell? ⟨b,j,none⟩=w.cell? ⟨b,j,none⟩:=World.cell?_of_block (a:=⟨b,j,none⟩) (h b hb)
theorem Keeps.foreign {w w':World} (h:Keeps w w') {b:Nat} (hb:Foreign w b):Foreign w' b:=by
 have e:=h b hb
 obtain ⟨x,t,e1,e2⟩:=hb
 exact ⟨x,t,by rw [e];exact e1,e2⟩
theorem Sto.keeps_sb (h:Sto B sb w cv mb gone u wv es wl) (j:Nat) (x:Value):Keeps w (w.setCell ⟨sb,j,none⟩ x):=fun k hk=>Below.heap_setCell _ _ _ _ (fun e=>by
 obtain ⟨c,hr,_⟩:=h.row
 obtain ⟨y,t,e1,e2,_⟩:=hk
 rw [e,hr] at e1;cases e1;exact e2 rfl)
theorem Sto.keeps_cb {cb n cap:Nat} (h:Sto B sb w (.slice (some ⟨cb,0,none⟩) n cap) mb gone u wv es wl) (j:Nat) (x:Value):Keeps w (w.setCell ⟨cb,j,none⟩ x):=fun k hk=>Below.heap_setCell _ _ _ _ (fun e=>by
 obtain ⟨y,t,e1,_,e3,_⟩:=hk
 rcases h.cls.2 with ⟨e2,_⟩ | ⟨g',cap',cur,e2,_,hg',_⟩
 ·cases e2
 ·cases e2;rw [e,hg'] at e1;cases e1;exact e3 rfl)
theorem Sto.keeps_app {w6:World} {ob:Obj} {v':Value} {p at':Nat} (h:Sto B sb w cv mb gone u wv es wl) (hp:p < 128) (A:Appended (w.alloc ob) B 3 1 (wv p) (wl p).length (natsV (wl p)) 1 [.int .i64 (at':Int)] v' w6) (x:Value) (j:Nat):
  Keeps w (w6.setCell ⟨sb,j,none⟩ x):=fun k hk=>by
 have hlt:=hk.lt
 obtain ⟨c,hr,_⟩:=h.row
 have nsb:k ≠ sb:=fun e=>by obtain ⟨y,t,e1,e2,_⟩:=hk;rw [e,hr] at e1;cases e1;exact e2 rfl
 rw [Below.heap_setCell _ _ _ _ nsb,A.grew.block k (by simp;omega) (fun e=>?_),Below.heap_alloc w ob k hlt]
 obtain ⟨y,t,e1,_,_,e4⟩:=hk
 rcases (h.wat p hp).2 with ⟨e2,_⟩ | ⟨g',cap',cur,e2,_,hg',_⟩
 ·rw [e2] at e;cases e
 ·rw [e2] at e;cases e;rw [hg'] at e1;cases e1;exact e4 rfl
theorem Sto.keepsE {w1 w6:World} {ob:Obj} {cv':Value} {e:Ent} (h:Sto B sb w cv mb gone u wv es wl) (hg1:w.grownBy w1 (some mb))
  (A:Appended (w1.alloc ob) B 180 5 cv es.length (entsV es) 1 (entV e) cv' w6) (x:Value):Keeps w (w6.setCell ⟨sb,0,none⟩ x):=fun k hk=>by
 have hlt:=hk.lt
 have hs1:=hg1.size
 obtain ⟨c,hr,_⟩:=h.row
 have nsb:k ≠ sb:=fun e=>by obtain ⟨y,t,e1,e2,_⟩:=hk;rw [e,hr] at e1;cases e1;exact e2 rfl
 have nmb:k ≠ mb:=fun e=>by obtain ⟨y,t,e1,_⟩:=hk;rw [e] at e1;exact h.map.not_cells e1
 rw [Below.heap_setCell _ _ _ _ nsb,A.grew.block k (by simp;omega) (fun e=>?_),Below.heap_alloc w1 ob k (by omega),hg1.block k hlt (fun e=>nmb (Option.some.inj e))]
 obtain ⟨y,t,e1,_,e3,_⟩:=hk
 rcases h.cls.2 with ⟨e2,_⟩ | ⟨g',cap',cur,e2,_,hg',_⟩
 ·rw [e2] at e;cases e
 ·rw [e2] at e;cases e;rw [hg'] at e1;cases e1;exact e3 rfl
theorem foreign_new (w:World) (c:Array Value) (t:TypeId) (h:t ≠ 134∧t ≠ 180∧t ≠ 3):Foreign (w.alloc (.cells c t)) w.heap.size:=⟨c,t,heap_alloc_new _ _,h⟩
theorem Sto.keeps_cb2 {cb n cap:Nat} (h:Sto B sb w (.slice (some ⟨cb,0,none⟩) n cap) mb gone u wv es wl) (j j':Nat) (x y:Value):Keeps w ((w.setCell ⟨cb,j,none⟩ x).setCell ⟨cb,j',none⟩ y):=fun k hk=>by
 have ne:k ≠ cb:=fun e=>by
  obtain ⟨y,t,e1,_,e3,_⟩:=hk
  rcases h.cls.2 with ⟨e2,_⟩ | ⟨g',cap',cur,e2,_,hg',_⟩
  ·cases e2
  ·cases e2;rw [e,hg'] at e1;cases e1;exact e3 rfl
 rw [Below.heap_setCell _ _ _ _ ne,Below.heap_setCell _ _ _ _ ne]
def KeepE (cv cv':Value) (w w':World):Prop:=∀ k cur,w.heap[k]? = some (.cells cur 180 (0,0))→cv.ownBlock ≠ some k→w'.heap[k]? = w.heap[k]? ∧ cv'.ownBlock ≠ some k
theorem KeepE.trans {c1 c2 c3:Value} {a b c:World} (h:KeepE c1 c2 a b) (k:KeepE c2 c3 b c):KeepE c1 c3 a c:=fun n cur hn ho=>by
 obtain ⟨e1,e2⟩:=h n cur hn ho
 obtain ⟨e3,e4⟩:=k n cur (by rw [e1];exact hn) e2
 exact ⟨e3.trans e1,e4⟩
theorem KeepE.of_below {cv:Value} {w w':World} (h:Below w.heap.size w w'):KeepE cv cv w w':=fun k cur hk ho=>⟨h.block k (Array.getElem?_eq_some_iff.1 hk).1,ho⟩
theorem Sto.keepE_cb2 {cb n cap:Nat} (h:Sto B sb w (.slice (some ⟨cb,0,none⟩) n cap) mb gone u wv es wl) (j j':Nat) (x y:Value):KeepE (.slice (some ⟨cb,0,none⟩) n cap) (.slice (some ⟨cb,0,none⟩) n cap) w ((w.setCell ⟨cb,j,none⟩ x).setCell ⟨cb,j',none⟩ y):=fun k cur hk ho=>by
 have ne:k ≠ cb:=fun e=>ho (by rw [e];rfl)
 rw [Below.heap_setCell _ _ _ _ ne,Below.heap_setCell _ _ _ _ ne]
 exact ⟨rfl,ho⟩
theorem Sto.keepE_app {w6:World} {ob:Obj} {v':Value} {p at':Nat} (h:Sto B sb w cv mb gone u wv es wl) (hp:p < 128) (A:Appended (w.alloc ob) B 3 1 (wv p) (wl p).length (natsV (wl p)) 1 [.int .i64 (at':Int)] v' w6) (x:Value) (j:Nat):
  KeepE cv cv w (w6.setCell ⟨sb,j,none⟩ x):=fun k cur hk ho=>by
 have hlt:=(Array.getElem?_eq_some_iff.1 hk).1
 obtain ⟨c,hr,_⟩:=h.row
 have nsb:k ≠ sb:=fun e=>by rw [e,hr] at hk;cases hk
 refine ⟨?_,ho⟩
 rw [Below.heap_setCell _ _ _ _ nsb,A.grew.block k (by simp;omega) (fun e=>?_),Below.heap_alloc w ob k hlt]
 rcases (h.wat p hp).2 with ⟨e2,_⟩ | ⟨g',cap',cur,e2,_,hg',_⟩
 ·rw [e2] at e;cases e
 ·rw [e2] at e;cases e;rw [hg'] at hk;cases hk
theorem Sto.keepE_E {w1 w6:World} {ob:Obj} {cv':Value} {e:Ent} (h:Sto B sb w cv mb gone u wv es wl) (hg1:w.grownBy w1 (some mb))
  (A:Appended (w1.alloc ob) B 180 5 cv es.length (entsV es) 1 (entV e) cv' w6) (x:Value):KeepE cv cv' w (w6.setCell ⟨sb,0,none⟩ x):=fun k cur hk ho=>by
 have hlt:=(Array.getElem?_eq_some_iff.1 hk).1
 have hs1:=hg1.size
 obtain ⟨c,hr,_⟩:=h.row
 have nsb:k ≠ sb:=fun e=>by rw [e,hr] at hk;cases hk
 have nmb:k ≠ mb:=fun e=>by rw [e] at hk;exact h.map.not_cells hk
 refine ⟨?_,fun e=>?_⟩
 ·rw [Below.heap_setCell _ _ _ _ nsb,A.grew.block k (by simp;omega) (fun e=>ho (by first | exact e | exact e.symm)),Below.heap_alloc w1 ob k (by omega),hg1.block k hlt (fun e=>nmb (Option.some.inj e))]
 ·rcases A.at' with e2 | e2
  ·rw [e2] at e;exact ho e
  ·rw [e2] at e
   have:=Option.some.inj e
   simp at this;omega
end Rd
end Go.Proofs.YtceahffmenbibaaGreatDoor
namespace Go.Proofs.YtceahffmenbibaaGreatDoor
namespace Rd
def StableE (es:List Ent) (M:Int→Prop):Prop:=∀ e ∈ es,0 < e.times→(∃ l,e.set.has l=true∧M l)∨∃ a b,a ≠ b∧e.set.has a=true∧e.set.has b=true∧¬ M (-a)∧¬ M (-b)
def sigs (es:List Ent):List (Key × Nat):=es.map fun e=>(e.set,e.times)
def HasP (k:Key) (M:Int→Prop):Prop:=∀ l,k.has l=true→M l
theorem stableE_sigs {es es':List Ent} (h:sigs es'=sigs es) {M:Int→Prop}:StableE es M↔StableE es' M:=by
 have key:∀ (a b:List Ent),sigs a=sigs b→StableE a M→StableE b M:=fun a b hab ha e he ht=>by
  have hm:(e.set,e.times) ∈ sigs a:=by rw [hab];exact List.mem_map.2 ⟨e,he,rfl⟩
  obtain ⟨e',he',heq⟩:=List.mem_map.1 hm
  simp only [Prod.mk.injEq] at heq
  have:=ha e' he' (by rw [heq.2];exact ht)
  rw [heq.1] at this;exact this
 exact ⟨key es es' h.symm,key es' es h⟩
theorem sigs_get {es es':List Ent} (h:sigs es'=sigs es) {j:Nat} (hj:j < es.length) (hj':j < es'.length):(es'[j]).set=(es[j]).set∧(es'[j]).times=(es[j]).times:=by
 have h1:(sigs es')[j]? = (sigs es)[j]? := by rw [h]
 unfold sigs at h1
 rw [List.getElem?_map,List.getElem?_map,List.getElem?_eq_getElem hj,List.getElem?_eq_getElem hj'] at h1
 simpa using h1
theorem sigs_len {es es':List Ent} (h:sigs es'=sigs es):es'.length=es.length:=by
 have:=congrArg List.length h;simpa [sigs] using this
def NoClash (k:Key):Prop:=∀ l,k.has l=true→k.has (-l)=false
theorem clashB_no {k:Key}:clashB k=false↔NoClash k:=by
 rw [← Bool.not_eq_true,clashB_iff]
 constructor
 ·intro h l hl
  cases e:k.has (-l) with
  | false=>rfl
  | true=>exact absurd ⟨l,hl,e⟩ h
 ·rintro h ⟨l,h1,h2⟩
  rw [h l h1] at h2;cases h2
theorem noClash_cons {k:Key} (h:NoClash k):Cons (fun l=>k.has l=true):=fun l h1 h2=>by
 have h2':k.has (-l)=true:=h2
 rw [h l h1] at h2';cases h2'
structure FalsPost (es es':List Ent) (lit:Int) (down forced:Key) (conflict:Bool):Prop where
 same:sigs es'=sigs es
 old:∀ j (h:j < es.length) (h':j < es'.length) l,(es'[j]).watched.has l=true→(es[j]).watched.has l=true∨down.has (-l)=false
 sound:∀ M,Cons M→HasP down M→StableE es M→HasP forced M∧conflict=false
 kept:conflict=false→∀ j (h':j < es'.length),0 < (es'[j]).times→(es'[j]).watched.has lit=true→∃ l,(es'[j]).set.has l=true∧(down.un forced).has l=true
 cons:NoClash down→NoClash (down.un forced)
 fresh:∀ l,forced.has l=true→down.has l=false
 fok:forced.ok
def WTwo (es:List Ent):Prop:=∀ j (h:j < es.length),2 ≤ (es[j]).set.size→∃ a b,a ≠ b∧(es[j]).set.has a=true∧(es[j]).set.has b=true∧(es[j]).watched.has a=true∧(es[j]).watched.has b=true
def Rest (es:List Ent) (D:Key):Prop:=∀ j (h:j < es.length),0 < (es[j]).times→2 ≤ (es[j]).set.size→(∃ l,(es[j]).set.has l=true∧D.has l=true)∨∀ l,(es[j]).watched.has l=true→D.has (-l)=false
theorem rest_empty (es:List Ent):Rest es (0,0):=fun j h _ _=>.inr fun l _=>has_empty _
structure Spr (es0:List Ent) (base:Key) (es:List Ent) (down pending:Key):Prop where
 same:sigs es=sigs es0
 sub:∀ l,pending.has l=true→down.has l=true
 inc:∀ l,base.has l=true→down.has l=true
 under:∀ M,Cons M→HasP base M→StableE es0 M→HasP down M
 watch:∀ j (h:j < es.length),0 < (es[j]).times→2 ≤ (es[j]).set.size→(∃ l,(es[j]).set.has l=true∧down.has l=true)∨∀ l,(es[j]).watched.has l=true→down.has (-l)=true→pending.has (-l)=true
 nocl:NoClash down
 dok:down.ok
 pok:pending.ok
theorem Spr.start {es:List Ent} {down0 laid:Key} (hr:Rest es down0) (hd:down0.ok) (hl:laid.ok) (hc:NoClash (down0.un laid)):Spr es (down0.un laid) es (down0.un laid) (laid.wo down0) where
 same:=rfl
 sub:=fun l h=>by rw [has_wo,Bool.and_eq_true] at h;rw [has_un,h.1,Bool.or_true]
 inc:=fun l h=>h
 under:=fun M _ h _=>h
 watch:=fun j h ht hs=>by
  rcases hr j h ht hs with ⟨l,h1,h2⟩ | h1
  ·exact .inl ⟨l,h1,by rw [has_un,h2];rfl⟩
  ·refine .inr fun l hl hd=>?_
   rw [has_un,h1 l hl,Bool.false_or] at hd
   rw [has_wo,hd,h1 l hl];rfl
 nocl:=hc
 dok:=un_ok hd hl
 pok:=wo_ok hl _
theorem Spr.step {es0 es es':List Ent} {base down pending forced:Key} {p:Int} (h:Spr es0 base es down pending) (hp:pending.has p=true) (hp0:p ≠ 0) (F:FalsPost es es' (-p) down forced false):
  Spr es0 base es' (down.un forced) ((pending.wo (single p)).un forced) where
 same:=F.same.trans h.same
 sub:=fun l hl=>by
  rw [has_un,Bool.or_eq_true] at hl
  rw [has_un,Bool.or_eq_true]
  rcases hl with hl | hl
  ·rw [has_wo,Bool.and_eq_true] at hl;exact .inl (h.sub l hl.1)
  ·exact .inr hl
 inc:=fun l hl=>by rw [has_un,h.inc l hl];rfl
 under:=fun M hM hb hs l hl=>by
  rw [has_un,Bool.or_eq_true] at hl
  have hd:=h.under M hM hb hs
  rcases hl with hl | hl
  ·exact hd l hl
  ·exact (F.sound M hM hd ((stableE_sigs h.same.symm).2 hs |> fun x=>x)).1 l hl
 watch:=fun j hj ht hs=>by
  have hj0:j < es.length:=by rw [← sigs_len F.same];exact hj
  obtain ⟨e1,e2⟩:=sigs_get F.same hj0 hj
  by_cases hm:∃ l,(es'[j]).set.has l=true∧(down.un forced).has l=true
  ·exact .inl hm
  ·refine .inr fun l hl hd=>?_
   rw [has_un,Bool.or_eq_true] at hd ⊢
   rcases hd with hd | hd
   ·
    left
    rcases F.old j hj0 hj l hl with ho | ho
    ·rcases h.watch j hj0 (by rw [← e2];exact ht) (by rw [← e1];exact hs) with ⟨x,x1,x2⟩ | hw
     ·exact absurd ⟨x,by rw [e1];exact x1,by rw [has_un,x2];rfl⟩ hm
     ·have hpd:=hw l ho hd
      rw [has_wo,hpd,has_single hp0]
      have:¬ (-l=p):=fun e=>by
       have e':l=-p:=by omega
       rw [e'] at hl
       exact hm (F.kept rfl j hj ht hl)
      simp [this]
    ·rw [ho] at hd;cases hd
   ·exact .inr hd
 nocl:=F.cons h.nocl
 dok:=un_ok h.dok F.fok
 pok:=un_ok (wo_ok h.pok _) F.fok
theorem rest_step {es es':List Ent} {D down forced:Key} {lit:Int} {b:Bool} (hr:Rest es D) (hD:∀ l,D.has l=true→down.has l=true) (F:FalsPost es es' lit down forced b):Rest es' D:=fun j hj ht hs=>by
 have hj0:j < es.length:=by rw [← sigs_len F.same];exact hj
 obtain ⟨e1,e2⟩:=sigs_get F.same hj0 hj
 rcases hr j hj0 (by rw [← e2];exact ht) (by rw [← e1];exact hs) with ⟨l,h1,h2⟩ | hw
 ·exact .inl ⟨l,by rw [e1];exact h1,h2⟩
 ·refine .inr fun l hl=>?_
  rcases F.old j hj0 hj l hl with ho | ho
  ·exact hw l ho
  ·cases e:D.has (-l) with
   | false=>rfl
   | true=>rw [hD _ e] at ho;cases ho
theorem Spr.conflict {es0 es es':List Ent} {base down pending forced:Key} {lit:Int} (h:Spr es0 base es down pending) (F:FalsPost es es' lit down forced true):∀ M,Cons M→HasP base M→¬ StableE es0 M:=fun M hM hb hs=>by
 have:=(F.sound M hM (h.under M hM hb hs) ((stableE_sigs h.same.symm).2 hs |> fun x=>x)).2
 cases this
theorem Spr.finish {es0 es:List Ent} {base down:Key} (h:Spr es0 base es down (0,0)) (hw:WTwo es) (hok:∀ e ∈ es,e.set.ok) (hu:∀ e ∈ es,0 < e.times→e.set.size=1→∃ l,e.set.has l=true∧down.has l=true) (h0:∀ e ∈ es,0 < e.times→e.set.size ≠ 0):StableE es0 (fun l=>down.has l=true):=by
 refine (stableE_sigs h.same).2 fun e he ht=>?_
 obtain ⟨j,hj,rfl⟩:=List.mem_iff_getElem.1 he
 rcases Nat.lt_or_ge (es[j]).set.size 2 with h2 | h2
 ·have key:∀ n:Nat,n < 2→n ≠ 0→n=1:=fun n a b=>by omega
  exact .inl (hu _ he ht (key _ h2 (h0 _ he ht)))
 ·rcases h.watch j hj ht h2 with hm | hn
  ·exact .inl hm
  ·obtain ⟨a,b,hab,ha,hb,wa,wb⟩:=hw j hj h2
   refine .inr ⟨a,b,hab,ha,hb,fun hd=>?_,fun hd=>?_⟩
   ·have:=hn a wa hd;rw [has_empty] at this;cases this
   ·have:=hn b wb hd;rw [has_empty] at this;cases this
structure Rep (es:List Ent) (L:List Cl):Prop where
 ofE:∀ e ∈ es,0 < e.times→∃ c ∈ L,setOf c=e.set
 from':∀ c ∈ L,∃ e ∈ es,0 < e.times∧e.set=setOf c
 lits:∀ c ∈ L,∀ l ∈ c,In50 l
theorem Rep.has {es:List Ent} {L:List Cl} (h:Rep es L) {c:Cl} (hc:c ∈ L) (l:Int):(setOf c).has l=true↔l ∈ c:=by
 rw [has_setOf (fun x hx=>in50_ne (h.lits c hc x hx))];simp
theorem Rep.stable {es:List Ent} {L:List Cl} (h:Rep es L) (M:Int→Prop):StableE es M↔Stable L M:=by
 constructor
 ·intro hs c hc
  obtain ⟨e,he,ht,hset⟩:=h.from' c hc
  rcases hs e he ht with ⟨l,h1,h2⟩ | ⟨a,b,hab,h1,h2,h3,h4⟩
  ·rw [hset,h.has hc] at h1;exact .inl ⟨l,h1,h2⟩
  ·rw [hset,h.has hc] at h1 h2;exact .inr ⟨a,h1,b,h2,hab,h3,h4⟩
 ·intro hs e he ht
  obtain ⟨c,hc,hset⟩:=h.ofE e he ht
  rcases hs c hc with ⟨l,h1,h2⟩ | ⟨a,h1,b,h2,hab,h3,h4⟩
  ·exact .inl ⟨l,by rw [← hset,h.has hc];exact h1,h2⟩
  ·exact .inr ⟨a,b,hab,by rw [← hset,h.has hc];exact h1,by rw [← hset,h.has hc];exact h2,h3,h4⟩
theorem Rep.conf {es:List Ent} {L:List Cl} (h:Rep es L) (ls:List Int):Conf L ls↔∀ M,Cons M→(∀ l ∈ ls,M l)→¬ StableE es M:=by
 unfold Conf
 constructor
 ·intro hc M hM hl hs;exact hc M hM hl ((h.stable M).1 hs)
 ·intro hc M hM hl hs;exact hc M hM hl ((h.stable M).2 hs)
end Rd
end Go.Proofs.YtceahffmenbibaaGreatDoor
