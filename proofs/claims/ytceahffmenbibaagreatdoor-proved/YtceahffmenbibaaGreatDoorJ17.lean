/- Pfst Pfrd Pcpy. -/
import Derived.Test.YtceahffmenbibaaGreatDoorJ14
import Derived.Test.YtceahffmenbibaaGreatDoorJ16
import Derived.Laws.CopyOwn
set_option linter.unusedVariables false
set_option linter.unusedSimpArgs false
namespace Go.Proofs.YtceahffmenbibaaGreatDoor
namespace Rd
section
open Go Go.RowKit Go.Deep
section
variable {B sb mb:Nat} {w wr ws:World} {cv:Value} {gone:Int} {u:Key} {wv wv':Nat->Value} {es es':List dH} {wl jU:Nat->List Nat} {L D F:Key}
structure dR (B sb:Nat) (w:World) (L D F:Key) (cv:Value) (mb:Nat) (gone:Int) (u:Key) (wv:Nat->Value) (es:List dH) (wl:Nat->List Nat) (wr:World):Prop where
 kI:wr.rowIs w.heap.size 84 2 (fU L)
 pQ:wr.rowIs (w.heap.size + 1) 84 2 (fU D)
 ma:wr.rowIs (w.heap.size + 2) 84 2 (fU F)
 fA:eG B sb wr cv mb gone u wv es wl
 below:Below B w wr
 keeps:di w wr
 hs:w.heap.size + 3 <= wr.heap.size
 tab:jJ B wr
 bw:B <= w.heap.size
theorem gu {b n:Nat} {f:Nat->Value} (h:wr.rowIs b 84 n f):jK wr b:=by
 obtain ⟨c,a,_⟩:=h;exact ⟨c,_,a,by decide⟩
theorem dR.step (h:dR B sb w L D F cv mb gone u wv es wl wr) (S:eG B sb ws cv mb gone u wv' es' jU) (k:di wr ws) (b:Below B wr ws):dR B sb w L D F cv mb gone u wv' es' jU ws where
 kI:=h.kI.of_block (k _ (gu h.kI))
 pQ:=h.pQ.of_block (k _ (gu h.pQ))
 ma:=h.ma.of_block (k _ (gu h.ma))
 fA:=S
 below:=h.below.trans b
 keeps:=h.keeps.trans k
 hs:=Nat.le_trans h.hs b.size
 tab:=h.tab.later b
 bw:=h.bw
theorem dR.later (h:dR B sb w L D F cv mb gone u wv es wl wr) (a:Below wr.heap.size wr ws):dR B sb w L D F cv mb gone u wv es wl ws:=
 h.step (h.fA.later a) (di.of_below a) (a.mono h.fA.bsize)
theorem lK {b n:Nat} {f:Nat->Value} (h:eG B sb wr cv mb gone u wv es wl) (x:wr.rowIs b 84 n f) (d:∀ k,k ≠ b->ws.heap[k]? = wr.heap[k]?):eG B sb ws cv mb gone u wv es wl:=by
 obtain ⟨c,r,_⟩:=x;have p:∀ g j t,wr.heap[g]? = some (.cells j t (0,0))->t ≠ 84->g ≠ b:=fun g j t a v e=>by rw [e,r] at a;cases a;exact v rfl
 exact {
  row:=h.row.of_block (d _ (by obtain ⟨z,q,_⟩:=h.row;exact p _ _ _ q (by decide)))
  cls:=fT h.cls fun g a=>d g (by
   rcases h.cls.2 with ⟨m,_⟩ | ⟨y,o,j,m,_,l,_⟩
   ·rw [m] at a;cases a
   ·rw [m] at a;cases a;exact p _ _ _ l (by decide))
  map:=h.map.kept (d _ (fun e=>h.map.gP (by rw [e];exact r)))
  mr:=fun k s=>fT (h.mr k s) fun g a=>d g (by
   rcases (h.mr k s).2 with ⟨m,_⟩ | ⟨y,o,j,m,_,l,_⟩
   ·rw [m] at a;cases a
   ·rw [m] at a;cases a;exact p _ _ _ l (by decide))
  apart:=h.apart
  jA:=h.jA
  yR:=h.yR }
theorem mW {b:Nat} {s t:Key} (h:wr.rowIs b 84 2 (fU s)):((wr.setCell ⟨b,0,none⟩ (.int .u64 (t.1:Int))).setCell ⟨b,1,none⟩ (.int .u64 (t.2:Int))).rowIs b 84 2 (fU t):=
 ((h.set 0 _).set 1 _).congr fun i a=>by
  match i,a with
  | 0,_=>rfl
  | 1,_=>rfl
theorem dY {b:Nat} {x y:Value}:∀ k,k ≠ b->((wr.setCell ⟨b,0,none⟩ x).setCell ⟨b,1,none⟩ y).heap[k]? = wr.heap[k]? := fun k a=>by
 rw [Below.heap_setCell _ _ _ _ (by simpa using a),Below.heap_setCell _ _ _ _ (by simpa using a)]
theorem oN {b:Nat} {x y:Value} (h:di w wr) (c:w.heap.size <= b):di w ((wr.setCell ⟨b,0,none⟩ x).setCell ⟨b,1,none⟩ y):=fun k a=>by
 rw [dY k (by have:=a.lt;omega)];exact h k a
theorem dR.Mr (h:dR B sb w L D F cv mb gone u wv es wl wr) (t:Key):dR B sb w L D t cv mb gone u wv es wl ((wr.setCell ⟨w.heap.size + 2,0,none⟩ (.int .u64 (t.1:Int))).setCell ⟨w.heap.size + 2,1,none⟩ (.int .u64 (t.2:Int))) where
 kI:=h.kI.of_block (dY _ (by omega))
 pQ:=h.pQ.of_block (dY _ (by omega))
 ma:=mW h.ma
 fA:=lK h.fA h.ma dY
 below:=(h.below.setCell (by have:=h.bw;simp;omega) _).setCell (by have:=h.bw;simp;omega) _
 keeps:=oN h.keeps (by omega)
 hs:=by have:=h.hs;simp [World.setCell];omega
 tab:=h.tab.later ((bR.setCell (by have:=h.bw;simp;omega) _).setCell (by have:=h.bw;simp;omega) _)
 bw:=h.bw
theorem dR.PQ (h:dR B sb w L D F cv mb gone u wv es wl wr) (t:Key):dR B sb w L t F cv mb gone u wv es wl ((wr.setCell ⟨w.heap.size + 1,0,none⟩ (.int .u64 (t.1:Int))).setCell ⟨w.heap.size + 1,1,none⟩ (.int .u64 (t.2:Int))) where
 kI:=h.kI.of_block (dY _ (by omega))
 pQ:=mW h.pQ
 ma:=h.ma.of_block (dY _ (by omega))
 fA:=lK h.fA h.pQ dY
 below:=(h.below.setCell (by have:=h.bw;simp;omega) _).setCell (by have:=h.bw;simp;omega) _
 keeps:=oN h.keeps (by omega)
 hs:=by have:=h.hs;simp [World.setCell];omega
 tab:=h.tab.later ((bR.setCell (by have:=h.bw;simp;omega) _).setCell (by have:=h.bw;simp;omega) _)
 bw:=h.bw
structure eD (B sb:Nat) (w:World) (lit:Int) (dG:Key) (cv:Value) (mb:Nat) (gone:Int) (u:Key) (es0:List dH) (cz:List Nat) (V:Value) (i:Nat) (kl:List Nat) (F:Key) (wv:Nat->Value) (es:List dH) (wl:Nat->List Nat) (wr:World):Prop where
 mem:dR B sb w (single lit) (dG.un F) F cv mb gone u wv es (fun k=>if k=place lit then mix kl cz else wl k) wr
 hv:wv (place lit)=V
 pM:jQ es0 lit dG cz i es wl kl F
def Ir (B sb:Nat) (w:World) (lit:Int) (dG:Key) (cv:Value) (mb:Nat) (gone:Int) (u:Key) (es0:List dH) (cz:List Nat) (V:Value) (k10 i25:Value) (wr:World):Prop:=
 ∃ (i:Nat) (kl:List Nat) (F:Key) (wv:Nat->Value) (es:List dH) (wl:Nat->List Nat),k10=.int .i64 kl.length/\i25=.int .i64 i/\Hid (eD B sb w lit dG cv mb gone u es0 cz V i kl F wv es wl wr)
def oz (B sb:Nat) (w:World) (lit:Int) (dG:Key) (cv:Value) (mb:Nat) (gone:Int) (u:Key) (es0:List dH) (e:Ending) (w':World):Prop:=
 ∃ (F:Key) (c:Bool) (wv:Nat->Value) (es:List dH) (wl:Nat->List Nat),e=.returned (.tuple #[dn F,.bool c])/\Below B w w'/\di w w'/\eG B sb w' cv mb gone u wv es wl/\gZ es0 es lit dG F c/\eU es wl
theorem eD.start {lit:Int} {dG:Key} (b:dR B sb w (single lit) dG (0,0) cv mb gone u wv es wl wr) (a:eU es wl):eD B sb w lit dG cv mb gone u es (wl (place lit)) (wv (place lit)) 0 [] (0,0) wv es wl wr where
 mem:=by
  have d:(fun k=>if k=place lit then mix [] (wl (place lit)) else wl k)=wl:=by
   funext k;rw [Cn];split
   ·rename_i e;rw [e]
   ·rfl
  have c:dG.un (0,0)=dG:=kz fun x=>by rw [dE,ek,Bool.or_false]
  rw [d,c];exact b
 hv:=rfl
 pM:=jQ.start a
end
section
variable {B sb mb:Nat} {w wr ws:World} {cv V:Value} {gone:Int} {u:Key} {wv wv':Nat->Value} {es0 es es':List dH} {wl jU:Nat->List Nat} {L D F F' dG:Key} {lit:Int} {cz kl:List Nat} {i:Nat}
theorem xN:∀ (n:Nat) (l:List Nat),l.Nodup->(∀ x ∈ l,x < n)->l.length <= n
 | 0,l,_,h=>by
  cases l with
  | nil=>exact lr
  | cons a r=>exact absurd (h a (List.mem_cons_self ..)) (Nat.not_lt_zero _)
 | n + 1,l,hd,h=>by
  have d:=xN n (l.erase n) (hd.erase n) (fun x b=>by
   have:=h x (List.mem_of_mem_erase b);have:x ≠ n:=fun e=>by subst e;exact hd.not_mem_erase b
   omega)
  by_cases c:n ∈ l
  ·rw [List.length_erase_of_mem c] at d;omega
  ·rw [List.erase_of_not_mem c] at d;omega
theorem eU.len (h:eU es wl) {k:Nat} (a:k < 128):(wl k).length <= es.length:=xN _ _ (h.nodup k a) fun x b=>(h.lists k a x b).1
theorem eD.keep {d n cap:Nat} (b:dR B sb w (single lit) (dG.un F) F cv mb gone u wv es (fun k=>if k=place lit then mix kl cz else wl k) ws) (hv:wv (place lit)=.slice (some ⟨d,0,none⟩) n cap) (c:dV lit) (j:i < cz.length) (h:kl.length <= i)
  (g:jQ es0 lit dG cz (i + 1) es wl (kl ++ [cz[i]]) F):eD B sb w lit dG cv mb gone u es0 cz (.slice (some ⟨d,0,none⟩) n cap) (i + 1) (kl ++ [cz[i]]) F wv es wl (ws.setCell ⟨d,kl.length,none⟩ (.int .i64 (cz[i]:Nat))) where
 mem:=by
  have S:=b.fA.Vu (i:=kl.length) (a:=cz[i]) (gz c) hv;have e:(fun k=>if k=place lit then ((fun k=>if k=place lit then mix kl cz else wl k) (place lit)).set kl.length cz[i] else (fun k=>if k=place lit then mix kl cz else wl k) k)=fun k=>if k=place lit then mix (kl ++ [cz[i]]) cz else wl k:=by
   funext k
   by_cases e:k=place lit
   ·simp only [e,if_true];exact Cm (by omega)
   ·simp only [e,if_false]
  rw [e] at S;obtain ⟨_,_,f,_⟩:=b.fA.Ut (gz c) hv;exact b.step S (b.fA.TC (gz c) hv _ _) (bR.setCell f _)
 hv:=hv
 pM:=g
theorem eD.over {j:Nat} {c:Int} {a:Key} (f:dR B sb w (single lit) (dG.un F) F cv mb gone u wv' (eO (eO es j a) j (a.un (single c))) (fun k=>if k=place c then (if place c=place lit then mix kl cz else wl (place c)) ++ [j] else if k=place lit then mix kl cz else wl k) ws)
  (hv:wv' (place lit)=V) (g:dV lit) (h:dV c) (d:c ≠ lit)
  (l:jQ es0 lit dG cz (i + 1) (eO es j (a.un (single c))) (fun k=>if k=place c then wl k ++ [j] else wl k) kl F):
  eD B sb w lit dG cv mb gone u es0 cz V (i + 1) kl F wv' (eO es j (a.un (single c))) (fun k=>if k=place c then wl k ++ [j] else wl k) ws where
 mem:=by
  have b:place c ≠ place lit:=fun e=>d (jS h g e)
  have e:(fun k=>if k=place c then (if place c=place lit then mix kl cz else wl (place c)) ++ [j] else if k=place lit then mix kl cz else wl k)=fun k=>if k=place lit then mix kl cz else if k=place c then wl k ++ [j] else wl k:=by
   funext k
   by_cases e:k=place c
   ·simp only [e,if_true,b,if_false]
   ·simp only [e,if_false]
  rw [Du,e] at f;exact f
 hv:=hv
 pM:=l
theorem eD.out {a:Option Addr} {n cap:Nat} (h:eD B sb w lit dG cv mb gone u es0 cz (.slice a n cap) cz.length kl F wv es wl wr) (b:dV lit):
  oz B sb w lit dG cv mb gone u es0 (.returned (.tuple #[dn F,.bool false])) (wr.setCell ⟨sb,5 + place lit,none⟩ (.slice a kl.length cap))/\dR B sb w (single lit) (dG.un F) F cv mb gone u (fun k=>if k=place lit then .slice a kl.length cap else wv k) es (fun k=>if k=place lit then kl else wl k) (wr.setCell ⟨sb,5 + place lit,none⟩ (.slice a kl.length cap)):=by
 have S:=h.mem.fA.U0 (k0:=kl.length) (gz b) h.hv (by simp [mix]);have e:(fun k=>if k=place lit then ((fun k=>if k=place lit then mix kl cz else wl k) (place lit)).take kl.length else (fun k=>if k=place lit then mix kl cz else wl k) k)=fun k=>if k=place lit then kl else wl k:=by
  funext k
  by_cases e:k=place lit
  ·simp only [e,if_true];exact qI
  ·simp only [e,if_false]
 rw [e] at S;have M:=h.mem.step S (h.mem.fA.qL _ _) (bR.setCell h.mem.fA.jA _);obtain ⟨d,c⟩:=h.pM.done b;exact ⟨⟨F,false,_,es,_,rfl,M.below,M.keeps,M.fA,d,c⟩,M⟩
theorem dR.yK {b n cap:Nat} (a:dR B sb w (single lit) (dG.un F) F cv mb gone u wv es (fun k=>if k=place lit then kl ++ cz.drop i ++ cz.drop (kl.length + (cz.length - i)) else wl k) ws) (f:wv (place lit)=.slice (some ⟨b,0,none⟩) n cap) (c:dV lit)
  (d:eU es (fun k=>if k=place lit then kl ++ cz.drop i else wl k)) (g:gZ es0 es lit dG F true):
  oz B sb w lit dG cv mb gone u es0 (.returned (.tuple #[dn F,.bool true])) (ws.setCell ⟨sb,5 + place lit,none⟩ (.slice (some ⟨b,0,none⟩) (kl.length + (cz.length - i)) cap))/\dR B sb w (single lit) (dG.un F) F cv mb gone u (fun k=>if k=place lit then .slice (some ⟨b,0,none⟩) (kl.length + (cz.length - i)) cap else wv k) es (fun k=>if k=place lit then kl ++ cz.drop i else wl k) (ws.setCell ⟨sb,5 + place lit,none⟩ (.slice (some ⟨b,0,none⟩) (kl.length + (cz.length - i)) cap)):=by
 have S:=a.fA.U0 (k0:=kl.length + (cz.length - i)) (gz c) f (by simp);have e:(fun k=>if k=place lit then ((fun k=>if k=place lit then kl ++ cz.drop i ++ cz.drop (kl.length + (cz.length - i)) else wl k) (place lit)).take (kl.length + (cz.length - i)) else (fun k=>if k=place lit then kl ++ cz.drop i ++ cz.drop (kl.length + (cz.length - i)) else wl k) k)=fun k=>if k=place lit then kl ++ cz.drop i else wl k:=by
  funext k
  by_cases e:k=place lit
  ·simp only [e,if_true];rw [List.take_append_of_le_length (by simp),List.take_of_length_le (by simp)]
  ·simp only [e,if_false]
 rw [e] at S;have M:=a.step S (a.fA.qL _ _) (bR.setCell a.fA.jA _);exact ⟨⟨F,true,_,es,_,rfl,M.below,M.keeps,M.fA,g,d⟩,M⟩
end
section
theorem jB {P:Program} {n:Array Oper} {o:Oper} {a:Act} {w:World} {K:Act->World->Prop} {Q:Exit->Act->World->Prop} {E:Prop} (z:o.guard=none) (d s:Operand) (C H:TypeId)
  (O:o.op=.call { callee:=.builtin .copy,args:=#[d,s],argTypes:=#[C,H] }) (elem:TypeId) (M:P.underlying C=some (.slice elem)) (y:(P.info? elem).map (·.size)=some 1)
  (g off:Nat) (G:Addr) (c m b l:Nat) (hd:a.eval d=.slice (some ⟨g,off,none⟩) c m) (N:a.eval s=.slice (some G) b l)
  (f:Array Value) (t:TypeId) (I:w.heap[g]? = some (.cells f t (0,0))) (cs:List Value) (R:cs.length=Nat.min b c)
  (p:∀ j v,cs[j]? = some v->w.cell? (G.add j)=some v) (r:off + cs.length <= f.size) (T:∀ v ∈ cs,v.oneCell'=true) (B:Nat) (A:B <= g)
  (h:∀ x,Hid (x.heap[g]? = some (.cells (splice f.toList off cs).toArray t (0,0)))->Hid (∀ k,k ≠ g->x.heap[k]? = w.heap[k]?)->Hid (Below B w x)->K (a.put o.dst (goInt cs.length)) x):
  if Region.wanted o (yielded n a.tmps)=true then Oper.wp P o a w K Q else E:=by
 have J:Region.wanted o (yielded n a.tmps)=true:=by simp [Region.wanted,z]
 rw [if_pos J];have q:=run_copy_row (P:=P) w C H o.type elem g off c m G b l f t cs M y I R p r T;unfold Oper.wp;simp [execOp,O,resolve,invoke,builtin,hd,N,q,Result.andThen]
 exact h _ (show _=_ by simpa [splice] using setRow_heap w g _ _ t _ I) (fun k S=>setRow_other w g k _ (fun e=>S (by first | exact e | exact e.symm))) (below_setRow bR A _)
theorem qC {kl cz:List Nat} {i:Nat} {a:List Value} (g:kl.length <= i) (h:i <= cz.length) (c:a.take cz.length=fq (mix kl cz)):
  (splice a kl.length (fq (cz.drop i))).take cz.length=fq (kl ++ cz.drop i ++ cz.drop (kl.length + (cz.length - i))):=by
 have b:(fq (cz.drop i)).length=cz.length - i:=by rw [gQ];simp
 have d:cz.length <= a.length:=by
  have:=congrArg List.length c;rw [gQ,fO (by omega),List.length_take] at this;omega
 have f:a.take kl.length=fq kl:=by
  have:a.take kl.length=(a.take cz.length).take kl.length:=by rw [List.take_take];congr 1;omega
  rw [this,c,<- xU,qI]
 have e:(a.drop (kl.length + (cz.length - i))).take (cz.length - (kl.length + (cz.length - i)))=fq (cz.drop (kl.length + (cz.length - i))):=by
  have:(a.drop (kl.length + (cz.length - i))).take (cz.length - (kl.length + (cz.length - i)))=(a.take cz.length).drop (kl.length + (cz.length - i)):=by rw [List.drop_take]
  rw [this,c];unfold fq mix;rw [<- List.map_drop,List.drop_append,List.drop_of_length_le (by omega),List.nil_append,List.drop_drop]
  congr 2;omega
 unfold splice;rw [b,f,<- List.append_assoc,List.take_append,List.take_of_length_le (by rw [List.length_append,gQ,b];omega),List.length_append,gQ,b,e];unfold fq;rw [List.map_append,List.map_append]
variable {B sb mb:Nat} {w wr ws:World} {cv V:Value} {gone:Int} {u:Key} {wv wv':Nat->Value} {es0 es es':List dH} {wl jU:Nat->List Nat} {L D F F' dG:Key} {lit:Int} {cz kl:List Nat} {i:Nat}
theorem dR.copied {h n cap:Nat} {b:Array Value} (r:dR B sb w L D F cv mb gone u wv es (fun k=>if k=place lit then mix kl cz else wl k) wr) (o:wv (place lit)=.slice (some ⟨h,0,none⟩) n cap) (s:dV lit) (p:kl.length <= i) (I:i <= cz.length)
  (x:wr.heap[h]? = some (.cells b 3 (0,0))) (M:ws.heap[h]? = some (.cells (splice b.toList kl.length (fq (cz.drop i))).toArray 3 (0,0))) (v:∀ k,k ≠ h->ws.heap[k]? = wr.heap[k]?) (J:Below B wr ws):
  dR B sb w L D F cv mb gone u wv es (fun k=>if k=place lit then kl ++ cz.drop i ++ cz.drop (kl.length + (cz.length - i)) else wl k) ws:=by
 have m:=r.fA.mr (place lit) (gz s);simp only [if_true] at m;have a:(kl ++ cz.drop i ++ cz.drop (kl.length + (cz.length - i))).length=cz.length:=by simp;omega
 have own:ws.ownsRow B 3 1 (wv (place lit)) (kl ++ cz.drop i ++ cz.drop (kl.length + (cz.length - i))).length (fq (kl ++ cz.drop i ++ cz.drop (kl.length + (cz.length - i)))):=by
  rw [fO (by omega)] at m;rw [a];refine ⟨by rw [gQ,a];omega,?_⟩
  rcases m.2 with ⟨e,_⟩ | ⟨g,l,j,e,q,f,G,H,E,d⟩
  ·rw [o] at e;cases e
  ·have y:=e;rw [o] at y;obtain ⟨C,O,N⟩:=Value.slice.inj y;have A:g=h:=by have:=Option.some.inj C;exact (congrArg Addr.block this).symm
   subst A;rw [x] at f;have z:b=j:=by cases f;rfl
   subst z;simp only [Nat.mul_one] at E d ⊢;refine .inr ⟨g,l,_,e,q,M,G,H,?_,?_⟩
   ·have:(fq (cz.drop i)).length=cz.length - i:=by rw [gQ];simp
    simp only [List.size_toArray];rw [length_splice _ _ _ (by rw [this];simp;omega)];simp;omega
   ·simp only [Nat.mul_one];exact qC p I d
 have S:=r.fA.Ja (gz s) o own v;have e:(fun k=>if k=place lit then kl ++ cz.drop i ++ cz.drop (kl.length + (cz.length - i)) else (fun k=>if k=place lit then mix kl cz else wl k) k)=fun k=>if k=place lit then kl ++ cz.drop i ++ cz.drop (kl.length + (cz.length - i)) else wl k:=by
  funext k
  by_cases e:k=place lit
  ·simp only [e,if_true]
  ·simp only [e,if_false]
 rw [e] at S;refine r.step S (fun k p=>v k (fun e=>?_)) J;obtain ⟨c,t,d,_,_,K⟩:=p;rw [e,x] at d;cases d;exact K rfl
theorem yI {kl cz:List Nat} {i a cap B:Nat} {w:World} (e:w.ownsRow B 3 1 (.slice (some ⟨a,0,none⟩) cz.length cap) cz.length (fq (mix kl cz))) (g:kl.length <= i):
  ∀ j v,(fq (cz.drop i))[j]? = some v->w.cell? (Addr.add ⟨a,i,none⟩ j)=some v:=fun x v c=>by
 have b:x < (fq (cz.drop i)).length:=by
  rcases Nat.lt_or_ge x (fq (cz.drop i)).length with h | h
  ·exact h
  ·rw [List.getElem?_eq_none h] at c;cases c
 rw [gQ,List.length_drop] at b;have d:=e.cellAt (i + x) (by omega);have f:Addr.add ⟨a,i,none⟩ x=⟨a,i + x,none⟩:=by simp [Addr.add]
 rw [f,d,<- c];unfold fq mix;rw [List.getElem?_map,List.getElem?_map,List.getElem?_append_right (by omega),List.getElem?_drop,List.getElem?_drop]
 congr 2;omega
theorem Ob {h:List Value} {n c cap B:Nat} {w:World} {b:Array Value} (m:w.ownsRow B 3 1 (.slice (some ⟨c,0,none⟩) n cap) n h) (l:w.heap[c]? = some (.cells b 3 (0,0))):n <= b.size:=by
 rcases m.2 with ⟨e,_⟩ | ⟨g,f,d,e,_,a,k,_,j,_⟩
 ·cases e
 ·cases e
  rw [l] at a;cases a;omega
theorem xS (b:List Nat):∀ v ∈ fq b,v.oneCell'=true:=fun v a=>by
 unfold fq at a;obtain ⟨x,_,rfl⟩:=List.mem_map.1 a;rfl
end
end
end Rd
end Go.Proofs.YtceahffmenbibaaGreatDoor
