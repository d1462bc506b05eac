/- Qlog Psm. -/
import Derived.Test.YtceahffmenbibaaGreatDoorH07
import Derived.Test.YtceahffmenbibaaGreatDoorH09
import Derived.Test.YtceahffmenbibaaGreatDoorH10
set_option linter.unusedVariables false
set_option linter.unusedSimpArgs false
namespace Go.Proofs.YtceahffmenbibaaGreatDoor
namespace Rd
def DF:List Int:=(List.range 64).map (fun (k:Nat)=>(k:Int) + 1) ++ (List.range 64).map (fun (k:Nat)=>-((k:Int) + 1))
theorem EY {l:Int} (h:dY l):l ∈ DF:=by
 unfold DF;rw [List.mem_append,List.mem_map,List.mem_map]
 rcases h with h | h
 ·exact .inl ⟨l.toNat - 1,List.mem_range.2 (by omega),by omega⟩
 ·exact .inr ⟨(-l).toNat - 1,List.mem_range.2 (by omega),by omega⟩
def KY (down pending:Key):Nat:=DF.countP (fun l=>!down.has l || pending.has l)
theorem Ta {b a forced:Key} {p:Int} (c:dY p) (f:a.has p=true) (hd:b.has p=true) (g:∀ l,forced.has l=true->b.has l=false):
  KY (b.un forced) ((a.wo (single p)).un forced) < KY b a:=by
 unfold KY;refine Ca (fun x _ d=>?_) ⟨p,EY c,by rw [f,Bool.or_true],?_⟩
 ·simp only [dL,kK,Bool.or_eq_true,Bool.not_eq_true',Bool.and_eq_true,Bool.or_eq_false_iff] at d ⊢
  rcases d with h | h | h
  ·exact .inl h.1
  ·exact .inr h.1
  ·exact .inl (g x h)
 ·have e:forced.has p=false:=by
   cases e:forced.has p with
   | false=>rfl
   | true=>rw [g p e] at hd;cases hd
  simp only [dL,kK,f,hd,e,dh (dD c)];simp
structure gH (es es':List dN) (dG laid d:Key) (c:Bool):Prop where
 same:sigs es'=sigs es
 rest:∀ D,(∀ l,D.has l=true->(dG.un laid).has l=true)->Rest es D->Rest es' D
 conf:c=true->∀ M,Cons M->xu (dG.un laid) M->¬ iL es M
 Et:c=false->Nu es (dG.un laid) es' d (0,0)
theorem gH.clash {es:List dN} {a b d:Key} (h:oO (a.un b)=true):gH es es a b d true where
 same:=rfl
 rest:=fun D _ h=>h
 conf:=fun _ M e c i=>by
  obtain ⟨l,g,f⟩:=(zy _).1 h;exact e l (c l g) (c _ f)
 Et:=fun h=>by cases h
structure pI (es0 es:List dN) (wl:Nat->List Nat) (dG laid down pending:Key):Prop where
 Et:Nu es0 (dG.un laid) es down pending
 gT:fJ es wl
 rest:∀ D,(∀ l,D.has l=true->(dG.un laid).has l=true)->Rest es0 D->Rest es D
theorem pI.start {es:List dN} {wl:Nat->List Nat} {a b:Key} (c:Rest es a) (f:fJ es wl) (hd:a.ok) (d:b.ok) (e:oO (a.un b)=false):pI es es wl a b (a.un b) (b.wo a):=
 ⟨Nu.start c hd d (Nf.1 e),f,fun D _ h=>h⟩
theorem pI.step {e es es':List dN} {wl mr:Nat->List Nat} {b d c a forced:Key} {p:Int} (h:pI e es wl b d c a) (j:a.has p=true) (f:p ≠ 0) (F:iE es es' (-p) c forced false) (m:fJ es' mr):
  pI e es' mr b d (c.un forced) ((a.wo (single p)).un forced):=
 ⟨h.Et.step j f F,m,fun D g i=>rest_step (h.rest D g i) (fun l k=>h.Et.inc l (g l k)) F⟩
theorem pI.zq {f es es':List dN} {wl:Nat->List Nat} {b c e a forced d:Key} {lit:Int} (h:pI f es wl b c e a) (F:iE es es' lit e forced true):
  gH f es' b c d true where
 same:=F.same.trans h.Et.same
 rest:=fun D g i=>rest_step (h.rest D g i) (fun l j=>h.Et.inc l (g l j)) F
 conf:=fun _=>h.Et.conflict F
 Et:=fun h=>by cases h
theorem pI.done {d es:List dN} {wl:Nat->List Nat} {a b c:Key} (h:pI d es wl a b c (0,0)):gH d es a b c false where
 same:=h.Et.same
 rest:=h.rest
 conf:=fun h=>by cases h
 Et:=fun _=>h.Et
structure wN (es:List dN) (u:Key):Prop where
 ok:u.ok
 iff:∀ l,dY l->(u.has l=true↔∃ e ∈ es,0 < e.times/\e.set=single l)
def rZ (es:List dN):Prop:=∀ e ∈ es,0 < e.times->e.set ≠ (0,0)
theorem NJ {es:List dN} {u:Key} (h:wN es u) {M:Int->Prop} (m:iL es M):xu u M:=fun l j=>by
 have g:=Key.Kn h.ok j;obtain ⟨e,n,k,c⟩:=(h.iff l g).1 j
 rcases m e n k with ⟨x,f,d⟩ | ⟨a,b,i,f,d,_,_⟩
 ·rw [c,dh (dD g)] at f;rw [of_decide_eq_true f] at d;exact d
 ·rw [c,dh (dD g)] at f d;exact absurd ((of_decide_eq_true f).trans (of_decide_eq_true d).symm) i
theorem o5 {es es':List dN} (h:sigs es'=sigs es) {e:dN} (f:e ∈ es'):∃ c ∈ es,c.set=e.set/\c.times=e.times:=by
 have d:(e.set,e.times) ∈ sigs es:=by rw [<- h];exact List.mem_map.2 ⟨e,f,rfl⟩
 obtain ⟨g,b,a⟩:=List.mem_map.1 d;simp only [Prod.mk.injEq] at a;exact ⟨g,b,a⟩
theorem gH.stable {es es':List dN} {mr:Nat->List Nat} {a b d u:Key} (P:gH es es' a b d false) (g:fJ es' mr) (r:wN es u) (q:rZ es) (p:∀ l,u.has l=true->(a.un b).has l=true):
  iL es (fun l=>d.has l=true):=by
 have S:=P.Et rfl;refine S.finish g.Yn g.ok (fun e f h i=>?_) (fun e f h i=>?_)
 ·obtain ⟨m,c,k,j⟩:=o5 P.same f;obtain ⟨l,n,o⟩:=uh (g.ok e f) i;refine ⟨l,by rw [o,dh (dD n)];simp,S.inc l (p l ((r.iff l n).2 ⟨m,c,by rw [j];exact h,by rw [k,o]⟩))⟩
 ·obtain ⟨m,c,k,j⟩:=o5 P.same f;exact q m c (by rw [j];exact h) (by rw [k];exact uW (g.ok e f) i)
theorem gH.iff {es es':List dN} {mr:Nat->List Nat} {a b d u:Key} {c:Bool} (P:gH es es' a b d c) (i:fJ es' mr) (j:wN es u) (f:rZ es) (e:∀ l,u.has l=true->(a.un b).has l=true):
  c=true↔∀ M,Cons M->xu (a.un b) M->¬ iL es M:=by
 refine ⟨P.conf,fun h=>?_⟩
 cases c with
 | true=>rfl
 | false=>
  have S:=P.Et rfl;exact absurd (P.stable i j f e) (h _ (CS S.TE) (fun l g=>S.inc l g))
theorem De {c:Cl} {a x:Int}:x ∈ ve c a↔-x ∈ c/\-x ≠ a:=by
 unfold ve;rw [List.mem_map];constructor
 ·rintro ⟨y,b,rfl⟩;rw [List.mem_filter] at b;simp only [Int.neg_neg];exact ⟨b.1,by have:=b.2;simpa using this⟩
 ·rintro ⟨e,d⟩;exact ⟨-x,List.mem_filter.2 ⟨e,by simpa using d⟩,by omega⟩
theorem BM {c:Cl} (a:∀ l ∈ c,jG l) (x:Int):(setOf c).op.has x=true↔x ∈ ve c 0:=by
 rw [Ja,has_setOf (fun l b=>rU (a l b)),decide_eq_true_eq,De];exact ⟨fun h=>⟨h,rU (a _ h)⟩,fun h=>h.1⟩
theorem Tg {es es':List dN} {mr:Nat->List Nat} {L:List Cl} {u d:Key} {b:Bool} {c:Cl} (R:UK es L) (i:∀ l ∈ c,jG l) (P:gH es es' (0,0) (u.un (setOf c).op) d b) (m:fJ es' mr) (j:wN es u) (k:rZ es):
  b=true↔jk L (ve c 0):=by
 rw [P.iff m j k (fun l e=>by rw [dL,dL,e];simp),R.conf];constructor
 ·intro h M g e f;refine h M g (fun l a=>?_) f;rw [dL,fw,Bool.false_or,dL,Bool.or_eq_true] at a
  rcases a with a | a
  ·exact NJ j f l a
  ·exact e l ((BM i l).1 a)
 ·intro h M g a f;exact h M g (fun l e=>a l (by rw [dL,dL,(BM i l).2 e];simp)) f
theorem Js {es:List dN} {L:List Cl} (R:UK es L) (h:¬ rZ es) (f:List Int):jk L f:=by
 rw [R.conf];intro M _ _ i;refine h fun e j g d=>?_
 rcases i e j g with ⟨x,c,_⟩ | ⟨a,b,_,c,_⟩
 ·rw [d,fw] at c;cases c
 ·rw [d,fw] at c;cases c
section
open Go Go.RowKit Go.Deep
section
variable {B sb mb pb:Nat} {w wr ws:World} {cv:Value} {gone:Int} {u:Key} {wv wv':Nat->Value} {es es':List dN} {wl mr:Nat->List Nat} {L D F P:Key}
theorem K5 {p:Int} (h:p ≠ 0):(single p).op=single (-p):=kH fun x=>by
 rw [Ja,dh h,dh (by omega)];apply decide_eq_decide.2;omega
def Pj (w:World) (b i:Nat):Nat:=match w.cell? ⟨b,i,none⟩ with
 | some (.int _ n)=>n.toNat
 | _=>0
def wG (w:World) (b:Nat):Key:=(Pj w b 0,Pj w b 1)
theorem rR {b:Nat} {s:Key} (h:wr.rowIs b 84 2 (gJ s)):wG wr b=s:=by
 have c:=h.cell (i:=0) (by omega);have a:=h.cell (i:=1) (by omega);unfold gJ vZ at c a;simp only [if_true,show ¬ (1=0) by decide,if_false] at c a;unfold wG Pj;rw [c,a];simp
theorem dV.Yy (h:dV B sb w L D F cv mb gone u wv es wl wr) (t:Key):dV B sb w t D F cv mb gone u wv es wl ((wr.setCell ⟨w.heap.size,0,none⟩ (.int .u64 (t.1:Int))).setCell ⟨w.heap.size,1,none⟩ (.int .u64 (t.2:Int))) where
 kR:=nI h.kR
 p9:=h.p9.of_block (dZ _ (by omega))
 mM:=h.mM.of_block (dZ _ (by omega))
 fK:=lJ h.fK h.kR dZ
 below:=(h.below.setCell (by have:=h.bw;simp;omega) _).setCell (by have:=h.bw;simp;omega) _
 keeps:=pq h.keeps (by omega)
 hs:=by have:=h.hs;simp [World.setCell];omega
 tab:=h.tab.later ((bR.setCell (by have:=h.bw;simp;omega) _).setCell (by have:=h.bw;simp;omega) _)
 bw:=h.bw
theorem dV.Xp {b:Nat} {s:Key} (h:dV B sb w L D F cv mb gone u wv es wl wr) (c:w.heap.size + 3 <= b) (a:wr.rowIs b 84 2 (gJ s)) (t:Key):dV B sb w L D F cv mb gone u wv es wl ((wr.setCell ⟨b,0,none⟩ (.int .u64 (t.1:Int))).setCell ⟨b,1,none⟩ (.int .u64 (t.2:Int))) where
 kR:=h.kR.of_block (dZ _ (by omega))
 p9:=h.p9.of_block (dZ _ (by omega))
 mM:=h.mM.of_block (dZ _ (by omega))
 fK:=lJ h.fK a dZ
 below:=(h.below.setCell (by have:=h.bw;simp;omega) _).setCell (by have:=h.bw;simp;omega) _
 keeps:=pq h.keeps (by omega)
 hs:=by have:=h.hs;simp [World.setCell];omega
 tab:=h.tab.later ((bR.setCell (by have:=h.bw;simp;omega) _).setCell (by have:=h.bw;simp;omega) _)
 bw:=h.bw
structure gZ (B sb pb:Nat) (w:World) (D L R P:Key) (cv:Value) (mb:Nat) (gone:Int) (u:Key) (wv:Nat->Value) (es:List dN) (wl:Nat->List Nat) (wr:World):Prop where
 mem:dV B sb w D L R cv mb gone u wv es wl wr
 kV:wr.rowIs pb 84 2 (gJ P)
 hpb:w.heap.size + 3 <= pb
theorem gZ.later {R:Key} (h:gZ B sb pb w D L R P cv mb gone u wv es wl wr) (a:Below wr.heap.size wr ws):gZ B sb pb w D L R P cv mb gone u wv es wl ws:=
 ⟨h.mem.later a,h.kV.of_block (a.block _ h.kV.lt),h.hpb⟩
theorem gZ.step {R:Key} (h:gZ B sb pb w D L R P cv mb gone u wv es wl wr) (S:fu B sb ws cv mb gone u wv' es' mr) (k:dm wr ws) (b:Below B wr ws):gZ B sb pb w D L R P cv mb gone u wv' es' mr ws:=
 ⟨h.mem.step S k b,h.kV.of_block (k _ (gI h.kV)),h.hpb⟩
theorem gZ.Tn {R:Key} (h:gZ B sb pb w D L R P cv mb gone u wv es wl wr) (t:Key):gZ B sb pb w t L R P cv mb gone u wv es wl ((wr.setCell ⟨w.heap.size,0,none⟩ (.int .u64 (t.1:Int))).setCell ⟨w.heap.size,1,none⟩ (.int .u64 (t.2:Int))):=
 ⟨h.mem.Yy t,h.kV.of_block (dZ _ (by have:=h.hpb;omega)),h.hpb⟩
theorem gZ.VD {R:Key} (h:gZ B sb pb w D L R P cv mb gone u wv es wl wr) (t:Key):gZ B sb pb w D L t P cv mb gone u wv es wl ((wr.setCell ⟨w.heap.size + 2,0,none⟩ (.int .u64 (t.1:Int))).setCell ⟨w.heap.size + 2,1,none⟩ (.int .u64 (t.2:Int))):=
 ⟨h.mem.OG t,h.kV.of_block (dZ _ (by have:=h.hpb;omega)),h.hpb⟩
theorem gZ.Xo {R:Key} (h:gZ B sb pb w D L R P cv mb gone u wv es wl wr) (t:Key):gZ B sb pb w D L R t cv mb gone u wv es wl ((wr.setCell ⟨pb,0,none⟩ (.int .u64 (t.1:Int))).setCell ⟨pb,1,none⟩ (.int .u64 (t.2:Int))):=
 ⟨h.mem.Xp h.hpb h.kV t,nI h.kV,h.hpb⟩
def JC (B sb pb:Nat) (w:World) (dG laid:Key) (cv:Value) (mb:Nat) (gone:Int) (u:Key) (es0:List dN) (wr:World):Prop:=
 ∃ (D P:Key) (wv:Nat->Value) (es:List dN) (wl:Nat->List Nat),Hid (gZ B sb pb w D laid (0,0) P cv mb gone u wv es wl wr)/\Hid (pI es0 es wl dG laid D P)
def ry (B sb:Nat) (w:World) (dG laid:Key) (cv:Value) (mb:Nat) (gone:Int) (u:Key) (es0:List dN) (e:Ending) (w':World):Prop:=
 ∃ (d:Key) (c:Bool) (wv:Nat->Value) (es:List dN) (wl:Nat->List Nat),e=.returned (.tuple #[dC d,.bool c])/\Below B w w'/\dm w w'/\fu B sb w' cv mb gone u wv es wl/\gH es0 es dG laid d c/\fJ es wl/\d.ok
def zR (B sb pb:Nat) (w:World) (lit:Int) (D laid P:Key) (cv:Value) (mb:Nat) (gone:Int) (u:Key) (es:List dN) (p c:Value) (wx:World):Prop:=
 ∃ (fb:Nat) (F:Key) (cf:Bool) (wv':Nat->Value) (es':List dN) (mr:Nat->List Nat),p=.pointer (some ⟨fb,0,none⟩)/\c=.bool cf/\Hid (gZ B sb pb w D laid (0,0) P cv mb gone u wv' es' mr wx/\wx.rowIs fb 84 2 (gJ F)/\w.heap.size + 3 <= fb/\fb ≠ pb/\iE es es' lit D F cf/\fJ es' mr)
theorem Jf {lit:Int} {cf:Bool} {a:Key} {b:World} (M:gZ B sb pb w D a (0,0) P cv mb gone u wv es' wl b) (d:iE es es' lit D F cf) (c:fJ es' wl):
  zR B sb pb w lit D a P cv mb gone u es (.pointer (some ⟨b.heap.size,0,none⟩)) (.bool cf) (b.alloc (.cells #[.int .u64 (F.1:Int),.int .u64 (F.2:Int)] 84)):=
 ⟨_,F,cf,wv,es',wl,rfl,rfl,M.later (bR.alloc lr _),fZ _ _ _ _,M.mem.hs,fun e=>by have:=M.kV.lt;omega,d,c⟩
theorem Je {lit:Int} {cf:Bool} {a:Key} {c:World} {b:Nat} (M:gZ B sb pb w D a (0,0) P cv mb gone u wv es' wl c) (R:c.rowIs b 84 2 (gJ (0,0))) (f:w.heap.size + 3 <= b) (d:b ≠ pb) (h:iE es es' lit D F cf) (g:fJ es' wl):
  zR B sb pb w lit D a P cv mb gone u es (.pointer (some ⟨b,0,none⟩)) (.bool cf) ((c.setCell ⟨b,0,none⟩ (.int .u64 (F.1:Int))).setCell ⟨b,1,none⟩ (.int .u64 (F.2:Int))):=
 ⟨b,F,cf,wv,es',wl,rfl,rfl,⟨M.mem.Xp f R F,M.kV.of_block (dZ _ (fun e=>d e.symm)),M.hpb⟩,nI R,f,d,h,g⟩
end
end
end Rd
end Go.Proofs.YtceahffmenbibaaGreatDoor
