/- Scpy Slrn Sfls. -/
import Derived.Test.YtceahffmenbibaaGreatDoorJ05
import Derived.Laws.CopyOwn
import Derived.Test.YtceahffmenbibaaGreatDoorJ04
set_option linter.unusedVariables false
set_option linter.unusedSimpArgs false
namespace Go.Proofs.YtceahffmenbibaaGreatDoor
namespace So
section
open Go Go.RowKit Go.Deep Rd
section
def mix (kl cz:List Nat):List Nat:=kl ++ cz.drop kl.length
theorem Cn (cz:List Nat):mix [] cz=cz:=rfl
theorem fO {kl cz:List Nat} (h:kl.length <= cz.length):(mix kl cz).length=cz.length:=by unfold mix;simp;omega
theorem GV {kl cz:List Nat} {i:Nat} (h:kl.length <= i) (b:i < cz.length) (a:i < (mix kl cz).length):(mix kl cz)[i]=cz[i]:=by
 simp only [mix];rw [List.getElem_append_right h,List.getElem_drop]
 congr 1;omega
theorem Cm {kl cz:List Nat} {a:Nat} (h:kl.length < cz.length):(mix kl cz).set kl.length a=mix (kl ++ [a]) cz:=by
 unfold mix;rw [List.set_append_right _ _ lr,Nat.sub_self,List.drop_eq_getElem_cons h,List.set_cons_zero];simp
theorem qI {kl cz:List Nat}:(mix kl cz).take kl.length=kl:=by unfold mix;simp
theorem jB {P:Program} {r:Array Oper} {o:Oper} {a:Act} {w:World} {K:Act->World->Prop} {Q:Exit->Act->World->Prop} {E:Prop} (A:o.guard=none) (d s:Operand) (F H:TypeId)
  (N:o.op=.call { callee:=.builtin .copy,args:=#[d,s],argTypes:=#[F,H] }) (elem:TypeId) (L:P.underlying F=some (.slice elem)) (z:(P.info? elem).map (·.size)=some 1)
  (g off:Nat) (G:Addr) (c q b m:Nat) (hd:a.eval d=.slice (some ⟨g,off,none⟩) c q) (M:a.eval s=.slice (some G) b m)
  (l:Array Value) (t:TypeId) (I:w.heap[g]? = some (.cells l t (0,0))) (cs:List Value) (O:cs.length=Nat.min b c)
  (u:∀ j v,cs[j]? = some v->w.cell? (G.add j)=some v) (y:off + cs.length <= l.size) (S:∀ v ∈ cs,v.oneCell'=true) (B:Nat) (D:B <= g)
  (h:∀ w',Hid (w'.heap[g]? = some (.cells (splice l.toList off cs).toArray t (0,0)))->Hid (∀ k,k ≠ g->w'.heap[k]? = w.heap[k]?)->Hid (Below B w w')->K (a.put o.dst (goInt cs.length)) w'):
  if Region.wanted o (yielded r a.tmps)=true then Oper.wp P o a w K Q else E:=by
 have J:Region.wanted o (yielded r a.tmps)=true:=by simp [Region.wanted,A]
 rw [if_pos J];have x:=run_copy_row (P:=P) w F H o.type elem g off c q G b m l t cs L z I O u y S;unfold Oper.wp;simp [execOp,N,resolve,invoke,builtin,hd,M,x,Result.andThen]
 exact h _ (show _=_ by simpa [splice] using setRow_heap w g _ _ t _ I) (fun k R=>setRow_other w g k _ (fun e=>R (by first | exact e | exact e.symm))) (below_setRow bR D _)
theorem GU (l:List Nat) (k:Nat):dC (l.take k)=(dC l).take k:=(oH l k).symm
theorem qC {kl cz:List Nat} {i:Nat} {a:List Value} (h:kl.length <= i) (j:i <= cz.length) (c:a.take cz.length=dC (mix kl cz)):
  (splice a kl.length (dC (cz.drop i))).take cz.length=dC (kl ++ cz.drop i ++ cz.drop (kl.length + (cz.length - i))):=by
 have b:(dC (cz.drop i)).length=cz.length - i:=by rw [dh];simp
 have d:cz.length <= a.length:=by
  have:=congrArg List.length c;rw [dh,fO (by omega),List.length_take] at this;omega
 have g:a.take kl.length=dC kl:=by
  have:a.take kl.length=(a.take cz.length).take kl.length:=by rw [List.take_take];congr 1;omega
  rw [this,c,<- GU,qI]
 have e:(a.drop (kl.length + (cz.length - i))).take (cz.length - (kl.length + (cz.length - i)))=dC (cz.drop (kl.length + (cz.length - i))):=by
  have:(a.drop (kl.length + (cz.length - i))).take (cz.length - (kl.length + (cz.length - i)))=(a.take cz.length).drop (kl.length + (cz.length - i)):=by rw [List.drop_take]
  rw [this,c];unfold dC mix;rw [<- List.map_drop,List.drop_append,List.drop_of_length_le (by omega),List.nil_append,List.drop_drop]
  congr 2;omega
 unfold splice;rw [b,g,<- List.append_assoc,List.take_append,List.take_of_length_le (by rw [List.length_append,dh,b];omega),List.length_append,dh,b,e];unfold dC;rw [List.map_append,List.map_append]
theorem yI {kl cz:List Nat} {i a cap B:Nat} {w:World} (e:w.ownsRow B 3 1 (.slice (some ⟨a,0,none⟩) cz.length cap) cz.length (dC (mix kl cz))) (k:kl.length <= i):
  ∀ j v,(dC (cz.drop i))[j]? = some v->w.cell? (Addr.add ⟨a,i,none⟩ j)=some v:=fun x v c=>by
 have b:x < (dC (cz.drop i)).length:=by
  rcases Nat.lt_or_ge x (dC (cz.drop i)).length with h | h
  ·exact h
  ·rw [List.getElem?_eq_none h] at c;cases c
 rw [dh,List.length_drop] at b;have d:=e.cellAt (i + x) (by omega);have g:Addr.add ⟨a,i,none⟩ x=⟨a,i + x,none⟩:=by simp [Addr.add]
 rw [g,d,<- c];unfold dC mix;rw [List.getElem?_map,List.getElem?_map,List.getElem?_append_right (by omega),List.getElem?_drop,List.getElem?_drop]
 congr 2;omega
theorem xS (b:List Nat):∀ v ∈ dC b,v.oneCell'=true:=fun v a=>by
 unfold dC at a;obtain ⟨x,_,rfl⟩:=List.mem_map.1 a;rfl
variable {Z:Nat->Prop} {sb K:Nat} {w w':World} {f V:Nat->Value} {X:Nat->List Value}
theorem dX.CE (h:dX Z sb w K f V X) {k:Nat} (q:k < K) {b m cap:Nat} (d:V k=.slice (some ⟨b,0,none⟩) m cap) {R:List Value} (own:w'.ownsRow 0 (ni k) 1 (V k) R.length R) (l:∀ j,j ≠ b->w'.heap[j]? = w.heap[j]?) (s:Below 0 w w'):dX Z sb w' K f V (upd X k R)/\dD Z w w':=by
 have o:b ≠ sb:=h.far q b (by rw [d];rfl);refine ⟨⟨h.row.of_block (l sb (fun e=>o e.symm)),⟨fun i r=>?_,h.fG.apart⟩,h.hdr,h.jA,h.al,fun g a=>h.az g (Nat.le_trans s.size a),h.hK⟩,s,fun g a t=>l g (fun e=>t (e ▸ h.al k q b (by rw [d];rfl)))⟩;by_cases e:i=k
 ·subst e;rw [cK];exact own
 ·rw [cu _ _ e];refine ownB (h.fG.own i r) fun g a=>l g fun u=>?_
  rcases h.fG.apart i k r q e with c | c
  ·rw [a] at c;cases c
  ·exact c (by rw [a,d,u];rfl)
theorem dX.copied (h:dX Z sb w K f V X) {x d cap i:Nat} {kl cz:List Nat} {b:Array Value} (r:16 + x < K) (o:V (16 + x)=.slice (some ⟨d,0,none⟩) cz.length cap) (I:X (16 + x)=dC (mix kl cz)) (E:kl.length <= i) (F:i <= cz.length)
  (G:w.heap[d]? = some (.cells b 3 (0,0))) (J:w'.heap[d]? = some (.cells (splice b.toList kl.length (dC (cz.drop i))).toArray 3 (0,0))) (A:∀ k,k ≠ d->w'.heap[k]? = w.heap[k]?) (H:Below 0 w w'):
  dX Z sb w' K f V (upd X (16 + x) (dC (kl ++ cz.drop i ++ cz.drop (kl.length + (cz.length - i)))))/\dD Z w w':=by
 have m:=h.fG.own (16 + x) r;have a:(kl ++ cz.drop i ++ cz.drop (kl.length + (cz.length - i))).length=cz.length:=by simp;omega
 refine h.CE r o ?_ A H;rw [wN] at m ⊢;rw [I,dh,fO (by omega)] at m;rw [dh,a];refine ⟨by rw [dh,a];omega,?_⟩
 rcases m.2 with ⟨e,_⟩ | ⟨g,l,j,e,q,c,B,D,z,s⟩
 ·rw [o] at e;cases e
 ·have t:=e;rw [o] at t;obtain ⟨y,M,L⟩:=Value.slice.inj t;have v:g=d:=by have:=Option.some.inj y;exact (congrArg Addr.block this).symm
  subst v;rw [G] at c;have u:b=j:=by cases c;rfl
  subst u;simp only [Nat.mul_one] at z s ⊢;refine .inr ⟨g,l,_,e,q,J,B,D,?_,?_⟩
  ·have:(dC (cz.drop i)).length=cz.length - i:=by rw [dh];simp
   simp only [List.size_toArray];rw [length_splice _ _ _ (by rw [this];simp;omega)];simp;omega
  ·simp only [Nat.mul_one];exact qC E F s
theorem xy (l:List Value) (o:Nat):splice l o []=l:=by unfold splice;simp
end
end
section
variable {n:Nat} {tr ch:List Nat} {lev:Nat->Nat} {C:jy} {dB:Nat->Int} {wl:Nat->List Nat} {P:Nat}
structure PI (n:Nat) (C:jy) (tr ch:List Nat) (lev:Nat->Nat) (dB:Nat->Int) (wl:Nat->List Nat) (P:Nat):Prop where
 dN:jm n tr ch lev
 qg:rZ C tr ch dB
 oC:Dr n C
 qj:wQ n C wl
 zn:sO C tr lev P
theorem jm.low (h:jm n tr ch lev) {d:Nat} (hd:d < ch.length) {x:Nat} (a:x ∈ tr) (g:lev (x / 2) <= d):x ∈ tr.take ch[d]:=by
 obtain ⟨j,b,e⟩:=List.mem_iff_getElem.1 a;have c:=h.lev j b;rw [e] at c;have k:=(cnt_lt h.gY hd (i:=j)).1 (by omega);exact List.mem_iff_getElem.2 ⟨j,by rw [List.length_take];omega,by rw [List.getElem_take];exact e⟩
theorem jm.Qk (h:jm n tr ch lev) {d:Nat} (hd:d < ch.length) {x:Nat} (a:x ∈ tr.take ch[d]):lev (x / 2) <= d:=by
 obtain ⟨j,b,e⟩:=List.mem_iff_getElem.1 a;rw [List.length_take] at b;rw [List.getElem_take] at e;have c:=h.lev j (by omega);rw [e] at c;have:=(cnt_lt h.gY hd (i:=j)).2 (by omega);omega
theorem wR.back (h:wR C tr lev) (b:jm n tr ch lev) {d:Nat} (hd:d < ch.length):wR C (tr.take ch[d]) lev:=fun a c j g e=>by
 obtain ⟨x,g1,g2,k⟩:=h a c j g e;exact ⟨x,g1,b.low hd g2 (by omega),k⟩
theorem wR.assign (h:wR C tr lev) {x v:Nat} (b:tv tr x=0):wR C (tr ++ [x]) (eu lev (x / 2) v):=fun a c g e d=>by
 obtain ⟨y,g1,g2,j⟩:=h a c g e d;exact ⟨y,g1,List.mem_append_left _ g2,by rw [dm _ _ (lV b g2)];exact j⟩
theorem wR.new {a:Nat} {c:zi} (h:wR C tr lev) (l:c.kind ≠ 2->c.lits.length < 2->∃ x,c.lits=[x]/\x ∈ tr/\lev (x / 2)=0):wR (jZ C a c) tr lev:=fun b d g k j=>by
 by_cases e:b=a
 ·subst e;rw [dP] at g;cases g;exact l k j
 ·rw [dJ _ _ e] at g;exact h b d g k j
theorem wR.same {j:jy} (h:wR C tr lev) (o:OG C j):wR j tr lev:=fun b d e r q=>by
 rcases o b with ⟨_,g⟩ | ⟨c,t,g1,g2,s,a⟩
 ·rw [e] at g;cases g
 ·rw [e] at g2;cases g2
  obtain ⟨x,m,l,k⟩:=h b c g1 (by rw [<- s];exact r) (by rw [<- a.length_eq];exact q);refine ⟨x,?_,l,k⟩;rw [m] at a;exact List.perm_singleton.1 a
structure Ju (tr ch:List Nat) (lev:Nat->Nat) (x:Nat) (ks:List Nat) (d:Nat):Prop where
 hx:op x ∈ tr/\lev (x / 2)=ch.length
 hks:∀ y ∈ ks,op y ∈ tr/\lev (y / 2) < ch.length/\lev (y / 2) <= d
 nd:(ks.map (· / 2)).Nodup
 dl:d < ch.length
 hd:(ks=[]/\d=0)\/∃ q r,ks=q :: r/\lev (q / 2)=d
theorem Ju.open {x d:Nat} {c:List Nat} (h:Ju tr ch lev x c d) (b:jm n tr ch lev):tv (tr.take (ch[d]'h.dl)) x=0:=by
 refine sU.2 ⟨fun a=>b.mR (List.mem_of_mem_take a) h.hx.1,fun a=>?_⟩;have:=b.Qk h.dl a;rw [gq,h.hx.2] at this;have:=h.dl;omega
theorem Ju.vars {x d:Nat} {a:List Nat} (h:Ju tr ch lev x a d):((x :: a).map (· / 2)).Nodup:=by
 rw [List.map_cons,List.nodup_cons];refine ⟨fun c=>?_,h.nd⟩;obtain ⟨y,b,e⟩:=List.mem_map.1 c;have e:y / 2=x / 2:=e;have:=(h.hks y b).2.1;rw [e,h.hx.2] at this;omega
theorem Ju.lt {x d:Nat} {b:List Nat} (h:Ju tr ch lev x b d) (c:jm n tr ch lev):∀ y ∈ x :: b,y < 2 * n:=fun y a=>by
 have:op y ∈ tr:=by
  rcases List.mem_cons.1 a with rfl | a
  ·exact h.hx.1
  ·exact (h.hks y a).1
 have:=vP (c.lt _ this)
 rwa [jT] at this
theorem PI.learn {x d a:Nat} {g:List Nat} (h:PI n C tr ch lev dB wl P) (b:Ju tr ch lev x g d) (N:∀ p ∈ ch,p <= P) (s:C a=none) (jU:Nat->List Nat)
  (J:∀ q r,g=q :: r->jU x=wl x ++ [a]/\jU q=wl q ++ [a]/\∀ y,y ≠ x->y ≠ q->jU y=wl y) (o:g=[]->jU=wl):
  PI n (jZ C a ⟨1,x :: g⟩) (tr.take (ch[d]'b.dl) ++ [x]) (ch.take d) (eu lev (x / 2) d) (eu dB (x / 2) (a:Nat)) jU (ch[d]'b.dl):=by
 have hd:=b.dl;have F:=h.dN.back hd;have l:=b.open h.dN;have m:x < 2 * n:=b.lt h.dN x (List.mem_cons_self ..);have j:(ch.take d).length=d:=by rw [List.length_take];omega
 have M:ch[d] < tr.length:=h.dN.gY.2 _ (List.getElem_mem hd);have G:(tr.take ch[d]).length=ch[d]:=by rw [List.length_take];omega
 have u:∀ y ∈ g,op y ∈ tr.take ch[d]:=fun y k=>h.dN.low hd (b.hks y k).1 (by rw [gq];exact (b.hks y k).2.2)
 have D:=F.assign m l;rw [j] at D;have E:∀ y ∈ g,y / 2 ≠ x / 2:=fun y k e=>by
  have:=(b.hks y k).2.1;rw [e,b.hx.2] at this;omega
 exact {
  dN:=D
  qg:=by
   have:=(h.qg.back h.dN hd).new (c:=⟨1,x :: g⟩) s;exact this.assign F l (dP ..) (show (1:Nat) ≠ 2 by decide) rfl u
  oC:=h.oC.new b.vars (b.lt h.dN)
  qj:=by
   match e:g with
   | []=>rw [o rfl];exact h.qj.Qh s (by simp)
   | q :: r=>
    obtain ⟨g1,g2,O⟩:=J q r rfl;refine h.qj.UM s (show (1:Nat) ≠ 2 by decide) (p:=x) (q:=q) (r:=r) rfl (fun A=>E q (by simp) (by rw [A])) g1 g2 O
  zn:=by
   have I:=h.zn.back h.dN hd (N _ (List.getElem_mem hd));have H:=I.assign (x:=x) (v:=d) (by rw [G];exact lr) l;refine H.new fun p q r _ e=>?_
   obtain ⟨rfl,rfl⟩:=List.cons.inj e
   rcases b.hd with ⟨B,_⟩ | ⟨R,Q,B,A⟩
   ·cases B
   ·obtain ⟨rfl,rfl⟩:=List.cons.inj B;refine ⟨fun i L t z=>?_,fun i L t z=>?_⟩
    ·rw [List.getElem_append_left (by omega)] at z;exact absurd (z ▸ List.getElem_mem _) (sU.1 l).2
    ·refine ⟨by simp,?_⟩;rw [dx,dm _ _ (E q (by simp)),A];exact lr }
theorem wR.learn {x d a:Nat} {c:List Nat} (h:wR C tr lev) (j:jm n tr ch lev) (b:Ju tr ch lev x c d):wR (jZ C a ⟨1,x :: c⟩) (tr.take (ch[d]'b.dl) ++ [x]) (eu lev (x / 2) d):=
 ((h.back j b.dl).assign (b.open j)).new fun _ k=>by
  match e:c with
  | q :: r=>simp at k;omega
  | []=>
   rcases b.hd with ⟨_,g⟩ | ⟨m,l,g,_⟩
   ·exact ⟨x,rfl,by simp,by rw [dx];exact g⟩
   ·cases g
theorem El {L:List Rd.Cl} (hL:∀ a c,C a=some c->c.kind ≠ 2->There L c.lits) (l:jm n tr ch lev) (m:rZ C tr ch dB) (o:0 < ch.length) {B:List Nat} (A:There L B) (H:∀ y ∈ B,op y ∈ tr) {i:Nat} {s:Lk} (h:wU tr ch lev (iU C dB) ch[ch.length - 1] B (i + 1) s) (x:i < tr.length) (F:s.seen (tr[i] / 2)=true) (G:s.opn=1)
  {fol:Nat->Bool} (t:Oz tr (iU C dB) s.seen ch[ch.length - 1] fol) {g:List Nat} {d:Nat} (hks:g.Perm (s.iR.filter fun y=>!dS (iU C dB) fol (y / 2))) (v:∀ y ∈ g,lev (y / 2) <= d) (hd:(g=[]/\d=0)\/∃ q r,g=q :: r/\lev (q / 2)=d):
  Ju tr ch lev (op tr[i]) g d/\Dq L ((op tr[i] :: g).map wr):=by
 have D:∀ y ∈ g,y ∈ s.iR:=fun y b=>(List.mem_filter.1 (hks.mem_iff.1 b)).1
 have k:ch[ch.length - 1] <= i:=by
  obtain ⟨j,O,N⟩:=h.more;omega
 have u:lev (tr[i] / 2)=ch.length:=(tZ l o x).2 k;refine ⟨{
  hx:=by rw [jT,gq];exact ⟨List.getElem_mem x,u⟩
  hks:=fun y b=>by
   obtain ⟨g1,g2,I⟩:=h.tail l (D y b);exact ⟨g1,I,v y b⟩
  nd:=by
   have:(s.iR.filter fun y=>!dS (iU C dB) fol (y / 2)).map (· / 2) |>.Nodup:=h.lk.nd.sublist (List.filter_sublist.map _);exact (hks.map _).nodup_iff.2 this
  dl:=by
   rcases hd with ⟨_,e⟩ | ⟨q,r,J,Q⟩
   ·omega
   ·have:=(h.tail l (D q (by rw [J];simp))).2.2;omega
  hd:=hd },?_⟩
 have T:=m.trail l hL;have M:=(Km T l m o h x F G t).conf T A H;refine zw M fun y b=>?_
 rcases List.mem_cons.1 b with rfl | b
 ·exact List.mem_cons_self ..
 ·obtain ⟨z,E,rfl⟩:=List.mem_map.1 b;rw [jT];exact List.mem_cons_of_mem _ (hks.mem_iff.2 E)
theorem jm.len (h:jm n tr ch lev):tr.length <= n:=by
 have:=iP n (tr.map (· / 2)) h.nodup (fun v b=>by
  obtain ⟨x,a,rfl⟩:=List.mem_map.1 b;have:=h.lt x a;omega)
 simpa using this
theorem jm.depth (h:jm n tr ch lev):ch.length <= n:=by
 have nd:ch.Nodup:=h.gY.1.imp (fun h=>by omega);have:=iP tr.length ch nd h.gY.2;have:=h.len;omega
end
section
open Go Go.RowKit Go.Deep Rd
section
def iA (cs cs':List Rec):Prop:=cs'.length=cs.length/\∀ k (h:k < cs.length) (h':k < cs'.length),(cs'[k]).kind=(cs[k]).kind/\(cs'[k]).busy=(cs[k]).busy/\(cs'[k]).lits.Perm (cs[k]).lits
theorem iA.refl (cs:List Rec):iA cs cs:=⟨rfl,fun k _ _=>⟨rfl,rfl,.refl _⟩⟩
theorem iA.trans {a b c:List Rec} (h:iA a b) (g:iA b c):iA a c:=⟨g.1.trans h.1,fun k e s=>by
 have d:k < b.length:=by rw [h.1];exact e
 obtain ⟨r,q,o⟩:=h.2 k e d;obtain ⟨m,l,j⟩:=g.2 k d s;exact ⟨m.trans r,l.trans q,j.trans o⟩⟩
theorem iA.set {cs:List Rec} {k:Nat} (g:k < cs.length) {c:Rec} (d:c.kind=(cs[k]).kind) (b:c.busy=(cs[k]).busy) (a:c.lits.Perm (cs[k]).lits):iA cs (cs.set k c):=⟨by simp,fun j h l=>by
 by_cases e:k=j
 ·subst e;simp only [List.getElem_set_self];exact ⟨d,b,a⟩
 ·rw [List.getElem_set_ne e];exact ⟨rfl,rfl,.refl _⟩⟩
theorem iA.dU {cs cs':List Rec} (h:iA cs cs'):∀ k,k <= cs.length->dU cs' k=dU cs k
 | 0,_=>by rw [uq,uq]
 | k + 1,hk=>by
  have a:k < cs'.length:=by rw [h.1];exact hk
  rw [oZ a,oZ (show k < cs.length from hk),h.dU k (by omega),(h.2 k hk a).2.2.length_eq]
theorem iA.len {cs cs':List Rec} (h:iA cs cs'):(enc cs').length=(enc cs).length:=by
 rw [<- lG lr,<- lG (cs:=cs) lr,h.1];exact h.dU _ lr
theorem iA.same {cs cs':List Rec} (h:iA cs cs'):OG (mapOf cs) (mapOf cs'):=fun a=>by
 cases j:mapOf cs a with
 | none=>
  refine .inl ⟨rfl,?_⟩
  cases q:mapOf cs' a with
  | none=>rfl
  | some d=>
   obtain ⟨k,e,g,_⟩:=fD q;have b:k < cs.length:=by rw [<- h.1];exact e
   rw [h.dU k (Nat.le_of_lt b)] at g;rw [g,eP b] at j;cases j
 | some c=>
  obtain ⟨k,e,g,o⟩:=fD j;have b:k < cs'.length:=by rw [h.1];exact e
  have:=eP b;rw [h.dU k (Nat.le_of_lt e),<- g] at this;obtain ⟨m,_,l⟩:=h.2 k e b;subst o;exact .inr ⟨_,_,rfl,this,m,l⟩
theorem Dc.perm {L:List Cl}:∀ {cs cs':List Rec},iA cs cs'->Dc L (xW cs)->Dc L (xW cs'):=by
 have j:∀ (cs cs':List Rec),iA cs cs'->∀ e,(xW cs').countP (fun y=>iw (y.map wr) e)=(xW cs).countP (fun y=>iw (y.map wr) e):=by
  intro cs
  induction cs with
  | nil=>intro cs' h e;have:cs'=[]:=List.eq_nil_of_length_eq_zero (by rw [h.1];rfl);subst this;rfl
  | cons c r ih=>
   intro cs' h e
   match cs',h with
   | [],h=>have:=h.1;simp at this
   | c' :: r',h=>
    obtain ⟨b,_,l⟩:=h.2 0 (by simp) (by simp);simp only [List.getElem_cons_zero] at b l;have o:iA r r':=⟨by have:=h.1;simpa using this,fun k u t=>by
     have:=h.2 (k + 1) (by simpa using u) (by simpa using t);simpa using this⟩
    have:=ih r' o e;have m:∀ (d:Rec) (s:List Rec),xW (d :: s)=xW [d] ++ xW s:=fun d s=>by unfold xW;rw [<- List.map_append,<- List.filter_append];rfl
    rw [m c',m c,List.countP_append,List.countP_append,this]
    congr 1
    unfold xW;by_cases g:c.kind=2
    ·simp [b,g]
    ·simp only [List.filter_cons,List.filter_nil,b,g,ne_eq,not_false_eq_true,decide_true,if_true,List.map_cons,List.map_nil,List.countP_cons,List.countP_nil];rw [qF (a:=c'.lits.map wr) (a':=c.lits.map wr) (fun x=>(l.map wr).mem_iff) e]
 intro cs cs' h q;exact q.congr fun e=>Nat.le_of_eq (j cs cs' h e)
theorem Nc {cs:List Rec} {a:Nat} {c:zi} (h:mapOf cs a=some c):a < (enc cs).length:=by
 obtain ⟨k,b,d,_⟩:=fD h;have:=kH b;omega
theorem wQ.len {n:Nat} {cs:List Rec} {W:Nat->List Nat} (h:wQ n (mapOf cs) W) {x:Nat} (b:x < 2 * n):(W x).length <= (enc cs).length:=
 iP _ _ (h.nodup x b) fun a d=>by
  obtain ⟨c,⟨e,_,_⟩,_⟩:=h.lists x b a d;exact Nc e
variable {n lit p i:Nat} {ch cz kl tr:List Nat} {C:jy} {lev:Nat->Nat} {dB:Nat->Int} {wl:Nat->List Nat}
theorem JV {a:Nat} {c:zi} (h:C a=some c):jZ C a c=C:=by
 funext b
 by_cases e:b=a
 ·subst e;rw [dP,h]
 ·rw [dJ _ _ e]
theorem FI.second (h:FI n lit p ch cz i C tr lev dB wl kl) (d:i < cz.length) {c:zi} (a:C cz[i]=some c) {q:Nat} {r:List Nat} (b:c.lits=lit :: q :: r\/c.lits=q :: lit :: r):FI n lit p ch cz i (jZ C cz[i] ⟨c.kind,q :: lit :: r⟩) tr lev dB wl kl:=by
 rcases b with e | e
 ·exact h.swap d a e
 ·have:jZ C cz[i] ⟨c.kind,q :: lit :: r⟩=C:=JV (by rw [a,<- e]);rw [this];exact h
structure eD (Z:Nat->Prop) (sb:Nat) (w:World) (K:Nat) (f:Nat->Value) (X:Nat->List Value) (n lit p:Nat) (ch cz:List Nat) (VL:Value) (cs:List Rec) (lJ:List Nat) (i:Nat) (kl ml:List Nat) (cs':List Rec) (tr:List Nat) (lev:Nat->Nat) (dB:Nat->Int) (wl:Nat->List Nat) (f' V':Nat->Value) (X':Nat->List Value) (wr:World):Prop where
 fi:FI n lit p ch cz i (mapOf cs') tr lev dB wl kl
 dM:dX Z sb wr K f' V' X'
 x0:X' 0=ints (enc cs')
 iD:ou n X' tr ch lev dB
 jk:qh n V' X' (fun x=>if x=lit then ml else wl x)
 hv:V' (16 + lit)=VL
 perm:iA cs cs'
 only:∀ k,6 <= k->k ≠ 9->k < 16->X' k=X k
 ff:∀ j,j ≠ 6->f' j=f j
 ext:∃ e,tr=lJ ++ e
 fV:dD Z w wr
variable {Z:Nat->Prop} {sb K:Nat} {w wr w':World} {f f' V V' Sl:Nat->Value} {X X' Dp:Nat->List Value} {cs cs':List Rec} {lJ ml:List Nat} {VL:Value}
theorem eD.later (h:eD Z sb w K f X n lit p ch cz VL cs lJ i kl ml cs' tr lev dB wl f' V' X' wr) (a:Below wr.heap.size wr w'):eD Z sb w K f X n lit p ch cz VL cs lJ i kl ml cs' tr lev dB wl f' V' X' w':=
 { h with dM:=h.dM.later a,fV:=h.fV.trans (dD.of_below a) }
theorem eD.stays (h:eD Z sb w K f X n lit p ch cz VL cs lJ i kl ml cs' tr lev dB wl f' V' X' wr) (t:i < cz.length) {k q:Nat} {r:List Nat} (b:k < cs'.length) (g:cz[i]=dU cs' k) (a:(cs'[k]).lits=lit :: q :: r\/(cs'[k]).lits=q :: lit :: r)
  (s:dX Z sb w' K f' Sl Dp) (u:dD Z wr w') (d:za X' Dp) (y:Dp 0=ints (enc (cs'.set k ⟨(cs'[k]).kind,(cs'[k]).busy,q :: lit :: r⟩))) (o:qh n Sl Dp (fun x=>if x=lit then ml else wl x)) (hv:Sl (16 + lit)=V' (16 + lit)):
  eD Z sb w K f X n lit p ch cz VL cs lJ i kl ml (cs'.set k ⟨(cs'[k]).kind,(cs'[k]).busy,q :: lit :: r⟩) tr lev dB wl f' Sl Dp w' where
 fi:=by
  have v:mapOf cs' cz[i]=some ⟨(cs'[k]).kind,(cs'[k]).lits⟩:=by rw [g];exact eP b
  have:=h.fi.second t v a
  rw [Az b (by rcases a with e | e <;> rw [e] <;> simp),<- g];exact this
 dM:=s
 x0:=y
 iD:=h.iD.congr fun j m c=>d j (by omega) (by omega) (by omega)
 jk:=o
 hv:=hv.trans h.hv
 perm:=h.perm.trans (iA.set b rfl rfl (by
  rcases a with e | e
  ·rw [e];exact List.Perm.swap ..
  ·rw [e]))
 only:=fun j m c l=>(d j (by omega) c l).trans (h.only j m c l)
 ff:=h.ff
 ext:=h.ext
 fV:=h.fV.trans u
theorem eD.moves (h:eD Z sb w K f X n lit p ch cz VL cs lJ i kl (mix kl cz) cs' tr lev dB wl f' V' X' wr) (B:i < cz.length) {k q j o:Nat} {r:List Nat} (t:k < cs'.length) (s:(cs'[k]).kind ≠ 2) (u:cz[i]=dU cs' k) (g:(cs'[k]).lits=lit :: q :: r\/(cs'[k]).lits=q :: lit :: r)
  (H:dX Z sb w' K f' Sl Dp) (J:dD Z wr w') (A:za X' Dp) (I:tv tr q ≠ 1) (m:r[j]? = some o) (l:tv tr o ≠ -1) (L:Dp 0=ints (enc (cs'.set k ⟨(cs'[k]).kind,(cs'[k]).busy,q :: o :: r.set j lit⟩))) (G:qh n Sl Dp (fun x=>if x=o then (if x=lit then mix kl cz else wl x) ++ [dU cs' k] else if x=lit then mix kl cz else wl x)) (hv:Sl (16 + lit)=V' (16 + lit)):
  eD Z sb w K f X n lit p ch cz VL cs lJ (i + 1) kl (mix kl cz) (cs'.set k ⟨(cs'[k]).kind,(cs'[k]).busy,q :: o :: r.set j lit⟩) tr lev dB (fun x=>if x=o then wl x ++ [cz[i]] else wl x) f' Sl Dp w':=by
 have D:mapOf cs' cz[i]=some ⟨(cs'[k]).kind,(cs'[k]).lits⟩:=by rw [u];exact eP t
 have N:=h.fi.second B D g;have M:=N.move B (dP ..) s rfl (fun c=>I (Bv.2 c)) m (fun c=>l (h.fi.dN.oF.2 c));have a:=h.fi.oC.vars _ _ D;have d:o ≠ lit:=fun e=>by
  have c:o ∈ r:=List.mem_of_getElem? m
  rcases g with y | y
  ·rw [y] at a;simp only [List.map_cons,List.nodup_cons,List.mem_cons,List.mem_map,not_or,not_exists,not_and] at a;exact a.1.2 o c (by rw [e])
  ·rw [y] at a;simp only [List.map_cons,List.nodup_cons,List.mem_cons,List.mem_map,not_or,not_exists,not_and] at a;exact a.2.1 o c (by rw [e])
 exact {
  fi:=by
   have z:jZ (jZ (mapOf cs') cz[i] ⟨(cs'[k]).kind,q :: lit :: r⟩) cz[i] ⟨(cs'[k]).kind,q :: o :: r.set j lit⟩=mapOf (cs'.set k ⟨(cs'[k]).kind,(cs'[k]).busy,q :: o :: r.set j lit⟩):=by
    rw [Az t (by rcases g with e | e <;> rw [e] <;> simp),<- u]
    funext b
    by_cases e:b=cz[i]
    ·subst e;rw [dP,dP]
    ·rw [dJ _ _ e,dJ _ _ e,dJ _ _ e]
   rw [<- z];exact M
  dM:=H
  x0:=L
  iD:=h.iD.congr fun j F v=>A j (by omega) (by omega) (by omega)
  jk:=by
   have z:(fun x=>if x=o then (if x=lit then mix kl cz else wl x) ++ [dU cs' k] else if x=lit then mix kl cz else wl x)=fun x=>if x=lit then mix kl cz else if x=o then wl x ++ [cz[i]] else wl x:=by
    funext x
    by_cases e:x=o
    ·subst e;rw [if_pos rfl,if_neg d,if_neg d,if_pos rfl,u]
    ·rw [if_neg e,if_neg e]
   rw [<- z];exact G
  hv:=hv.trans h.hv
  perm:=h.perm.trans (iA.set t rfl rfl (by
   have:=Aq (q:=q) (lit:=lit) m
   rcases g with e | e
   ·rw [e];exact this.trans (List.Perm.swap ..)
   ·rw [e];exact this))
  only:=fun j F v E=>(A j (by omega) v E).trans (h.only j F v E)
  ff:=h.ff
  ext:=h.ext
  fV:=h.fV.trans J }
theorem eD.store (h:eD Z sb w K f X n lit p ch cz VL cs lJ i kl (mix kl cz) cs' tr lev dB wl f' V' X' wr) (g:16 + lit < K) (m:kl.length < cz.length) {d q:Nat} (b:VL=.slice (some ⟨d,0,none⟩) cz.length q) (a:Nat):eD Z sb w K f X n lit p ch cz VL cs lJ i kl (mix (kl ++ [a]) cz) cs' tr lev dB wl f' V' (upd X' (16 + lit) (dC (mix (kl ++ [a]) cz))) (wr.setCell ⟨d,kl.length,none⟩ (.int .i64 (a:Nat))) where
 fi:=h.fi
 dM:=by
  have:=h.dM.set g (h.hv.trans b) kl.length (.int .i64 (a:Nat));rw [h.jk.row lit h.fi.pG,if_pos rfl,oI,Cm m] at this;exact this
 x0:=by rw [cu _ _ (by omega)];exact h.x0
 iD:=h.iD.congr fun j l k=>cu _ _ (by omega)
 jk:=⟨by rw [cu _ _ (by omega)];exact h.jk.n9,fun x c=>by rw [cu _ _ (by omega)];exact h.jk.hd x c,fun x c=>by
  by_cases e:x=lit
  ·subst e;rw [cK,if_pos rfl]
  ·rw [cu _ _ (by omega),if_neg e];have:=h.jk.row x c
   rwa [if_neg e] at this⟩
 hv:=h.hv
 perm:=h.perm
 only:=fun j l k o=>by rw [cu _ _ (by omega)];exact h.only j l k o
 ff:=h.ff
 ext:=h.ext
 fV:=h.fV.setCell (h.dM.al _ g d (by rw [h.hv,b];rfl)) _
theorem eD.UW (h:eD Z sb w K f X n lit p ch cz VL cs lJ i kl ml cs' tr lev dB wl f' V' X' wr) (d:i < cz.length) {k q:Nat} {r:List Nat} (c:k < cs'.length) (e:cz[i]=dU cs' k) (b:(cs'[k]).lits=q :: lit :: r) (a:tv tr q=1):eD Z sb w K f X n lit p ch cz VL cs lJ (i + 1) (kl ++ [cz[i]]) ml cs' tr lev dB wl f' V' X' wr:=
 { h with fi:=h.fi.keep d (by rw [e];exact eP c) b (Bv.1 a) }
theorem eD.Ux (h:eD Z sb w K f X n lit p ch cz VL cs lJ i kl ml cs' tr lev dB wl f' V' X' wr) (z:i < cz.length) {k q:Nat} {r:List Nat} (v:k < cs'.length) (b:(cs'[k]).kind ≠ 2) (D:cz[i]=dU cs' k) (l:(cs'[k]).lits=q :: lit :: r) (g:tv tr q=0) (u:∀ y ∈ r,tv tr y=-1)
  {v':Value} (t:dX Z sb w' K (upd f' 6 v') (upd V' 1 v') (fe X' q (cz[i]:Nat) ch.length)) (B:dD Z wr w'):eD Z sb w K f X n lit p ch cz VL cs lJ (i + 1) (kl ++ [cz[i]]) ml cs' (tr ++ [q]) (eu lev (q / 2) ch.length) (eu dB (q / 2) (cz[i]:Nat)) wl (upd f' 6 v') (upd V' 1 v') (fe X' q (cz[i]:Nat) ch.length) w':=by
 have m:mapOf cs' cz[i]=some ⟨(cs'[k]).kind,(cs'[k]).lits⟩:=by rw [D];exact eP v
 have a:q < 2 * n:=h.fi.oC.lt _ _ m q (by rw [l];simp);have d:∀ j,6 <= j->fe X' q (cz[i]:Nat) ch.length j=X' j:=fun j c=>ik _ _ _ _ (by omega) (by omega) (by omega) (by omega)
 exact {
  fi:=h.fi.unit z m b l g fun y s=>h.fi.dN.oF.1 (u y s)
  dM:=t
  x0:=by rw [ik _ _ _ _ (by decide) (by decide) (by decide) (by decide)];exact h.x0
  iD:=h.iD.assign a g _ h.iD.l2 (fun _ _=>rfl)
  jk:=h.jk.congr (d 9 (by omega)) (fun x _=>cu _ _ (by omega)) (fun x _=>d _ (by omega))
  hv:=by rw [cu _ _ (by omega)];exact h.hv
  perm:=h.perm
  only:=fun j o F E=>(d j o).trans (h.only j o F E)
  ff:=fun j c=>by rw [cu _ _ c];exact h.ff j c
  ext:=by
   obtain ⟨e,A⟩:=h.ext;exact ⟨e ++ [q],by rw [A,List.append_assoc]⟩
  fV:=h.fV.trans B }
structure ze (Z:Nat->Prop) (sb:Nat) (w:World) (K:Nat) (f:Nat->Value) (X:Nat->List Value) (n lit p:Nat) (ch:List Nat) (VL:Value) (cs:List Rec) (lJ:List Nat) (kept:Nat) (res:Int) (ml:List Nat) (cs':List Rec) (tr:List Nat) (lev:Nat->Nat) (dB:Nat->Int) (wl:Nat->List Nat) (f' V':Nat->Value) (X':Nat->List Value) (wr:World):Prop where
 dN:jm n tr ch lev
 qg:rZ (mapOf cs') tr ch dB
 oC:Dr n (mapOf cs')
 qj:wQ n (mapOf cs') (fun x=>if x=lit then ml.take kept else wl x)
 res:(res=-1/\sO (mapOf cs') tr lev (p + 1))\/(sO (mapOf cs') tr lev p/\∃ k,∃ hk:k < cs'.length,res=(dU cs' k:Nat)/\(cs'[k]).kind ≠ 2/\(∀ y ∈ (cs'[k]).lits,op y ∈ tr)/\lit ∈ (cs'[k]).lits)
 dM:dX Z sb wr K f' V' X'
 x0:X' 0=ints (enc cs')
 iD:ou n X' tr ch lev dB
 jk:qh n V' X' (fun x=>if x=lit then ml else wl x)
 hv:V' (16 + lit)=VL
 perm:iA cs cs'
 only:∀ k,6 <= k->k ≠ 9->k < 16->X' k=X k
 ff:∀ j,j ≠ 6->f' j=f j
 ext:∃ e,tr=lJ ++ e
 fV:dD Z w wr
 Tx:lit < 2 * n
def Di (Z:Nat->Prop) (sb:Nat) (w:World) (K:Nat) (f:Nat->Value) (X:Nat->List Value) (n lit p:Nat) (ch:List Nat) (VL:Value) (m:Nat) (cs:List Rec) (lJ:List Nat) (s6 s7:Value) (wr:World):Prop:=
 ∃ kept res ml cs' tr lev dB wl f' V' X',s6=.int .i64 ((kept:Nat):Int)/\s7=.int .i64 res/\kept <= m/\ml.length=m/\Hid (ze Z sb w K f X n lit p ch VL cs lJ kept res ml cs' tr lev dB wl f' V' X' wr)
theorem eD.atEnd (h:eD Z sb w K f X n lit p ch cz VL cs lJ cz.length kl (mix kl cz) cs' tr lev dB wl f' V' X' wr):ze Z sb w K f X n lit p ch VL cs lJ kl.length (-1) (mix kl cz) cs' tr lev dB wl f' V' X' wr:=
 { h with
  dN:=h.fi.dN
  qg:=h.fi.qg
  oC:=h.fi.oC
  qj:=by rw [qI];exact h.fi.done.2
  res:=.inl ⟨rfl,h.fi.done.1⟩
  Tx:=h.fi.pG }
theorem eD.yK {a:Nat} (h:eD Z sb w K f X n lit p ch cz VL cs lJ i kl (mix (kl ++ [a]) cz) cs' tr lev dB wl f' V' X' wr) (z:i < cz.length) (g:a=cz[i]) (F:16 + lit < K) {k q:Nat} {r:List Nat} (v:k < cs'.length) (d:(cs'[k]).kind ≠ 2) (E:cz[i]=dU cs' k) (l:(cs'[k]).lits=q :: lit :: r) (u:tv tr q=-1) (t:∀ y ∈ r,tv tr y=-1)
  {R:List Nat} (B:R=(kl ++ [a]) ++ cz.drop (i + 1) ++ cz.drop ((kl ++ [a]).length + (cz.length - (i + 1)))) (s:dX Z sb w' K f' V' (upd X' (16 + lit) (dC R))) (A:dD Z wr w'):
  ze Z sb w K f X n lit p ch VL cs lJ ((kl ++ [a]).length + (cz.length - (i + 1))) (dU cs' k:Nat) R cs' tr lev dB wl f' V' (upd X' (16 + lit) (dC R)) w' where
 dN:=h.fi.dN
 qg:=h.fi.qg
 oC:=h.fi.oC
 qj:=by
  have e:R.take ((kl ++ [a]).length + (cz.length - (i + 1)))=kl ++ cz.drop i:=by
   rw [B,List.take_append_of_le_length (by simp;omega),List.take_of_length_le (by simp;omega),g,List.drop_eq_getElem_cons z,List.append_assoc];rfl
  rw [e];exact h.fi.qj
 res:=.inr ⟨h.fi.zn,k,v,rfl,d,fun y b=>by
  rw [l] at b;simp only [List.mem_cons] at b
  rcases b with rfl | rfl | b
  ·exact h.fi.dN.oF.1 u
  ·exact h.fi.rM
  ·exact h.fi.dN.oF.1 (t y b),by rw [l];simp⟩
 dM:=s
 x0:=by rw [cu _ _ (by omega)];exact h.x0
 iD:=h.iD.congr fun j o m=>cu _ _ (by omega)
 jk:=⟨by rw [cu _ _ (by omega)];exact h.jk.n9,fun x c=>by rw [cu _ _ (by omega)];exact h.jk.hd x c,fun x c=>by
  by_cases e:x=lit
  ·subst e;rw [cK,if_pos rfl]
  ·rw [cu _ _ (by omega),if_neg e];have:=h.jk.row x c
   rwa [if_neg e] at this⟩
 hv:=h.hv
 perm:=h.perm
 only:=fun j o m D=>by rw [cu _ _ (by omega)];exact h.only j o m D
 ff:=h.ff
 ext:=h.ext
 fV:=h.fV.trans A
 Tx:=h.fi.pG
def Ir (Z:Nat->Prop) (sb:Nat) (w:World) (K:Nat) (f:Nat->Value) (X:Nat->List Value) (n lit p:Nat) (ch cz:List Nat) (VL:Value) (cs:List Rec) (lJ:List Nat) (s6 s7 s20:Value) (wr:World):Prop:=
 ∃ i kl cs' tr lev dB wl f' V' X',s6=.int .i64 ((kl.length:Nat):Int)/\s7=.int .i64 (-1)/\s20=.int .i64 ((i:Nat):Int)/\Hid (eD Z sb w K f X n lit p ch cz VL cs lJ i kl (mix kl cz) cs' tr lev dB wl f' V' X' wr)
structure RN (Z:Nat->Prop) (sb:Nat) (w:World) (K:Nat) (f:Nat->Value) (X:Nat->List Value) (n lit p:Nat) (ch:List Nat) (cs:List Rec) (lJ:List Nat) (res:Int) (cs':List Rec) (tr:List Nat) (lev:Nat->Nat) (dB:Nat->Int) (wl:Nat->List Nat) (f' V':Nat->Value) (X':Nat->List Value) (wr:World):Prop where
 dN:jm n tr ch lev
 qg:rZ (mapOf cs') tr ch dB
 oC:Dr n (mapOf cs')
 qj:wQ n (mapOf cs') wl
 res:(res=-1/\sO (mapOf cs') tr lev (p + 1))\/(sO (mapOf cs') tr lev p/\∃ k,∃ hk:k < cs'.length,res=(dU cs' k:Nat)/\(cs'[k]).kind ≠ 2/\(∀ y ∈ (cs'[k]).lits,op y ∈ tr)/\lit ∈ (cs'[k]).lits)
 dM:dX Z sb wr K f' V' X'
 x0:X' 0=ints (enc cs')
 iD:ou n X' tr ch lev dB
 jk:qh n V' X' wl
 perm:iA cs cs'
 only:∀ k,6 <= k->k ≠ 9->k < 16->X' k=X k
 ff:∀ j,j ≠ 6->f' j=f j
 ext:∃ e,tr=lJ ++ e
 fV:dD Z w wr
def oz (Z:Nat->Prop) (sb:Nat) (w:World) (K:Nat) (f:Nat->Value) (X:Nat->List Value) (n lit p:Nat) (ch:List Nat) (cs:List Rec) (lJ:List Nat) (e:Ending) (w':World):Prop:=
 ∃ res cs' tr lev dB wl f' V' X',e=.returned (.int .i64 res)/\RN Z sb w K f X n lit p ch cs lJ res cs' tr lev dB wl f' V' X' w'
theorem ze.out {kept:Nat} {res:Int} (h:ze Z sb w K f X n lit p ch VL cs lJ kept res ml cs' tr lev dB wl f' V' X' wr) (v:K=16 + 2 * n) {b:Option Addr} {m o k u B:Nat} (d:VL=.slice b m o) (c:kept <= ml.length) (a:V' 9=.slice (some ⟨k,0,none⟩) u B):
  oz Z sb w K f X n lit p ch cs lJ (.returned (.int .i64 res)) (wr.setCell ⟨k,lit,none⟩ (.slice b kept o)):=by
 have r:=h.Tx;have q:X' (16 + lit)=dC ml:=by have:=h.jk.row lit r;rwa [if_pos rfl] at this
 have z:16 + lit < K:=by omega
 have s:=h.dM.VY z a (h.hv.trans d) (m:=kept) (by rw [q,dh];exact c);refine ⟨res,cs',tr,lev,dB,fun x=>if x=lit then ml.take kept else wl x,f',_,_,rfl,{
  dN:=h.dN
  qg:=h.qg
  oC:=h.oC
  qj:=h.qj
  res:=h.res
  dM:=s
  x0:=by rw [cu _ _ (by decide),cu _ _ (by omega)];exact h.x0
  iD:=h.iD.congr fun j t g=>by rw [cu _ _ (by omega),cu _ _ (by omega)]
  jk:=by
   have:=h.jk.put r (l:=ml.take kept) (R:=(X' (16 + lit)).take kept) (by rw [q,oH]) (.slice b kept o);have e:(fun y=>if y=lit then ml.take kept else if y=lit then ml else wl y)=fun x=>if x=lit then ml.take kept else wl x:=by
    funext y
    by_cases e:y=lit
    ·rw [if_pos e,if_pos e]
    ·rw [if_neg e,if_neg e,if_neg e]
   rw [e] at this;exact this
  perm:=h.perm
  only:=fun j t g A=>by rw [cu _ _ g,cu _ _ (by omega)];exact h.only j t g A
  ff:=h.ff
  ext:=h.ext
  fV:=h.fV.setCell (h.dM.al 9 (by omega) k (by rw [a];rfl)) _ }⟩
theorem eD.KL {a:Nat} (h:eD Z sb w K f X n lit p ch cz VL cs lJ i kl (mix (kl ++ [a]) cz) cs' tr lev dB wl f' V' X' wr) (J:i < cz.length) (e:a=cz[i]) (x:16 + lit < K) {k q:Nat} {r:List Nat} (I:k < cs'.length) (o:(cs'[k]).kind ≠ 2) (v:cz[i]=dU cs' k) (G:(cs'[k]).lits=q :: lit :: r) (F:tv tr q=-1) (E:∀ y ∈ r,tv tr y=-1)
  {j cap b c N:Nat} {g:Array Value} (t:VL=.slice (some ⟨j,0,none⟩) cz.length cap) (m:b=kl.length + 1) (s:c=i + 1) (S:N=cz.length - c) (L:wr.heap[j]? = some (.cells g 3 (0,0))) (u:w'.heap[j]? = some (.cells (splice g.toList b (dC (cz.drop c))).toArray 3 (0,0))) (D:∀ k,k ≠ j->w'.heap[k]? = wr.heap[k]?) (B:Below 0 wr w'):
  Di Z sb w K f X n lit p ch VL cz.length cs lJ (.int .i64 ((b + N:Nat):Int)) (.int .i64 (a:Nat)) w':=by
 have l:X' (16 + lit)=dC (mix (kl ++ [a]) cz):=by have:=h.jk.row lit h.fi.pG;rwa [if_pos rfl] at this
 have d:(kl ++ [a]).length=b:=by rw [m];simp
 have H:=h.fi.oK;rw [<- d] at u;obtain ⟨A,Q⟩:=h.dM.copied x (h.hv.trans t) l (i:=c) (by rw [d];omega) (by omega) L u D B;have z:=h.yK J e x I o v G F E (R:=(kl ++ [a]) ++ cz.drop c ++ cz.drop ((kl ++ [a]).length + (cz.length - c))) (by rw [s]) A Q;have O:(kl ++ [a]).length + (cz.length - (i + 1))=b + N:=by omega
 have M:dU cs' k=a:=by rw [e,v]
 rw [O,M] at z;exact ⟨b + N,(a:Nat),_,cs',tr,lev,dB,wl,f',V',_,rfl,rfl,by omega,by simp;omega,z⟩
theorem oz.later {e:Ending} {a:World} (h:oz Z sb w K f X n lit p ch cs lJ e w') (d:Below w'.heap.size w' a):oz Z sb w K f X n lit p ch cs lJ e a:=by
 obtain ⟨b,cs',tr,lev,dB,wl,f',V',X',g,c⟩:=h;exact ⟨b,cs',tr,lev,dB,wl,f',V',X',g,{ c with dM:=c.dM.later d,fV:=c.fV.trans (dD.of_below d) }⟩
end
end
end So
end Go.Proofs.YtceahffmenbibaaGreatDoor
