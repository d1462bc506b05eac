/- Ssh4 Ssh5 Ssh6 Ssh7. -/
import Derived.Test.YtceahffmenbibaaGreatDoorH33
set_option linter.unusedVariables false
set_option linter.unusedSimpArgs false
set_option maxHeartbeats 4000000
set_option maxRecDepth 100000
namespace Go.Proofs.YtceahffmenbibaaGreatDoor
namespace So
section
open Go Go.RowKit Go.Deep Rd
section
variable {cs jH:List Rec} {n:Nat} {tr ch:List Nat} {lev:Nat->Nat} {rea:Nat->Int}
def xz (cs:List Rec):List Rec:=kQ cs cs.length
theorem qK:xz cs=cs.filter fun c=>!decide (c.kind=2):=by unfold xz kQ;rw [List.take_length]
theorem Mm {k:Nat} (a:k < cs.length) (hd:(cs[k]).kind ≠ 2):xz cs=kQ cs k ++ cs[k] :: (cs.drop (k + 1)).filter fun c=>!decide (c.kind=2):=by
 rw [qK];have e:cs=cs.take k ++ cs[k] :: cs.drop (k + 1):=by rw [<- List.drop_eq_getElem_cons a,List.take_append_drop]
 conv=>lhs;rw [e]
 rw [List.filter_append,List.filter_cons_of_pos (by simpa using hd)];rfl
theorem Pw {k:Nat} (a:k < cs.length) (hd:(cs[k]).kind ≠ 2):∃ h:(kQ cs k).length < (xz cs).length,(xz cs)[(kQ cs k).length]=cs[k]/\dn (xz cs) (kQ cs k).length=(enc (kQ cs k)).length:=by
 have e:=Mm a hd;refine ⟨by rw [e];simp,?_,?_⟩
 ·have:(xz cs)[(kQ cs k).length]? = some cs[k]:=by rw [e,List.getElem?_append_right lr];simp
  exact (List.getElem?_eq_some_iff.1 this).2
 ·unfold dn;rw [e,List.take_left' rfl]
theorem yK:∀ (cs:List Rec) (j:Nat) (hj:j < (xz cs).length),∃ k,∃ e:k < cs.length,(cs[k]).kind ≠ 2/\(kQ cs k).length=j
 | [],j,hj=>by simp [qK] at hj
 | c :: r,j,hj=>by
  rw [qK] at hj;by_cases a:c.kind=2
  ·rw [List.filter_cons_of_neg (by simpa using a)] at hj;obtain ⟨k,e,d,b⟩:=yK r j (by rw [qK];exact hj);refine ⟨k + 1,by simp;omega,by simpa using d,?_⟩;unfold kQ at b ⊢;rw [List.take_succ_cons,List.filter_cons_of_neg (by simpa using a)];exact b
  ·rw [List.filter_cons_of_pos (by simpa using a)] at hj
   match j,hj with
   | 0,_=>exact ⟨0,by simp,by simpa using a,rfl⟩
   | j + 1,hj=>
    obtain ⟨k,e,d,b⟩:=yK r j (by rw [qK];simpa using hj);refine ⟨k + 1,by simp;omega,by simpa using d,?_⟩;unfold kQ at b ⊢;rw [List.take_succ_cons,List.filter_cons_of_pos (by simpa using a),List.length_cons,b]
theorem Pp {j k:Nat} (h:j <= k):(enc (kQ cs j)).length <= (enc (kQ cs k)).length:=by
 have e:cs.take k=cs.take j ++ (cs.take k).drop j:=by
  conv=>lhs;rw [<- List.take_append_drop j (cs.take k)]
  rw [List.take_take,Nat.min_eq_left h]
 unfold kQ;rw [e,List.filter_append,gy,List.length_append];omega
theorem EZ {j k:Nat} (h:j < k) (a:j < cs.length) (hd:(cs[j]).kind ≠ 2):(enc (kQ cs j)).length < (enc (kQ cs k)).length:=by
 have:=Pp (cs:=cs) (show j + 1 <= k from h);rw [yF a hd,y8,List.length_append,fV] at this;omega
def uY (jH:List Rec) (a:Nat):Nat:=(((enc jH)[a + 2]?).getD 0).toNat
theorem uk (hb:fF cs jH) (hd:∀ i (h:i < jH.length) (h':i < cs.length),(cs[i]).kind ≠ 2->(jH[i]).busy=(((enc (kQ cs i)).length:Nat):Int)) {k:Nat} (b:k < cs.length) (c:(cs[k]).kind ≠ 2):uY jH (dn cs k)=(enc (kQ cs k)).length/\(enc jH)[dn cs k + 2]? = some ((uY jH (dn cs k):Nat):Int):=by
 have a:k < jH.length:=by rw [hb.1];exact b
 have e:=y9 a;rw [hb.dn k (by omega),hd k a b c] at e;have r:uY jH (dn cs k)=(enc (kQ cs k)).length:=by unfold uY;rw [e];simp
 exact ⟨r,by rw [e,r]⟩
theorem TJ (hb:fF cs jH) (hd:∀ i (h:i < jH.length) (h':i < cs.length),(cs[i]).kind ≠ 2->(jH[i]).busy=(((enc (kQ cs i)).length:Nat):Int)):Hl (mapOf cs) (mapOf (xz cs)) (uY jH) where
 X5:=fun a c m l=>by
  obtain ⟨k,g,rfl,rfl⟩:=dO m;obtain ⟨g1,g2,p⟩:=Pw g l;rw [(uk hb hd g l).1,<- p,dP g1,g2]
 from':=fun b c m=>by
  obtain ⟨j,o,rfl,rfl⟩:=dO m;obtain ⟨k,g,l,rfl⟩:=yK cs j o;obtain ⟨g1,g2,p⟩:=Pw g l;refine ⟨dn cs k,?_,?_,?_⟩
  ·rw [dP g,g2]
  ·rw [g2];exact l
  ·rw [(uk hb hd g l).1,p]
 inj:=fun a b c d m l r q e=>by
  obtain ⟨j,o,rfl,rfl⟩:=dO m;obtain ⟨k,g,rfl,rfl⟩:=dO r;rw [(uk hb hd o l).1,(uk hb hd g q).1] at e
  rcases Nat.lt_trichotomy j k with h | h | h
  ·have:=EZ h o l;omega
  ·rw [h]
  ·have:=EZ h g q;omega
theorem TV:nS (xz cs)=nS cs:=by
 unfold nS;rw [qK,List.filter_filter]
 congr 2
 funext c
 by_cases h:c.kind=2 <;> simp [h]
theorem Fj:iM (xz cs)=iM cs:=by
 unfold iM;rw [qK,List.countP_filter]
 congr 1
 funext c
 by_cases h:c.kind=1
 ·simp [h]
 ·simp [h]
theorem Pv:jc (xz cs)=0:=by
 rw [qK]
 induction cs with
 | nil=>rfl
 | cons c r ih=>
  by_cases h:c.kind=2
  ·rw [List.filter_cons_of_neg (by simpa using h)];exact ih
  ·rw [List.filter_cons_of_pos (by simpa using h)];unfold jc at ih ⊢;rw [List.map_cons,List.sum_cons,ih,if_neg h]
theorem TW:(enc (xz cs)).length <= (enc cs).length:=by
 have:=Dg (cs:=cs) cs.length lr;rw [iD lr] at this;exact this
def ED (ro:Nat->Nat) (tr:List Nat) (rea:Nat->Int) (i:Nat) (v:Nat):Int:=if v ∈ (tr.take i).map (· / 2)/\rea v ≠ -1 then ((ro (rea v).toNat:Nat):Int) else rea v
theorem OC (ro:Nat->Nat) (tr:List Nat) (rea:Nat->Int):ED ro tr rea 0=rea:=by
 funext v;unfold ED;simp
theorem jh.Xu (c:jh n tr ch lev) {i:Nat} (hi:i < tr.length):tr[i] / 2 ∉ (tr.take i).map (· / 2):=fun d=>by
 obtain ⟨y,b,e⟩:=List.mem_map.1 d;obtain ⟨j,g,a⟩:=List.mem_iff_getElem.1 b;rw [List.length_take] at g;rw [List.getElem_take] at a;have:=c.pQ (show j < tr.length by omega) hi (by rw [a];exact e);omega
theorem VA (a:jh n tr ch lev) (ro:Nat->Nat) {i:Nat} (hi:i < tr.length):ED ro tr rea i (tr[i] / 2)=rea (tr[i] / 2):=by
 unfold ED;rw [if_neg (fun h=>a.Xu hi h.1)]
theorem uT {i:Nat} (hi:i < tr.length) (v:Nat):v ∈ (tr.take (i + 1)).map (· / 2)↔v ∈ (tr.take i).map (· / 2)\/v=tr[i] / 2:=by
 rw [List.take_succ_eq_append_getElem hi,List.map_append,List.mem_append,List.map_cons,List.map_nil,List.mem_singleton]
theorem Tm (ro:Nat->Nat) {i:Nat} (hi:i < tr.length) (c:rea (tr[i] / 2) ≠ -1):ED ro tr rea (i + 1)=eF (ED ro tr rea i) (tr[i] / 2) ((ro (rea (tr[i] / 2)).toNat:Nat):Int):=by
 funext v
 by_cases e:v=tr[i] / 2
 ·rw [e,dE];unfold ED;rw [if_pos ⟨(uT hi _).2 (.inr rfl),c⟩]
 ·rw [df _ _ e];unfold ED;have:(v ∈ (tr.take (i + 1)).map (· / 2)/\rea v ≠ -1)↔(v ∈ (tr.take i).map (· / 2)/\rea v ≠ -1):=by
   rw [uT hi];constructor
   ·rintro ⟨a | a,b⟩
    ·exact ⟨a,b⟩
    ·exact absurd a e
   ·rintro ⟨a,b⟩;exact ⟨.inl a,b⟩
  simp only [this]
theorem OE (ro:Nat->Nat) {i:Nat} (hi:i < tr.length) (c:rea (tr[i] / 2)=-1):ED ro tr rea (i + 1)=ED ro tr rea i:=by
 funext v
 unfold ED;have:(v ∈ (tr.take (i + 1)).map (· / 2)/\rea v ≠ -1)↔(v ∈ (tr.take i).map (· / 2)/\rea v ≠ -1):=by
  rw [uT hi];constructor
  ·rintro ⟨a | a,b⟩
   ·exact ⟨a,b⟩
   ·exact absurd (a ▸ c) b
  ·rintro ⟨a,b⟩;exact ⟨.inl a,b⟩
 simp only [this]
theorem oP.VR {C b:iQ} {ro:Nat->Nat} (h:oP C tr ch rea) (d:Hl C b ro):oP b tr ch (ED ro tr rea tr.length):=by
 refine h.Pk d fun x c=>⟨fun e=>?_,fun a e=>?_⟩
 ·unfold ED;rw [if_neg (fun h=>h.2 e)];exact e
 ·unfold ED;rw [if_pos ⟨by rw [List.take_length];exact List.mem_map.2 ⟨x,c,rfl⟩,by omega⟩,e];simp
theorem oP.live {C:iQ} (h:oP C tr ch rea) {i:Nat} (hi:i < tr.length) (d:rea (tr[i] / 2) ≠ -1):∃ (a:Nat) (c:xw),rea (tr[i] / 2)=(a:Int)/\C a=some c/\c.kind ≠ 2:=by
 by_cases b:i ∈ ch
 ·exact absurd (h.Kv i hi b) d
 ·obtain ⟨a,c,r,j,g,e,_⟩:=h.why i hi b;exact ⟨a,c,j,g,e⟩
def DV (ro:Nat->Nat) (wl:Nat->List Nat) (i j:Nat) (x:Nat):List Nat:=if x < i then (wl x).map ro else if x=i then ((wl x).take j).map ro ++ (wl x).drop j else wl x
theorem Nz (ro:Nat->Nat) (wl:Nat->List Nat):DV ro wl 0 0=wl:=by
 funext x;unfold DV
 rw [if_neg (by omega)];split
 ·simp
 ·rfl
theorem NB (ro:Nat->Nat) (wl:Nat->List Nat) (i:Nat):DV ro wl i (wl i).length=DV ro wl (i + 1) 0:=by
 funext x;unfold DV
 by_cases c:x < i
 ·rw [if_pos c,if_pos (by omega)]
 ·rw [if_neg c];by_cases b:x=i
  ·subst b;rw [if_pos rfl,if_pos (by omega)];simp
  ·rw [if_neg b,if_neg (by omega)];by_cases a:x=i + 1
   ·rw [if_pos a];simp
   ·rw [if_neg a]
theorem JP (ro:Nat->Nat) (wl:Nat->List Nat) (i j x:Nat):(DV ro wl i j x).length=(wl x).length:=by
 unfold DV;split
 ·simp
 ·split
  ·simp;omega
  ·rfl
theorem Vo (ro:Nat->Nat) (wl:Nat->List Nat) {i j:Nat} (a:j < (wl i).length):(DV ro wl i j i)[j]? = some ((wl i)[j]):=by
 unfold DV;have e:j - (((wl i).take j).map ro).length=0:=by simp;omega
 rw [if_neg (by omega),if_pos rfl,List.getElem?_append_right (by simp;omega),e,List.getElem?_drop,Nat.add_zero,List.getElem?_eq_getElem a]
theorem NA (ro:Nat->Nat) (wl:Nat->List Nat) {i j:Nat} (c:j < (wl i).length):DV ro wl i (j + 1)=fun x=>if x=i then (DV ro wl i j i).set j (ro (wl i)[j]) else DV ro wl i j x:=by
 funext x
 by_cases a:x=i
 ·subst a;rw [if_pos rfl];unfold DV;rw [if_neg (by omega),if_pos rfl,if_neg (by omega),if_pos rfl];rw [List.set_append_right _ _ (by simp;omega)];have e:j - (((wl x).take j).map ro).length=0:=by simp;omega
  rw [e,List.drop_eq_getElem_cons c,List.set_cons_zero,List.take_succ_eq_append_getElem c,List.map_append,List.append_assoc];rfl
 ·rw [if_neg a];unfold DV;by_cases b:x < i
  ·rw [if_pos b,if_pos b]
  ·rw [if_neg b,if_neg a,if_neg b,if_neg a]
theorem Sj (ro:Nat->Nat) (wl:Nat->List Nat) {m x:Nat} (a:x < m):DV ro wl m 0 x=(wl x).map ro:=by unfold DV;rw [if_pos a]
end
section
variable {Z:Nat->Prop} {sb K n:Nat} {w w' wr:World} {f V:Nat->Value} {X:Nat->List Value} {cs jH:List Rec} {G C OB N k:Nat} {v0:Value} {ro:Nat->Nat} {Lv:Nat->Prop} {tr ch:List Nat} {lev:Nat->Nat} {rea:Nat->Int} {wl:Nat->List Nat}
structure Sa (K:Nat) (V:Nat->Value) (G C OB N:Nat) (ro:Nat->Nat) (Lv:Nat->Prop) (w:World):Prop where
 box:w.cell? ⟨OB,0,none⟩=some (.slice (some ⟨G,0,none⟩) N C)
 at':∀ a,Lv a->a + 2 < N/\w.cell? ⟨G,a + 2,none⟩=some (.int .i64 ((ro a:Nat):Int))
 ng:∀ j,j < K->(V j).ownBlock ≠ some G
 no:∀ j,j < K->(V j).ownBlock ≠ some OB
theorem Sa.later (h:Sa K V G C OB N ro Lv w) (hb:Below w.heap.size w w'):Sa K V G C OB N ro Lv w':={ h with
 box:=by rw [hb.cell (p:=⟨OB,0,none⟩) (block_lt_of_cell h.box)];exact h.box
 at':=fun a b=>⟨(h.at' a b).1,by rw [hb.cell (p:=⟨G,a + 2,none⟩) (block_lt_of_cell (h.at' a b).2)];exact (h.at' a b).2⟩ }
theorem Sa.set (h:Sa K V G C OB N ro Lv w) {g m c:Nat} (d:k < K) (b:V k=.slice (some ⟨g,0,none⟩) m c) (j:Nat) (u:Value):Sa K V G C OB N ro Lv (w.setCell ⟨g,j,none⟩ u):=by
 have g1:g ≠ G:=fun e=>h.ng k d (by rw [b,e];rfl)
 have g2:g ≠ OB:=fun e=>h.no k d (by rw [b,e];rfl)
 exact { h with
  box:=by rw [World.cell?_setCell_far _ _ _ _ (by simpa using g2)];exact h.box
  at':=fun a i=>⟨(h.at' a i).1,by rw [World.cell?_setCell_far _ _ _ _ (by simpa using g1)];exact (h.at' a i).2⟩ }
theorem J7 (h:Sa K V G C OB N ro Lv w) (i:N <= 1099511627776) {a:Nat} (b:Lv a):
  Calls Tryz.prog 243 #[.int .i64 ((a:Nat):Int),.pointer (some ⟨OB,0,none⟩)] w fun e w'=>e=.returned (.int .i64 ((ro a:Nat):Int))/\w'=w:=by
 have m:=h.box;obtain ⟨l,j⟩:=h.at' a b;have g:(0:Int) <= (a:Int) + 2:=by omega
 have d:(a:Int) + 2 < (N:Int):=by omega
 have c:((a:Int) + 2).toNat=a + 2:=by omega
 generalize ro a=z at *
 clear h b;go_enter Tryz.func243,Tryz.ntmps243
 go_wp2;go_ret
 exact ⟨rfl,rfl⟩
theorem zM.Kt (h:zM Z sb w K f V X cs G C OB cs.length jH v0 wr):Sa K (upd V 0 v0) G C OB (enc cs).length (uY jH) (fun a=>∃ k,∃ b:k < cs.length,a=dn cs k/\(cs[k]).kind ≠ 2) wr where
 box:=h.box
 at':=fun a ⟨k,b,e,hd⟩=>by
  subst e;have c:=eD b;refine ⟨by omega,?_⟩;rw [h.old.cellAt (dn cs k + 2) (by omega),lN,(uk h.Q9 (fun i j d g=>h.Wj i j d d g) b hd).2];rfl
 ng:=h.ng
 no:=h.no
theorem mH.one (h:mH n V X wl) {x j u:Nat} (b:x < 2 * n):mH n V (upd X (16 + x) ((X (16 + x)).set j (.int .i64 (u:Nat)))) (fun y=>if y=x then (wl x).set j u else wl y) where
 n9:=by rw [cu _ _ (by omega)];exact h.n9
 hd:=fun y a=>by rw [cu _ _ (by omega)];exact h.hd y a
 row:=fun y a=>by
  by_cases e:y=x
  ·subst e;rw [cz,if_pos rfl,h.row y a,nG]
  ·rw [cu _ _ (by omega),if_neg e];exact h.row y a
theorem lU.Yv (h:lU n X tr ch lev rea) {v:Nat} (b:v < n) (u:Int):lU n (upd X 5 ((X 5).set v (.int .i64 u))) tr ch lev (eF rea v u) where
 l1:=by rw [cu _ _ (by decide)];exact h.l1
 l2:=by rw [cu _ _ (by decide)];exact h.l2
 n3:=by rw [cu _ _ (by decide)];exact h.n3
 t3:=by rw [cu _ _ (by decide)];exact h.t3
 n4:=by rw [cu _ _ (by decide)];exact h.n4
 t4:=by rw [cu _ _ (by decide)];exact h.t4
 n5:=by rw [cz,List.length_set];exact h.n5
 t5:=fun y a=>by
  rw [cz,sO h.n5 h.t5 b _ y a];by_cases e:y=v
  ·subst e;rw [dE,dE]
  ·rw [df _ _ e,df _ _ e]
structure Ww (Z:Nat->Prop) (sb:Nat) (w:World) (K n:Nat) (f V:Nat->Value) (X:Nat->List Value) (wl:Nat->List Nat) (G C OB N:Nat) (ro:Nat->Nat) (Lv:Nat->Prop) (i j:Nat) (wr:World) (X':Nat->List Value):Prop where
 dF:dQ Z sb wr K f V X'
 gP:mH n V X' (DV ro wl i j)
 only:∀ k,k < 16->X' k=X k
 eO:dB Z w wr
 Kt:Sa K V G C OB N ro Lv wr
theorem Ww.step {i j:Nat} {X':Nat->List Value} {g m c:Nat} (h:Ww Z sb w K n f V X wl G C OB N ro Lv i j wr X') (e:K=16 + 2 * n) (hi:i < 2 * n) (d:j < (wl i).length) (a:V (16 + i)=.slice (some ⟨g,0,none⟩) m c):
  Ww Z sb w K n f V X wl G C OB N ro Lv i (j + 1) (wr.setCell ⟨g,j,none⟩ (.int .i64 ((ro (wl i)[j]:Nat):Int))) (upd X' (16 + i) ((X' (16 + i)).set j (.int .i64 ((ro (wl i)[j]:Nat):Int)))) where
 dF:=h.dF.set (by omega) a j _
 gP:=by rw [NA ro wl d];exact h.gP.one hi
 only:=fun k b=>by rw [cu _ _ (by omega)];exact h.only k b
 eO:=h.eO.setCell (h.dF.al (16 + i) (by omega) g (by rw [a];rfl)) _
 Kt:=h.Kt.set (k:=16 + i) (by omega) a j _
structure ShT (Z:Nat->Prop) (sb:Nat) (w:World) (K n:Nat) (f V:Nat->Value) (X:Nat->List Value) (wl:Nat->List Nat) (tr ch:List Nat) (lev:Nat->Nat) (rea:Nat->Int) (G C OB N:Nat) (ro:Nat->Nat) (Lv:Nat->Prop) (i:Nat) (wr:World) (X':Nat->List Value):Prop where
 dF:dQ Z sb wr K f V X'
 gP:mH n V X' (DV ro wl (2 * n) 0)
 gB:lU n X' tr ch lev (ED ro tr rea i)
 only:∀ k,k < 16->k ≠ 5->X' k=X k
 eO:dB Z w wr
 Kt:Sa K V G C OB N ro Lv wr
theorem ShT.later {i:Nat} {X':Nat->List Value} (h:ShT Z sb w K n f V X wl tr ch lev rea G C OB N ro Lv i wr X') (hb:Below wr.heap.size wr w'):ShT Z sb w K n f V X wl tr ch lev rea G C OB N ro Lv i w' X':={ h with
 dF:=h.dF.later hb
 eO:=h.eO.trans (dB.of_below hb)
 Kt:=h.Kt.later hb }
theorem ShT.skip {i:Nat} {X':Nat->List Value} (h:ShT Z sb w K n f V X wl tr ch lev rea G C OB N ro Lv i wr X') (hi:i < tr.length) (a:rea (tr[i] / 2)=-1):ShT Z sb w K n f V X wl tr ch lev rea G C OB N ro Lv (i + 1) wr X':={ h with
 gB:=by rw [OE ro hi a];exact h.gB }
theorem ShT.step {i:Nat} {X':Nat->List Value} {g m c:Nat} (h:ShT Z sb w K n f V X wl tr ch lev rea G C OB N ro Lv i wr X') (hi:i < tr.length) (d:tr[i] / 2 < n) (e:rea (tr[i] / 2) ≠ -1) (a:V 5=.slice (some ⟨g,0,none⟩) m c):
  ShT Z sb w K n f V X wl tr ch lev rea G C OB N ro Lv (i + 1) (wr.setCell ⟨g,tr[i] / 2,none⟩ (.int .i64 ((ro (rea (tr[i] / 2)).toNat:Nat):Int))) (upd X' 5 ((X' 5).set (tr[i] / 2) (.int .i64 ((ro (rea (tr[i] / 2)).toNat:Nat):Int)))) where
 dF:=h.dF.set (k:=5) (by have:=h.dF.hK;omega) a _ _
 gP:=by
  refine h.gP.congr (cu _ _ (by decide)) (fun x b=>rfl) fun x b=>cu _ _ (by omega)
 gB:=by rw [Tm ro hi e];exact h.gB.Yv d _
 only:=fun k j a=>by rw [cu _ _ a];exact h.only k j a
 eO:=h.eO.setCell (h.dF.al 5 (by have:=h.dF.hK;omega) g (by rw [a];rfl)) _
 Kt:=h.Kt.set (k:=5) (by have:=h.dF.hK;omega) a _ _
end
section
variable {Z:Nat->Prop} {sb K n:Nat} {w w' wr:World} {f V:Nat->Value} {X:Nat->List Value} {cs jH:List Rec} {tr ch:List Nat} {lev:Nat->Nat} {rea:Nat->Int} {wl:Nat->List Nat}
def RZ (cs:List Rec) (a:Nat):Prop:=∃ k,∃ hk:k < cs.length,a=dn cs k/\(cs[k]).kind ≠ 2
def Ve (Z:Nat->Prop) (sb:Nat) (w:World) (K n:Nat) (f V:Nat->Value) (X:Nat->List Value) (cs:List Rec) (wl:Nat->List Nat) (tr ch:List Nat) (lev:Nat->Nat) (rea:Nat->Int) (w':World):Prop:=
 dB Z w w'/\∃ (jH:List Rec) (v0:Value) (X':Nat->List Value),fF cs jH/\(∀ i (h:i < jH.length) (h':i < cs.length),(cs[i]).kind ≠ 2->(jH[i]).busy=(((enc (kQ cs i)).length:Nat):Int))/\dQ Z sb w' K (upd (upd f 2 v0) 4 (.int .i64 0)) (upd V 0 v0) X'/\X' 0=ints (enc (xz cs))/\lU n X' tr ch lev (ED (uY jH) tr rea tr.length)/\mH n (upd V 0 v0) X' (fun x=>(wl x).map (uY jH))/\∀ k,k < 16->k ≠ 0->k ≠ 5->X' k=X k
theorem Ct (h:dQ Z sb w K f V X) (h0:X 0=ints (enc cs)) (hN:(enc cs).length <= 1099511627776) (hp:0 < cs.length) (lc ws:Nat) (f3:f 3=.int .i64 ((lc:Nat):Int)) (f4:f 4=.int .i64 ((ws:Nat):Int)) (aa:ws <= (enc cs).length)
  (hT:lU n X tr ch lev rea) (ht:jh n tr ch lev) (hW:mH n V X wl) (p:K=16 + 2 * n) (hn:n <= 50) (aq:0 < n) (af:∀ x,x < 2 * n->∀ a ∈ wl x,RZ cs a) (J:∀ x,x < 2 * n->(wl x).length <= 1099511627776) (ac:∀ i (hi:i < tr.length),rea (tr[i] / 2) ≠ -1->∃ a:Nat,rea (tr[i] / 2)=(a:Int)/\RZ cs a):
  Calls Tryz.prog 190 #[.pointer (some ⟨sb,0,none⟩)] w fun e w'=>e=.returned (.tuple #[])/\Ve Z sb w K n f V X cs wl tr ch lev rea w':=by
 have QC:=hide (Cu h h0 hN hp lc ws f3 f4 aa);have HT:=hide hT;have HW:=hide hW;have R:=hide ht;have ab:tr.length <= n:=ht.len;clear h hT hW ht;go_enter Tryz.func190,Tryz.ntmps190
 go_upto_region 1 with (go_at_call 225;(with_reducible refine QC.out.mono ?_);rintro e2 w2 ⟨G,C,OB,jH,v0,rfl,E⟩;have B:=hide E;clear E QC;simp only [])
 have CL:=hide B.out.Kt;have L0:Hid (Ww Z sb w K n (upd (upd f 2 v0) 4 (.int .i64 0)) (upd V 0 v0) (upd X 0 (ints (enc (xz cs)))) wl G C OB (enc cs).length (uY jH) (RZ cs) 0 0 w2 (upd X 0 (ints (enc (xz cs))))):={
  dF:=B.out.dF
  gP:=by
   rw [Nz];exact HW.out.congr (cu _ _ (by decide)) (fun x T=>cu _ _ (by omega)) (fun x T=>cu _ _ (by omega))
  only:=fun _ _=>rfl
  eO:=B.out.eO
  Kt:=CL.out }
 have S:Hid (∀ wr l,ShT Z sb w K n (upd (upd f 2 v0) 4 (.int .i64 0)) (upd V 0 v0) (upd X 0 (ints (enc (xz cs)))) wl tr ch lev rea G C OB (enc cs).length (uY jH) (RZ cs) tr.length wr l->Ve Z sb w K n f V X cs wl tr ch lev rea wr):=fun wr l H=>by
  refine ⟨H.eO,jH,v0,l,B.out.Q9,fun i a1 a2 a3=>B.out.Wj i a1 a2 a2 a3,H.dF,?_,H.gB,⟨H.gP.n9,H.gP.hd,fun x T=>?_⟩,fun k M h2 h3=>?_⟩
  ·rw [H.only 0 (by decide) (by decide),cz]
  ·rw [H.gP.row x T,Sj _ _ T]
  ·rw [H.only k M h3,cu _ _ h2]
 have T1:Hid (lU n (upd X 0 (ints (enc (xz cs)))) tr ch lev rea):=HT.out.congr fun k M h2=>cu _ _ (by omega)
 clear B CL HT HW h0 f3 f4;generalize upd (upd f 2 v0) 4 (.int .i64 0)=O at *
 generalize upd V 0 v0=P at *
 generalize upd X 0 (ints (enc (xz cs)))=u at *
 generalize uY jH=ro at *
 generalize (enc cs).length=N at *
 obtain ⟨g9,c9,_,_,e9,-,q9,-⟩:=L0.out.gP.at' L0.out.dF p (x:=0) (by omega);go_upto_region 2 with fail
 clear q9;go_loopw [19] (fun r wr=>∃ (i:Nat) (l:Nat->List Value),r=.int .i64 ((i:Nat):Int)/\i <= 2 * n/\Hid (Ww Z sb w K n O P u wl G C OB N ro (RZ cs) i 0 wr l)) (fun r _=>2 * n - (intOf r).toNat)
 case atStart=>exact ⟨0,u,rfl,zl,L0⟩
 case round=>
  clear L0;obtain ⟨i,l,rfl,ax,b⟩:=hrel;by_cases d:i < 2 * n
  ·have ay:(0:Int) <= (i:Int):=by omega
   have ah:(i:Int) < 2 * (n:Int):=by omega
   obtain ⟨ai,aB,wa,wc,t,ex,-,r9,-,-,-,-,own⟩:=b.out.gP.at' b.out.dF p d;rw [JP] at ex r9 own;rw [e9] at t;obtain ⟨y1,_,y3⟩:=Value.slice.inj t;obtain rfl:g9=ai:=by have:=Option.some.inj y1;simpa using this
   clear t y1 y3;obtain ⟨g,L⟩:∃ g,0 < (wl i).length->wa=some ⟨g,0,none⟩:=by
    rcases own.2 with ⟨e',hz⟩ | ⟨g',al,ak,e',_⟩
    ·exact ⟨0,fun h=>by omega⟩
    ·exact ⟨g',fun _=>(Value.slice.inj e').1⟩
   have au:=J i d;clear own;have EX:=hide ex;have aj:=hide L;clear ex L;go_upto_region 5 with fail
   clear r9;go_loopw [25] (fun W wr=>∃ (j:Nat) (l:Nat->List Value),W=.int .i64 ((j:Nat):Int)/\j <= (wl i).length/\Hid (Ww Z sb w K n O P u wl G C OB N ro (RZ cs) i j wr l)) (fun W _=>(wl i).length - (intOf W).toNat)
   case atStart=>exact ⟨0,l,rfl,zl,b⟩
   case round=>
    clear b;obtain ⟨j,X2,rfl,av,b⟩:=hrel;by_cases o:j < (wl i).length
    ·obtain rfl:=aj.out (by omega);have aw:(0:Int) <= (j:Int):=by omega
     have ag:(j:Int) < ((wl i).length:Int):=by omega
     obtain ⟨D,r2⟩:=b.out.dF.eH.cell (k:=16 + i) (by omega) EX.out (j:=j) (by rw [b.out.gP.row i d,cZ,JP];exact o);rw [b.out.gP.row i d] at D;have r3:wr.cell? ⟨g,j,none⟩=some (.int .i64 (((wl i)[j]:Nat):Int)):=by
      rw [D];unfold dw;rw [List.getElem?_map,Vo ro wl o];rfl
     have QN:=hide (J7 b.out.Kt hN (af i d _ (List.getElem_mem o)));have q:=hide (b.out.step p d o EX.out);clear D b;generalize ro (wl i)[j]=z at *
     generalize (wl i)[j]=y at *
     go_wp2_with (go_at_call 243;(with_reducible refine QN.out.mono ?_);rintro e3 w3 ⟨rfl,rfl⟩;simp only [])
     go_roundw
     case rel=>exact ⟨j + 1,_,by go_num,o,q⟩
     case measure=>simp [intOf];omega
    ·have ej:j=(wl i).length:=by omega
     have q:Hid (Ww Z sb w K n O P u wl G C OB N ro (RZ cs) (i + 1) 0 wr X2):=by
      have h:=b.out;exact { h with gP:=by rw [<- NB,<- ej];exact h.gP }
     have ag:¬ (j:Int) < ((wl i).length:Int):=by omega
     clear b;go_wp2;go_roundw
     case rel=>exact ⟨i + 1,X2,by go_num,d,q⟩
     case measure=>simp [intOf];omega
  ·have ei:i=2 * n:=by omega
   have ah:¬ (i:Int) < 2 * (n:Int):=by omega
   have Q:Hid (ShT Z sb w K n O P u wl tr ch lev rea G C OB N ro (RZ cs) 0 wr l):={
    dF:=b.out.dF
    gP:=by rw [<- ei];exact b.out.gP
    gB:=by rw [OC];exact T1.out.congr fun k M h2=>b.out.only k (by omega)
    only:=fun k M _=>b.out.only k M
    eO:=b.out.eO
    Kt:=b.out.Kt }
   have hK:=b.out.dF.hK;obtain ⟨a1,c1,U⟩:=Q.out.dF.eH.shape (k:=1) (by omega);have q1:=(Q.out.dF.hd (k:=1) (by omega)).1;rw [Q.out.gB.l1,cZ] at U;rw [show cellOf 1=6 from rfl,U] at q1;have E1:=hide U;clear b T1 U ei;go_upto_region 11 with fail
   clear q1;go_loopw [44] (fun r wr=>∃ (m:Nat) (l:Nat->List Value),r=.int .i64 ((m:Nat):Int)/\m <= tr.length/\Hid (ShT Z sb w K n O P u wl tr ch lev rea G C OB N ro (RZ cs) m wr l)) (fun r _=>tr.length - (intOf r).toNat)
   case atStart=>exact ⟨0,l,rfl,zl,Q⟩
   case round=>
    clear Q;obtain ⟨m,X2,rfl,ad,b⟩:=hrel;by_cases c:m < tr.length
    ·have ar:(0:Int) <= (m:Int):=by omega
     have ae:(m:Int) < (tr.length:Int):=by omega
     obtain ⟨g1,aA,az,eb,-,-,-⟩:=b.out.dF.eH.block (k:=1) (by omega) (by rw [b.out.gB.l1,cZ];omega);rw [E1.out] at eb;obtain rfl:=(Value.slice.inj eb).1;clear eb;obtain ⟨D,-⟩:=b.out.dF.eH.cell (k:=1) (by omega) E1.out (j:=m) (by rw [b.out.gB.l1,cZ];exact c);rw [b.out.gB.l1,iK tr m c] at D;have ao:tr[m] < 2 * n:=R.out.lt _ (List.getElem_mem c);have hv:tr[m] / 2 < n:=by omega
     obtain ⟨g5,c5,t5,e5,q5,r5,s5,z5,-⟩:=b.out.dF.elem (k:=5) (j:=tr[m] / 2) (by omega) b.out.gB.n5 hv;rw [show cellOf 5=11 from rfl] at q5;rw [b.out.gB.t5 _ hv,VA R.out ro c] at s5;obtain rfl:=Option.some.inj s5;have QV:=hide (fun Y=>eQ (tr[m]) Y (by omega));have an:(0:Int) <= ((tr[m] / 2:Nat):Int):=by omega
     have am:((tr[m] / 2:Nat):Int) < (n:Int):=by omega
     by_cases I:rea (tr[m] / 2)=-1
     ·have q:=hide (b.out.skip c I);rw [I] at r5;clear b;generalize tr[m] / 2=v at *
      generalize tr[m]=y at *
      go_wp2_with (go_at_call 176;(with_reducible refine (QV.out _).mono ?_);rintro e3 w3 ⟨rfl,rfl⟩;simp only [])
      go_roundw
      case rel=>exact ⟨m + 1,_,by go_num,c,q⟩
      case measure=>simp [intOf];omega
     ·obtain ⟨a,ea,la⟩:=ac m c I;have SD:=b.out.later bR.drew;have QN:=hide (J7 SD.Kt hN la);have q:=hide (SD.step c hv I e5);rw [ea,Int.toNat_natCast] at q;rw [ea] at r5;have ap:(((a:Nat):Int) == -1)=false:=by simp
      clear b SD I e5;generalize ro a=z at *
      generalize tr[m] / 2=v at *
      generalize tr[m]=y at *
      go_upto_region 15 with (go_at_call 176;(with_reducible refine (QV.out _).mono ?_);rintro e3 w3 ⟨rfl,h7⟩;(have h8:=h7.symm);subst h8;clear h7;simp only [])
      go_region_law (go_simp;go_at_call 243;(with_reducible refine QN.out.mono ?_);rintro e7 w7 ⟨rfl,rfl⟩)
      all_goals
       go_wp2;go_roundw
       case rel=>exact ⟨m + 1,_,by go_num,c,q⟩
       case measure=>simp [intOf];omega
    ·have em:m=tr.length:=by omega
     have ae:¬ (m:Int) < (tr.length:Int):=by omega
     subst em;have FR:=hide (S.out _ _ b.out);clear b S ad c ab E1 p;go_wp2;go_end0;exact ⟨rfl,FR.out⟩
end
section
variable {Z:Nat->Prop} {sb ob hb kb n:Nat} {L0:List Cl} {N0:Nat} {w w':World} {s:St}
theorem KG.Pk {C e:iQ} {ro:Nat->Nat} (h:KG L0 C) (g:Hl C e ro):KG L0 e:=fun c i=>by
 rcases h c i with b | ⟨a,d,b,l,j⟩
 ·exact .inl b
 ·exact .inr ⟨ro a,d,g.X5 a d b (by omega),l,j⟩
theorem Cs (H:n <= 50) (t:0 < n):zL Z sb ob hb kb n L0 N0:=fun w s h E z R=>by
 have r:0 < s.cs.length:=by
  rcases Nat.eq_zero_or_pos s.cs.length with e | e
  ·have S:s.cs=[]:=List.eq_nil_of_length_eq_zero e;rw [h.wR,S] at z;exact absurd z (by decide)
  ·exact e
 have d:∀ x,x < 2 * n->∀ a ∈ s.wl x,RZ s.cs a:=fun x o a u=>by
  obtain ⟨c,⟨g1,g2,_⟩,_⟩:=h.pi.oH.lists x o a u;obtain ⟨k,p,e,rfl⟩:=dO g1;exact ⟨k,p,e,g2⟩
 refine (Ct (n:=n) (wl:=s.wl) (tr:=s.tr) (ch:=s.ch) (lev:=s.lev) (rea:=s.rea) h.dI.duo.dF h.x0 R r s.lc s.ws h.f3 h.f4 (by rw [h.wR];exact Ch _) h.gB h.pi.dI h.gP rfl H t d (fun x o=>?_) (fun i I F=>?_)).mono ?_
 ·refine Nat.le_trans (ER (h.pi.oH.nodup x o) (N:=(enc s.cs).length) fun a u=>?_) (by omega);obtain ⟨k,p,rfl,_⟩:=d x o a u;have:=eD p;omega
 ·obtain ⟨a,c,e,g1,g2⟩:=h.pi.o7.live I F;obtain ⟨k,p,T,rfl⟩:=dO g1;exact ⟨a,e,k,p,T,g2⟩
 ·rintro e w' ⟨rfl,M,jH,v0,A,hb,hd,Q,q,P,O,v⟩;have m:=TJ hb hd;have l:∀ j,j ≠ 2->j ≠ 4->(upd (upd s.f 2 v0) 4 (.int .i64 0)) j=s.f j:=fun j a b=>by rw [cu _ _ b,cu _ _ a]
  obtain ⟨D,B⟩:=h.dI.gK Q M (l 12 (by decide) (by decide))
  refine ⟨rfl,B,{ s with cs:=xz s.cs,rea:=ED (uY jH) s.tr s.rea s.tr.length,wl:=fun x=>(s.wl x).map (uY jH),f:=upd (upd s.f 2 v0) 4 (.int .i64 0),V:=upd s.V 0 v0,X:=A,ws:=0,Rs:=(fun g=>zz s.Rs w g/\g < w'.heap.size),Rd:=(fun g=>zz s.Rd w g/\g < w'.heap.size) },{
   dI:=D
   pi:={
    dI:=h.pi.dI
    o7:=h.pi.o7.VR m
    lZ:=h.pi.lZ.Pk m
    oH:=h.pi.oH.Pk m h.pi.lZ (fun x o=>rfl)
    vX:=h.pi.vX.Pk m }
   x0:=q
   gB:=P
   gP:=O
   lam:=h.lam.congr (v 6 (by decide) (by decide) (by decide))
   n10:=by show (A 10).length=n;rw [v 10 (by decide) (by decide) (by decide)];exact h.n10
   oV:=by
    obtain ⟨y,J⟩:=h.oV;exact ⟨y,J.congr (v 11 (by decide) (by decide) (by decide))⟩
   f0:=(l 0 (by decide) (by decide)).trans h.f0
   f3:=(l 3 (by decide) (by decide)).trans h.f3
   f4:=by show (upd (upd s.f 2 v0) 4 (.int .i64 0)) 4=.int .i64 ((0:Nat):Int);rw [cz];rfl
   f7:=(l 7 (by decide) (by decide)).trans h.f7
   f14:=(l 14 (by decide) (by decide)).trans h.f14
   f18:=(l 18 (by decide) (by decide)).trans h.f18
   f20:=(l 20 (by decide) (by decide)).trans h.f20
   f21:=(l 21 (by decide) (by decide)).trans h.f21
   AV:=h.AV
   late:=h.late
   rY:=h.rY
   zU:=fun hb=>(h.zU hb).Pk m
   bad:=h.bad
   lines:=h.lines
   yJ:=h.yJ
   tN:=by show vP s.L (nS (xz s.cs));rw [TV];exact h.tN
   DZ:=h.DZ.Pk m
   num:=by
    show (enc (xz s.cs)).length <= _
    exact Nat.le_trans TW h.num
   wU:=by show (dK s.ls).length + 125 * iM (xz s.cs) <= _;rw [Fj];exact h.wU
   cnt:=by show s.lc=iM (xz s.cs);rw [Fj];exact h.cnt
   wR:=Pv.symm
   gM:=h.gM
   lcm:=h.lcm
   km:=h.km
   n30:=h.n30 },E,rfl,rfl,rfl,rfl,rfl⟩
theorem Gc (b:n <= 50) (a:0 < n):uO Z sb ob hb kb n L0 N0 (fun s=>N0 + 33 * s.m <= 1099511627776/\s.m <= 137438953472/\s.mo <= 4611686018427387904):=Jd (Cs b a) b a
end
end
end So
end Go.Proofs.YtceahffmenbibaaGreatDoor
