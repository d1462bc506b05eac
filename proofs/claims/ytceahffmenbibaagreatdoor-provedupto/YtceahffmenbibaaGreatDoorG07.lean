/- Sfls Sfwk. -/
import Derived.Test.YtceahffmenbibaaGreatDoorG06
set_option linter.unusedVariables false
set_option linter.unusedSimpArgs false
namespace Go.Proofs.YtceahffmenbibaaGreatDoor
namespace So
open Go Go.RowKit Go.Deep Rd
def PermC (cs cs':List Rec):Prop:=cs'.length=cs.length∧∀ k (h:k < cs.length) (h':k < cs'.length),(cs'[k]).kind=(cs[k]).kind∧(cs'[k]).busy=(cs[k]).busy∧(cs'[k]).lits.Perm (cs[k]).lits
theorem PermC.refl (cs:List Rec):PermC cs cs:=⟨rfl,fun k _ _=>⟨rfl,rfl,.refl _⟩⟩
theorem PermC.trans {a b c:List Rec} (h:PermC a b) (h':PermC b c):PermC a c:=⟨h'.1.trans h.1,fun k h1 h2=>by
 have hb:k < b.length:=by rw [h.1];exact h1
 obtain ⟨x1,x2,x3⟩:=h.2 k h1 hb
 obtain ⟨y1,y2,y3⟩:=h'.2 k hb h2
 exact ⟨y1.trans x1,y2.trans x2,y3.trans x3⟩⟩
theorem PermC.set {cs:List Rec} {k:Nat} (hk:k < cs.length) {c:Rec} (h1:c.kind=(cs[k]).kind) (h2:c.busy=(cs[k]).busy) (h3:c.lits.Perm (cs[k]).lits):PermC cs (cs.set k c):=⟨by simp,fun j h h'=>by
 by_cases e:k=j
 ·subst e;simp only [List.getElem_set_self];exact ⟨h1,h2,h3⟩
 ·rw [List.getElem_set_ne e];exact ⟨rfl,rfl,.refl _⟩⟩
theorem PermC.adr {cs cs':List Rec} (h:PermC cs cs'):∀ k,k ≤ cs.length→adr cs' k=adr cs k
 | 0,_=>by rw [adr_zero,adr_zero]
 | k + 1,hk=>by
  have hk':k < cs'.length:=by rw [h.1];exact hk
  rw [adr_succ hk',adr_succ (show k < cs.length from hk),h.adr k (by omega),(h.2 k hk hk').2.2.length_eq]
theorem PermC.len {cs cs':List Rec} (h:PermC cs cs'):(enc cs').length=(enc cs).length:=by
 rw [← adr_all (Nat.le_refl _),← adr_all (cs:=cs) (Nat.le_refl _),h.1]
 exact h.adr _ (Nat.le_refl _)
theorem PermC.same {cs cs':List Rec} (h:PermC cs cs'):SameC (mapOf cs) (mapOf cs'):=fun a=>by
 cases e1:mapOf cs a with
 | none=>
  refine .inl ⟨rfl,?_⟩
  cases e2:mapOf cs' a with
  | none=>rfl
  | some d=>
   obtain ⟨k,hk,ha,_⟩:=mapOf_some e2
   have hk2:k < cs.length:=by rw [← h.1];exact hk
   rw [h.adr k (Nat.le_of_lt hk2)] at ha
   rw [ha,mapOf_at hk2] at e1;cases e1
 | some c=>
  obtain ⟨k,hk,ha,hc⟩:=mapOf_some e1
  have hk2:k < cs'.length:=by rw [h.1];exact hk
  have:=mapOf_at hk2
  rw [h.adr k (Nat.le_of_lt hk),← ha] at this
  obtain ⟨x1,_,x3⟩:=h.2 k hk hk2
  subst hc
  exact .inr ⟨_,_,rfl,this,x1,x3⟩
theorem Mat.perm {L:List Cl}:∀ {cs cs':List Rec},PermC cs cs'→Mat L (lvs cs)→Mat L (lvs cs'):=by
 have key:∀ (cs cs':List Rec),PermC cs cs'→∀ e,(lvs cs').countP (fun y=>sameB (y.map wr) e)=(lvs cs).countP (fun y=>sameB (y.map wr) e):=by
  intro cs
  induction cs with
  | nil=>intro cs' h e;have:cs'=[]:=List.eq_nil_of_length_eq_zero (by rw [h.1];rfl);subst this;rfl
  | cons c r ih=>
   intro cs' h e
   match cs',h with
   | [],h=>have:=h.1;simp at this
   | c' :: r',h=>
    obtain ⟨x1,_,x3⟩:=h.2 0 (by simp) (by simp)
    simp only [List.getElem_cons_zero] at x1 x3
    have hr:PermC r r':=⟨by have:=h.1;simpa using this,fun k h1 h2=>by
     have:=h.2 (k + 1) (by simpa using h1) (by simpa using h2)
     simpa using this⟩
    have:=ih r' hr e
    have e2:∀ (d:Rec) (s:List Rec),lvs (d :: s)=lvs [d] ++ lvs s:=fun d s=>by unfold lvs;rw [← List.map_append,← List.filter_append];rfl
    rw [e2 c',e2 c,List.countP_append,List.countP_append,this]
    congr 1
    unfold lvs
    by_cases g:c.kind=2
    ·simp [x1,g]
    ·simp only [List.filter_cons,List.filter_nil,x1,g,ne_eq,not_false_eq_true,decide_true,if_true,List.map_cons,List.map_nil,List.countP_cons,List.countP_nil]
     rw [sameB_congr (a:=c'.lits.map wr) (a':=c.lits.map wr) (fun x=>(x3.map wr).mem_iff) e]
 intro cs cs' h hm
 exact hm.congr fun e=>Nat.le_of_eq (key cs cs' h e)
theorem mapOf_lt {cs:List Rec} {a:Nat} {c:Cls} (h:mapOf cs a=some c):a < (enc cs).length:=by
 obtain ⟨k,hk,ha,_⟩:=mapOf_some h
 have:=adr_end hk
 omega
theorem WaI.len {n:Nat} {cs:List Rec} {W:Nat→List Nat} (h:WaI n (mapOf cs) W) {x:Nat} (hx:x < 2 * n):(W x).length ≤ (enc cs).length:=
 len_le_of_lt _ _ (h.nodup x hx) fun a ha=>by
  obtain ⟨c,⟨h1,_,_⟩,_⟩:=h.lists x hx a ha
  exact mapOf_lt h1
variable {n lit p i:Nat} {ch orig kl tr:List Nat} {C:Cmap} {lev:Nat→Nat} {rea:Nat→Int} {wl:Nat→List Nat}
theorem putC_same {a:Nat} {c:Cls} (h:C a=some c):putC C a c=C:=by
 funext b
 by_cases e:b=a
 ·subst e;rw [putC_self,h]
 ·rw [putC_other _ _ e]
theorem FI.second (h:FI n lit p ch orig i C tr lev rea wl kl) (hi:i < orig.length) {c:Cls} (hC:C orig[i]=some c) {q:Nat} {r:List Nat} (hl:c.lits=lit :: q :: r∨c.lits=q :: lit :: r):FI n lit p ch orig i (putC C orig[i] ⟨c.kind,q :: lit :: r⟩) tr lev rea wl kl:=by
 rcases hl with e | e
 ·exact h.swap hi hC e
 ·have:putC C orig[i] ⟨c.kind,q :: lit :: r⟩=C:=putC_same (by rw [hC,← e])
  rw [this];exact h
structure FalSt (Z:Nat→Prop) (sb:Nat) (w:World) (K:Nat) (f:Nat→Value) (X:Nat→List Value) (n lit p:Nat) (ch orig:List Nat) (VL:Value) (cs:List Rec) (tr0:List Nat) (i:Nat) (kl ml:List Nat) (cs':List Rec) (tr:List Nat) (lev:Nat→Nat) (rea:Nat→Int) (wl:Nat→List Nat) (f' V':Nat→Value) (X':Nat→List Value) (wr:World):Prop where
 fi:FI n lit p ch orig i (mapOf cs') tr lev rea wl kl
 sol:Sol Z sb wr K f' V' X'
 x0:X' 0=ints (enc cs')
 trm:TrM n X' tr ch lev rea
 wam:WaM n V' X' (fun x=>if x=lit then ml else wl x)
 hv:V' (16 + lit)=VL
 perm:PermC cs cs'
 only:∀ k,6 ≤ k→k ≠ 9→k < 16→X' k=X k
 ff:∀ j,j ≠ 6→f' j=f j
 ext:∃ e,tr=tr0 ++ e
 chg:Chg Z w wr
variable {Z:Nat→Prop} {sb K:Nat} {w wr w':World} {f f' V V' V'':Nat→Value} {X X' X'':Nat→List Value} {cs cs':List Rec} {tr0 ml:List Nat} {VL:Value}
theorem FalSt.later (h:FalSt Z sb w K f X n lit p ch orig VL cs tr0 i kl ml cs' tr lev rea wl f' V' X' wr) (hb:Below wr.heap.size wr w'):FalSt Z sb w K f X n lit p ch orig VL cs tr0 i kl ml cs' tr lev rea wl f' V' X' w':=
 { h with sol:=h.sol.later hb,chg:=h.chg.trans (Chg.of_below hb) }
theorem FalSt.stays (h:FalSt Z sb w K f X n lit p ch orig VL cs tr0 i kl ml cs' tr lev rea wl f' V' X' wr) (hi:i < orig.length) {k q:Nat} {r:List Nat} (hk:k < cs'.length) (ha:orig[i]=adr cs' k) (hl:(cs'[k]).lits=lit :: q :: r∨(cs'[k]).lits=q :: lit :: r)
  (hs:Sol Z sb w' K f' V'' X'') (hc:Chg Z wr w') (ho:OnlyCW X' X'') (h0:X'' 0=ints (enc (cs'.set k ⟨(cs'[k]).kind,(cs'[k]).busy,q :: lit :: r⟩))) (hw:WaM n V'' X'' (fun x=>if x=lit then ml else wl x)) (hv:V'' (16 + lit)=V' (16 + lit)):
  FalSt Z sb w K f X n lit p ch orig VL cs tr0 i kl ml (cs'.set k ⟨(cs'[k]).kind,(cs'[k]).busy,q :: lit :: r⟩) tr lev rea wl f' V'' X'' w' where
 fi:=by
  have hC:mapOf cs' orig[i]=some ⟨(cs'[k]).kind,(cs'[k]).lits⟩:=by rw [ha];exact mapOf_at hk
  have:=h.fi.second hi hC hl
  rw [mapOf_set hk (by rcases hl with e | e <;> rw [e] <;> simp),← ha]
  exact this
 sol:=hs
 x0:=h0
 trm:=h.trm.congr fun j h1 h2=>ho j (by omega) (by omega) (by omega)
 wam:=hw
 hv:=hv.trans h.hv
 perm:=h.perm.trans (PermC.set hk rfl rfl (by
  rcases hl with e | e
  ·rw [e];exact List.Perm.swap ..
  ·rw [e]))
 only:=fun j h1 h2 h3=>(ho j (by omega) h2 h3).trans (h.only j h1 h2 h3)
 ff:=h.ff
 ext:=h.ext
 chg:=h.chg.trans hc
theorem FalSt.moves (h:FalSt Z sb w K f X n lit p ch orig VL cs tr0 i kl (mix kl orig) cs' tr lev rea wl f' V' X' wr) (hi:i < orig.length) {k q j o:Nat} {r:List Nat} (hk:k < cs'.length) (hkd:(cs'[k]).kind ≠ 2) (ha:orig[i]=adr cs' k) (hl:(cs'[k]).lits=lit :: q :: r∨(cs'[k]).lits=q :: lit :: r)
  (hs:Sol Z sb w' K f' V'' X'') (hc:Chg Z wr w') (ho:OnlyCW X' X'') (hq:tv tr q ≠ 1) (hr:r[j]? = some o) (hto:tv tr o ≠ -1) (h0:X'' 0=ints (enc (cs'.set k ⟨(cs'[k]).kind,(cs'[k]).busy,q :: o :: r.set j lit⟩))) (hw:WaM n V'' X'' (fun x=>if x=o then (if x=lit then mix kl orig else wl x) ++ [adr cs' k] else if x=lit then mix kl orig else wl x)) (hv:V'' (16 + lit)=V' (16 + lit)):
  FalSt Z sb w K f X n lit p ch orig VL cs tr0 (i + 1) kl (mix kl orig) (cs'.set k ⟨(cs'[k]).kind,(cs'[k]).busy,q :: o :: r.set j lit⟩) tr lev rea (fun x=>if x=o then wl x ++ [orig[i]] else wl x) f' V'' X'' w':=by
 have hC:mapOf cs' orig[i]=some ⟨(cs'[k]).kind,(cs'[k]).lits⟩:=by rw [ha];exact mapOf_at hk
 have f2:=h.fi.second hi hC hl
 have f3:=f2.move hi (putC_self ..) hkd rfl (fun hm=>hq (tv_true.2 hm)) hr (fun hm=>hto (h.fi.tri.tv_false.2 hm))
 have hv2:=h.fi.cli.vars _ _ hC
 have nol:o ≠ lit:=fun e=>by
  have hm:o ∈ r:=List.mem_of_getElem? hr
  rcases hl with e2 | e2
  ·rw [e2] at hv2
   simp only [List.map_cons,List.nodup_cons,List.mem_cons,List.mem_map,not_or,not_exists,not_and] at hv2
   exact hv2.1.2 o hm (by rw [e])
  ·rw [e2] at hv2
   simp only [List.map_cons,List.nodup_cons,List.mem_cons,List.mem_map,not_or,not_exists,not_and] at hv2
   exact hv2.2.1 o hm (by rw [e])
 exact {
  fi:=by
   have e1:putC (putC (mapOf cs') orig[i] ⟨(cs'[k]).kind,q :: lit :: r⟩) orig[i] ⟨(cs'[k]).kind,q :: o :: r.set j lit⟩=mapOf (cs'.set k ⟨(cs'[k]).kind,(cs'[k]).busy,q :: o :: r.set j lit⟩):=by
    rw [mapOf_set hk (by rcases hl with e | e <;> rw [e] <;> simp),← ha]
    funext b
    by_cases e:b=orig[i]
    ·subst e;rw [putC_self,putC_self]
    ·rw [putC_other _ _ e,putC_other _ _ e,putC_other _ _ e]
   rw [← e1];exact f3
  sol:=hs
  x0:=h0
  trm:=h.trm.congr fun j h1 h2=>ho j (by omega) (by omega) (by omega)
  wam:=by
   have e1:(fun x=>if x=o then (if x=lit then mix kl orig else wl x) ++ [adr cs' k] else if x=lit then mix kl orig else wl x)=fun x=>if x=lit then mix kl orig else if x=o then wl x ++ [orig[i]] else wl x:=by
    funext x
    by_cases e:x=o
    ·subst e;rw [if_pos rfl,if_neg nol,if_neg nol,if_pos rfl,ha]
    ·rw [if_neg e,if_neg e]
   rw [← e1];exact hw
  hv:=hv.trans h.hv
  perm:=h.perm.trans (PermC.set hk rfl rfl (by
   have:=perm_move (q:=q) (lit:=lit) hr
   rcases hl with e | e
   ·rw [e];exact this.trans (List.Perm.swap ..)
   ·rw [e];exact this))
  only:=fun j h1 h2 h3=>(ho j (by omega) h2 h3).trans (h.only j h1 h2 h3)
  ff:=h.ff
  ext:=h.ext
  chg:=h.chg.trans hc }
theorem FalSt.store (h:FalSt Z sb w K f X n lit p ch orig VL cs tr0 i kl (mix kl orig) cs' tr lev rea wl f' V' X' wr) (hK:16 + lit < K) (hk:kl.length < orig.length) {gw cw:Nat} (hVL:VL=.slice (some ⟨gw,0,none⟩) orig.length cw) (a:Nat):FalSt Z sb w K f X n lit p ch orig VL cs tr0 i kl (mix (kl ++ [a]) orig) cs' tr lev rea wl f' V' (upd X' (16 + lit) (nats (mix (kl ++ [a]) orig))) (wr.setCell ⟨gw,kl.length,none⟩ (.int .i64 (a:Nat))) where
 fi:=h.fi
 sol:=by
  have:=h.sol.set hK (h.hv.trans hVL) kl.length (.int .i64 (a:Nat))
  rw [h.wam.row lit h.fi.lit_lt,if_pos rfl,nats_set,mix_set hk] at this
  exact this
 x0:=by rw [upd_other _ _ (by omega)];exact h.x0
 trm:=h.trm.congr fun j h1 h2=>upd_other _ _ (by omega)
 wam:=⟨by rw [upd_other _ _ (by omega)];exact h.wam.n9,fun x hx=>by rw [upd_other _ _ (by omega)];exact h.wam.hd x hx,fun x hx=>by
  by_cases e:x=lit
  ·subst e;rw [upd_self,if_pos rfl]
  ·rw [upd_other _ _ (by omega),if_neg e]
   have:=h.wam.row x hx
   rwa [if_neg e] at this⟩
 hv:=h.hv
 perm:=h.perm
 only:=fun j h1 h2 h3=>by rw [upd_other _ _ (by omega)];exact h.only j h1 h2 h3
 ff:=h.ff
 ext:=h.ext
 chg:=h.chg.setCell (h.sol.al _ hK gw (by rw [h.hv,hVL];rfl)) _
theorem FalSt.keepT (h:FalSt Z sb w K f X n lit p ch orig VL cs tr0 i kl ml cs' tr lev rea wl f' V' X' wr) (hi:i < orig.length) {k q:Nat} {r:List Nat} (hk:k < cs'.length) (ha:orig[i]=adr cs' k) (hl:(cs'[k]).lits=q :: lit :: r) (hq:tv tr q=1):FalSt Z sb w K f X n lit p ch orig VL cs tr0 (i + 1) (kl ++ [orig[i]]) ml cs' tr lev rea wl f' V' X' wr:=
 { h with fi:=h.fi.keep hi (by rw [ha];exact mapOf_at hk) hl (tv_true.1 hq) }
theorem FalSt.unitT (h:FalSt Z sb w K f X n lit p ch orig VL cs tr0 i kl ml cs' tr lev rea wl f' V' X' wr) (hi:i < orig.length) {k q:Nat} {r:List Nat} (hk:k < cs'.length) (hkd:(cs'[k]).kind ≠ 2) (ha:orig[i]=adr cs' k) (hl:(cs'[k]).lits=q :: lit :: r) (hq:tv tr q=0) (hr:∀ y ∈ r,tv tr y=-1)
  {v':Value} (hs:Sol Z sb w' K (upd f' 6 v') (upd V' 1 v') (assignX X' q (orig[i]:Nat) ch.length)) (hc:Chg Z wr w'):FalSt Z sb w K f X n lit p ch orig VL cs tr0 (i + 1) (kl ++ [orig[i]]) ml cs' (tr ++ [q]) (updN lev (q / 2) ch.length) (updN rea (q / 2) (orig[i]:Nat)) wl (upd f' 6 v') (upd V' 1 v') (assignX X' q (orig[i]:Nat) ch.length) w':=by
 have hC:mapOf cs' orig[i]=some ⟨(cs'[k]).kind,(cs'[k]).lits⟩:=by rw [ha];exact mapOf_at hk
 have hql:q < 2 * n:=h.fi.cli.lt _ _ hC q (by rw [hl];simp)
 have ao:∀ j,6 ≤ j→assignX X' q (orig[i]:Nat) ch.length j=X' j:=fun j hj=>assignX_other _ _ _ _ (by omega) (by omega) (by omega) (by omega)
 exact {
  fi:=h.fi.unit hi hC hkd hl hq fun y hy=>h.fi.tri.tv_false.1 (hr y hy)
  sol:=hs
  x0:=by rw [assignX_other _ _ _ _ (by decide) (by decide) (by decide) (by decide)];exact h.x0
  trm:=h.trm.assign hql hq _ h.trm.l2 (fun _ _=>rfl)
  wam:=h.wam.congr (ao 9 (by omega)) (fun x _=>upd_other _ _ (by omega)) (fun x _=>ao _ (by omega))
  hv:=by rw [upd_other _ _ (by omega)];exact h.hv
  perm:=h.perm
  only:=fun j h1 h2 h3=>(ao j h1).trans (h.only j h1 h2 h3)
  ff:=fun j hj=>by rw [upd_other _ _ hj];exact h.ff j hj
  ext:=by
   obtain ⟨e,he⟩:=h.ext
   exact ⟨e ++ [q],by rw [he,List.append_assoc]⟩
  chg:=h.chg.trans hc }
structure FalEnd (Z:Nat→Prop) (sb:Nat) (w:World) (K:Nat) (f:Nat→Value) (X:Nat→List Value) (n lit p:Nat) (ch:List Nat) (VL:Value) (cs:List Rec) (tr0:List Nat) (kept:Nat) (res:Int) (ml:List Nat) (cs':List Rec) (tr:List Nat) (lev:Nat→Nat) (rea:Nat→Int) (wl:Nat→List Nat) (f' V':Nat→Value) (X':Nat→List Value) (wr:World):Prop where
 tri:TrI n tr ch lev
 rei:ReI (mapOf cs') tr ch rea
 cli:ClI n (mapOf cs')
 wai:WaI n (mapOf cs') (fun x=>if x=lit then ml.take kept else wl x)
 res:(res=-1∧SpI (mapOf cs') tr lev (p + 1))∨(SpI (mapOf cs') tr lev p∧∃ k,∃ hk:k < cs'.length,res=(adr cs' k:Nat)∧(cs'[k]).kind ≠ 2∧(∀ y ∈ (cs'[k]).lits,op y ∈ tr)∧lit ∈ (cs'[k]).lits)
 sol:Sol Z sb wr K f' V' X'
 x0:X' 0=ints (enc cs')
 trm:TrM n X' tr ch lev rea
 wam:WaM n V' X' (fun x=>if x=lit then ml else wl x)
 hv:V' (16 + lit)=VL
 perm:PermC cs cs'
 only:∀ k,6 ≤ k→k ≠ 9→k < 16→X' k=X k
 ff:∀ j,j ≠ 6→f' j=f j
 ext:∃ e,tr=tr0 ++ e
 chg:Chg Z w wr
 litn:lit < 2 * n
def FalExit (Z:Nat→Prop) (sb:Nat) (w:World) (K:Nat) (f:Nat→Value) (X:Nat→List Value) (n lit p:Nat) (ch:List Nat) (VL:Value) (m:Nat) (cs:List Rec) (tr0:List Nat) (s6 s7:Value) (wr:World):Prop:=
 ∃ kept res ml cs' tr lev rea wl f' V' X',s6=.int .i64 ((kept:Nat):Int)∧s7=.int .i64 res∧kept ≤ m∧ml.length=m∧Hid (FalEnd Z sb w K f X n lit p ch VL cs tr0 kept res ml cs' tr lev rea wl f' V' X' wr)
theorem FalSt.atEnd (h:FalSt Z sb w K f X n lit p ch orig VL cs tr0 orig.length kl (mix kl orig) cs' tr lev rea wl f' V' X' wr):FalEnd Z sb w K f X n lit p ch VL cs tr0 kl.length (-1) (mix kl orig) cs' tr lev rea wl f' V' X' wr:=
 { h with
  tri:=h.fi.tri
  rei:=h.fi.rei
  cli:=h.fi.cli
  wai:=by rw [mix_take];exact h.fi.done.2
  res:=.inl ⟨rfl,h.fi.done.1⟩
  litn:=h.fi.lit_lt }
theorem FalSt.confl {a:Nat} (h:FalSt Z sb w K f X n lit p ch orig VL cs tr0 i kl (mix (kl ++ [a]) orig) cs' tr lev rea wl f' V' X' wr) (hi:i < orig.length) (haa:a=orig[i]) (hK:16 + lit < K) {k q:Nat} {r:List Nat} (hk:k < cs'.length) (hkd:(cs'[k]).kind ≠ 2) (ha:orig[i]=adr cs' k) (hl:(cs'[k]).lits=q :: lit :: r) (hq:tv tr q=-1) (hr:∀ y ∈ r,tv tr y=-1)
  {R:List Nat} (hR:R=(kl ++ [a]) ++ orig.drop (i + 1) ++ orig.drop ((kl ++ [a]).length + (orig.length - (i + 1)))) (hs:Sol Z sb w' K f' V' (upd X' (16 + lit) (nats R))) (hc:Chg Z wr w'):
  FalEnd Z sb w K f X n lit p ch VL cs tr0 ((kl ++ [a]).length + (orig.length - (i + 1))) (adr cs' k:Nat) R cs' tr lev rea wl f' V' (upd X' (16 + lit) (nats R)) w' where
 tri:=h.fi.tri
 rei:=h.fi.rei
 cli:=h.fi.cli
 wai:=by
  have e:R.take ((kl ++ [a]).length + (orig.length - (i + 1)))=kl ++ orig.drop i:=by
   rw [hR,List.take_append_of_le_length (by simp;omega),List.take_of_length_le (by simp;omega),haa,List.drop_eq_getElem_cons hi,List.append_assoc];rfl
  rw [e];exact h.fi.wai
 res:=.inr ⟨h.fi.spi,k,hk,rfl,hkd,fun y hy=>by
  rw [hl] at hy
  simp only [List.mem_cons] at hy
  rcases hy with rfl | rfl | hy
  ·exact h.fi.tri.tv_false.1 hq
  ·exact h.fi.false_lit
  ·exact h.fi.tri.tv_false.1 (hr y hy),by rw [hl];simp⟩
 sol:=hs
 x0:=by rw [upd_other _ _ (by omega)];exact h.x0
 trm:=h.trm.congr fun j h1 h2=>upd_other _ _ (by omega)
 wam:=⟨by rw [upd_other _ _ (by omega)];exact h.wam.n9,fun x hx=>by rw [upd_other _ _ (by omega)];exact h.wam.hd x hx,fun x hx=>by
  by_cases e:x=lit
  ·subst e;rw [upd_self,if_pos rfl]
  ·rw [upd_other _ _ (by omega),if_neg e]
   have:=h.wam.row x hx
   rwa [if_neg e] at this⟩
 hv:=h.hv
 perm:=h.perm
 only:=fun j h1 h2 h3=>by rw [upd_other _ _ (by omega)];exact h.only j h1 h2 h3
 ff:=h.ff
 ext:=h.ext
 chg:=h.chg.trans hc
 litn:=h.fi.lit_lt
def FalRel (Z:Nat→Prop) (sb:Nat) (w:World) (K:Nat) (f:Nat→Value) (X:Nat→List Value) (n lit p:Nat) (ch orig:List Nat) (VL:Value) (cs:List Rec) (tr0:List Nat) (s6 s7 s20:Value) (wr:World):Prop:=
 ∃ i kl cs' tr lev rea wl f' V' X',s6=.int .i64 ((kl.length:Nat):Int)∧s7=.int .i64 (-1)∧s20=.int .i64 ((i:Nat):Int)∧Hid (FalSt Z sb w K f X n lit p ch orig VL cs tr0 i kl (mix kl orig) cs' tr lev rea wl f' V' X' wr)
structure FalPost (Z:Nat→Prop) (sb:Nat) (w:World) (K:Nat) (f:Nat→Value) (X:Nat→List Value) (n lit p:Nat) (ch:List Nat) (cs:List Rec) (tr0:List Nat) (res:Int) (cs':List Rec) (tr:List Nat) (lev:Nat→Nat) (rea:Nat→Int) (wl:Nat→List Nat) (f' V':Nat→Value) (X':Nat→List Value) (wr:World):Prop where
 tri:TrI n tr ch lev
 rei:ReI (mapOf cs') tr ch rea
 cli:ClI n (mapOf cs')
 wai:WaI n (mapOf cs') wl
 res:(res=-1∧SpI (mapOf cs') tr lev (p + 1))∨(SpI (mapOf cs') tr lev p∧∃ k,∃ hk:k < cs'.length,res=(adr cs' k:Nat)∧(cs'[k]).kind ≠ 2∧(∀ y ∈ (cs'[k]).lits,op y ∈ tr)∧lit ∈ (cs'[k]).lits)
 sol:Sol Z sb wr K f' V' X'
 x0:X' 0=ints (enc cs')
 trm:TrM n X' tr ch lev rea
 wam:WaM n V' X' wl
 perm:PermC cs cs'
 only:∀ k,6 ≤ k→k ≠ 9→k < 16→X' k=X k
 ff:∀ j,j ≠ 6→f' j=f j
 ext:∃ e,tr=tr0 ++ e
 chg:Chg Z w wr
def FalRet (Z:Nat→Prop) (sb:Nat) (w:World) (K:Nat) (f:Nat→Value) (X:Nat→List Value) (n lit p:Nat) (ch:List Nat) (cs:List Rec) (tr0:List Nat) (e:Ending) (w':World):Prop:=
 ∃ res cs' tr lev rea wl f' V' X',e=.returned (.int .i64 res)∧FalPost Z sb w K f X n lit p ch cs tr0 res cs' tr lev rea wl f' V' X' w'
theorem FalEnd.out {kept:Nat} {res:Int} (h:FalEnd Z sb w K f X n lit p ch VL cs tr0 kept res ml cs' tr lev rea wl f' V' X' wr) (hK2:K=16 + 2 * n) {wa:Option Addr} {m cw g9 n9 c9:Nat} (hVL:VL=.slice wa m cw) (hkm:kept ≤ ml.length) (hv9:V' 9=.slice (some ⟨g9,0,none⟩) n9 c9):
  FalRet Z sb w K f X n lit p ch cs tr0 (.returned (.int .i64 res)) (wr.setCell ⟨g9,lit,none⟩ (.slice wa kept cw)):=by
 have hl:=h.litn
 have hx:X' (16 + lit)=nats ml:=by have:=h.wam.row lit hl;rwa [if_pos rfl] at this
 have hK:16 + lit < K:=by omega
 have s:=h.sol.cutW hK hv9 (h.hv.trans hVL) (m:=kept) (by rw [hx,nats_len];exact hkm)
 refine ⟨res,cs',tr,lev,rea,fun x=>if x=lit then ml.take kept else wl x,f',_,_,rfl,{
  tri:=h.tri
  rei:=h.rei
  cli:=h.cli
  wai:=h.wai
  res:=h.res
  sol:=s
  x0:=by rw [upd_other _ _ (by decide),upd_other _ _ (by omega)];exact h.x0
  trm:=h.trm.congr fun j h1 h2=>by rw [upd_other _ _ (by omega),upd_other _ _ (by omega)]
  wam:=by
   have:=h.wam.put hl (l:=ml.take kept) (R:=(X' (16 + lit)).take kept) (by rw [hx,nats_take]) (.slice wa kept cw)
   have e:(fun y=>if y=lit then ml.take kept else if y=lit then ml else wl y)=fun x=>if x=lit then ml.take kept else wl x:=by
    funext y
    by_cases e:y=lit
    ·rw [if_pos e,if_pos e]
    ·rw [if_neg e,if_neg e,if_neg e]
   rw [e] at this;exact this
  perm:=h.perm
  only:=fun j h1 h2 h3=>by rw [upd_other _ _ h2,upd_other _ _ (by omega)];exact h.only j h1 h2 h3
  ff:=h.ff
  ext:=h.ext
  chg:=h.chg.setCell (h.sol.al 9 (by omega) g9 (by rw [hv9];rfl)) _ }⟩
theorem FalSt.conflExit {a:Nat} (h:FalSt Z sb w K f X n lit p ch orig VL cs tr0 i kl (mix (kl ++ [a]) orig) cs' tr lev rea wl f' V' X' wr) (hi:i < orig.length) (haa:a=orig[i]) (hK:16 + lit < K) {k q:Nat} {r:List Nat} (hk:k < cs'.length) (hkd:(cs'[k]).kind ≠ 2) (ha:orig[i]=adr cs' k) (hl:(cs'[k]).lits=q :: lit :: r) (hq:tv tr q=-1) (hr:∀ y ∈ r,tv tr y=-1)
  {gb cap kn ii N:Nat} {cur:Array Value} (hVL:VL=.slice (some ⟨gb,0,none⟩) orig.length cap) (hkn:kn=kl.length + 1) (hii:ii=i + 1) (hN:N=orig.length - ii) (hg:wr.heap[gb]? = some (.cells cur 3 (0,0))) (q1:w'.heap[gb]? = some (.cells (splice cur.toList kn (nats (orig.drop ii))).toArray 3 (0,0))) (q2:∀ k,k ≠ gb→w'.heap[k]? = wr.heap[k]?) (q3:Below 0 wr w'):
  FalExit Z sb w K f X n lit p ch VL orig.length cs tr0 (.int .i64 ((kn + N:Nat):Int)) (.int .i64 (a:Nat)) w':=by
 have hx3:X' (16 + lit)=nats (mix (kl ++ [a]) orig):=by have:=h.wam.row lit h.fi.lit_lt;rwa [if_pos rfl] at this
 have kll:(kl ++ [a]).length=kn:=by rw [hkn];simp
 have hkl:=h.fi.klen
 rw [← kll] at q1
 obtain ⟨sC,cC⟩:=h.sol.copied hK (h.hv.trans hVL) hx3 (i:=ii) (by rw [kll];omega) (by omega) hg q1 q2 q3
 have fe:=h.confl hi haa hK hk hkd ha hl hq hr (R:=(kl ++ [a]) ++ orig.drop ii ++ orig.drop ((kl ++ [a]).length + (orig.length - ii))) (by rw [hii]) sC cC
 have e1:(kl ++ [a]).length + (orig.length - (i + 1))=kn + N:=by omega
 have e2:adr cs' k=a:=by rw [haa,ha]
 rw [e1,e2] at fe
 exact ⟨kn + N,(a:Nat),_,cs',tr,lev,rea,wl,f',V',_,rfl,rfl,by omega,by simp;omega,fe⟩
theorem FalRet.later {e:Ending} {w'':World} (h:FalRet Z sb w K f X n lit p ch cs tr0 e w') (hb:Below w'.heap.size w' w''):FalRet Z sb w K f X n lit p ch cs tr0 e w'':=by
 obtain ⟨res,cs',tr,lev,rea,wl,f',V',X',h1,h2⟩:=h
 exact ⟨res,cs',tr,lev,rea,wl,f',V',X',h1,{ h2 with sol:=h2.sol.later hb,chg:=h2.chg.trans (Chg.of_below hb) }⟩
end So
end Go.Proofs.YtceahffmenbibaaGreatDoor
namespace Go.Proofs.YtceahffmenbibaaGreatDoor
namespace So
open Go Go.RowKit Go.Deep Rd
variable {Z:Nat→Prop} {sb K:Nat} {w w':World} {f V:Nat→Value} {X:Nat→List Value} {n:Nat} {wl:Nat→List Nat} {tr ch:List Nat} {lev:Nat→Nat} {rea:Nat→Int}
set_option maxHeartbeats 4000000 in
set_option maxRecDepth 100000 in
theorem falsify_any {cs:List Rec} {lit p:Nat} (h:Sol Z sb w K f V X) (hK2:K=16 + 2 * n) (h0:X 0=ints (enc cs)) (hn:n ≤ 50) (hN:(enc cs).length ≤ 549755813888) (hT:TrM n X tr ch lev rea) (hW:WaM n V X wl)
  (ht:TrI n tr ch lev) (hr:ReI (mapOf cs) tr ch rea) (hc:ClI n (mapOf cs)) (hw:WaI n (mapOf cs) wl) (hs:SpI (mapOf cs) tr lev p) (hp:tr[p]? = some (op lit)) (hlate:∀ q ∈ ch,q ≤ p):
  Calls Tryz.prog 138 #[.pointer (some ⟨sb,0,none⟩),.int .i64 (lit:Nat)] w fun e w'=>FalRet Z sb w K f X n lit p ch cs tr e w':=by
 have litn:lit < 2 * n:=by
  have:=op_lt (ht.lt _ (List.mem_of_getElem? hp))
  rwa [op_op] at this
 obtain ⟨g9,c9,wa,wcp,ev9,evx,q5,qx,zx,l9,n9,z9,ox⟩:=hW.at' h hK2 litn
 have olen:=hw.len litn
 have S0:Hid (FalSt Z sb w K f X n lit p ch (wl lit) (V (16 + lit)) cs tr 0 [] (mix [] (wl lit)) cs tr lev rea wl f V X w):={
  fi:=FI.start ht hr hc hw hs hp hlate
  sol:=h
  x0:=h0
  trm:=hT
  wam:=by
   rw [mix_nil]
   have e:(fun x=>if x=lit then wl lit else wl x)=wl:=by
    funext x;split
    ·rename_i e;rw [e]
    ·rfl
   rw [e];exact hW
  hv:=rfl
  perm:=PermC.refl _
  only:=fun _ _ _ _=>rfl
  ff:=fun _ _=>rfl
  ext:=⟨[],by simp⟩
  chg:=Chg.refl _ }
 have l00:(0:Int) ≤ (lit:Int):=by omega
 have l11:(lit:Int) < 2 * (n:Int):=by omega
 rw [evx] at S0
 have wforms:Hid ((wa=none∧(wl lit).length=0∧wcp=0)∨∃ gb,wa=some ⟨gb,0,none⟩∧(wl lit).length ≤ wcp):=by
  rcases ox.2 with ⟨e,h0⟩ | ⟨g,cap',cur,e,_,_,hn,_⟩
  ·obtain ⟨e1,e2,e3⟩:=Value.slice.inj e;exact .inl ⟨e1,e2,e3⟩
  ·obtain ⟨e1,e2,e3⟩:=Value.slice.inj e;exact .inr ⟨g,e1,by rw [e3];exact hn⟩
 clear h h0 hT hW ht hr hc hw hs hp hlate ev9 evx ox
 generalize wl lit=orig at *
 go_enter Tryz.func138,Tryz.ntmps138
 go_upto_region 3 with fail
 go_cut [7] from 8 (fun s7 wx=>s7=.int .i64 (-1)∧Hid (FalSt Z sb w K f X n lit p ch orig (.slice wa orig.length wcp) cs tr 0 [] (mix [] orig) cs tr lev rea wl f V X wx))
 case first=>
  go_wp2_with fail
  go_meet
  exact ⟨rfl,S0⟩
 case rest=>
 obtain ⟨rfl,S1⟩:=hcut
 clear S0 q5 qx zx l9 n9 z9
 rename_i hKK
 apply hKK
 apply wp_seq_k
 intro K2 hK2'
 go_cut [6,7] from 8 (fun s6 s7 wx=>FalExit Z sb w K f X n lit p ch (.slice wa orig.length wcp) orig.length cs tr s6 s7 wx)
 case first=>
  go_wp2_with fail
  go_loopw [6,7,8,9,10,20] (fun s6 s7 _ _ _ s20 wr=>FalRel Z sb w K f X n lit p ch orig (.slice wa orig.length wcp) cs tr s6 s7 s20 wr) (fun _ _ _ _ _ s20 _=>orig.length - (intOf s20).toNat)
  case atStart=>exact ⟨0,[],cs,tr,lev,rea,wl,f,V,X,rfl,rfl,rfl,S1⟩
  case round=>
   clear S1
   obtain ⟨i,kl,cs',tr',lev',rea',wl',f',V',X',rfl,rfl,rfl,hst⟩:=hrel
   have hil:=(unhide hst).fi.ilen
   have hkl:=(unhide hst).fi.klen
   by_cases hlt:i < orig.length
   ·obtain ⟨gb,rfl,hcap⟩:∃ gb,wa=some ⟨gb,0,none⟩∧orig.length ≤ wcp:=by
     rcases unhide wforms with ⟨_,h0,_⟩ | h
     ·omega
     ·exact h
    obtain ⟨c,⟨hC,hkd,hlen⟩,hl01⟩:=(unhide hst).fi.next hlt
    obtain ⟨k,hk,ha,rfl⟩:=mapOf_some hC
    simp only at hkd hlen hl01
    obtain ⟨q,r,hl⟩:∃ q r,(cs'[k]).lits=lit :: q :: r∨(cs'[k]).lits=q :: lit :: r:=by
     match e:(cs'[k]).lits,hlen,hl01 with
     | x :: y :: r,_,hl01=>
      simp only [List.getElem?_cons_zero,List.getElem?_cons_succ,Option.some.injEq] at hl01
      rcases hl01 with rfl | rfl
      ·exact ⟨y,r,.inl rfl⟩
      ·exact ⟨x,r,.inr rfl⟩
    have hvv:=(unhide hst).fi.cli.vars _ _ hC
    have hltt:=(unhide hst).fi.cli.lt _ _ hC
    simp only at hvv hltt
    have hne:lit ≠ q∧lit ∉ r:=by
     rcases hl with e | e
     ·rw [e] at hvv
      simp only [List.map_cons,List.nodup_cons,List.mem_cons,List.mem_map,not_or,not_exists,not_and] at hvv
      exact ⟨fun e2=>hvv.1.1 (by rw [e2]),fun hm=>hvv.1.2 lit hm rfl⟩
     ·rw [e] at hvv
      simp only [List.map_cons,List.nodup_cons,List.mem_cons,List.mem_map,not_or,not_exists,not_and] at hvv
      exact ⟨fun e2=>hvv.1.1 (by rw [e2]),fun hm=>hvv.2.1 lit hm rfl⟩
    have hN':(enc cs').length ≤ 549755813888:=by rw [(unhide hst).perm.len];exact hN
    have QW:=hide (watchesOther_any (w:=wr) (unhide hst).sol hK2 (unhide hst).x0 hk hl hne.1 hne.2 hltt hn (by omega) (unhide hst).trm (unhide hst).wam (fun x hx=>by
     by_cases e:x=lit
     ·rw [if_pos e,mix_len (by omega)];omega
     ·have:=(unhide hst).fi.wai.len hx
      rw [if_neg e] at this ⊢
      omega))
    rw [← ha] at QW
    have hci:wr.cell? ⟨gb,i,none⟩=some (.int .i64 (orig[i]:Nat)):=by
     have hrow:=(unhide hst).wam.row lit litn
     rw [if_pos rfl] at hrow
     have:=((unhide hst).sol.fam.cell (k:=16 + lit) (by omega) (unhide hst).hv (j:=i) (by rw [hrow,nats_len,mix_len (by omega)];exact hlt)).1
     rw [this,hrow,nats_at _ _ (by rw [mix_len (by omega)];exact hlt),mix_at hkl hlt]
    have i00:(0:Int) ≤ (i:Int):=by omega
    have i11:(i:Int) < (orig.length:Int):=by omega
    have HST:=hide hst
    have HL:=hide hl
    have HA:=hide ha
    obtain ⟨a,haa⟩:∃ a,a=orig[i]:=⟨_,rfl⟩
    rw [← haa] at hci QW
    have HAA:=hide haa
    clear hl01 hlen hC hvv hltt hne haa ha hst
    have hst:Hid (FalSt Z sb w K f X n lit p ch orig (.slice (some ⟨gb,0,none⟩) orig.length wcp) cs tr i kl (mix kl orig) cs' tr' lev' rea' wl' f' V' X' wr):=unhide HST
    clear HST hl
    go_upto_if 28 with (go_at_call 179;refine (unhide QW).mono ?_;rintro e7 w7 ⟨b,V2,X2,rfl,hres⟩;have HRES:=hide hres;clear hres;simp only [])
    clear QW hci
    obtain ⟨hc2,hs2,ho2,hv2,hcase⟩:=unhide HRES
    clear HRES
    rcases hcase with ⟨rfl,hx0,hwm,htv⟩ | ⟨rfl,hq1,jj,o,hrj,hto,hx0,hwm⟩
    ·
     have S2:=(unhide hst).stays hlt hk (unhide HA) (unhide HL) hs2 hc2 ho2 hx0 hwm hv2
     have hk2:k < (cs'.set k ⟨(cs'[k]).kind,(cs'[k]).busy,q :: lit :: r⟩).length:=by simpa using hk
     have hl2:((cs'.set k ⟨(cs'[k]).kind,(cs'[k]).busy,q :: lit :: r⟩)[k]).lits=q :: lit :: r:=by simp
     have hkd2:((cs'.set k ⟨(cs'[k]).kind,(cs'[k]).busy,q :: lit :: r⟩)[k]).kind ≠ 2:=by simpa using hkd
     have ha2:orig[i]=adr (cs'.set k ⟨(cs'[k]).kind,(cs'[k]).busy,q :: lit :: r⟩) k:=by
      rw [unhide HA];exact (adr_set hk (by rcases unhide HL with e | e <;> rw [e] <;> simp) k).symm
     generalize cs'.set k ⟨(cs'[k]).kind,(cs'[k]).busy,q :: lit :: r⟩=cs2 at S2 hk2 hl2 hkd2 ha2
     have hql:q < 2 * n:=by
      have:=S2.fi.cli.lt _ _ (mapOf_at hk2) q (by rw [hl2];simp)
      exact this
     have hrow:=S2.wam.row lit litn
     rw [if_pos rfl] at hrow
     have hkl2:kl.length < orig.length:=by omega
     obtain ⟨cc1,cc2⟩:=S2.sol.fam.cell (k:=16 + lit) (by omega) S2.hv (j:=kl.length) (by rw [hrow,nats_len,mix_len (by omega)];exact hkl2)
     rw [hrow,nats_at _ _ (by rw [mix_len (by omega)];exact hkl2)] at cc1
     have S3:=hide (S2.store (by omega) hkl2 rfl a)
     have k00:(0:Int) ≤ (kl.length:Int):=by omega
     have k11:(kl.length:Int) < (orig.length:Int):=by omega
     have kw:(kl.length:Int) + 1 < 9223372036854775807:=by omega
     have HTV:=hide htv
     have HL2:=hide hl2
     have HA2:=hide ha2
     have HK2:=hide hkd2
     clear hst hs2 hc2 ho2 hx0 hwm hv2 htv S2 hl2 ha2 hkd2 hrow HL HA hkd hk
     go_upto_region 10 with fail
     generalize hW3:w7.setCell ⟨gb,kl.length,none⟩ (.int .i64 (a:Nat))=W3 at S3 ⊢
     clear hW3 cc1 cc2
     generalize upd X2 (16 + lit) (nats (mix (kl ++ [a]) orig))=X3 at S3
     obtain ⟨g,c,e0,q0,hcN,lg,ng,zg,r0,-,-,rl,-⟩:=lits_cells (unhide S3).sol (unhide S3).x0 hk2
     have hend:=adr_end hk2
     have hm2:2 ≤ (cs2[k]).lits.length:=by rw [unhide HL2];simp
     have hN2:(enc cs2).length ≤ 549755813888:=by rw [(unhide S3).perm.len];exact hN
     have cq:=rl 0 (by omega)
     rw [show (cs2[k]).lits[0]'(by omega)=q by simp [unhide HL2],Nat.add_zero,← unhide HA2,← unhide HAA] at cq
     have QL:Hid (∀ Y:World,Y.heap=W3.heap→Calls Tryz.prog 175 #[.pointer (some ⟨sb,2,none⟩),.int .i64 (adr cs2 k:Nat)] Y fun e w'=>e=.returned (litsAt g (adr cs2 k) (cs2[k]).lits.length c)∧∃ j,w'=Y.drewN j):=fun Y hY=>literals_any sb 2 g (enc cs2).length c (adr cs2 k) (cs2[k]).lits.length Y (by rw [show Y.cell? ⟨sb,2,none⟩=W3.cell? ⟨sb,2,none⟩ from World.cell?_of_block (a:=⟨sb,2,none⟩) (by rw [hY])];exact q0) (by omega) (by unfold maxLen;omega) hcN (by rw [show Y.cell? ⟨g,adr cs2 k,none⟩=W3.cell? ⟨g,adr cs2 k,none⟩ from World.cell?_of_block (a:=⟨g,adr cs2 k,none⟩) (by rw [hY])];exact r0)
     have nc:¬ (c=adr cs2 k + 3):=by omega
     unfold litsAt at QL
     rw [if_neg nc,← unhide HA2,← unhide HAA] at QL
     have m00:(0:Int) < ((cs2[k]).lits.length:Int):=by omega
     clear r0 rl q0 e0
     generalize (cs2[k]).lits.length=m at QL m00
     obtain ⟨g3,c3,t3,e3,q3,r3,s3,-⟩:=(unhide S3).sol.elem (k:=3) (j:=q) (by omega) (unhide S3).trm.n3 hql
     rw [show cellOf 3=9 from rfl] at q3
     rw [(unhide S3).trm.t3 q hql] at s3
     obtain rfl:=Option.some.inj s3
     clear e3
     have q00:(0:Int) ≤ (q:Int):=by omega
     have QO:Hid (∀ Y:World,Y.heap=W3.heap→Calls Tryz.prog 135 #[.pointer (some ⟨sb,6,none⟩),.int .i64 (q:Nat)] Y fun e w'=>e=.returned (.bool (tv tr' q == 0))∧w'=Y):=fun Y hY=>isOpen_any sb 6 g3 (2 * n) c3 q (tv tr' q) Y (by rw [show Y.cell? ⟨sb,6 + 3,none⟩=W3.cell? ⟨sb,9,none⟩ from World.cell?_of_block (a:=⟨sb,9,none⟩) (by rw [hY])];exact q3) hql (by rw [show Y.cell? ⟨g3,q,none⟩=W3.cell? ⟨g3,q,none⟩ from World.cell?_of_block (a:=⟨g3,q,none⟩) (by rw [hY])];exact r3)
     have QF:Hid (∀ Y:World,Y.heap=W3.heap→Calls Tryz.prog 134 #[.pointer (some ⟨sb,6,none⟩),.int .i64 (q:Nat)] Y fun e w'=>e=.returned (.bool (decide (tv tr' q < 0)))∧w'=Y):=fun Y hY=>isFalse_any sb 6 g3 (2 * n) c3 q (tv tr' q) Y (by rw [show Y.cell? ⟨sb,6 + 3,none⟩=W3.cell? ⟨sb,9,none⟩ from World.cell?_of_block (a:=⟨sb,9,none⟩) (by rw [hY])];exact q3) hql (by rw [show Y.cell? ⟨g3,q,none⟩=W3.cell? ⟨g3,q,none⟩ from World.cell?_of_block (a:=⟨g3,q,none⟩) (by rw [hY])];exact r3)
     clear q3 r3
     have HQ:Hid (tv tr' q=1∨tv tr' q=0∨tv tr' q=-1):=by unfold Hid tv;split <;> (try split) <;> omega
     generalize htq:tv tr' q=tq at QO QF HTV HQ
     have HTQ:=hide htq
     clear htq
     go_upto_region 11 with (go_at_call 175;refine (unhide QL _ (by rfl)).mono ?_;rintro e8 w8 ⟨rfl,j8,rfl⟩;simp only [])
     obtain ⟨W4,hW4⟩:∃ W4,W4=W3.drewN j8:=⟨_,rfl⟩
     have b4:Below W3.heap.size W3 W4:=by rw [hW4];exact below_drewN (Below.refl _ _) _
     have HH4:Hid (W4.heap=W3.heap):=by rw [hW4];rfl
     rw [← hW4]
     have S4:=hide ((unhide S3).later b4)
     have QO4:Hid (∀ Y:World,Y.heap=W4.heap→Calls Tryz.prog 135 #[.pointer (some ⟨sb,6,none⟩),.int .i64 (q:Nat)] Y fun e w'=>e=.returned (.bool (tq == 0))∧w'=Y):=fun Y hY=>unhide QO Y (hY.trans (unhide HH4))
     have QF4:Hid (∀ Y:World,Y.heap=W4.heap→Calls Tryz.prog 134 #[.pointer (some ⟨sb,6,none⟩),.int .i64 (q:Nat)] Y fun e w'=>e=.returned (.bool (decide (tq < 0)))∧w'=Y):=fun Y hY=>unhide QF Y (hY.trans (unhide HH4))
     clear hW4 b4 S3 QO QF QL cq lg
     rcases unhide HQ with rfl | rfl | rfl
     ·
      have QO5:Hid (∀ Y:World,Y.heap=W4.heap→Calls Tryz.prog 135 #[.pointer (some ⟨sb,6,none⟩),.int .i64 (q:Nat)] Y fun e w'=>e=.returned (.bool false)∧w'=Y):=unhide QO4
      have QF5:Hid (∀ Y:World,Y.heap=W4.heap→Calls Tryz.prog 134 #[.pointer (some ⟨sb,6,none⟩),.int .i64 (q:Nat)] Y fun e w'=>e=.returned (.bool false)∧w'=Y):=unhide QF4
      clear QO4 QF4
      have S5:=hide ((unhide S4).keepT hlt hk2 (unhide HA2) (unhide HL2) (unhide HTQ))
      rw [← unhide HAA] at S5
      have kle:Hid ((kl ++ [a]).length=kl.length + 1):=by unfold Hid;simp
      clear S4
      go_upto_region 13 with (go_at_call 135;refine (unhide QO5 _ (by rfl)).mono ?_;rintro e9 w9 ⟨rfl,rfl⟩;simp only [])
      go_wp2_with (go_at_call 134;refine (unhide QF5 _ (by rfl)).mono ?_;rintro e9 w9 ⟨rfl,rfl⟩;simp only [])
      go_roundw
      case rel=>exact ⟨i + 1,kl ++ [a],_,_,_,_,_,_,_,_,by rw [unhide kle];rfl,rfl,by go_num,S5⟩
      case measure=>simp [intOf];omega
     ·
      have hall:∀ y ∈ r,tv tr' y=-1:=by
       rcases unhide HTV with e | ⟨_,e⟩
       ·cases e
       ·exact e
      have QO5:Hid (∀ Y:World,Y.heap=W4.heap→Calls Tryz.prog 135 #[.pointer (some ⟨sb,6,none⟩),.int .i64 (q:Nat)] Y fun e w'=>e=.returned (.bool true)∧w'=Y):=unhide QO4
      have l1:(X3 1).length=tr'.length:=by rw [(unhide S4).trm.l1,nats_len]
      have l2:(X3 2).length=ch.length:=by rw [(unhide S4).trm.l2,nats_len]
      have trl:=(unhide S4).fi.tri.len
      have QA:=hide (assign_any (w:=W4) q n ch.length (a:Nat) hql hn (unhide S4).sol (by omega) l2 (unhide S4).trm.n3 (unhide S4).trm.n4 (unhide S4).trm.n5)
      have UT:=hide (fun w' v' hs hc=>(unhide S4).unitT (w':=w') (v':=v') hlt hk2 (unhide HK2) (unhide HA2) (unhide HL2) (unhide HTQ) hall hs hc)
      rw [← unhide HAA] at UT
      have kle:Hid ((kl ++ [a]).length=kl.length + 1):=by unfold Hid;simp
      clear QO4 QF4 S4 hall l1 l2 trl
      go_upto_region 12 with (go_at_call 135;refine (unhide QO5 _ (by rfl)).mono ?_;rintro e9 w9 ⟨rfl,rfl⟩;simp only [])
      go_wp2_with (go_at_call 136;refine (unhide QA).mono ?_;rintro eA wA ⟨rfl,hcA,vA,hsA⟩;have S5:=hide (unhide UT wA vA hsA hcA);clear hcA hsA;simp only [])
      go_roundw
      case rel=>exact ⟨i + 1,kl ++ [a],_,_,_,_,_,_,_,_,by rw [unhide kle];rfl,rfl,by go_num,S5⟩
      case measure=>simp [intOf];omega
     ·
      have hall:∀ y ∈ r,tv tr' y=-1:=by
       rcases unhide HTV with e | ⟨_,e⟩
       ·cases e
       ·exact e
      have QO5:Hid (∀ Y:World,Y.heap=W4.heap→Calls Tryz.prog 135 #[.pointer (some ⟨sb,6,none⟩),.int .i64 (q:Nat)] Y fun e w'=>e=.returned (.bool false)∧w'=Y):=unhide QO4
      have QF5:Hid (∀ Y:World,Y.heap=W4.heap→Calls Tryz.prog 134 #[.pointer (some ⟨sb,6,none⟩),.int .i64 (q:Nat)] Y fun e w'=>e=.returned (.bool true)∧w'=Y):=unhide QF4
      clear QO4 QF4
      go_upto_region 14 with (first | (go_at_call 135;refine (unhide QO5 _ (by rfl)).mono ?_;rintro e9 w9 ⟨rfl,rfl⟩;simp only []) | (go_at_call 134;refine (unhide QF5 _ (by rfl)).mono ?_;rintro e9 w9 ⟨rfl,rfl⟩;simp only []))
      obtain ⟨kn,hkn⟩:∃ kn,kn=kl.length + 1:=⟨_,rfl⟩
      obtain ⟨ii,hii⟩:∃ ii,ii=i + 1:=⟨_,rfl⟩
      have hrow:=(unhide S4).wam.row lit litn
      rw [if_pos rfl] at hrow
      have how:=(unhide S4).sol.fam.own (16 + lit) (by omega)
      rw [(unhide S4).hv,famT_in,hrow,nats_len,mix_len (by simp;omega)] at how
      obtain ⟨cur,hg,hcs⟩:∃ cur,w9.heap[gb]? = some (.cells cur 3 (0,0))∧orig.length ≤ cur.size:=by
       rcases how.2 with ⟨e,_⟩ | ⟨g',cap',cur',e,_,hg',hn',_,hs',_⟩
       ·cases e
       ·cases e;exact ⟨cur',hg',by omega⟩
      obtain ⟨N,hNN⟩:∃ N,N=orig.length - ii:=⟨_,rfl⟩
      obtain ⟨cpy,hcpy⟩:∃ cpy,cpy=nats (orig.drop ii):=⟨_,rfl⟩
      have hcl:cpy.length=N:=by rw [hcpy,hNN,nats_len];simp
      have kll:(kl ++ [a]).length=kn:=by rw [hkn];simp
      have hsrc:Hid (∀ j v,cpy[j]? = some v→w9.cell? (Addr.add ⟨gb,ii,none⟩ j)=some v):=by rw [hcpy];exact copy_src how (by rw [kll];omega)
      have h1c:Hid (∀ v ∈ cpy,v.oneCell'=true):=by rw [hcpy];exact nats_one _
      have CP:Hid (∀ w',w'.heap[gb]? = some (.cells (splice cur.toList kn cpy).toArray 3 (0,0))→(∀ k,k ≠ gb→w'.heap[k]? = w9.heap[k]?)→Below 0 w9 w'→FalExit Z sb w K f X n lit p ch (.slice (some ⟨gb,0,none⟩) orig.length wcp) orig.length cs tr (.int .i64 ((kn + N:Nat):Int)) (.int .i64 (a:Nat)) w'):=fun w' q1 q2 q3=>(unhide S4).conflExit hlt (unhide HAA) (by omega) hk2 (unhide HK2) (unhide HA2) (unhide HL2) (unhide HTQ) hall rfl hkn hii hNN hg (by rw [← hcpy];exact q1) q2 q3
      have HG:=hide hg
      have HKN:=hide hkn
      have HII:=hide hii
      have i1:(i:Int) + 1=(ii:Int):=by omega
      have i2:(kl.length:Int) + 1=(kn:Int):=by omega
      have j0:(0:Int) ≤ (ii:Int):=by omega
      have j1:(ii:Int) ≤ (orig.length:Int):=by omega
      have j2:(0:Int) ≤ (kn:Int):=by omega
      have j3:(kn:Int) ≤ (orig.length:Int):=by omega
      have j4:(ii:Int) ≤ (wcp:Int):=by omega
      have j5:(kn:Int) ≤ (wcp:Int):=by omega
      have j6:kn ≤ ii:=by omega
      have j7:(i:Int) + 1 < 9223372036854775807:=by omega
      have hmn:N=Nat.min (orig.length - ii) (orig.length - kn):=by rw [hNN];exact (Nat.min_eq_left (by omega)).symm
      have HMN:=hide hmn
      clear hmn
      have hft:kn + N ≤ cur.size:=by omega
      have kb:kn + N ≤ 549755813888:=by omega
      have HCPY:=hide hcpy
      have HNN:=hide hNN
      have wi:IntKind.i64.wrap (ii:Int)=(ii:Int):=wrapS _ (by omega) (by omega)
      have wk:Hid (IntKind.i64.wrap ((kn:Int) + (N:Int))=((kn + N:Nat):Int)):=by unfold Hid;rw [wrapS _ (by omega) (by omega)];omega
      have hcapii:wcp=ii→orig.length=ii:=fun e=>by omega
      clear how hrow hcpy hg hNN kll hkn hii S4 hall
      rw [i2]
      by_cases cA:ii < wcp
      ·have wn1:¬ (wcp=ii):=by omega
       have wn2:¬ (wcp=kn):=by omega
       go_region_law (refine step_copy_one (by rfl) _ _ 43 43 (by rfl) 3 Tryz.underlying43 (by rfl) gb kn ⟨gb,ii,none⟩ (orig.length - kn) (wcp - kn) (orig.length - ii) (wcp - ii) (by simp [Act.eval,Act.put]) (by simp [Act.eval,Act.put]) cur 3 (unhide HG) cpy (by rw [hcl];exact unhide HMN) (unhide hsrc) (by rw [hcl];exact hft) (unhide h1c) 0 (Nat.zero_le _) ?_;intro wZ H1 H2 H3;rw [hcl])
       all_goals
        have FX:=hide (unhide CP wZ (unhide H1) (unhide H2) ((Below.refl 0 w9).drew.trans (unhide H3)))
        rw [← unhide wk] at FX
        clear H1 H2 H3
        go_wp2_with fail
        go_meet
        first | exact unhide FX | (rw [unhide wk,Int.natCast_add] at FX;exact unhide FX)
      ·have eA:wcp=ii:=by omega
       have eB:orig.length=ii:=hcapii eA
       have cpn:cpy=[]:=List.eq_nil_of_length_eq_zero (by rw [hcl,unhide HNN];omega)
       have hsrc0:Hid (∀ j v,cpy[j]? = some v→w9.cell? (Addr.add ⟨gb,0,none⟩ j)=some v):=fun j v hv=>by rw [cpn] at hv;simp at hv
       have SPN:Hid (∀ o,splice cur.toList o cpy=splice cur.toList kn cpy):=fun o=>by rw [cpn,splice_nil,splice_nil]
       have hN0:Hid (∀ y,N=Nat.min 0 y):=fun y=>by rw [unhide HNN,eB];simp
       have HEB:=hide eB
       clear cpn hcapii eB
       subst eA
       by_cases cB:wcp=kn
       ·subst cB
        have ft0:0 + N ≤ cur.size:=by omega
        go_region_law (refine step_copy_one (by rfl) _ _ 43 43 (by rfl) 3 Tryz.underlying43 (by rfl) gb 0 ⟨gb,0,none⟩ 0 0 0 0 (by simp [Act.eval,Act.put]) (by simp [Act.eval,Act.put]) cur 3 (unhide HG) cpy (by rw [hcl];exact unhide hN0 _) (unhide hsrc0) (by rw [hcl];exact ft0) (unhide h1c) 0 (Nat.zero_le _) ?_;intro wZ H1 H2 H3;rw [hcl])
        all_goals
         rw [unhide SPN] at H1
         have FX:=hide (unhide CP wZ (unhide H1) (unhide H2) ((Below.refl 0 w9).drew.trans (unhide H3)))
         rw [← unhide wk] at FX
         clear H1 H2 H3
         go_wp2_with fail
         go_meet
         first | exact unhide FX | (rw [unhide wk,Int.natCast_add] at FX;exact unhide FX)
       ·go_region_law (refine step_copy_one (by rfl) _ _ 43 43 (by rfl) 3 Tryz.underlying43 (by rfl) gb kn ⟨gb,0,none⟩ (orig.length - kn) (wcp - kn) 0 0 (by simp [Act.eval,Act.put]) (by simp [Act.eval,Act.put]) cur 3 (unhide HG) cpy (by rw [hcl];exact unhide hN0 _) (unhide hsrc0) (by rw [hcl];exact hft) (unhide h1c) 0 (Nat.zero_le _) ?_;intro wZ H1 H2 H3;rw [hcl])
        all_goals
         have FX:=hide (unhide CP wZ (unhide H1) (unhide H2) ((Below.refl 0 w9).drew.trans (unhide H3)))
         rw [← unhide wk] at FX
         clear H1 H2 H3
         go_wp2_with fail
         go_meet
         first | exact unhide FX | (rw [unhide wk,Int.natCast_add] at FX;exact unhide FX)
    ·have S2:=hide ((unhide hst).moves hlt hk hkd (unhide HA) (unhide HL) hs2 hc2 ho2 hq1 hrj hto hx0 hwm hv2)
     clear hst hs2 hc2 ho2 hx0 hwm hv2
     go_wp2
     go_roundw
     case rel=>exact ⟨i + 1,kl,_,_,_,_,_,_,_,_,rfl,rfl,by go_num,S2⟩
     case measure=>simp [intOf];omega
   ·have ei:i=orig.length:=by omega
    subst ei
    have SE:=hide (unhide hst).atEnd
    clear hst
    go_wp2_with fail
    go_meet
    exact ⟨kl.length,-1,mix kl orig,cs',tr',lev',rea',wl',f',V',X',rfl,rfl,by omega,mix_len (by omega),SE⟩
 case rest=>
  clear S1
  obtain ⟨kept,res,ml,cs',tr',lev',rea',wl',f',V',X',rfl,rfl,hkm,hml,hend⟩:=hcut
  have h9:=(unhide hend).wam.n9
  obtain ⟨g9',c9',t9,ev9,q9,r9,s9,z9,zz9,l9,n9'⟩:=(unhide hend).sol.elem (k:=9) (j:=lit) (by omega) h9 litn
  rw [show cellOf 9=5 from rfl] at q9
  have FIN:=hide ((unhide hend).out hK2 rfl (by omega) ev9)
  have k0:(0:Int) ≤ (kept:Int):=by omega
  have k1:(kept:Int) ≤ (orig.length:Int):=by omega
  have k2:(kept:Int) ≤ (wcp:Int):=by
   rcases unhide wforms with ⟨_,h0,_⟩ | ⟨_,_,h⟩ <;> omega
  clear hend ev9 s9 h9
  go_upto_region 17 with fail
  go_region_with fail
  all_goals
   go_wp2
   go_ret
   first | exact unhide FIN | exact (unhide FIN).later (Below.refl _ _).drew
end So
end Go.Proofs.YtceahffmenbibaaGreatDoor
