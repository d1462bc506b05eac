/- Sfls Sfwk. -/
import Derived.Test.YtceahffmenbibaaGreatDoorG06
set_option linter.unusedVariables false
set_option linter.unusedSimpArgs false
set_option maxHeartbeats 4000000
set_option maxRecDepth 100000
namespace Go.Proofs.YtceahffmenbibaaGreatDoor
namespace So
section
open Go Go.RowKit Go.Deep Rd
def eD (cs cs':List Rec):Prop:=cs'.length=cs.length/\∀ k (h:k < cs.length) (h':k < cs'.length),(cs'[k]).kind=(cs[k]).kind/\(cs'[k]).busy=(cs[k]).busy/\(cs'[k]).lits.Perm (cs[k]).lits
theorem eD.refl (cs:List Rec):eD cs cs:=⟨rfl,fun k _ _=>⟨rfl,rfl,.refl _⟩⟩
theorem eD.trans {a b c:List Rec} (h:eD a b) (h':eD b c):eD a c:=⟨h'.1.trans h.1,fun k h1 h2=>by
 have hb:k < b.length:=by rw [h.1];exact h1
 obtain ⟨x1,x2,x3⟩:=h.2 k h1 hb;obtain ⟨y1,y2,y3⟩:=h'.2 k hb h2;exact ⟨y1.trans x1,y2.trans x2,y3.trans x3⟩⟩
theorem eD.set {cs:List Rec} {k:Nat} (hk:k < cs.length) {c:Rec} (h1:c.kind=(cs[k]).kind) (h2:c.busy=(cs[k]).busy) (h3:c.lits.Perm (cs[k]).lits):eD cs (cs.set k c):=⟨by simp,fun j h h'=>by
 by_cases e:k=j
 ·subst e;simp only [List.getElem_set_self];exact ⟨h1,h2,h3⟩
 ·rw [List.getElem_set_ne e];exact ⟨rfl,rfl,.refl _⟩⟩
theorem eD.aj {cs cs':List Rec} (h:eD cs cs'):∀ k,k <= cs.length->aj cs' k=aj cs k
 | 0,_=>by rw [gK,gK]
 | k + 1,hk=>by
  have hk':k < cs'.length:=by rw [h.1];exact hk
  rw [dz hk',dz (show k < cs.length from hk),h.aj k (by omega),(h.2 k hk hk').2.2.length_eq]
theorem eD.len {cs cs':List Rec} (h:eD cs cs'):(enc cs').length=(enc cs).length:=by
 rw [<- dY (Nat.le_refl _),<- dY (cs:=cs) (Nat.le_refl _),h.1];exact h.aj _ (Nat.le_refl _)
theorem eD.same {cs cs':List Rec} (h:eD cs cs'):Qn (mapOf cs) (mapOf cs'):=fun a=>by
 cases e1:mapOf cs a with
 | none=>
  refine .inl ⟨rfl,?_⟩
  cases e2:mapOf cs' a with
  | none=>rfl
  | some d=>
   obtain ⟨k,hk,ha,_⟩:=aN e2;have hk2:k < cs.length:=by rw [<- h.1];exact hk
   rw [h.aj k (Nat.le_of_lt hk2)] at ha;rw [ha,aP hk2] at e1;cases e1
 | some c=>
  obtain ⟨k,hk,ha,hc⟩:=aN e1;have hk2:k < cs'.length:=by rw [h.1];exact hk
  have:=aP hk2;rw [h.aj k (Nat.le_of_lt hk),<- ha] at this;obtain ⟨x1,_,x3⟩:=h.2 k hk hk2;subst hc;exact .inr ⟨_,_,rfl,this,x1,x3⟩
theorem tQ.perm {L:List Cl}:∀ {cs cs':List Rec},eD cs cs'->tQ L (kz cs)->tQ L (kz cs'):=by
 have key:∀ (cs cs':List Rec),eD cs cs'->∀ e,(kz cs').countP (fun y=>fK (y.map wr) e)=(kz cs).countP (fun y=>fK (y.map wr) e):=by
  intro cs
  induction cs with
  | nil=>intro cs' h e;have:cs'=[]:=List.eq_nil_of_length_eq_zero (by rw [h.1];rfl);subst this;rfl
  | cons c r ih=>
   intro cs' h e
   match cs',h with
   | [],h=>have:=h.1;simp at this
   | c' :: r',h=>
    obtain ⟨x1,_,x3⟩:=h.2 0 (by simp) (by simp)
    simp only [List.getElem_cons_zero] at x1 x3;have hr:eD r r':=⟨by have:=h.1;simpa using this,fun k h1 h2=>by
     have:=h.2 (k + 1) (by simpa using h1) (by simpa using h2)
     simpa using this⟩
    have:=ih r' hr e;have e2:∀ (d:Rec) (s:List Rec),kz (d :: s)=kz [d] ++ kz s:=fun d s=>by unfold kz;rw [<- List.map_append,<- List.filter_append];rfl
    rw [e2 c',e2 c,List.countP_append,List.countP_append,this]
    congr 1
    unfold kz;by_cases g:c.kind=2
    ·simp [x1,g]
    ·simp only [List.filter_cons,List.filter_nil,x1,g,ne_eq,not_false_eq_true,decide_true,if_true,List.map_cons,List.map_nil,List.countP_cons,List.countP_nil];rw [kH (a:=c'.lits.map wr) (a':=c.lits.map wr) (fun x=>(x3.map wr).mem_iff) e]
 intro cs cs' h hm;exact hm.congr fun e=>Nat.le_of_eq (key cs cs' h e)
theorem Oa {cs:List Rec} {a:Nat} {c:uY} (h:mapOf cs a=some c):a < (enc cs).length:=by
 obtain ⟨k,hk,ha,_⟩:=aN h;have:=bA hk;omega
theorem qI.len {n:Nat} {cs:List Rec} {W:Nat->List Nat} (h:qI n (mapOf cs) W) {x:Nat} (hx:x < 2 * n):(W x).length <= (enc cs).length:=
 fw _ _ (h.nodup x hx) fun a ha=>by
  obtain ⟨c,⟨h1,_,_⟩,_⟩:=h.lists x hx a ha;exact Oa h1
variable {n lit p i:Nat} {ch af kl tr:List Nat} {C:eX} {lev:Nat->Nat} {rea:Nat->Int} {wl:Nat->List Nat}
theorem JX {a:Nat} {c:uY} (h:C a=some c):ik C a c=C:=by
 funext b
 by_cases e:b=a
 ·subst e;rw [aZ,h]
 ·rw [aJ _ _ e]
theorem FI.second (h:FI n lit p ch af i C tr lev rea wl kl) (hi:i < af.length) {c:uY} (hC:C af[i]=some c) {q:Nat} {r:List Nat} (hl:c.lits=lit :: q :: r\/c.lits=q :: lit :: r):FI n lit p ch af i (ik C af[i] ⟨c.kind,q :: lit :: r⟩) tr lev rea wl kl:=by
 rcases hl with e | e
 ·exact h.swap hi hC e
 ·have:ik C af[i] ⟨c.kind,q :: lit :: r⟩=C:=JX (by rw [hC,<- e])
  rw [this];exact h
structure cK (Z:Nat->Prop) (sb:Nat) (w:World) (K:Nat) (f:Nat->Value) (X:Nat->List Value) (n lit p:Nat) (ch af:List Nat) (VL:Value) (cs:List Rec) (iP:List Nat) (i:Nat) (kl ml:List Nat) (cs':List Rec) (tr:List Nat) (lev:Nat->Nat) (rea:Nat->Int) (wl:Nat->List Nat) (f' V':Nat->Value) (X':Nat->List Value) (wr:World):Prop where
 fi:FI n lit p ch af i (mapOf cs') tr lev rea wl kl
 aG:aQ Z sb wr K f' V' X'
 x0:X' 0=ints (enc cs')
 dx:iW n X' tr ch lev rea
 dL:jm n V' X' (fun x=>if x=lit then ml else wl x)
 hv:V' (16 + lit)=VL
 perm:eD cs cs'
 only:∀ k,6 <= k->k ≠ 9->k < 16->X' k=X k
 ff:∀ j,j ≠ 6->f' j=f j
 ext:∃ e,tr=iP ++ e
 bD:aC Z w wr
variable {Z:Nat->Prop} {sb K:Nat} {w wr w':World} {f f' V V' Vf:Nat->Value} {X X' qH:Nat->List Value} {cs cs':List Rec} {iP ml:List Nat} {VL:Value}
theorem cK.later (h:cK Z sb w K f X n lit p ch af VL cs iP i kl ml cs' tr lev rea wl f' V' X' wr) (hb:Below wr.heap.size wr w'):cK Z sb w K f X n lit p ch af VL cs iP i kl ml cs' tr lev rea wl f' V' X' w':=
 { h with aG:=h.aG.later hb,bD:=h.bD.trans (aC.of_below hb) }
theorem cK.stays (h:cK Z sb w K f X n lit p ch af VL cs iP i kl ml cs' tr lev rea wl f' V' X' wr) (hi:i < af.length) {k q:Nat} {r:List Nat} (hk:k < cs'.length) (ha:af[i]=aj cs' k) (hl:(cs'[k]).lits=lit :: q :: r\/(cs'[k]).lits=q :: lit :: r)
  (hs:aQ Z sb w' K f' Vf qH) (hc:aC Z wr w') (ho:xX X' qH) (h0:qH 0=ints (enc (cs'.set k ⟨(cs'[k]).kind,(cs'[k]).busy,q :: lit :: r⟩))) (hw:jm n Vf qH (fun x=>if x=lit then ml else wl x)) (hv:Vf (16 + lit)=V' (16 + lit)):
  cK Z sb w K f X n lit p ch af VL cs iP i kl ml (cs'.set k ⟨(cs'[k]).kind,(cs'[k]).busy,q :: lit :: r⟩) tr lev rea wl f' Vf qH w' where
 fi:=by
  have hC:mapOf cs' af[i]=some ⟨(cs'[k]).kind,(cs'[k]).lits⟩:=by rw [ha];exact aP hk
  have:=h.fi.second hi hC hl
  rw [zG hk (by rcases hl with e | e <;> rw [e] <;> simp),<- ha]
  exact this
 aG:=hs
 x0:=h0
 dx:=h.dx.congr fun j h1 h2=>ho j (by omega) (by omega) (by omega)
 dL:=hw
 hv:=hv.trans h.hv
 perm:=h.perm.trans (eD.set hk rfl rfl (by
  rcases hl with e | e
  ·rw [e];exact List.Perm.swap ..
  ·rw [e]))
 only:=fun j h1 h2 h3=>(ho j (by omega) h2 h3).trans (h.only j h1 h2 h3)
 ff:=h.ff
 ext:=h.ext
 bD:=h.bD.trans hc
theorem cK.moves (h:cK Z sb w K f X n lit p ch af VL cs iP i kl (mix kl af) cs' tr lev rea wl f' V' X' wr) (hi:i < af.length) {k q j o:Nat} {r:List Nat} (hk:k < cs'.length) (hkd:(cs'[k]).kind ≠ 2) (ha:af[i]=aj cs' k) (hl:(cs'[k]).lits=lit :: q :: r\/(cs'[k]).lits=q :: lit :: r)
  (hs:aQ Z sb w' K f' Vf qH) (hc:aC Z wr w') (ho:xX X' qH) (hq:tv tr q ≠ 1) (hr:r[j]? = some o) (hto:tv tr o ≠ -1) (h0:qH 0=ints (enc (cs'.set k ⟨(cs'[k]).kind,(cs'[k]).busy,q :: o :: r.set j lit⟩))) (hw:jm n Vf qH (fun x=>if x=o then (if x=lit then mix kl af else wl x) ++ [aj cs' k] else if x=lit then mix kl af else wl x)) (hv:Vf (16 + lit)=V' (16 + lit)):
  cK Z sb w K f X n lit p ch af VL cs iP (i + 1) kl (mix kl af) (cs'.set k ⟨(cs'[k]).kind,(cs'[k]).busy,q :: o :: r.set j lit⟩) tr lev rea (fun x=>if x=o then wl x ++ [af[i]] else wl x) f' Vf qH w':=by
 have hC:mapOf cs' af[i]=some ⟨(cs'[k]).kind,(cs'[k]).lits⟩:=by rw [ha];exact aP hk
 have f2:=h.fi.second hi hC hl;have f3:=f2.move hi (aZ ..) hkd rfl (fun hm=>hq (Ac.2 hm)) hr (fun hm=>hto (h.fi.aI.lJ.2 hm))
 have hv2:=h.fi.jc.vars _ _ hC;have Wh:o ≠ lit:=fun e=>by
  have hm:o ∈ r:=List.mem_of_getElem? hr
  rcases hl with e2 | e2
  ·rw [e2] at hv2;simp only [List.map_cons,List.nodup_cons,List.mem_cons,List.mem_map,not_or,not_exists,not_and] at hv2;exact hv2.1.2 o hm (by rw [e])
  ·rw [e2] at hv2;simp only [List.map_cons,List.nodup_cons,List.mem_cons,List.mem_map,not_or,not_exists,not_and] at hv2;exact hv2.2.1 o hm (by rw [e])
 exact {
  fi:=by
   have e1:ik (ik (mapOf cs') af[i] ⟨(cs'[k]).kind,q :: lit :: r⟩) af[i] ⟨(cs'[k]).kind,q :: o :: r.set j lit⟩=mapOf (cs'.set k ⟨(cs'[k]).kind,(cs'[k]).busy,q :: o :: r.set j lit⟩):=by
    rw [zG hk (by rcases hl with e | e <;> rw [e] <;> simp),<- ha]
    funext b
    by_cases e:b=af[i]
    ·subst e;rw [aZ,aZ]
    ·rw [aJ _ _ e,aJ _ _ e,aJ _ _ e]
   rw [<- e1];exact f3
  aG:=hs
  x0:=h0
  dx:=h.dx.congr fun j h1 h2=>ho j (by omega) (by omega) (by omega)
  dL:=by
   have e1:(fun x=>if x=o then (if x=lit then mix kl af else wl x) ++ [aj cs' k] else if x=lit then mix kl af else wl x)=fun x=>if x=lit then mix kl af else if x=o then wl x ++ [af[i]] else wl x:=by
    funext x
    by_cases e:x=o
    ·subst e;rw [if_pos rfl,if_neg Wh,if_neg Wh,if_pos rfl,ha]
    ·rw [if_neg e,if_neg e]
   rw [<- e1];exact hw
  hv:=hv.trans h.hv
  perm:=h.perm.trans (eD.set hk rfl rfl (by
   have:=zA (q:=q) (lit:=lit) hr
   rcases hl with e | e
   ·rw [e];exact this.trans (List.Perm.swap ..)
   ·rw [e];exact this))
  only:=fun j h1 h2 h3=>(ho j (by omega) h2 h3).trans (h.only j h1 h2 h3)
  ff:=h.ff
  ext:=h.ext
  bD:=h.bD.trans hc }
theorem cK.store (h:cK Z sb w K f X n lit p ch af VL cs iP i kl (mix kl af) cs' tr lev rea wl f' V' X' wr) (hK:16 + lit < K) (hk:kl.length < af.length) {gw cw:Nat} (Ya:VL=.slice (some ⟨gw,0,none⟩) af.length cw) (a:Nat):cK Z sb w K f X n lit p ch af VL cs iP i kl (mix (kl ++ [a]) af) cs' tr lev rea wl f' V' (upd X' (16 + lit) (au (mix (kl ++ [a]) af))) (wr.setCell ⟨gw,kl.length,none⟩ (.int .i64 (a:Nat))) where
 fi:=h.fi
 aG:=by
  have:=h.aG.set hK (h.hv.trans Ya) kl.length (.int .i64 (a:Nat));rw [h.dL.row lit h.fi.mK,if_pos rfl,jQ,Te hk] at this;exact this
 x0:=by rw [aa _ _ (by omega)];exact h.x0
 dx:=h.dx.congr fun j h1 h2=>aa _ _ (by omega)
 dL:=⟨by rw [aa _ _ (by omega)];exact h.dL.n9,fun x hx=>by rw [aa _ _ (by omega)];exact h.dL.hd x hx,fun x hx=>by
  by_cases e:x=lit
  ·subst e;rw [ae,if_pos rfl]
  ·rw [aa _ _ (by omega),if_neg e]
   have:=h.dL.row x hx
   rwa [if_neg e] at this⟩
 hv:=h.hv
 perm:=h.perm
 only:=fun j h1 h2 h3=>by rw [aa _ _ (by omega)];exact h.only j h1 h2 h3
 ff:=h.ff
 ext:=h.ext
 bD:=h.bD.setCell (h.aG.al _ hK gw (by rw [h.hv,Ya];rfl)) _
theorem cK.Y6 (h:cK Z sb w K f X n lit p ch af VL cs iP i kl ml cs' tr lev rea wl f' V' X' wr) (hi:i < af.length) {k q:Nat} {r:List Nat} (hk:k < cs'.length) (ha:af[i]=aj cs' k) (hl:(cs'[k]).lits=q :: lit :: r) (hq:tv tr q=1):cK Z sb w K f X n lit p ch af VL cs iP (i + 1) (kl ++ [af[i]]) ml cs' tr lev rea wl f' V' X' wr:=
 { h with fi:=h.fi.keep hi (by rw [ha];exact aP hk) hl (Ac.1 hq) }
theorem cK.Yu (h:cK Z sb w K f X n lit p ch af VL cs iP i kl ml cs' tr lev rea wl f' V' X' wr) (hi:i < af.length) {k q:Nat} {r:List Nat} (hk:k < cs'.length) (hkd:(cs'[k]).kind ≠ 2) (ha:af[i]=aj cs' k) (hl:(cs'[k]).lits=q :: lit :: r) (hq:tv tr q=0) (hr:∀ y ∈ r,tv tr y=-1)
  {v':Value} (hs:aQ Z sb w' K (upd f' 6 v') (upd V' 1 v') (bN X' q (af[i]:Nat) ch.length)) (hc:aC Z wr w'):cK Z sb w K f X n lit p ch af VL cs iP (i + 1) (kl ++ [af[i]]) ml cs' (tr ++ [q]) (bB lev (q / 2) ch.length) (bB rea (q / 2) (af[i]:Nat)) wl (upd f' 6 v') (upd V' 1 v') (bN X' q (af[i]:Nat) ch.length) w':=by
 have hC:mapOf cs' af[i]=some ⟨(cs'[k]).kind,(cs'[k]).lits⟩:=by rw [ha];exact aP hk
 have GR:q < 2 * n:=h.fi.jc.lt _ _ hC q (by rw [hl];simp)
 have ao:∀ j,6 <= j->bN X' q (af[i]:Nat) ch.length j=X' j:=fun j hj=>eu _ _ _ _ (by omega) (by omega) (by omega) (by omega)
 exact {
  fi:=h.fi.unit hi hC hkd hl hq fun y hy=>h.fi.aI.lJ.1 (hr y hy)
  aG:=hs
  x0:=by rw [eu _ _ _ _ (by decide) (by decide) (by decide) (by decide)];exact h.x0
  dx:=h.dx.assign GR hq _ h.dx.l2 (fun _ _=>rfl)
  dL:=h.dL.congr (ao 9 (by omega)) (fun x _=>aa _ _ (by omega)) (fun x _=>ao _ (by omega))
  hv:=by rw [aa _ _ (by omega)];exact h.hv
  perm:=h.perm
  only:=fun j h1 h2 h3=>(ao j h1).trans (h.only j h1 h2 h3)
  ff:=fun j hj=>by rw [aa _ _ hj];exact h.ff j hj
  ext:=by
   obtain ⟨e,he⟩:=h.ext;exact ⟨e ++ [q],by rw [he,List.append_assoc]⟩
  bD:=h.bD.trans hc }
structure x9 (Z:Nat->Prop) (sb:Nat) (w:World) (K:Nat) (f:Nat->Value) (X:Nat->List Value) (n lit p:Nat) (ch:List Nat) (VL:Value) (cs:List Rec) (iP:List Nat) (kept:Nat) (res:Int) (ml:List Nat) (cs':List Rec) (tr:List Nat) (lev:Nat->Nat) (rea:Nat->Int) (wl:Nat->List Nat) (f' V':Nat->Value) (X':Nat->List Value) (wr:World):Prop where
 aI:fM n tr ch lev
 lK:lh (mapOf cs') tr ch rea
 jc:uI n (mapOf cs')
 kT:qI n (mapOf cs') (fun x=>if x=lit then ml.take kept else wl x)
 res:(res=-1/\nI (mapOf cs') tr lev (p + 1))\/(nI (mapOf cs') tr lev p/\∃ k,∃ hk:k < cs'.length,res=(aj cs' k:Nat)/\(cs'[k]).kind ≠ 2/\(∀ y ∈ (cs'[k]).lits,op y ∈ tr)/\lit ∈ (cs'[k]).lits)
 aG:aQ Z sb wr K f' V' X'
 x0:X' 0=ints (enc cs')
 dx:iW n X' tr ch lev rea
 dL:jm n V' X' (fun x=>if x=lit then ml else wl x)
 hv:V' (16 + lit)=VL
 perm:eD cs cs'
 only:∀ k,6 <= k->k ≠ 9->k < 16->X' k=X k
 ff:∀ j,j ≠ 6->f' j=f j
 ext:∃ e,tr=iP ++ e
 bD:aC Z w wr
 yA:lit < 2 * n
def BO (Z:Nat->Prop) (sb:Nat) (w:World) (K:Nat) (f:Nat->Value) (X:Nat->List Value) (n lit p:Nat) (ch:List Nat) (VL:Value) (m:Nat) (cs:List Rec) (iP:List Nat) (s6 s7:Value) (wr:World):Prop:=
 ∃ kept res ml cs' tr lev rea wl f' V' X',s6=.int .i64 ((kept:Nat):Int)/\s7=.int .i64 res/\kept <= m/\ml.length=m/\Hid (x9 Z sb w K f X n lit p ch VL cs iP kept res ml cs' tr lev rea wl f' V' X' wr)
theorem cK.atEnd (h:cK Z sb w K f X n lit p ch af VL cs iP af.length kl (mix kl af) cs' tr lev rea wl f' V' X' wr):x9 Z sb w K f X n lit p ch VL cs iP kl.length (-1) (mix kl af) cs' tr lev rea wl f' V' X' wr:=
 { h with
  aI:=h.fi.aI
  lK:=h.fi.lK
  jc:=h.fi.jc
  kT:=by rw [ru];exact h.fi.done.2
  res:=.inl ⟨rfl,h.fi.done.1⟩
  yA:=h.fi.mK }
theorem cK.PK {a:Nat} (h:cK Z sb w K f X n lit p ch af VL cs iP i kl (mix (kl ++ [a]) af) cs' tr lev rea wl f' V' X' wr) (hi:i < af.length) (Ue:a=af[i]) (hK:16 + lit < K) {k q:Nat} {r:List Nat} (hk:k < cs'.length) (hkd:(cs'[k]).kind ≠ 2) (ha:af[i]=aj cs' k) (hl:(cs'[k]).lits=q :: lit :: r) (hq:tv tr q=-1) (hr:∀ y ∈ r,tv tr y=-1)
  {R:List Nat} (hR:R=(kl ++ [a]) ++ af.drop (i + 1) ++ af.drop ((kl ++ [a]).length + (af.length - (i + 1)))) (hs:aQ Z sb w' K f' V' (upd X' (16 + lit) (au R))) (hc:aC Z wr w'):
  x9 Z sb w K f X n lit p ch VL cs iP ((kl ++ [a]).length + (af.length - (i + 1))) (aj cs' k:Nat) R cs' tr lev rea wl f' V' (upd X' (16 + lit) (au R)) w' where
 aI:=h.fi.aI
 lK:=h.fi.lK
 jc:=h.fi.jc
 kT:=by
  have e:R.take ((kl ++ [a]).length + (af.length - (i + 1)))=kl ++ af.drop i:=by
   rw [hR,List.take_append_of_le_length (by simp;omega),List.take_of_length_le (by simp;omega),Ue,List.drop_eq_getElem_cons hi,List.append_assoc];rfl
  rw [e];exact h.fi.kT
 res:=.inr ⟨h.fi.uo,k,hk,rfl,hkd,fun y hy=>by
  rw [hl] at hy;simp only [List.mem_cons] at hy
  rcases hy with rfl | rfl | hy
  ·exact h.fi.aI.lJ.1 hq
  ·exact h.fi.pG
  ·exact h.fi.aI.lJ.1 (hr y hy),by rw [hl];simp⟩
 aG:=hs
 x0:=by rw [aa _ _ (by omega)];exact h.x0
 dx:=h.dx.congr fun j h1 h2=>aa _ _ (by omega)
 dL:=⟨by rw [aa _ _ (by omega)];exact h.dL.n9,fun x hx=>by rw [aa _ _ (by omega)];exact h.dL.hd x hx,fun x hx=>by
  by_cases e:x=lit
  ·subst e;rw [ae,if_pos rfl]
  ·rw [aa _ _ (by omega),if_neg e]
   have:=h.dL.row x hx
   rwa [if_neg e] at this⟩
 hv:=h.hv
 perm:=h.perm
 only:=fun j h1 h2 h3=>by rw [aa _ _ (by omega)];exact h.only j h1 h2 h3
 ff:=h.ff
 ext:=h.ext
 bD:=h.bD.trans hc
 yA:=h.fi.mK
def Ik (Z:Nat->Prop) (sb:Nat) (w:World) (K:Nat) (f:Nat->Value) (X:Nat->List Value) (n lit p:Nat) (ch af:List Nat) (VL:Value) (cs:List Rec) (iP:List Nat) (s6 s7 s20:Value) (wr:World):Prop:=
 ∃ i kl cs' tr lev rea wl f' V' X',s6=.int .i64 ((kl.length:Nat):Int)/\s7=.int .i64 (-1)/\s20=.int .i64 ((i:Nat):Int)/\Hid (cK Z sb w K f X n lit p ch af VL cs iP i kl (mix kl af) cs' tr lev rea wl f' V' X' wr)
structure UE (Z:Nat->Prop) (sb:Nat) (w:World) (K:Nat) (f:Nat->Value) (X:Nat->List Value) (n lit p:Nat) (ch:List Nat) (cs:List Rec) (iP:List Nat) (res:Int) (cs':List Rec) (tr:List Nat) (lev:Nat->Nat) (rea:Nat->Int) (wl:Nat->List Nat) (f' V':Nat->Value) (X':Nat->List Value) (wr:World):Prop where
 aI:fM n tr ch lev
 lK:lh (mapOf cs') tr ch rea
 jc:uI n (mapOf cs')
 kT:qI n (mapOf cs') wl
 res:(res=-1/\nI (mapOf cs') tr lev (p + 1))\/(nI (mapOf cs') tr lev p/\∃ k,∃ hk:k < cs'.length,res=(aj cs' k:Nat)/\(cs'[k]).kind ≠ 2/\(∀ y ∈ (cs'[k]).lits,op y ∈ tr)/\lit ∈ (cs'[k]).lits)
 aG:aQ Z sb wr K f' V' X'
 x0:X' 0=ints (enc cs')
 dx:iW n X' tr ch lev rea
 dL:jm n V' X' wl
 perm:eD cs cs'
 only:∀ k,6 <= k->k ≠ 9->k < 16->X' k=X k
 ff:∀ j,j ≠ 6->f' j=f j
 ext:∃ e,tr=iP ++ e
 bD:aC Z w wr
def ni (Z:Nat->Prop) (sb:Nat) (w:World) (K:Nat) (f:Nat->Value) (X:Nat->List Value) (n lit p:Nat) (ch:List Nat) (cs:List Rec) (iP:List Nat) (e:Ending) (w':World):Prop:=
 ∃ res cs' tr lev rea wl f' V' X',e=.returned (.int .i64 res)/\UE Z sb w K f X n lit p ch cs iP res cs' tr lev rea wl f' V' X' w'
theorem x9.out {kept:Nat} {res:Int} (h:x9 Z sb w K f X n lit p ch VL cs iP kept res ml cs' tr lev rea wl f' V' X' wr) (hK2:K=16 + 2 * n) {wa:Option Addr} {m cw g9 n9 c9:Nat} (Ya:VL=.slice wa m cw) (Zq:kept <= ml.length) (sS:V' 9=.slice (some ⟨g9,0,none⟩) n9 c9):
  ni Z sb w K f X n lit p ch cs iP (.returned (.int .i64 res)) (wr.setCell ⟨g9,lit,none⟩ (.slice wa kept cw)):=by
 have hl:=h.yA;have hx:X' (16 + lit)=au ml:=by have:=h.dL.row lit hl;rwa [if_pos rfl] at this
 have hK:16 + lit < K:=by omega
 have s:=h.aG.ZN hK sS (h.hv.trans Ya) (m:=kept) (by rw [hx,ag];exact Zq)
 refine ⟨res,cs',tr,lev,rea,fun x=>if x=lit then ml.take kept else wl x,f',_,_,rfl,{
  aI:=h.aI
  lK:=h.lK
  jc:=h.jc
  kT:=h.kT
  res:=h.res
  aG:=s
  x0:=by rw [aa _ _ (by decide),aa _ _ (by omega)];exact h.x0
  dx:=h.dx.congr fun j h1 h2=>by rw [aa _ _ (by omega),aa _ _ (by omega)]
  dL:=by
   have:=h.dL.put hl (l:=ml.take kept) (R:=(X' (16 + lit)).take kept) (by rw [hx,jE]) (.slice wa kept cw)
   have e:(fun y=>if y=lit then ml.take kept else if y=lit then ml else wl y)=fun x=>if x=lit then ml.take kept else wl x:=by
    funext y
    by_cases e:y=lit
    ·rw [if_pos e,if_pos e]
    ·rw [if_neg e,if_neg e,if_neg e]
   rw [e] at this;exact this
  perm:=h.perm
  only:=fun j h1 h2 h3=>by rw [aa _ _ h2,aa _ _ (by omega)];exact h.only j h1 h2 h3
  ff:=h.ff
  ext:=h.ext
  bD:=h.bD.setCell (h.aG.al 9 (by omega) g9 (by rw [sS];rfl)) _ }⟩
theorem cK.Lm {a:Nat} (h:cK Z sb w K f X n lit p ch af VL cs iP i kl (mix (kl ++ [a]) af) cs' tr lev rea wl f' V' X' wr) (hi:i < af.length) (Ue:a=af[i]) (hK:16 + lit < K) {k q:Nat} {r:List Nat} (hk:k < cs'.length) (hkd:(cs'[k]).kind ≠ 2) (ha:af[i]=aj cs' k) (hl:(cs'[k]).lits=q :: lit :: r) (hq:tv tr q=-1) (hr:∀ y ∈ r,tv tr y=-1)
  {gb cap kn ii N:Nat} {cur:Array Value} (Ya:VL=.slice (some ⟨gb,0,none⟩) af.length cap) (hkn:kn=kl.length + 1) (hii:ii=i + 1) (hN:N=af.length - ii) (hg:wr.heap[gb]? = some (.cells cur 3 (0,0))) (q1:w'.heap[gb]? = some (.cells (splice cur.toList kn (au (af.drop ii))).toArray 3 (0,0))) (q2:∀ k,k ≠ gb->w'.heap[k]? = wr.heap[k]?) (q3:Below 0 wr w'):
  BO Z sb w K f X n lit p ch VL af.length cs iP (.int .i64 ((kn + N:Nat):Int)) (.int .i64 (a:Nat)) w':=by
 have hx3:X' (16 + lit)=au (mix (kl ++ [a]) af):=by have:=h.dL.row lit h.fi.mK;rwa [if_pos rfl] at this
 have Y5:(kl ++ [a]).length=kn:=by rw [hkn];simp
 have hkl:=h.fi.rD;rw [<- Y5] at q1;obtain ⟨sC,cC⟩:=h.aG.copied hK (h.hv.trans Ya) hx3 (i:=ii) (by rw [Y5];omega) (by omega) hg q1 q2 q3
 have fe:=h.PK hi Ue hK hk hkd ha hl hq hr (R:=(kl ++ [a]) ++ af.drop ii ++ af.drop ((kl ++ [a]).length + (af.length - ii))) (by rw [hii]) sC cC
 have e1:(kl ++ [a]).length + (af.length - (i + 1))=kn + N:=by omega
 have e2:aj cs' k=a:=by rw [Ue,ha]
 rw [e1,e2] at fe;exact ⟨kn + N,(a:Nat),_,cs',tr,lev,rea,wl,f',V',_,rfl,rfl,by omega,by simp;omega,fe⟩
theorem ni.later {e:Ending} {w'':World} (h:ni Z sb w K f X n lit p ch cs iP e w') (hb:Below w'.heap.size w' w''):ni Z sb w K f X n lit p ch cs iP e w'':=by
 obtain ⟨res,cs',tr,lev,rea,wl,f',V',X',h1,h2⟩:=h;exact ⟨res,cs',tr,lev,rea,wl,f',V',X',h1,{ h2 with aG:=h2.aG.later hb,bD:=h2.bD.trans (aC.of_below hb) }⟩
end
section
open Go Go.RowKit Go.Deep Rd
variable {Z:Nat->Prop} {sb K:Nat} {w w':World} {f V:Nat->Value} {X:Nat->List Value} {n:Nat} {wl:Nat->List Nat} {tr ch:List Nat} {lev:Nat->Nat} {rea:Nat->Int}
theorem Ev {cs:List Rec} {lit p:Nat} (h:aQ Z sb w K f V X) (hK2:K=16 + 2 * n) (h0:X 0=ints (enc cs)) (hn:n <= 50) (hN:(enc cs).length <= 1099511627776) (hT:iW n X tr ch lev rea) (hW:jm n V X wl)
  (ht:fM n tr ch lev) (hr:lh (mapOf cs) tr ch rea) (hc:uI n (mapOf cs)) (hw:qI n (mapOf cs) wl) (hs:nI (mapOf cs) tr lev p) (hp:tr[p]? = some (op lit)) (OL:∀ q ∈ ch,q <= p):
  Calls Tryz.prog 138 #[.pointer (some ⟨sb,0,none⟩),.int .i64 (lit:Nat)] w fun e w'=>ni Z sb w K f X n lit p ch cs tr e w':=by
 have yA:lit < 2 * n:=by
  have:=uy (ht.lt _ (List.mem_of_getElem? hp))
  rwa [gQ] at this
 obtain ⟨g9,c9,wa,yT,Mc,Rf,q5,qx,zx,l9,n9,z9,ox⟩:=hW.at' h hK2 yA;have YO:=hw.len yA;have S0:Hid (cK Z sb w K f X n lit p ch (wl lit) (V (16 + lit)) cs tr 0 [] (mix [] (wl lit)) cs tr lev rea wl f V X w):={
  fi:=FI.start ht hr hc hw hs hp OL
  aG:=h
  x0:=h0
  dx:=hT
  dL:=by
   rw [AZ];have e:(fun x=>if x=lit then wl lit else wl x)=wl:=by
    funext x;split
    ·rename_i e;rw [e]
    ·rfl
   rw [e];exact hW
  hv:=rfl
  perm:=eD.refl _
  only:=fun _ _ _ _=>rfl
  ff:=fun _ _=>rfl
  ext:=⟨[],by simp⟩
  bD:=aC.refl _ }
 have l00:(0:Int) <= (lit:Int):=by omega
 have l11:(lit:Int) < 2 * (n:Int):=by omega
 rw [Rf] at S0;have rY:Hid ((wa=none/\(wl lit).length=0/\yT=0)\/∃ gb,wa=some ⟨gb,0,none⟩/\(wl lit).length <= yT):=by
  rcases ox.2 with ⟨e,h0⟩ | ⟨g,cap',cur,e,_,_,hn,_⟩
  ·obtain ⟨e1,e2,e3⟩:=Value.slice.inj e;exact .inl ⟨e1,e2,e3⟩
  ·obtain ⟨e1,e2,e3⟩:=Value.slice.inj e;exact .inr ⟨g,e1,by rw [e3];exact hn⟩
 clear h h0 hT hW ht hr hc hw hs hp OL Mc Rf ox;generalize wl lit=af at *
 go_enter Tryz.func138,Tryz.ntmps138
 go_upto_region 3 with fail
 go_cut [7] from 8 (fun s7 wx=>s7=.int .i64 (-1)/\Hid (cK Z sb w K f X n lit p ch af (.slice wa af.length yT) cs tr 0 [] (mix [] af) cs tr lev rea wl f V X wx))
 case first=>
  go_wp2_with fail
  go_meet;exact ⟨rfl,S0⟩
 case rest=>
 obtain ⟨rfl,S1⟩:=hcut;clear S0 q5 qx zx l9 n9 z9;rename_i hKK;apply hKK;apply wp_seq_k;intro K2 hK2';go_cut [6,7] from 8 (fun s6 s7 wx=>BO Z sb w K f X n lit p ch (.slice wa af.length yT) af.length cs tr s6 s7 wx)
 case first=>
  go_wp2_with fail
  go_loopw [6,7,8,9,10,20] (fun s6 s7 _ _ _ s20 wr=>Ik Z sb w K f X n lit p ch af (.slice wa af.length yT) cs tr s6 s7 s20 wr) (fun _ _ _ _ _ s20 _=>af.length - (intOf s20).toNat)
  case atStart=>exact ⟨0,[],cs,tr,lev,rea,wl,f,V,X,rfl,rfl,rfl,S1⟩
  case round=>
   clear S1;obtain ⟨i,kl,cs',lq,nE,mD,iO,f',V',X',rfl,rfl,rfl,hst⟩:=hrel;have hil:=hst.out.fi.yF;have hkl:=hst.out.fi.rD;by_cases hlt:i < af.length
   ·obtain ⟨gb,rfl,hcap⟩:∃ gb,wa=some ⟨gb,0,none⟩/\af.length <= yT:=by
     rcases rY.out with ⟨_,h0,_⟩ | h
     ·omega
     ·exact h
    obtain ⟨c,⟨hC,hkd,hlen⟩,KV⟩:=hst.out.fi.next hlt;obtain ⟨k,hk,ha,rfl⟩:=aN hC;simp only at hkd hlen KV;obtain ⟨q,r,hl⟩:∃ q r,(cs'[k]).lits=lit :: q :: r\/(cs'[k]).lits=q :: lit :: r:=by
     match e:(cs'[k]).lits,hlen,KV with
     | x :: y :: r,_,KV=>
      simp only [List.getElem?_cons_zero,List.getElem?_cons_succ,Option.some.injEq] at KV
      rcases KV with rfl | rfl
      ·exact ⟨y,r,.inl rfl⟩
      ·exact ⟨x,r,.inr rfl⟩
    have hvv:=hst.out.fi.jc.vars _ _ hC;have WJ:=hst.out.fi.jc.lt _ _ hC;simp only at hvv WJ;have hne:lit ≠ q/\lit ∉ r:=by
     rcases hl with e | e
     ·rw [e] at hvv;simp only [List.map_cons,List.nodup_cons,List.mem_cons,List.mem_map,not_or,not_exists,not_and] at hvv;exact ⟨fun e2=>hvv.1.1 (by rw [e2]),fun hm=>hvv.1.2 lit hm rfl⟩
     ·rw [e] at hvv;simp only [List.map_cons,List.nodup_cons,List.mem_cons,List.mem_map,not_or,not_exists,not_and] at hvv;exact ⟨fun e2=>hvv.1.1 (by rw [e2]),fun hm=>hvv.2.1 lit hm rfl⟩
    have hN':(enc cs').length <= 1099511627776:=by rw [hst.out.perm.len];exact hN
    have QW:=hide (rZ (w:=wr) hst.out.aG hK2 hst.out.x0 hk hl hne.1 hne.2 WJ hn (by omega) hst.out.dx hst.out.dL (fun x hx=>by
     by_cases e:x=lit
     ·rw [if_pos e,jr (by omega)];omega
     ·have:=hst.out.fi.kT.len hx;rw [if_neg e] at this ⊢;omega))
    rw [<- ha] at QW;have hci:wr.cell? ⟨gb,i,none⟩=some (.int .i64 (af[i]:Nat)):=by
     have hrow:=hst.out.dL.row lit yA;rw [if_pos rfl] at hrow;have:=(hst.out.aG.bC.cell (k:=16 + lit) (by omega) hst.out.hv (j:=i) (by rw [hrow,ag,jr (by omega)];exact hlt)).1
     rw [this,hrow,eH _ _ (by rw [jr (by omega)];exact hlt),Wl hkl hlt]
    have X9:(0:Int) <= (i:Int):=by omega
    have i11:(i:Int) < (af.length:Int):=by omega
    have HST:=hide hst;have HL:=hide hl;have HA:=hide ha;obtain ⟨a,Ue⟩:∃ a,a=af[i]:=⟨_,rfl⟩;rw [<- Ue] at hci QW;have HAA:=hide Ue;clear KV hlen hC hvv WJ hne Ue ha hst;have hst:Hid (cK Z sb w K f X n lit p ch af (.slice (some ⟨gb,0,none⟩) af.length yT) cs tr i kl (mix kl af) cs' lq nE mD iO f' V' X' wr):=HST.out;clear HST hl;go_upto_if 28 with (go_at_call 179;refine QW.out.mono ?_;rintro e7 w7 ⟨b,V2,X2,rfl,hres⟩;have LQ:=hide hres;clear hres;simp only [])
    clear QW hci;obtain ⟨hc2,hs2,ho2,hv2,hcase⟩:=LQ.out;clear LQ
    rcases hcase with ⟨rfl,hx0,Zb,htv⟩ | ⟨rfl,hq1,jj,o,hrj,hto,hx0,Zb⟩
    ·
     have S2:=hst.out.stays hlt hk HA.out HL.out hs2 hc2 ho2 hx0 Zb hv2;have hk2:k < (cs'.set k ⟨(cs'[k]).kind,(cs'[k]).busy,q :: lit :: r⟩).length:=by simpa using hk
     have hl2:((cs'.set k ⟨(cs'[k]).kind,(cs'[k]).busy,q :: lit :: r⟩)[k]).lits=q :: lit :: r:=by simp
     have WS:((cs'.set k ⟨(cs'[k]).kind,(cs'[k]).busy,q :: lit :: r⟩)[k]).kind ≠ 2:=by simpa using hkd
     have ha2:af[i]=aj (cs'.set k ⟨(cs'[k]).kind,(cs'[k]).busy,q :: lit :: r⟩) k:=by
      rw [HA.out];exact (kQ hk (by rcases HL.out with e | e <;> rw [e] <;> simp) k).symm
     generalize cs'.set k ⟨(cs'[k]).kind,(cs'[k]).busy,q :: lit :: r⟩=cs2 at S2 hk2 hl2 WS ha2;have GR:q < 2 * n:=by
      have:=S2.fi.jc.lt _ _ (aP hk2) q (by rw [hl2];simp)
      exact this
     have hrow:=S2.dL.row lit yA;rw [if_pos rfl] at hrow;have WR:kl.length < af.length:=by omega
     obtain ⟨cc1,cc2⟩:=S2.aG.bC.cell (k:=16 + lit) (by omega) S2.hv (j:=kl.length) (by rw [hrow,ag,jr (by omega)];exact WR)
     rw [hrow,eH _ _ (by rw [jr (by omega)];exact WR)] at cc1
     have S3:=hide (S2.store (by omega) WR rfl a)
     have k00:(0:Int) <= (kl.length:Int):=by omega
     have k11:(kl.length:Int) < (af.length:Int):=by omega
     have kw:(kl.length:Int) + 1 < 9223372036854775807:=by omega
     have HTV:=hide htv;have HL2:=hide hl2;have HA2:=hide ha2;have HK2:=hide WS;clear hst hs2 hc2 ho2 hx0 Zb hv2 htv S2 hl2 ha2 WS hrow HL HA hkd hk;go_upto_region 10 with fail
     generalize hW3:w7.setCell ⟨gb,kl.length,none⟩ (.int .i64 (a:Nat))=W3 at S3 ⊢;clear hW3 cc1 cc2;generalize upd X2 (16 + lit) (au (mix (kl ++ [a]) af))=X3 at S3;obtain ⟨g,c,e0,q0,Ef,lg,ng,zg,r0,-,-,rl,-⟩:=bV S3.out.aG S3.out.x0 hk2;have hend:=bA hk2;have hm2:2 <= (cs2[k]).lits.length:=by rw [HL2.out];simp
     have hN2:(enc cs2).length <= 1099511627776:=by rw [S3.out.perm.len];exact hN
     have cq:=rl 0 (by omega)
     rw [show (cs2[k]).lits[0]'(by omega)=q by simp [HL2.out],Nat.add_zero,<- HA2.out,<- HAA.out] at cq
     have QL:Hid (∀ Y:World,Y.heap=W3.heap->Calls Tryz.prog 175 #[.pointer (some ⟨sb,2,none⟩),.int .i64 (aj cs2 k:Nat)] Y fun e w'=>e=.returned (fV g (aj cs2 k) (cs2[k]).lits.length c)/\∃ j,w'=Y.drewN j):=fun Y hY=>fu sb 2 g (enc cs2).length c (aj cs2 k) (cs2[k]).lits.length Y (by rw [show Y.cell? ⟨sb,2,none⟩=W3.cell? ⟨sb,2,none⟩ from World.cell?_of_block (a:=⟨sb,2,none⟩) (by rw [hY])];exact q0) (by omega) (by unfold maxLen;omega) Ef (by rw [show Y.cell? ⟨g,aj cs2 k,none⟩=W3.cell? ⟨g,aj cs2 k,none⟩ from World.cell?_of_block (a:=⟨g,aj cs2 k,none⟩) (by rw [hY])];exact r0)
     have nc:¬ (c=aj cs2 k + 3):=by omega
     unfold fV at QL;rw [if_neg nc,<- HA2.out,<- HAA.out] at QL;have m00:(0:Int) < ((cs2[k]).lits.length:Int):=by omega
     clear r0 rl q0 e0;generalize (cs2[k]).lits.length=m at QL m00;obtain ⟨g3,c3,t3,e3,q3,r3,s3,-⟩:=S3.out.aG.elem (k:=3) (j:=q) (by omega) S3.out.dx.n3 GR
     rw [show cellOf 3=9 from rfl] at q3
     rw [S3.out.dx.t3 q GR] at s3;obtain rfl:=Option.some.inj s3;clear e3;have q00:(0:Int) <= (q:Int):=by omega
     have QO:Hid (∀ Y:World,Y.heap=W3.heap->Calls Tryz.prog 135 #[.pointer (some ⟨sb,6,none⟩),.int .i64 (q:Nat)] Y fun e w'=>e=.returned (.bool (tv lq q == 0))/\w'=Y):=fun Y hY=>qE sb 6 g3 (2 * n) c3 q (tv lq q) Y (by rw [show Y.cell? ⟨sb,6 + 3,none⟩=W3.cell? ⟨sb,9,none⟩ from World.cell?_of_block (a:=⟨sb,9,none⟩) (by rw [hY])];exact q3) GR (by rw [show Y.cell? ⟨g3,q,none⟩=W3.cell? ⟨g3,q,none⟩ from World.cell?_of_block (a:=⟨g3,q,none⟩) (by rw [hY])];exact r3)
     have QF:Hid (∀ Y:World,Y.heap=W3.heap->Calls Tryz.prog 134 #[.pointer (some ⟨sb,6,none⟩),.int .i64 (q:Nat)] Y fun e w'=>e=.returned (.bool (decide (tv lq q < 0)))/\w'=Y):=fun Y hY=>oq sb 6 g3 (2 * n) c3 q (tv lq q) Y (by rw [show Y.cell? ⟨sb,6 + 3,none⟩=W3.cell? ⟨sb,9,none⟩ from World.cell?_of_block (a:=⟨sb,9,none⟩) (by rw [hY])];exact q3) GR (by rw [show Y.cell? ⟨g3,q,none⟩=W3.cell? ⟨g3,q,none⟩ from World.cell?_of_block (a:=⟨g3,q,none⟩) (by rw [hY])];exact r3)
     clear q3 r3;have HQ:Hid (tv lq q=1\/tv lq q=0\/tv lq q=-1):=by unfold Hid tv;split <;> (try split) <;> omega
     generalize htq:tv lq q=tq at QO QF HTV HQ;have HTQ:=hide htq;clear htq;go_upto_region 11 with (go_at_call 175;refine (QL.out _ (by rfl)).mono ?_;rintro e8 w8 ⟨rfl,j8,rfl⟩;simp only [])
     obtain ⟨W4,hW4⟩:∃ W4,W4=W3.drewN j8:=⟨_,rfl⟩;have b4:Below W3.heap.size W3 W4:=by rw [hW4];exact below_drewN (Below.refl _ _) _
     have HH4:Hid (W4.heap=W3.heap):=by rw [hW4];rfl
     rw [<- hW4];have S4:=hide (S3.out.later b4);have Yf:Hid (∀ Y:World,Y.heap=W4.heap->Calls Tryz.prog 135 #[.pointer (some ⟨sb,6,none⟩),.int .i64 (q:Nat)] Y fun e w'=>e=.returned (.bool (tq == 0))/\w'=Y):=fun Y hY=>QO.out Y (hY.trans HH4.out)
     have Z8:Hid (∀ Y:World,Y.heap=W4.heap->Calls Tryz.prog 134 #[.pointer (some ⟨sb,6,none⟩),.int .i64 (q:Nat)] Y fun e w'=>e=.returned (.bool (decide (tq < 0)))/\w'=Y):=fun Y hY=>QF.out Y (hY.trans HH4.out)
     clear hW4 b4 S3 QO QF QL cq lg
     rcases HQ.out with rfl | rfl | rfl
     ·
      have Z6:Hid (∀ Y:World,Y.heap=W4.heap->Calls Tryz.prog 135 #[.pointer (some ⟨sb,6,none⟩),.int .i64 (q:Nat)] Y fun e w'=>e=.returned (.bool false)/\w'=Y):=Yf.out
      have QF5:Hid (∀ Y:World,Y.heap=W4.heap->Calls Tryz.prog 134 #[.pointer (some ⟨sb,6,none⟩),.int .i64 (q:Nat)] Y fun e w'=>e=.returned (.bool false)/\w'=Y):=Z8.out
      clear Yf Z8;have S5:=hide (S4.out.Y6 hlt hk2 HA2.out HL2.out HTQ.out);rw [<- HAA.out] at S5;have kle:Hid ((kl ++ [a]).length=kl.length + 1):=by unfold Hid;simp
      clear S4;go_upto_region 13 with (go_at_call 135;refine (Z6.out _ (by rfl)).mono ?_;rintro e9 w9 ⟨rfl,rfl⟩;simp only [])
      go_wp2_with (go_at_call 134;refine (QF5.out _ (by rfl)).mono ?_;rintro e9 w9 ⟨rfl,rfl⟩;simp only [])
      go_roundw
      case rel=>exact ⟨i + 1,kl ++ [a],_,_,_,_,_,_,_,_,by rw [kle.out];rfl,rfl,by go_num,S5⟩
      case measure=>simp [intOf];omega
     ·
      have hall:∀ y ∈ r,tv lq y=-1:=by
       rcases HTV.out with e | ⟨_,e⟩
       ·cases e
       ·exact e
      have Z6:Hid (∀ Y:World,Y.heap=W4.heap->Calls Tryz.prog 135 #[.pointer (some ⟨sb,6,none⟩),.int .i64 (q:Nat)] Y fun e w'=>e=.returned (.bool true)/\w'=Y):=Yf.out
      have l1:(X3 1).length=lq.length:=by rw [S4.out.dx.l1,ag]
      have l2:(X3 2).length=ch.length:=by rw [S4.out.dx.l2,ag]
      have trl:=S4.out.fi.aI.len;have QA:=hide (mW (w:=W4) q n ch.length (a:Nat) GR hn S4.out.aG (by omega) l2 S4.out.dx.n3 S4.out.dx.n4 S4.out.dx.n5)
      have UT:=hide (fun w' v' hs hc=>S4.out.Yu (w':=w') (v':=v') hlt hk2 HK2.out HA2.out HL2.out HTQ.out hall hs hc)
      rw [<- HAA.out] at UT;have kle:Hid ((kl ++ [a]).length=kl.length + 1):=by unfold Hid;simp
      clear Yf Z8 S4 hall l1 l2 trl;go_upto_region 12 with (go_at_call 135;refine (Z6.out _ (by rfl)).mono ?_;rintro e9 w9 ⟨rfl,rfl⟩;simp only [])
      go_wp2_with (go_at_call 136;refine QA.out.mono ?_;rintro eA wA ⟨rfl,hcA,vA,hsA⟩;have S5:=hide (UT.out wA vA hsA hcA);clear hcA hsA;simp only [])
      go_roundw
      case rel=>exact ⟨i + 1,kl ++ [a],_,_,_,_,_,_,_,_,by rw [kle.out];rfl,rfl,by go_num,S5⟩
      case measure=>simp [intOf];omega
     ·
      have hall:∀ y ∈ r,tv lq y=-1:=by
       rcases HTV.out with e | ⟨_,e⟩
       ·cases e
       ·exact e
      have Z6:Hid (∀ Y:World,Y.heap=W4.heap->Calls Tryz.prog 135 #[.pointer (some ⟨sb,6,none⟩),.int .i64 (q:Nat)] Y fun e w'=>e=.returned (.bool false)/\w'=Y):=Yf.out
      have QF5:Hid (∀ Y:World,Y.heap=W4.heap->Calls Tryz.prog 134 #[.pointer (some ⟨sb,6,none⟩),.int .i64 (q:Nat)] Y fun e w'=>e=.returned (.bool true)/\w'=Y):=Z8.out
      clear Yf Z8
      go_upto_region 14 with (first | (go_at_call 135;refine (Z6.out _ (by rfl)).mono ?_;rintro e9 w9 ⟨rfl,rfl⟩;simp only []) | (go_at_call 134;refine (QF5.out _ (by rfl)).mono ?_;rintro e9 w9 ⟨rfl,rfl⟩;simp only []))
      obtain ⟨kn,hkn⟩:∃ kn,kn=kl.length + 1:=⟨_,rfl⟩;obtain ⟨ii,hii⟩:∃ ii,ii=i + 1:=⟨_,rfl⟩;have hrow:=S4.out.dL.row lit yA;rw [if_pos rfl] at hrow;have how:=S4.out.aG.bC.own (16 + lit) (by omega)
      rw [S4.out.hv,rJ,hrow,ag,jr (by simp;omega)] at how
      obtain ⟨cur,hg,hcs⟩:∃ cur,w9.heap[gb]? = some (.cells cur 3 (0,0))/\af.length <= cur.size:=by
       rcases how.2 with ⟨e,_⟩ | ⟨g',cap',cur',e,_,hg',hn',_,hs',_⟩
       ·cases e
       ·cases e;exact ⟨cur',hg',by omega⟩
      obtain ⟨N,I7⟩:∃ N,N=af.length - ii:=⟨_,rfl⟩;obtain ⟨Ll,KZ⟩:∃ Ll,Ll=au (af.drop ii):=⟨_,rfl⟩;have hcl:Ll.length=N:=by rw [KZ,I7,ag];simp
      have Y5:(kl ++ [a]).length=kn:=by rw [hkn];simp
      have hsrc:Hid (∀ j v,Ll[j]? = some v->w9.cell? (Addr.add ⟨gb,ii,none⟩ j)=some v):=by rw [KZ];exact PH how (by rw [Y5];omega)
      have h1c:Hid (∀ v ∈ Ll,v.oneCell'=true):=by rw [KZ];exact NT _
      have CP:Hid (∀ w',w'.heap[gb]? = some (.cells (splice cur.toList kn Ll).toArray 3 (0,0))->(∀ k,k ≠ gb->w'.heap[k]? = w9.heap[k]?)->Below 0 w9 w'->BO Z sb w K f X n lit p ch (.slice (some ⟨gb,0,none⟩) af.length yT) af.length cs tr (.int .i64 ((kn + N:Nat):Int)) (.int .i64 (a:Nat)) w'):=fun w' q1 q2 q3=>S4.out.Lm hlt HAA.out (by omega) hk2 HK2.out HA2.out HL2.out HTQ.out hall rfl hkn hii I7 hg (by rw [<- KZ];exact q1) q2 q3
      have HG:=hide hg;have HKN:=hide hkn;have HII:=hide hii;have i1:(i:Int) + 1=(ii:Int):=by omega
      have i2:(kl.length:Int) + 1=(kn:Int):=by omega
      have j0:(0:Int) <= (ii:Int):=by omega
      have j1:(ii:Int) <= (af.length:Int):=by omega
      have j2:(0:Int) <= (kn:Int):=by omega
      have j3:(kn:Int) <= (af.length:Int):=by omega
      have j4:(ii:Int) <= (yT:Int):=by omega
      have j5:(kn:Int) <= (yT:Int):=by omega
      have j6:kn <= ii:=by omega
      have j7:(i:Int) + 1 < 9223372036854775807:=by omega
      have hmn:N=Nat.min (af.length - ii) (af.length - kn):=by rw [I7];exact (Nat.min_eq_left (by omega)).symm
      have HMN:=hide hmn;clear hmn;have hft:kn + N <= cur.size:=by omega
      have kb:kn + N <= 1099511627776:=by omega
      have HCPY:=hide KZ;have XF:=hide I7;have wi:IntKind.i64.wrap (ii:Int)=(ii:Int):=tY _ (by omega) (by omega)
      have wk:Hid (IntKind.i64.wrap ((kn:Int) + (N:Int))=((kn + N:Nat):Int)):=by unfold Hid;rw [tY _ (by omega) (by omega)];omega
      have OP:yT=ii->af.length=ii:=fun e=>by omega
      clear how hrow KZ hg I7 Y5 hkn hii S4 hall;rw [i2];by_cases cA:ii < yT
      ·have wn1:¬ (yT=ii):=by omega
       have wn2:¬ (yT=kn):=by omega
       go_region_law (refine kW (by rfl) _ _ 43 43 (by rfl) 3 Tryz.underlying43 (by rfl) gb kn ⟨gb,ii,none⟩ (af.length - kn) (yT - kn) (af.length - ii) (yT - ii) (by simp [Act.eval,Act.put]) (by simp [Act.eval,Act.put]) cur 3 HG.out Ll (by rw [hcl];exact HMN.out) hsrc.out (by rw [hcl];exact hft) h1c.out 0 (Nat.zero_le _) ?_;intro wZ H1 H2 H3;rw [hcl])
       all_goals
        have FX:=hide (CP.out wZ H1.out H2.out ((Below.refl 0 w9).drew.trans H3.out));rw [<- wk.out] at FX;clear H1 H2 H3;go_wp2_with fail
        go_meet
        first | exact FX.out | (rw [wk.out,Int.natCast_add] at FX;exact FX.out)
      ·have eA:yT=ii:=by omega
       have eB:af.length=ii:=OP eA;have cpn:Ll=[]:=List.eq_nil_of_length_eq_zero (by rw [hcl,XF.out];omega)
       have U2:Hid (∀ j v,Ll[j]? = some v->w9.cell? (Addr.add ⟨gb,0,none⟩ j)=some v):=fun j v hv=>by rw [cpn] at hv;simp at hv
       have SPN:Hid (∀ o,splice cur.toList o Ll=splice cur.toList kn Ll):=fun o=>by rw [cpn,vR,vR]
       have hN0:Hid (∀ y,N=Nat.min 0 y):=fun y=>by rw [XF.out,eB];simp
       have HEB:=hide eB;clear cpn OP eB;subst eA;by_cases cB:yT=kn
       ·subst cB;have ft0:0 + N <= cur.size:=by omega
        go_region_law (refine kW (by rfl) _ _ 43 43 (by rfl) 3 Tryz.underlying43 (by rfl) gb 0 ⟨gb,0,none⟩ 0 0 0 0 (by simp [Act.eval,Act.put]) (by simp [Act.eval,Act.put]) cur 3 HG.out Ll (by rw [hcl];exact hN0.out _) U2.out (by rw [hcl];exact ft0) h1c.out 0 (Nat.zero_le _) ?_;intro wZ H1 H2 H3;rw [hcl])
        all_goals
         rw [SPN.out] at H1;have FX:=hide (CP.out wZ H1.out H2.out ((Below.refl 0 w9).drew.trans H3.out));rw [<- wk.out] at FX;clear H1 H2 H3;go_wp2_with fail
         go_meet
         first | exact FX.out | (rw [wk.out,Int.natCast_add] at FX;exact FX.out)
       ·go_region_law (refine kW (by rfl) _ _ 43 43 (by rfl) 3 Tryz.underlying43 (by rfl) gb kn ⟨gb,0,none⟩ (af.length - kn) (yT - kn) 0 0 (by simp [Act.eval,Act.put]) (by simp [Act.eval,Act.put]) cur 3 HG.out Ll (by rw [hcl];exact hN0.out _) U2.out (by rw [hcl];exact hft) h1c.out 0 (Nat.zero_le _) ?_;intro wZ H1 H2 H3;rw [hcl])
        all_goals
         have FX:=hide (CP.out wZ H1.out H2.out ((Below.refl 0 w9).drew.trans H3.out));rw [<- wk.out] at FX;clear H1 H2 H3;go_wp2_with fail
         go_meet
         first | exact FX.out | (rw [wk.out,Int.natCast_add] at FX;exact FX.out)
    ·have S2:=hide (hst.out.moves hlt hk hkd HA.out HL.out hs2 hc2 ho2 hq1 hrj hto hx0 Zb hv2);clear hst hs2 hc2 ho2 hx0 Zb hv2;go_wp2;go_roundw
     case rel=>exact ⟨i + 1,kl,_,_,_,_,_,_,_,_,rfl,rfl,by go_num,S2⟩
     case measure=>simp [intOf];omega
   ·have ei:i=af.length:=by omega
    subst ei;have SE:=hide hst.out.atEnd;clear hst;go_wp2_with fail
    go_meet;exact ⟨kl.length,-1,mix kl af,cs',lq,nE,mD,iO,f',V',X',rfl,rfl,by omega,jr (by omega),SE⟩
 case rest=>
  clear S1;obtain ⟨kept,res,ml,cs',lq,nE,mD,iO,f',V',X',rfl,rfl,Zq,Ua,hend⟩:=hcut;have h9:=hend.out.dL.n9;obtain ⟨g9',c9',t9,Mc,q9,r9,s9,z9,zz9,l9,n9'⟩:=hend.out.aG.elem (k:=9) (j:=lit) (by omega) h9 yA
  rw [show cellOf 9=5 from rfl] at q9
  have FIN:=hide (hend.out.out hK2 rfl (by omega) Mc)
  have k0:(0:Int) <= (kept:Int):=by omega
  have k1:(kept:Int) <= (af.length:Int):=by omega
  have k2:(kept:Int) <= (yT:Int):=by
   rcases rY.out with ⟨_,h0,_⟩ | ⟨_,_,h⟩ <;> omega
  clear hend Mc s9 h9;go_upto_region 17 with fail
  go_region_with fail
  all_goals
   go_wp2;go_ret
   first | exact FIN.out | exact FIN.out.later (Below.refl _ _).drew
end
end So
end Go.Proofs.YtceahffmenbibaaGreatDoor
