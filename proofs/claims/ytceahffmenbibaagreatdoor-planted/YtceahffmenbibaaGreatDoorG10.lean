/- Sxpl Sxpw Sfor Sfg1. -/
import Derived.Test.YtceahffmenbibaaGreatDoorG09
set_option linter.unusedVariables false
set_option linter.unusedSimpArgs false
set_option maxHeartbeats 4000000
set_option maxRecDepth 100000
namespace Go.Proofs.YtceahffmenbibaaGreatDoor
namespace So
section
open Go Go.RowKit Go.Deep Rd
def bU (cs cs':List Rec):Prop:=cs'.length=cs.length/\∀ k (h:k < cs.length) (h':k < cs'.length),(cs'[k]).kind=(cs[k]).kind/\(cs'[k]).lits=(cs[k]).lits
theorem bU.refl (cs:List Rec):bU cs cs:=⟨rfl,fun _ _ _=>⟨rfl,rfl⟩⟩
theorem bU.trans {a b c:List Rec} (h:bU a b) (h':bU b c):bU a c:=⟨h'.1.trans h.1,fun k h1 h2=>by
 have hb:k < b.length:=by rw [h.1];exact h1
 obtain ⟨x1,x2⟩:=h.2 k h1 hb;obtain ⟨y1,y2⟩:=h'.2 k hb h2;exact ⟨y1.trans x1,y2.trans x2⟩⟩
theorem bU.set {cs:List Rec} {k:Nat} (hk:k < cs.length) (b:Int):bU cs (cs.set k ⟨(cs[k]).kind,b,(cs[k]).lits⟩):=⟨by simp,fun j h h'=>by
 by_cases e:k=j
 ·subst e;rw [List.getElem_set_self];exact ⟨rfl,rfl⟩
 ·rw [List.getElem_set_ne e];exact ⟨rfl,rfl⟩⟩
theorem bU.aj {cs cs':List Rec} (h:bU cs cs'):∀ k,k <= cs.length->aj cs' k=aj cs k
 | 0,_=>by rw [gK,gK]
 | k + 1,hk=>by
  have hk':k < cs'.length:=by rw [h.1];exact hk
  rw [dz hk',dz (show k < cs.length from hk),h.aj k (by omega),(h.2 k hk hk').2]
theorem bU.len {cs cs':List Rec} (h:bU cs cs'):(enc cs').length=(enc cs).length:=by
 rw [<- dY (Nat.le_refl _),<- dY (cs:=cs) (Nat.le_refl _),h.1];exact h.aj _ (Nat.le_refl _)
theorem bU.map {cs cs':List Rec} (h:bU cs cs'):mapOf cs'=mapOf cs:=by
 funext a
 cases e1:mapOf cs a with
 | none=>
  cases e2:mapOf cs' a with
  | none=>rfl
  | some d=>
   obtain ⟨k,hk,ha,_⟩:=aN e2;have hk2:k < cs.length:=by rw [<- h.1];exact hk
   rw [h.aj k (Nat.le_of_lt hk2)] at ha;rw [ha,aP hk2] at e1;cases e1
 | some c=>
  obtain ⟨k,hk,ha,hc⟩:=aN e1;have hk2:k < cs'.length:=by rw [h.1];exact hk
  have:=aP hk2;rw [h.aj k (Nat.le_of_lt hk),<- ha,(h.2 k hk hk2).1,(h.2 k hk hk2).2] at this;rw [this,hc]
theorem bU.kz {cs cs':List Rec} (h:bU cs cs'):kz cs'=kz cs:=by
 have:∀ (a b:List Rec),bU a b->So.kz b=So.kz a:=by
  intro a
  induction a with
  | nil=>intro b h;have:b=[]:=List.eq_nil_of_length_eq_zero (by rw [h.1];rfl);subst this;rfl
  | cons c r ih=>
   intro b h
   match b,h with
   | [],h=>have:=h.1;simp at this
   | c' :: r',h=>
    obtain ⟨x1,x2⟩:=h.2 0 (by simp) (by simp)
    simp only [List.getElem_cons_zero] at x1 x2;have hr:bU r r':=⟨by have:=h.1;simpa using this,fun k h1 h2=>by
     have:=h.2 (k + 1) (by simpa using h1) (by simpa using h2)
     simpa using this⟩
    have:=ih r' hr;unfold So.kz at this ⊢;simp only [List.filter_cons,x1];split
    ·simp only [List.map_cons,x2,this]
    ·exact this
 exact this cs cs' h
structure FK (Z:Nat->Prop) (sb ob hb n:Nat) (w:World) (K:Nat) (f:Nat->Value) (X:Nat->List Value) (gone:Nat->Prop) (cs:List Rec) (tr ch:List Nat) (lev:Nat->Nat) (rea:Nat->Int) (last:Nat) (c0:List Nat) (i:Nat) (s:Lk) (cs':List Rec) (f' V':Nat->Value) (X':Nat->List Value) (Rs Ro:Nat->Prop) (wr:World):Prop where
 ex:vF tr ch lev (fG (mapOf cs) rea) last c0 i s
 look:bK Z sb ob hb n w K f X gone (ints (enc cs')) (-1) s f' V' X' Rs Ro wr
 busy:bU cs cs'
def Il (Z:Nat->Prop) (sb ob hb n:Nat) (w:World) (K:Nat) (f:Nat->Value) (X:Nat->List Value) (gone:Nat->Prop) (cs:List Rec) (tr ch:List Nat) (lev:Nat->Nat) (rea:Nat->Int) (last:Nat) (c0:List Nat) (s4 s5:Value) (wr:World):Prop:=
 ∃ (i:Nat) (s:Lk) (cs':List Rec) (f' V':Nat->Value) (X':Nat->List Value) (Rs Ro:Nat->Prop),s5=.int .i64 ((i:Nat):Int)/\s4=.int .i64 ((s.opn:Nat):Int)/\Hid (FK Z sb ob hb n w K f X gone cs tr ch lev rea last c0 (i + 1) s cs' f' V' X' Rs Ro wr)
def tV (Z:Nat->Prop) (sb ob hb n:Nat) (w:World) (K:Nat) (f:Nat->Value) (X:Nat->List Value) (gone:Nat->Prop) (cs:List Rec) (tr ch:List Nat) (lev:Nat->Nat) (rea:Nat->Int) (last:Nat) (c0:List Nat) (e:Ending) (w':World):Prop:=
 e=.returned (.tuple #[])/\∃ (i:Nat) (hi:i < tr.length) (s:Lk) (cs':List Rec) (f' V':Nat->Value) (X':Nat->List Value) (Rs Ro:Nat->Prop),vF tr ch lev (fG (mapOf cs) rea) last c0 (i + 1) s/\s.seen (tr[i] / 2)=true/\s.opn=1/\bK Z sb ob hb n w K f X gone (ints (enc cs')) (op tr[i]:Nat) s f' V' X' Rs Ro w'/\bU cs cs'
variable {Z:Nat->Prop} {sb ob hb K n:Nat} {w wr wx:World} {f f' V' f2 V2:Nat->Value} {X X' X2:Nat->List Value} {gone:Nat->Prop} {Rs Ro Rj Ye:Nat->Prop} {tr ch:List Nat} {lev:Nat->Nat} {rea:Nat->Int} {cs cs':List Rec} {last i:Nat} {c0:List Nat} {s:Lk}
theorem bK.comp {E E2:List Value} {pre:Int} {s2:Lk} (h:bK Z sb ob hb n w K f X gone E pre s f' V' X' Rs Ro wr) (h2:bK Z sb ob hb n wr K f' X' gone E2 pre s2 f2 V2 X2 Rj Ye wx):bK Z sb ob hb n w K f X gone E2 pre s2 f2 V2 X2 Rj Ye wx:=
 ⟨h2.duo,h2.x0,h2.Cb,fun j h1 h3 h4=>(h2.only j h1 h3 h4).trans (h.only j h1 h3 h4),fun j hj=>(h2.ff j hj).trans (h.ff j hj),h.bD.trans h2.bD,h2.wk⟩
theorem FK.fin (h:FK Z sb ob hb n w K f X gone cs tr ch lev rea last c0 (i + 1) s cs' f' V' X' Rs Ro wr) (hi:i < tr.length) (hs:s.seen (tr[i] / 2)=true) (ho:s.opn=1) {g m c:Nat} (e7:V' 7=.slice (some ⟨g,0,none⟩) m c) (hz:zz Rs wr g):
  tV Z sb ob hb n w K f X gone cs tr ch lev rea last c0 (.returned (.tuple #[])) (wr.setCell ⟨g,0,none⟩ (.int .i64 (op tr[i]:Nat))):=by
 have hK:=h.look.duo.aG.hK;obtain ⟨d1,d2⟩:=h.look.duo.dH (h.look.duo.aG.set (k:=7) (by omega) e7 0 (.int .i64 (op tr[i]:Nat))) ((aC.refl _).setCell hz _) rfl
 refine ⟨rfl,i,hi,s,cs',f',V',_,_,_,h.ex,hs,ho,⟨d1,by rw [aa _ _ (by decide)];exact h.look.x0,⟨by rw [aa _ _ (by decide)];exact h.look.Cb.n10,by rw [aa _ _ (by decide)];exact h.look.Cb.t10,?_⟩,fun j h1 h2 h3=>by rw [aa _ _ h2];exact h.look.only j h1 h2 h3,h.look.ff,h.look.bD.trans d2,h.look.wk.congr (aa _ _ (by decide)) fun _=>rfl⟩,h.busy⟩
 rw [ae,h.look.Cb.l7];rfl
theorem tV.later {e:Ending} (h:tV Z sb ob hb n w K f X gone cs tr ch lev rea last c0 e wr) (hb':Below wr.heap.size wr wx):tV Z sb ob hb n w K f X gone cs tr ch lev rea last c0 e wx:=by
 obtain ⟨h1,i,hi,s,cs',f',V',X',Rs,Ro,h2,h3,h4,h5,h6⟩:=h;exact ⟨h1,i,hi,s,cs',f',V',X',Rs,Ro,h2,h3,h4,h5.later hb',h6⟩
theorem fU {n:Nat} {l:List Nat} (h:(l.map (· / 2)).Nodup) (hl:∀ x ∈ l,x < 2 * n):l.length <= n:=by
 have:=fw n (l.map (· / 2)) h (fun v hv=>by
  obtain ⟨x,hx,rfl⟩:=List.mem_map.1 hv;have:=hl x hx;omega)
 simpa using this
theorem LM.len {d:Nat} (h:LM tr lev d s) (ht:fM n tr ch lev):s.bn.length <= n:=
 fU h.nd fun y hy=>by
  have:=uy (ht.lt _ ((h.bn y).1 hy).1)
  rwa [gQ] at this
theorem aQ.Nq {V:Nat->Value} (h:aQ Z sb w K f V X) {k:Nat} (hk:k < 13) {a:Option Addr} {n0 cap m0:Nat} (hv:V k=.slice a n0 cap) (hm0:m0 <= (X k).length) {obj:Obj} {v':Value} {w6:World} {m:Nat} {news:List Value} (hm:news.length=m) (A:aB (w.alloc obj) 0 (iC k) 1 (.slice a m0 cap) m0 ((X k).take m0) m news v' w6):
  aQ Z sb (w6.setCell ⟨sb,cellOf k,none⟩ v') K (upd f (cellOf k) v') (upd V k v') (upd X k ((X k).take m0 ++ news))/\aC Z w (w6.setCell ⟨sb,cellOf k,none⟩ v')/\∀ j,j < 22->w6.cell? ⟨sb,j,none⟩=some (f j)/\w6.frozen? ⟨sb,j,none⟩=false:=by
 have wW:k < K:=by have:=h.hK;omega
 have hl:=h.later ((Below.refl _ w).alloc (Nat.le_refl _) obj);have ob0:∀ g,(Value.slice a m0 cap).ownBlock=some g->(V k).ownBlock=some g:=fun g hg=>by rw [hv];cases a <;> exact hg
 have ob1:(Value.slice a m0 cap).ownBlock=(V k).ownBlock:=by rw [hv];cases a <;> rfl
 have ht:((X k).take m0).length=m0:=by rw [List.length_take];omega
 have hf:=hl.bC.cut wW hv hm0;have A':aB (w.alloc obj) 0 (iC k) 1 (upd V k (.slice a m0 cap) k) (upd X k ((X k).take m0) k).length (upd X k ((X k).take m0) k) m news v' w6:=by rw [ae,ae,ht];exact A
 have hp:=hf.push wW hm A';rw [ae,bE,bE] at hp;have gb:=A.grew;rw [ob1] at gb;have hr:=hl.row.of_block (gb.block sb hl.row.lt (fun e=>hl.far wW sb e.symm rfl))
 have at2:v'.ownBlock=(V k).ownBlock\/v'.ownBlock=some (w.alloc obj).heap.size:=by
  rcases A.at' with h1 | h1
  ·exact .inl (by rw [h1,ob1])
  ·exact .inr h1
 refine ⟨h.header hk hr hp rfl (fun i hi g hg=>?_) (by have:=A.grew.size;simp at this;omega) (fun i hi g hg=>?_),(((aC.refl w).alloc obj).grown gb (fun g hg=>h.al k wW g hg)).setCell h.fZ _,fun j hj=>⟨hr.cell hj,hr.frozen j⟩⟩
 ·by_cases e:i=k
  ·subst e;rw [ae] at hg
   rcases at2 with h1 | h1
   ·rw [h1] at hg;exact hl.far hi g hg
   ·rw [h1] at hg;have:=Option.some.inj hg;have:=hl.row.lt;omega
  ·rw [aa _ _ e] at hg;exact hl.far hi g hg
 ·by_cases e:i=k
  ·subst e;rw [ae] at hg
   rcases at2 with h1 | h1
   ·rw [h1] at hg;exact h.al i hi g hg
   ·rw [h1] at hg;have:=Option.some.inj hg;exact h.az g (by simp at this;omega)
  ·rw [aa _ _ e] at hg;exact h.al i hi g hg
end
section
open Go Go.RowKit Go.Deep Rd
variable {Z:Nat->Prop} {sb ob hb K n:Nat} {w:World} {f V:Nat->Value} {X:Nat->List Value} {gone:Nat->Prop} {Rs Ro:Nat->Prop} {tr ch:List Nat} {lev:Nat->Nat} {rea:Nat->Int} {cs:List Rec}
theorem Tryz.OC:(Tryz.prog.info? 4).map (fun i=>(i.zero,i.size,i.bytes))=some (some (.bool false),1,1):=by kernel_rfl
theorem D6 {t:TypeId} {z:Value} {a b:Nat} (h:(Tryz.prog.info? t).map (fun i=>(i.zero,i.size,i.bytes))=some (some z,a,b)):∃ i,Tryz.prog.info? t=some i/\i.zero=some z:=by
 cases e:Tryz.prog.info? t with
 | none=>rw [e] at h;cases h
 | some i=>rw [e] at h;exact ⟨i,rfl,(Prod.mk.inj (Option.some.inj h)).1⟩
theorem Ew {k:Nat} (D:Duo Z sb ob hb n w K f V X gone Rs Ro) (hn:n <= 50) (h0:X 0=ints (enc cs)) (hk:k < cs.length) (hN:(enc cs).length <= 1099511627776) (hT:iW n X tr ch lev rea) (h10:(X 10).length=n) (hW:WK n V X)
  (ht:fM n tr ch lev) (hr:lh (mapOf cs) tr ch rea) (hc:uI n (mapOf cs)) (hd:0 < ch.length) (hf:∀ y ∈ (cs[k]).lits,op y ∈ tr) {y0:Nat} (hy0:y0 ∈ (cs[k]).lits) (hl0:lev (y0 / 2)=ch.length):
  Calls Tryz.prog 141 #[.pointer (some ⟨sb,0,none⟩),.int .i64 (aj cs k:Nat)] w fun e w'=>tV Z sb ob hb n w K f X gone cs tr ch lev rea ch[ch.length - 1] (cs[k]).lits e w':=by
 have EXS:Hid (vF tr ch lev (fG (mapOf cs) rea) ch[ch.length - 1] (cs[k]).lits tr.length ((cs[k]).lits.foldl (iZ lev ch.length) ⟨fun _=>false,[],0⟩)):=vF.start ht hd hf hy0 hl0
 have EXT:Hid (∀ i s,vF tr ch lev (fG (mapOf cs) rea) ch[ch.length - 1] (cs[k]).lits (i + 1) s->∀ (hi:i < tr.length),s.seen (tr[i] / 2)=true->s.opn ≠ 1->∃ a c r,rea (tr[i] / 2)=(a:Nat)/\mapOf cs a=some c/\c.lits=tr[i] :: r/\∃ more,(c.lits.foldl (iZ lev ch.length) ⟨s.seen,s.bn,0⟩).opn=more/\vF tr ch lev (fG (mapOf cs) rea) ch[ch.length - 1] (cs[k]).lits i ⟨(c.lits.foldl (iZ lev ch.length) ⟨s.seen,s.bn,0⟩).seen,(c.lits.foldl (iZ lev ch.length) ⟨s.seen,s.bn,0⟩).bn,s.opn + more - 1⟩):=fun i s he hi hs ho=>by
  obtain ⟨a,c,r,h1,h2,h3,h4,h5,h6⟩:=Aa (hr.why i hi (he.forced ht hd ho));obtain ⟨more,m1,m2⟩:=he.step ht hd hi hs ho h5 h4 h6;exact ⟨a,c,r,h1,h2,h4,more,m1,m2⟩
 obtain ⟨last,hlast⟩:∃ last,last=ch[ch.length - 1]:=⟨_,rfl⟩;rw [<- hlast] at EXS EXT ⊢;obtain ⟨i0,hi,hz0,hz1,hz2⟩:=info_parts Tryz.cu;obtain ⟨ib,hib,hzb⟩:=D6 Tryz.OC;have hK:=D.aG.hK;have tl:=ht.len;have dl:=ht.depth;have hn1:1 <= n:=by omega
 obtain ⟨n',hn'⟩:∃ n',n=n' + 1:=⟨n - 1,by omega⟩
 obtain ⟨g10,c10,cur,e10,-,Uc,WY⟩:=D.aG.bC.block (k:=10) (by omega) (by omega)
 have Zx:n <= cur.size:=by
  have:=D.aG.bC.own 10 (by omega)
  rw [e10] at this
  rcases this.2 with ⟨e,_⟩ | ⟨g',cap',cur',e,_,hg',hn2,_,hs',_⟩
  ·cases e
  ·cases e
   rw [Uc] at hg';cases hg';omega
 have Sj:=(D.aG.hd (k:=10) (by omega)).1
 rw [show cellOf 10=16 from rfl,e10,h10] at Sj
 rw [h10] at e10;have CLR:Hid (∀ w1,w1.heap[g10]? = some (.cells (splice cur.toList 0 (List.replicate (n' + 1) (.bool false))).toArray 4 (0,0))->(∀ k,k ≠ g10->w1.heap[k]? = w.heap[k]?)->Below 0 w w1->∃ qb,Duo Z sb ob hb n w1 K f V (upd X 10 (List.replicate n (.bool false))) gone qb Ro/\aC Z w w1):=fun w1 q1 q2 q3=>by
  obtain ⟨s1,c1⟩:=D.aG.ve (k:=10) (R:=List.replicate n (.bool false)) (by omega) e10 (by
   rw [e10,List.length_replicate];have ho:=D.aG.bC.own 10 (by omega)
   rw [e10] at ho;refine ⟨by simp,?_⟩
   rcases ho.2 with ⟨e,_⟩ | ⟨g',cap',cur',e,hb',hg',hn2,hm,hs',ht'⟩
   ·cases e
   ·cases e
    rw [Uc] at hg';cases hg'
    refine .inr ⟨g10,c10,_,rfl,hb',q1,by omega,hm,?_,?_⟩
    ·simp only [List.size_toArray];rw [length_splice _ _ _ (by simp;omega)]
     simpa using hs'
    ·simp only [Nat.mul_one];unfold splice;rw [<- hn'];simp) q2 q3
  obtain ⟨d1,d2⟩:=D.dH s1 c1 rfl;exact ⟨_,d1,d2⟩
 have START:Hid (∀ w2 f2 V2 X2 R2 O2 (s2:Lk) bs f3 V3 X3 R3 O3 w3,bK Z sb ob hb n w K f X gone (ints (enc cs)) (-1) ⟨fun _=>false,[],0⟩ f2 V2 X2 R2 O2 w2->bK Z sb ob hb n w2 K f2 X2 gone (ints (enc (cs.set k ⟨(cs[k]).kind,bs,(cs[k]).lits⟩))) (-1) ((cs[k]).lits.foldl (iZ lev ch.length) ⟨fun _=>false,[],0⟩) f3 V3 X3 R3 O3 w3->FK Z sb ob hb n w K f X gone cs tr ch lev rea last (cs[k]).lits tr.length ((cs[k]).lits.foldl (iZ lev ch.length) ⟨fun _=>false,[],0⟩) (cs.set k ⟨(cs[k]).kind,bs,(cs[k]).lits⟩) f3 V3 X3 R3 O3 w3):=fun w2 f2 V2 X2 R2 O2 s2 bs f3 V3 X3 R3 O3 w3 h1 h2=>⟨EXS.out,h1.comp h2,bU.set hk bs⟩
 have hlitl:(cs[k]).lits.length <= n:=fU (hc.vars _ _ (aP hk)) (hc.lt _ _ (aP hk));have Zn:∀ y ∈ (cs[k]).lits,y < 2 * n:=hc.lt _ _ (aP hk);have QL0:Hid (∀ w2 f2 V2 X2 R2 O2,bK Z sb ob hb n w K f X gone (ints (enc cs)) (-1) ⟨fun _=>false,[],0⟩ f2 V2 X2 R2 O2 w2->Calls Tryz.prog 182 #[.pointer (some ⟨sb,0,none⟩),.int .i64 (aj cs k:Nat)] w2 fun e w'=>vD Z sb ob hb n w2 K f2 X2 gone cs k (cs[k]).kind (-1) lev ch.length ⟨fun _=>false,[],0⟩ (cs[k]).lits e w'):=fun w2 f2 V2 X2 R2 O2 h1=>Dz h1.duo hn h1.x0 hk hN (hT.congr fun j h2 h3=>h1.only j (by omega) (by omega) (by omega)) h1.Cb rfl Zn (by omega) (by simp;omega) h1.wk
 have Vq:Hid (∀ w1 qb,Duo Z sb ob hb n w1 K f V (upd X 10 (List.replicate n (.bool false))) gone qb Ro->aC Z w w1->∃ a7 c7 m7,w1.cell? ⟨sb,15,none⟩=some (.slice a7 m7 c7)/\m7=(X 7).length/\w1.ownsRow 0 3 1 (.slice a7 0 c7) 0 []/\sb < w1.heap.size/\∀ obj v' w6,aB (w1.alloc obj) 0 3 1 (.slice a7 0 c7) 0 [] 1 [.int .i64 (-1)] v' w6->(w6.cell? ⟨sb,15,none⟩=some (.slice a7 m7 c7)/\w6.frozen? ⟨sb,15,none⟩=false)/\∃ f2 V2 X2 R2,bK Z sb ob hb n w K f X gone (ints (enc cs)) (-1) ⟨fun _=>false,[],0⟩ f2 V2 X2 R2 Ro (w6.setCell ⟨sb,15,none⟩ v')):=fun w1 qb D1 C1=>by
  obtain ⟨a7,c7,e7⟩:=D1.aG.bC.shape (k:=7) (by omega)
  rw [aa _ _ (by decide)] at e7
  have q7:=(D1.aG.hd (k:=7) (by omega)).1
  rw [show cellOf 7=15 from rfl,e7] at q7
  have ow:=(D1.aG.bC.cut (k:=7) (by omega) e7 (m:=0) (Nat.zero_le _)).own 7 (by omega)
  rw [ae,ae,List.take_zero] at ow;refine ⟨a7,c7,_,q7,rfl,ow,D1.aG.row.lt,fun obj v' w6 A=>?_⟩
  have A':aB (w1.alloc obj) 0 (iC 7) 1 (.slice a7 0 c7) 0 ((upd X 10 (List.replicate n (.bool false)) 7).take 0) 1 [.int .i64 (-1)] v' w6:=by rw [List.take_zero];exact A
  obtain ⟨p1,p2,p3⟩:=D1.aG.Nq (k:=7) (by omega) e7 (Nat.zero_le _) (m:=1) (news:=[.int .i64 (-1)]) rfl A'
  obtain ⟨d1,d2⟩:=D1.dH p1 p2 (aa _ _ (by decide))
  have q6:=p3 15 (by omega)
  have hf15:f 15=.slice a7 (X 7).length c7:=by
   have:=D1.aG.hdr 7 (by omega)
   rw [e7] at this;exact this
  rw [hf15] at q6;refine ⟨q6,_,_,_,_,⟨d1,by rw [aa _ _ (by decide),aa _ _ (by decide)];exact h0,⟨by rw [aa _ _ (by decide),ae];simp,fun v hv=>by rw [aa _ _ (by decide),ae,List.getElem?_replicate,if_pos hv],by rw [ae,List.take_zero];rfl⟩,fun j h1 h2 h3=>by rw [aa _ _ h2,aa _ _ h3],fun j hj=>aa _ _ hj,C1.trans d2,hW.congr (by rw [aa _ _ (by decide),aa _ _ (by decide)]) fun x=>aa _ _ (by omega)⟩⟩
 have HG10:=hide Uc;have Yj:=hide (ht.len);have HR:=hide hr;have UC:=hide ht;have HCI:=hide hc;have HTT:=hide hT;have HN1:=hide hn';have Zw:n' + 1 <= cur.size:=by omega
 rw [hn'] at Sj;generalize hRR:tV Z sb ob hb n w K f X gone cs tr ch lev rea last (cs[k]).lits=RR;have HRR:=hide hRR;have Yn:=hide hlast;clear D h10 hW e10 WY Uc hr ht hc hT hf hy0 h0 hRR Zn EXS hlast;obtain ⟨W1,hrun,H1,H2,H3⟩:=JP (P:=Tryz.prog) (w:=w) (ot:=0) 26 4 Tryz.underlying26 ib hib (.bool false) hzb rfl rfl g10 n' c10 cur 4 HG10.out Zw;obtain ⟨qb,hd1,hc1⟩:=CLR.out W1 H1 H2 H3;obtain ⟨a7,c7,m7,q7,-,ow7,sb1,AP7⟩:=Vq.out W1 qb hd1 hc1;have OW7:=hide ow7;have HAP:=hide AP7;have ns1:¬ (sb=W1.heap.size):=by omega
 clear hd1 hc1 H1 H2 H3 CLR Vq ow7 AP7;go_enter Tryz.func141,Tryz.ntmps141
 go_upto_region 1 with fail
 go_wp2_with (at_builtin;refine aU _ rfl _ _ 43 rfl 0 3 i0 (.int .i64 0) 1 8 Tryz.underlying43 hi hz0 hz1 hz2 rfl (by decide) (.slice a7 0 c7) 0 [] rfl (OW7.out.alloc (Obj.cells #[.int .i64 (-1)] 3)) (.slice (some ⟨W1.heap.size,0,none⟩) 1 1) 1 [.int .i64 (-1)] rfl (.inr ⟨⟨W1.heap.size,0,none⟩,1,rfl,World.news_of_block (cs:=#[.int .i64 (-1)]) (t:=3) (fr:=(0,0)) (heap_alloc_new W1 _)⟩) rfl (by simp [Value.oneCell']) (by unfold maxLen;omega) (by omega) (Nat.zero_le _) ?_)
 intro v6 w6 A6;obtain ⟨⟨q6,z6⟩,f2,V2,X2,R2,hL2⟩:=HAP.out _ _ _ A6;obtain ⟨qL,qK,hv6⟩:=aH A6.own;subst hv6;have L2:=hide hL2;have Yh:=hide (QL0.out _ _ _ _ _ _ hL2);have STA:=hide (fun s2 bs f3 V3 X3 R3 O3 w3=>START.out _ _ _ _ _ _ s2 bs f3 V3 X3 R3 O3 w3 hL2)
 clear A6 hL2 HAP OW7 QL0 START q7 hrun;go_upto_region 2 with fail
 generalize hW2:w6.setCell ⟨sb,15,none⟩ (.slice qL (0 + 1) qK)=W2 at *
 clear hW2 q6 z6;generalize hs0:(cs[k]).lits.foldl (iZ lev ch.length) ⟨fun _=>false,[],0⟩=s0 at STA
 have HS0:=hide hs0;clear hs0;go_upto_region 3 with (go_at_call 182;refine Yh.out.mono ?_;rintro e7 w7 ⟨bs,f3,V3,X3,R3,O3,rfl,hl3⟩;rw [HS0.out] at hl3;rw [HS0.out];have E3:=hide (STA.out s0 bs f3 V3 X3 R3 O3 w7 hl3);clear hl3;simp only [])
 have Ri:Hid (∀ wr s cs' i f' V' X' Rs Ro,FK Z sb ob hb n w K f X gone cs tr ch lev rea last (cs[k]).lits i s cs' f' V' X' Rs Ro wr->iW n X' tr ch lev rea):=fun wr s cs' i f' V' X' ko vB hst=>HTT.out.congr fun j h1 h2=>hst.look.only j (by omega) (by omega) (by omega)
 obtain ⟨j0,hj0,-⟩:=E3.out.ex.more;have hT3:=Ri.out _ _ _ _ _ _ _ _ _ E3.out;obtain ⟨a1,c1,e1⟩:=E3.out.look.duo.aG.bC.shape (k:=1) (by omega)
 have q1:=(E3.out.look.duo.aG.hd (k:=1) (by omega)).1
 rw [show cellOf 1=6 from rfl,e1,hT3.l1,ag,hj0] at q1
 rw [hj0] at E3;have j0b:(j0:Int) + 1 <= 50:=by have:=Yj.out;omega
 have HJ0:=hide hj0;clear Yh STA L2 e1 hT3 hj0 tl;go_wp2_with fail
 generalize hRRL:(cs[k]).lits=c0 at *
 go_loopw [4,5,6,7,8] (fun s4 s5 _ _ _ wr=>Il Z sb ob hb n w K f X gone cs tr ch lev rea last c0 s4 s5 wr) (fun _ s5 _ _ _ _=>(intOf s5).toNat)
 case atStart=>exact ⟨j0,s0,_,f3,V3,X3,R3,O3,by go_num,rfl,E3⟩
 case round=>
  clear E3 q1 HS0;obtain ⟨i,s,cs',f',V',X',ko,vB,rfl,rfl,hst⟩:=hrel;have hile:=hst.out.ex.ile;have hil:i < tr.length:=by omega
  have hT':=Ri.out _ _ _ _ _ _ _ _ _ hst.out;have l1:(X' 1).length=tr.length:=by rw [hT'.l1,ag]
  obtain ⟨g1,c1',t1,e1,q1,r1,s1,-⟩:=hst.out.look.duo.aG.elem (k:=1) (j:=i) (by omega) l1 hil
  rw [show cellOf 1=6 from rfl] at q1
  rw [hT'.l1,eH _ _ hil] at s1;obtain rfl:=Option.some.inj s1;obtain ⟨x,hx⟩:∃ x,x=tr[i]:=⟨_,rfl⟩;rw [<- hx] at r1;have hxl:x < 2 * n:=by rw [hx];exact UC.out.lt _ (List.getElem_mem _)
  have QV:=hide (fun Y=>bF x Y (by omega))
  obtain ⟨v,hvd⟩:∃ v,v=x / 2:=⟨_,rfl⟩;have hv:v < n:=by omega
  rw [<- hvd] at QV;have UB:Hid (tr[i] / 2=v):=by unfold Hid;rw [hvd,hx]
  have HX:=hide hx;obtain ⟨g10',c10',t10,e10,Sj,Nn,s10,-⟩:=hst.out.look.duo.aG.elem (k:=10) (j:=v) (by omega) hst.out.look.Cb.n10 hv
  rw [show cellOf 10=16 from rfl] at Sj
  rw [hst.out.look.Cb.t10 v hv] at s10;obtain rfl:=Option.some.inj s10;have X9:(0:Int) <= (i:Int):=by omega
  have i11:(i:Int) < (tr.length:Int):=by omega
  have i22:(i:Int) <= 50:=by have:=Yj.out;omega
  have v0:(0:Int) <= (v:Int):=by omega
  have v1:(v:Int) < (n:Int):=by omega
  clear hx hvd e1 e10 l1;by_cases hsn:s.seen v=true
  ·rw [hsn] at Nn;by_cases hop:s.opn=1
   ·
    have l7:(X' 7).length=s.bn.length + 1:=by rw [hst.out.look.Cb.l7];simp [ag]
    obtain ⟨g7,c7',t7,e7,q7,r7,s7,z7,zz7,Y3,n7⟩:=hst.out.look.duo.aG.elem (k:=7) (j:=0) (by omega) l7 (by omega)
    rw [show cellOf 7=15 from rfl] at q7
    have FIN:=hide (hst.out.fin hil (by rw [UB.out];exact hsn) hop e7 zz7)
    rw [HRR.out,<- HX.out] at FIN;have FINL:Hid (∀ W,Below (wr.setCell ⟨g7,0,none⟩ (.int .i64 (op x:Nat))).heap.size (wr.setCell ⟨g7,0,none⟩ (.int .i64 (op x:Nat))) W->RR (.returned (.tuple #[])) W):=fun W hW=>by
     have:=FIN.out;rw [<- HRR.out] at this ⊢;exact this.later hW
    have QOP:=hide (fun Y=>iw x Y (by omega))
    have les0:(0:Int) < (s.bn.length:Int) + 1:=by omega
    rw [hop];clear hst e7 s7 l7 hT';generalize op x=ox at *
    go_upto_region 9 with (go_at_call 176;refine (QV.out _).mono ?_;rintro e9 w9 ⟨rfl,rfl⟩;simp only [])
    go_region_with (go_at_call 139;refine (QOP.out _).mono ?_;rintro eA wA ⟨rfl,rfl⟩;simp only [])
    all_goals
     go_wp2
     first | go_end0 | refine bodyPost_ret (results_none rfl _ _ _) rfl ?_
     exact FINL.out _ (Below.refl _ _).drew
   ·
    have hext:=EXT.out i s (by have:=hst.out.ex;exact this) hil (by rw [UB.out];exact hsn) hop
    obtain ⟨a,c,rr,ha,hC,hcl,more,hmo,hex⟩:=hext;rw [<- Yn.out] at hex;obtain ⟨m,hm,-⟩:=hex.more;rw [<- hst.out.busy.map] at hC;obtain ⟨k',hk',rfl,rfl⟩:=aN hC;simp only at hcl hmo hex;rw [UB.out] at ha;have hN':(enc cs').length <= 1099511627776:=by rw [hst.out.busy.len];exact hN
    have WL:∀ y ∈ (cs'[k']).lits,y < 2 * n:=fun y hy=>HCI.out.lt _ _ (by rw [<- hst.out.busy.map];exact hC) y hy
    have hlk:(cs'[k']).lits.length <= n:=fU (HCI.out.vars _ _ (by rw [<- hst.out.busy.map];exact hC)) WL
    have WQ:=hst.out.ex.lk.len UC.out;have Yh:=hide (Dz (k:=k') (s0:=⟨s.seen,s.bn,0⟩) hst.out.look.duo hn hst.out.look.x0 hk' hN' hT' hst.out.look.Cb rfl WL (by omega) (by simp only;omega) hst.out.look.wk)
    obtain ⟨g5,c5,t5,e5,q5,r5,s5,-⟩:=hst.out.look.duo.aG.elem (k:=5) (j:=v) (by omega) hT'.n5 hv
    rw [show cellOf 5=11 from rfl] at q5
    rw [hT'.t5 v hv,ha] at s5;obtain rfl:=Option.some.inj s5;generalize hs1:(cs'[k']).lits.foldl (iZ lev ch.length) ⟨s.seen,s.bn,0⟩=s1 at Yh hmo hex;have Vp:=hide hs1;have NX:Hid (∀ (bs:Int) f4 V4 X4 R4 O4 w4,bK Z sb ob hb n wr K f' X' gone (ints (enc (cs'.set k' ⟨(cs'[k']).kind,bs,(cs'[k']).lits⟩))) (-1) s1 f4 V4 X4 R4 O4 w4->∀ so sv,so=.int .i64 ((s.opn + more - 1:Nat):Int)->sv=.int .i64 ((m:Nat):Int)->Il Z sb ob hb n w K f X gone cs tr ch lev rea last c0 so sv w4):=fun bs f4 V4 X4 R4 O4 w4 hL so sv hso hsv=>⟨m,⟨s1.seen,s1.bn,s.opn + more - 1⟩,_,f4,V4,X4,R4,O4,hsv,hso,by rw [hm] at hex;exact hex,(hst.out.look.comp hL).opn _,hst.out.busy.trans (bU.set hk' bs)⟩
    have im:(i:Int) - 1=(m:Int):=by omega
    have mi:m < i:=by omega
    have hpos:=hst.out.ex.pos;have opb:s.opn <= 51:=by
     rw [hst.out.ex.cnt];have:iV tr last (i + 1) s.seen <= i + 1:=by
      unfold iV;have:=List.length_filter_le (fun j=>decide (last <= j) && s.seen (vr tr j)) (List.range (i + 1))
      simpa using this
     omega
    have opb2:s.opn + more - 1 <= 51:=by
     have h1:=hex.cnt;have:iV tr last i s1.seen <= i:=by
      unfold iV;have:=List.length_filter_le (fun j=>decide (last <= j) && s1.seen (vr tr j)) (List.range i)
      simpa using this
     simp only at h1;omega
    have om:Hid ((s.opn:Int) + ((more:Int) - 1)=((s.opn + more - 1:Nat):Int)):=by unfold Hid;omega
    have o1:((s.opn:Int) == 1)=false:=by simp;omega
    have more0:(0:Int) <= (more:Int):=by omega
    have more1:(more:Int) <= 52:=by omega
    have HMO:Hid (s1.opn=more):=hmo;clear hst hex hm hT' hC hcl hs1 WL hN' hop ha e5 hmo;go_upto_region 11 with (first
     |(go_at_call 176;refine (QV.out _).mono ?_;rintro e9 w9 ⟨rfl,rfl⟩;simp only [])
     |(go_at_call 182;refine Yh.out.mono ?_;rintro eA wA ⟨bs4,f4,V4,X4,R4,O4,rfl,hl4⟩;rw [Vp.out] at hl4;rw [Vp.out,HMO.out];have NX4:=hide (NX.out bs4 f4 V4 X4 R4 O4 wA hl4);clear hl4;simp only []))
    clear Yh NX;go_wp2;go_roundw
    case rel=>exact NX4.out _ _ (by rw [<- om.out]) (by go_num)
    case measure=>simp [intOf];omega
  ·rw [Bool.not_eq_true] at hsn;rw [hsn] at Nn;have hsk:=hst.out.ex.skip (by rw [ug hil,UB.out];exact hsn)
   obtain ⟨m,hm,-⟩:=hsk.more;have NX:Hid (∀ sv,sv=.int .i64 ((m:Nat):Int)->Il Z sb ob hb n w K f X gone cs tr ch lev rea last c0 (.int .i64 ((s.opn:Nat):Int)) sv wr):=fun sv hsv=>⟨m,s,cs',f',V',X',ko,vB,hsv,rfl,by rw [hm] at hsk;exact hsk,hst.out.look,hst.out.busy⟩
   have im:(i:Int) - 1=(m:Int):=by omega
   have mi:m < i:=by omega
   clear hst hsk hm hT';go_wp2_with (go_at_call 176;refine (QV.out _).mono ?_;rintro e9 w9 ⟨rfl,rfl⟩;simp only [])
   go_roundw
   case rel=>exact NX.out _ (by go_num)
   case measure=>simp [intOf];omega
end
section
open Go Go.RowKit Go.Deep Rd
variable {Z:Nat->Prop} {sb K n:Nat} {w:World} {f V:Nat->Value} {X:Nat->List Value} {tr ch:List Nat} {lev:Nat->Nat} {rea:Nat->Int} {cs:List Rec}
structure Ii (n:Nat) (X:Nat->List Value) (fol:Nat->Bool):Prop where
 n11:(X 11).length=n
 t11:∀ v,v < n->(X 11)[v]? = some (.bool (fol v))
def Ih (Z:Nat->Prop) (sb:Nat) (w:World) (K:Nat) (f V:Nat->Value) (X:Nat->List Value) (fol:Nat->Bool) (tl:List Nat) (s:Value) (wr:World):Prop:=
 ∃ i:Nat,s=.int .i64 ((i:Nat):Int)/\i <= tl.length/\Hid ((∀ j (hj:j < tl.length),j < i->fol (tl[j] / 2)=true)/\aQ Z sb wr K f V X/\∃ d,wr=w.drewN d)
def iX (w:World) (b:Bool) (e:Ending) (w':World):Prop:=e=.returned (.bool b)/\∃ d,w'=w.drewN d
theorem Eo {C:eX} {fol:Nat->Bool} {v:Nat} (h:rea v=-1):bg (fG C rea) fol v=false:=by
 unfold bg fG;rw [if_pos h]
theorem En {fol:Nat->Bool} {v k:Nat} (hk:k < cs.length) (h:rea v=(aj cs k:Nat)):bg (fG (mapOf cs) rea) fol v=(cs[k]).lits.tail.all fun y=>fol (y / 2):=by
 unfold bg fG;rw [if_neg (by omega),h,Int.toNat_natCast,aP hk];rfl
theorem rG {fol:Nat->Bool} {y:Nat} (h:aQ Z sb w K f V X) (hn:n <= 50) (h0:X 0=ints (enc cs)) (hN:(enc cs).length <= 1099511627776) (hT:iW n X tr ch lev rea) (hF:Ii n X fol) (hy:y < 2 * n)
  (hre:rea (y / 2)=-1\/∃ k,∃ hk:k < cs.length,rea (y / 2)=(aj cs k:Nat)/\(cs[k]).lits ≠ []/\∀ x ∈ (cs[k]).lits,x < 2 * n):
  Calls Tryz.prog 183 #[.pointer (some ⟨sb,0,none⟩),.int .i64 (y:Nat)] w fun e w'=>iX w (bg (fG (mapOf cs) rea) fol (y / 2)) e w':=by
 have hK:=h.hK;have QV:Hid (∀ Y,Calls Tryz.prog 176 #[.int .i64 (y:Nat)] Y fun e w'=>e=.returned (.int .i64 ((y / 2:Nat):Int))/\w'=Y):=fun Y=>bF y Y (by omega)
 have hv:y / 2 < n:=by omega
 obtain ⟨g5,c5,t5,e5,q5,r5,s5,-⟩:=h.elem (k:=5) (j:=y / 2) (by omega) hT.n5 hv
 rw [show cellOf 5=11 from rfl] at q5
 rw [hT.t5 _ hv] at s5;obtain rfl:=Option.some.inj s5;have v0:(0:Int) <= ((y / 2:Nat):Int):=by omega
 have v1:((y / 2:Nat):Int) < (n:Int):=by omega
 rcases hre with hre | ⟨k,hk,hre,hne,hlt⟩
 ·rw [Eo hre];rw [hre] at r5;clear h h0 hT hF e5;generalize y / 2=v at *
  go_enter Tryz.func183,Tryz.ntmps183
  go_upto_region 1 with fail
  go_quiet ((go_at_call 176;exact Calls.quiet_of_same (QV.out _)))
  go_wp2;go_ret
  exact ⟨rfl,_,rfl⟩
 ·rw [En hk hre];rw [hre] at r5;obtain ⟨g,c,e0,q0,Ef,lg,ng,zg,r0,-,-,-,-⟩:=bV h h0 hk;have hend:=bA hk;obtain ⟨x0,tl,hl⟩:∃ x0 tl,(cs[k]).lits=x0 :: tl:=by
   match e:(cs[k]).lits,hne with
   | x0 :: tl,_=>exact ⟨x0,tl,rfl⟩
  have hm:(cs[k]).lits.length=tl.length + 1:=by rw [hl];simp
  have QL:Hid (∀ j,Calls Tryz.prog 175 #[.pointer (some ⟨sb,2,none⟩),.int .i64 (aj cs k:Nat)] (w.drewN j) fun e w'=>e=.returned (fV g (aj cs k) (cs[k]).lits.length c)/\∃ d,w'=(w.drewN j).drewN d):=fun j=>fu sb 2 g (enc cs).length c (aj cs k) (cs[k]).lits.length (w.drewN j) q0 (by omega) (by unfold maxLen;omega) Ef r0
  have nc:¬ (c=aj cs k + 3):=by omega
  unfold fV at QL;rw [if_neg nc,hm] at QL;have CLS:Hid (∀ wr,aQ Z sb wr K f V X->∀ i (hi:i < tl.length),wr.cell? ⟨g,aj cs k + 3 + 1 + i,none⟩=some (.int .i64 (tl[i]:Nat))):=fun wr hs i hi=>by
   have:=jD hs h0 e0 hk (i:=i + 1) (by omega)
   rw [show aj cs k + 3 + 1 + i=aj cs k + 3 + (i + 1) by omega,this]
   simp [hl]
  have Yj:Hid (∀ x ∈ tl,x < 2 * n):=fun x hx=>hlt x (by rw [hl];simp [hx])
  rw [hl,List.tail_cons];have HS:=hide h;have HF:=hide hF;have tlb:tl.length + 1 <= 1099511627776:=by omega
  have capb:tl.length + 1 <= c - (aj cs k + 3):=by omega
  clear h h0 hT hF e5 hl hm hre hne hlt q0 r0 e0 hend lg ng zg hk;generalize aj cs k=a at *
  generalize hvv:y / 2=v at *
  obtain ⟨cc,hcc⟩:∃ cc,cc=c - (a + 3):=⟨_,rfl⟩;rw [<- hcc] at QL capb;have c1:(1:Int) <= (cc:Int):=by omega
  have c2:(1:Int) <= ((tl.length + 1:Nat):Int):=by omega
  clear hcc nc Ef;obtain ⟨B,hB⟩:∃ B,B=tl.all fun y=>fol (y / 2):=⟨_,rfl⟩
  rw [<- hB];have HB:=hide hB;clear hB hvv;go_enter Tryz.func183,Tryz.ntmps183
  go_upto_region 1 with fail
  go_quiet ((go_at_call 176;exact Calls.quiet_of_same (QV.out _)))
  go_upto_region 4 with fail
  go_wp2_with (go_at_call 175;refine (QL.out _).mono ?_;rintro e7 w7 ⟨rfl,d7,rfl⟩;simp only [])
  ·obtain ⟨W,hW⟩:∃ W,W=w.drewN (nq + d7):=⟨_,rfl⟩;have S1:Hid (aQ Z sb W K f V X/\∃ d,W=w.drewN d):=by rw [hW];exact ⟨HS.out.later (below_drewN (Below.refl _ _) _),_,rfl⟩
   rw [<- hW];clear hW q5 r5;go_loopw [7,26] (fun _ VO wr=>Ih Z sb w K f V X fol tl VO wr) (fun _ VO _=>tl.length - (intOf VO).toNat)
   case atStart=>exact ⟨0,rfl,Nat.zero_le _,fun j hj h=>absurd h (Nat.not_lt_zero _),S1.out⟩
   case round=>
    clear S1;obtain ⟨i,rfl,hil,hst⟩:=hrel;by_cases hlt:i < tl.length
    ·exact absurd hlt (by omega)
    ·have FB:Hid (iX w B (.returned (.bool true)) wr):=by
      refine ⟨?_,hst.out.2.2⟩;have:B=true:=by
       rw [HB.out,List.all_eq_true];intro x hx;obtain ⟨j,hj,rfl⟩:=List.mem_iff_getElem.1 hx;exact hst.out.1 j hj (by omega)
      rw [this]
     have i1:¬ ((i:Int) < (tl.length:Int)):=by omega
     clear hst;go_wp2;go_ret;exact FB.out
  ·obtain ⟨W,hW⟩:∃ W,W=w.drewN (nq + d7):=⟨_,rfl⟩;have S1:Hid (aQ Z sb W K f V X/\∃ d,W=w.drewN d):=by rw [hW];exact ⟨HS.out.later (below_drewN (Below.refl _ _) _),_,rfl⟩
   rw [<- hW];clear hW q5 r5;go_loopw [7,26] (fun _ VO wr=>Ih Z sb w K f V X fol tl VO wr) (fun _ VO _=>tl.length - (intOf VO).toNat)
   case atStart=>exact ⟨0,rfl,Nat.zero_le _,fun j hj h=>absurd h (Nat.not_lt_zero _),S1.out⟩
   case round=>
    clear S1;obtain ⟨i,rfl,hil,hst⟩:=hrel;by_cases hlt:i < tl.length
    ·have hci:=CLS.out wr hst.out.2.1 i hlt;obtain ⟨z,hz⟩:∃ z,z=tl[i]:=⟨_,rfl⟩;rw [<- hz] at hci;have hzl:z < 2 * n:=by rw [hz];exact Yj.out _ (List.getElem_mem _)
     have QZ:Hid (∀ Y,Calls Tryz.prog 176 #[.int .i64 (z:Nat)] Y fun e w'=>e=.returned (.int .i64 ((z / 2:Nat):Int))/\w'=Y):=fun Y=>bF z Y (by omega)
     have hzv:z / 2 < n:=by omega
     obtain ⟨g11,c11,t11,e11,q11,r11,s11,-⟩:=hst.out.2.1.elem (k:=11) (j:=z / 2) (by omega) HF.out.n11 hzv
     rw [show cellOf 11=17 from rfl] at q11
     rw [HF.out.t11 _ hzv] at s11;obtain rfl:=Option.some.inj s11;have z0:(0:Int) <= ((z / 2:Nat):Int):=by omega
     have z1:((z / 2:Nat):Int) < (n:Int):=by omega
     have i0:(0:Int) <= (i:Int):=by omega
     have i1:(i:Int) < (tl.length:Int):=by omega
     have i2:(i:Int) <= 1099511627776:=by omega
     obtain ⟨bz,hbz⟩:∃ b,b=fol (z / 2):=⟨_,rfl⟩;rw [<- hbz] at r11;have HBZ:Hid (fol (tl[i] / 2)=bz):=by unfold Hid;rw [hbz,hz]
     clear e11 hz hbz;generalize z / 2=zv at *
     go_upto_region 7 with fail
     go_quiet ((go_at_call 176;exact Calls.quiet_of_same (QZ.out _)))
     obtain ⟨W2,hW2⟩:∃ W2,W2=wr.drewN nq:=⟨_,rfl⟩;have S2:Hid (aQ Z sb W2 K f V X/\∃ d,W2=w.drewN d):=by
      obtain ⟨d,hd⟩:=hst.out.2.2;rw [hW2];exact ⟨hst.out.2.1.later (below_drewN (Below.refl _ _) _),_,by rw [hd,World.drewN_drewN]⟩
     rw [<- hW2];clear hW2 q11 r11 hci
     cases bz with
     | true=>
      have NX:Hid (∀ sv,sv=.int .i64 ((i + 1:Nat):Int)->Ih Z sb w K f V X fol tl sv W2):=fun sv hsv=>⟨i + 1,hsv,hlt,fun j hj hji=>by
       rcases Nat.lt_succ_iff_lt_or_eq.1 hji with h1 | h1
       ·exact hst.out.1 j hj h1
       ·subst h1;exact HBZ.out,S2.out⟩
      clear hst;go_wp2;go_roundw
      case rel=>exact NX.out _ (by go_num)
      case measure=>simp [intOf];omega
     | false=>
      have FB:Hid (iX w B (.returned (.bool false)) W2):=by
       refine ⟨?_,S2.out.2⟩;have:B=false:=by
        rw [HB.out,List.all_eq_false];exact ⟨tl[i],List.getElem_mem _,by rw [HBZ.out];simp⟩
       rw [this]
      clear hst;go_wp2;go_ret;exact FB.out
    ·have FB:Hid (iX w B (.returned (.bool true)) wr):=by
      refine ⟨?_,hst.out.2.2⟩;have:B=true:=by
       rw [HB.out,List.all_eq_true];intro x hx;obtain ⟨j,hj,rfl⟩:=List.mem_iff_getElem.1 hx;exact hst.out.1 j hj (by omega)
      rw [this]
     have i1:¬ ((i:Int) < (tl.length:Int)):=by omega
     clear hst;go_wp2;go_ret;exact FB.out
end
section
open Go Go.RowKit Go.Deep Rd
variable {Z:Nat->Prop} {sb K n:Nat} {w:World} {f V:Nat->Value} {X:Nat->List Value} {tr ch:List Nat} {lev:Nat->Nat} {rea:Nat->Int} {cs:List Rec}
theorem Bi {x:Nat} (a:Int) (h:aQ Z sb w K f V X) (hT:iW n X tr ch lev rea) (hx:x < 2 * n) (hn:n <= 50):
  Calls Tryz.prog 221 #[.pointer (some ⟨sb,6,none⟩),.int .i64 a,.int .i64 (x:Nat)] w fun e w'=>iX w (decide (0 < tv tr x) && (rea (x / 2) == a)) e w':=by
 have hK:=h.hK;obtain ⟨g3,c3,t3,e3,q3,r3,s3,-⟩:=h.elem (k:=3) (j:=x) (by omega) hT.n3 hx
 rw [show cellOf 3=9 from rfl] at q3
 rw [hT.t3 x hx] at s3;obtain rfl:=Option.some.inj s3;have hv:x / 2 < n:=by omega
 obtain ⟨g5,c5,t5,e5,q5,r5,s5,-⟩:=h.elem (k:=5) (j:=x / 2) (by omega) hT.n5 hv
 rw [show cellOf 5=11 from rfl] at q5
 rw [hT.t5 _ hv] at s5;obtain rfl:=Option.some.inj s5;have QT:Hid (∀ j,Calls Tryz.prog 103 #[.pointer (some ⟨sb,6,none⟩),.int .i64 (x:Nat)] (w.drewN j) fun e w'=>e=.returned (.bool (decide (0 < tv tr x)))/\w'=w.drewN j):=fun j=>qD sb 6 g3 (2 * n) c3 x (tv tr x) (w.drewN j) q3 hx r3
 have QV:Hid (∀ Y,Calls Tryz.prog 176 #[.int .i64 (x:Nat)] Y fun e w'=>e=.returned (.int .i64 ((x / 2:Nat):Int))/\w'=Y):=fun Y=>bF x Y (by omega)
 have v0:(0:Int) <= ((x / 2:Nat):Int):=by omega
 have v1:((x / 2:Nat):Int) < (n:Int):=by omega
 clear h hT e3 e5;generalize x / 2=v at *
 generalize decide (0 < tv tr x)=b at *
 cases b with
 | true=>
  go_enter Tryz.func221,Tryz.ntmps221
  go_upto_region 1 with fail
  go_quiet (first | (go_at_call 103;exact Calls.quiet_of_same (QT.out _)) | (go_at_call 176;exact Calls.quiet_of_same (QV.out _)))
  go_wp2;go_ret
  exact ⟨by simp,_,rfl⟩
 | false=>
  go_enter Tryz.func221,Tryz.ntmps221
  go_upto_region 1 with fail
  go_quiet (first | (go_at_call 103;exact Calls.quiet_of_same (QT.out _)) | (go_at_call 176;exact Calls.quiet_of_same (QV.out _)))
  go_wp2;go_ret
  exact ⟨by simp,_,rfl⟩
theorem yC {k:Nat} (h:aQ Z sb w K f V X) (h0:X 0=ints (enc cs)) (hk:k < cs.length) (hN:(enc cs).length <= 1099511627776):
  Calls Tryz.prog 224 #[.pointer (some ⟨sb,0,none⟩),.int .i64 (aj cs k:Nat)] w fun e w'=>iX w (decide ((cs[k]).kind=2)) e w':=by
 obtain ⟨g,c,e0,q0,Ef,lg,ng,zg,r0,r1,-,-,-⟩:=bV h h0 hk;have hend:=bA hk;have QK:Hid (∀ Y:World,Y.heap=w.heap->Calls Tryz.prog 219 #[.pointer (some ⟨sb,2,none⟩),.int .i64 (aj cs k:Nat)] Y fun e w'=>e=.returned (.int .i64 ((cs[k]).kind:Nat))/\w'=Y):=fun Y hY=>wP sb 2 g (enc cs).length c (aj cs k) _ Y (by rw [show Y.cell? ⟨sb,2,none⟩=w.cell? ⟨sb,2,none⟩ from bG hY _];exact q0) (by omega) (by unfold maxLen;omega) (by rw [show Y.cell? ⟨g,aj cs k + 1,none⟩=w.cell? ⟨g,aj cs k + 1,none⟩ from bG hY _];exact r1)
 have e2:Hid ((((cs[k]).kind:Int) == 2)=decide ((cs[k]).kind=2)):=by
  unfold Hid;rw [Bool.eq_iff_iff];simp only [beq_iff_eq,decide_eq_true_eq];omega
 clear h h0 r0 r1 q0;generalize (cs[k]).kind=kd at *
 generalize aj cs k=a at *
 go_enter Tryz.func224,Tryz.ntmps224
 go_wp2_with (go_at_call 219;refine (QK.out _ (by rfl)).mono ?_;rintro e7 w7 ⟨rfl,rfl⟩;simp only [])
 go_ret
 exact ⟨by rw [<- e2.out];rfl,0,rfl⟩
def Ux (Z:Nat->Prop) (sb:Nat) (w:World) (K:Nat) (f V:Nat->Value) (X:Nat->List Value) (cs:List Rec) (s2:Value) (wr:World):Prop:=
 ∃ (k:Nat) (cs':List Rec),s2=.int .i64 ((aj cs k:Nat):Int)/\k <= cs.length/\Hid (bU cs cs'/\aQ Z sb wr K f V (upd X 0 (ints (enc cs')))/\aC Z w wr)
def Jm (Z:Nat->Prop) (sb:Nat) (w:World) (K:Nat) (f V:Nat->Value) (X:Nat->List Value) (cs:List Rec) (w':World):Prop:=
 aC Z w w'/\∃ cs',bU cs cs'/\aQ Z sb w' K f V (upd X 0 (ints (enc cs')))
theorem Nh (h:aQ Z sb w K f V X) (h0:X 0=ints (enc cs)) (hN:(enc cs).length <= 1099511627776):
  Calls Tryz.prog 188 #[.pointer (some ⟨sb,2,none⟩)] w fun e w'=>e=.returned (.tuple #[])/\Jm Z sb w K f V X cs w':=by
 have hK:=h.hK;have S0:Hid (bU cs cs/\aQ Z sb w K f V (upd X 0 (ints (enc cs)))/\aC Z w w):=⟨bU.refl _,by rw [<- h0,upd_same];exact h,aC.refl _⟩
 clear h h0;go_enter Tryz.func188,Tryz.ntmps188
 go_wp2_with fail
 go_loopw [2] (fun s2 wr=>Ux Z sb w K f V X cs s2 wr) (fun s2 _=>(enc cs).length - (intOf s2).toNat)
 case atStart=>exact ⟨0,cs,by rw [gK];rfl,Nat.zero_le _,S0⟩
 case round=>
  clear S0;obtain ⟨k,cs',rfl,hkl,hst⟩:=hrel;have hbl:=hst.out.1.len;have q0:=(hst.out.2.1.hd (k:=0) (by omega)).1
  obtain ⟨a0,c0,e0⟩:=hst.out.2.1.bC.shape (k:=0) (by omega)
  rw [show cellOf 0=2 from rfl,e0,ae,cZ,hbl] at q0
  by_cases hlt:k < cs.length
  ·have hk':k < cs'.length:=by rw [hst.out.1.1];exact hlt
   have ha:=hst.out.1.aj k (by omega)
   have hend:=bA hlt;obtain ⟨g,c,Xc,q0',Ef,lg,ng,zg,r0,r1,r2,-,fz⟩:=bV hst.out.2.1 (ae ..) hk';rw [ha] at r0 r2;rw [e0] at Xc;obtain ⟨y1,_,y3⟩:=Value.slice.inj Xc;subst y1 y3;have z2:=fz (aj cs k + 2);have NX:Hid (∀ t:Int,bU cs (cs'.set k ⟨(cs'[k]).kind,t,(cs'[k]).lits⟩)/\aQ Z sb (wr.setCell ⟨g,aj cs k + 2,none⟩ (.int .i64 t)) K f V (upd X 0 (ints (enc (cs'.set k ⟨(cs'[k]).kind,t,(cs'[k]).lits⟩))))/\aC Z w (wr.setCell ⟨g,aj cs k + 2,none⟩ (.int .i64 t))):=fun t=>by
    have s1:=hst.out.2.1.set (k:=0) (by omega) e0 (aj cs k + 2) (.int .i64 t)
    rw [ae,bE,ints_set,<- ha,<- oC hk'] at s1;rw [<- ha];exact ⟨hst.out.1.trans (bU.set hk' t),s1,hst.out.2.2.setCell zg _⟩
   have QB:Hid (∀ (t:Int) (Y:World),Y=wr.setCell ⟨g,aj cs k + 2,none⟩ (.int .i64 t)->Calls Tryz.prog 213 #[.pointer (some ⟨sb,2,none⟩),.int .i64 (aj cs k:Nat)] Y fun e w'=>e=.returned (.int .i64 ((aj cs (k + 1):Nat):Int))/\w'=Y):=fun t Y hY=>by
    subst hY;obtain ⟨n1,n2,n3⟩:=NX.out t;have hk2:k < (cs'.set k ⟨(cs'[k]).kind,t,(cs'[k]).lits⟩).length:=by simpa using hk'
    obtain ⟨g',c',e0'',q0'',hcN',_,_,_,r0',-,-,-,-⟩:=bV n2 (ae ..) hk2;have ad2:=n1.aj k (by omega)
    have hl2:=(n1.2 k hlt hk2).2;have he2:=bA hk2;rw [hl2] at r0' he2;rw [ad2] at r0' he2;have:=mV sb 2 g' _ c' (aj cs k) (cs[k]).lits.length (wr.setCell ⟨g,aj cs k + 2,none⟩ (.int .i64 t)) q0'' (by omega) (by have:=n1.len;unfold maxLen;omega) r0'
    rw [show aj cs k + 3 + (cs[k]).lits.length=aj cs (k + 1) by rw [dz hlt];omega] at this
    exact this
   have yP:Hid (aj cs k < aj cs (k + 1)/\aj cs (k + 1) <= (enc cs).length):=by
    unfold Hid;rw [dz hlt];omega
   have a0:(0:Int) <= (aj cs k:Int) + 2:=by omega
   have a1:(aj cs k:Int) + 2 < ((enc cs).length:Int):=by omega
   have a2:((aj cs k:Int) + 2).toNat=aj cs k + 2:=by omega
   have a3:(aj cs k:Int) < ((enc cs).length:Int):=by omega
   generalize (cs'[k]).busy=bz at *
   have HK1:k + 1 <= cs.length:=hlt;clear hst e0 q0' hbl Xc fz r0 r1;generalize had:aj cs k=a at *
   go_upto_region 2 with fail
   go_wp2_with (go_at_call 213;refine (QB.out _ _ rfl).mono ?_;rintro e7 w7 ⟨rfl,rfl⟩;simp only [])
   go_roundw
   case rel=>exact ⟨k + 1,_,rfl,HK1,NX.out _⟩
   case measure=>have:=yP.out;simp [intOf];omega
  ·have ek:k=cs.length:=by omega
   have F:Hid (Jm Z sb w K f V X cs wr):=⟨hst.out.2.2,cs',hst.out.1,hst.out.2.1⟩;have a3:¬ ((aj cs k:Int) < ((enc cs).length:Int)):=by rw [ek,dY (Nat.le_refl _)];omega
   clear hst e0;generalize aj cs k=a at *
   go_wp2;go_end0
   exact ⟨rfl,F.out⟩
end
end So
end Go.Proofs.YtceahffmenbibaaGreatDoor
