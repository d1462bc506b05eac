/- Sxpl Sxpw Sfor Sval Snle. -/
import Derived.Test.YtceahffmenbibaaGreatDoorG09
set_option linter.unusedVariables false
set_option linter.unusedSimpArgs false
namespace Go.Proofs.YtceahffmenbibaaGreatDoor
namespace So
open Go Go.RowKit Go.Deep Rd
def BusyC (cs cs':List Rec):Prop:=cs'.length=cs.length∧∀ k (h:k < cs.length) (h':k < cs'.length),(cs'[k]).kind=(cs[k]).kind∧(cs'[k]).lits=(cs[k]).lits
theorem BusyC.refl (cs:List Rec):BusyC cs cs:=⟨rfl,fun _ _ _=>⟨rfl,rfl⟩⟩
theorem BusyC.trans {a b c:List Rec} (h:BusyC a b) (h':BusyC b c):BusyC a c:=⟨h'.1.trans h.1,fun k h1 h2=>by
 have hb:k < b.length:=by rw [h.1];exact h1
 obtain ⟨x1,x2⟩:=h.2 k h1 hb
 obtain ⟨y1,y2⟩:=h'.2 k hb h2
 exact ⟨y1.trans x1,y2.trans x2⟩⟩
theorem BusyC.set {cs:List Rec} {k:Nat} (hk:k < cs.length) (b:Int):BusyC cs (cs.set k ⟨(cs[k]).kind,b,(cs[k]).lits⟩):=⟨by simp,fun j h h'=>by
 by_cases e:k=j
 ·subst e;rw [List.getElem_set_self];exact ⟨rfl,rfl⟩
 ·rw [List.getElem_set_ne e];exact ⟨rfl,rfl⟩⟩
theorem BusyC.adr {cs cs':List Rec} (h:BusyC cs cs'):∀ k,k ≤ cs.length→adr cs' k=adr cs k
 | 0,_=>by rw [adr_zero,adr_zero]
 | k + 1,hk=>by
  have hk':k < cs'.length:=by rw [h.1];exact hk
  rw [adr_succ hk',adr_succ (show k < cs.length from hk),h.adr k (by omega),(h.2 k hk hk').2]
theorem BusyC.len {cs cs':List Rec} (h:BusyC cs cs'):(enc cs').length=(enc cs).length:=by
 rw [← adr_all (Nat.le_refl _),← adr_all (cs:=cs) (Nat.le_refl _),h.1]
 exact h.adr _ (Nat.le_refl _)
theorem BusyC.map {cs cs':List Rec} (h:BusyC cs cs'):mapOf cs'=mapOf cs:=by
 funext a
 cases e1:mapOf cs a with
 | none=>
  cases e2:mapOf cs' a with
  | none=>rfl
  | some d=>
   obtain ⟨k,hk,ha,_⟩:=mapOf_some e2
   have hk2:k < cs.length:=by rw [← h.1];exact hk
   rw [h.adr k (Nat.le_of_lt hk2)] at ha
   rw [ha,mapOf_at hk2] at e1;cases e1
 | some c=>
  obtain ⟨k,hk,ha,hc⟩:=mapOf_some e1
  have hk2:k < cs'.length:=by rw [h.1];exact hk
  have:=mapOf_at hk2
  rw [h.adr k (Nat.le_of_lt hk),← ha,(h.2 k hk hk2).1,(h.2 k hk hk2).2] at this
  rw [this,hc]
theorem BusyC.lvs {cs cs':List Rec} (h:BusyC cs cs'):lvs cs'=lvs cs:=by
 have:∀ (a b:List Rec),BusyC a b→So.lvs b=So.lvs a:=by
  intro a
  induction a with
  | nil=>intro b h;have:b=[]:=List.eq_nil_of_length_eq_zero (by rw [h.1];rfl);subst this;rfl
  | cons c r ih=>
   intro b h
   match b,h with
   | [],h=>have:=h.1;simp at this
   | c' :: r',h=>
    obtain ⟨x1,x2⟩:=h.2 0 (by simp) (by simp)
    simp only [List.getElem_cons_zero] at x1 x2
    have hr:BusyC r r':=⟨by have:=h.1;simpa using this,fun k h1 h2=>by
     have:=h.2 (k + 1) (by simpa using h1) (by simpa using h2)
     simpa using this⟩
    have:=ih r' hr
    unfold So.lvs at this ⊢
    simp only [List.filter_cons,x1]
    split
    ·simp only [List.map_cons,x2,this]
    ·exact this
 exact this cs cs' h
structure ExpSt (Z:Nat→Prop) (sb ob hb n:Nat) (w:World) (K:Nat) (f:Nat→Value) (X:Nat→List Value) (gone:Nat→Prop) (cs:List Rec) (tr ch:List Nat) (lev:Nat→Nat) (rea:Nat→Int) (last:Nat) (c0:List Nat) (i:Nat) (s:Lk) (cs':List Rec) (f' V':Nat→Value) (X':Nat→List Value) (Rs Ro:Nat→Prop) (wr:World):Prop where
 ex:ExI tr ch lev (rsOf (mapOf cs) rea) last c0 i s
 look:LookSt Z sb ob hb n w K f X gone (ints (enc cs')) (-1) s f' V' X' Rs Ro wr
 busy:BusyC cs cs'
def ExpRel (Z:Nat→Prop) (sb ob hb n:Nat) (w:World) (K:Nat) (f:Nat→Value) (X:Nat→List Value) (gone:Nat→Prop) (cs:List Rec) (tr ch:List Nat) (lev:Nat→Nat) (rea:Nat→Int) (last:Nat) (c0:List Nat) (s4 s5:Value) (wr:World):Prop:=
 ∃ (i:Nat) (s:Lk) (cs':List Rec) (f' V':Nat→Value) (X':Nat→List Value) (Rs Ro:Nat→Prop),s5=.int .i64 ((i:Nat):Int)∧s4=.int .i64 ((s.opn:Nat):Int)∧Hid (ExpSt Z sb ob hb n w K f X gone cs tr ch lev rea last c0 (i + 1) s cs' f' V' X' Rs Ro wr)
def ExpRet (Z:Nat→Prop) (sb ob hb n:Nat) (w:World) (K:Nat) (f:Nat→Value) (X:Nat→List Value) (gone:Nat→Prop) (cs:List Rec) (tr ch:List Nat) (lev:Nat→Nat) (rea:Nat→Int) (last:Nat) (c0:List Nat) (e:Ending) (w':World):Prop:=
 e=.returned (.tuple #[])∧∃ (i:Nat) (hi:i < tr.length) (s:Lk) (cs':List Rec) (f' V':Nat→Value) (X':Nat→List Value) (Rs Ro:Nat→Prop),ExI tr ch lev (rsOf (mapOf cs) rea) last c0 (i + 1) s∧s.seen (tr[i] / 2)=true∧s.opn=1∧LookSt Z sb ob hb n w K f X gone (ints (enc cs')) (op tr[i]:Nat) s f' V' X' Rs Ro w'∧BusyC cs cs'
variable {Z:Nat→Prop} {sb ob hb K n:Nat} {w wr wx:World} {f f' V' f2 V2:Nat→Value} {X X' X2:Nat→List Value} {gone:Nat→Prop} {Rs Ro Rs2 Ro2:Nat→Prop} {tr ch:List Nat} {lev:Nat→Nat} {rea:Nat→Int} {cs cs':List Rec} {last i:Nat} {c0:List Nat} {s:Lk}
theorem LookSt.comp {E E2:List Value} {pre:Int} {s2:Lk} (h:LookSt Z sb ob hb n w K f X gone E pre s f' V' X' Rs Ro wr) (h2:LookSt Z sb ob hb n wr K f' X' gone E2 pre s2 f2 V2 X2 Rs2 Ro2 wx):LookSt Z sb ob hb n w K f X gone E2 pre s2 f2 V2 X2 Rs2 Ro2 wx:=
 ⟨h2.duo,h2.x0,h2.lem,fun j h1 h3 h4=>(h2.only j h1 h3 h4).trans (h.only j h1 h3 h4),fun j hj=>(h2.ff j hj).trans (h.ff j hj),h.chg.trans h2.chg,h2.wk⟩
theorem ExpSt.fin (h:ExpSt Z sb ob hb n w K f X gone cs tr ch lev rea last c0 (i + 1) s cs' f' V' X' Rs Ro wr) (hi:i < tr.length) (hs:s.seen (tr[i] / 2)=true) (ho:s.opn=1) {g m c:Nat} (e7:V' 7=.slice (some ⟨g,0,none⟩) m c) (hz:zz Rs wr g):
  ExpRet Z sb ob hb n w K f X gone cs tr ch lev rea last c0 (.returned (.tuple #[])) (wr.setCell ⟨g,0,none⟩ (.int .i64 (op tr[i]:Nat))):=by
 have hK:=h.look.duo.sol.hK
 obtain ⟨d1,d2⟩:=h.look.duo.stepS (h.look.duo.sol.set (k:=7) (by omega) e7 0 (.int .i64 (op tr[i]:Nat))) ((Chg.refl _).setCell hz _) rfl
 refine ⟨rfl,i,hi,s,cs',f',V',_,_,_,h.ex,hs,ho,⟨d1,by rw [upd_other _ _ (by decide)];exact h.look.x0,⟨by rw [upd_other _ _ (by decide)];exact h.look.lem.n10,by rw [upd_other _ _ (by decide)];exact h.look.lem.t10,?_⟩,fun j h1 h2 h3=>by rw [upd_other _ _ h2];exact h.look.only j h1 h2 h3,h.look.ff,h.look.chg.trans d2,h.look.wk.congr (upd_other _ _ (by decide)) fun _=>rfl⟩,h.busy⟩
 rw [upd_self,h.look.lem.l7];rfl
theorem ExpRet.later {e:Ending} (h:ExpRet Z sb ob hb n w K f X gone cs tr ch lev rea last c0 e wr) (hb':Below wr.heap.size wr wx):ExpRet Z sb ob hb n w K f X gone cs tr ch lev rea last c0 e wx:=by
 obtain ⟨h1,i,hi,s,cs',f',V',X',Rs,Ro,h2,h3,h4,h5,h6⟩:=h
 exact ⟨h1,i,hi,s,cs',f',V',X',Rs,Ro,h2,h3,h4,h5.later hb',h6⟩
theorem lits_len {n:Nat} {l:List Nat} (h:(l.map (· / 2)).Nodup) (hl:∀ x ∈ l,x < 2 * n):l.length ≤ n:=by
 have:=len_le_of_lt n (l.map (· / 2)) h (fun v hv=>by
  obtain ⟨x,hx,rfl⟩:=List.mem_map.1 hv
  have:=hl x hx
  omega)
 simpa using this
theorem LkI.len {d:Nat} (h:LkI tr lev d s) (ht:TrI n tr ch lev):s.les.length ≤ n:=
 lits_len h.nd fun y hy=>by
  have:=op_lt (ht.lt _ ((h.les y).1 hy).1)
  rwa [op_op] at this
theorem Sol.pushFrom {V:Nat→Value} (h:Sol Z sb w K f V X) {k:Nat} (hk:k < 13) {a:Option Addr} {n0 cap m0:Nat} (hv:V k=.slice a n0 cap) (hm0:m0 ≤ (X k).length) {obj:Obj} {v':Value} {w6:World} {m:Nat} {news:List Value} (hm:news.length=m) (A:Appended (w.alloc obj) 0 (famT k) 1 (.slice a m0 cap) m0 ((X k).take m0) m news v' w6):
  Sol Z sb (w6.setCell ⟨sb,cellOf k,none⟩ v') K (upd f (cellOf k) v') (upd V k v') (upd X k ((X k).take m0 ++ news))∧Chg Z w (w6.setCell ⟨sb,cellOf k,none⟩ v')∧∀ j,j < 22→w6.cell? ⟨sb,j,none⟩=some (f j)∧w6.frozen? ⟨sb,j,none⟩=false:=by
 have hkK:k < K:=by have:=h.hK;omega
 have hl:=h.later ((Below.refl _ w).alloc (Nat.le_refl _) obj)
 have ob0:∀ g,(Value.slice a m0 cap).ownBlock=some g→(V k).ownBlock=some g:=fun g hg=>by rw [hv];cases a <;> exact hg
 have ob1:(Value.slice a m0 cap).ownBlock=(V k).ownBlock:=by rw [hv];cases a <;> rfl
 have ht:((X k).take m0).length=m0:=by rw [List.length_take];omega
 have hf:=hl.fam.cut hkK hv hm0
 have A':Appended (w.alloc obj) 0 (famT k) 1 (upd V k (.slice a m0 cap) k) (upd X k ((X k).take m0) k).length (upd X k ((X k).take m0) k) m news v' w6:=by rw [upd_self,upd_self,ht];exact A
 have hp:=hf.push hkK hm A'
 rw [upd_self,upd_upd,upd_upd] at hp
 have gb:=A.grew
 rw [ob1] at gb
 have hr:=hl.row.of_block (gb.block sb hl.row.lt (fun e=>hl.far hkK sb e.symm rfl))
 have at2:v'.ownBlock=(V k).ownBlock∨v'.ownBlock=some (w.alloc obj).heap.size:=by
  rcases A.at' with h1 | h1
  ·exact .inl (by rw [h1,ob1])
  ·exact .inr h1
 refine ⟨h.header hk hr hp rfl (fun i hi g hg=>?_) (by have:=A.grew.size;simp at this;omega) (fun i hi g hg=>?_),(((Chg.refl w).alloc obj).grown gb (fun g hg=>h.al k hkK g hg)).setCell h.bsb _,fun j hj=>⟨hr.cell hj,hr.frozen j⟩⟩
 ·by_cases e:i=k
  ·subst e
   rw [upd_self] at hg
   rcases at2 with h1 | h1
   ·rw [h1] at hg;exact hl.far hi g hg
   ·rw [h1] at hg
    have:=Option.some.inj hg
    have:=hl.row.lt
    omega
  ·rw [upd_other _ _ e] at hg;exact hl.far hi g hg
 ·by_cases e:i=k
  ·subst e
   rw [upd_self] at hg
   rcases at2 with h1 | h1
   ·rw [h1] at hg;exact h.al i hi g hg
   ·rw [h1] at hg
    have:=Option.some.inj hg
    exact h.az g (by simp at this;omega)
  ·rw [upd_other _ _ e] at hg;exact h.al i hi g hg
end So
end Go.Proofs.YtceahffmenbibaaGreatDoor
namespace Go.Proofs.YtceahffmenbibaaGreatDoor
namespace So
open Go Go.RowKit Go.Deep Rd
variable {Z:Nat→Prop} {sb ob hb K n:Nat} {w:World} {f V:Nat→Value} {X:Nat→List Value} {gone:Nat→Prop} {Rs Ro:Nat→Prop} {tr ch:List Nat} {lev:Nat→Nat} {rea:Nat→Int} {cs:List Rec}
theorem Tryz.infoBool:(Tryz.prog.info? 4).map (fun i=>(i.zero,i.size,i.bytes))=some (some (.bool false),1,1):=by kernel_rfl
theorem info_partsB {t:TypeId} {z:Value} {a b:Nat} (h:(Tryz.prog.info? t).map (fun i=>(i.zero,i.size,i.bytes))=some (some z,a,b)):∃ i,Tryz.prog.info? t=some i∧i.zero=some z:=by
 cases e:Tryz.prog.info? t with
 | none=>rw [e] at h;cases h
 | some i=>rw [e] at h;exact ⟨i,rfl,(Prod.mk.inj (Option.some.inj h)).1⟩
set_option maxHeartbeats 4000000 in
set_option maxRecDepth 100000 in
theorem explain_any {k:Nat} (D:Duo Z sb ob hb n w K f V X gone Rs Ro) (hn:n ≤ 50) (h0:X 0=ints (enc cs)) (hk:k < cs.length) (hN:(enc cs).length ≤ 1099511627776) (hT:TrM n X tr ch lev rea) (h10:(X 10).length=n) (hW:WK n V X)
  (ht:TrI n tr ch lev) (hr:ReI (mapOf cs) tr ch rea) (hc:ClI n (mapOf cs)) (hd:0 < ch.length) (hf:∀ y ∈ (cs[k]).lits,op y ∈ tr) {y0:Nat} (hy0:y0 ∈ (cs[k]).lits) (hl0:lev (y0 / 2)=ch.length):
  Calls Tryz.prog 141 #[.pointer (some ⟨sb,0,none⟩),.int .i64 (adr cs k:Nat)] w fun e w'=>ExpRet Z sb ob hb n w K f X gone cs tr ch lev rea ch[ch.length - 1] (cs[k]).lits e w':=by
 have EXS:Hid (ExI tr ch lev (rsOf (mapOf cs) rea) ch[ch.length - 1] (cs[k]).lits tr.length ((cs[k]).lits.foldl (lk1 lev ch.length) ⟨fun _=>false,[],0⟩)):=ExI.start ht hd hf hy0 hl0
 have EXT:Hid (∀ i s,ExI tr ch lev (rsOf (mapOf cs) rea) ch[ch.length - 1] (cs[k]).lits (i + 1) s→∀ (hi:i < tr.length),s.seen (tr[i] / 2)=true→s.opn ≠ 1→∃ a c r,rea (tr[i] / 2)=(a:Nat)∧mapOf cs a=some c∧c.lits=tr[i] :: r∧∃ more,(c.lits.foldl (lk1 lev ch.length) ⟨s.seen,s.les,0⟩).opn=more∧ExI tr ch lev (rsOf (mapOf cs) rea) ch[ch.length - 1] (cs[k]).lits i ⟨(c.lits.foldl (lk1 lev ch.length) ⟨s.seen,s.les,0⟩).seen,(c.lits.foldl (lk1 lev ch.length) ⟨s.seen,s.les,0⟩).les,s.opn + more - 1⟩):=fun i s he hi hs ho=>by
  obtain ⟨a,c,r,h1,h2,h3,h4,h5,h6⟩:=why_rs (hr.why i hi (he.forced ht hd ho))
  obtain ⟨more,m1,m2⟩:=he.step ht hd hi hs ho h5 h4 h6
  exact ⟨a,c,r,h1,h2,h4,more,m1,m2⟩
 obtain ⟨last,hlast⟩:∃ last,last=ch[ch.length - 1]:=⟨_,rfl⟩
 rw [← hlast] at EXS EXT ⊢
 obtain ⟨i0,hi,hz0,hz1,hz2⟩:=info_parts Tryz.infoInt9
 obtain ⟨ib,hib,hzb⟩:=info_partsB Tryz.infoBool
 have hK:=D.sol.hK
 have tl:=ht.len
 have dl:=ht.depth
 have hn1:1 ≤ n:=by omega
 obtain ⟨n',hn'⟩:∃ n',n=n' + 1:=⟨n - 1,by omega⟩
 obtain ⟨g10,c10,cur,e10,-,hg10,hcap10⟩:=D.sol.fam.block (k:=10) (by omega) (by omega)
 have hcur:n ≤ cur.size:=by
  have:=D.sol.fam.own 10 (by omega)
  rw [e10] at this
  rcases this.2 with ⟨e,_⟩ | ⟨g',cap',cur',e,_,hg',hn2,_,hs',_⟩
  ·cases e
  ·cases e
   rw [hg10] at hg';cases hg';omega
 have q10:=(D.sol.hd (k:=10) (by omega)).1
 rw [show cellOf 10=16 from rfl,e10,h10] at q10
 rw [h10] at e10
 have CLR:Hid (∀ w1,w1.heap[g10]? = some (.cells (splice cur.toList 0 (List.replicate (n' + 1) (.bool false))).toArray 4 (0,0))→(∀ k,k ≠ g10→w1.heap[k]? = w.heap[k]?)→Below 0 w w1→∃ Rs1,Duo Z sb ob hb n w1 K f V (upd X 10 (List.replicate n (.bool false))) gone Rs1 Ro∧Chg Z w w1):=fun w1 q1 q2 q3=>by
  obtain ⟨s1,c1⟩:=D.sol.intoRow (k:=10) (R:=List.replicate n (.bool false)) (by omega) e10 (by
   rw [e10,List.length_replicate]
   have ho:=D.sol.fam.own 10 (by omega)
   rw [e10] at ho
   refine ⟨by simp,?_⟩
   rcases ho.2 with ⟨e,_⟩ | ⟨g',cap',cur',e,hb',hg',hn2,hm,hs',ht'⟩
   ·cases e
   ·cases e
    rw [hg10] at hg';cases hg'
    refine .inr ⟨g10,c10,_,rfl,hb',q1,by omega,hm,?_,?_⟩
    ·simp only [List.size_toArray]
     rw [length_splice _ _ _ (by simp;omega)]
     simpa using hs'
    ·simp only [Nat.mul_one]
     unfold splice
     rw [← hn']
     simp) q2 q3
  obtain ⟨d1,d2⟩:=D.stepS s1 c1 rfl
  exact ⟨_,d1,d2⟩
 have START:Hid (∀ w2 f2 V2 X2 R2 O2 (s2:Lk) bs f3 V3 X3 R3 O3 w3,LookSt Z sb ob hb n w K f X gone (ints (enc cs)) (-1) ⟨fun _=>false,[],0⟩ f2 V2 X2 R2 O2 w2→LookSt Z sb ob hb n w2 K f2 X2 gone (ints (enc (cs.set k ⟨(cs[k]).kind,bs,(cs[k]).lits⟩))) (-1) ((cs[k]).lits.foldl (lk1 lev ch.length) ⟨fun _=>false,[],0⟩) f3 V3 X3 R3 O3 w3→ExpSt Z sb ob hb n w K f X gone cs tr ch lev rea last (cs[k]).lits tr.length ((cs[k]).lits.foldl (lk1 lev ch.length) ⟨fun _=>false,[],0⟩) (cs.set k ⟨(cs[k]).kind,bs,(cs[k]).lits⟩) f3 V3 X3 R3 O3 w3):=fun w2 f2 V2 X2 R2 O2 s2 bs f3 V3 X3 R3 O3 w3 h1 h2=>⟨unhide EXS,h1.comp h2,BusyC.set hk bs⟩
 have hlitl:(cs[k]).lits.length ≤ n:=lits_len (hc.vars _ _ (mapOf_at hk)) (hc.lt _ _ (mapOf_at hk))
 have hlt0:∀ y ∈ (cs[k]).lits,y < 2 * n:=hc.lt _ _ (mapOf_at hk)
 have QL0:Hid (∀ w2 f2 V2 X2 R2 O2,LookSt Z sb ob hb n w K f X gone (ints (enc cs)) (-1) ⟨fun _=>false,[],0⟩ f2 V2 X2 R2 O2 w2→Calls Tryz.prog 182 #[.pointer (some ⟨sb,0,none⟩),.int .i64 (adr cs k:Nat)] w2 fun e w'=>LookRet Z sb ob hb n w2 K f2 X2 gone cs k (cs[k]).kind (-1) lev ch.length ⟨fun _=>false,[],0⟩ (cs[k]).lits e w'):=fun w2 f2 V2 X2 R2 O2 h1=>look_any h1.duo hn h1.x0 hk hN (hT.congr fun j h2 h3=>h1.only j (by omega) (by omega) (by omega)) h1.lem rfl hlt0 (by omega) (by simp;omega) h1.wk
 have HCLR2:Hid (∀ w1 Rs1,Duo Z sb ob hb n w1 K f V (upd X 10 (List.replicate n (.bool false))) gone Rs1 Ro→Chg Z w w1→∃ a7 c7 m7,w1.cell? ⟨sb,15,none⟩=some (.slice a7 m7 c7)∧m7=(X 7).length∧w1.ownsRow 0 3 1 (.slice a7 0 c7) 0 []∧sb < w1.heap.size∧∀ obj v' w6,Appended (w1.alloc obj) 0 3 1 (.slice a7 0 c7) 0 [] 1 [.int .i64 (-1)] v' w6→(w6.cell? ⟨sb,15,none⟩=some (.slice a7 m7 c7)∧w6.frozen? ⟨sb,15,none⟩=false)∧∃ f2 V2 X2 R2,LookSt Z sb ob hb n w K f X gone (ints (enc cs)) (-1) ⟨fun _=>false,[],0⟩ f2 V2 X2 R2 Ro (w6.setCell ⟨sb,15,none⟩ v')):=fun w1 Rs1 D1 C1=>by
  obtain ⟨a7,c7,e7⟩:=D1.sol.fam.shape (k:=7) (by omega)
  rw [upd_other _ _ (by decide)] at e7
  have q7:=(D1.sol.hd (k:=7) (by omega)).1
  rw [show cellOf 7=15 from rfl,e7] at q7
  have ow:=(D1.sol.fam.cut (k:=7) (by omega) e7 (m:=0) (Nat.zero_le _)).own 7 (by omega)
  rw [upd_self,upd_self,List.take_zero] at ow
  refine ⟨a7,c7,_,q7,rfl,ow,D1.sol.row.lt,fun obj v' w6 A=>?_⟩
  have A':Appended (w1.alloc obj) 0 (famT 7) 1 (.slice a7 0 c7) 0 ((upd X 10 (List.replicate n (.bool false)) 7).take 0) 1 [.int .i64 (-1)] v' w6:=by rw [List.take_zero];exact A
  obtain ⟨p1,p2,p3⟩:=D1.sol.pushFrom (k:=7) (by omega) e7 (Nat.zero_le _) (m:=1) (news:=[.int .i64 (-1)]) rfl A'
  obtain ⟨d1,d2⟩:=D1.stepS p1 p2 (upd_other _ _ (by decide))
  have q6:=p3 15 (by omega)
  have hf15:f 15=.slice a7 (X 7).length c7:=by
   have:=D1.sol.hdr 7 (by omega)
   rw [e7] at this;exact this
  rw [hf15] at q6
  refine ⟨q6,_,_,_,_,⟨d1,by rw [upd_other _ _ (by decide),upd_other _ _ (by decide)];exact h0,⟨by rw [upd_other _ _ (by decide),upd_self];simp,fun v hv=>by rw [upd_other _ _ (by decide),upd_self,List.getElem?_replicate,if_pos hv],by rw [upd_self,List.take_zero];rfl⟩,fun j h1 h2 h3=>by rw [upd_other _ _ h2,upd_other _ _ h3],fun j hj=>upd_other _ _ hj,C1.trans d2,hW.congr (by rw [upd_other _ _ (by decide),upd_other _ _ (by decide)]) fun x=>upd_other _ _ (by omega)⟩⟩
 have HG10:=hide hg10
 have HTL:=hide (ht.len)
 have HR:=hide hr
 have HTI:=hide ht
 have HCI:=hide hc
 have HTT:=hide hT
 have HN1:=hide hn'
 have hcur':n' + 1 ≤ cur.size:=by omega
 rw [hn'] at q10
 generalize hRR:ExpRet Z sb ob hb n w K f X gone cs tr ch lev rea last (cs[k]).lits=RR
 have HRR:=hide hRR
 have HLA:=hide hlast
 clear D h10 hW e10 hcap10 hg10 hr ht hc hT hf hy0 h0 hRR hlt0 EXS hlast
 obtain ⟨W1,hrun,H1,H2,H3⟩:=run_clear (P:=Tryz.prog) (w:=w) (ot:=0) 26 4 Tryz.underlying26 ib hib (.bool false) hzb rfl rfl g10 n' c10 cur 4 (unhide HG10) hcur'
 obtain ⟨Rs1,hd1,hc1⟩:=unhide CLR W1 H1 H2 H3
 obtain ⟨a7,c7,m7,q7,-,ow7,sb1,AP7⟩:=unhide HCLR2 W1 Rs1 hd1 hc1
 have OW7:=hide ow7
 have HAP:=hide AP7
 have ns1:¬ (sb=W1.heap.size):=by omega
 clear hd1 hc1 H1 H2 H3 CLR HCLR2 ow7 AP7
 go_enter Tryz.func141,Tryz.ntmps141
 go_upto_region 1 with fail
 go_wp2_with (at_builtin;refine wpList_append_any _ rfl _ _ 43 rfl 0 3 i0 (.int .i64 0) 1 8 Tryz.underlying43 hi hz0 hz1 hz2 rfl (by decide) (.slice a7 0 c7) 0 [] rfl ((unhide OW7).alloc (Obj.cells #[.int .i64 (-1)] 3)) (.slice (some ⟨W1.heap.size,0,none⟩) 1 1) 1 [.int .i64 (-1)] rfl (.inr ⟨⟨W1.heap.size,0,none⟩,1,rfl,World.news_of_block (cs:=#[.int .i64 (-1)]) (t:=3) (fr:=(0,0)) (heap_alloc_new W1 _)⟩) rfl (by simp [Value.oneCell']) (by unfold maxLen;omega) (by omega) (Nat.zero_le _) ?_)
 intro v6 w6 A6
 obtain ⟨⟨q6,z6⟩,f2,V2,X2,R2,hL2⟩:=unhide HAP _ _ _ A6
 obtain ⟨va6,vc6,hv6⟩:=own_shape A6.own
 subst hv6
 have L2:=hide hL2
 have QLK:=hide (unhide QL0 _ _ _ _ _ _ hL2)
 have STA:=hide (fun s2 bs f3 V3 X3 R3 O3 w3=>unhide START _ _ _ _ _ _ s2 bs f3 V3 X3 R3 O3 w3 hL2)
 clear A6 hL2 HAP OW7 QL0 START q7 hrun
 go_upto_region 2 with fail
 generalize hW2:w6.setCell ⟨sb,15,none⟩ (.slice va6 (0 + 1) vc6)=W2 at *
 clear hW2 q6 z6
 generalize hs0:(cs[k]).lits.foldl (lk1 lev ch.length) ⟨fun _=>false,[],0⟩=s0 at STA
 have HS0:=hide hs0
 clear hs0
 go_upto_region 3 with (go_at_call 182;refine (unhide QLK).mono ?_;rintro e7 w7 ⟨bs,f3,V3,X3,R3,O3,rfl,hl3⟩;rw [unhide HS0] at hl3;rw [unhide HS0];have E3:=hide (unhide STA s0 bs f3 V3 X3 R3 O3 w7 hl3);clear hl3;simp only [])
 have TRM:Hid (∀ wr s cs' i f' V' X' Rs Ro,ExpSt Z sb ob hb n w K f X gone cs tr ch lev rea last (cs[k]).lits i s cs' f' V' X' Rs Ro wr→TrM n X' tr ch lev rea):=fun wr s cs' i f' V' X' Rs' Ro' hst=>(unhide HTT).congr fun j h1 h2=>hst.look.only j (by omega) (by omega) (by omega)
 obtain ⟨j0,hj0,-⟩:=(unhide E3).ex.more
 have hT3:=unhide TRM _ _ _ _ _ _ _ _ _ (unhide E3)
 obtain ⟨a1,c1,e1⟩:=(unhide E3).look.duo.sol.fam.shape (k:=1) (by omega)
 have q1:=((unhide E3).look.duo.sol.hd (k:=1) (by omega)).1
 rw [show cellOf 1=6 from rfl,e1,hT3.l1,nats_len,hj0] at q1
 rw [hj0] at E3
 have j0b:(j0:Int) + 1 ≤ 50:=by have:=unhide HTL;omega
 have HJ0:=hide hj0
 clear QLK STA L2 e1 hT3 hj0 tl
 go_wp2_with fail
 generalize hRRL:(cs[k]).lits=c0 at *
 go_loopw [4,5,6,7,8] (fun s4 s5 _ _ _ wr=>ExpRel Z sb ob hb n w K f X gone cs tr ch lev rea last c0 s4 s5 wr) (fun _ s5 _ _ _ _=>(intOf s5).toNat)
 case atStart=>exact ⟨j0,s0,_,f3,V3,X3,R3,O3,by go_num,rfl,E3⟩
 case round=>
  clear E3 q1 HS0
  obtain ⟨i,s,cs',f',V',X',Rs',Ro',rfl,rfl,hst⟩:=hrel
  have hile:=(unhide hst).ex.ile
  have hil:i < tr.length:=by omega
  have hT':=unhide TRM _ _ _ _ _ _ _ _ _ (unhide hst)
  have l1:(X' 1).length=tr.length:=by rw [hT'.l1,nats_len]
  obtain ⟨g1,c1',t1,e1,q1,r1,s1,-⟩:=(unhide hst).look.duo.sol.elem (k:=1) (j:=i) (by omega) l1 hil
  rw [show cellOf 1=6 from rfl] at q1
  rw [hT'.l1,nats_at _ _ hil] at s1
  obtain rfl:=Option.some.inj s1
  obtain ⟨x,hx⟩:∃ x,x=tr[i]:=⟨_,rfl⟩
  rw [← hx] at r1
  have hxl:x < 2 * n:=by rw [hx];exact (unhide HTI).lt _ (List.getElem_mem _)
  have QV:=hide (fun Y=>variableOf_any x Y (by omega))
  obtain ⟨v,hvd⟩:∃ v,v=x / 2:=⟨_,rfl⟩
  have hv:v < n:=by omega
  rw [← hvd] at QV
  have HXV:Hid (tr[i] / 2=v):=by unfold Hid;rw [hvd,hx]
  have HX:=hide hx
  obtain ⟨g10',c10',t10,e10,q10,r10,s10,-⟩:=(unhide hst).look.duo.sol.elem (k:=10) (j:=v) (by omega) (unhide hst).look.lem.n10 hv
  rw [show cellOf 10=16 from rfl] at q10
  rw [(unhide hst).look.lem.t10 v hv] at s10
  obtain rfl:=Option.some.inj s10
  have i00:(0:Int) ≤ (i:Int):=by omega
  have i11:(i:Int) < (tr.length:Int):=by omega
  have i22:(i:Int) ≤ 50:=by have:=unhide HTL;omega
  have v0:(0:Int) ≤ (v:Int):=by omega
  have v1:(v:Int) < (n:Int):=by omega
  clear hx hvd e1 e10 l1
  by_cases hsn:s.seen v=true
  ·rw [hsn] at r10
   by_cases hop:s.opn=1
   ·
    have l7:(X' 7).length=s.les.length + 1:=by rw [(unhide hst).look.lem.l7];simp [nats_len]
    obtain ⟨g7,c7',t7,e7,q7,r7,s7,z7,zz7,l7',n7⟩:=(unhide hst).look.duo.sol.elem (k:=7) (j:=0) (by omega) l7 (by omega)
    rw [show cellOf 7=15 from rfl] at q7
    have FIN:=hide ((unhide hst).fin hil (by rw [unhide HXV];exact hsn) hop e7 zz7)
    rw [unhide HRR,← unhide HX] at FIN
    have FINL:Hid (∀ W,Below (wr.setCell ⟨g7,0,none⟩ (.int .i64 (op x:Nat))).heap.size (wr.setCell ⟨g7,0,none⟩ (.int .i64 (op x:Nat))) W→RR (.returned (.tuple #[])) W):=fun W hW=>by
     have:=unhide FIN
     rw [← unhide HRR] at this ⊢
     exact this.later hW
    have QOP:=hide (fun Y=>opposite_any x Y (by omega))
    have les0:(0:Int) < (s.les.length:Int) + 1:=by omega
    rw [hop]
    clear hst e7 s7 l7 hT'
    generalize op x=ox at *
    go_upto_region 9 with (go_at_call 176;refine (unhide QV _).mono ?_;rintro e9 w9 ⟨rfl,rfl⟩;simp only [])
    go_region_with (go_at_call 139;refine (unhide QOP _).mono ?_;rintro eA wA ⟨rfl,rfl⟩;simp only [])
    all_goals
     go_wp2
     first | go_end0 | refine bodyPost_ret (results_none rfl _ _ _) rfl ?_
     exact unhide FINL _ (Below.refl _ _).drew
   ·
    have hext:=unhide EXT i s (by have:=(unhide hst).ex;exact this) hil (by rw [unhide HXV];exact hsn) hop
    obtain ⟨a,c,rr,ha,hC,hcl,more,hmo,hex⟩:=hext
    rw [← unhide HLA] at hex
    obtain ⟨m,hm,-⟩:=hex.more
    rw [← (unhide hst).busy.map] at hC
    obtain ⟨k',hk',rfl,rfl⟩:=mapOf_some hC
    simp only at hcl hmo hex
    rw [unhide HXV] at ha
    have hN':(enc cs').length ≤ 1099511627776:=by rw [(unhide hst).busy.len];exact hN
    have hltk:∀ y ∈ (cs'[k']).lits,y < 2 * n:=fun y hy=>(unhide HCI).lt _ _ (by rw [← (unhide hst).busy.map];exact hC) y hy
    have hlk:(cs'[k']).lits.length ≤ n:=lits_len ((unhide HCI).vars _ _ (by rw [← (unhide hst).busy.map];exact hC)) hltk
    have hles:=(unhide hst).ex.lk.len (unhide HTI)
    have QLK:=hide (look_any (k:=k') (s0:=⟨s.seen,s.les,0⟩) (unhide hst).look.duo hn (unhide hst).look.x0 hk' hN' hT' (unhide hst).look.lem rfl hltk (by omega) (by simp only;omega) (unhide hst).look.wk)
    obtain ⟨g5,c5,t5,e5,q5,r5,s5,-⟩:=(unhide hst).look.duo.sol.elem (k:=5) (j:=v) (by omega) hT'.n5 hv
    rw [show cellOf 5=11 from rfl] at q5
    rw [hT'.t5 v hv,ha] at s5
    obtain rfl:=Option.some.inj s5
    generalize hs1:(cs'[k']).lits.foldl (lk1 lev ch.length) ⟨s.seen,s.les,0⟩=s1 at QLK hmo hex
    have HS1:=hide hs1
    have NX:Hid (∀ (bs:Int) f4 V4 X4 R4 O4 w4,LookSt Z sb ob hb n wr K f' X' gone (ints (enc (cs'.set k' ⟨(cs'[k']).kind,bs,(cs'[k']).lits⟩))) (-1) s1 f4 V4 X4 R4 O4 w4→∀ so sv,so=.int .i64 ((s.opn + more - 1:Nat):Int)→sv=.int .i64 ((m:Nat):Int)→ExpRel Z sb ob hb n w K f X gone cs tr ch lev rea last c0 so sv w4):=fun bs f4 V4 X4 R4 O4 w4 hL so sv hso hsv=>⟨m,⟨s1.seen,s1.les,s.opn + more - 1⟩,_,f4,V4,X4,R4,O4,hsv,hso,by rw [hm] at hex;exact hex,((unhide hst).look.comp hL).opn _,(unhide hst).busy.trans (BusyC.set hk' bs)⟩
    have im:(i:Int) - 1=(m:Int):=by omega
    have mi:m < i:=by omega
    have hpos:=(unhide hst).ex.pos
    have opb:s.opn ≤ 51:=by
     rw [(unhide hst).ex.cnt]
     have:cntS tr last (i + 1) s.seen ≤ i + 1:=by
      unfold cntS
      have:=List.length_filter_le (fun j=>decide (last ≤ j) && s.seen (vr tr j)) (List.range (i + 1))
      simpa using this
     omega
    have opb2:s.opn + more - 1 ≤ 51:=by
     have h1:=hex.cnt
     have:cntS tr last i s1.seen ≤ i:=by
      unfold cntS
      have:=List.length_filter_le (fun j=>decide (last ≤ j) && s1.seen (vr tr j)) (List.range i)
      simpa using this
     simp only at h1
     omega
    have om:Hid ((s.opn:Int) + ((more:Int) - 1)=((s.opn + more - 1:Nat):Int)):=by unfold Hid;omega
    have o1:((s.opn:Int) == 1)=false:=by simp;omega
    have more0:(0:Int) ≤ (more:Int):=by omega
    have more1:(more:Int) ≤ 52:=by omega
    have HMO:Hid (s1.opn=more):=hmo
    clear hst hex hm hT' hC hcl hs1 hltk hN' hop ha e5 hmo
    go_upto_region 11 with (first
     |(go_at_call 176;refine (unhide QV _).mono ?_;rintro e9 w9 ⟨rfl,rfl⟩;simp only [])
     |(go_at_call 182;refine (unhide QLK).mono ?_;rintro eA wA ⟨bs4,f4,V4,X4,R4,O4,rfl,hl4⟩;rw [unhide HS1] at hl4;rw [unhide HS1,unhide HMO];have NX4:=hide (unhide NX bs4 f4 V4 X4 R4 O4 wA hl4);clear hl4;simp only []))
    clear QLK NX
    go_wp2
    go_roundw
    case rel=>exact unhide NX4 _ _ (by rw [← unhide om]) (by go_num)
    case measure=>simp [intOf];omega
  ·rw [Bool.not_eq_true] at hsn
   rw [hsn] at r10
   have hsk:=(unhide hst).ex.skip (by rw [vr_at hil,unhide HXV];exact hsn)
   obtain ⟨m,hm,-⟩:=hsk.more
   have NX:Hid (∀ sv,sv=.int .i64 ((m:Nat):Int)→ExpRel Z sb ob hb n w K f X gone cs tr ch lev rea last c0 (.int .i64 ((s.opn:Nat):Int)) sv wr):=fun sv hsv=>⟨m,s,cs',f',V',X',Rs',Ro',hsv,rfl,by rw [hm] at hsk;exact hsk,(unhide hst).look,(unhide hst).busy⟩
   have im:(i:Int) - 1=(m:Int):=by omega
   have mi:m < i:=by omega
   clear hst hsk hm hT'
   go_wp2_with (go_at_call 176;refine (unhide QV _).mono ?_;rintro e9 w9 ⟨rfl,rfl⟩;simp only [])
   go_roundw
   case rel=>exact unhide NX _ (by go_num)
   case measure=>simp [intOf];omega
end So
end Go.Proofs.YtceahffmenbibaaGreatDoor
namespace Go.Proofs.YtceahffmenbibaaGreatDoor
namespace So
open Go Go.RowKit Go.Deep Rd
variable {Z:Nat→Prop} {sb K n:Nat} {w:World} {f V:Nat→Value} {X:Nat→List Value} {tr ch:List Nat} {lev:Nat→Nat} {rea:Nat→Int} {cs:List Rec}
structure FoM (n:Nat) (X:Nat→List Value) (fol:Nat→Bool):Prop where
 n11:(X 11).length=n
 t11:∀ v,v < n→(X 11)[v]? = some (.bool (fol v))
def ForRel (Z:Nat→Prop) (sb:Nat) (w:World) (K:Nat) (f V:Nat→Value) (X:Nat→List Value) (fol:Nat→Bool) (tl:List Nat) (s:Value) (wr:World):Prop:=
 ∃ i:Nat,s=.int .i64 ((i:Nat):Int)∧i ≤ tl.length∧Hid ((∀ j (hj:j < tl.length),j < i→fol (tl[j] / 2)=true)∧Sol Z sb wr K f V X∧∃ d,wr=w.drewN d)
def QuietRet (w:World) (b:Bool) (e:Ending) (w':World):Prop:=e=.returned (.bool b)∧∃ d,w'=w.drewN d
theorem forced_none {C:Cmap} {fol:Nat→Bool} {v:Nat} (h:rea v=-1):forcedB (rsOf C rea) fol v=false:=by
 unfold forcedB rsOf;rw [if_pos h]
theorem forced_some {fol:Nat→Bool} {v k:Nat} (hk:k < cs.length) (h:rea v=(adr cs k:Nat)):forcedB (rsOf (mapOf cs) rea) fol v=(cs[k]).lits.tail.all fun y=>fol (y / 2):=by
 unfold forcedB rsOf
 rw [if_neg (by omega),h,Int.toNat_natCast,mapOf_at hk];rfl
set_option maxHeartbeats 4000000 in
set_option maxRecDepth 100000 in
theorem isForced_any {fol:Nat→Bool} {y:Nat} (h:Sol Z sb w K f V X) (hn:n ≤ 50) (h0:X 0=ints (enc cs)) (hN:(enc cs).length ≤ 1099511627776) (hT:TrM n X tr ch lev rea) (hF:FoM n X fol) (hy:y < 2 * n)
  (hre:rea (y / 2)=-1∨∃ k,∃ hk:k < cs.length,rea (y / 2)=(adr cs k:Nat)∧(cs[k]).lits ≠ []∧∀ x ∈ (cs[k]).lits,x < 2 * n):
  Calls Tryz.prog 183 #[.pointer (some ⟨sb,0,none⟩),.int .i64 (y:Nat)] w fun e w'=>QuietRet w (forcedB (rsOf (mapOf cs) rea) fol (y / 2)) e w':=by
 have hK:=h.hK
 have QV:Hid (∀ Y,Calls Tryz.prog 176 #[.int .i64 (y:Nat)] Y fun e w'=>e=.returned (.int .i64 ((y / 2:Nat):Int))∧w'=Y):=fun Y=>variableOf_any y Y (by omega)
 have hv:y / 2 < n:=by omega
 obtain ⟨g5,c5,t5,e5,q5,r5,s5,-⟩:=h.elem (k:=5) (j:=y / 2) (by omega) hT.n5 hv
 rw [show cellOf 5=11 from rfl] at q5
 rw [hT.t5 _ hv] at s5
 obtain rfl:=Option.some.inj s5
 have v0:(0:Int) ≤ ((y / 2:Nat):Int):=by omega
 have v1:((y / 2:Nat):Int) < (n:Int):=by omega
 rcases hre with hre | ⟨k,hk,hre,hne,hlt⟩
 ·rw [forced_none hre]
  rw [hre] at r5
  clear h h0 hT hF e5
  generalize y / 2=v at *
  go_enter Tryz.func183,Tryz.ntmps183
  go_upto_region 1 with fail
  go_quiet ((go_at_call 176;exact Calls.quiet_of_same (unhide QV _)))
  go_wp2
  go_ret
  exact ⟨rfl,_,rfl⟩
 ·rw [forced_some hk hre]
  rw [hre] at r5
  obtain ⟨g,c,e0,q0,hcN,lg,ng,zg,r0,-,-,-,-⟩:=lits_cells h h0 hk
  have hend:=adr_end hk
  obtain ⟨x0,tl,hl⟩:∃ x0 tl,(cs[k]).lits=x0 :: tl:=by
   match e:(cs[k]).lits,hne with
   | x0 :: tl,_=>exact ⟨x0,tl,rfl⟩
  have hm:(cs[k]).lits.length=tl.length + 1:=by rw [hl];simp
  have QL:Hid (∀ j,Calls Tryz.prog 175 #[.pointer (some ⟨sb,2,none⟩),.int .i64 (adr cs k:Nat)] (w.drewN j) fun e w'=>e=.returned (litsAt g (adr cs k) (cs[k]).lits.length c)∧∃ d,w'=(w.drewN j).drewN d):=fun j=>literals_any sb 2 g (enc cs).length c (adr cs k) (cs[k]).lits.length (w.drewN j) q0 (by omega) (by unfold maxLen;omega) hcN r0
  have nc:¬ (c=adr cs k + 3):=by omega
  unfold litsAt at QL
  rw [if_neg nc,hm] at QL
  have CLS:Hid (∀ wr,Sol Z sb wr K f V X→∀ i (hi:i < tl.length),wr.cell? ⟨g,adr cs k + 3 + 1 + i,none⟩=some (.int .i64 (tl[i]:Nat))):=fun wr hs i hi=>by
   have:=row0_cell hs h0 e0 hk (i:=i + 1) (by omega)
   rw [show adr cs k + 3 + 1 + i=adr cs k + 3 + (i + 1) by omega,this]
   simp [hl]
  have HTL:Hid (∀ x ∈ tl,x < 2 * n):=fun x hx=>hlt x (by rw [hl];simp [hx])
  rw [hl,List.tail_cons]
  have HS:=hide h
  have HF:=hide hF
  have tlb:tl.length + 1 ≤ 1099511627776:=by omega
  have capb:tl.length + 1 ≤ c - (adr cs k + 3):=by omega
  clear h h0 hT hF e5 hl hm hre hne hlt q0 r0 e0 hend lg ng zg hk
  generalize adr cs k=a at *
  generalize hvv:y / 2=v at *
  obtain ⟨cc,hcc⟩:∃ cc,cc=c - (a + 3):=⟨_,rfl⟩
  rw [← hcc] at QL capb
  have c1:(1:Int) ≤ (cc:Int):=by omega
  have c2:(1:Int) ≤ ((tl.length + 1:Nat):Int):=by omega
  clear hcc nc hcN
  obtain ⟨B,hB⟩:∃ B,B=tl.all fun y=>fol (y / 2):=⟨_,rfl⟩
  rw [← hB]
  have HB:=hide hB
  clear hB hvv
  go_enter Tryz.func183,Tryz.ntmps183
  go_upto_region 1 with fail
  go_quiet ((go_at_call 176;exact Calls.quiet_of_same (unhide QV _)))
  go_upto_region 4 with fail
  go_wp2_with (go_at_call 175;refine (unhide QL _).mono ?_;rintro e7 w7 ⟨rfl,d7,rfl⟩;simp only [])
  ·obtain ⟨W,hW⟩:∃ W,W=w.drewN (nq + d7):=⟨_,rfl⟩
   have S1:Hid (Sol Z sb W K f V X∧∃ d,W=w.drewN d):=by rw [hW];exact ⟨(unhide HS).later (below_drewN (Below.refl _ _) _),_,rfl⟩
   rw [← hW]
   clear hW q5 r5
   go_loopw [7,26] (fun _ s26 wr=>ForRel Z sb w K f V X fol tl s26 wr) (fun _ s26 _=>tl.length - (intOf s26).toNat)
   case atStart=>exact ⟨0,rfl,Nat.zero_le _,fun j hj h=>absurd h (Nat.not_lt_zero _),unhide S1⟩
   case round=>
    clear S1
    obtain ⟨i,rfl,hil,hst⟩:=hrel
    by_cases hlt:i < tl.length
    ·exact absurd hlt (by omega)
    ·have FB:Hid (QuietRet w B (.returned (.bool true)) wr):=by
      refine ⟨?_,(unhide hst).2.2⟩
      have:B=true:=by
       rw [unhide HB,List.all_eq_true]
       intro x hx
       obtain ⟨j,hj,rfl⟩:=List.mem_iff_getElem.1 hx
       exact (unhide hst).1 j hj (by omega)
      rw [this]
     have i1:¬ ((i:Int) < (tl.length:Int)):=by omega
     clear hst
     go_wp2
     go_ret
     exact unhide FB
  ·obtain ⟨W,hW⟩:∃ W,W=w.drewN (nq + d7):=⟨_,rfl⟩
   have S1:Hid (Sol Z sb W K f V X∧∃ d,W=w.drewN d):=by rw [hW];exact ⟨(unhide HS).later (below_drewN (Below.refl _ _) _),_,rfl⟩
   rw [← hW]
   clear hW q5 r5
   go_loopw [7,26] (fun _ s26 wr=>ForRel Z sb w K f V X fol tl s26 wr) (fun _ s26 _=>tl.length - (intOf s26).toNat)
   case atStart=>exact ⟨0,rfl,Nat.zero_le _,fun j hj h=>absurd h (Nat.not_lt_zero _),unhide S1⟩
   case round=>
    clear S1
    obtain ⟨i,rfl,hil,hst⟩:=hrel
    by_cases hlt:i < tl.length
    ·have hci:=unhide CLS wr (unhide hst).2.1 i hlt
     obtain ⟨z,hz⟩:∃ z,z=tl[i]:=⟨_,rfl⟩
     rw [← hz] at hci
     have hzl:z < 2 * n:=by rw [hz];exact unhide HTL _ (List.getElem_mem _)
     have QZ:Hid (∀ Y,Calls Tryz.prog 176 #[.int .i64 (z:Nat)] Y fun e w'=>e=.returned (.int .i64 ((z / 2:Nat):Int))∧w'=Y):=fun Y=>variableOf_any z Y (by omega)
     have hzv:z / 2 < n:=by omega
     obtain ⟨g11,c11,t11,e11,q11,r11,s11,-⟩:=(unhide hst).2.1.elem (k:=11) (j:=z / 2) (by omega) (unhide HF).n11 hzv
     rw [show cellOf 11=17 from rfl] at q11
     rw [(unhide HF).t11 _ hzv] at s11
     obtain rfl:=Option.some.inj s11
     have z0:(0:Int) ≤ ((z / 2:Nat):Int):=by omega
     have z1:((z / 2:Nat):Int) < (n:Int):=by omega
     have i0:(0:Int) ≤ (i:Int):=by omega
     have i1:(i:Int) < (tl.length:Int):=by omega
     have i2:(i:Int) ≤ 1099511627776:=by omega
     obtain ⟨bz,hbz⟩:∃ b,b=fol (z / 2):=⟨_,rfl⟩
     rw [← hbz] at r11
     have HBZ:Hid (fol (tl[i] / 2)=bz):=by unfold Hid;rw [hbz,hz]
     clear e11 hz hbz
     generalize z / 2=zv at *
     go_upto_region 7 with fail
     go_quiet ((go_at_call 176;exact Calls.quiet_of_same (unhide QZ _)))
     obtain ⟨W2,hW2⟩:∃ W2,W2=wr.drewN nq:=⟨_,rfl⟩
     have S2:Hid (Sol Z sb W2 K f V X∧∃ d,W2=w.drewN d):=by
      obtain ⟨d,hd⟩:=(unhide hst).2.2
      rw [hW2];exact ⟨(unhide hst).2.1.later (below_drewN (Below.refl _ _) _),_,by rw [hd,World.drewN_drewN]⟩
     rw [← hW2]
     clear hW2 q11 r11 hci
     cases bz with
     | true=>
      have NX:Hid (∀ sv,sv=.int .i64 ((i + 1:Nat):Int)→ForRel Z sb w K f V X fol tl sv W2):=fun sv hsv=>⟨i + 1,hsv,hlt,fun j hj hji=>by
       rcases Nat.lt_succ_iff_lt_or_eq.1 hji with h1 | h1
       ·exact (unhide hst).1 j hj h1
       ·subst h1;exact unhide HBZ,unhide S2⟩
      clear hst
      go_wp2
      go_roundw
      case rel=>exact unhide NX _ (by go_num)
      case measure=>simp [intOf];omega
     | false=>
      have FB:Hid (QuietRet w B (.returned (.bool false)) W2):=by
       refine ⟨?_,(unhide S2).2⟩
       have:B=false:=by
        rw [unhide HB,List.all_eq_false]
        exact ⟨tl[i],List.getElem_mem _,by rw [unhide HBZ];simp⟩
       rw [this]
      clear hst
      go_wp2
      go_ret
      exact unhide FB
    ·have FB:Hid (QuietRet w B (.returned (.bool true)) wr):=by
      refine ⟨?_,(unhide hst).2.2⟩
      have:B=true:=by
       rw [unhide HB,List.all_eq_true]
       intro x hx
       obtain ⟨j,hj,rfl⟩:=List.mem_iff_getElem.1 hx
       exact (unhide hst).1 j hj (by omega)
      rw [this]
     have i1:¬ ((i:Int) < (tl.length:Int)):=by omega
     clear hst
     go_wp2
     go_ret
     exact unhide FB
end So
end Go.Proofs.YtceahffmenbibaaGreatDoor
namespace Go.Proofs.YtceahffmenbibaaGreatDoor
namespace So
open Go Go.RowKit Go.Deep Rd
variable {Z:Nat→Prop} {sb K n:Nat} {w:World} {f V:Nat→Value} {X:Nat→List Value} {tr ch:List Nat} {lev:Nat→Nat} {rea:Nat→Int}
theorem Tryz.infoBoolV:(Tryz.prog.info? 4).map (fun i=>(i.zero,i.size,i.bytes))=some (some (.bool false),1,1):=by kernel_rfl
def ValRel (w:World) (n:Nat) (tr:List Nat) (s:Value) (wr:World):Prop:=
 ∃ i:Nat,s=.int .i64 ((i:Nat):Int)∧i ≤ n∧Hid (Below w.heap.size w wr∧wr.rowIs w.heap.size 4 n (fun v=>.bool (decide (v < i) && decide (0 < tv tr (2 * v)))))
set_option maxHeartbeats 2000000 in
set_option maxRecDepth 100000 in
theorem values_any (h:Sol Z sb w K f V X) (hT:TrM n X tr ch lev rea) (h6:(X 6).length=n) (hn:n ≤ 50):
  Calls Tryz.prog 58 #[.pointer (some ⟨sb,0,none⟩)] w fun e w'=>e=.returned (.slice (some ⟨w.heap.size,0,none⟩) n n)∧Below w.heap.size w w'∧w'.rowIs w.heap.size 4 n (fun v=>.bool (decide (0 < tv tr (2 * v)))):=by
 have hK:=h.hK
 have mk1:=run_make_row' (P:=Tryz.prog) 26 4 (.bool false) 1 Tryz.underlying26 Tryz.infoBoolV rfl .i64 .i64 n (by omega) (by omega)
 obtain ⟨a6,c6,e6⟩:=h.fam.shape (k:=6) (by omega)
 have q6:=(h.hd (k:=6) (by omega)).1
 rw [show cellOf 6=13 from rfl,e6,h6] at q6
 go_enter Tryz.func58,Tryz.ntmps58
 go_wp2_with fail
 have QT:Hid (∀ (wr Y:World) (v:Nat),Below w.heap.size w wr→Y.heap=wr.heap→v < n→Calls Tryz.prog 103 #[.pointer (some ⟨sb,6,none⟩),.int .i64 ((2 * v:Nat):Int)] Y fun e w'=>e=.returned (.bool (decide (0 < tv tr (2 * v))))∧w'=Y):=fun wr Y v hb hY hv=>by
  have hs:=h.later hb
  obtain ⟨g3,c3,t3,e3,q3,r3,s3,-⟩:=hs.elem (k:=3) (j:=2 * v) (by omega) hT.n3 (by omega)
  rw [show cellOf 3=9 from rfl] at q3
  rw [hT.t3 _ (by omega)] at s3
  obtain rfl:=Option.some.inj s3
  exact isTrue_any sb 6 g3 (2 * n) c3 (2 * v) (tv tr (2 * v)) Y (by rw [same_cell hY];exact q3) (by omega) (by rw [same_cell hY];exact r3)
 have M0:Hid (Below w.heap.size w (w.alloc (.cells (madeCells #[.bool false] n) 4))∧(w.alloc (.cells (madeCells #[.bool false] n) 4)).rowIs w.heap.size 4 n (fun v=>.bool (decide (v < 0) && decide (0 < tv tr (2 * v))))):=by
  refine ⟨(Below.refl _ _).alloc (Nat.le_refl _) _,?_⟩
  exact (World.rowIs_made w (.bool false) n 4).congr fun i hi=>by simp
 clear h hT h6 mk1 e6 q6
 go_loopw [4,13] (fun _ s wr=>ValRel w n tr s wr) (fun _ s _=>n - (intOf s).toNat)
 case atStart=>exact ⟨0,rfl,Nat.zero_le _,M0⟩
 case round=>
  clear M0
  obtain ⟨i,rfl,hil,hst⟩:=hrel
  by_cases hlt:i < n
  ·have r0:=(unhide hst).2.cell hlt
   have z0:=(unhide hst).2.frozen i
   have QL:=hide (fun Y=>literalOf_any ((i:Int) + 1) Y (by omega) (by omega) (by omega))
   rw [show lit ((i:Int) + 1)=2 * i by unfold lit;rw [if_neg (by omega)];omega] at QL
   have QI:=hide (fun Y hY=>unhide QT wr Y i (unhide hst).1 hY hlt)
   generalize hb:decide (0 < tv tr (2 * i))=b at *
   have NX:Hid (ValRel w n tr (.int .i64 ((i + 1:Nat):Int)) (wr.setCell ⟨w.heap.size,i,none⟩ (.bool b)).drew):=by
    refine ⟨i + 1,rfl,hlt,((unhide hst).1.setCell (Nat.le_refl _) _).drew,World.rowIs.drew (((unhide hst).2.set i (.bool b)).congr fun v hv=>?_)⟩
    by_cases e:v=i
    ·subst e
     rw [if_pos rfl,← hb];simp
    ·rw [if_neg e,show decide (v < i + 1)=decide (v < i) by rw [decide_eq_decide];omega]
   have i0:(0:Int) ≤ (i:Int):=by omega
   have i1:(i:Int) < (n:Int):=by omega
   have i2:(i:Int) ≤ 50:=by omega
   have hsz:w.heap.size < wr.heap.size:=(unhide hst).2.lt
   have hwr:IntKind.i64.wrap ((i:Int) + 1)=(i:Int) + 1:=wrapS _ (by omega) (by omega)
   clear hst hb QT
   generalize hk:(2 * i:Nat)=k at *
   generalize w.heap.size=hs at *
   go_upto_region 5 with fail
   go_region_with (first | (go_at_call 95;(try rw [hwr]);refine (unhide QL _).mono ?_;rintro e7 w7 ⟨rfl,rfl⟩;simp only []) | (go_at_call 103;refine (unhide QI _ (by rfl)).mono ?_;rintro e7 w7 ⟨rfl,rfl⟩;simp only []))
   all_goals
    go_wp2
    go_roundw
    case rel=>exact unhide NX
    case measure=>simp [intOf];omega
  ·have ei:i=n:=by omega
   subst ei
   have FIN:Hid (Below w.heap.size w wr∧wr.rowIs w.heap.size 4 i (fun v=>.bool (decide (0 < tv tr (2 * v))))):=⟨(unhide hst).1,(unhide hst).2.congr fun v hv=>by simp [hv]⟩
   have i1:¬ ((i:Int) < (i:Int)):=by omega
   clear hst QT
   go_wp2
   go_ret
   exact ⟨rfl,unhide FIN⟩
end So
end Go.Proofs.YtceahffmenbibaaGreatDoor
namespace Go.Proofs.YtceahffmenbibaaGreatDoor
namespace So
open Go Go.RowKit Go.Deep Rd
def NleRet (w:World) (n:Nat) (e:Ending) (w':World):Prop:=∃ g1 g2,e=.returned (.agg #[.slice none 0 0,.slice (some ⟨g1,0,none⟩) n n,.slice (some ⟨g2,0,none⟩) n n])∧w.heap.size ≤ g1∧w.heap.size ≤ g2∧g1 ≠ g2∧Below w.heap.size w w'∧w'.rowIs g1 4 n (fun _=>.bool false)∧w'.rowIs g2 4 n (fun _=>.bool false)
theorem made2 (w:World) (ob:Obj) (z:Value) (t:TypeId) (a b:Nat):(((w.alloc ob).alloc (.cells (madeCells #[z] a) t)).alloc (.cells (madeCells #[z] b) t)).drew.rowIs (w.heap.size + 1) t a (fun _=>z)∧(((w.alloc ob).alloc (.cells (madeCells #[z] a) t)).alloc (.cells (madeCells #[z] b) t)).drew.rowIs (w.heap.size + 1 + 1) t b (fun _=>z)∧Below w.heap.size w (((w.alloc ob).alloc (.cells (madeCells #[z] a) t)).alloc (.cells (madeCells #[z] b) t)).drew:=by
 have r1:=World.rowIs_made (w.alloc ob) z a t
 have r2:=World.rowIs_made ((w.alloc ob).alloc (.cells (madeCells #[z] a) t)) z b t
 simp only [World.size_alloc] at r1 r2
 exact ⟨(r1.alloc _).drew,r2.drew,((((Below.refl _ w).alloc (Nat.le_refl _) _).alloc (by simp) _).alloc (by simp;omega) _).drew⟩
set_option maxHeartbeats 2000000 in
set_option maxRecDepth 100000 in
theorem newLesson_any (n:Nat) (hn:n ≤ 50) (w:World):Calls Tryz.prog 94 #[.int .i64 (n:Nat)] w fun e w'=>NleRet w n e w':=by
 have mk1:=run_make_row' (P:=Tryz.prog) 26 4 (.bool false) 1 Tryz.underlying26 Tryz.infoBoolV rfl .i64 .i64 n (by omega) (by omega)
 go_enter Tryz.func94,Tryz.ntmps94
 go_upto_region 1 with fail
 go_region_with (fail)
 ·go_wp2
  refine bodyPost_ret (v:=.agg #[.slice none 0 0,.slice (some ⟨w.heap.size + 1,0,none⟩) n n,.slice (some ⟨w.heap.size + 1 + 1,0,none⟩) n n]) (by simp [results,Tryz.results94,go_sem]) rfl ?_
  obtain ⟨a1,a2,a3⟩:=made2 w (.cells #[.slice none 0 0,.slice (some ⟨w.heap.size + 1,0,none⟩) n n,.slice (some ⟨w.heap.size + 1 + 1,0,none⟩) n n] 162 (0,0)) (.bool false) 4 n n
  exact ⟨w.heap.size + 1,w.heap.size + 1 + 1,rfl,by omega,by omega,by omega,a3,a1,a2⟩
 ·go_wp2
  refine bodyPost_ret (v:=.agg #[.slice none 0 0,.slice (some ⟨w.heap.size + 1 + 1,0,none⟩) n n,.slice (some ⟨w.heap.size + 1,0,none⟩) n n]) (by simp [results,Tryz.results94,go_sem]) rfl ?_
  obtain ⟨a1,a2,a3⟩:=made2 w (.cells #[.slice none 0 0,.slice (some ⟨w.heap.size + 1 + 1,0,none⟩) n n,.slice (some ⟨w.heap.size + 1,0,none⟩) n n] 162 (0,0)) (.bool false) 4 n n
  exact ⟨w.heap.size + 1 + 1,w.heap.size + 1,rfl,by omega,by omega,by omega,a3,a2,a1⟩
end So
end Go.Proofs.YtceahffmenbibaaGreatDoor
