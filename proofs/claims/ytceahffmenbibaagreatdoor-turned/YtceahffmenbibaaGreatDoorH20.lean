/- Sbac Scho Stry Lmath Slbw Sbeg. -/
import Derived.Test.YtceahffmenbibaaGreatDoorH04
import Derived.Test.YtceahffmenbibaaGreatDoorM00
set_option linter.unusedVariables false
set_option linter.unusedSimpArgs false
set_option maxHeartbeats 4000000
set_option maxRecDepth 100000
namespace Go.Proofs.YtceahffmenbibaaGreatDoor
namespace So
section
open Go Go.RowKit Go.Deep Rd
section
variable {Z:Nat->Prop} {sb ob hb K n:Nat} {w wr wx:World} {f f' V V':Nat->Value} {X X':Nat->List Value} {gone fB:Nat->Prop} {Rs Ro H9 Vg:Nat->Prop} {tr ch:List Nat} {lev:Nat->Nat} {rea:Nat->Int}
structure Ht (n:Nat) (X:Nat->List Value):Prop where
 n6:(X 6).length=n
 t6:∀ v,v < n->∃ x:Nat,(X 6)[v]? = some (.int .i64 (x:Nat))/\x / 2=v
theorem Ht.set (h:Ht n X) {v x:Nat} (b:x / 2=v):Ht n (upd X 6 ((X 6).set v (.int .i64 (x:Nat)))) where
 n6:=by rw [cz,List.length_set];exact h.n6
 t6:=fun u a=>by
  rw [cz];by_cases e:u=v
  ·subst e;exact ⟨x,List.getElem?_set_self (by rw [h.n6];exact a),b⟩
  ·rw [List.getElem?_set_ne (fun c=>e c.symm)];exact h.t6 u a
structure uP (Z:Nat->Prop) (sb ob hb n:Nat) (w:World) (K:Nat) (f V:Nat->Value) (X:Nat->List Value) (gone:Nat->Prop) (g1:Nat) (und:List Nat) (s i:Nat) (X':Nat->List Value) (Rs Ro:Nat->Prop) (wr:World):Prop where
 duo:Duo Z sb ob hb n wr K f V X' (fun v=>gone v/\∀ x ∈ und.take i,x / 2 ≠ v) Rs Ro
 lam:Ht n X'
 only:∀ k,k ≠ 6->X' k=X k
 cell:∀ j (hj:j < und.length),wr.cell? ⟨g1,s + j,none⟩=some (.int .i64 (und[j]:Nat))
 Yb:Rs g1
 WV:g1 < wr.heap.size
 eO:dB Z w wr
def WT (Z:Nat->Prop) (sb ob hb n:Nat) (w:World) (K:Nat) (f V:Nat->Value) (X:Nat->List Value) (gone:Nat->Prop) (g1:Nat) (und:List Nat) (s:Nat) (sv:Value) (wr:World):Prop:=
 ∃ (i:Nat) (X':Nat->List Value) (Rs Ro:Nat->Prop),sv=.int .i64 ((i:Nat):Int)/\i <= und.length/\Hid (uP Z sb ob hb n w K f V X gone g1 und s i X' Rs Ro wr)
def JN (Z:Nat->Prop) (sb ob hb n:Nat) (w:World) (K:Nat) (f V:Nat->Value) (X:Nat->List Value) (gone:Nat->Prop) (tr ch:List Nat) (lev:Nat->Nat) (rea:Nat->Int) (d s:Nat) (e:Ending) (w':World):Prop:=
 e=.returned (.tuple #[])/\dB Z w w'/\∃ (f' V':Nat->Value) (X':Nat->List Value) (Rs Ro:Nat->Prop),Duo Z sb ob hb n w' K f' V' X' (fun v=>gone v/\∀ x ∈ tr.drop s,x / 2 ≠ v) Rs Ro/\Ht n X'/\lU n X' (tr.take s) (ch.take d) lev rea/\f' 7=.int .i64 (s:Nat)/\(∀ j,j ≠ 6->j ≠ 7->j ≠ 8->f' j=f j)/\(∀ k,k ≠ 1->k ≠ 2->k ≠ 3->k ≠ 6->X' k=X k)/\∀ k,k ≠ 1->k ≠ 2->V' k=V k
variable {g1 s i:Nat} {und:List Nat}
theorem uP.mark (h:uP Z sb ob hb n w K f V X gone g1 und s i X' Rs Ro wr) {v x a r:Nat} (t:v < n) (l:x / 2=v) (o:V 6=.slice (some ⟨a,0,none⟩) n r) (e:zz Rs wr a) (c:a ≠ g1):uP Z sb ob hb n w K f V X gone g1 und s i (upd X' 6 ((X' 6).set v (.int .i64 (x:Nat)))) (fun g=>zz Rs wr g/\g < (wr.setCell ⟨a,v,none⟩ (.int .i64 (x:Nat))).heap.size) Ro (wr.setCell ⟨a,v,none⟩ (.int .i64 (x:Nat))):=by
 obtain ⟨q,p⟩:=h.duo.gK (h.duo.dF.set (k:=6) (by have:=h.duo.dF.hK;omega) o v (.int .i64 (x:Nat))) ((dB.refl _).setCell e _) rfl;have b:(wr.setCell ⟨a,v,none⟩ (.int .i64 (x:Nat))).heap.size=wr.heap.size:=by simp [World.setCell]
 exact ⟨q,h.lam.set l,fun k d=>by rw [cu _ _ d];exact h.only k d,fun j m=>by rw [World.cell?_setCell_far _ _ _ _ (by simpa using c)];exact h.cell j m,⟨.inl h.Yb,by rw [b];exact h.WV⟩,by rw [b];exact h.WV,h.eO.trans p⟩
theorem uP.waits (h:uP Z sb ob hb n w K f V X gone g1 und s i X' Rs Ro wr) (hi:i < und.length) {v:Nat} (m:und[i] / 2=v) (o:iP (zz Ro wr) ob hb n wx (fun u=>(gone u/\∀ x ∈ und.take i,x / 2 ≠ u)/\u ≠ v)) (k:dB (zz Ro wr) wr wx):uP Z sb ob hb n w K f V X gone g1 und s (i + 1) X' Rs (fun g=>zz Ro wr g/\g < wx.heap.size) wx:=by
 have d:iP (zz Ro wr) ob hb n wx (fun u=>gone u/\∀ x ∈ und.take (i + 1),x / 2 ≠ u):=o.congr fun u=>by
  rw [List.take_add_one,List.getElem?_eq_getElem hi,Option.toList_some];constructor
  ·rintro ⟨⟨l,c⟩,q⟩;refine ⟨l,fun x b=>?_⟩
   rcases List.mem_append.1 b with b | b
   ·exact c x b
   ·simp at b;subst b;rw [m];exact fun e=>q e.symm
  ·rintro ⟨l,c⟩;exact ⟨⟨l,fun x b=>c x (List.mem_append_left _ b)⟩,fun e=>c und[i] (List.mem_append_right _ (List.mem_singleton.2 rfl)) (by rw [m,e])⟩
 obtain ⟨t,r⟩:=h.duo.xS d k;refine ⟨t,h.lam,h.only,fun j p=>?_,h.Yb,Nat.lt_of_lt_of_le h.WV k.size,h.eO.trans r⟩;rw [World.cell?_of_block (w:=wr) (a:=⟨g1,s + j,none⟩) (k.block g1 h.WV fun e=>h.duo.za g1 h.Yb (iR h.WV e))];exact h.cell j p
theorem AZ {d:Nat} (D:Duo Z sb ob hb n w K f V X gone Rs Ro) (hn:n <= 50) (hT:lU n X tr ch lev rea) (y:jh n tr ch lev) (o:Ht n X) (hd:d < ch.length):
  Calls Tryz.prog 137 #[.pointer (some ⟨sb,0,none⟩),.int .i64 (d:Nat)] w fun e w'=>JN Z sb ob hb n w K f V X gone tr ch lev rea d ch[d] e w':=by
 have hK:=D.dF.hK;have tl:=y.len;have dl:=y.depth;have a:=y.iC.2 _ (List.getElem_mem hd);obtain ⟨s,hs⟩:∃ s,ch[d]=s:=⟨_,rfl⟩;rw [hs] at a ⊢;have QB:=hide (Rb d n s tr ch D.dF hT.l1 hT.l2 hd hs a hT.n3 y.lt hn (by omega) (by omega));have af:Hid (∀ e wb,DU (zz Rs w) sb w K f V X tr ch s d e wb->∃ (g1 c1:Nat) (c l:Nat->Value) (b:Nat->List Value) (G:Nat->Prop),e=.returned (.slice (some ⟨g1,s,none⟩) (tr.length - s) (c1 - s))/\uP Z sb ob hb n w K c l b gone g1 (tr.drop s) s 0 b G Ro wb/\lU n b (tr.take s) (ch.take d) lev rea/\c 7=.int .i64 (s:Nat)/\(∀ j,j ≠ 6->j ≠ 7->j ≠ 8->c j=f j)/\(∀ k,k ≠ 1->k ≠ 2->k ≠ 3->b k=X k)/\(∀ k,k ≠ 1->k ≠ 2->l k=V k)/\∃ p c6,l 6=.slice (some ⟨p,0,none⟩) n c6/\p ≠ g1):=fun e wb S=>by
  obtain ⟨g1,c1,g2,c2,e1,e2,he,hc,B,R⟩:=S;obtain ⟨d1,d2⟩:=D.gK R hc (by rw [cu _ _ (by decide),cu _ _ (by decide),cu _ _ (by decide)]);have hX:∀ k,k ≠ 1->k ≠ 2->k ≠ 3->upd (upd (upd X 3 (oW (X 3) (tr.drop s))) 1 (dw (tr.take s))) 2 (dw (ch.take d)) k=X k:=fun k h J h3=>by rw [cu _ _ J,cu _ _ h,cu _ _ h3]
  have q:g1 < w.heap.size:=((D.dF.eH.own 1 (by omega)).lt g1 (by rw [e1];rfl)).2;have an:zz Rs w g1:=D.dF.al 1 (by omega) g1 (by rw [e1];rfl);have N:0 < n:=by omega
  obtain ⟨p,c6,t6,L,-⟩:=D.dF.elem (k:=6) (j:=0) (by omega) o.n6 N;have t:p ≠ g1:=fun e=>by
   rcases D.dF.eH.apart 6 1 (by omega) (by omega) (by decide) with h | h
   ·rw [L] at h;cases h
   ·exact h (by rw [L,e1,e];rfl)
  refine ⟨g1,c1,_,_,_,(fun g=>zz Rs w g/\g < wb.heap.size),he,{
   duo:=by
    have e:(fun v=>gone v/\∀ x ∈ (tr.drop s).take 0,x / 2 ≠ v)=gone:=by funext v;simp
    rw [e];exact d1
   lam:=⟨by rw [hX 6 (by decide) (by decide) (by decide)];exact o.n6,by rw [hX 6 (by decide) (by decide) (by decide)];exact o.t6⟩
   only:=fun _ _=>rfl
   cell:=fun j hj=>by
    rw [List.length_drop] at hj;rw [B (s + j) (by omega),List.getElem_drop]
   Yb:=⟨an,Nat.lt_of_lt_of_le q hc.size⟩
   WV:=Nat.lt_of_lt_of_le q hc.size
   eO:=d2 },?_,by rw [cz],fun j h6 h7 h8=>by rw [cu _ _ h7,cu _ _ h8,cu _ _ h6],hX,fun k h J=>by rw [cu _ _ J,cu _ _ h],p,c6,by rw [cu _ _ (by decide),cu _ _ (by decide)];exact L,t⟩
  exact hT.back y (Nat.le_of_lt a) (by rw [cu _ _ (by decide),cz]) (by rw [cz]) (by rw [cu _ _ (by decide),cu _ _ (by decide),cz]) (hX 4 (by decide) (by decide) (by decide)) (hX 5 (by decide) (by decide) (by decide))
 have aq:Hid (∀ x ∈ tr.drop s,x < 2 * n):=fun x I=>y.lt x (List.mem_of_mem_drop I)
 have u:(tr.drop s).length=tr.length - s:=List.length_drop;have ah:tr.length - s <= 50:=by omega
 clear D hT y o hs;have ao:Hid (∀ (c l:Nat->Value) (b X2:Nat->List Value) E H wz g1 i,lU n b (tr.take s) (ch.take d) lev rea->c 7=.int .i64 (s:Nat)->(∀ j,j ≠ 6->j ≠ 7->j ≠ 8->c j=f j)->(∀ k,k ≠ 1->k ≠ 2->k ≠ 3->b k=X k)->(∀ k,k ≠ 1->k ≠ 2->l k=V k)->i=(tr.drop s).length->uP Z sb ob hb n w K c l b gone g1 (tr.drop s) s i X2 E H wz->JN Z sb ob hb n w K f V X gone tr ch lev rea d s (.returned (.tuple #[])) wz):=fun c l b X2 E H wz g1 i a1 a2 a3 a4 aV a5 a6=>by
  refine ⟨rfl,a6.eO,c,l,X2,E,H,?_,a6.lam,a1.congr fun k h J=>a6.only k (by omega),a2,a3,fun k h J h3 h6=>(a6.only k h6).trans (a4 k h J h3),aV⟩;have:=a6.duo;rw [a5,List.take_length] at this;exact this
 generalize JN Z sb ob hb n w K f V X gone tr ch lev rea d s=RR at *
 generalize tr.drop s=und at *
 have ae:=hide u;rw [<- u] at af ah;clear u;go_enter Tryz.func137,Tryz.ntmps137
 go_wp2_with (go_at_call 177;refine QB.out.mono ?_;intro e7 w7 T;obtain ⟨g1,c1,c,l,b,G,rfl,ad,Q,aa,W,O,P,p,c6,L,t⟩:=af.out e7 w7 T;have VV:=hide P;have S1:=hide ad;have T1:=hide Q;have F7:=hide aa;have FF:=hide W;have XX:=hide O;have E6:=hide L;clear T ad Q aa W O P L;simp only [])
 go_loopw [5,6,13] (fun _ _ r wr=>WT Z sb ob hb n w K c l b gone g1 und s r wr) (fun _ _ r _=>und.length - (intOf r).toNat)
 case atStart=>exact ⟨0,b,G,Ro,rfl,zl,S1⟩
 case round=>
  clear S1;obtain ⟨i,X',H9,Vg,rfl,au,a⟩:=hrel;by_cases z:i < und.length
  ·have ab:=a.out.cell i z;obtain ⟨x,I⟩:∃ x,x=und[i]:=⟨_,rfl⟩;rw [<- I] at ab;have ar:x < 2 * n:=by rw [I];exact aq.out _ (List.getElem_mem _)
   have QV:=hide (fun Y=>eQ x Y (by omega));obtain ⟨v,m⟩:∃ v,v=x / 2:=⟨_,rfl⟩;have hv:v < n:=by omega
   rw [<- m] at QV;have ap:und[i] / 2=v:=by rw [m,I]
   have q6:=(a.out.duo.dF.hd (k:=6) (by omega)).1;rw [show cellOf 6=13 from rfl,E6.out] at q6;obtain ⟨am,av,t6,C,ai,r6,s6,z6,ag,-⟩:=a.out.duo.dF.elem (k:=6) (j:=v) (by omega) a.out.lam.n6 hv;rw [E6.out] at C;obtain ⟨y1,_,y3⟩:=Value.slice.inj C;obtain rfl:p=am:=by have:=Option.some.inj y1;exact congrArg Addr.block this
   subst y3;have M:=hide (a.out.mark hv m.symm E6.out ag t);have v0:(0:Int) <= (v:Int):=by omega
   have v1:(v:Int) < (n:Int):=by omega
   have i0:(0:Int) <= (i:Int):=by omega
   have i1:(i:Int) < (und.length:Int):=by omega
   have i2:(i:Int) <= 50:=by omega
   have i3:(i:Int) < ((tr.length - s:Nat):Int):=by have:=ae.out;omega
   clear I m ai s6 y1 C a;go_upto_region 5 with (go_at_call 176;refine (QV.out _).mono ?_;rintro e9 w9 ⟨rfl,rfl⟩;simp only [])
   generalize ak:w9.setCell ⟨p,v,none⟩ (.int .i64 (x:Nat))=W2 at M ⊢;clear ak q6 r6 z6 ab;have QW:=hide (NG M.out.duo.ord hv hn);have aj:=(M.out.duo.dF.head 12 (by omega)).1;rw [M.out.duo.f12] at aj;have NX:=hide (fun wx ho hc=>M.out.waits (wx:=wx) z ap ho hc);clear M;go_wp2_with (go_at_call 178;refine QW.out.mono ?_;rintro eA wA ⟨rfl,ac,U⟩;have S3:=hide (NX.out wA U ac);clear ac U;simp only [])
   go_roundw
   case rel=>exact ⟨i + 1,_,_,_,by go_num,z,S3⟩
   case measure=>simp [intOf];omega
  ·have F:=hide (ao.out c l b X' H9 Vg wr g1 i T1.out F7.out FF.out XX.out VV.out (by omega) a.out);have i3:¬ ((i:Int) < ((tr.length - s:Nat):Int)):=by have:=ae.out;omega
   clear a;go_wp2;go_end0;exact F.out
end
section
variable {Z:Nat->Prop} {sb K:Nat} {w w':World} {f V:Nat->Value} {X:Nat->List Value}
theorem Jv (x vars:Nat) (M:x < 2 * vars) (b:vars <= 50) (h:dQ Z sb w K f V X) (S:(X 1).length <= 1000) (h2:(X 2).length <= 1000) (R:(X 3).length=2 * vars) (Q:(X 4).length=vars) (P:(X 5).length=vars):
  Calls Tryz.prog 147 #[.pointer (some ⟨sb,6,none⟩),.int .i64 x] w fun e w'=>e=.returned (.tuple #[])/\dB Z w w'/\∃ a l,dQ Z sb w' K (upd (upd f 8 a) 6 l) (upd (upd V 2 a) 1 l) (fq (upd X 2 (X 2 ++ [.int .i64 ((X 1).length:Nat)])) x (-1) ((X 2).length + 1)):=by
 obtain ⟨L,O,r,q,p⟩:=info_parts Tryz.fO;have HS:=hide h;have hK:=h.hK;have g:Hid (dQ Z sb w.drew K f V X):=h.later bR.drew;obtain ⟨a1,c1,C⟩:=h.eH.shape (k:=1) (by omega);obtain ⟨E,D,o⟩:=h.eH.shape (k:=2) (by omega);have J:=(h.hd (k:=1) (by omega)).1;have I:=(h.hd (k:=2) (by omega)).1;rw [show cellOf 1=6 from rfl,C] at J;rw [show cellOf 2=8 from rfl,o] at I;have Y:Hid (w.drew.ownsRow 0 3 1 (.slice E (X 2).length D) (X 2).length (X 2)):=by
  have:=g.out.eH.own 2 (by omega);rw [o] at this;exact this
 have E2:=hide o;have N:=h.row.lt;have ns:¬ (sb=w.heap.size):=by omega
 have BD:Hid (dB Z w w.drew):=(dB.refl _).drew;clear h C o;go_enter Tryz.func147,Tryz.ntmps147
 go_upto_region 0 with fail
 go_cut [] from 4 (fun wx=>∃ a,Hid (dQ Z sb wx K (upd f 8 a) (upd V 2 a) (upd X 2 (X 2 ++ [.int .i64 ((X 1).length:Nat)])))/\Hid (dB Z w wx))
 case first=>
  go_region_law
   (refine ik _ (by rfl) _ _ 43 (by rfl) 0 3 L (.int .i64 0) 1 8 Tryz.underlying43 O r q p (by rfl) (by decide) (.slice E (X 2).length D) (X 2).length (X 2) (by rfl) (Y.out.alloc (.cells #[.int .i64 ((X 1).length:Int)] 3)) (.slice (some ⟨w.heap.size,0,none⟩) 1 1) 1 [.int .i64 ((X 1).length:Int)] (by rfl) (.inr ⟨⟨w.heap.size,0,none⟩,1,rfl,(cell_one_new w.drew _ _)⟩) (by rfl) (by simp [Value.oneCell']) (by unfold maxLen;omega) (by omega) zl ?_;intro B z y;have j:dz (w.drew.alloc (.cells #[.int .i64 ((X 1).length:Int)] 3)) 0 (kM 2) 1 (V 2) (X 2).length (X 2) 1 [.int .i64 ((X 1).length:Int)] B z:=(by rw [E2.out];exact y);have u:=hide (g.out.push (k:=2) (m:=1) (news:=[.int .i64 ((X 1).length:Int)]) (by omega) rfl j);have v:=hide (BD.out.trans (g.out.nO (k:=2) (by omega) j 8 B));have K6:=(g.out.jQ (k:=2) (by omega) j 8 (by omega)).1;have K7:=(g.out.jQ (k:=2) (by omega) j 8 (by omega)).2;obtain ⟨H,G,t⟩:=dH y.own;subst t;clear y j)
  all_goals
   go_wp2_with fail
   go_meet;exact ⟨_,u,v⟩
 case rest=>
  obtain ⟨a,U,B1⟩:=hcut;have W:=hide (qg (w:=wc) x vars ((X 2).length + 1) (-1) M b U.out (by rw [cu _ _ (by decide)];exact S) (by rw [cz];simp) (by rw [cu _ _ (by decide)];exact R) (by rw [cu _ _ (by decide)];exact Q) (by rw [cu _ _ (by decide)];exact P));go_wp2_with fail
  with_reducible refine W.out.mono ?_
  rintro e6 z ⟨rfl,c,l,d⟩;have v:=hide (B1.out.trans c);have u:=hide d;clear c d;simp only [];go_wp2;go_end0;exact ⟨rfl,v.out,a,l,u.out⟩
end
section
variable {Z:Nat->Prop} {sb ob hb K n:Nat} {w wr wx:World} {f f' V V':Nat->Value} {X X':Nat->List Value} {gone fB:Nat->Prop} {Rs Ro H9 Vg:Nat->Prop} {tr ch:List Nat} {lev:Nat->Nat} {rea:Nat->Int}
theorem Om {d:Nat} (D:Duo Z sb ob hb n w K f V X gone Rs Ro) (c:lU n X tr ch lev rea) (hd:ch.length <= d) (b:d <= 1000):
  Calls Tryz.prog 137 #[.pointer (some ⟨sb,0,none⟩),.int .i64 (d:Nat)] w fun e w'=>e=.returned (.tuple #[])/\w=w':=by
 have j:=hide (UD d D.dF (by rw [c.l2,cZ];exact hd) b);clear D c;go_enter Tryz.func137,Tryz.ntmps137
 go_wp2_with (go_at_call 177;refine j.out.mono ?_;rintro k g ⟨rfl,rfl⟩;simp only [])
 rename_i l;go_loopw [5,6,13] (fun _ _ a wr=>a=.int .i64 0/\Hid (g=wr)) (fun _ _ a _=>0)
 case atStart=>exact ⟨rfl,rfl⟩
 case round=>
  obtain ⟨rfl,h⟩:=hrel;go_wp2;go_end0;exact ⟨rfl,h.out⟩
def vS (w:World) (ob n:Nat):Nat:=match w.cell? ⟨ob,1,none⟩ with
 | some (.slice (some a) _ _)=>((List.range n).filter fun v=>decide (kJ w ⟨a.block,v,none⟩ ≠ -1)).length
 | _=>0
theorem iP.waits {Z:Nat->Prop} (h:iP Z ob hb n w gone) (o:0 < n):∃ p:Nat->Bool,(∀ v,v < n->(p v=true↔¬ gone v))/\vS w ob n=((List.range n).filter p).length:=by
 obtain ⟨t,V,X,b,u,z,g,j,x,c⟩:=h.ex;obtain ⟨k,y,e,_⟩:=j.place g o;refine ⟨fun v=>decide (kJ w ⟨k,v,none⟩ ≠ -1),fun v m=>?_,by unfold vS;rw [e]⟩;obtain ⟨d,r,a,l⟩:=j.place g m;rw [e] at a;obtain ⟨q,_,_⟩:=Value.slice.inj (Option.some.inj a);obtain rfl:k=d:=by have:=Option.some.inj q;exact congrArg Addr.block this
 rw [decide_eq_true_iff,<- c v];unfold kJ;rw [l];rfl
theorem Gm {n d:Nat} {p q:Nat->Bool} (l:d < n) (j:p d=true) (h:q d=false) (e:∀ v,v < n->q v=true->p v=true):((List.range n).filter q).length < ((List.range n).filter p).length:=by
 induction n with
 | zero=>omega
 | succ n ih=>
  rw [List.range_succ,List.filter_append,List.filter_append,List.length_append,List.length_append];have g:∀ m,m <= n->((List.range m).filter q).length <= ((List.range m).filter p).length:=by
   intro m
   induction m with
   | zero=>intro _;simp
   | succ m Zi=>
    intro r;have:=Zi (by omega);rw [List.range_succ,List.filter_append,List.filter_append,List.length_append,List.length_append];have c:=e m (by omega);cases b:q m
    ·simp [b];omega
    ·simp [b,c b];omega
  rcases Nat.lt_succ_iff_lt_or_eq.1 l with c | c
  ·have:=ih c (fun v o=>e v (by omega));have k:=e n (by omega);cases a:q n
   ·simp [a];omega
   ·simp [a,k a];omega
  ·subst c;have:=g d lr;simp [j,h];omega
structure XP (Z:Nat->Prop) (sb ob hb n:Nat) (w:World) (K:Nat) (f V:Nat->Value) (X:Nat->List Value) (tr:List Nat) (gone:Nat->Prop) (Rs Ro:Nat->Prop) (wr:World):Prop where
 duo:Duo Z sb ob hb n wr K f V X gone Rs Ro
 rY:∀ v,v < n->gone v->∃ x ∈ tr,x / 2=v
 eO:dB Z w wr
def Vd (Z:Nat->Prop) (sb ob hb n:Nat) (w:World) (K:Nat) (f V:Nat->Value) (X:Nat->List Value) (tr:List Nat) (wr:World):Prop:=
 ∃ (gone Rs Ro:Nat->Prop),Hid (XP Z sb ob hb n w K f V X tr gone Rs Ro wr)
def Rl (Z:Nat->Prop) (sb ob hb n:Nat) (w:World) (K:Nat) (f V:Nat->Value) (X:Nat->List Value) (tr ch:List Nat) (e:Ending) (w':World):Prop:=
 dB Z w w'/\((e=.returned (.bool false)/\(∀ v,v < n->∃ x ∈ tr,x / 2=v)/\∃ gone Rs Ro,Duo Z sb ob hb n w' K f V X gone Rs Ro) \/
  ∃ (x:Nat) (gone Rs Ro:Nat->Prop) (v2 v1:Value),e=.returned (.bool true)/\x < 2 * n/\tv tr x=0/\(∀ v,v < n->gone v->∃ y ∈ tr ++ [x],y / 2=v)/\Duo Z sb ob hb n w' K (upd (upd f 8 v2) 6 v1) (upd (upd V 2 v2) 1 v1) (fq (upd X 2 (X 2 ++ [.int .i64 ((X 1).length:Nat)])) x (-1) ((X 2).length + 1)) gone Rs Ro)
theorem EN {x:Nat} (h:tv tr x ≠ 0):∃ y ∈ tr,y / 2=x / 2:=by
 unfold tv at h;split at h
 ·exact ⟨x,by assumption,rfl⟩
 ·split at h
  ·exact ⟨op x,by assumption,gG x⟩
  ·exact absurd rfl h
theorem Cj (D:Duo Z sb ob hb n w K f V X gone Rs Ro) (hn:n <= 50) (hT:lU n X tr ch lev rea) (ht:jh n tr ch lev) (S:Ht n X) (o:∀ v,v < n->gone v->∃ x ∈ tr,x / 2=v):
  Calls Tryz.prog 102 #[.pointer (some ⟨sb,0,none⟩)] w fun e w'=>Rl Z sb ob hb n w K f V X tr ch e w':=by
 have S0:Hid (XP Z sb ob hb n w K f V X tr gone Rs Ro w):=⟨D,o,dB.refl _⟩;have hK:=D.dF.hK;have E:=hide hT;have T:=hide S;have tl:=ht.len;have dl:=ht.depth;clear D hT ht S o;go_enter Tryz.func102,Tryz.ntmps102
 go_wp2_with fail
 go_loopw [2,3,4] (fun _ _ _ wr=>Vd Z sb ob hb n w K f V X tr wr) (fun _ _ _ wr=>vS wr ob n)
 case atStart=>exact ⟨gone,Rs,Ro,S0⟩
 case round=>
  clear S0;obtain ⟨gn,H9,Vg,a⟩:=hrel;have QN:=hide (yt a.out.duo.ord hn);have z:=(a.out.duo.dF.head 12 (by omega)).1;rw [a.out.duo.f12] at z
  go_upto_region 2 with (go_at_call 146;refine QN.out.mono ?_;rintro e7 g ⟨R,ab⟩;have W:=hide R;clear R;rcases ab with ⟨rfl,r,I⟩ | ⟨v,rfl,l,P,I⟩ <;> simp only [])
  ·have F:Hid (Rl Z sb ob hb n w K f V X tr ch (.returned (.bool false)) g):=by
    obtain ⟨t,J⟩:=a.out.duo.xS I W.out;exact ⟨a.out.eO.trans J,.inl ⟨rfl,fun v hv=>a.out.rY v hv (r v hv),_,_,_,t⟩⟩
   clear a r I QN W z;go_wp2;go_ret;exact F.out
  ·obtain ⟨t,J⟩:=a.out.duo.xS I W.out;have D1:=hide t;have C1:Hid (dB Z w g):=a.out.eO.trans J;have WN:Hid (vS g ob n < vS wr ob n):=by
    obtain ⟨p,hp,ep⟩:=a.out.duo.ord.waits (by omega);obtain ⟨q,hq,eq⟩:=I.waits (by omega);unfold Hid;rw [ep,eq];refine Gm l ((hp v l).2 P) ?_ fun u H ac=>(hp u H).2 fun c=>(hq u H).1 ac (.inl c)
    cases e:q v with
    | false=>rfl
    | true=>exact absurd (.inr rfl) ((hq v l).1 e)
   obtain ⟨g6,c6,t6,e6,q6,r6,s6,-⟩:=t.dF.elem (k:=6) (j:=v) (by omega) T.out.n6 l;rw [show cellOf 6=13 from rfl] at q6;obtain ⟨x,hx,M⟩:=T.out.t6 v l;rw [hx] at s6;obtain rfl:=Option.some.inj s6;have h:x < 2 * n:=by omega
   obtain ⟨g3,c3,t3,e3,q3,r3,s3,-⟩:=t.dF.elem (k:=3) (j:=x) (by omega) E.out.n3 h;rw [show cellOf 3=9 from rfl] at q3;rw [E.out.t3 x h] at s3;obtain rfl:=Option.some.inj s3;have QO:Hid (∀ j,Calls Tryz.prog 135 #[.pointer (some ⟨sb,6,none⟩),.int .i64 (x:Nat)] (g.drewN j) fun e w'=>e=.returned (.bool (tv tr x == 0))/\w'=g.drewN j):=fun j=>tF sb 6 g3 (2 * n) c3 x (tv tr x) (g.drewN j) q3 h r3
   have ag:Hid (∀ u,u < n->(gn u\/u=v)->∃ y ∈ tr ++ [x],y / 2=u):=fun u H c=>by
    rcases c with c | c
    ·obtain ⟨y,hy,e⟩:=a.out.rY u H c;exact ⟨y,List.mem_append_left _ hy,e⟩
    ·exact ⟨x,by simp,by rw [M,c]⟩
   have af:Hid (tv tr x ≠ 0->∀ u,u < n->(gn u\/u=v)->∃ y ∈ tr,y / 2=u):=fun ad u H c=>by
    rcases c with c | c
    ·exact a.out.rY u H c
    ·obtain ⟨y,hy,e⟩:=EN ad;exact ⟨y,hy,by rw [e,M,c]⟩
   have v0:(0:Int) <= (v:Int):=by omega
   have L:(v:Int) < (n:Int):=by omega
   clear a t J I QN W z e6 e3 P;obtain ⟨b,hb,HB⟩:∃ b,(tv tr x == 0)=b/\Hid (b=true↔tv tr x=0):=⟨_,rfl,by unfold Hid;exact beq_iff_eq⟩;rw [hb] at QO;clear hb;go_upto_region 4 with fail
   go_quiet ((go_at_call 135;exact Calls.quiet_of_same (QO.out _)))
   obtain ⟨d,m⟩:∃ d,d=g.drewN nq:=⟨_,rfl⟩;have C:Below g.heap.size g d:=by rw [m];exact Go.below_drewN bR _
   have B:d.heap=g.heap:=by rw [m];rfl
   have M1:Hid (vS d ob n=vS g ob n):=by unfold Hid vS kJ;simp only [eX B]
   rw [<- m];have Y:=hide (D1.out.later C);have C2:Hid (dB Z w d):=C1.out.trans (dB.of_below C);rw [<- eX B] at q6 r6;clear m C B D1 C1 QO q3 r3
   cases b with
   | false=>
    have NX:Hid (Vd Z sb ob hb n w K f V X tr d):=⟨_,_,_,Y.out,af.out (fun e=>by have:=HB.out.2 e;cases this),C2.out⟩;clear Y C2 q6 r6;go_wp2;go_roundw
    case rel=>exact NX.out
    case measure=>rw [M1.out];exact WN.out
   | true=>
    have O:=HB.out.1 rfl;have l1:(X 1).length=tr.length:=by rw [E.out.l1,cZ]
    have l2:(X 2).length=ch.length:=by rw [E.out.l2,cZ]
    have D3:=hide (Y.out.later (w':=d.drew) bR.drew);have QC:=hide (Jv (w:=d.drew) x n h hn D3.out.dF (by omega) (by omega) E.out.n3 E.out.n4 E.out.n5);have ae:Hid (∀ U (G L:Value),dB (zz H9 d.drew) d.drew U->dQ (zz H9 d.drew) sb U K (upd (upd f 8 G) 6 L) (upd (upd V 2 G) 1 L) (fq (upd X 2 (X 2 ++ [.int .i64 ((X 1).length:Nat)])) x (-1) ((X 2).length + 1))->Rl Z sb ob hb n w K f V X tr ch (.returned (.bool true)) U):=fun U G L hc hs=>by
     obtain ⟨t,J⟩:=D3.out.gK hs hc (by rw [cu _ _ (by decide),cu _ _ (by decide)]);exact ⟨(C2.out.drew).trans J,.inr ⟨x,_,_,_,G,L,rfl,h,O,ag.out,t⟩⟩
    clear Y C2 D3 l1 l2 O;go_upto_region 5 with fail
    go_region_with (go_at_call 147;refine QC.out.mono ?_;rintro e8 w8 ⟨rfl,Q,G,aa,N⟩;have F8:=hide (ae.out w8 G aa Q N);clear Q N;simp only [])
    all_goals
     go_wp2;go_ret
     exact F8.out
end
end
end So
end Go.Proofs.YtceahffmenbibaaGreatDoor
namespace Go.Proofs.YtceahffmenbibaaGreatDoor
namespace Lb
def Ia (i k:Nat):Prop:=1 <= k/\2 ^ (k - 1) <= i/\i < 2 ^ k
def lub:Nat->Nat->Nat
 | 0,_=>0
 | f + 1,i=>if i + 1=2 ^ (Lib.bitLen i) then 2 ^ (Lib.bitLen i - 1) else lub f (i - (2 ^ (Lib.bitLen i - 1) - 1))
theorem lh {i k j:Nat} (c:Ia i k) (b:Ia i j):k=j:=by
 obtain ⟨r,q,p⟩:=c;obtain ⟨o,m,l⟩:=b;have e:2 ^ (k - 1) < 2 ^ j:=by omega
 have d:2 ^ (j - 1) < 2 ^ k:=by omega
 have h:=(Nat.pow_lt_pow_iff_right (a:=2) (by omega)).1 e;have g:=(Nat.pow_lt_pow_iff_right (a:=2) (by omega)).1 d;omega
theorem ku {k:Nat} (h:1 <= k):2 ^ k=2 * 2 ^ (k - 1):=by
 obtain ⟨j,rfl⟩:=Nat.exists_eq_add_of_le h;rw [show 1 + j=j + 1 by omega,Nat.pow_succ,Nat.add_sub_cancel];omega
theorem nW {i k:Nat} (d:1 <= i) (h:Ia i k) (e:¬ i + 1=2 ^ k):1 <= i - (2 ^ (k - 1) - 1)/\i - (2 ^ (k - 1) - 1) < i:=by
 obtain ⟨a,j,g⟩:=h;have p:=ku a;have b:1 <= 2 ^ (k - 1):=Nat.one_le_two_pow;by_cases c:2 ^ (k - 1)=1
 ·omega
 ·omega
theorem xx (k:Nat):((2 ^ k:Nat):Int)=(2:Int) ^ k:=by simp
end Lb
end Go.Proofs.YtceahffmenbibaaGreatDoor
namespace Go.Proofs.YtceahffmenbibaaGreatDoor
namespace Lw
section
open Go Go.RowKit
section
open Lb (Ia lub lh ku nW xx)
theorem hide {p:Prop} (h:p):Hid p:=h
theorem jU {p:Prop} (h:Hid p):p:=h.out
theorem nK {i:Nat} (b:1 <= i) (a:i <= 134217727):Ia i (Lib.bitLen i):=by
 have h:=Lib.bitLenAux_bounds 64 i (by omega) (by omega);exact h
theorem Wd {i k:Nat} (c:i <= 134217727) (h:Ia i k):k <= 27:=by
 obtain ⟨j,g,e⟩:=h;have b:2 ^ (k - 1) < 2 ^ 27:=by omega
 have d:=(Nat.pow_lt_pow_iff_right (a:=2) (by omega)).1 b;omega
theorem Ka {f i k:Nat} (c:1 <= i) (b:i <= 134217727) (h:Ia i k) (e:i + 1=2 ^ k):lub (f + 1) i=2 ^ (k - 1):=by
 have a:=lh h (nK c b);simp only [lub];rw [<- a,if_pos e]
theorem Fe {f i k:Nat} (c:1 <= i) (b:i <= 134217727) (h:Ia i k) (e:¬ i + 1=2 ^ k):lub (f + 1) i=lub f (i - (2 ^ (k - 1) - 1)):=by
 have a:=lh h (nK c b);simp only [lub];rw [<- a,if_neg e]
theorem VG {k:Nat} (h:k <= 27):(2:Int) ^ k <= 134217728/\1 <= (2:Int) ^ k:=by
 have b:2 ^ k <= 2 ^ 27:=Nat.pow_le_pow_right (by omega) h;have a:1 <= 2 ^ k:=Nat.one_le_two_pow;have e:=xx k;omega
theorem TA {g i k v:Nat} (d:lub (g + 1) i=v) (c:1 <= i) (b:i <= 134217727) (a:Ia i k) (h:((i:Int) == 2 * 2 ^ (k - 1) - 1)=true):(v:Int)=2 ^ (k - 1):=by
 have p:=ku a.1;have q:=xx (k - 1);have e:1 <= 2 ^ (k - 1):=Nat.one_le_two_pow;have j:(i:Int)=2 * 2 ^ (k - 1) - 1:=by simpa using h
 rw [<- d,Ka c b a (by omega),q]
theorem Pb {g i k v:Nat} (l:lub (g + 1) i=v) (c:1 <= i) (d:i <= 134217727) (r:i <= g + 1) (a:Ia i k) (h:((i:Int) == 2 * 2 ^ (k - 1) - 1)=false):
  ∃ j:Nat,(i:Int) - (2 ^ (k - 1) - 1)=(j:Int)/\1 <= j/\j <= g/\j <= 134217727/\lub g j=v/\j < i:=by
 have p:=ku a.1;have q:=xx (k - 1);have o:1 <= 2 ^ (k - 1):=Nat.one_le_two_pow;have t:¬ (i:Int)=2 * 2 ^ (k - 1) - 1:=by simpa using h
 have e:¬ i + 1=2 ^ k:=by omega
 have b:=nW c a e;have m:=a.2.1;refine ⟨i - (2 ^ (k - 1) - 1),by omega,b.1,by omega,by omega,?_,b.2⟩;rw [<- l,Fe c d a e]
theorem GY (x:Int) (w:World) (b:0 <= x) (a:x <= 134217727):
  Calls Tryz.prog 120 #[.int .u64 x] w fun e w'=>e=.returned (.int .i64 (Lib.bitLen x.toNat))/\w'=w:=by
 go_enter Tryz.func120,Tryz.ntmps120
 go_wp2_with (go_at_call 170;refine (Ub x _ b a).mono ?_;rintro e w' ⟨rfl,rfl⟩)
 go_ret
 exact ⟨rfl,rfl⟩
theorem Nk (i k:Nat) (w:World) (c:1 <= i) (b:i <= 134217727) (a:Ia i k):
  Calls Tryz.prog 120 #[.int .u64 i] w fun e w'=>e=.returned (.int .i64 k)/\w'=w:=by
 refine (GY i w (by omega) (by omega)).mono ?_;rintro e w' ⟨rfl,rfl⟩;have e:=lh a (nK c b);rw [Int.toNat_natCast,<- e];exact ⟨rfl,rfl⟩
theorem yG (n:Nat) (w:World) (v:1 <= n) (u:n <= 134217727):
  Calls Tryz.prog 78 #[.int .i64 n] w fun e w'=>e=.returned (.int .i64 (lub n n))/\w'=w:=by
 go_enter Tryz.func78,Tryz.ntmps78
 go_wp2;go_loop [0] (fun t=>∃ f i:Nat,t=.int .i64 i/\1 <= i/\i <= f/\i <= 134217727/\lub f i=lub n n) (fun t=>(intOf t).toNat)
 case atStart=>exact ⟨n,n,rfl,v,lr,u,rfl⟩
 case round=>
  obtain ⟨f,i,rfl,b,d,a,l⟩:=hrel;obtain ⟨g,rfl⟩:∃ g,f=g + 1:=⟨f - 1,by omega⟩;obtain ⟨k,c⟩:∃ k,Ia i k:=⟨_,nK b a⟩;have o:=hide l;clear l;have h:=hide c;have m:=Wd a c;obtain ⟨r,q,p⟩:=c;have C:=VG (k:=k - 1) (by omega);have D:((k:Int) - 1).toNat=k - 1:=by omega
  go_wp2_with (go_at_call 120;refine (Nk i k _ b a h.out).mono ?_;rintro e w' ⟨rfl,rfl⟩)
  ·go_ret
   exact ⟨congrArg Ending.returned (congrArg (Value.int IntKind.i64) (TA o.out b a h.out ‹_›).symm),rfl⟩
  ·obtain ⟨j,e,B,z,y,x,E⟩:=Pb o.out b a d h.out ‹_›;rw [e];exact ⟨⟨g,j,rfl,B,z,y,x⟩,by simp [intOf];omega⟩
end
end
end Lw
end Go.Proofs.YtceahffmenbibaaGreatDoor
namespace Go.Proofs.YtceahffmenbibaaGreatDoor
namespace So
section
open Go Go.RowKit Go.Deep Rd
section
variable {Z:Nat->Prop} {sb ob hb K n:Nat} {w:World} {f V:Nat->Value} {X:Nat->List Value} {gone:Nat->Prop} {Rs Ro:Nat->Prop} {tr ch:List Nat} {lev:Nat->Nat} {rea:Nat->Int}
theorem IV:∀ (g i:Nat),1 <= i->i <= 134217727->Lb.lub g i <= i
 | 0,i,_,_=>zl
 | g + 1,i,h1,h2=>by
  have a:=Lw.nK h1 h2;by_cases e:i + 1=2 ^ (Lib.bitLen i)
  ·rw [Lw.Ka h1 h2 a e];exact a.2.1
  ·rw [Lw.Fe h1 h2 a e];have b:=Lb.nW h1 a e;exact Nat.le_trans (IV g _ b.1 (by omega)) (by omega)
structure JO (Z:Nat->Prop) (sb ob hb n:Nat) (w:World) (K:Nat) (f V:Nat->Value) (X:Nat->List Value) (gone:Nat->Prop) (tr ch:List Nat) (lev:Nat->Nat) (rea:Nat->Int) (w1:World) (f1 V1:Nat->Value) (X1:Nat->List Value) (BO YU Yj:Nat->Prop) (s:Nat):Prop where
 eO:dB Z w w1
 duo:Duo Z sb ob hb n w1 K f1 V1 X1 BO YU Yj
 lam:Ht n X1
 gB:lU n X1 (tr.take s) [] lev rea
 how:(ch=[]/\s=tr.length/\BO=gone/\f1 7=f 7)\/∃ h:0 < ch.length,s=ch[0]/\BO=(fun v=>gone v/\∀ x ∈ tr.drop s,x / 2 ≠ v)/\f1 7=.int .i64 (s:Nat)
 kf:∀ j,j ≠ 6->j ≠ 7->j ≠ 8->f1 j=f j
 kx:∀ k,k ≠ 1->k ≠ 2->k ≠ 3->k ≠ 6->X1 k=X k
 kv:∀ k,k ≠ 1->k ≠ 2->V1 k=V k
theorem Ov (D:Duo Z sb ob hb n w K f V X gone Rs Ro) (y:n <= 50) (k:lU n X tr ch lev rea) (x:jh n tr ch lev) (g:Ht n X):
  Calls Tryz.prog 137 #[.pointer (some ⟨sb,0,none⟩),.int .i64 ((0:Nat):Int)] w fun e j=>e=.returned (.tuple #[])/\∃ l o m a b d s,JO Z sb ob hb n w K f V X gone tr ch lev rea j l o m a b d s:=by
 by_cases h:0 < ch.length
 ·refine (AZ D y k x g h).mono ?_;rintro e j ⟨rfl,c,l,o,m,b,d,B,r,q,z,v,t,u⟩;exact ⟨rfl,l,o,m,_,b,d,ch[0],c,B,r,q,.inr ⟨h,rfl,rfl,z⟩,v,t,u⟩
 ·have p:ch=[]:=List.eq_nil_of_length_eq_zero (by omega);refine (Om D k (by omega) (by omega)).mono ?_;rintro e j ⟨rfl,rfl⟩;exact ⟨rfl,f,V,X,gone,Rs,Ro,tr.length,dB.refl _,D,g,by rw [List.take_length,<- p];exact k,.inl ⟨p,rfl,rfl,rfl⟩,fun _ _ _ _=>rfl,fun _ _ _ _ _=>rfl,fun _ _ _=>rfl⟩
def RV (Z:Nat->Prop) (sb ob hb n:Nat) (w:World) (K:Nat) (f V:Nat->Value) (X:Nat->List Value) (gone:Nat->Prop) (tr ch:List Nat) (lev:Nat->Nat) (rea:Nat->Int) (r:Nat) (e:Ending) (w':World):Prop:=
 e=.returned (.tuple #[])/\dB Z w w'/\∃ (w1:World) (f1 V1:Nat->Value) (X1:Nat->List Value) (BO YU Yj:Nat->Prop) (s:Nat),JO Z sb ob hb n w K f V X gone tr ch lev rea w1 f1 V1 X1 BO YU Yj s/\∃ Yi,Duo Z sb ob hb n w' K (upd (upd f1 20 (.int .i64 ((r + 1:Nat):Int))) 21 (.int .i64 ((50 * Lb.lub (r + 1) (r + 1):Nat):Int))) V1 X1 BO Yi Yj
theorem vK (k:Nat) (a:k < 13):cellOf k ≠ 20/\cellOf k ≠ 21:=by
 have:∀ k,k < 13->cellOf k ≠ 20/\cellOf k ≠ 21:=by decide
 exact this k a
theorem Nl {r:Nat} (D:Duo Z sb ob hb n w K f V X gone Rs Ro) (E:n <= 50) (z:lU n X tr ch lev rea) (y:jh n tr ch lev) (l:Ht n X) (m:f 20=.int .i64 (r:Nat)) (R:r < 134217727):
  Calls Tryz.prog 97 #[.pointer (some ⟨sb,0,none⟩)] w fun e w'=>RV Z sb ob hb n w K f V X gone tr ch lev rea r e w':=by
 have N:=hide (Ov D E z y l);have G:=IV (r + 1) (r + 1) (by omega) (by omega);have M:Hid (∀ Y,Calls Tryz.prog 78 #[.int .i64 ((r:Int) + 1)] Y fun e w'=>e=.returned (.int .i64 ((Lb.lub (r + 1) (r + 1):Nat):Int))/\w'=Y):=fun Y=>Lw.yG (r + 1) Y (by omega) (by omega)
 have h:Hid (∀ g j p o a c d s,JO Z sb ob hb n w K f V X gone tr ch lev rea g j p o a c d s->g.cell? ⟨sb,20,none⟩=some (.int .i64 (r:Nat))/\g.frozen? ⟨sb,20,none⟩=false/\g.frozen? ⟨sb,21,none⟩=false/\(∃ u,g.cell? ⟨sb,21,none⟩=some u)/\sb < g.heap.size/\(g.setCell ⟨sb,20,none⟩ (.int .i64 ((r + 1:Nat):Int))).cell? ⟨sb,20,none⟩=some (.int .i64 ((r + 1:Nat):Int))/\RV Z sb ob hb n w K f V X gone tr ch lev rea r (.returned (.tuple #[])) ((g.setCell ⟨sb,20,none⟩ (.int .i64 ((r + 1:Nat):Int))).setCell ⟨sb,21,none⟩ (.int .i64 ((50 * Lb.lub (r + 1) (r + 1):Nat):Int)))):=fun g j p o a c d s A=>by
  have b:=A.duo.dF.row;have v:j 20=.int .i64 (r:Nat):=by rw [A.kf 20 (by decide) (by decide) (by decide)];exact m
  obtain ⟨q,J⟩:=A.duo.gK (A.duo.dF.scalar 20 (.int .i64 ((r + 1:Nat):Int)) fun k t=>(vK k t).1) ((dB.refl _).setCell A.duo.dF.jf _) (by rw [cu _ _ (by decide)]);obtain ⟨H,I⟩:=q.gK (q.dF.scalar 21 (.int .i64 ((50 * Lb.lub (r + 1) (r + 1):Nat):Int)) fun k t=>(vK k t).2) ((dB.refl _).setCell q.dF.jf _) (by rw [cu _ _ (by decide)]);refine ⟨by rw [b.cell (by decide),v],b.frozen 20,b.frozen 21,⟨_,b.cell (i:=21) (by decide)⟩,b.lt,?_,rfl,(A.eO.trans J).trans I,g,j,p,o,a,c,d,s,A,_,H⟩;have:=q.dF.row.cell (i:=20) (by decide);rw [cz] at this;exact this
 clear D z y l m;generalize Lb.lub (r + 1) (r + 1)=L at *
 rw [show ((50 * L:Nat):Int)=50 * (L:Int) by omega] at h;rw [show ((r + 1:Nat):Int)=(r:Int) + 1 by omega] at h;have P:(L:Int) <= 134217727:=by omega
 have Q:(0:Int) <= (L:Int):=by omega
 go_enter Tryz.func97,Tryz.ntmps97
 go_wp2_with (first | (go_at_call 137;refine N.out.mono ?_;rintro T C ⟨rfl,j,p,o,a,c,d,s,A⟩;obtain ⟨a1,a2,a3,⟨u4,a4⟩,W,U,B⟩:=h.out C j p o a c d s A;have x:=hide B;clear B A;simp only []) | (go_at_call 78;refine (M.out _).mono ?_;rintro S O ⟨rfl,rfl⟩;simp only []))
 go_end0
 exact x.out
end
end
end So
end Go.Proofs.YtceahffmenbibaaGreatDoor
