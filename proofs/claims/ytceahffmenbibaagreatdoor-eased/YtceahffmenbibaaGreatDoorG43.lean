/- Kcla Keas Keal. -/
import Derived.Test.YtceahffmenbibaaGreatDoorG33
import Derived.Test.YtceahffmenbibaaGreatDoorG40
import Derived.Laws.OwnMore
set_option linter.unusedVariables false
set_option linter.unusedSimpArgs false
set_option maxHeartbeats 4000000
set_option maxRecDepth 100000
namespace Go.Proofs.YtceahffmenbibaaGreatDoor
namespace Kp
section
open Go Go.RowKit Go.Deep Rd Go.Proofs.YtceahffmenbibaaGreatDoor.So
def lits (vars:Nat):Nat->Nat->Cl
 | _,0=>[]
 | c,n + 1=>(if c / 4 / vars % 2=1 then -((1 + c / 4 % vars:Nat):Int) else ((1 + c / 4 % vars:Nat):Int)) :: lits vars (c / 4 / vars) n
def rE (vars:Nat) (r:Int):Cl:=lits vars (jk r 1152921504606846976) (1 + jk r 1152921504606846976 % 4)
def lD (raw:List Int) (vars most:Nat):List Cl:=(raw.take most).map (rE vars)
theorem jN (vars:Nat):∀ n c,(lits vars c n).length=n
 | 0,_=>rfl
 | n + 1,c=>by simp [lits,jN vars n]
theorem Kv {vars:Nat} (a:0 < vars):∀ n c,∀ x ∈ lits vars c n,mQ vars x
 | 0,_,x,h=>by cases h
 | n + 1,c,x,h=>by
  rcases List.mem_cons.1 h with rfl | h
  ·have:=Nat.mod_lt (c / 4) a;unfold mQ;split <;> omega
  ·exact Kv a n _ x h
def Xj (us:List Value):Prop:=∀ (i j:Nat) u v,us[i]? = some u->us[j]? = some v->i ≠ j->u.ownBlock=none\/u.ownBlock ≠ v.ownBlock
theorem Xj.snoc {us:List Value} {u:Value} (h:Xj us) (k:∀ (j:Nat) v,us[j]? = some v->v.ownBlock=none\/v.ownBlock ≠ u.ownBlock):Xj (us ++ [u]):=by
 intro i j x y d c f;have m:=(List.getElem?_eq_some_iff.1 d).1;have l:=(List.getElem?_eq_some_iff.1 c).1;simp at m l;by_cases a:i < us.length
 ·rw [List.getElem?_append_left a] at d;by_cases b:j < us.length
  ·rw [List.getElem?_append_left b] at c;exact h i j x y d c f
  ·have:j=us.length:=by omega
   subst this;simp at c;subst c;exact k i x d
 ·have:i=us.length:=by omega
  subst this;simp at d;subst d;rw [List.getElem?_append_left (by omega)] at c
  rcases k j y c with e | e
  ·cases n:u.ownBlock with
   | none=>exact .inl rfl
   | some g=>exact .inr (by rw [e];simp)
  ·exact .inr (fun h=>e h.symm)
theorem Hf (w:World) (rb off rc:Nat) (f:List Int) (vars m:Nat) (I:∀ i (hi:i < f.length),w.cell? ⟨rb,off + i,none⟩=some (.int .i64 f[i])) (hr:∀ x ∈ f,-9223372036854775808 <= x/\x <= 9223372036854775807) (ra:Option Addr) (aa:0 < f.length->ra=some ⟨rb,off,none⟩) (hv:0 < vars) (ar:vars <= 50) (hm:m <= 1000):
  Calls Tryz.prog 23 #[.slice ra f.length rc,.int .i64 (vars:Nat),.int .i64 (m:Nat)] w fun e V=>∃ v us,e=.returned v/\gQ 43 3 w.heap.size V v (.slice none 0 0) us (lD f vars m) []/\Xj us/\Below w.heap.size w V:=by
 have N:=hide I;have HR:=hide hr;clear I hr;obtain ⟨i0,hi,Z,Y,X⟩:=info_parts Tryz.uR;obtain ⟨j0,hj,ai,ah,ag⟩:=info_parts Tryz.vS;go_enter Tryz.func23,Tryz.ntmps23
 go_wp2;go_loopw [7,8] (fun cv i wr=>∃ (k:Nat) (us:List Value),k <= f.length/\k <= m/\i=.int .i64 k/\Hid (gQ 43 3 w.heap.size wr cv (.slice none 0 0) us ((f.take k).map (rE vars)) [])/\Hid (Xj us)/\Hid (Below w.heap.size w wr)) (fun _ i _=>f.length - (intOf i).toNat)
 case atStart=>exact ⟨0,[],zl,zl,rfl,⟨World.ownsRow_nil _ _ _ _,World.ownsRow_nil _ _ _ _,rfl,fun j u h=>by simp at h⟩,(fun i j u v h=>by simp at h),bR⟩
 case round=>
  obtain ⟨k,us,R,ay,rfl,d,HA,y⟩:=hrel;obtain ⟨oa,oc,ak⟩:=dG d.out.outer;subst ak;by_cases G:k < f.length
  ·by_cases ax:k < m
   ·have ea:=aa (by omega)
    subst ea;clear aa;have ck:wr.cell? ⟨rb,off + k,none⟩=some (.int .i64 f[k]):=by
     rw [y.out.cell (p:=⟨rb,off + k,none⟩) (block_lt_of_cell (N.out k G))];exact N.out k G
    have P:=HR.out _ (List.getElem_mem G);have HS:Hid ((f.take (k + 1)).map (rE vars)=(f.take k).map (rE vars) ++ [rE vars f[k]]):=by
     unfold Hid;rw [List.take_succ_eq_append_getElem G,List.map_append];rfl
    generalize f[k]=r at *
    have QP:Hid (∀ W:World,Calls Tryz.prog 22 #[.int .i64 r,.int .i64 1152921504606846976] W fun e V=>∃ L:Nat,Hid (L=jk r 1152921504606846976)/\L < 1152921504606846976/\e=.returned (.int .i64 (L:Nat))/\Below W.heap.size W V):=fun W=>
     (yF r 1152921504606846976 W P.1 P.2 (by omega) (by omega)).mono fun e V ⟨a,b⟩=>⟨_,rfl,Nat.mod_lt _ (by omega),a,b⟩
    clear P;go_wp2_with (go_at_call 22;(with_reducible refine (QP.out _).mono ?_);rintro e1 w1 ⟨L,ae,al,rfl,Q⟩;have M1:=hide (d.out.later Q);have B1:=hide (y.out.trans (Q.mono y.out.size));clear Q d y;simp only [])
    have af:Hid (rE vars r=lits vars L (1 + L % 4)):=by unfold Hid rE;rw [ae.out]
    clear QP ae ck;go_loopw [9,10,11] (fun an lv nv wx=>∃ (c q:Nat) (cur:Cl),c < 1152921504606846976/\q <= 4/\cur.length + q <= 4/\an=.int .i64 (c:Nat)/\nv=.int .i64 (q:Nat)/\Hid (rE vars r=cur ++ lits vars c q)/\Hid (gQ 43 3 w.heap.size wx (.slice oa us.length oc) lv us ((f.take k).map (rE vars)) cur)/\Hid (Below w.heap.size w wx)) (fun _ _ nv _=>(intOf nv).toNat)
    case atStart=>exact ⟨L,1 + L % 4,[],al,by omega,by simp;omega,rfl,by go_num,af,M1,B1⟩
    case round=>
     obtain ⟨c,q,cur,hc,hq,av,rfl,rfl,HC,d,y⟩:=hrel;clear M1 B1 af;obtain ⟨la,lc,aj⟩:=dG d.out.row;subst aj;have ul:us.length <= 1000:=by rw [d.out.len];simp;omega
     have sb:=y.out.size;by_cases aw:0 < q
     ·obtain ⟨C,ad⟩:∃ C,C=c / 4:=⟨_,rfl⟩;obtain ⟨o,D⟩:∃ o,o=C % vars:=⟨_,rfl⟩;obtain ⟨s,H⟩:∃ s,s=C / vars:=⟨_,rfl⟩;have d1:(c:Int) / 4=(C:Int):=by omega
      have d2:(C:Int).tmod (vars:Int)=(o:Int):=by rw [D,Int.tmod_eq_emod_of_nonneg (by omega),Int.natCast_emod]
      have d3:(C:Int).tdiv (vars:Int)=(s:Int):=by rw [H,Int.tdiv_eq_ediv_of_nonneg (by omega),Int.natCast_ediv]
      have aq:o < vars:=by rw [D];exact Nat.mod_lt _ hv
      have ac:C < 1152921504606846976:=by omega
      have K:s < 1152921504606846976:=by rw [H];exact Nat.lt_of_le_of_lt (Nat.div_le_self _ _) ac
      have au:¬ (vars:Int)=0:=by omega
      have aB:IntKind.i64.wrap (C:Int)=(C:Int):=by rw [IntKind.wrap_i64];omega
      have aA:IntKind.i64.wrap (s:Int)=(s:Int):=by rw [IntKind.wrap_i64];omega
      have az:IntKind.i64.wrap (o:Int)=(o:Int):=by rw [IntKind.wrap_i64];omega
      have S:Hid (lits vars c q=(if s % 2=1 then -((1 + o:Nat):Int) else ((1 + o:Nat):Int)) :: lits vars s (q - 1)):=by
       obtain ⟨q',rfl⟩:∃ q',q=q' + 1:=⟨q - 1,by omega⟩
       unfold Hid;rw [D,H,ad];rfl
      clear D H ad;by_cases J:s % 2=1
      ·have ho:((s:Int) % 2 == 1)=true:=by simp;omega
       rw [if_pos J] at S;have wn:IntKind.i64.wrap (-(1 + (o:Int)))=-(1 + (o:Int)):=by rw [IntKind.wrap_i64];omega
       obtain ⟨x,O⟩:∃ x:Int,x=-(1 + (o:Int)):=⟨_,rfl⟩;have t:-((1 + o:Nat):Int)=x:=by rw [O];omega
       rw [t] at S;clear t;go_upto_region 15 with fail
       rw [<- O];clear O;go_wp2_with (at_builtin;refine wpList_append_own_at _ rfl _ _ 43 rfl w.heap.size 3 i0 (.int .i64 0) 1 8 Tryz.underlying43 hi Z Y X rfl (by decide) _ _ _ rfl (d.out.row.alloc _) ⟨wr.heap.size,0,none⟩ 1 1 [_] rfl rfl (cell_one_new _ _ _) (by simp [Value.oneCell']) (by unfold maxLen;omega) (by omega) (by simp;omega) ?_)
       intro z U l g _ n;have M:Hid (gQ 43 3 w.heap.size U (.slice oa us.length oc) z us ((f.take k).map (rE vars)) (cur ++ [x])):=d.out.lit (by decide) l g (by simpa using n)
       have B3:Hid (Below w.heap.size w U):=(y.out.alloc sb _).grown g (by simp;omega) (fun k R=>(d.out.row.lt k R).1)
       clear l g n;go_wp2;go_roundw
       case rel=>exact ⟨s,q - 1,cur ++ [x],K,by omega,by simp;omega,rfl,by go_num,by unfold Hid;rw [HC.out,S.out];simp,M,B3⟩
       case measure=>simp [intOf];omega
      ·have ho:((s:Int) % 2 == 1)=false:=by simp;omega
       rw [if_neg J] at S;obtain ⟨x,O⟩:∃ x:Int,x=1 + (o:Int):=⟨_,rfl⟩;have t:((1 + o:Nat):Int)=x:=by rw [O];omega
       rw [t] at S;clear t;go_upto_region 15 with fail
       rw [<- O];clear O;go_wp2_with (at_builtin;refine wpList_append_own_at _ rfl _ _ 43 rfl w.heap.size 3 i0 (.int .i64 0) 1 8 Tryz.underlying43 hi Z Y X rfl (by decide) _ _ _ rfl (d.out.row.alloc _) ⟨wr.heap.size,0,none⟩ 1 1 [_] rfl rfl (cell_one_new _ _ _) (by simp [Value.oneCell']) (by unfold maxLen;omega) (by omega) (by simp;omega) ?_)
       intro z U l g _ n;have M:Hid (gQ 43 3 w.heap.size U (.slice oa us.length oc) z us ((f.take k).map (rE vars)) (cur ++ [x])):=d.out.lit (by decide) l g (by simpa using n)
       have B3:Hid (Below w.heap.size w U):=(y.out.alloc sb _).grown g (by simp;omega) (fun k R=>(d.out.row.lt k R).1)
       clear l g n;go_wp2;go_roundw
       case rel=>exact ⟨s,q - 1,cur ++ [x],K,by omega,by simp;omega,rfl,by go_num,by unfold Hid;rw [HC.out,S.out];simp,M,B3⟩
       case measure=>simp [intOf];omega
     ·have ab:q=0:=by omega
      subst ab;have ap:Hid (rE vars r=cur):=by
       have:=HC.out;rw [show lits vars c 0=[] from rfl,List.append_nil] at this;exact this
      go_wp2_with (at_builtin;refine wpList_append_own_at _ rfl _ _ 32 rfl w.heap.size 43 j0 (.slice none 0 0) 1 24 Tryz.underlying32 hj ai ah ag rfl (by decide) _ _ _ rfl (d.out.outer.alloc _) ⟨wr.heap.size,0,none⟩ 1 1 [.slice la _ lc] rfl rfl (cell_one_new _ _ _) (by simp [Value.oneCell']) (by unfold maxLen;omega) (by omega) (by simp;omega) ?_)
      intro ao w3 l g _ am;have M:Hid (gQ 43 3 w.heap.size w3 ao (.slice none 0 0) (us ++ [.slice la cur.length lc]) ((f.take (k + 1)).map (rE vars)) []):=by
       unfold Hid;rw [HS.out,ap.out];exact d.out.zero (by decide) l g
      have B3:Hid (Below w.heap.size w w3):=(y.out.alloc sb _).grown g (by simp;omega) (fun k R=>(d.out.outer.lt k R).1)
      have A3:Hid (Xj (us ++ [.slice la cur.length lc])):=HA.out.snoc fun j v hj=>(d.out.inner j v hj).2
      clear l g am;go_wp2;go_roundw
      case rel=>exact ⟨k + 1,_,by omega,by omega,by go_num,M,A3,B3⟩
      case measure=>simp [intOf];omega
   ·have E:Hid (lD f vars m=(f.take k).map (rE vars)):=by
     have:k=m:=by omega
     rw [this];rfl
    go_wp2;go_ret
    exact ⟨_,_,rfl,by rw [E.out];exact d.out,HA.out,y.out⟩
  ·have E:Hid (lD f vars m=(f.take k).map (rE vars)):=by
    unfold Hid lD;rw [List.take_of_length_le (by omega),List.take_of_length_le (by omega)]
   go_wp2;go_ret
   exact ⟨_,_,rfl,by rw [E.out];exact d.out,HA.out,y.out⟩
section
def iM (L:List Cl):List Cl:=L.flatMap fun c=>[c ++ [13],c ++ [-13]]
theorem Iz (L:List Cl) (c:Cl):iM (L ++ [c])=iM L ++ [c ++ [13],c ++ [-13]]:=by unfold iM;rw [List.flatMap_append];simp
theorem vg (L:List Cl):(iM L).length=2 * L.length:=by
 induction L with
 | nil=>rfl
 | cons c r ih=>
  have e:iM (c :: r)=[c ++ [13],c ++ [-13]] ++ iM r:=by unfold iM;rw [List.flatMap_cons]
  rw [e,List.length_append,ih,List.length_cons];simp;omega
theorem LH {w:World} {a:Option Addr} {c k:Nat} {L:List Cl} (h:Rows w (.slice a L.length c) L) (l:k <= L.length):Rows w (.slice a k c) (L.take k):=by
 obtain ⟨n,m,b,e,j,g⟩:=h;obtain ⟨rfl,_,rfl⟩:=Value.slice.inj e;have d:(L.take k).length=k:=by simp;omega
 refine ⟨a,c,b,by rw [d],fun h=>j (by rw [d] at h;omega),fun i f=>?_⟩
 rw [d] at f;have e:(L.take k)[i]'(by rw [d];exact f)=L[i]'(by omega):=by rw [List.getElem_take]
 rw [e];exact g i (by omega)
section
variable {te ti B:Nat} {wr wx w1:World} {cv NQ:Value} {us:List Value} {cs:List Cl} {cur:Cl}
theorem gQ.other (h:gQ te ti B wr cv NQ us cs cur) {o:Obj} {row:Option Nat} (b:(wr.alloc o).grownBy w1 row) (e:cv.ownBlock=none\/cv.ownBlock ≠ row) (d:NQ.ownBlock=none\/NQ.ownBlock ≠ row) (c:∀ (j:Nat) u,us[j]? = some u->u.ownBlock=none\/u.ownBlock ≠ row):gQ te ti B w1 cv NQ us cs cur:=
 ⟨(h.outer.alloc o).kept b e,(h.row.alloc o).kept b d,h.len,fun j u a=>⟨((h.inner j u a).1.alloc o).kept b (c j u a),(h.inner j u a).2⟩⟩
theorem De {t n:Nat} {v:Value} {a:List Value} {k:Nat} (h:wr.ownsRow B t 1 v n a) (b:wr.heap.size <= k):v.ownBlock=none\/v.ownBlock ≠ some k:=by
 cases e:v.ownBlock with
 | none=>exact .inl rfl
 | some g=>
  have:=(h.lt g e).2;exact .inr (by simp;omega)
theorem Kh {t n:Nat} {v q:Value} {b:List Value} (h:wr.ownsRow B t 1 v n b) (a:∀ g,q.ownBlock=some g->wr.heap.size <= g):v.ownBlock=none\/v.ownBlock ≠ q.ownBlock:=by
 cases e:v.ownBlock with
 | none=>exact .inl rfl
 | some g=>
  right
  intro c;have:=(h.lt g e).2;have:=a g c.symm;omega
theorem UF {v q:Value} (h:v.ownBlock=none\/v.ownBlock ≠ q.ownBlock):q.ownBlock=none\/q.ownBlock ≠ v.ownBlock:=by
 rcases h with h | h
 ·cases e:q.ownBlock with
  | none=>exact .inl rfl
  | some g=>exact .inr (by rw [h];simp)
 ·exact .inr (fun e=>h e.symm)
theorem cell_two_new (w:World) (x y:Value) (t:TypeId):∀ j u,[x,y][j]? = some u->(w.alloc (.cells #[x,y] t)).cell? ((⟨w.heap.size,0,none⟩:Addr).add j)=some u:=fun j u a=>by
 have r:(w.alloc (.cells #[x,y] t)).rowIs w.heap.size t 2 (fun i=>if i=0 then x else y):=World.rowIs_alloc w _ _ _ fun i b=>match i,b with
  | 0,_=>rfl
  | 1,_=>rfl
 rw [show (⟨w.heap.size,0,none⟩:Addr).add j=⟨w.heap.size,j,none⟩ by simp [Addr.add_lit]]
 match j,a with
 | 0,a=>cases a;exact r.cell (i:=0) (by omega)
 | 1,a=>cases a;exact r.cell (i:=1) (by omega)
 | j + 2,a=>simp at a
theorem gQ.fresh (h:gQ te ti B wr cv NQ us cs cur) {o:Obj} (b:(wr.alloc o).grownBy w1 (some wr.heap.size)):gQ te ti B w1 cv NQ us cs cur:=
 gQ.other h b (De h.outer lr) (De h.row lr) (fun j u a=>De (h.inner j u a).1 lr)
theorem gQ.take (h:gQ te ti B wr cv (.slice none 0 0) us cs []) {o:Obj} {p:Value} {c:Cl} (i:(wr.alloc o).grownBy w1 (some wr.heap.size)) (f:w1.ownsRow B ti 1 p c.length (jG c)) (a:∀ g,p.ownBlock=some g->wr.heap.size <= g):gQ te ti B w1 cv p us cs c:=by
 have b:=gQ.fresh h i;refine ⟨b.outer,f,b.len,fun j u d=>⟨(b.inner j u d).1,?_⟩⟩
 cases e:u.ownBlock with
 | none=>exact .inl rfl
 | some g=>
  right
  have:=((h.inner j u d).1.lt g e).2;intro k;have:=a g k.symm;omega
theorem gQ.two (i:te ≠ ti) (h:gQ te ti B wr cv NQ us cs cur) {o:Obj} {q f:Value} {d:Cl} (l:wr.ownsRow B ti 1 q d.length (jG d)) (b:w1.ownsRow B te 1 f (us.length + 2) (us ++ [NQ,q])) (m:(wr.alloc o).grownBy w1 cv.ownBlock):gQ te ti B w1 f (.slice none 0 0) (us ++ [NQ,q]) (cs ++ [cur,d]) []:=by
 have keep:∀ {n v xs},wr.ownsRow B ti 1 v n xs->w1.ownsRow B ti 1 v n xs:=fun {n v xs} ho=>(ho.alloc o).kept m (own_ne ho h.outer (fun e=>i e.symm))
 refine ⟨by simpa using b,World.ownsRow_nil _ _ _ _,by simp [h.len],fun j u a=>⟨?_,by cases p:u.ownBlock with
  | none=>exact .inl rfl
  | some g=>exact .inr (by simp [Value.ownBlock])⟩⟩
 by_cases c:j < us.length
 ·rw [List.getElem?_append_left c] at a;have k:(cs ++ [cur,d]).getD j []=cs.getD j []:=by
   simp only [List.getD_eq_getElem?_getD];rw [List.getElem?_append_left (by rw [<- h.len];exact c)]
  rw [k];exact keep (h.inner j u a).1
 ·have lt:=(List.getElem?_eq_some_iff.1 a).1;simp at lt;rw [List.getElem?_append_right (by omega)] at a
  have k:(cs ++ [cur,d]).getD j []=([cur,d]:List Cl).getD (j - us.length) []:=by
   simp only [List.getD_eq_getElem?_getD];rw [List.getElem?_append_right (by rw [<- h.len];omega),h.len]
  rw [k]
  rcases (by omega:j - us.length=0\/j - us.length=1) with e | e <;> rw [e] at a ⊢ <;> simp at a <;> subst a
  ·exact keep h.row
  ·exact keep l
end
theorem Nr (Sr:World->Prop) (Y:∀ {a b:World},Sr a->Below a.heap.size a b->Sr b)
  (hW:∀ W,Sr W->Calls Tryz.prog 16 #[] W fun e m=>e=.returned (.bool true)/\Below W.heap.size W m)
  (L:List Cl) (f:Int) (aY:-9223372036854775808 <= f) (aX:f <= 9223372036854775807) (k:Nat) (D:k=jk f (L.length + 1)) (m1 m2 m3:Bool)
  (aL:∀ W,Sr W->Calls Tryz.prog 19 #[.string ⟨(eX 12 L).toArray⟩] W fun e m=>e=.returned (.tuple #[.bool true,.bool m1])/\Below W.heap.size W m)
  (aK:∀ W,Sr W->Calls Tryz.prog 19 #[.string ⟨(eX 12 (L.take k)).toArray⟩] W fun e m=>e=.returned (.tuple #[.bool true,.bool m2])/\Below W.heap.size W m)
  (aJ:∀ W,Sr W->Calls Tryz.prog 19 #[.string ⟨(eX 13 (iM L)).toArray⟩] W fun e m=>e=.returned (.tuple #[.bool true,.bool m3])/\Below W.heap.size W m)
  (aN:m1=true->m2=true) (Z:m1=m3)
  (w:World) (hw:Sr w) (rb off rc:Nat) (z:List Int) (hL:L=lD z 12 40) (I:∀ i (hi:i < z.length),w.cell? ⟨rb,off + i,none⟩=some (.int .i64 z[i])) (hr:∀ x ∈ z,-9223372036854775808 <= x/\x <= 9223372036854775807) (ra:Option Addr) (aA:0 < z.length->ra=some ⟨rb,off,none⟩)
  (hz:∀ c ∈ L,∀ x ∈ c,mQ 12 x) (av:∀ c ∈ iM L,∀ x ∈ c,mQ 13 x) (h4:∀ c ∈ L,c.length <= 4) (h5:∀ c ∈ iM L,c.length <= 5) (aB:∀ c ∈ L,c ≠ []) (hm:L.length <= 40) (ay:(eX 12 L).length <= 20000) (ax:(eX 12 (L.take k)).length <= 20000) (aw:(eX 13 (iM L)).length <= 20000):
  Calls Tryz.prog 12 #[.slice ra z.length rc,.int .i64 f] w fun e m=>e=.returned (.bool true)/\Below w.heap.size w m:=by
 have QW:=hide (hW w hw);have kl:k <= L.length:=by rw [D];have:jk f (L.length + 1) < L.length + 1:=Nat.mod_lt _ (by omega);omega
 have QC:Hid (∀ W,Below w.heap.size w W->Calls Tryz.prog 23 #[.slice ra z.length rc,.int .i64 12,.int .i64 40] W fun e m=>∃ a c,e=.returned (.slice a L.length c)/\L.length <= c/\Rows m (.slice a L.length c) L/\Below w.heap.size w m):=fun W E=>by
  refine (Hf W rb off rc z 12 40 (fun i hi=>by rw [E.cell (p:=⟨rb,off + i,none⟩) (block_lt_of_cell (I i hi))];exact I i hi) hr ra aA (by omega) (by omega) (by omega)).mono ?_
  rintro e m ⟨v,us,rfl,Q,hA,a3⟩;rw [<- hL] at Q;have az:=yC ⟨us,Q⟩;have ae:∃ a c,v=.slice a L.length c/\L.length <= c:=by
   have ad:=Q.len
   rcases Q.outer.2 with ⟨h1,h2⟩ | ⟨g,a4,cu,h1,_,_,h2,_⟩
   ·exact ⟨none,0,by rw [h1,<- ad,h2],by omega⟩
   ·exact ⟨_,a4,by rw [h1,ad],by omega⟩
  obtain ⟨a,c,rfl,a1⟩:=ae;exact ⟨a,c,rfl,a1,az,E.trans (a3.mono E.size)⟩
 have QP:Hid (∀ W,Below w.heap.size w W->Calls Tryz.prog 22 #[.int .i64 f,.int .i64 ((L.length:Int) + 1)] W fun e m=>e=.returned (.int .i64 (k:Nat))/\Below W.heap.size W m):=fun W E=>by
  have:=yF f (L.length + 1) W aY aX (by omega) (by omega)
  rw [<- D] at this;simpa using this
 have a7:Hid (∀ W (a:Option Addr) (c:Nat),Rows W (.slice a L.length c) L->Calls Tryz.prog 25 #[.int .i64 12,.slice a L.length c] W fun e m=>e=.returned (.string ⟨(eX 12 L).toArray⟩)/\Below W.heap.size W m):=fun W a c Q=>
  uw W _ L 12 Q hz (fun c hc=>by have:=h4 c hc;omega) (by omega) (by omega) ay
 have a6:Hid (∀ W (a:Option Addr) (c:Nat),Rows W (.slice a L.length c) L->Calls Tryz.prog 25 #[.int .i64 12,.slice a k c] W fun e m=>e=.returned (.string ⟨(eX 12 (L.take k)).toArray⟩)/\Below W.heap.size W m):=fun W a c Q=>
  uw W _ (L.take k) 12 (LH Q kl) (fun c hc=>hz c (List.mem_of_mem_take hc)) (fun c hc=>by have:=h4 c (List.mem_of_mem_take hc);omega) (by simp;omega) (by omega) ax
 have a5:Hid (∀ W (v:Value),Rows W v (iM L)->Calls Tryz.prog 25 #[.int .i64 13,v] W fun e m=>e=.returned (.string ⟨(eX 13 (iM L)).toArray⟩)/\Below W.heap.size W m):=fun W v Q=>
  uw W _ (iM L) 13 Q av (fun c hc=>by have:=h5 c hc;omega) (by rw [vg];omega) (by omega) aw
 have ba:Hid (∀ W,Below w.heap.size w W->_):=fun W E=>aL W (Y hw E)
 have a9:Hid (∀ W,Below w.heap.size w W->_):=fun W E=>aK W (Y hw E)
 have a8:Hid (∀ W,Below w.heap.size w W->_):=fun W E=>aJ W (Y hw E)
 have H4:=hide h4;have bc:=hide aB;have HK:=hide D;have be:=hide aN;have bd:=hide Z;clear hW aL aK aJ hw Y I hr aA hz av h4 h5 aB hL ay ax aw D aN Z;generalize (⟨(eX 12 L).toArray⟩:ByteArray)=Xp at *
 generalize (⟨(eX 12 (L.take k)).toArray⟩:ByteArray)=SV at *
 generalize (⟨(eX 13 (iM L)).toArray⟩:ByteArray)=Xb at *
 obtain ⟨i0,hi,U,S,R⟩:=info_parts Tryz.uR;obtain ⟨j0,hj,aT,aS,aR⟩:=info_parts Tryz.vS;go_enter Tryz.func12,Tryz.ntmps12
 go_upto_region 5 with (first
  |(go_at_call 16;(with_reducible refine QW.out.mono ?_);rintro e1 w1 ⟨rfl,aG⟩;have B1:=hide aG;clear aG QW;simp only [])
  |(go_at_call 23;(with_reducible refine (QC.out _ B1.out).mono ?_);rintro e2 w2 ⟨la,lc,rfl,ae,aM,aF⟩;have R2:=hide aM;have B2:=hide aF;clear aM aF QC B1;simp only [])
  |(go_at_call 22;(with_reducible refine (QP.out _ B2.out).mono ?_);rintro e3 w3 ⟨rfl,al⟩;have R3:=hide (R2.out.later al);have B3:=hide (B2.out.trans (al.mono B2.out.size));clear al R2 B2;simp only [])
  |(go_at_call 25;(with_reducible refine (a7.out _ la lc R3.out).mono ?_);rintro e4 w4 ⟨rfl,ak⟩;have R4:=hide (R3.out.later ak);have B4:=hide (B3.out.trans (ak.mono B3.out.size));clear ak R3 B3;simp only [])
  |(go_at_call 19;(with_reducible refine (ba.out _ B4.out).mono ?_);rintro e5 w5 ⟨rfl,aj⟩;have R5:=hide (R4.out.later aj);have B5:=hide (B4.out.trans (aj.mono B4.out.size));clear aj R4 B4;simp only []))
 have bf:(k:Int) <= (lc:Int):=by omega
 have bg:(0:Int) <= (k:Int):=by omega
 go_upto_region 6 with (first
  |(go_at_call 25;(with_reducible refine (a6.out _ la lc R5.out).mono ?_);rintro e6 w6 ⟨rfl,ah⟩;have R6:=hide (R5.out.later ah);have B6:=hide (B5.out.trans (ah.mono B5.out.size));clear ah R5 B5;simp only [])
  |(go_at_call 19;(with_reducible refine (a9.out _ B6.out).mono ?_);rintro e7 l ⟨rfl,ag⟩;have R7:=hide (R6.out.later ag);have B7:=hide (B6.out.trans (ag.mono B6.out.size));clear ag R6 B6;simp only []))
 have wB:=B7.out.size;go_wp2;go_loopw [12,13] (fun wv iv wr=>∃ (i:Nat) (us:List Value),i <= L.length/\iv=.int .i64 (i:Nat)/\Hid (gQ 43 3 l.heap.size wr wv (.slice none 0 0) us (iM (L.take i)) [])/\Hid (Below l.heap.size l wr)) (fun _ iv _=>L.length - (intOf iv).toNat)
 case atStart=>exact ⟨0,[],zl,rfl,⟨World.ownsRow_nil _ _ _ _,World.ownsRow_nil _ _ _ _,rfl,fun j u h=>by simp at h⟩,bR⟩
 case round=>
  obtain ⟨i,us,bk,rfl,hM,H⟩:=hrel;obtain ⟨oa,oc,a0⟩:=dG hM.out.outer;subst a0;have sb:=H.out.size;by_cases X:i < L.length
  ·have ul:us.length <= 80:=by rw [hM.out.len,vg];simp;omega
   obtain ⟨a',c',lb,e1,e2,e3⟩:=R7.out.later H.out;obtain ⟨rfl,_,rfl⟩:=Value.slice.inj e1;have ea:=e2 (by omega)
   subst ea;obtain ⟨ai,ci,bi,f1,f2,f3⟩:=e3 i X;have aC:=bc.out _ (List.getElem_mem X);have bl:=H4.out _ (List.getElem_mem X);have bb:Hid (iM (L.take (i + 1))=iM (L.take i) ++ [L[i] ++ [13],L[i] ++ [-13]]):=by
    unfold Hid;rw [List.take_succ_eq_append_getElem X,Iz]
   have F3:=hide f3;clear e1 e2 e3 f3;generalize L[i]=c at *
   have a2:0 < c.length:=by cases c with
    | nil=>exact absurd rfl aC
    | cons _ _=>simp
   have ef:=f2 a2;subst ef;clear f2 aC;have am:Hid (∀ W,Below wr.heap.size wr W->∀ j u,(jG c)[j]? = some u->W.cell? ((⟨bi,0,none⟩:Addr).add j)=some u):=fun W E j u V=>by
    unfold jG at V;rw [List.getElem?_map] at V
    cases af:c[j]? with
    | none=>rw [af] at V;cases V
    | some x=>
     rw [af] at V;cases V
     obtain ⟨aZ,rfl⟩:=List.getElem?_eq_some_iff.1 af;have:=F3.out j aZ;rw [show (⟨bi,0,none⟩:Addr).add j=⟨bi,j,none⟩ by simp [Addr.add_lit],E.cell (p:=⟨bi,j,none⟩) (block_lt_of_cell this)]
     exact this
   have ac:(jG c).length=c.length * 1:=by simp [jG]
   have ab:∀ u ∈ jG c,u.oneCell'=true:=fun u V=>by
    unfold jG at V;obtain ⟨y,_,rfl⟩:=List.mem_map.1 V;rfl
   have bj:(0:Int) <= (i:Int):=by omega
   have bh:(i:Int) < (L.length:Int):=by omega
   have au:lb < wr.heap.size:=block_lt_of_cell f1;have aQ:¬ lb=wr.heap.size:=by omega
   have F1:=hide f1;go_upto_region 11 with (at_builtin;refine wpList_append_own_at _ rfl _ _ 43 rfl l.heap.size 3 i0 (.int .i64 0) 1 8 Tryz.underlying43 hi U S R rfl (by decide) (.slice (some ⟨wr.heap.size,0,none⟩) 0 0) 0 [] rfl (World.ownsRow_lit wr #[] 0 (by omega) (by unfold maxLen;omega) rfl) ⟨bi,0,none⟩ c.length ci (jG c) rfl ac (am.out _ (bR.alloc lr _)) ab (by unfold maxLen;omega) (by omega) (by simp;omega) ?_;intro pv P o t _ G)
   have o:P.ownsRow l.heap.size 3 1 pv c.length (jG c):=by simpa using o
   have G:∀ g,pv.ownBlock=some g->wr.heap.size <= g:=fun g hg=>by
    rcases G with e | e <;> rw [e] at hg <;> simp [Value.ownBlock] at hg <;> omega
   have M1:=hide (gQ.take hM.out t o G);have n:Below wr.heap.size wr P:=(bR.alloc lr _).grown t (by simp) (fun k D=>by simp [Value.ownBlock] at D;omega)
   have Bp:Hid (Below l.heap.size l P):=H.out.trans (n.mono sb);have SP:=hide (fun W (E:Below P.heap.size P W)=>am.out W (n.trans (E.mono n.size)))
   have f2:=(n.cell (p:=⟨lb,i,none⟩) au).trans f1;have sp:=n.size;have aq:¬ lb=P.heap.size:=by omega
   have ar:lb < P.heap.size:=by omega
   clear o t G n am f1 F1 aQ au;go_upto_region 12 with (at_builtin;refine wpList_append_own_at _ rfl _ _ 43 rfl l.heap.size 3 i0 (.int .i64 0) 1 8 Tryz.underlying43 hi U S R rfl (by decide) (.slice (some ⟨P.heap.size,0,none⟩) 0 0) 0 [] rfl (World.ownsRow_lit P #[] 0 (by omega) (by unfold maxLen;omega) rfl) ⟨bi,0,none⟩ c.length ci (jG c) rfl ac (SP.out _ (bR.alloc lr _)) ab (by unfold maxLen;omega) (by omega) (by simp;omega) ?_;intro qv wq N s _ C)
   have Q2:wq.ownsRow l.heap.size 3 1 qv c.length (jG c):=by simpa using N
   have C:∀ g,qv.ownBlock=some g->P.heap.size <= g:=fun g hg=>by
    rcases C with e | e <;> rw [e] at hg <;> simp [Value.ownBlock] at hg <;> omega
   have M2:=hide (gQ.fresh M1.out s);have aO:Hid (∀ (j:Nat) u,us[j]? = some u->u.ownBlock=none\/u.ownBlock ≠ qv.ownBlock):=fun j u hj=>Kh (M1.out.inner j u hj).1 C
   have ap:Hid (pv.ownBlock=none\/pv.ownBlock ≠ qv.ownBlock):=Kh M1.out.row C;have Bq:Hid (Below l.heap.size l wq):=(Bp.out.alloc Bp.out.size _).grown s (by simp;omega) (fun k D=>by simp [Value.ownBlock] at D;omega)
   have ao:=hide Q2;have sq:=Bq.out.size;clear N s C f2 SP aq ar Bp M1 Q2 hM H;go_wp2_with (at_builtin;refine wpList_append_own_at _ rfl _ _ 43 rfl l.heap.size 3 i0 (.int .i64 0) 1 8 Tryz.underlying43 hi U S R rfl (by decide) pv c.length (jG c) rfl (M2.out.row.alloc _) ⟨wq.heap.size,0,none⟩ 1 1 [_] rfl rfl (cell_one_new _ _ _) (by simp [Value.oneCell']) (by unfold maxLen;omega) (by omega) (by simp;omega) ?_)
   intro p2 w3 M d _ O;have M3:Hid (gQ 43 3 l.heap.size w3 (.slice oa us.length oc) p2 us (iM (L.take i)) (c ++ [13])):=M2.out.lit (by decide) M d (by simpa using O)
   have aa:=hide ((ao.out.alloc _).kept d (UF ap.out));have aP:Hid (p2.ownBlock=none\/p2.ownBlock ≠ qv.ownBlock):=by
    rcases O with e | e
    ·rw [e];exact ap.out
    ·right
     rw [e];intro e2;have:=(ao.out.lt _ e2.symm).2
     first | omega | (simp at this;done) | (simp at this;omega)
   have B3:Hid (Below l.heap.size l w3):=(Bq.out.alloc sq _).grown d (by simp;omega) (fun k D=>(M2.out.row.lt k D).1)
   have s3:=B3.out.size;clear M d O M2 ao ap Bq;go_wp2_with (at_builtin;refine wpList_append_own_at _ rfl _ _ 43 rfl l.heap.size 3 i0 (.int .i64 0) 1 8 Tryz.underlying43 hi U S R rfl (by decide) qv c.length (jG c) rfl (aa.out.alloc _) ⟨w3.heap.size,0,none⟩ 1 1 [_] rfl rfl (cell_one_new _ _ _) (by simp [Value.oneCell']) (by unfold maxLen;omega) (by omega) (by simp;omega) ?_)
   intro q2 w4 K r _ aI;have M4:=hide (gQ.other M3.out r (own_ne M3.out.outer aa.out (by decide)) aP.out aO.out)
   have an:Hid (w4.ownsRow l.heap.size 3 1 q2 (c ++ [-13]).length (jG (c ++ [-13]))):=by unfold Hid;simpa [jG] using K
   have B4:Hid (Below l.heap.size l w4):=(B3.out.alloc s3 _).grown r (by simp;omega) (fun k D=>(aa.out.lt k D).1)
   have s4:=B4.out.size;clear K r aI M3 aa aP aO B3;obtain ⟨pa,pc,aV⟩:=dG M4.out.row;obtain ⟨qa,qc,aU⟩:=dG an.out;subst aV aU;go_wp2_with (at_builtin;refine wpList_append_own_at _ rfl _ _ 32 rfl l.heap.size 43 j0 (.slice none 0 0) 1 24 Tryz.underlying32 hj aT aS aR rfl (by decide) _ _ _ rfl (M4.out.outer.alloc _) ⟨w4.heap.size,0,none⟩ 2 2 [_,_] rfl rfl (cell_two_new _ _ _ _) (by simp [Value.oneCell']) (by unfold maxLen;omega) (by omega) (by simp;omega) ?_)
   intro bm w5 J q _ aH;have M5:=hide (gQ.two (by decide) M4.out an.out (by simpa using J) q)
   have B5:Hid (Below l.heap.size l w5):=(B4.out.alloc s4 _).grown q (by simp;omega) (fun k D=>(M4.out.outer.lt k D).1)
   clear J q aH M4 an B4;go_wp2;go_roundw
   case rel=>exact ⟨i + 1,_,by omega,by go_num,by unfold Hid;rw [bb.out];exact M5.out,B5⟩
   case measure=>simp [intOf];omega
  ·have e:i=L.length:=by omega
   subst e;rw [List.take_length] at hM;have RR:Hid (Rows wr (.slice oa us.length oc) (iM L)):=yC ⟨us,hM.out⟩;have B8:=hide (B7.out.trans (H.out.mono wB));clear hM H R7 B7;have Z:=bd.out;subst Z;cases m1
   case' true=>
    have aW:=be.out rfl;subst aW
   all_goals
    go_wp2_with (first
     |(go_at_call 25;(with_reducible refine (a5.out _ _ RR.out).mono ?_);rintro e8 w8 ⟨rfl,aE⟩;have B9:=hide (B8.out.trans (aE.mono B8.out.size));clear aE;simp only [])
     |(go_at_call 19;(with_reducible refine (a8.out _ B9.out).mono ?_);rintro e9 w9 ⟨rfl,aD⟩;have BA:=hide (B9.out.trans (aD.mono B9.out.size));clear aD;simp only []))
    go_ret
    exact ⟨rfl,BA.out⟩
end
theorem qJ {L:List Cl} {d:Cl}:d ∈ iM L↔∃ c ∈ L,d=c ++ [13]\/d=c ++ [-13]:=by
 unfold iM;rw [List.mem_flatMap];simp
theorem Oa (L:List Cl):(∃ t,Sat t (iM L))↔∃ t,Sat t L:=by
 constructor
 ·rintro ⟨t,h⟩;refine ⟨t,fun c f=>?_⟩
  cases e:t 13
  ·obtain ⟨l,b,g,a⟩:=h (c ++ [13]) (qJ.2 ⟨c,f,.inl rfl⟩)
   rcases List.mem_append.1 b with b | b
   ·exact ⟨l,b,g,a⟩
   ·rw [List.mem_singleton.1 b] at a;have a:t 13=true:=a;rw [e] at a;cases a
  ·obtain ⟨l,b,g,a⟩:=h (c ++ [-13]) (qJ.2 ⟨c,f,.inr rfl⟩)
   rcases List.mem_append.1 b with b | b
   ·exact ⟨l,b,g,a⟩
   ·rw [List.mem_singleton.1 b] at a;have a:t 13=false:=a;rw [e] at a;cases a
 ·rintro ⟨t,h⟩;refine ⟨t,fun d hd=>?_⟩
  obtain ⟨c,f,e⟩:=qJ.1 hd;obtain ⟨l,b,a⟩:=h c f
  rcases e with rfl | rfl
  ·exact ⟨l,List.mem_append_left _ b,a⟩
  ·exact ⟨l,List.mem_append_left _ b,a⟩
theorem DY (p:Prop):∃ b:Bool,b=true↔p:=by
 by_cases h:p
 ·exact ⟨true,fun _=>h,fun _=>rfl⟩
 ·exact ⟨false,fun e=>(by cases e),fun e=>absurd e h⟩
theorem CJ {n:Nat} {L:List Cl} {b:Bool} (o:b=true↔∃ t,Sat t L) (j:n <= 20) (d:0 < n) (i:∀ c ∈ L,∀ x ∈ c,mQ n x) (l:∀ c ∈ L,c.length <= 5) (k:L.length <= 80) (w:World) (m:rM w):
  Calls Tryz.prog 19 #[.string ⟨(eX n L).toArray⟩] w fun e g=>e=.returned (.tuple #[.bool true,.bool b])/\Below w.heap.size w g:=by
 refine (J9 j d i l k w m).mono ?_;rintro e g ⟨h,rfl,f,a⟩;have:h=b:=by
  have:=f.trans o.symm;cases b <;> cases h <;> simp_all
 rw [this];exact ⟨rfl,a⟩
theorem Jz (w:World) (hg:rM w) (y off N:Nat) (j:List Int) (v:∀ i (hi:i < j.length),w.cell? ⟨y,off + i,none⟩=some (.int .i64 j[i])) (Y:∀ x ∈ j,-9223372036854775808 <= x/\x <= 9223372036854775807) (z:Option Addr) (D:0 < j.length->z=some ⟨y,off,none⟩) (g:Int) (G:-9223372036854775808 <= g) (E:g <= 9223372036854775807):
  Calls Tryz.prog 12 #[.slice z j.length N,.int .i64 g] w fun e U=>e=.returned (.bool true)/\Below w.heap.size w U:=by
 obtain ⟨L,hL⟩:∃ L,L=lD j 12 40:=⟨_,rfl⟩;have mem:∀ c ∈ L,∃ r,c=rE 12 r:=fun c f=>by
  rw [hL] at f;obtain ⟨r,_,rfl⟩:=List.mem_map.1 f;exact ⟨r,rfl⟩
 have u:∀ c ∈ L,∀ x ∈ c,mQ 12 x:=fun c f x C=>by
  obtain ⟨r,rfl⟩:=mem c f;exact Kv (by omega) _ _ x C
 have m:∀ c ∈ L,1 <= c.length/\c.length <= 4:=fun c f=>by
  obtain ⟨r,rfl⟩:=mem c f;unfold rE;rw [jN];omega
 have Z:L.length <= 40:=by rw [hL];unfold lD;simp;omega
 have p:∀ c ∈ iM L,∀ x ∈ c,mQ 13 x:=fun d hd x C=>by
  obtain ⟨c,f,e⟩:=qJ.1 hd;have s:x ∈ c->mQ 13 x:=fun h=>by have:=u c f x h;unfold mQ at this ⊢;omega
  rcases e with rfl | rfl <;> rcases List.mem_append.1 C with h | h
  ·exact s h
  ·rw [List.mem_singleton.1 h];unfold mQ;decide
  ·exact s h
  ·rw [List.mem_singleton.1 h];unfold mQ;decide
 have H:∀ c ∈ iM L,c.length <= 5:=fun d hd=>by
  obtain ⟨c,f,e⟩:=qJ.1 hd;have:=m c f
  rcases e with rfl | rfl <;> simp <;> omega
 have I:∀ c ∈ L,c.length <= 5:=fun c f=>by have:=m c f;omega
 obtain ⟨k,hk⟩:∃ k,k=jk g (L.length + 1):=⟨_,rfl⟩;obtain ⟨Q,J⟩:=DY (∃ t,Sat t L);obtain ⟨V,T⟩:=DY (∃ t,Sat t (L.take k));obtain ⟨P,S⟩:=DY (∃ t,Sat t (iM L));have K:∀ c ∈ L.take k,∀ x ∈ c,mQ 12 x:=fun c f=>u c (List.mem_of_mem_take f)
 have R:∀ c ∈ L.take k,c.length <= 5:=fun c f=>I c (List.mem_of_mem_take f)
 have nk:(L.take k).length <= 40:=by simp;omega
 have O:(iM L).length <= 80:=by rw [vg];omega
 have o:∀ {n:Nat} {M:List Cl},n <= 20->(∀ c ∈ M,∀ x ∈ c,mQ n x)->(∀ c ∈ M,c.length <= 5)->M.length <= 80->(eX n M).length <= 20000:=fun {n M} hn a b c=>by
  have h1:=sD M b;have h2:=yj (n:=n) (by omega) (l:=M) (by omega) a
  omega
 refine Nr rM (fun h hb=>h.later hb) (fun W q=>J6 W q) L g G E k hk Q V P (fun W q=>CJ J (by omega) (by omega) u I (by omega) W q) (fun W q=>CJ T (by omega) (by omega) K R (by omega) W q) (fun W q=>CJ S (by omega) (by omega) p H O W q) (fun h=>?_) ?_ w hg y off N j hL v Y z D u p (fun c f=>(m c f).2) H (fun c f h=>by have:=(m c f).1;rw [h] at this;simp at this) Z (o (by omega) u I (by omega)) (o (by omega) K R (by omega)) (o (by omega) p H O)
 ·obtain ⟨t,X⟩:=J.1 h;exact T.2 ⟨t,fun c f=>X c (List.mem_of_mem_take f)⟩
 ·have:=J.trans ((Oa L).symm.trans S.symm);cases Q <;> cases P <;> simp_all
end
end Kp
end Go.Proofs.YtceahffmenbibaaGreatDoor
