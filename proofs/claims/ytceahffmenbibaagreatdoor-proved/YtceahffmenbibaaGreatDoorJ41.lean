/- Kcla Kdig Ktxt Ktri Ktrl Klss. -/
import Derived.Test.YtceahffmenbibaaGreatDoorJ40
import Derived.Laws.IdiomStrings
import Derived.Test.YtceahffmenbibaaGreatDoorJ01
set_option linter.unusedVariables false
set_option linter.unusedSimpArgs false
set_option maxHeartbeats 4000000
set_option maxRecDepth 100000
namespace Go.Proofs.YtceahffmenbibaaGreatDoor
namespace Kp
section
open Go Go.RowKit Go.Deep Rd Go.Proofs.YtceahffmenbibaaGreatDoor.So
def lits (vars:Nat):Nat->Nat->Cl
 | _,0=>[]
 | c,n + 1=>(if c / 4 / vars % 2=1 then -((1 + c / 4 % vars:Nat):Int) else ((1 + c / 4 % vars:Nat):Int)) :: lits vars (c / 4 / vars) n
def qd (vars:Nat) (r:Int):Cl:=lits vars (nJ r 1152921504606846976) (1 + nJ r 1152921504606846976 % 4)
def eF (raw:List Int) (vars most:Nat):List Cl:=(raw.take most).map (qd vars)
theorem ku (vars:Nat):∀ n c,(lits vars c n).length=n
 | 0,_=>rfl
 | n + 1,c=>by simp [lits,ku vars n]
theorem I5 {vars:Nat} (a:0 < vars):∀ n c,∀ x ∈ lits vars c n,pW vars x
 | 0,_,x,h=>by cases h
 | n + 1,c,x,h=>by
  rcases List.mem_cons.1 h with rfl | h
  ·have:=Nat.mod_lt (c / 4) a;unfold pW;split <;> omega
  ·exact I5 a n _ x h
def Ur (us:List Value):Prop:=∀ (i j:Nat) u v,us[i]? = some u->us[j]? = some v->i ≠ j->u.ownBlock=none\/u.ownBlock ≠ v.ownBlock
theorem Ur.snoc {us:List Value} {u:Value} (h:Ur us) (k:∀ (j:Nat) v,us[j]? = some v->v.ownBlock=none\/v.ownBlock ≠ u.ownBlock):Ur (us ++ [u]):=by
 intro i j x y d c f;have m:=(List.getElem?_eq_some_iff.1 d).1;have l:=(List.getElem?_eq_some_iff.1 c).1;simp at m l;by_cases a:i < us.length
 ·rw [List.getElem?_append_left a] at d;by_cases b:j < us.length
  ·rw [List.getElem?_append_left b] at c;exact h i j x y d c f
  ·have:j=us.length:=by omega
   subst this;simp at c;subst c;exact k i x d
 ·have:i=us.length:=by omega
  subst this;simp at d;subst d;rw [List.getElem?_append_left (by omega)] at c
  rcases k j y c with e | e
  ·cases n:u.ownBlock with
   | none=>exact .inl rfl
   | some g=>exact .inr (by rw [e];simp)
  ·exact .inr (fun h=>e h.symm)
theorem Fx (w:World) (rb off rc:Nat) (raw:List Int) (vars most:Nat) (H:∀ i (hi:i < raw.length),w.cell? ⟨rb,off + i,none⟩=some (.int .i64 raw[i])) (hr:∀ x ∈ raw,-9223372036854775808 <= x/\x <= 9223372036854775807) (ra:Option Addr) (Z:0 < raw.length->ra=some ⟨rb,off,none⟩) (hv:0 < vars) (aq:vars <= 50) (hm:most <= 1000):
  Calls Tryz.prog 23 #[.slice ra raw.length rc,.int .i64 (vars:Nat),.int .i64 (most:Nat)] w fun e U=>∃ v n,e=.returned v/\o7 43 3 w.heap.size U v (.slice none 0 0) n (eF raw vars most) []/\Ur n/\Below w.heap.size w U:=by
 have L:=hide H;have HR:=hide hr;clear H hr;obtain ⟨i0,hi,Y,X,V⟩:=info_parts Tryz.Ex;obtain ⟨j0,hj,ah,ag,af⟩:=info_parts Tryz.AV;go_enter Tryz.func23,Tryz.ntmps23
 go_wp2;go_loopw [7,8] (fun cv i wr=>∃ (k:Nat) (n:List Value),k <= raw.length/\k <= most/\i=.int .i64 k/\Hid (o7 43 3 w.heap.size wr cv (.slice none 0 0) n ((raw.take k).map (qd vars)) [])/\Hid (Ur n)/\Hid (Below w.heap.size w wr)) (fun _ i _=>raw.length - (intOf i).toNat)
 case atStart=>exact ⟨0,[],zl,zl,rfl,⟨World.ownsRow_nil _ _ _ _,World.ownsRow_nil _ _ _ _,rfl,fun j u h=>by simp at h⟩,(fun i j u v h=>by simp at h),bR⟩
 case round=>
  obtain ⟨k,n,Q,ax,rfl,d,HA,y⟩:=hrel;obtain ⟨oa,oc,aj⟩:=dI d.out.outer;subst aj;by_cases D:k < raw.length
  ·by_cases aw:k < most
   ·have ea:=Z (by omega);subst ea;clear Z;have ck:wr.cell? ⟨rb,off + k,none⟩=some (.int .i64 raw[k]):=by
     rw [y.out.cell (p:=⟨rb,off + k,none⟩) (block_lt_of_cell (L.out k D))];exact L.out k D
    have O:=HR.out _ (List.getElem_mem D);have HS:Hid ((raw.take (k + 1)).map (qd vars)=(raw.take k).map (qd vars) ++ [qd vars raw[k]]):=by
     unfold Hid;rw [List.take_succ_eq_append_getElem D,List.map_append];rfl
    generalize raw[k]=r at *
    have QP:Hid (∀ W:World,Calls Tryz.prog 22 #[.int .i64 r,.int .i64 1152921504606846976] W fun e U=>∃ K:Nat,Hid (K=nJ r 1152921504606846976)/\K < 1152921504606846976/\e=.returned (.int .i64 (K:Nat))/\Below W.heap.size W U):=fun W=>
     (ME r 1152921504606846976 W O.1 O.2 (by omega) (by omega)).mono fun e U ⟨a,b⟩=>⟨_,rfl,Nat.mod_lt _ (by omega),a,b⟩
    clear O;go_wp2_with (go_at_call 22;(with_reducible refine (QP.out _).mono ?_);rintro e1 w1 ⟨K,ad,ak,rfl,P⟩;have M1:=hide (d.out.later P);have B1:=hide (y.out.trans (P.mono y.out.size));clear P d y;simp only [])
    have ae:Hid (qd vars r=lits vars K (1 + K % 4)):=by unfold Hid qd;rw [ad.out]
    clear QP ad ck;go_loopw [9,10,11] (fun am lv nv wx=>∃ (c q:Nat) (l:Cl),c < 1152921504606846976/\q <= 4/\l.length + q <= 4/\am=.int .i64 (c:Nat)/\nv=.int .i64 (q:Nat)/\Hid (qd vars r=l ++ lits vars c q)/\Hid (o7 43 3 w.heap.size wx (.slice oa n.length oc) lv n ((raw.take k).map (qd vars)) l)/\Hid (Below w.heap.size w wx)) (fun _ _ nv _=>(intOf nv).toNat)
    case atStart=>exact ⟨K,1 + K % 4,[],ak,by omega,by simp;omega,rfl,by go_num,ae,M1,B1⟩
    case round=>
     obtain ⟨c,q,l,hc,hq,au,rfl,rfl,HC,d,y⟩:=hrel;clear M1 B1 ae;obtain ⟨la,lc,ai⟩:=dI d.out.row;subst ai;have ul:n.length <= 1000:=by rw [d.out.len];simp;omega
     have sb:=y.out.size;by_cases av:0 < q
     ·obtain ⟨B,ac⟩:∃ B,B=c / 4:=⟨_,rfl⟩;obtain ⟨o,C⟩:∃ o,o=B % vars:=⟨_,rfl⟩;obtain ⟨s,G⟩:∃ s,s=B / vars:=⟨_,rfl⟩;have d1:(c:Int) / 4=(B:Int):=by omega
      have d2:(B:Int).tmod (vars:Int)=(o:Int):=by rw [C,Int.tmod_eq_emod_of_nonneg (by omega),Int.natCast_emod]
      have d3:(B:Int).tdiv (vars:Int)=(s:Int):=by rw [G,Int.tdiv_eq_ediv_of_nonneg (by omega),Int.natCast_ediv]
      have ap:o < vars:=by rw [C];exact Nat.mod_lt _ hv
      have ab:B < 1152921504606846976:=by omega
      have J:s < 1152921504606846976:=by rw [G];exact Nat.lt_of_le_of_lt (Nat.div_le_self _ _) ab
      have ar:¬ (vars:Int)=0:=by omega
      have aA:IntKind.i64.wrap (B:Int)=(B:Int):=by rw [IntKind.wrap_i64];omega
      have az:IntKind.i64.wrap (s:Int)=(s:Int):=by rw [IntKind.wrap_i64];omega
      have ay:IntKind.i64.wrap (o:Int)=(o:Int):=by rw [IntKind.wrap_i64];omega
      have R:Hid (lits vars c q=(if s % 2=1 then -((1 + o:Nat):Int) else ((1 + o:Nat):Int)) :: lits vars s (q - 1)):=by
       obtain ⟨q',rfl⟩:∃ q',q=q' + 1:=⟨q - 1,by omega⟩;unfold Hid;rw [C,G,ac];rfl
      clear C G ac;by_cases I:s % 2=1
      ·have ho:((s:Int) % 2 == 1)=true:=by simp;omega
       rw [if_pos I] at R;have wn:IntKind.i64.wrap (-(1 + (o:Int)))=-(1 + (o:Int)):=by rw [IntKind.wrap_i64];omega
       obtain ⟨x,N⟩:∃ x:Int,x=-(1 + (o:Int)):=⟨_,rfl⟩;have t:-((1 + o:Nat):Int)=x:=by rw [N];omega
       rw [t] at R;clear t;go_upto_region 15 with fail
       rw [<- N];clear N;go_wp2_with (at_builtin;refine wpList_append_own_at _ rfl _ _ 43 rfl w.heap.size 3 i0 (.int .i64 0) 1 8 Tryz.underlying43 hi Y X V rfl (by decide) _ _ _ rfl (d.out.row.alloc _) ⟨wr.heap.size,0,none⟩ 1 1 [_] rfl rfl (cell_one_new _ _ _) (by simp [Value.oneCell']) (by unfold maxLen;omega) (by omega) (by simp;omega) ?_)
       intro z S g f _ m;have M:Hid (o7 43 3 w.heap.size S (.slice oa n.length oc) z n ((raw.take k).map (qd vars)) (l ++ [x])):=d.out.lit (by decide) g f (by simpa using m);have B3:Hid (Below w.heap.size w S):=(y.out.alloc sb _).grown f (by simp;omega) (fun k Q=>(d.out.row.lt k Q).1);clear g f m;go_wp2;go_roundw
       case rel=>exact ⟨s,q - 1,l ++ [x],J,by omega,by simp;omega,rfl,by go_num,by unfold Hid;rw [HC.out,R.out];simp,M,B3⟩
       case measure=>simp [intOf];omega
      ·have ho:((s:Int) % 2 == 1)=false:=by simp;omega
       rw [if_neg I] at R;obtain ⟨x,N⟩:∃ x:Int,x=1 + (o:Int):=⟨_,rfl⟩;have t:((1 + o:Nat):Int)=x:=by rw [N];omega
       rw [t] at R;clear t;go_upto_region 15 with fail
       rw [<- N];clear N;go_wp2_with (at_builtin;refine wpList_append_own_at _ rfl _ _ 43 rfl w.heap.size 3 i0 (.int .i64 0) 1 8 Tryz.underlying43 hi Y X V rfl (by decide) _ _ _ rfl (d.out.row.alloc _) ⟨wr.heap.size,0,none⟩ 1 1 [_] rfl rfl (cell_one_new _ _ _) (by simp [Value.oneCell']) (by unfold maxLen;omega) (by omega) (by simp;omega) ?_)
       intro z S g f _ m;have M:Hid (o7 43 3 w.heap.size S (.slice oa n.length oc) z n ((raw.take k).map (qd vars)) (l ++ [x])):=d.out.lit (by decide) g f (by simpa using m);have B3:Hid (Below w.heap.size w S):=(y.out.alloc sb _).grown f (by simp;omega) (fun k Q=>(d.out.row.lt k Q).1);clear g f m;go_wp2;go_roundw
       case rel=>exact ⟨s,q - 1,l ++ [x],J,by omega,by simp;omega,rfl,by go_num,by unfold Hid;rw [HC.out,R.out];simp,M,B3⟩
       case measure=>simp [intOf];omega
     ·have aa:q=0:=by omega
      subst aa;have ao:Hid (qd vars r=l):=by
       have:=HC.out;rw [show lits vars c 0=[] from rfl,List.append_nil] at this;exact this
      go_wp2_with (at_builtin;refine wpList_append_own_at _ rfl _ _ 32 rfl w.heap.size 43 j0 (.slice none 0 0) 1 24 Tryz.underlying32 hj ah ag af rfl (by decide) _ _ _ rfl (d.out.outer.alloc _) ⟨wr.heap.size,0,none⟩ 1 1 [.slice la _ lc] rfl rfl (cell_one_new _ _ _) (by simp [Value.oneCell']) (by unfold maxLen;omega) (by omega) (by simp;omega) ?_)
      intro an w3 g f _ al;have M:Hid (o7 43 3 w.heap.size w3 an (.slice none 0 0) (n ++ [.slice la l.length lc]) ((raw.take (k + 1)).map (qd vars)) []):=by
       unfold Hid;rw [HS.out,ao.out];exact d.out.zero (by decide) g f
      have B3:Hid (Below w.heap.size w w3):=(y.out.alloc sb _).grown f (by simp;omega) (fun k Q=>(d.out.outer.lt k Q).1);have A3:Hid (Ur (n ++ [.slice la l.length lc])):=HA.out.snoc fun j v hj=>(d.out.inner j v hj).2
      clear g f al;go_wp2;go_roundw
      case rel=>exact ⟨k + 1,_,by omega,by omega,by go_num,M,A3,B3⟩
      case measure=>simp [intOf];omega
   ·have E:Hid (eF raw vars most=(raw.take k).map (qd vars)):=by
     have:k=most:=by omega
     rw [this];rfl
    go_wp2;go_ret
    exact ⟨_,_,rfl,by rw [E.out];exact d.out,HA.out,y.out⟩
  ·have E:Hid (eF raw vars most=(raw.take k).map (qd vars)):=by
    unfold Hid eF;rw [List.take_of_length_le (by omega),List.take_of_length_le (by omega)]
   go_wp2;go_ret
   exact ⟨_,_,rfl,by rw [E.out];exact d.out,HA.out,y.out⟩
theorem Fw (w:World) (c off h:Nat) (raw:List Int) (vars most:Nat) (a:∀ i (hi:i < raw.length),w.cell? ⟨c,off + i,none⟩=some (.int .i64 raw[i])) (k:∀ x ∈ raw,-9223372036854775808 <= x/\x <= 9223372036854775807) (d:Option Addr) (g:0 < raw.length->d=some ⟨c,off,none⟩) (j:0 < vars) (f:vars <= 50) (l:most <= 1000):
  Calls Tryz.prog 23 #[.slice d raw.length h,.int .i64 (vars:Nat),.int .i64 (most:Nat)] w fun e b=>∃ v,e=.returned v/\Rz 43 3 w.heap.size b v (eF raw vars most)/\Below w.heap.size w b:=
 (Fx w c off h raw vars most a k d g j f l).mono fun e b ⟨v,us,h1,h2,_,h3⟩=>⟨v,h1,⟨us,h2⟩,h3⟩
end
section
open Go Go.RowKit Go.Deep Rd
theorem qP {i:Nat} (h:10 <= i):Lib.decDigits i=Lib.decDigits (i / 10) ++ [UInt8.ofNat (48 + i % 10)]:=by rw [Lib.decDigits,dif_neg (by omega)]
theorem Cj {u:Nat} (h:u < 1000):Lib.nDigits u <= 3:=by
 rw [<- Lib.decDigits_length,Lib.decDigits];split
 ·simp
 ·rw [Lib.decDigits];split
  ·simp
  ·rw [Lib.decDigits,dif_pos (by omega)];simp
def Fg (d:Nat):ByteArray:=⟨#[UInt8.ofNat (48 + d % 10)]⟩
theorem Bh (d:Nat):(Fg d).size=1:=rfl
def zf (u m:Nat) (s:ByteArray):Prop:=if m < 10 then s.data.toList=Lib.decDigits u else Lib.decDigits (m / 10) ++ s.data.toList=Lib.decDigits u
theorem Ff (u:Nat):zf u u (Fg u):=by
 unfold zf;split
 ·rw [Lib.decDigits_one (by omega)];unfold Fg;rw [Nat.mod_eq_of_lt (by omega)]
 ·rw [qP (i:=u) (by omega)];rfl
theorem Hy {u m:Nat} {s:ByteArray} (h:zf u m s) (a:10 <= m):zf u (m / 10) (Fg (m / 10) ++ s):=by
 unfold zf at h ⊢;rw [if_neg (by omega)] at h;have e:(Fg (m / 10) ++ s).data.toList=UInt8.ofNat (48 + m / 10 % 10) :: s.data.toList:=by unfold Fg;simp [ByteArray.data_append]
 split
 ·rw [e,<- h,Lib.decDigits_one (by omega),Nat.mod_eq_of_lt (by omega)];rfl
 ·rw [e,<- h,qP (i:=m / 10) (by omega)];simp
theorem IQ (w:World) (z:Int) (u:Nat) (a:z=((48 + u % 10:Nat):Int)):(convert 107 9 (.slice (some ⟨w.heap.size,0,none⟩) 1 1)).run Tryz.prog (w.alloc (.cells #[.int .u8 z] 5))=.ok (.string (Fg u)) (w.alloc (.cells #[.int .u8 z] 5)):=by
 refine run_convert_bytes_back _ 107 9 5 ⟨w.heap.size,0,none⟩ 1 [UInt8.ofNat (48 + u % 10)] Tryz.underlying107 Tryz.underlying5 Tryz.underlying9 ?_;intro j b;have d:j=0:=by simpa using b
 subst d
 have r:(w.alloc (.cells #[.int .u8 z] 5)).rowIs w.heap.size 5 1 (fun _=>.int .u8 z):=World.rowIs_alloc w _ _ _ fun i c=>match i,c with
  | 0,_=>rfl
 have:=r.cell (i:=0) (by omega);show (w.alloc (.cells #[.int .u8 z] 5)).cell? ⟨w.heap.size,0,none⟩=_
 rw [this,a];have:(UInt8.ofNat (48 + u % 10)).toNat=48 + u % 10:=by
  rw [UInt8.toNat_ofNat'];omega
 rw [List.getElem_cons_zero,this]
theorem yC (u:Nat) (w:World) (k:u < 1000):
  Calls Tryz.prog 44 #[.int .i64 (u:Nat)] w fun e j=>e=.returned (.string ⟨(Lib.decDigits u).toArray⟩)/\Below w.heap.size w j:=by
 have t:¬ ((u:Nat):Int) < 0:=by omega
 have h:=IQ w (48 + (u:Int) % 10) u (by omega);go_enter Tryz.func44,Tryz.ntmps44
 go_wp2;have g:Hid (Below w.heap.size w (w.alloc (.cells #[.int .u8 (48 + (u:Int) % 10)] 5))):=bR.alloc lr _
 clear h;generalize w.alloc (.cells #[.int .u8 (48 + (u:Int) % 10)] 5)=p at *
 go_loopw [0,3] (fun i s wr=>∃ (m:Nat) (b:ByteArray),m < 1000/\b.size + m <= 1001/\i=.int .i64 m/\s=.string b/\Hid (zf u m b)/\Hid (Below w.heap.size w wr)) (fun i _ _=>(intOf i).toNat)
 case atStart=>exact ⟨u,_,k,by rw [Bh];omega,rfl,rfl,Ff u,g⟩
 case round=>
  obtain ⟨m,b,r,n,rfl,rfl,hd,c⟩:=hrel;by_cases d:m < 10
  ·have E:Hid (b=⟨(Lib.decDigits u).toArray⟩):=by
    have:=hd.out;unfold zf at this;rw [if_pos d] at this;have o:b.data=(Lib.decDigits u).toArray:=by rw [<- this]
    cases b;exact congrArg _ o
   have a:¬ (10:Int) <= (m:Int):=by omega
   go_wp2;go_ret
   exact ⟨by rw [<- E.out];rfl,c.out⟩
  ·have a:(10:Int) <= (m:Int):=by omega
   have l:(Fg (m / 10)).size=1:=Bh _;have h:=IQ wr (48 + (m:Int) / 10 % 10) (m / 10) (by omega);have q:((m:Nat):Int).tdiv 10=((m / 10:Nat):Int):=by rw [Int.tdiv_eq_ediv_of_nonneg (by omega)];rfl
   have f:Hid (Below w.heap.size w (wr.alloc (.cells #[.int .u8 (48 + (m:Int) / 10 % 10)] 5))):=c.out.alloc c.out.size _;go_wp2;go_roundw
   case rel=>exact ⟨m / 10,_,by omega,by rw [ByteArray.size_append];omega,by go_num,rfl,Hy hd.out (by omega),f⟩
   case measure=>simp [intOf];omega
theorem Hw (x:Int) (w:World) (c:x.natAbs < 1000):
  Calls Tryz.prog 44 #[.int .i64 x] w fun e a=>e=.returned (.string ⟨(Lib.itoa x).toArray⟩)/\Below w.heap.size w a:=by
 by_cases m:x < 0
 ·have h:(Lib.decDigits x.natAbs).length <= 1000:=by
   rw [Lib.decDigits_length];exact Nat.le_trans (Cj c) (by omega)
  have j:Hid (Calls Tryz.prog 44 #[.int .i64 (-x)] w fun e a=>∃ t:ByteArray,e=.returned (.string t)/\t.size <= 1000/\Hid (t.data.toList=Lib.decDigits x.natAbs)/\Below w.heap.size w a):=by
   have:(-x:Int)=((x.natAbs:Nat):Int):=by omega
   rw [this];refine (yC _ _ c).mono ?_;rintro e a ⟨rfl,b⟩;exact ⟨_,rfl,h,rfl,b⟩
  have l:IntKind.i64.wrap (-x)=-x:=by rw [IntKind.wrap_i64];omega
  have g:(x == -x)=false:=by simp;omega
  have E:Hid (Lib.itoa x=45 :: Lib.decDigits x.natAbs):=by
   have:=Lib.itoa_neg x.natAbs (by omega);have e:-((x.natAbs:Nat):Int)=x:=by omega
   rw [e] at this;exact this
  go_enter Tryz.func44,Tryz.ntmps44
  go_wp2_with (go_at_call 44;(with_reducible refine j.out.mono ?_);rintro e a ⟨t,rfl,d,f,b⟩;have k:=hide b;clear b;simp only [])
  go_ret
  refine ⟨?_,k.out⟩;show Ending.returned (Value.string _)=_
  congr 2
  apply ByteArray.ext
  apply Array.toList_inj.1
  rw [E.out,<- f.out];simp [ByteArray.data_append]
 ·have:=yC x.natAbs w c;have e:((x.natAbs:Nat):Int)=x:=by omega
  rw [e] at this;have i:Lib.itoa x=Lib.decDigits x.natAbs:=by rw [<- Lib.itoa_nonneg,e]
  rw [i];exact this
end
section
open Go Go.RowKit Go.Deep Rd Go.Proofs.YtceahffmenbibaaGreatDoor.So
theorem Rows.later {w w':World} {d:Value} {L:List Cl} (h:Rows w d L) (f:Below w.heap.size w w'):Rows w' d L:=by
 obtain ⟨a,c,b,o,n,m⟩:=h;refine ⟨a,c,b,o,n,fun i l=>?_⟩;obtain ⟨q,ci,k,g1,g2,g⟩:=m i l;exact ⟨q,ci,k,by rw [f.cell (p:=⟨b,i,none⟩) (block_lt_of_cell g1)];exact g1,g2,fun j e=>by rw [f.cell (p:=⟨k,j,none⟩) (block_lt_of_cell (g j e))];exact g j e⟩
def NB (n m:Nat):Bs:=[112,32,99,110,102,32] ++ Lib.decDigits n ++ [32] ++ Lib.decDigits m ++ [10]
def tY (x:Int):Bs:=Lib.itoa x ++ [32]
def mM (n:Nat) (L:List Cl) (k:Nat):Bs:=NB n L.length ++ (L.take k).flatMap Gh
theorem zV (n:Nat) (L:List Cl):mM n L L.length=fF n L:=by unfold mM fF NB;rw [List.take_length]
theorem Gt (n:Nat) (L:List Cl) (k:Nat) (h:k < L.length):mM n L (k + 1)=mM n L k ++ ((L[k]).flatMap tY ++ [48,10]):=by
 unfold mM;rw [List.take_succ_eq_append_getElem h,List.flatMap_append,List.flatMap_cons,List.flatMap_nil,List.append_nil];unfold Gh tY;rw [List.append_assoc]
theorem zU (n:Nat) (L:List Cl) (k:Nat) (h:k <= L.length):(mM n L k).length <= (fF n L).length:=by
 rw [<- zV];unfold mM;rw [List.length_append,List.length_append,List.take_length];have:L.flatMap Gh=(L.take k).flatMap Gh ++ (L.drop k).flatMap Gh:=by rw [<- List.flatMap_append,List.take_append_drop]
 rw [this,List.length_append];omega
theorem Qp (c:Cl) (q:Nat):((c.take q).flatMap tY).length <= (c.flatMap tY).length:=by
 have:c.flatMap tY=(c.take q).flatMap tY ++ (c.drop q).flatMap tY:=by rw [<- List.flatMap_append,List.take_append_drop]
 rw [this,List.length_append];omega
theorem Hu (x:Int) (w:World) (a:x.natAbs < 1000):
  Calls Tryz.prog 44 #[.int .i64 x] w fun e b=>∃ t:ByteArray,e=.returned (.string t)/\t.size <= 10/\Hid (t.data.toList=Lib.itoa x)/\Hid (Below w.heap.size w b):=by
 refine (Hw x w a).mono ?_;rintro e b ⟨rfl,c⟩;refine ⟨_,rfl,?_,rfl,c⟩;show (Lib.itoa x).length <= 10
 by_cases h:x < 0
 ·have:=Lib.itoa_neg x.natAbs (by omega);have e:-((x.natAbs:Nat):Int)=x:=by omega
  rw [e] at this;rw [this,List.length_cons,Lib.decDigits_length];have:=Cj a;omega
 ·have e:((x.natAbs:Nat):Int)=x:=by omega
  rw [<- e,Lib.itoa_nonneg,Lib.decDigits_length];have:=Cj a;omega
theorem Pv {t:ByteArray} {l:Bs} (h:t.data.toList=l):t=⟨l.toArray⟩:=by
 apply ByteArray.ext;apply Array.toList_inj.1;rw [h]
theorem uo (a b:ByteArray):(a ++ b).data.toList=a.data.toList ++ b.data.toList:=by simp [ByteArray.data_append]
theorem LP (w:World) (C:Value) (L:List Cl) (n:Nat) (hL:Rows w C L) (D:∀ c ∈ L,∀ x ∈ c,pW n x) (J:∀ c ∈ L,c.length <= 20001) (hm:L.length < 1000) (hn:n <= 50) (H:(fF n L).length <= 20000):
  Calls Tryz.prog 25 #[.int .i64 (n:Nat),C] w fun e V=>e=.returned (.string ⟨(fF n L).toArray⟩)/\Below w.heap.size w V:=by
 have HZ:=hide D;have HL:=hide J;have S:=hide H;have y:=hide Hu;obtain ⟨la,lc,b,rfl,r,K⟩:=hL;have j:=hide K;clear D J H K;go_enter Tryz.func25,Tryz.ntmps25
 go_upto_region 2 with (first
  |(go_at_call 44;(with_reducible refine (y.out (n:Nat) _ (by omega)).mono ?_);rintro h w1 ⟨t1,rfl,Y,O,v⟩;simp only [])
  |(go_at_call 44;(with_reducible refine (y.out (L.length:Nat) _ (by omega)).mono ?_);rintro M w2 ⟨t2,rfl,X,N,Q⟩;simp only []))
 go_wp2;go_loopw [5,6] (fun m i wr=>∃ (k:Nat) (t:ByteArray),k <= L.length/\i=.int .i64 k/\m=.string t/\Hid (t.data.toList=mM n L k)/\Hid (Below w.heap.size w wr)) (fun _ i _=>L.length - (intOf i).toNat)
 case atStart=>
  refine ⟨0,_,zl,rfl,rfl,?_,v.out.trans (Q.out.mono v.out.size)⟩;unfold Hid;simp only [uo,O.out,N.out,Lib.itoa_nonneg];unfold mM NB;simp
 case round=>
  obtain ⟨k,t,hk,rfl,rfl,hd,o⟩:=hrel;clear Y X O N v Q;have ab:t.size <= 20000:=by
   have l:t.size=(mM n L k).length:=by rw [<- hd.out];simp
   have:=zU n L k hk;have:=S.out;omega
  by_cases a:k < L.length
  ·have ea:=r (by omega);subst ea;obtain ⟨R,ci,P,h,M,u⟩:=j.out k a;clear r;have ae:wr.cell? ⟨b,k,none⟩=some (.slice R (L[k]).length ci):=by rw [o.out.cell (p:=⟨b,k,none⟩) (block_lt_of_cell h)];exact h
   have E3:=hide u;clear u;have ac:=HL.out _ (List.getElem_mem a);have z:Hid (∀ x ∈ L[k],pW n x):=HZ.out _ (List.getElem_mem a);have T:Hid (mM n L (k + 1)=mM n L k ++ ((L[k]).flatMap tY ++ [48,10])):=Gt n L k a;have I:(mM n L k).length + ((L[k]).flatMap tY).length <= 20000:=by
    have l:=zU n L (k + 1) a;have r:=S.out;rw [T.out,List.length_append,List.length_append] at l;omega
   generalize L[k]=c at *
   go_wp2;go_loopw [5,7] (fun m i U=>∃ (q:Nat) (t:ByteArray),q <= c.length/\i=.int .i64 q/\m=.string t/\Hid (t.data.toList=mM n L k ++ (c.take q).flatMap tY)/\Hid (Below w.heap.size w U)) (fun _ i _=>c.length - (intOf i).toNat)
   case atStart=>exact ⟨0,t,zl,rfl,rfl,by unfold Hid;rw [hd.out];simp,o⟩
   case round=>
    obtain ⟨q,B,hq,rfl,rfl,f,d⟩:=hrel;have G:B.size <= 20000:=by
     have l:B.size=(mM n L k ++ (c.take q).flatMap tY).length:=by rw [<- f.out];simp
     have:=Qp c q;rw [List.length_append] at l;omega
    have af:wr.cell? ⟨b,k,none⟩=some (.slice R c.length ci):=by rw [d.out.cell (p:=⟨b,k,none⟩) (block_lt_of_cell h)];exact h
    by_cases g:q < c.length
    ·have ei:=M (by omega);subst ei;have s:=E3.out q g;have ad:wr.cell? ⟨P,q,none⟩=some (.int .i64 c[q]):=by rw [d.out.cell (p:=⟨P,q,none⟩) (block_lt_of_cell s)];exact s
     obtain ⟨aa,Z⟩:=z.out _ (List.getElem_mem g);have HQ:Hid ((c.take (q + 1)).flatMap tY=(c.take q).flatMap tY ++ (Lib.itoa c[q] ++ [32])):=by
      unfold Hid;rw [List.take_succ_eq_append_getElem g,List.flatMap_append];simp [tY]
     clear s h;generalize c[q]=x at *
     have QX:=hide (fun W=>y.out x W (by omega));go_upto_region 7 with (go_at_call 44;(with_reducible refine (QX.out _).mono ?_);rintro u w3 ⟨t3,rfl,s3,d3,b3⟩;simp only [])
     go_wp2;go_roundw
     case rel=>exact ⟨q + 1,_,by omega,by go_num,rfl,by unfold Hid;rw [uo,uo,f.out,d3.out,HQ.out];simp,d.out.trans (b3.out.mono d.out.size)⟩
     case measure=>simp [intOf];omega
    ·have e:q=c.length:=by omega
     subst e;rw [List.take_length] at f;go_wp2;go_roundw
     case rel=>exact ⟨k + 1,_,by omega,by go_num,rfl,by unfold Hid;rw [T.out,uo,f.out];simp,d⟩
     case measure=>simp [intOf];omega
  ·have e:k=L.length:=by omega
   subst e;have E:Hid (t=⟨(fF n L).toArray⟩):=Pv (by rw [hd.out,zV]);go_wp2;go_ret;exact ⟨by rw [<- E.out];rfl,o.out⟩
def jO (k v:Nat):Bool:=decide (k / 2 ^ v % 2=1)
theorem Rl:∀ k:Nat,k < 64->(bits BinOp.and IntKind.i64 (k:Int) 1 == 1)=jO k 0/\(bits BinOp.and IntKind.i64 (k:Int) 2 == 2)=jO k 1/\(bits BinOp.and IntKind.i64 (k:Int) 4 == 4)=jO k 2/\(bits BinOp.and IntKind.i64 (k:Int) 8 == 8)=jO k 3/\(bits BinOp.and IntKind.i64 (k:Int) 16 == 16)=jO k 4/\(bits BinOp.and IntKind.i64 (k:Int) 32 == 32)=jO k 5:=by
 decide +kernel
theorem Rm (w:World) (k:Nat) (b:k < 64):∀ v,v < 6->(w.alloc (.cells #[.bool (bits BinOp.and IntKind.i64 (↑k) 1 == 1),.bool (bits BinOp.and IntKind.i64 (↑k) 2 == 2),.bool (bits BinOp.and IntKind.i64 (↑k) 4 == 4),.bool (bits BinOp.and IntKind.i64 (↑k) 8 == 8),.bool (bits BinOp.and IntKind.i64 (↑k) 16 == 16),.bool (bits BinOp.and IntKind.i64 (↑k) 32 == 32)] 4)).cell? ⟨w.heap.size,v,none⟩=some (.bool (jO k v)):=by
 obtain ⟨j,h,g,f,e,d⟩:=Rl k b;rw [j,h,g,f,e,d]
 have r:(w.alloc (.cells #[.bool (jO k 0),.bool (jO k 1),.bool (jO k 2),.bool (jO k 3),.bool (jO k 4),.bool (jO k 5)] 4)).rowIs w.heap.size 4 6 (fun v=>.bool (jO k v)):=World.rowIs_alloc w _ _ _ fun i c=>match i,c with
  | 0,_=>rfl
  | 1,_=>rfl
  | 2,_=>rfl
  | 3,_=>rfl
  | 4,_=>rfl
  | 5,_=>rfl
 exact fun v a=>r.cell a
theorem six:∀ f e d c b a:Bool,∃ j,j < 64/\jO j 0=f/\jO j 1=e/\jO j 2=d/\jO j 3=c/\jO j 4=b/\jO j 5=a:=by
 intro f e d c b a;refine ⟨f.toNat + 2 * e.toNat + 4 * d.toNat + 8 * c.toNat + 16 * b.toNat + 32 * a.toNat,?_⟩;revert f e d c b a
 decide +kernel
theorem PD {L:List Cl} (b:∀ c ∈ L,∀ x ∈ c,pW 6 x):(∃ t,Sat t L)↔∃ j,j < 64/\jP L (jO j)=true:=by
 refine ⟨fun ⟨t,h⟩=>?_,fun ⟨j,g,h⟩=>⟨_,Nb (fun c a x i=>(b c a x i).1) h⟩⟩;obtain ⟨j,g,u,s,r,q,p,o⟩:=six (t 1) (t 2) (t 3) (t 4) (t 5) (t 6);refine ⟨j,g,IC (n:=6) b fun c a=>?_⟩;obtain ⟨l,f,e,k⟩:=h c a;refine ⟨l,f,e,?_⟩;have m:=(b c a l f).2
 have d:∀ v,v < 6->jO j v=t (v + 1):=fun v d=>match v,d with
  | 0,_=>u
  | 1,_=>s
  | 2,_=>r
  | 3,_=>q
  | 4,_=>p
  | 5,_=>o
 show jO j (l.natAbs - 1)=_
 rw [d _ (by omega),show l.natAbs - 1 + 1=l.natAbs by omega,k]
theorem TQ (vars:Nat) (r:Int):(qd vars r).length <= 4:=by
 unfold qd;rw [ku];omega
theorem Ji {raw:List Int} {vars most:Nat} {c:Cl} (h:c ∈ eF raw vars most):∃ r,c=qd vars r:=by
 obtain ⟨r,_,rfl⟩:=List.mem_map.1 h;exact ⟨r,rfl⟩
theorem TN {raw:List Int} {vars most:Nat} (b:0 < vars):∀ c ∈ eF raw vars most,∀ x ∈ c,pW vars x:=fun c d x a=>by
 obtain ⟨r,rfl⟩:=Ji d;exact I5 b _ _ x a
theorem CU {raw:List Int} {vars most:Nat}:(eF raw vars most).length <= most:=by unfold eF;simp;omega
theorem Cu:∀ (L:List Cl),(∀ c ∈ L,c.length <= 4)->x8 L <= 4 * L.length
 | [],_=>by simp [x8]
 | c :: L,h=>by
  have a:=Cu L (fun d hd=>h d (by simp [hd]));have b:=h c (by simp);simp only [x8,List.map_cons,List.sum_cons,List.length_cons] at a ⊢;omega
theorem MP:∀ (L:List Cl),(∀ c ∈ L,c.length <= 4)->Aw L <= 7 * L.length
 | [],_=>by simp [Aw]
 | c :: L,h=>by
  have a:=MP L (fun d hd=>h d (by simp [hd]));have b:=h c (by simp);simp only [Aw,List.map_cons,List.sum_cons,List.length_cons] at a ⊢;omega
theorem Pj {L:List Cl} (a:∀ c ∈ L,∀ x ∈ c,pW 6 x) (b:∀ c ∈ L,c.length <= 4) (k:L.length <= 40):U5 ⟨(fF 6 L).toArray⟩ 6 L 31:=by
 have j:=Cu L b;have i:=DF (n:=6) (by omega) (l:=L) (by omega) a;refine ⟨?_,?_,by omega,a,fun c d=>by have:=b c d;omega,by omega,fun Z h w e g f=>uL (by omega) w e L g a (fun c d=>by have:=b c d;omega) (by omega) f (by have:=MP L b;omega),by omega⟩
 ·exact JU (by omega) (by omega) a (by omega) (by omega)
 ·show (fF 6 L).length <= maxLen
  unfold maxLen;omega
def Ld (w:World) (v:Value) (c:Cl):Prop:=∃ (ai:Option Addr) (ci bi:Nat),v=.slice ai c.length ci/\(0 < c.length->ai=some ⟨bi,0,none⟩)/\∀ j (hj:j < c.length),w.cell? ⟨bi,j,none⟩=some (.int .i64 c[j])
theorem Ld.later {w w':World} {v:Value} {c:Cl} (h:Ld w v c) (e:Below w.heap.size w w'):Ld w' v c:=by
 obtain ⟨a,k,b,i,g,f⟩:=h;exact ⟨a,k,b,i,g,fun j d=>cell_later (f j d) e⟩
structure Ls (w:World) (lv:Value) (us:List Value) (L:List Cl):Prop where
 len:us.length=L.length
 shape:(lv=.slice none 0 0/\us=[])\/∃ b c,lv=.slice (some ⟨b,0,none⟩) us.length c/\∀ i (hi:i < us.length),w.cell? ⟨b,i,none⟩=some us[i]
 row:∀ i (hi:i < us.length),Ld w us[i] (L[i]'(by rw [<- len];exact hi))
theorem Ls.form {w:World} {d:Value} {us:List Value} {L:List Cl} (h:Ls w d us L):∃ (a:Option Addr) (c b:Nat),d=.slice a L.length c/\(0 < L.length->a=some ⟨b,0,none⟩)/\∀ i (f:i < us.length),w.cell? ⟨b,i,none⟩=some us[i]:=by
 have e:=h.len
 rcases h.shape with ⟨rfl,rfl⟩ | ⟨b,c,rfl,j⟩
 ·have k:L.length=0:=by rw [<- e];rfl
  exact ⟨none,0,0,by rw [k],fun g=>by omega,fun i f=>by simp at f⟩
 ·exact ⟨_,c,b,by rw [e],fun _=>rfl,j⟩
theorem Ls.rows {w:World} {e:Value} {us:List Value} {L:List Cl} (h:Ls w e us L):Rows w e L:=by
 obtain ⟨a,c,b,k,j,g⟩:=h.form;refine ⟨a,c,b,k,j,fun i f=>?_⟩;have d:i < us.length:=by rw [h.len];exact f
 obtain ⟨n,ci,m,g1,g2,l⟩:=h.row i d;exact ⟨n,ci,m,by rw [g i d,g1],g2,l⟩
theorem Ls.src {w:World} {d:Value} {us:List Value} {L:List Cl} (h:Ls w d us L):Src w d us.length us:=by
 rcases h.shape with ⟨rfl,rfl⟩ | ⟨b,c,rfl,g⟩
 ·exact .inl ⟨rfl,rfl,rfl⟩
 ·refine .inr ⟨⟨b,0,none⟩,c,rfl,fun j u f=>?_⟩;obtain ⟨a,e⟩:=List.getElem?_eq_some_iff.1 f;have:=g j a;rw [e] at this;simpa [Addr.add_lit] using this
theorem Ls.one {w:World} {a:Value} {us:List Value} {L:List Cl} (h:Ls w a us L):∀ u ∈ us,u.oneCell'=true:=fun u b=>by
 obtain ⟨i,c,rfl⟩:=List.getElem_of_mem b;obtain ⟨e,ci,d,g1,_⟩:=h.row i c;rw [g1];rfl
theorem Ls.later {w w':World} {e:Value} {us:List Value} {L:List Cl} (h:Ls w e us L) (f:Below w.heap.size w w'):Ls w' e us L where
 len:=h.len
 shape:=by
  rcases h.shape with d | ⟨b,c,d,g⟩
  ·exact .inl d
  ·exact .inr ⟨b,c,d,fun i a=>cell_later (g i a) f⟩
 row:=fun i a=>(h.row i a).later f
theorem GZ {B te:Nat} {w:World} {v:Value} {us:List Value} {L:List Cl} (h:w.ownsRow B te 1 v us.length us) (c:us.length=L.length) (d:∀ i (a:i < us.length),Ld w us[i] (L[i]'(by rw [<- c];exact a))):Ls w v us L where
 len:=c
 shape:=by
  have e:=h
  rcases h.2 with ⟨rfl,f⟩ | ⟨g,b,j,rfl,_⟩
  ·exact .inl ⟨rfl,List.eq_nil_of_length_eq_zero f⟩
  ·refine .inr ⟨g,b,rfl,fun i a=>?_⟩;have:=e.cells (g:=g) rfl i us[i] (List.getElem?_eq_getElem a);simpa [Addr.add_lit] using this
 row:=d
theorem Oa {B d:Nat} {w:World} {u:Value} {c:Cl} (h:w.ownsRow B d 1 u c.length (AU c)):Ld w u c:=by
 have e:=h
 rcases h.2 with ⟨rfl,f⟩ | ⟨g,a,i,rfl,_⟩
 ·exact ⟨none,0,0,by rw [f],fun k=>by omega,fun j b=>by omega⟩
 ·refine ⟨some ⟨g,0,none⟩,a,g,rfl,fun _=>rfl,fun j b=>?_⟩;have:=e.cells (g:=g) rfl j (.int .i64 c[j]) (by simp [AU,b]);simpa [Addr.add_lit] using this
theorem nZ {te d B:Nat} {w:World} {v c:Value} {us:List Value} {L:List Cl} {b:List Int} (h:o7 te d B w v c us L b):Ls w v us L:=by
 refine GZ h.outer h.len fun i a=>?_
 have:=(h.inner i us[i] (List.getElem?_eq_getElem a)).1;have e:L.getD i []=L[i]'(by rw [<- h.len];exact a):=by simp [List.getD,<- h.len,a]
 rw [e] at this;exact Oa this
theorem mem_grown {te d B:Nat} {w w':World} {v c:Value} {us:List Value} {L:List Cl} {b:List Int} {row:Option Nat} (h:o7 te d B w v c us L b) (m:w.grownBy w' row) (l:∀ k,row=some k->k < B):o7 te d B w' v c us L b:=by
 have a:∀ {t n v xs},w.ownsRow B t 1 v n xs->w'.ownsRow B t 1 v n xs:=fun {t n v xs} ho=>by
  refine ho.kept m ?_
  cases i:v.ownBlock with
  | none=>exact .inl rfl
  | some g=>
   refine .inr fun e=>?_
   have p:=(ho.lt g i).1;have o:=l g e.symm;omega
 exact ⟨a h.outer,a h.row,h.len,fun j u f=>⟨a (h.inner j u f).1,(h.inner j u f).2⟩⟩
theorem uN {B t n:Nat} {w w':World} {v:Value} {b:List Value} (c:w.ownsRow B t 1 v n b) (a:Below w.heap.size w w'):w'.ownsRow B t 1 v n b:=by
 have e:w.grownBy w' none:=⟨a.os,a.tape,a.output,a.size,fun k d _=>a.block k d⟩;refine c.kept e ?_
 cases f:v.ownBlock with
 | none=>exact .inl rfl
 | some g=>exact .inr (by simp)
theorem Mm {us:List Value} {j:Nat} (h:j < us.length):us.reverse.take (j + 1)=us.reverse.take j ++ [us[us.length - 1 - j]'(by omega)]:=by
 rw [List.take_succ_eq_append_getElem (by simpa using h),List.getElem_reverse]
theorem Ls.rev {w:World} {c b:Value} {us:List Value} {L:List Cl} {B te:Nat} (h:Ls w c us L) (d:w.ownsRow B te 1 b us.length us.reverse):Ls w b us.reverse L.reverse:=
 GZ (by simpa using d) (by simp [h.len]) fun i f=>by
  have a:us.length - 1 - i < us.length:=by simp at f;omega
  have:=h.row _ a;simp only [List.getElem_reverse];have e:L.length - 1 - i=us.length - 1 - i:=by rw [h.len]
  simp only [e];exact this
theorem Ls.app {w:World} {k j g:Value} {us a:List Value} {L M:List Cl} {B te:Nat} (h:Ls w k us L) (f:Ls w j a M) (l:w.ownsRow B te 1 g (us.length + a.length) (us ++ a)):Ls w g (us ++ a) (L ++ M):=
 GZ (by simpa using l) (by simp [h.len,f.len]) fun i m=>by
  by_cases c:i < us.length
  ·have b:i < L.length:=by rw [<- h.len];exact c
   rw [List.getElem_append_left c,List.getElem_append_left b];exact h.row i c
  ·have b:¬ i < L.length:=by rw [<- h.len];exact c
   have d:i - us.length < a.length:=by simp at m;omega
   rw [List.getElem_append_right (by omega),List.getElem_append_right (by omega)];have:=f.row _ d;have e:i - L.length=i - us.length:=by rw [h.len]
   simp only [e];exact this
def U8 (w:World) (lb:Nat) (lv:Value) (us:List Value) (L:List Cl):Prop:=(∀ i (hi:i < us.length),w.cell? ⟨lb,i,none⟩=some us[i])/\Ls w lv us L
theorem U8.later {w w':World} {b:Nat} {a:Value} {us:List Value} {L:List Cl} (h:U8 w b a us L) (c:Below w.heap.size w w'):U8 w' b a us L:=
 ⟨fun i d=>cell_later (h.1 i d) c,h.2.later c⟩
end
end Kp
end Go.Proofs.YtceahffmenbibaaGreatDoor
