/- Kcla Kdig Ktxt Ktrl Kpla. -/
import Derived.Test.YtceahffmenbibaaGreatDoorG50
import Derived.Laws.IdiomStrings
import Derived.Laws.OwnMore
set_option linter.unusedVariables false
set_option linter.unusedSimpArgs false
set_option maxHeartbeats 4000000
set_option maxRecDepth 100000
namespace Go.Proofs.YtceahffmenbibaaGreatDoor
namespace Kp
section
open Go Go.RowKit Go.Deep Rd Go.Proofs.YtceahffmenbibaaGreatDoor.So
def lits (vars:Nat):Nat->Nat->Cl
 | _,0=>[]
 | c,n + 1=>(if c / 4 / vars % 2=1 then -((1 + c / 4 % vars:Nat):Int) else ((1 + c / 4 % vars:Nat):Int)) :: lits vars (c / 4 / vars) n
def lW (vars:Nat) (r:Int):Cl:=lits vars (kI r 1152921504606846976) (1 + kI r 1152921504606846976 % 4)
def bR (raw:List Int) (vars most:Nat):List Cl:=(raw.take most).map (lW vars)
theorem fU (vars:Nat):∀ n c,(lits vars c n).length=n
 | 0,_=>rfl
 | n + 1,c=>by simp [lits,fU vars n]
theorem IV {vars:Nat} (hv:0 < vars):∀ n c,∀ x ∈ lits vars c n,jo vars x
 | 0,_,x,h=>by cases h
 | n + 1,c,x,h=>by
  rcases List.mem_cons.1 h with rfl | h
  ·have:=Nat.mod_lt (c / 4) hv;unfold jo;split <;> omega
  ·exact IV hv n _ x h
theorem Na {te ti B:Nat} {w:World} {v:Value} {L:List Cl} (h:Xw te ti B w v L):Rows w v L:=by
 obtain ⟨a,c,b,h1,h2,h3,h4⟩:=h.lists;refine ⟨a,c,b,h1,h3,fun i hi=>?_⟩
 obtain ⟨u,g1,ai,ci,bi,g2,g3,g4,g5⟩:=h4 i hi;have e:L.getD i []=L[i]:=by simp [List.getD,hi]
 rw [e] at g2 g4 g5;subst g2;exact ⟨ai,ci,bi,g1,g4,fun j hj=>by rw [g5 j hj];simp [List.getD,hj]⟩
def Vu (us:List Value):Prop:=∀ (i j:Nat) u v,us[i]? = some u->us[j]? = some v->i ≠ j->u.ownBlock=none\/u.ownBlock ≠ v.ownBlock
theorem Vu.snoc {us:List Value} {u:Value} (h:Vu us) (hu:∀ (j:Nat) v,us[j]? = some v->v.ownBlock=none\/v.ownBlock ≠ u.ownBlock):Vu (us ++ [u]):=by
 intro i j x y hi hj hij;have li:=(List.getElem?_eq_some_iff.1 hi).1;have lj:=(List.getElem?_eq_some_iff.1 hj).1;simp at li lj;by_cases a:i < us.length
 ·rw [List.getElem?_append_left a] at hi;by_cases b:j < us.length
  ·rw [List.getElem?_append_left b] at hj;exact h i j x y hi hj hij
  ·have:j=us.length:=by omega
   subst this;simp at hj;subst hj;exact hu i x hi
 ·have:i=us.length:=by omega
  subst this;simp at hi;subst hi;rw [List.getElem?_append_left (by omega)] at hj
  rcases hu j y hj with e | e
  ·cases hx:u.ownBlock with
   | none=>exact .inl rfl
   | some g=>exact .inr (by rw [e];simp)
  ·exact .inr (fun h=>e h.symm)
theorem ER (w:World) (rb off rc:Nat) (raw:List Int) (vars most:Nat) (hraw:∀ i (hi:i < raw.length),w.cell? ⟨rb,off + i,none⟩=some (.int .i64 raw[i])) (hr:∀ x ∈ raw,-9223372036854775808 <= x/\x <= 9223372036854775807) (ra:Option Addr) (hra:0 < raw.length->ra=some ⟨rb,off,none⟩) (hv:0 < vars) (hv2:vars <= 50) (hm:most <= 1000):
  Calls Tryz.prog 23 #[.slice ra raw.length rc,.int .i64 (vars:Nat),.int .i64 (most:Nat)] w fun e w'=>∃ v us,e=.returned v/\ji 43 3 w.heap.size w' v (.slice none 0 0) us (bR raw vars most) []/\Vu us/\Below w.heap.size w w':=by
 have HRAW:=hide hraw;have HR:=hide hr;clear hraw hr;obtain ⟨i0,hi,hz0,hz1,hz2⟩:=info_parts Tryz.D7;obtain ⟨j0,hj,hy0,hy1,hy2⟩:=info_parts Tryz.KQ;go_enter Tryz.func23,Tryz.ntmps23
 go_wp2;go_loopw [7,8] (fun cv i wr=>∃ (k:Nat) (us:List Value),k <= raw.length/\k <= most/\i=.int .i64 k/\Hid (ji 43 3 w.heap.size wr cv (.slice none 0 0) us ((raw.take k).map (lW vars)) [])/\Hid (Vu us)/\Hid (Below w.heap.size w wr)) (fun _ i _=>raw.length - (intOf i).toNat)
 case atStart=>exact ⟨0,[],Nat.zero_le _,Nat.zero_le _,rfl,⟨World.ownsRow_nil _ _ _ _,World.ownsRow_nil _ _ _ _,rfl,fun j u h=>by simp at h⟩,(fun i j u v h=>by simp at h),Below.refl _ _⟩
 case round=>
  obtain ⟨k,us,hk,Zq,rfl,hmem,HA,hb⟩:=hrel;obtain ⟨oa,oc,hcv⟩:=aH hmem.out.outer;subst hcv;by_cases hlt:k < raw.length
  ·by_cases hlm:k < most
   ·have ea:=hra (by omega)
    subst ea;clear hra;have ck:wr.cell? ⟨rb,off + k,none⟩=some (.int .i64 raw[k]):=by
     rw [hb.out.cell (p:=⟨rb,off + k,none⟩) (block_lt_of_cell (HRAW.out k hlt))];exact HRAW.out k hlt
    have hrr:=HR.out _ (List.getElem_mem hlt);have HS:Hid ((raw.take (k + 1)).map (lW vars)=(raw.take k).map (lW vars) ++ [lW vars raw[k]]):=by
     unfold Hid;rw [List.take_succ_eq_append_getElem hlt,List.map_append];rfl
    generalize raw[k]=r at *
    have QP:Hid (∀ W:World,Calls Tryz.prog 22 #[.int .i64 r,.int .i64 1152921504606846976] W fun e w'=>∃ c0:Nat,Hid (c0=kI r 1152921504606846976)/\c0 < 1152921504606846976/\e=.returned (.int .i64 (c0:Nat))/\Below W.heap.size W w'):=fun W=>
     (Nt r 1152921504606846976 W hrr.1 hrr.2 (by omega) (by omega)).mono fun e w' ⟨a,b⟩=>⟨_,rfl,Nat.mod_lt _ (by omega),a,b⟩
    clear hrr;go_wp2_with (go_at_call 22;(with_reducible refine (QP.out _).mono ?_);rintro e1 w1 ⟨c0,hc0,hcl,rfl,hb1⟩;have M1:=hide (hmem.out.later hb1);have B1:=hide (hb.out.trans (hb1.mono hb.out.size));clear hb1 hmem hb;simp only [])
    have HC0:Hid (lW vars r=lits vars c0 (1 + c0 % 4)):=by unfold Hid lW;rw [hc0.out]
    clear QP hc0 ck;go_loopw [9,10,11] (fun cvv lv nv wx=>∃ (c q:Nat) (cur:Cl),c < 1152921504606846976/\q <= 4/\cur.length + q <= 4/\cvv=.int .i64 (c:Nat)/\nv=.int .i64 (q:Nat)/\Hid (lW vars r=cur ++ lits vars c q)/\Hid (ji 43 3 w.heap.size wx (.slice oa us.length oc) lv us ((raw.take k).map (lW vars)) cur)/\Hid (Below w.heap.size w wx)) (fun _ _ nv _=>(intOf nv).toNat)
    case atStart=>exact ⟨c0,1 + c0 % 4,[],hcl,by omega,by simp;omega,rfl,by go_num,HC0,M1,B1⟩
    case round=>
     obtain ⟨c,q,cur,hc,hq,GR,rfl,rfl,HC,hmem,hb⟩:=hrel;clear M1 B1 HC0;obtain ⟨la,lc,hlv⟩:=aH hmem.out.row;subst hlv;have ul:us.length <= 1000:=by rw [hmem.out.len];simp;omega
     have sb:=hb.out.size;by_cases hq0:0 < q
     ·obtain ⟨c1,hc1⟩:∃ c1,c1=c / 4:=⟨_,rfl⟩;obtain ⟨r1,hr1⟩:∃ r1,r1=c1 % vars:=⟨_,rfl⟩;obtain ⟨c2,hc2⟩:∃ c2,c2=c1 / vars:=⟨_,rfl⟩;have d1:(c:Int) / 4=(c1:Int):=by omega
      have d2:(c1:Int).tmod (vars:Int)=(r1:Int):=by rw [hr1,Int.tmod_eq_emod_of_nonneg (by omega),Int.natCast_emod]
      have d3:(c1:Int).tdiv (vars:Int)=(c2:Int):=by rw [hc2,Int.tdiv_eq_ediv_of_nonneg (by omega),Int.natCast_ediv]
      have hr1l:r1 < vars:=by rw [hr1];exact Nat.mod_lt _ hv
      have hc1l:c1 < 1152921504606846976:=by omega
      have Zz:c2 < 1152921504606846976:=by rw [hc2];exact Nat.lt_of_le_of_lt (Nat.div_le_self _ _) hc1l
      have hv0:¬ (vars:Int)=0:=by omega
      have dw1:IntKind.i64.wrap (c1:Int)=(c1:Int):=by rw [IntKind.wrap_i64];omega
      have dw2:IntKind.i64.wrap (c2:Int)=(c2:Int):=by rw [IntKind.wrap_i64];omega
      have dw3:IntKind.i64.wrap (r1:Int)=(r1:Int):=by rw [IntKind.wrap_i64];omega
      have HL:Hid (lits vars c q=(if c2 % 2=1 then -((1 + r1:Nat):Int) else ((1 + r1:Nat):Int)) :: lits vars c2 (q - 1)):=by
       obtain ⟨q',rfl⟩:∃ q',q=q' + 1:=⟨q - 1,by omega⟩
       unfold Hid;rw [hr1,hc2,hc1];rfl
      clear hr1 hc2 hc1;by_cases hodd:c2 % 2=1
      ·have ho:((c2:Int) % 2 == 1)=true:=by simp;omega
       rw [if_pos hodd] at HL;have wn:IntKind.i64.wrap (-(1 + (r1:Int)))=-(1 + (r1:Int)):=by rw [IntKind.wrap_i64];omega
       obtain ⟨x,hx⟩:∃ x:Int,x=-(1 + (r1:Int)):=⟨_,rfl⟩;have hx2:-((1 + r1:Nat):Int)=x:=by rw [hx];omega
       rw [hx2] at HL;clear hx2;go_upto_region 15 with fail
       rw [<- hx];clear hx;go_wp2_with (at_builtin;refine wpList_append_own_at _ rfl _ _ 43 rfl w.heap.size 3 i0 (.int .i64 0) 1 8 Tryz.underlying43 hi hz0 hz1 hz2 rfl (by decide) _ _ _ rfl (hmem.out.row.alloc _) ⟨wr.heap.size,0,none⟩ 1 1 [_] rfl rfl (cell_one_new _ _ _) (by simp [Value.oneCell']) (by unfold maxLen;omega) (by omega) (by simp;omega) ?_)
       intro EO w6 hown' hgrow _ hat';have M:Hid (ji 43 3 w.heap.size w6 (.slice oa us.length oc) EO us ((raw.take k).map (lW vars)) (cur ++ [x])):=hmem.out.lit (by decide) hown' hgrow (by simpa using hat')
       have B3:Hid (Below w.heap.size w w6):=(hb.out.alloc sb _).grown hgrow (by simp;omega) (fun k hk=>(hmem.out.row.lt k hk).1)
       clear hown' hgrow hat';go_wp2;go_roundw
       case rel=>exact ⟨c2,q - 1,cur ++ [x],Zz,by omega,by simp;omega,rfl,by go_num,by unfold Hid;rw [HC.out,HL.out];simp,M,B3⟩
       case measure=>simp [intOf];omega
      ·have ho:((c2:Int) % 2 == 1)=false:=by simp;omega
       rw [if_neg hodd] at HL;obtain ⟨x,hx⟩:∃ x:Int,x=1 + (r1:Int):=⟨_,rfl⟩;have hx2:((1 + r1:Nat):Int)=x:=by rw [hx];omega
       rw [hx2] at HL;clear hx2;go_upto_region 15 with fail
       rw [<- hx];clear hx;go_wp2_with (at_builtin;refine wpList_append_own_at _ rfl _ _ 43 rfl w.heap.size 3 i0 (.int .i64 0) 1 8 Tryz.underlying43 hi hz0 hz1 hz2 rfl (by decide) _ _ _ rfl (hmem.out.row.alloc _) ⟨wr.heap.size,0,none⟩ 1 1 [_] rfl rfl (cell_one_new _ _ _) (by simp [Value.oneCell']) (by unfold maxLen;omega) (by omega) (by simp;omega) ?_)
       intro EO w6 hown' hgrow _ hat';have M:Hid (ji 43 3 w.heap.size w6 (.slice oa us.length oc) EO us ((raw.take k).map (lW vars)) (cur ++ [x])):=hmem.out.lit (by decide) hown' hgrow (by simpa using hat')
       have B3:Hid (Below w.heap.size w w6):=(hb.out.alloc sb _).grown hgrow (by simp;omega) (fun k hk=>(hmem.out.row.lt k hk).1)
       clear hown' hgrow hat';go_wp2;go_roundw
       case rel=>exact ⟨c2,q - 1,cur ++ [x],Zz,by omega,by simp;omega,rfl,by go_num,by unfold Hid;rw [HC.out,HL.out];simp,M,B3⟩
       case measure=>simp [intOf];omega
     ·have hq00:q=0:=by omega
      subst hq00;have HC':Hid (lW vars r=cur):=by
       have:=HC.out;rw [show lits vars c 0=[] from rfl,List.append_nil] at this;exact this
      go_wp2_with (at_builtin;refine wpList_append_own_at _ rfl _ _ 32 rfl w.heap.size 43 j0 (.slice none 0 0) 1 24 Tryz.underlying32 hj hy0 hy1 hy2 rfl (by decide) _ _ _ rfl (hmem.out.outer.alloc _) ⟨wr.heap.size,0,none⟩ 1 1 [.slice la _ lc] rfl rfl (cell_one_new _ _ _) (by simp [Value.oneCell']) (by unfold maxLen;omega) (by omega) (by simp;omega) ?_)
      intro cv' w3 hown' hgrow _ hat;have M:Hid (ji 43 3 w.heap.size w3 cv' (.slice none 0 0) (us ++ [.slice la cur.length lc]) ((raw.take (k + 1)).map (lW vars)) []):=by
       unfold Hid;rw [HS.out,HC'.out];exact hmem.out.zero (by decide) hown' hgrow
      have B3:Hid (Below w.heap.size w w3):=(hb.out.alloc sb _).grown hgrow (by simp;omega) (fun k hk=>(hmem.out.outer.lt k hk).1)
      have A3:Hid (Vu (us ++ [.slice la cur.length lc])):=HA.out.snoc fun j v hj=>(hmem.out.inner j v hj).2
      clear hown' hgrow hat;go_wp2;go_roundw
      case rel=>exact ⟨k + 1,_,by omega,by omega,by go_num,M,A3,B3⟩
      case measure=>simp [intOf];omega
   ·have E:Hid (bR raw vars most=(raw.take k).map (lW vars)):=by
     have:k=most:=by omega
     rw [this];rfl
    go_wp2;go_ret
    exact ⟨_,_,rfl,by rw [E.out];exact hmem.out,HA.out,hb.out⟩
  ·have E:Hid (bR raw vars most=(raw.take k).map (lW vars)):=by
    unfold Hid bR;rw [List.take_of_length_le (by omega),List.take_of_length_le (by omega)]
   go_wp2;go_ret
   exact ⟨_,_,rfl,by rw [E.out];exact hmem.out,HA.out,hb.out⟩
end
section
open Go Go.RowKit Go.Deep Rd
theorem oG {i:Nat} (h:10 <= i):Lib.decDigits i=Lib.decDigits (i / 10) ++ [UInt8.ofNat (48 + i % 10)]:=by rw [Lib.decDigits,dif_neg (by omega)]
theorem AY {u:Nat} (h:u < 1000):Lib.nDigits u <= 3:=by
 rw [<- Lib.decDigits_length,Lib.decDigits];split
 ·simp
 ·rw [Lib.decDigits];split
  ·simp
  ·rw [Lib.decDigits,dif_pos (by omega)];simp
def EG (d:Nat):ByteArray:=⟨#[UInt8.ofNat (48 + d % 10)]⟩
theorem zV (d:Nat):(EG d).size=1:=rfl
def yc (u m:Nat) (s:ByteArray):Prop:=if m < 10 then s.data.toList=Lib.decDigits u else Lib.decDigits (m / 10) ++ s.data.toList=Lib.decDigits u
theorem EF (u:Nat):yc u u (EG u):=by
 unfold yc;split
 ·rw [Lib.decDigits_one (by omega)];unfold EG;rw [Nat.mod_eq_of_lt (by omega)]
 ·rw [oG (i:=u) (by omega)];rfl
theorem Ho {u m:Nat} {s:ByteArray} (h:yc u m s) (hm:10 <= m):yc u (m / 10) (EG (m / 10) ++ s):=by
 unfold yc at h ⊢;rw [if_neg (by omega)] at h
 have e:(EG (m / 10) ++ s).data.toList=UInt8.ofNat (48 + m / 10 % 10) :: s.data.toList:=by unfold EG;simp [ByteArray.data_append]
 split
 ·rw [e,<- h,Lib.decDigits_one (by omega),Nat.mod_eq_of_lt (by omega)];rfl
 ·rw [e,<- h,oG (i:=m / 10) (by omega)];simp
theorem II (w:World) (z:Int) (u:Nat) (hz:z=((48 + u % 10:Nat):Int)):(convert 107 9 (.slice (some ⟨w.heap.size,0,none⟩) 1 1)).run Tryz.prog (w.alloc (.cells #[.int .u8 z] 5))=.ok (.string (EG u)) (w.alloc (.cells #[.int .u8 z] 5)):=by
 refine run_convert_bytes_back _ 107 9 5 ⟨w.heap.size,0,none⟩ 1 [UInt8.ofNat (48 + u % 10)] Tryz.underlying107 Tryz.underlying5 Tryz.underlying9 ?_;intro j hj;have e0:j=0:=by simpa using hj
 subst e0
 have r:(w.alloc (.cells #[.int .u8 z] 5)).rowIs w.heap.size 5 1 (fun _=>.int .u8 z):=World.rowIs_alloc w _ _ _ fun i hi=>match i,hi with
  | 0,_=>rfl
 have:=r.cell (i:=0) (by omega)
 show (w.alloc (.cells #[.int .u8 z] 5)).cell? ⟨w.heap.size,0,none⟩=_
 rw [this,hz];have:(UInt8.ofNat (48 + u % 10)).toNat=48 + u % 10:=by
  rw [UInt8.toNat_ofNat'];omega
 rw [List.getElem_cons_zero,this]
theorem xw (u:Nat) (w:World) (hu:u < 1000):
  Calls Tryz.prog 44 #[.int .i64 (u:Nat)] w fun e w'=>e=.returned (.string ⟨(Lib.decDigits u).toArray⟩)/\Below w.heap.size w w':=by
 have h0:¬ ((u:Nat):Int) < 0:=by omega
 have h1:=II w (48 + (u:Int) % 10) u (by omega)
 go_enter Tryz.func44,Tryz.ntmps44
 go_wp2;have HB0:Hid (Below w.heap.size w (w.alloc (.cells #[.int .u8 (48 + (u:Int) % 10)] 5))):=(Below.refl _ _).alloc (Nat.le_refl _) _
 clear h1;generalize w.alloc (.cells #[.int .u8 (48 + (u:Int) % 10)] 5)=w1 at *
 go_loopw [0,3] (fun i s wr=>∃ (m:Nat) (b:ByteArray),m < 1000/\b.size + m <= 1001/\i=.int .i64 m/\s=.string b/\Hid (yc u m b)/\Hid (Below w.heap.size w wr)) (fun i _ _=>(intOf i).toNat)
 case atStart=>exact ⟨u,_,hu,by rw [zV];omega,rfl,rfl,EF u,HB0⟩
 case round=>
  obtain ⟨m,b,hm,hbs,rfl,rfl,hd,hb⟩:=hrel;by_cases h10:m < 10
  ·have E:Hid (b=⟨(Lib.decDigits u).toArray⟩):=by
    have:=hd.out;unfold yc at this;rw [if_pos h10] at this;have e2:b.data=(Lib.decDigits u).toArray:=by rw [<- this]
    cases b;exact congrArg _ e2
   have h10i:¬ (10:Int) <= (m:Int):=by omega
   go_wp2;go_ret
   exact ⟨by rw [<- E.out];rfl,hb.out⟩
  ·have h10i:(10:Int) <= (m:Int):=by omega
   have hd1:(EG (m / 10)).size=1:=zV _;have h1:=II wr (48 + (m:Int) / 10 % 10) (m / 10) (by omega)
   have q1:((m:Nat):Int).tdiv 10=((m / 10:Nat):Int):=by rw [Int.tdiv_eq_ediv_of_nonneg (by omega)];rfl
   have HB1:Hid (Below w.heap.size w (wr.alloc (.cells #[.int .u8 (48 + (m:Int) / 10 % 10)] 5))):=hb.out.alloc hb.out.size _;go_wp2;go_roundw
   case rel=>exact ⟨m / 10,_,by omega,by rw [ByteArray.size_append];omega,by go_num,rfl,Ho hd.out (by omega),HB1⟩
   case measure=>simp [intOf];omega
theorem Hm (x:Int) (w:World) (hx:x.natAbs < 1000):
  Calls Tryz.prog 44 #[.int .i64 x] w fun e w'=>e=.returned (.string ⟨(Lib.itoa x).toArray⟩)/\Below w.heap.size w w':=by
 by_cases h0:x < 0
 ·have hl:(Lib.decDigits x.natAbs).length <= 1000:=by
   rw [Lib.decDigits_length];exact Nat.le_trans (AY hx) (by omega)
  have QD:Hid (Calls Tryz.prog 44 #[.int .i64 (-x)] w fun e w'=>∃ t:ByteArray,e=.returned (.string t)/\t.size <= 1000/\Hid (t.data.toList=Lib.decDigits x.natAbs)/\Below w.heap.size w w'):=by
   have:(-x:Int)=((x.natAbs:Nat):Int):=by omega
   rw [this];refine (xw _ _ hx).mono ?_;rintro e w' ⟨rfl,hb⟩;exact ⟨_,rfl,hl,rfl,hb⟩
  have w1:IntKind.i64.wrap (-x)=-x:=by rw [IntKind.wrap_i64];omega
  have hne:(x == -x)=false:=by simp;omega
  have E:Hid (Lib.itoa x=45 :: Lib.decDigits x.natAbs):=by
   have:=Lib.itoa_neg x.natAbs (by omega)
   have e:-((x.natAbs:Nat):Int)=x:=by omega
   rw [e] at this;exact this
  go_enter Tryz.func44,Tryz.ntmps44
  go_wp2_with (go_at_call 44;(with_reducible refine QD.out.mono ?_);rintro e w' ⟨t,rfl,hts,ht,hb⟩;have HB:=hide hb;clear hb;simp only [])
  go_ret
  refine ⟨?_,HB.out⟩;show Ending.returned (Value.string _)=_
  congr 2
  apply ByteArray.ext
  apply Array.toList_inj.1
  rw [E.out,<- ht.out];simp [ByteArray.data_append]
 ·have:=xw x.natAbs w hx;have e:((x.natAbs:Nat):Int)=x:=by omega
  rw [e] at this;have e2:Lib.itoa x=Lib.decDigits x.natAbs:=by rw [<- Lib.itoa_nonneg,e]
  rw [e2];exact this
end
section
open Go Go.RowKit Go.Deep Rd Go.Proofs.YtceahffmenbibaaGreatDoor.So
def OO (n m:Nat):Bs:=[112,32,99,110,102,32] ++ Lib.decDigits n ++ [32] ++ Lib.decDigits m ++ [10]
def rA (x:Int):Bs:=Lib.itoa x ++ [32]
def jL (n:Nat) (L:List Cl) (k:Nat):Bs:=OO n L.length ++ (L.take k).flatMap FM
theorem yY (n:Nat) (L:List Cl):jL n L L.length=dG n L:=by unfold jL dG OO;rw [List.take_length]
theorem Ga (n:Nat) (L:List Cl) (k:Nat) (h:k < L.length):jL n L (k + 1)=jL n L k ++ ((L[k]).flatMap rA ++ [48,10]):=by
 unfold jL;rw [List.take_succ_eq_append_getElem h,List.flatMap_append,List.flatMap_cons,List.flatMap_nil,List.append_nil];unfold FM rA;rw [List.append_assoc]
theorem yX (n:Nat) (L:List Cl) (k:Nat) (h:k <= L.length):(jL n L k).length <= (dG n L).length:=by
 rw [<- yY];unfold jL;rw [List.length_append,List.length_append,List.take_length];have:L.flatMap FM=(L.take k).flatMap FM ++ (L.drop k).flatMap FM:=by rw [<- List.flatMap_append,List.take_append_drop]
 rw [this,List.length_append];omega
theorem Tu (c:Cl) (q:Nat):((c.take q).flatMap rA).length <= (c.flatMap rA).length:=by
 have:c.flatMap rA=(c.take q).flatMap rA ++ (c.drop q).flatMap rA:=by rw [<- List.flatMap_append,List.take_append_drop]
 rw [this,List.length_append];omega
theorem Hl (x:Int) (w:World) (hx:x.natAbs < 1000):
  Calls Tryz.prog 44 #[.int .i64 x] w fun e w'=>∃ t:ByteArray,e=.returned (.string t)/\t.size <= 10/\Hid (t.data.toList=Lib.itoa x)/\Hid (Below w.heap.size w w'):=by
 refine (Hm x w hx).mono ?_;rintro e w' ⟨rfl,hb⟩;refine ⟨_,rfl,?_,rfl,hb⟩;show (Lib.itoa x).length <= 10
 by_cases h:x < 0
 ·have:=Lib.itoa_neg x.natAbs (by omega)
  have e:-((x.natAbs:Nat):Int)=x:=by omega
  rw [e] at this;rw [this,List.length_cons,Lib.decDigits_length];have:=AY hx;omega
 ·have e:((x.natAbs:Nat):Int)=x:=by omega
  rw [<- e,Lib.itoa_nonneg,Lib.decDigits_length];have:=AY hx;omega
theorem RV {t:ByteArray} {l:Bs} (h:t.data.toList=l):t=⟨l.toArray⟩:=by
 apply ByteArray.ext;apply Array.toList_inj.1;rw [h]
theorem rR (a b:ByteArray):(a ++ b).data.toList=a.data.toList ++ b.data.toList:=by simp [ByteArray.data_append]
theorem MK (w:World) (lv:Value) (L:List Cl) (n:Nat) (hL:Rows w lv L) (hz:∀ c ∈ L,∀ x ∈ c,jo n x) (hl:∀ c ∈ L,c.length <= 20001) (hm:L.length < 1000) (hn:n <= 50) (ht:(dG n L).length <= 20000):
  Calls Tryz.prog 25 #[.int .i64 (n:Nat),lv] w fun e w'=>e=.returned (.string ⟨(dG n L).toArray⟩)/\Below w.heap.size w w':=by
 have HZ:=hide hz;have HL:=hide hl;have HT:=hide ht;have QD:=hide Hl;obtain ⟨la,lc,b,rfl,h2,h3⟩:=hL;have HROW:=hide h3;clear hz hl ht h3;go_enter Tryz.func25,Tryz.ntmps25
 go_upto_region 2 with (first
  |(go_at_call 44;(with_reducible refine (QD.out (n:Nat) _ (by omega)).mono ?_);rintro e1 w1 ⟨t1,rfl,s1,d1,b1⟩;simp only [])
  |(go_at_call 44;(with_reducible refine (QD.out (L.length:Nat) _ (by omega)).mono ?_);rintro e2 w2 ⟨t2,rfl,s2,d2,b2⟩;simp only []))
 go_wp2;go_loopw [5,6] (fun sv i wr=>∃ (k:Nat) (t:ByteArray),k <= L.length/\i=.int .i64 k/\sv=.string t/\Hid (t.data.toList=jL n L k)/\Hid (Below w.heap.size w wr)) (fun _ i _=>L.length - (intOf i).toNat)
 case atStart=>
  refine ⟨0,_,Nat.zero_le _,rfl,rfl,?_,b1.out.trans (b2.out.mono b1.out.size)⟩;unfold Hid;simp only [rR,d1.out,d2.out,Lib.itoa_nonneg];unfold jL OO;simp
 case round=>
  obtain ⟨k,t,hk,rfl,rfl,hd,hb⟩:=hrel;clear s1 s2 d1 d2 b1 b2;have htl:t.size <= 20000:=by
   have h1:t.size=(jL n L k).length:=by rw [<- hd.out];simp
   have:=yX n L k hk;have:=HT.out;omega
  by_cases hlt:k < L.length
  ·have ea:=h2 (by omega)
   subst ea;obtain ⟨ai,ci,bi,e1,e2,e3⟩:=HROW.out k hlt;clear h2;have e1w:wr.cell? ⟨b,k,none⟩=some (.slice ai (L[k]).length ci):=by rw [hb.out.cell (p:=⟨b,k,none⟩) (block_lt_of_cell e1)];exact e1
   have E3:=hide e3;clear e3;have hcl:=HL.out _ (List.getElem_mem hlt);have HCZ:Hid (∀ x ∈ L[k],jo n x):=HZ.out _ (List.getElem_mem hlt);have HS:Hid (jL n L (k + 1)=jL n L k ++ ((L[k]).flatMap rA ++ [48,10])):=Ga n L k hlt;have hlen:(jL n L k).length + ((L[k]).flatMap rA).length <= 20000:=by
    have h1:=yX n L (k + 1) hlt;have h2:=HT.out;rw [HS.out,List.length_append,List.length_append] at h1;omega
   generalize L[k]=c at *
   go_wp2;go_loopw [5,7] (fun sv i wx=>∃ (q:Nat) (t:ByteArray),q <= c.length/\i=.int .i64 q/\sv=.string t/\Hid (t.data.toList=jL n L k ++ (c.take q).flatMap rA)/\Hid (Below w.heap.size w wx)) (fun _ i _=>c.length - (intOf i).toNat)
   case atStart=>exact ⟨0,t,Nat.zero_le _,rfl,rfl,by unfold Hid;rw [hd.out];simp,hb⟩
   case round=>
    obtain ⟨q,t',hq,rfl,rfl,hd',hb'⟩:=hrel;have htl':t'.size <= 20000:=by
     have h1:t'.size=(jL n L k ++ (c.take q).flatMap rA).length:=by rw [<- hd'.out];simp
     have:=Tu c q;rw [List.length_append] at h1;omega
    have FL:wr.cell? ⟨b,k,none⟩=some (.slice ai c.length ci):=by rw [hb'.out.cell (p:=⟨b,k,none⟩) (block_lt_of_cell e1)];exact e1
    by_cases WG:q < c.length
    ·have ei:=e2 (by omega)
     subst ei;have e4:=E3.out q WG;have e4':wr.cell? ⟨bi,q,none⟩=some (.int .i64 c[q]):=by rw [hb'.out.cell (p:=⟨bi,q,none⟩) (block_lt_of_cell e4)];exact e4
     obtain ⟨hx0,hx1⟩:=HCZ.out _ (List.getElem_mem WG);have HQ:Hid ((c.take (q + 1)).flatMap rA=(c.take q).flatMap rA ++ (Lib.itoa c[q] ++ [32])):=by
      unfold Hid;rw [List.take_succ_eq_append_getElem WG,List.flatMap_append];simp [rA]
     clear e4 e1;generalize c[q]=x at *
     have QX:=hide (fun W=>QD.out x W (by omega))
     go_upto_region 7 with (go_at_call 44;(with_reducible refine (QX.out _).mono ?_);rintro e3 w3 ⟨t3,rfl,s3,d3,b3⟩;simp only [])
     go_wp2;go_roundw
     case rel=>exact ⟨q + 1,_,by omega,by go_num,rfl,by unfold Hid;rw [rR,rR,hd'.out,d3.out,HQ.out];simp,hb'.out.trans (b3.out.mono hb'.out.size)⟩
     case measure=>simp [intOf];omega
    ·have e:q=c.length:=by omega
     subst e;rw [List.take_length] at hd';go_wp2;go_roundw
     case rel=>exact ⟨k + 1,_,by omega,by go_num,rfl,by unfold Hid;rw [HS.out,rR,hd'.out];simp,hb'⟩
     case measure=>simp [intOf];omega
  ·have e:k=L.length:=by omega
   subst e;have E:Hid (t=⟨(dG n L).toArray⟩):=RV (by rw [hd.out,yY])
   go_wp2;go_ret
   exact ⟨by rw [<- E.out];rfl,hb.out⟩
end
section
open Go Go.RowKit Go.Deep Rd Go.Proofs.YtceahffmenbibaaGreatDoor.So
theorem Xk (vars:Nat) (r:Int):(lW vars r).length <= 4:=by
 unfold lW;rw [fU];omega
theorem Bz {raw:List Int} {vars most:Nat} {c:Cl} (h:c ∈ bR raw vars most):∃ r,c=lW vars r:=by
 obtain ⟨r,_,rfl⟩:=List.mem_map.1 h;exact ⟨r,rfl⟩
theorem Xj {raw:List Int} {vars most:Nat} (hv:0 < vars):∀ c ∈ bR raw vars most,∀ x ∈ c,jo vars x:=fun c hc x hx=>by
 obtain ⟨r,rfl⟩:=Bz hc;exact IV hv _ _ x hx
theorem Un {raw:List Int} {vars most:Nat}:(bR raw vars most).length <= most:=by unfold bR;simp;omega
theorem Bd:∀ (L:List Cl),(∀ c ∈ L,c.length <= 4)->wM L <= 4 * L.length
 | [],_=>by simp [wM]
 | c :: L,h=>by
  have h1:=Bd L (fun d hd=>h d (by simp [hd]))
  have h2:=h c (by simp)
  simp only [wM,List.map_cons,List.sum_cons,List.length_cons] at h1 ⊢;omega
theorem NP:∀ (L:List Cl),(∀ c ∈ L,c.length <= 4)->yw L <= 7 * L.length
 | [],_=>by simp [yw]
 | c :: L,h=>by
  have h1:=NP L (fun d hd=>h d (by simp [hd]))
  have h2:=h c (by simp)
  simp only [yw,List.map_cons,List.sum_cons,List.length_cons] at h1 ⊢;omega
end
section
open Go Go.RowKit Go.Deep Rd Go.Proofs.YtceahffmenbibaaGreatDoor.So
def I8:Cl->Cl
 | []=>[]
 | x :: r=>-x :: r
def dm (vals:Nat->Bool) (c:Cl):Cl:=if fF c vals=true then c else I8 c
def eG (L:List Cl) (vals:Nat->Bool) (k:Nat):List Cl:=(L.take k).map (dm vals) ++ L.drop k
theorem uu (L:List Cl) (vals:Nat->Bool) (k:Nat):(eG L vals k).length=L.length:=by unfold eG;simp;omega
theorem Az (L:List Cl) (vals:Nat->Bool):eG L vals 0=L:=by simp [eG]
theorem Dg (L:List Cl) (vals:Nat->Bool):eG L vals L.length=L.map (dm vals):=by simp [eG]
theorem nU {L:List Cl} {vals:Nat->Bool} {k:Nat} (hk:k < L.length):(eG L vals k)[k]? = some L[k]:=by
 unfold eG;rw [List.getElem?_append_right (by simp;omega)]
 simp;rw [show k - min k L.length=0 by omega,Nat.add_zero,List.getElem?_eq_getElem hk]
theorem qZ {L:List Cl} {vals:Nat->Bool} {k:Nat} (hk:k < L.length):eG L vals (k + 1)=(eG L vals k).set k (dm vals L[k]):=by
 unfold eG;rw [List.take_succ_eq_append_getElem hk,List.map_append,List.set_append_right _ _ (by simp;omega),List.append_assoc]
 rw [show k - ((L.take k).map (dm vals)).length=0 by simp;omega,List.drop_eq_getElem_cons hk]
 rfl
theorem Pj (c:Cl):(I8 c).length=c.length:=by cases c <;> rfl
theorem zw (vals:Nat->Bool) (c:Cl):(dm vals c).length=c.length:=by
 unfold dm;split
 ·rfl
 ·exact Pj c
theorem Ug {n:Nat} {c:Cl} (h:∀ x ∈ c,jo n x):∀ x ∈ I8 c,jo n x:=by
 cases c with
 | nil=>exact h
 | cons y r=>
  intro x hx
  rcases List.mem_cons.1 hx with rfl | hx
  ·have:=h y (by simp)
   unfold jo at this ⊢;omega
  ·exact h x (by simp [hx])
theorem Dh {n:Nat} {vals:Nat->Bool} {c:Cl} (h:∀ x ∈ c,jo n x):∀ x ∈ dm vals c,jo n x:=by
 unfold dm;split
 ·exact h
 ·exact Ug h
theorem J4 {n:Nat} {vals:Nat->Bool} {c:Cl} (hc:c ≠ []) (h:∀ x ∈ c,jo n x):fF (dm vals c) vals=true:=by
 unfold dm;split
 ·assumption
 ·cases c with
  | nil=>exact absurd rfl hc
  | cons y r=>
   rename_i hm;have hy:=h y (by simp)
   unfold jo at hy;unfold fF at hm ⊢;simp only [I8,List.any_cons,Bool.or_eq_true,Int.natAbs_neg] at hm ⊢;left;have h1:¬ ((vals (y.natAbs - 1) == decide (0 < y))=true):=fun e=>hm (.inl e)
   have h2:decide (0 < -y)=!decide (0 < y):=by
    by_cases h3:0 < y
    ·simp [h3];omega
    ·simp [h3];omega
   rw [h2];revert h1;generalize decide (0 < y)=b;cases vals (y.natAbs - 1) <;> cases b <;> simp
theorem ji.put {te ti B:Nat} {w:World} {cv:Value} {us:List Value} {cs:List Cl} {i g cp:Nat} {x y:Int} {r:Cl} (hne:te ≠ ti) (h:ji te ti B w cv (.slice none 0 0) us cs []) (ha:Vu us) (hu:us[i]? = some (.slice (some ⟨g,0,none⟩) (x :: r).length cp)) (hc:cs[i]? = some (x :: r)):
  ji te ti B (w.setCell ⟨g,0,none⟩ (.int .i64 y)) cv (.slice none 0 0) us (cs.set i (y :: r)) []/\B <= g:=by
 have hi:=(h.inner i _ hu).1;have e:cs.getD i []=x :: r:=by rw [List.getD_eq_getElem?_getD,hc];rfl
 have li:i < cs.length:=(List.getElem?_eq_some_iff.1 hc).1;rw [e] at hi;obtain ⟨s1,s2⟩:=hi.stored 0 (.int .i64 y);refine ⟨⟨h.outer.kept s2 (own_ne h.outer hi hne),World.ownsRow_nil _ _ _ _,by rw [List.length_set];exact h.len,fun j u hj=>⟨?_,(h.inner j u hj).2⟩⟩,(hi.lt g rfl).1⟩
 by_cases ej:j=i
 ·subst ej;rw [hu] at hj;cases hj
  have e2:(cs.set j (y :: r)).getD j []=y :: r:=by rw [List.getD_eq_getElem?_getD,List.getElem?_set_self li];rfl
  rw [e2];exact s1
 ·have e2:(cs.set i (y :: r)).getD j []=cs.getD j []:=by rw [List.getD_eq_getElem?_getD,List.getElem?_set_ne (Ne.symm ej),<- List.getD_eq_getElem?_getD]
  rw [e2];exact (h.inner j u hj).1.kept s2 (by simpa [Value.ownBlock] using ha j i u _ hj hu ej)
theorem ji.at_ {te ti B:Nat} {w:World} {cv:Value} {us:List Value} {cs:List Cl} {i:Nat} {x:Int} {r:Cl} (h:ji te ti B w cv (.slice none 0 0) us cs []) (hc:cs[i]? = some (x :: r)):
  ∃ ob oc g cp,cv=.slice (some ⟨ob,0,none⟩) cs.length oc/\cs.length <= oc/\us[i]? = some (.slice (some ⟨g,0,none⟩) (x :: r).length cp)/\w.cell? ⟨ob,i,none⟩=some (.slice (some ⟨g,0,none⟩) (x :: r).length cp)/\w.cell? ⟨g,0,none⟩=some (.int .i64 x)/\w.frozen? ⟨g,0,none⟩=false/\Jk w (.slice (some ⟨ob,i,none⟩) 1 (oc - i)) [x :: r] i:=by
 have li:i < cs.length:=(List.getElem?_eq_some_iff.1 hc).1;have lu:i < us.length:=by rw [h.len];exact li
 have hu:=List.getElem?_eq_getElem lu;have hi:=(h.inner i _ hu).1;have e:cs.getD i []=x :: r:=by rw [List.getD_eq_getElem?_getD,hc];rfl
 rw [e] at hi;have hi0:=hi
 rcases hi.2 with ⟨_,h0⟩ | ⟨g,cp,cur,h1,_⟩
 ·cases h0
 ·rw [h1] at hu hi0;have ho:=h.outer
  rcases h.outer.2 with ⟨_,h0⟩ | ⟨ob,oc,cur',h2,_,_,h3,_⟩
  ·omega
  ·subst h2;have c1:=(ho.cells (g:=ob) rfl i _ hu);have c2:w.cell? ⟨ob,i,none⟩=some (.slice (some ⟨g,0,none⟩) (x :: r).length cp):=by simpa [Addr.add_lit] using c1
   have c3:∀ j (hj:j < (x :: r).length),w.cell? ⟨g,j,none⟩=some (.int .i64 (x :: r)[j]):=fun j hj=>by
    rw [hi0.cellAt j (by omega)]
    simp only [wR,List.getElem?_map,List.getElem?_eq_getElem hj,Option.map_some]
   refine ⟨ob,oc,g,cp,by rw [h.len],by rw [<- h.len];exact h3,hu,c2,c3 0 (by simp),hi0.frozenAt 0,some ⟨ob,i,none⟩,oc - i,ob,rfl,fun _=>rfl,fun j hj=>?_⟩
   have j0:j=0:=by simp at hj;omega
   subst j0;exact ⟨some ⟨g,0,none⟩,cp,g,c2,fun _=>rfl,c3⟩
def mX (n g og:Nat) (vals:Nat->Bool) (w:World):Prop:=∀ v,v < n->w.cell? ⟨g,og + v,none⟩=some (.bool (vals v))
theorem mX.later {n g og B:Nat} {vals:Nat->Bool} {w w':World} (h:mX n g og vals w) (hg:g < B) (hb:Below B w w'):mX n g og vals w':=fun v hv=>by
 rw [hb.cell (p:=⟨g,og + v,none⟩) hg];exact h v hv
def kr (w:World) (B n g og:Nat) (vals:Nat->Bool) (L:List Cl) (cv:Value) (us:List Value) (k:Nat) (wr:World):Prop:=
 ji 43 3 B wr cv (.slice none 0 0) us (eG L vals k) []/\Vu us/\mX n g og vals wr/\g < B/\w.heap.size <= B/\B <= wr.heap.size/\Below w.heap.size w wr
theorem kr.later {w wr w':World} {B n g og k:Nat} {vals:Nat->Bool} {L:List Cl} {cv:Value} {us:List Value} (h:kr w B n g og vals L cv us k wr) (hb:Below wr.heap.size wr w'):kr w B n g og vals L cv us k w':=by
 obtain ⟨h1,h2,h3,h4,h5,h6,h7⟩:=h;exact ⟨h1.later hb,h2,h3.later (by omega) hb,h4,h5,Nat.le_trans h6 hb.size,h7.trans (hb.mono (by omega))⟩
theorem kr.same {w wr:World} {B n g og k:Nat} {vals:Nat->Bool} {L:List Cl} {cv:Value} {us:List Value} (h:kr w B n g og vals L cv us k wr) (hk:k < L.length) (hm:fF L[k] vals=true):kr w B n g og vals L cv us (k + 1) wr:=by
 obtain ⟨h1,h2⟩:=h;refine ⟨?_,h2⟩;have e:eG L vals (k + 1)=eG L vals k:=by
  rw [qZ hk];unfold dm;rw [if_pos hm];have:=nU (vals:=vals) hk;obtain ⟨a,b⟩:=List.getElem?_eq_some_iff.1 this
  conv=>lhs;rw [<- b]
  exact List.set_getElem_self _
 rw [e];exact h1
theorem kr.turn {w wr:World} {B n g og k gb cp:Nat} {vals:Nat->Bool} {L:List Cl} {cv:Value} {us:List Value} {x:Int} {r:Cl} (h:kr w B n g og vals L cv us k wr) (hk:k < L.length) (hm:fF L[k] vals=false) (hx:L[k]=x :: r) (hu:us[k]? = some (.slice (some ⟨gb,0,none⟩) (x :: r).length cp)):kr w B n g og vals L cv us (k + 1) (wr.setCell ⟨gb,0,none⟩ (.int .i64 (-x))):=by
 obtain ⟨h1,h2,h3,h4,h5,h6,h7⟩:=h;have hg:=nU (vals:=vals) hk;rw [hx] at hg;obtain ⟨p1,p2⟩:=ji.put (y:=-x) (by decide) h1 h2 hu hg
 have e:eG L vals (k + 1)=(eG L vals k).set k (-x :: r):=by
  rw [qZ hk];unfold dm;rw [if_neg (by rw [hm];simp),hx];rfl
 have hb:Below B wr (wr.setCell ⟨gb,0,none⟩ (.int .i64 (-x))):=(Below.refl _ _).setCell (by exact p2) _
 exact ⟨by rw [e];exact p1,h2,h3.later h4 hb,h4,h5,Nat.le_trans h6 hb.size,h7.trans (hb.mono h5)⟩
theorem kr.rows {w wr:World} {B n g og:Nat} {vals:Nat->Bool} {L:List Cl} {cv:Value} {us:List Value} (h:kr w B n g og vals L cv us L.length wr):Rows wr cv (L.map (dm vals)):=by
 have:=h.1;rw [Dg] at this;exact Na ⟨us,this⟩
theorem De (Sr:World->Prop) (hSr:∀ {a b:World},Sr a->Below a.heap.size a b->Sr b)
  (hW:∀ W,Sr W->Calls Tryz.prog 16 #[] W fun e w'=>e=.returned (.bool true)/\Below W.heap.size W w')
  (n:Nat) (vals:Nat->Bool) (L0:List Cl) (hn0:0 < n) (hn:n <= 30)
  (hS:∀ W,Sr W->Calls Tryz.prog 19 #[.string ⟨(dG n (L0.map (dm vals))).toArray⟩] W fun e w'=>e=.returned (.tuple #[.bool true,.bool true])/\Below W.heap.size W w')
  (w:World) (hw:Sr w) (rb off rc:Nat) (raw:List Int) (hL:L0=bR raw n 100) (hraw:∀ i (hi:i < raw.length),w.cell? ⟨rb,off + i,none⟩=some (.int .i64 raw[i])) (hr:∀ x ∈ raw,-9223372036854775808 <= x/\x <= 9223372036854775807) (ra:Option Addr) (hra:0 < raw.length->ra=some ⟨rb,off,none⟩)
  (vb vo vc nv:Nat) (va:Option Addr) (hva:0 < nv->va=some ⟨vb,vo,none⟩) (hvc:nv <= vc) (U6:n=if nv=0 then 1 else min nv 30) (hvs:0 < nv->mX n vb vo vals w) (hv0:nv=0->vals 0=true)
  (hz:∀ c ∈ L0,∀ x ∈ c,jo n x) (h4:∀ c ∈ L0,c.length <= 4) (h1:∀ c ∈ L0,c ≠ []) (hm:L0.length <= 100) (ht:(dG n (L0.map (dm vals))).length <= 20000):
  Calls Tryz.prog 9 #[.slice ra raw.length rc,.slice va nv vc] w fun e w'=>e=.returned (.bool true)/\Below w.heap.size w w':=by
 have QW:=hide (hW w hw);have QC:Hid (∀ W g og,Below w.heap.size w W->mX n g og vals W->g < W.heap.size->Calls Tryz.prog 23 #[.slice ra raw.length rc,.int .i64 (n:Nat),.int .i64 100] W fun e w'=>∃ a c us,e=.returned (.slice a L0.length c)/\kr w W.heap.size n g og vals L0 (.slice a L0.length c) us 0 w'):=fun W g og hb hv hg=>by
  refine (ER W rb off rc raw n 100 (fun i hi=>by rw [hb.cell (p:=⟨rb,off + i,none⟩) (block_lt_of_cell (hraw i hi))];exact hraw i hi) hr ra hra hn0 (by omega) (by omega)).mono ?_
  rintro e w' ⟨v,us,rfl,hR,hA,hb'⟩;rw [<- hL] at hR;obtain ⟨a,c,rfl⟩:=aH hR.outer;have hl:=hR.len;rw [hl] at hR ⊢;exact ⟨a,c,us,rfl,by rw [Az];exact hR,hA,hv.later hg hb',hg,hb.size,hb'.size,hb.trans (hb'.mono hb.size)⟩
 have QM:Hid (∀ W (ob oc k g og vc:Nat) (x:Int) (r:Cl),Jk W (.slice (some ⟨ob,k,none⟩) 1 (oc - k)) [x :: r] k->mX n g og vals W->(∀ y ∈ x :: r,jo n y)->(x :: r).length <= 4->Calls Tryz.prog 24 #[.slice (some ⟨ob,k,none⟩) 1 (oc - k),.slice (some ⟨g,og,none⟩) n vc] W fun e w'=>e=.returned (.bool (fF (x :: r) vals))/\Below W.heap.size W w'):=fun W ob oc k g og vc x r h1 h2 h3 h4=>by
  have:=zD W _ [x :: r] k n g og vc vals h1 (by simpa using h3) (by intro c hc;simp only [List.mem_singleton] at hc;subst hc;omega) (by simp) (by omega) h2
  rw [show jZ [x :: r] vals=fF (x :: r) vals by simp [jZ]] at this
  exact this
 have QT:Hid (∀ W (a:Option Addr) (c:Nat),Below w.heap.size w W->Rows W (.slice a L0.length c) (L0.map (dm vals))->Calls Tryz.prog 25 #[.int .i64 (n:Nat),.slice a L0.length c] W fun e w'=>e=.returned (.string ⟨(dG n (L0.map (dm vals))).toArray⟩)/\Below w.heap.size w w'):=fun W a c hb hR=>
  (MK W _ (L0.map (dm vals)) n hR (fun c hc=>by obtain ⟨d,hd,rfl⟩:=List.mem_map.1 hc;exact Dh (hz d hd)) (fun c hc=>by obtain ⟨d,hd,rfl⟩:=List.mem_map.1 hc;rw [zw];have:=h4 d hd;omega) (by simp;omega) (by omega) ht).mono fun e w' ⟨h1,h2⟩=>⟨h1,hb.trans (h2.mono hb.size)⟩
 have QS:Hid (∀ W,Below w.heap.size w W->Calls Tryz.prog 19 #[.string ⟨(dG n (L0.map (dm vals))).toArray⟩] W fun e w'=>e=.returned (.tuple #[.bool true,.bool true])/\Below w.heap.size w w'):=fun W hb=>
  (hS W (hSr hw hb)).mono fun e w' ⟨h1,h2⟩=>⟨h1,hb.trans (h2.mono hb.size)⟩
 have HZ:=hide hz;have H4:=hide h4;have H1:=hide h1;have HVS:=hide hvs;have HV0:=hide hv0;clear hW hS hw hraw hr hra hz h4 h1 ht hL hSr hvs hv0;generalize (⟨(dG n (L0.map (dm vals))).toArray⟩:ByteArray)=tx at *
 go_enter Tryz.func9,Tryz.ntmps9
 go_upto_region 2 with (go_at_call 16;(with_reducible refine QW.out.mono ?_);rintro e1 w1 ⟨rfl,hb1⟩;have B1:=hide hb1;clear hb1 QW;simp only [])
 have V1:Hid (0 < nv->mX n vb vo vals w1):=fun h=>fun v hv=>by
  rw [B1.out.cell (p:=⟨vb,vo + v,none⟩) (block_lt_of_cell (HVS.out h v hv))];exact HVS.out h v hv
 clear HVS;have hnn:(n:Int) <= 30:=by omega
 have C3:∀ P:Prop,(nv=0->P)->(0 < nv/\nv <= 30->P)->(30 < nv->P)->P:=fun P a b c=>by
  rcases (by omega:nv=0\/0 < nv/\nv <= 30\/30 < nv) with h | h | h
  ·exact a h
  ·exact b h
  ·exact c h
 refine C3 _ ?ca ?cb ?cc
 case' ca=>
  intro h0;subst h0;have n1:n=1:=by simpa using U6
  obtain ⟨vo,hvo⟩:∃ vo:Nat,vo=0:=⟨0,rfl⟩;have VV:Hid (mX n w1.heap.size vo vals (w1.alloc (.cells #[.bool true] 4))):=fun v hv=>by
   have v0:v=0:=by omega
   subst v0 hvo;rw [HV0.out rfl];simp
  have BB:Hid (Below w.heap.size w (w1.alloc (.cells #[.bool true] 4))):=B1.out.alloc B1.out.size _;have GG:w1.heap.size < (w1.alloc (.cells #[.bool true] 4)).heap.size:=by simp
  clear U6 hva V1 HV0 C3;go_upto_region 6 with fail
  rw [show (Value.slice (some (⟨w1.heap.size,0,none⟩:Addr)) 1 1)=Value.slice (some ⟨w1.heap.size,vo,none⟩) n 1 by rw [n1,hvo]]
  clear n1 B1 hvo;generalize hX:w1.alloc (.cells #[.bool true] 4)=X at VV BB GG ⊢;generalize w1.heap.size=vb at VV GG ⊢;clear hX;obtain ⟨w1,hX⟩:∃ w1,w1=X:=⟨_,rfl⟩;subst hX
 case' cb=>
  rintro ⟨h0,Va⟩;have ea:=hva h0;subst ea;have n1:n=nv:=by rw [U6,if_neg (by omega)];omega
  subst n1;have VV:=hide (V1.out h0);have BB:=B1;have GG:vb < w1.heap.size:=by have:=block_lt_of_cell (VV.out 0 hn0);exact this
  clear U6 hva HV0 V1 B1 C3;go_upto_region 6 with fail
  rw [show ((n:Int) == 0)=false by simp;omega,show decide ((30:Int) < (n:Int))=false by simp;omega]
 case' cc=>
  intro Va;have ea:=hva (by omega)
  subst ea;have n1:n=30:=by rw [U6,if_neg (by omega)];omega
  have VV:=hide (V1.out (by omega))
  have BB:=B1;have GG:vb < w1.heap.size:=by have:=block_lt_of_cell (VV.out 0 hn0);exact this
  clear U6 hva HV0 V1 B1 C3;go_upto_region 6 with fail
  rw [show (Value.slice (some (⟨vb,vo,none⟩:Addr)) 30 vc)=Value.slice (some ⟨vb,vo,none⟩) n vc by rw [n1],show ((nv:Int) == 0)=false by simp;omega,show decide ((30:Int) < (nv:Int))=true by simp;omega]
  clear n1
 all_goals
  go_wp2_with (go_at_call 23;(with_reducible refine (QC.out _ vb vo BB.out VV.out GG).mono ?_);rintro e2 w2 ⟨la,lc,us,rfl,hR⟩;have R2:=hide hR;clear hR QC BB VV GG;simp only [])
  go_loopw [7] (fun i wr=>∃ k:Nat,k <= L0.length/\i=.int .i64 (k:Nat)/\Hid (kr w w1.heap.size n vb vo vals L0 (.slice la L0.length lc) us k wr)) (fun i _=>L0.length - (intOf i).toNat)
  case atStart=>exact ⟨0,Nat.zero_le _,rfl,R2⟩
  case round=>
   clear R2;obtain ⟨k,hk,rfl,hR⟩:=hrel;by_cases hlt:k < L0.length
   ·obtain ⟨x,r,hx⟩:∃ x r,L0[k]=x :: r:=by
     cases h:L0[k] with
     | nil=>exact absurd h (H1.out _ (List.getElem_mem hlt))
     | cons x r=>exact ⟨x,r,rfl⟩
    have hcz:Hid (∀ y ∈ x :: r,jo n y):=by
     have:=HZ.out _ (List.getElem_mem hlt);rw [hx] at this;exact this
    have hc4:(x :: r).length <= 4:=by
     have:=H4.out _ (List.getElem_mem hlt);rw [hx] at this;exact this
    have hxr:=hcz.out x (by simp)
    unfold jo at hxr;have pg:=nU (vals:=vals) hlt;rw [hx] at pg;obtain ⟨ob,oc,gb,cp,ec,eo,hu,c1,c2,c3,c4⟩:=ji.at_ hR.out.1 pg;rw [uu] at ec eo;obtain ⟨I9,_,ec3⟩:=Value.slice.inj ec;subst I9 ec3;have Yg:=hide (QM.out wr ob lc k vb vo);have Z7:Hid (∀ vc,Calls Tryz.prog 24 #[.slice (some ⟨ob,k,none⟩) 1 (lc - k),.slice (some ⟨vb,vo,none⟩) n vc] wr fun e w'=>e=.returned (.bool (fF (x :: r) vals))/\Below wr.heap.size wr w'):=fun vc=>QM.out wr ob lc k vb vo vc x r c4 hR.out.2.2.1 hcz.out hc4
    have SAME:Hid (fF (x :: r) vals=true->∀ W',Below wr.heap.size wr W'->kr w w1.heap.size n vb vo vals L0 (.slice (some ⟨ob,0,none⟩) L0.length lc) us (k + 1) W'):=fun hm W' hb=>(hR.out.later hb).same hlt (by rw [hx];exact hm)
    have TURN:Hid (fF (x :: r) vals=false->∀ W',Below wr.heap.size wr W'->kr w w1.heap.size n vb vo vals L0 (.slice (some ⟨ob,0,none⟩) L0.length lc) us (k + 1) (W'.setCell ⟨gb,0,none⟩ (.int .i64 (-x)))):=fun hm W' hb=>(hR.out.later hb).turn hlt (by rw [hx];exact hm) hx hu
    have CS:Hid (∀ W',Below wr.heap.size wr W'->W'.cell? ⟨ob,k,none⟩=some (.slice (some ⟨gb,0,none⟩) (x :: r).length cp)/\W'.cell? ⟨gb,0,none⟩=some (.int .i64 x)/\W'.frozen? ⟨gb,0,none⟩=false):=fun W' hb=>by
     obtain ⟨XW,oc',gb',cp',ec',eo',hu',c1',c2',c3',c4'⟩:=ji.at_ (hR.out.later hb).1 pg;rw [hu] at hu';cases hu'
     rw [uu] at ec';cases ec'
     exact ⟨c1',c2',c3'⟩
    clear c1 c2 c3 c4 pg hu Yg hR;generalize fF (x :: r) vals=mt at Z7 SAME TURN;have wn:IntKind.i64.wrap (-x)=-x:=by rw [IntKind.wrap_i64];omega
    have k0:(0:Int) <= (k:Int):=by omega
    have k1:(k:Int) + 1 <= (lc:Int):=by omega
    have k2:(k:Int) < (L0.length:Int):=by omega
    cases mt
    ·have TN:=hide (TURN.out rfl);clear TURN SAME;go_wp2_with (go_at_call 24;(with_reducible refine (Z7.out _).mono ?_);rintro e3 w3 ⟨rfl,hb3⟩;have B3:=hide hb3;obtain ⟨d1,d2,d3⟩:=CS.out _ hb3;clear hb3 Z7;simp only [])
     go_region
     all_goals
      go_wp2;go_roundw
      case rel=>exact ⟨k + 1,by omega,by go_num,(TN.out _ B3.out).later (Below.refl _ _).drew⟩
      case measure=>simp [intOf];omega
    ·have TN:=hide (SAME.out rfl);clear TURN SAME;go_wp2_with (go_at_call 24;(with_reducible refine (Z7.out _).mono ?_);rintro e3 w3 ⟨rfl,hb3⟩;have B3:=hide hb3;clear hb3 Z7;simp only [])
     go_roundw
     case rel=>exact ⟨k + 1,by omega,by go_num,TN.out _ B3.out⟩
     case measure=>simp [intOf];omega
   ·have e:k=L0.length:=by omega
    subst e;have RR:=hide hR.out.rows;have BR:=hide hR.out.2.2.2.2.2.2;clear hR;go_wp2_with (first
     |(go_at_call 25;(with_reducible refine (QT.out _ la lc BR.out RR.out).mono ?_);rintro e5 w5 ⟨rfl,hb5⟩;have B5:=hide hb5;clear hb5;simp only [])
     |(go_at_call 19;(with_reducible refine (QS.out _ B5.out).mono ?_);rintro e6 w6 ⟨rfl,hb6⟩;have B6:=hide hb6;clear hb6;simp only []))
    go_ret
    exact ⟨rfl,B6.out⟩
end
end Kp
end Go.Proofs.YtceahffmenbibaaGreatDoor
