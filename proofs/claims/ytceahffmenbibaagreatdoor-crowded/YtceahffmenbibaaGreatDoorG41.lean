/- Kcro Kcrl. -/
import Derived.Test.YtceahffmenbibaaGreatDoorG40
import Derived.Test.YtceahffmenbibaaGreatDoorG33
import Derived.Laws.OwnMore
set_option linter.unusedVariables false
set_option linter.unusedSimpArgs false
set_option maxHeartbeats 4000000
set_option maxRecDepth 100000
namespace Go.Proofs.YtceahffmenbibaaGreatDoor
namespace Kp
section
open Go Go.RowKit Go.Deep Rd Go.Proofs.YtceahffmenbibaaGreatDoor.So
def vK (n i k:Nat):Int:=((1 + i * n + k:Nat):Int)
def sP (n i k:Nat):Cl:=(List.range k).map fun q=>vK n i q
def kF (n i k m:Nat):List Cl:=(List.range m).map fun j=>[-vK n i k,-vK n j k]
def sQ (n i k:Nat):List Cl:=(List.range k).flatMap fun q=>kF n i q i
def crowd (n t:Nat):List Cl:=(List.range t).flatMap fun i=>sQ n i n ++ [sP n i n]
theorem LM (n i k:Nat):sP n i (k + 1)=sP n i k ++ [vK n i k]:=by unfold sP;rw [List.range_succ,List.map_append];rfl
theorem I4 (n i k m:Nat):kF n i k (m + 1)=kF n i k m ++ [[-vK n i k,-vK n m k]]:=by unfold kF;rw [List.range_succ,List.map_append];rfl
theorem Cn (n i k:Nat):sQ n i (k + 1)=sQ n i k ++ kF n i k i:=by unfold sQ;rw [List.range_succ,List.flatMap_append];simp
theorem zF (n t:Nat):crowd n (t + 1)=crowd n t ++ sQ n t n ++ [sP n t n]:=by unfold crowd;rw [List.range_succ,List.flatMap_append];simp
theorem JG (n:Nat) {i t:Nat} (h:i <= t):(crowd n i).length <= (crowd n t).length:=by
 obtain ⟨d,rfl⟩:∃ d,t=i + d:=⟨t - i,by omega⟩
 clear h
 induction d with
 | zero=>exact lr
 | succ d ih=>
  rw [<- Nat.add_assoc,zF,List.length_append,List.length_append];exact Nat.le_trans ih (Nat.le_trans (Nat.le_add_right _ _) (Nat.le_add_right _ _))
theorem KT {n i k m:Nat} (a:k <= 4) (hi:i <= 5) (c:m <= i) (d:(crowd n i).length <= 80):(crowd n i ++ sQ n i k ++ kF n i k m).length <= 110:=by
 have b:∀ k,(sQ n i k).length=k * i:=fun k=>by
  induction k with
  | zero=>simp [sQ]
  | succ k ih=>rw [Cn,List.length_append,ih,Nat.succ_mul];simp [kF]
 have f:(sQ n i k).length <= 20:=by rw [b];exact Nat.mul_le_mul a hi
 have e:(kF n i k m).length=m:=by simp [kF]
 rw [List.length_append,List.length_append];omega
theorem AO (w:World) (o:Obj) (x:Value) (t:TypeId):∀ j u,[x][j]? = some u->((w.alloc o).alloc (.cells #[x] t)).cell? ((⟨w.heap.size + 1,0,none⟩:Addr).add j)=some u:=by
 have h:=cell_one_new (w.alloc o) x t;rw [show (w.alloc o).heap.size=w.heap.size + 1 by simp] at h
 exact h
theorem gQ.YB {s b B:Nat} {wr r:World} {cv p f:Value} {c:List Value} {cs:List Cl} {q:Cl} {o:Obj} {x y:Int} (l:s ≠ b) (h:gQ s b B wr cv f c cs q) (z:B <= wr.heap.size)
  (d:r.ownsRow B s 1 p (c.length + 1) (c ++ [.slice (some ⟨wr.heap.size,0,none⟩) 2 2])) (a:((wr.alloc (.cells #[.int .i64 x,.int .i64 y] b)).alloc o).grownBy r cv.ownBlock):
  gQ s b B r p f (c ++ [.slice (some ⟨wr.heap.size,0,none⟩) 2 2]) (cs ++ [[x,y]]) q:=by
 have keep:∀ {n v xs},wr.ownsRow B b 1 v n xs->r.ownsRow B b 1 v n xs:=fun {n v xs} ho=>((ho.alloc _).alloc o).kept a (own_ne ho h.outer (fun e=>l e.symm))
 have new:(wr.alloc (.cells #[.int .i64 x,.int .i64 y] b)).ownsRow B b 1 (.slice (some ⟨wr.heap.size,0,none⟩) 2 2) 2 [.int .i64 x,.int .i64 y]:=World.ownsRow_lit wr _ 2 z (by unfold maxLen;omega) rfl
 have k:=(new.alloc o).kept a (own_ne (new.alloc o) ((h.outer.alloc _).alloc o) (fun e=>l e.symm))
 refine ⟨by simpa using d,keep h.row,by simp [h.len],fun j u i=>?_⟩
 by_cases m:j < c.length
 ·rw [List.getElem?_append_left m] at i;have t:(cs ++ [[x,y]]).getD j []=cs.getD j []:=by
   simp only [List.getD_eq_getElem?_getD];rw [List.getElem?_append_left (by rw [<- h.len];exact m)]
  rw [t];exact ⟨keep (h.inner j u i).1,(h.inner j u i).2⟩
 ·have e:j=c.length:=by
   have:=(List.getElem?_eq_some_iff.1 i).1;simp at this;omega
  subst e;simp at i;subst i;have t:(cs ++ [[x,y]]).getD c.length []=[x,y]:=by
   simp only [List.getD_eq_getElem?_getD];rw [h.len,List.getElem?_append_right lr];simp
  rw [t];refine ⟨k,?_⟩
  cases w:f.ownBlock with
  | none=>exact .inr (by simp [Value.ownBlock])
  | some g=>
   right
   have:=(h.row.lt g w).2;simp only [Value.ownBlock,ne_eq,Option.some.injEq];omega
theorem GY (Sr:World->Prop) (ag:∀ {a b:World},Sr a->Below a.heap.size a b->Sr b)
  (hW:∀ W,Sr W->Calls Tryz.prog 16 #[] W fun e s=>e=.returned (.bool true)/\Below W.heap.size W s)
  (r:Int) (n:Nat) (ap:-9223372036854775808 <= r) (ao:r <= 9223372036854775807) (hn:n=1 + jk r 4)
  (hS:∀ t,t=n\/t=n + 1->∀ W,Sr W->Calls Tryz.prog 19 #[.string ⟨(eX (t * n) (crowd n t)).toArray⟩] W fun e s=>e=.returned (.tuple #[.bool true,.bool (decide (t=n))])/\Below W.heap.size W s)
  (hz:∀ t,t=n\/t=n + 1->∀ c ∈ crowd n t,∀ x ∈ c,mQ (t * n) x) (hl:∀ t,t=n\/t=n + 1->∀ c ∈ crowd n t,c.length <= 5) (hm:∀ t,t=n\/t=n + 1->(crowd n t).length <= 80) (ht:∀ t,t=n\/t=n + 1->(eX (t * n) (crowd n t)).length <= 20000)
  (w:World) (hw:Sr w):
  Calls Tryz.prog 13 #[.int .i64 r] w fun e s=>e=.returned (.bool true)/\Below w.heap.size w s:=by
 have QW:=hide (hW w hw);have QP:Hid (∀ W:World,Calls Tryz.prog 22 #[.int .i64 r,.int .i64 4] W fun e s=>∃ p:Nat,Hid (p=jk r 4)/\p < 4/\e=.returned (.int .i64 (p:Nat))/\Below W.heap.size W s):=fun W=>
  (yF r 4 W ap ao (by omega) (by omega)).mono fun e s ⟨a,b⟩=>⟨_,rfl,Nat.mod_lt _ (by omega),a,b⟩
 have QT:Hid (∀ t,t=n\/t=n + 1->∀ W (a:Option Addr) (c:Nat),Below w.heap.size w W->Rows W (.slice a (crowd n t).length c) (crowd n t)->Calls Tryz.prog 25 #[.int .i64 ((t * n:Nat):Int),.slice a (crowd n t).length c] W fun e s=>e=.returned (.string ⟨(eX (t * n) (crowd n t)).toArray⟩)/\Below w.heap.size w s):=fun t h W a c E hR=>by
  have aB:t * n <= 5 * 4:=Nat.mul_le_mul (by have:jk r 4 < 4:=Nat.mod_lt _ (by omega);omega) (by have:jk r 4 < 4:=Nat.mod_lt _ (by omega);omega)
  exact (uw W _ (crowd n t) (t * n) hR (hz t h) (fun c hc=>by have:=hl t h c hc;omega) (by have:=hm t h;omega) (by omega) (ht t h)).mono fun e s ⟨J,h2⟩=>⟨J,E.trans (h2.mono E.size)⟩
 have QS:Hid (∀ t,t=n\/t=n + 1->∀ W,Below w.heap.size w W->Calls Tryz.prog 19 #[.string ⟨(eX (t * n) (crowd n t)).toArray⟩] W fun e s=>e=.returned (.tuple #[.bool true,.bool (decide (t=n))])/\Below w.heap.size w s):=fun t h W E=>
  (hS t h W (ag hw E)).mono fun e s ⟨J,h2⟩=>⟨J,E.trans (h2.mono E.size)⟩
 have HM:=hide hm;have HN:=hide hn;have aC:1 <= n:=by omega
 have O:n <= 4:=by have:jk r 4 < 4:=Nat.mod_lt _ (by omega);omega
 clear hW hS hw ag hz hl hm ht hn;obtain ⟨i0,hi,am,al,ak⟩:=info_parts Tryz.uR;obtain ⟨j0,hj,ad,ac,ab⟩:=info_parts Tryz.vS;go_enter Tryz.func13,Tryz.ntmps13
 go_upto_region 3 with (first
  |(go_at_call 16;(with_reducible refine QW.out.mono ?_);rintro e1 w1 ⟨rfl,af⟩;have B1:=hide af;clear af QW;simp only [])
  |(go_at_call 22;(with_reducible refine (QP.out _).mono ?_);rintro e2 w2 ⟨p,hp,aq,rfl,I⟩;have B2:=hide (B1.out.trans (I.mono B1.out.size));have HP:=hp;clear I B1 QP;simp only []))
 have ah:(1:Int) + (p:Int)=(n:Int):=by rw [HN.out,<- HP.out];omega
 rw [ah];clear ah HP HN aq;go_wp2;go_loopw [5] (fun tv wr=>∃ t:Nat,n <= t/\t <= n + 2/\tv=.int .i64 (t:Nat)/\Hid (Below w.heap.size w wr)) (fun tv _=>7 - (intOf tv).toNat)
 case atStart=>exact ⟨n,by omega,by omega,rfl,B2⟩
 case round=>
  obtain ⟨t,aA,az,rfl,E⟩:=hrel;clear B2;by_cases aD:t <= n + 1
  ·have N:t=n\/t=n + 1:=by omega
   have aj:=hide (QT.out t N);have D:=hide (QS.out t N);have av:=HM.out t N;have an:(t:Int) <= (n:Int) + 1:=by omega
   generalize (⟨(eX (t * n) (crowd n t)).toArray⟩:ByteArray)=tx at aj D;go_wp2;go_loopw [6,7] (fun lv iv wx=>∃ (i:Nat) (l:List Value),i <= t/\iv=.int .i64 (i:Nat)/\Hid (gQ 43 3 w.heap.size wx lv (.slice none 0 0) l (crowd n i) [])/\Hid (Below w.heap.size w wx)) (fun _ iv _=>t - (intOf iv).toNat)
   case atStart=>exact ⟨0,[],zl,rfl,⟨World.ownsRow_nil _ _ _ _,World.ownsRow_nil _ _ _ _,rfl,fun j u h=>by simp at h⟩,E⟩
   case round=>
    obtain ⟨i,l,hit,rfl,g,P⟩:=hrel;clear E;obtain ⟨Z,Y,o⟩:=dG g.out.outer;subst o;have ul:l.length=(crowd n i).length:=g.out.len;by_cases aH:i < t
    ·obtain ⟨q,hq⟩:∃ q:Nat,q=i * n:=⟨_,rfl⟩;have eq:(i:Int) * (n:Int)=(q:Int):=by rw [hq];exact (Int.natCast_mul i n).symm
     have ax:q <= 20:=by rw [hq];exact Nat.mul_le_mul (by omega:i <= 5) O
     have HQ:=hide hq;clear hq;have L:(crowd n i).length <= 80:=Nat.le_trans (JG n hit) av;have ai:Hid (∀ k m,k < n->m <= i->(crowd n i ++ sQ n i k ++ kF n i k m).length <= 110):=fun k m U ar=>KT (by omega) (by omega) ar L
     clear ul;go_wp2;go_loopw [6,8,9] (fun lv cv kv wy=>∃ (k:Nat) (l:List Value),k <= n/\kv=.int .i64 (k:Nat)/\Hid (gQ 43 3 w.heap.size wy lv cv l (crowd n i ++ sQ n i k) (sP n i k))/\Hid (Below w.heap.size w wy)) (fun _ _ kv _=>n - (intOf kv).toNat)
     case atStart=>exact ⟨0,l,zl,rfl,by unfold Hid;simpa [sQ,sP] using g.out,P⟩
     case round=>
      obtain ⟨k,l,aE,rfl,g,y⟩:=hrel;clear P;obtain ⟨Z,Y,o⟩:=dG g.out.outer;subst o;obtain ⟨ca,cc,o⟩:=dG g.out.row;subst o;have rl:(sP n i k).length <= 4:=by simp [sP];omega
      have X:=y.out.size;by_cases ae:k < n
      ·have M:l.length <= 110:=by
        have J:=ai.out k 0 ae zl;rw [show kF n i k 0=[] from rfl,List.append_nil] at J
        rw [g.out.len];exact J
       have EX:Hid (sP n i (k + 1)=sP n i k ++ [1 + (q:Int) + (k:Int)]):=by
        unfold Hid;rw [LM];unfold vK;rw [<- HQ.out];simp
       go_upto_region 14 with fail
       go_wp2_with (at_builtin;refine wpList_append_own_at _ rfl _ _ 43 rfl w.heap.size 3 i0 (.int .i64 0) 1 8 Tryz.underlying43 hi am al ak rfl (by decide) _ _ _ rfl (g.out.row.alloc _) ⟨wr.heap.size,0,none⟩ 1 1 [_] rfl rfl (cell_one_new _ _ _) (by simp [Value.oneCell']) (by unfold maxLen;omega) (by omega) (by simp;omega) ?_)
       intro C w6 f d _ K;have M6:Hid (gQ 43 3 w.heap.size w6 (.slice Z l.length Y) C l (crowd n i ++ sQ n i k ++ kF n i k 0) (sP n i (k + 1))):=by
        unfold Hid;rw [EX.out,show kF n i k 0=[] from rfl,List.append_nil]
        exact g.out.lit (by decide) f d (by simpa using K)
       have V:Hid (Below w.heap.size w w6):=(y.out.alloc X _).grown d (by simp;omega) (fun k U=>(g.out.row.lt k U).1)
       clear f d K g y EX M;go_wp2;go_loopw [6,10] (fun lv jv wz=>∃ (j:Nat) (l:List Value),j <= i/\jv=.int .i64 (j:Nat)/\Hid (gQ 43 3 w.heap.size wz lv C l (crowd n i ++ sQ n i k ++ kF n i k j) (sP n i (k + 1)))/\Hid (Below w.heap.size w wz)) (fun _ jv _=>i - (intOf jv).toNat)
       case atStart=>exact ⟨0,l,zl,rfl,M6,V⟩
       case round=>
        obtain ⟨j,l,aG,rfl,g,H⟩:=hrel;clear M6 V;obtain ⟨Z,Y,o⟩:=dG g.out.outer;subst o;have X:=H.out.size;by_cases aF:j < i
        ·obtain ⟨v,hv⟩:∃ v:Nat,v=j * n:=⟨_,rfl⟩;have ev:(j:Int) * (n:Int)=(v:Int):=by rw [hv];exact (Int.natCast_mul j n).symm
         have aw:v <= 20:=by rw [hv];exact Nat.mul_le_mul (by omega:j <= 5) O
         have M:l.length <= 110:=by rw [g.out.len];exact ai.out k j ae (by omega)
         have EX:Hid (kF n i k (j + 1)=kF n i k j ++ [[-(1 + (q:Int) + (k:Int)),-(1 + (v:Int) + (k:Int))]]):=by
          unfold Hid;rw [I4];unfold vK;rw [<- HQ.out,<- hv];simp
         clear hv;have x1:IntKind.i64.wrap (-(1 + (q:Int) + (k:Int)))=-(1 + (q:Int) + (k:Int)):=by rw [IntKind.wrap_i64];omega
         have x2:IntKind.i64.wrap (-(1 + (v:Int) + (k:Int)))=-(1 + (v:Int) + (k:Int)):=by rw [IntKind.wrap_i64];omega
         go_upto_region 18 with fail
         go_wp2_with (at_builtin;refine wpList_append_own_at _ rfl _ _ 32 rfl w.heap.size 43 j0 (.slice none 0 0) 1 24 Tryz.underlying32 hj ad ac ab rfl (by decide) _ _ _ rfl ((g.out.outer.alloc _).alloc _) ⟨wr.heap.size + 1,0,none⟩ 1 1 [.slice (some ⟨wr.heap.size,0,none⟩) 2 2] rfl rfl (AO _ _ _ _) (by simp [Value.oneCell']) (by unfold maxLen;omega) (by omega) (by simp;omega) ?_)
         intro R w7 f d _ Q;have M7:Hid (gQ 43 3 w.heap.size w7 R C (l ++ [.slice (some ⟨wr.heap.size,0,none⟩) 2 2]) (crowd n i ++ sQ n i k ++ kF n i k (j + 1)) (sP n i (k + 1))):=by
          unfold Hid;rw [EX.out,<- List.append_assoc];exact gQ.YB (by decide) g.out X f d
         have B7:Hid (Below w.heap.size w w7):=((H.out.alloc X _).alloc (by simp;omega) _).grown d (by simp;omega) (fun k U=>(g.out.outer.lt k U).1)
         clear f d Q g H EX;go_wp2;go_roundw
         case rel=>exact ⟨j + 1,_,by omega,by go_num,M7,B7⟩
         case measure=>simp [intOf];omega
        ·have e:j=i:=by omega
         subst e;go_wp2;go_roundw
         case rel=>exact ⟨k + 1,l,by omega,by go_num,by unfold Hid;rw [Cn,<- List.append_assoc];exact g.out,H⟩
         case measure=>simp [intOf];omega
      ·have e:k=n:=by omega
       subst e;have M:l.length <= 110:=by
        rw [g.out.len];have J:=KT (n:=k) (i:=i) (k:=k) (m:=0) (by omega) (by omega) zl L
        rw [show kF k i k 0=[] from rfl,List.append_nil] at J
        exact J
       go_wp2_with (at_builtin;refine wpList_append_own_at _ rfl _ _ 32 rfl w.heap.size 43 j0 (.slice none 0 0) 1 24 Tryz.underlying32 hj ad ac ab rfl (by decide) _ _ _ rfl (g.out.outer.alloc _) ⟨wr.heap.size,0,none⟩ 1 1 [.slice ca _ cc] rfl rfl (cell_one_new _ _ _) (by simp [Value.oneCell']) (by unfold maxLen;omega) (by omega) (by simp;omega) ?_)
       intro R w3 f d _ Q;have M3:Hid (gQ 43 3 w.heap.size w3 R (.slice none 0 0) (l ++ [.slice ca (sP k i k).length cc]) (crowd k (i + 1)) []):=by
        unfold Hid;rw [zF];exact g.out.zero (by decide) f d
       have B3:Hid (Below w.heap.size w w3):=(y.out.alloc X _).grown d (by simp;omega) (fun k U=>(g.out.outer.lt k U).1)
       clear f d Q g y;go_wp2;go_roundw
       case rel=>exact ⟨i + 1,_,by omega,by go_num,M3,B3⟩
       case measure=>simp [intOf];omega
    ·have e:i=t:=by omega
     subst e;have RR:Hid (Rows wr (.slice Z (crowd n i).length Y) (crowd n i)):=by
      rw [<- ul];exact yC ⟨l,g.out⟩
     rw [ul];clear g ul;have au:(i:Int) * (n:Int)=((i * n:Nat):Int):=(Int.natCast_mul i n).symm;have aa:i * n <= 20:=Nat.mul_le_mul (by omega:i <= 5) O
     have S:=hide (aj.out wr Z Y P.out RR.out);generalize i * n=m at S au aa;by_cases G:i=n
     ·have hd:decide (i=n)=true:=by simp [G]
      rw [hd] at D;have I:((i:Int) == (n:Int))=true:=by simp;omega
      have ay:i <= n:=by omega
      clear hd G;go_wp2_with (first
       |(go_at_call 25;(with_reducible refine S.out.mono ?_);rintro e5 w5 ⟨rfl,B⟩;have B5:=hide B;clear B;simp only [])
       |(go_at_call 19;(with_reducible refine (D.out _ B5.out).mono ?_);rintro e6 w6 ⟨rfl,z⟩;have V:=hide z;clear z;simp only []))
      go_roundw
      case rel=>exact ⟨i + 1,by omega,by omega,by go_num,V⟩
      case measure=>simp [intOf];omega
     ·have hd:decide (i=n)=false:=by simp [G]
      rw [hd] at D;have I:((i:Int) == (n:Int))=false:=by simp;omega
      clear hd G;go_wp2_with (first
       |(go_at_call 25;(with_reducible refine S.out.mono ?_);rintro e5 w5 ⟨rfl,B⟩;have B5:=hide B;clear B;simp only [])
       |(go_at_call 19;(with_reducible refine (D.out _ B5.out).mono ?_);rintro e6 w6 ⟨rfl,z⟩;have V:=hide z;clear z;simp only []))
      go_roundw
      case rel=>exact ⟨i + 1,by omega,by omega,by go_num,V⟩
      case measure=>simp [intOf];omega
  ·have an:¬ (t:Int) <= (n:Int) + 1:=by omega
   go_wp2;go_ret
   exact ⟨rfl,E.out⟩
theorem Pk {n t i j k:Nat} (hi:i < t) (b:j < i) (a:k < n):[-vK n i k,-vK n j k] ∈ crowd n t:=by
 unfold crowd;refine List.mem_flatMap.2 ⟨i,List.mem_range.2 hi,List.mem_append_left _ ?_⟩;unfold sQ;refine List.mem_flatMap.2 ⟨k,List.mem_range.2 a,?_⟩;unfold kF;exact List.mem_map.2 ⟨j,List.mem_range.2 b,rfl⟩
theorem Tw {n t i:Nat} (hi:i < t):sP n i n ∈ crowd n t:=by
 unfold crowd;exact List.mem_flatMap.2 ⟨i,List.mem_range.2 hi,List.mem_append_right _ (by simp)⟩
theorem GZ (n:Nat):¬ ∃ t,Sat t (crowd n (n + 1)):=fun ⟨t,s⟩=>by
 have row:∀ i,∃ k,i < n + 1->k < n/\t (1 + i * n + k)=true:=fun i=>by
  by_cases d:i < n + 1
  ·obtain ⟨l,g,A,c⟩:=s _ (Tw (n:=n) d);obtain ⟨k,y,rfl⟩:=List.mem_map.1 g;refine ⟨k,fun _=>⟨List.mem_range.1 y,?_⟩⟩
   unfold vK at c;rw [Int.natAbs_natCast] at c;rw [c];exact decide_eq_true (by omega)
  ·exact ⟨0,fun h=>absurd h d⟩
 obtain ⟨f,p⟩:=Classical.axiomOfChoice row;have m:∀ i j,j < i->i < n + 1->f i ≠ f j:=fun i j o d e=>by
  obtain ⟨v,u⟩:=p i d;obtain ⟨B,r⟩:=p j (by omega)
  rw [<- e] at r;obtain ⟨l,g,A,c⟩:=s _ (Pk (n:=n) d o v)
  rcases List.mem_cons.1 g with rfl | g
  ·unfold vK at c;rw [Int.natAbs_neg,Int.natAbs_natCast,u] at c;have:=of_decide_eq_true c.symm;omega
  ·rw [List.mem_singleton.1 g] at c;unfold vK at c;rw [Int.natAbs_neg,Int.natAbs_natCast,r] at c;have:=of_decide_eq_true c.symm;omega
 have nd:((List.range (n + 1)).map f).Nodup:=by
  rw [List.Nodup,List.pairwise_map];refine List.Pairwise.imp_of_mem ?_ (List.pairwise_lt_range (n:=n + 1));intro a b C z q e;exact m b a q (List.mem_range.1 z) e.symm
 have:=yJ n _ nd (fun x w=>by
  obtain ⟨i,d,rfl⟩:=List.mem_map.1 w;exact (p i (List.mem_range.1 d)).1)
 simp at this;omega
theorem Nt {n:Nat} (b:1 <= n) (a:n <= 4):∃ t,Sat t (crowd n n):=by
 rcases (by omega:n=1\/n=2\/n=3\/n=4) with rfl | rfl | rfl | rfl
 ·exact uM (uL (vals:=fun v=>v % 2 == 0) (by decide +kernel) (by decide +kernel))
 ·exact uM (uL (vals:=fun v=>v % 3 == 0) (by decide +kernel) (by decide +kernel))
 ·exact uM (uL (vals:=fun v=>v % 4 == 0) (by decide +kernel) (by decide +kernel))
 ·exact uM (uL (vals:=fun v=>v % 5 == 0) (by decide +kernel) (by decide +kernel))
theorem G5 {n t:Nat} (d:1 <= n) (b:n <= 4) (a:t=n\/t=n + 1):(∀ c ∈ crowd n t,(∀ x ∈ c,x ≠ 0/\x.natAbs <= t * n)/\c.length <= 5)/\(crowd n t).length <= 80/\t * n <= 20/\0 < t * n:=by
 rcases (by omega:n=1\/n=2\/n=3\/n=4) with rfl | rfl | rfl | rfl <;> rcases a with rfl | rfl <;> decide +kernel
theorem DW (r:Int) (i:-9223372036854775808 <= r) (g:r <= 9223372036854775807) (w:World) (y:rM w):
  Calls Tryz.prog 13 #[.int .i64 r] w fun e o=>e=.returned (.bool true)/\Below w.heap.size w o:=by
 have z:jk r 4 < 4:=Nat.mod_lt _ (by omega)
 obtain ⟨n,v⟩:∃ n,n=1 + jk r 4:=⟨_,rfl⟩;have F:=fun t (h:t=n\/t=n + 1)=>G5 (n:=n) (t:=t) (by omega) (by omega) h
 have f:∀ t,t=n\/t=n + 1->∀ c ∈ crowd n t,∀ x ∈ c,mQ (t * n) x:=fun t h c k x u=>(F t h).1 c k |>.1 x u
 have j:∀ t,t=n\/t=n + 1->∀ c ∈ crowd n t,c.length <= 5:=fun t h c k=>((F t h).1 c k).2
 refine GY rM (fun h d=>h.later d) (fun W m=>J6 W m) r n i g v (fun t h W m=>?_) f j (fun t h=>(F t h).2.1) (fun t h=>?_) w y
 ·obtain ⟨_,s,q,p⟩:=F t h;refine (J9 q p (f t h) (j t h) s W m).mono ?_;rintro e o ⟨b,rfl,d,a⟩;refine ⟨?_,a⟩;have:b=decide (t=n):=by
   rcases h with rfl | rfl
   ·rw [d.2 (Nt (by omega) (by omega))];simp
   ·cases b
    ·simp
    ·exact absurd (d.1 rfl) (GZ n)
  rw [this]
 ·obtain ⟨_,s,q,p⟩:=F t h;have C:=sD _ (j t h);have B:=yj (n:=t * n) (by omega) (l:=crowd n t) (by omega) (f t h)
  omega
end
end Kp
end Go.Proofs.YtceahffmenbibaaGreatDoor
