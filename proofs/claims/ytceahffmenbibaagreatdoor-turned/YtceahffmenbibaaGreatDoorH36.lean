/- Kles Kshv Kcla Kdig Ktxt Ktd Klss Ktur Kturl. -/
import Derived.Test.YtceahffmenbibaaGreatDoorH35
import Derived.Test.YtceahffmenbibaaGreatDoorH29
import Derived.Test.YtceahffmenbibaaGreatDoorH17
set_option linter.unusedVariables false
set_option linter.unusedSimpArgs false
set_option maxHeartbeats 4000000
set_option maxRecDepth 100000
namespace Go.Proofs.YtceahffmenbibaaGreatDoor
namespace Kp
section
open Go Go.RowKit Go.Deep Rd Go.Proofs.YtceahffmenbibaaGreatDoor.So
def lessons (n:Nat):Nat:=uD n 536870912 24
theorem yO {n:Nat} (a:n <= 30):lessons n <= 21900000000:=by
 unfold lessons uD;rw [show (2:Nat) ^ 24=16777216 from rfl,show (2:Nat) ^ (24 + 1)=33554432 from rfl];omega
theorem Iy {n:Nat} {L:List Cl} (b:n <= 30) (a:0 < n) (e:∀ c ∈ L,∀ x ∈ c,lW n x) (g:∀ c ∈ L,c.length <= 20001) (f:L.length <= 20001) (m:zV L <= 100000000):Rv n L (lessons n):=fun Z k w d j i=>by
 have h:=yO b;have l:2 ^ n <= 2 ^ 30:=Nat.pow_le_pow_right (by omega) b;exact Ba b a (by omega) (by omega) (by decide) w d L j e g f i h (by unfold lessons at h;omega)
def yP (n:Nat):Nat:=uD n 524288 14
theorem Fp {n:Nat} (a:n <= 20):yP n <= 12648448:=by
 unfold yP uD;rw [show (2:Nat) ^ 14=16384 from rfl,show (2:Nat) ^ (14 + 1)=32768 from rfl];omega
theorem Iz {n:Nat} {L:List Cl} (b:n <= 20) (a:0 < n) (e:∀ c ∈ L,∀ x ∈ c,lW n x) (g:∀ c ∈ L,c.length <= 20001) (f:L.length <= 20001) (m:zV L <= 100000000):Rv n L (yP n):=fun Z k w d j i=>by
 have h:=Fp b;have l:2 ^ n <= 2 ^ 20:=Nat.pow_le_pow_right (by omega) b;exact Ba (by omega) a (by omega) (by omega) (by decide) w d L j e g f i (by unfold yP at h;omega) (by unfold yP at h;omega)
def tL (w:World):Prop:=oQ w/\nT w.heap.size w
theorem tL.later {w w':World} (h:tL w) (a:Below w.heap.size w w'):tL w':=
 ⟨oQ.below h.1.2.2 a h.1,(h.2.later a).1,Nat.lt_of_lt_of_le h.2.2 a.size⟩
theorem vw:∀ (L:List Cl),(∀ c ∈ L,c.length <= 5)->yN L <= 5 * L.length
 | [],_=>by simp [yN]
 | c :: L,h=>by
  have a:=vw L (fun d hd=>h d (by simp [hd]));have b:=h c (by simp);simp only [yN,List.map_cons,List.sum_cons,List.length_cons] at a ⊢;omega
theorem yo:∀ (L:List Cl),(∀ c ∈ L,c.length <= 5)->zV L <= 8 * L.length
 | [],_=>by simp [zV]
 | c :: L,h=>by
  have a:=yo L (fun d hd=>h d (by simp [hd]));have b:=h c (by simp);simp only [zV,List.map_cons,List.sum_cons,List.length_cons] at a ⊢;omega
theorem sZ {V:Nat} (b:V <= 50) {j:List Cl}:∀ (ls:List (Bool × List Nat)) (L:List Cl),jF L (ls.map fun l=>(l.1,l.2.map wr)) j->(∀ l ∈ ls,∀ x ∈ l.2,x < 2 * V)->4 * ls.length <= (dK ls).length
 | [],_,_,_=>zl
 |(g,c) :: ls,L,h,hl=>by
  have e:(dK ((g,c) :: ls)).length=(gQ g c).length + 1 + (dK ls).length:=by unfold dK;rw [List.flatMap_cons];simp;omega
  have a:∀ l ∈ ls,∀ x ∈ l.2,x < 2 * V:=fun l d=>hl l (by simp [d])
  rw [List.map_cons] at h;rw [e,List.length_cons]
  cases g with
  | true=>
   obtain ⟨M,_,g2⟩:=h;have:=sZ b ls M g2 a;have:3 <= (gQ true c).length:=by unfold gQ;simp
   omega
  | false=>
   obtain ⟨i,_,g2⟩:=h;have:=sZ b ls _ g2 a;have:3 <= (gQ false c).length:=by
    cases c with
    | nil=>exact absurd rfl i
    | cons x r=>
     have f:=(mg b (hl (false,x :: r) (by simp) x (by simp))).2.2.2.2.2.2.2.2;have:1 <= (Lib.itoa (wr x)).length:=by
      cases h:Lib.itoa (wr x) with
      | nil=>exact absurd h f
      | cons _ _=>simp
     unfold gQ;simp;omega
   omega
theorem Ng {s:ByteArray} {n mx:Nat} {L:List Cl} (k:s.size <= maxLen) (l:lM s.data.toList=((n:Int),L,0)) (g:n <= 50) (j:250 * mx + 2 <= 5500000000000) {p:List UInt8} (m:wO n L mx p) (w:World) (h:tL w):
  Calls Tryz.prog 20 #[.string s,.string ⟨p.toArray⟩] w fun e f=>e=.returned (.tuple #[.int .i64 (Bo p:Nat),.int .i64 0])/\Below w.heap.size w f:=by
 obtain ⟨a,u,rfl,i,q,d,v⟩:=m;have z:(⟨(dK a ++ [48,10]).toArray⟩:ByteArray).size=(dK a ++ [48,10]).length:=rfl;have r:Bo (dK a ++ [48,10])=a.length + 1:=by rw [sU,Bn g a d];rfl
 have y:=sZ g a L i d;have x:(dK a ++ [48,10]).length=(dK a).length + 2:=by simp
 have t:(dK a ++ [48,10]).count 10 <= 1400000000000:=by
  have:(dK a ++ [48,10]).count 10=Bo (dK a ++ [48,10]):=by unfold Bo;rw [List.count_eq_countP,List.countP_eq_length_filter]
  omega
 refine (rf s _ w n a.length L u a k (by omega) t l ⟨rfl,i,d⟩ rfl h.1 h.2).mono ?_;rintro e f ⟨b,rfl,o,c⟩;rw [o.2 q];refine ⟨?_,c⟩;rw [r];rfl
theorem JR {n mx:Nat} {L:List Cl} (B:n <= 30) (j:∀ c ∈ L,∀ x ∈ c,lW n x) (d:∀ c ∈ L,c.length <= 5) (C:L.length <= 101) (s:Rv n L mx) (k:250 * mx + 2 <= 5500000000000) (w:World) (v:tL w):
  Calls Tryz.prog 19 #[.string ⟨(fG n L).toArray⟩] w fun e o=>DK L w e o:=by
 have D:=vw L d;have z:=Ei (n:=n) (by omega) (l:=L) (by omega) j;have g:(⟨(fG n L).toArray⟩:ByteArray).size <= maxLen:=by
  show (fG n L).length <= maxLen
  unfold maxLen;omega
 have i:lM (⟨(fG n L).toArray⟩:ByteArray).data.toList=((n:Int),L,0):=Ll (by omega) (by omega) j (by omega) (by omega);refine Oh tL (fun h m=>h.later m) (by omega) j (fun c y=>by have:=d c y;omega) (by omega) (fun W f=>uU (n:=n) (L:=L) (mx:=mx) _ W f.1 g i s) (fun W f=>?_) (fun p t W f=>Ng g i (by omega) k t W f) (by omega) w v;refine (yg _ W g f.1).mono ?_;rintro e o ⟨m,u,r,d⟩;rw [Cz,i] at r d;have q:=Oq (Pt d);obtain ⟨a,c,b,rfl,_⟩:=id q;exact ⟨a,c,r,q,m⟩
theorem Ya {n:Nat} {L:List Cl} (f:n <= 20) (a:0 < n) (d:∀ c ∈ L,∀ x ∈ c,lW n x) (b:∀ c ∈ L,c.length <= 5) (j:L.length <= 80) (w:World) (h:tL w):
  Calls Tryz.prog 19 #[.string ⟨(fG n L).toArray⟩] w fun e g=>DK L w e g:=
 JR (by omega) d b (by omega) (Iz f a d (fun c i=>by have:=b c i;omega) (by omega) (by have:=yo L b;omega)) (by have:=Fp f;omega) w h
theorem Te {n:Nat} {L:List Cl} (b:n <= 30) (a:0 < n) (f:∀ c ∈ L,∀ x ∈ c,lW n x) (d:∀ c ∈ L,c.length <= 5) (h:L.length <= 101) (w:World) (i:tL w):
  Calls Tryz.prog 19 #[.string ⟨(fG n L).toArray⟩] w fun e g=>DK L w e g:=
 JR b f d h (Iy b a f (fun c j=>by have:=d c j;omega) (by omega) (by have:=yo L d;omega)) (by have:=yO b;omega) w i
theorem XJ:jk [[1],[-1]] []:=by
 rcases Vz with h | ⟨l,r,e,_⟩
 ·exact h
 ·cases e
theorem XI:¬ jk [[1]] []:=fun h=>by
 have b:Sat (fun _=>true) [[1]]:=fun c a=>by
  simp at a;subst a;exact ⟨1,by simp,by decide,by decide⟩
 obtain ⟨l,d,_⟩:=Cw (c:=[]) b h;cases d
theorem Si (w:World) (s:tL w):Calls Tryz.prog 16 #[] w fun e k=>e=.returned (.bool true)/\Below w.heap.size w k:=by
 refine KJ tL (fun h f=>h.later f) (fun W j=>?_) (fun W j=>?_) (fun W j=>?_) (fun W j=>?_) w s
 ·refine (uU (n:=2) (L:=[[1,-2],[2]]) (mx:=yP 2) Xh W j.1 (by decide) Zf (Iz (by omega) (by omega) Y6 (by intro c m;simp at m;rcases m with rfl | rfl <;> decide) (by decide) (by decide))).mono ?_
  rintro e k ⟨f,⟨p,rfl,r⟩ | ⟨g,l,p,rfl,o,a,q⟩⟩
  ·exact absurd Yt (wD Y6 r)
  ·obtain ⟨u,t⟩:=Xe q;refine ⟨g,⟨p⟩,rfl,?_,?_,f⟩
   ·have:=a.cell (i:=0) (by omega);rw [u] at this;exact this
   ·have:=a.cell (i:=1) (by omega);rw [t] at this;exact this
 ·refine (uU (n:=1) (L:=[[1],[-1]]) (mx:=yP 1) Su W j.1 (by decide) Y0 (Iz (by omega) (by omega) Zh (by intro c m;simp at m;rcases m with rfl | rfl <;> decide) (by decide) (by decide))).mono ?_
  rintro e k ⟨f,⟨p,rfl,r⟩ | ⟨g,l,p,rfl,o,a,q⟩⟩
  ·exact ⟨_,rfl,f⟩
  ·exact absurd (TK q) Vr
 ·refine (rf Su VF W 1 0 _ [[1],[-1]] [] (by decide) (by decide) (by decide +kernel) Y0 ⟨rfl,rfl,by simp⟩ rfl j.1 j.2).mono ?_;rintro e k ⟨b,rfl,f,d⟩;rw [f.2 XJ];exact ⟨rfl,d⟩
 ·refine (rf Xg VF W 1 0 _ [[1]] [] (by decide) (by decide) (by decide +kernel) Ze ⟨rfl,rfl,by simp⟩ rfl j.1 j.2).mono ?_;rintro e k ⟨b,rfl,f,d⟩;cases b
  ·exact ⟨rfl,d⟩
  ·exact absurd (f.1 rfl) XI
def lits (vars:Nat):Nat->Nat->Cl
 | _,0=>[]
 | c,n + 1=>(if c / 4 / vars % 2=1 then -((1 + c / 4 % vars:Nat):Int) else ((1 + c / 4 % vars:Nat):Int)) :: lits vars (c / 4 / vars) n
def qZ (vars:Nat) (r:Int):Cl:=lits vars (jK r 1152921504606846976) (1 + jK r 1152921504606846976 % 4)
def jE (raw:List Int) (vars most:Nat):List Cl:=(raw.take most).map (qZ vars)
theorem jN (vars:Nat):∀ n c,(lits vars c n).length=n
 | 0,_=>rfl
 | n + 1,c=>by simp [lits,jN vars n]
theorem Ke {vars:Nat} (a:0 < vars):∀ n c,∀ x ∈ lits vars c n,lW vars x
 | 0,_,x,h=>by cases h
 | n + 1,c,x,h=>by
  rcases List.mem_cons.1 h with rfl | h
  ·have:=Nat.mod_lt (c / 4) a;unfold lW;split <;> omega
  ·exact Ke a n _ x h
def Xa (us:List Value):Prop:=∀ (i j:Nat) u v,us[i]? = some u->us[j]? = some v->i ≠ j->u.ownBlock=none\/u.ownBlock ≠ v.ownBlock
theorem Xa.snoc {us:List Value} {u:Value} (h:Xa us) (k:∀ (j:Nat) v,us[j]? = some v->v.ownBlock=none\/v.ownBlock ≠ u.ownBlock):Xa (us ++ [u]):=by
 intro i j x y d c f;have m:=(List.getElem?_eq_some_iff.1 d).1;have l:=(List.getElem?_eq_some_iff.1 c).1;simp at m l;by_cases a:i < us.length
 ·rw [List.getElem?_append_left a] at d;by_cases b:j < us.length
  ·rw [List.getElem?_append_left b] at c;exact h i j x y d c f
  ·have:j=us.length:=by omega
   subst this;simp at c;subst c;exact k i x d
 ·have:i=us.length:=by omega
  subst this;simp at d;subst d;rw [List.getElem?_append_left (by omega)] at c
  rcases k j y c with e | e
  ·cases n:u.ownBlock with
   | none=>exact .inl rfl
   | some g=>exact .inr (by rw [e];simp)
  ·exact .inr (fun h=>e h.symm)
theorem GM (w:World) (rb off rc:Nat) (f:List Int) (vars m:Nat) (J:∀ i (hi:i < f.length),w.cell? ⟨rb,off + i,none⟩=some (.int .i64 f[i])) (hr:∀ x ∈ f,-9223372036854775808 <= x/\x <= 9223372036854775807) (ra:Option Addr) (ab:0 < f.length->ra=some ⟨rb,off,none⟩) (hv:0 < vars) (au:vars <= 50) (hm:m <= 1000):
  Calls Tryz.prog 23 #[.slice ra f.length rc,.int .i64 (vars:Nat),.int .i64 (m:Nat)] w fun e X=>∃ v s,e=.returned v/\nU 43 3 w.heap.size X v (.slice none 0 0) s (jE f vars m) []/\Xa s/\Below w.heap.size w X:=by
 have O:=hide J;have HR:=hide hr;clear J hr;obtain ⟨i0,hi,aa,Z,Y⟩:=info_parts Tryz.yT;obtain ⟨j0,hj,aj,ai,ah⟩:=info_parts Tryz.vF;go_enter Tryz.func23,Tryz.ntmps23
 go_wp2;go_loopw [7,8] (fun cv i wr=>∃ (k:Nat) (s:List Value),k <= f.length/\k <= m/\i=.int .i64 k/\Hid (nU 43 3 w.heap.size wr cv (.slice none 0 0) s ((f.take k).map (qZ vars)) [])/\Hid (Xa s)/\Hid (Below w.heap.size w wr)) (fun _ i _=>f.length - (intOf i).toNat)
 case atStart=>exact ⟨0,[],zl,zl,rfl,⟨World.ownsRow_nil _ _ _ _,World.ownsRow_nil _ _ _ _,rfl,fun j u h=>by simp at h⟩,(fun i j u v h=>by simp at h),bR⟩
 case round=>
  obtain ⟨k,s,S,az,rfl,d,HA,B⟩:=hrel;obtain ⟨oa,oc,al⟩:=dH d.out.outer;subst al;by_cases H:k < f.length
  ·by_cases ay:k < m
   ·have ea:=ab (by omega);subst ea;clear ab;have ck:wr.cell? ⟨rb,off + k,none⟩=some (.int .i64 f[k]):=by
     rw [B.out.cell (p:=⟨rb,off + k,none⟩) (block_lt_of_cell (O.out k H))];exact O.out k H
    have Q:=HR.out _ (List.getElem_mem H);have HS:Hid ((f.take (k + 1)).map (qZ vars)=(f.take k).map (qZ vars) ++ [qZ vars f[k]]):=by
     unfold Hid;rw [List.take_succ_eq_append_getElem H,List.map_append];rfl
    generalize f[k]=r at *
    have QP:Hid (∀ W:World,Calls Tryz.prog 22 #[.int .i64 r,.int .i64 1152921504606846976] W fun e X=>∃ N:Nat,Hid (N=jK r 1152921504606846976)/\N < 1152921504606846976/\e=.returned (.int .i64 (N:Nat))/\Below W.heap.size W X):=fun W=>
     (yh r 1152921504606846976 W Q.1 Q.2 (by omega) (by omega)).mono fun e X ⟨a,b⟩=>⟨_,rfl,Nat.mod_lt _ (by omega),a,b⟩
    clear Q;go_wp2_with (go_at_call 22;(with_reducible refine (QP.out _).mono ?_);rintro e1 w1 ⟨N,af,am,rfl,R⟩;have M1:=hide (d.out.later R);have B1:=hide (B.out.trans (R.mono B.out.size));clear R d B;simp only [])
    have ag:Hid (qZ vars r=lits vars N (1 + N % 4)):=by unfold Hid qZ;rw [af.out]
    clear QP af ck;go_loopw [9,10,11] (fun ao lv nv wx=>∃ (c q:Nat) (n:Cl),c < 1152921504606846976/\q <= 4/\n.length + q <= 4/\ao=.int .i64 (c:Nat)/\nv=.int .i64 (q:Nat)/\Hid (qZ vars r=n ++ lits vars c q)/\Hid (nU 43 3 w.heap.size wx (.slice oa s.length oc) lv s ((f.take k).map (qZ vars)) n)/\Hid (Below w.heap.size w wx)) (fun _ _ nv _=>(intOf nv).toNat)
    case atStart=>exact ⟨N,1 + N % 4,[],am,by omega,by simp;omega,rfl,by go_num,ag,M1,B1⟩
    case round=>
     obtain ⟨c,q,n,hc,hq,aw,rfl,rfl,HC,d,B⟩:=hrel;clear M1 B1 ag;obtain ⟨la,lc,ak⟩:=dH d.out.row;subst ak;have ul:s.length <= 1000:=by rw [d.out.len];simp;omega
     have sb:=B.out.size;by_cases ax:0 < q
     ·obtain ⟨D,ae⟩:∃ D,D=c / 4:=⟨_,rfl⟩;obtain ⟨t,G⟩:∃ t,t=D % vars:=⟨_,rfl⟩;obtain ⟨y,I⟩:∃ y,y=D / vars:=⟨_,rfl⟩;have d1:(c:Int) / 4=(D:Int):=by omega
      have d2:(D:Int).tmod (vars:Int)=(t:Int):=by rw [G,Int.tmod_eq_emod_of_nonneg (by omega),Int.natCast_emod]
      have d3:(D:Int).tdiv (vars:Int)=(y:Int):=by rw [I,Int.tdiv_eq_ediv_of_nonneg (by omega),Int.natCast_ediv]
      have ar:t < vars:=by rw [G];exact Nat.mod_lt _ hv
      have ad:D < 1152921504606846976:=by omega
      have L:y < 1152921504606846976:=by rw [I];exact Nat.lt_of_le_of_lt (Nat.div_le_self _ _) ad
      have av:¬ (vars:Int)=0:=by omega
      have aC:IntKind.i64.wrap (D:Int)=(D:Int):=by rw [IntKind.wrap_i64];omega
      have aB:IntKind.i64.wrap (y:Int)=(y:Int):=by rw [IntKind.wrap_i64];omega
      have aA:IntKind.i64.wrap (t:Int)=(t:Int):=by rw [IntKind.wrap_i64];omega
      have U:Hid (lits vars c q=(if y % 2=1 then -((1 + t:Nat):Int) else ((1 + t:Nat):Int)) :: lits vars y (q - 1)):=by
       obtain ⟨q',rfl⟩:∃ q',q=q' + 1:=⟨q - 1,by omega⟩;unfold Hid;rw [G,I,ae];rfl
      clear G I ae;by_cases K:y % 2=1
      ·have ho:((y:Int) % 2 == 1)=true:=by simp;omega
       rw [if_pos K] at U;have wn:IntKind.i64.wrap (-(1 + (t:Int)))=-(1 + (t:Int)):=by rw [IntKind.wrap_i64];omega
       obtain ⟨x,P⟩:∃ x:Int,x=-(1 + (t:Int)):=⟨_,rfl⟩;have z:-((1 + t:Nat):Int)=x:=by rw [P];omega
       rw [z] at U;clear z;go_upto_region 15 with fail
       rw [<- P];clear P;go_wp2_with (at_builtin;refine wpList_append_own_at _ rfl _ _ 43 rfl w.heap.size 3 i0 (.int .i64 0) 1 8 Tryz.underlying43 hi aa Z Y rfl (by decide) _ _ _ rfl (d.out.row.alloc _) ⟨wr.heap.size,0,none⟩ 1 1 [_] rfl rfl (cell_one_new _ _ _) (by simp [Value.oneCell']) (by unfold maxLen;omega) (by omega) (by simp;omega) ?_)
       intro C V l g _ o;have M:Hid (nU 43 3 w.heap.size V (.slice oa s.length oc) C s ((f.take k).map (qZ vars)) (n ++ [x])):=d.out.lit (by decide) l g (by simpa using o);have B3:Hid (Below w.heap.size w V):=(B.out.alloc sb _).grown g (by simp;omega) (fun k S=>(d.out.row.lt k S).1);clear l g o;go_wp2;go_roundw
       case rel=>exact ⟨y,q - 1,n ++ [x],L,by omega,by simp;omega,rfl,by go_num,by unfold Hid;rw [HC.out,U.out];simp,M,B3⟩
       case measure=>simp [intOf];omega
      ·have ho:((y:Int) % 2 == 1)=false:=by simp;omega
       rw [if_neg K] at U;obtain ⟨x,P⟩:∃ x:Int,x=1 + (t:Int):=⟨_,rfl⟩;have z:((1 + t:Nat):Int)=x:=by rw [P];omega
       rw [z] at U;clear z;go_upto_region 15 with fail
       rw [<- P];clear P;go_wp2_with (at_builtin;refine wpList_append_own_at _ rfl _ _ 43 rfl w.heap.size 3 i0 (.int .i64 0) 1 8 Tryz.underlying43 hi aa Z Y rfl (by decide) _ _ _ rfl (d.out.row.alloc _) ⟨wr.heap.size,0,none⟩ 1 1 [_] rfl rfl (cell_one_new _ _ _) (by simp [Value.oneCell']) (by unfold maxLen;omega) (by omega) (by simp;omega) ?_)
       intro C V l g _ o;have M:Hid (nU 43 3 w.heap.size V (.slice oa s.length oc) C s ((f.take k).map (qZ vars)) (n ++ [x])):=d.out.lit (by decide) l g (by simpa using o);have B3:Hid (Below w.heap.size w V):=(B.out.alloc sb _).grown g (by simp;omega) (fun k S=>(d.out.row.lt k S).1);clear l g o;go_wp2;go_roundw
       case rel=>exact ⟨y,q - 1,n ++ [x],L,by omega,by simp;omega,rfl,by go_num,by unfold Hid;rw [HC.out,U.out];simp,M,B3⟩
       case measure=>simp [intOf];omega
     ·have ac:q=0:=by omega
      subst ac;have aq:Hid (qZ vars r=n):=by
       have:=HC.out;rw [show lits vars c 0=[] from rfl,List.append_nil] at this;exact this
      go_wp2_with (at_builtin;refine wpList_append_own_at _ rfl _ _ 32 rfl w.heap.size 43 j0 (.slice none 0 0) 1 24 Tryz.underlying32 hj aj ai ah rfl (by decide) _ _ _ rfl (d.out.outer.alloc _) ⟨wr.heap.size,0,none⟩ 1 1 [.slice la _ lc] rfl rfl (cell_one_new _ _ _) (by simp [Value.oneCell']) (by unfold maxLen;omega) (by omega) (by simp;omega) ?_)
      intro ap w3 l g _ an;have M:Hid (nU 43 3 w.heap.size w3 ap (.slice none 0 0) (s ++ [.slice la n.length lc]) ((f.take (k + 1)).map (qZ vars)) []):=by
       unfold Hid;rw [HS.out,aq.out];exact d.out.zero (by decide) l g
      have B3:Hid (Below w.heap.size w w3):=(B.out.alloc sb _).grown g (by simp;omega) (fun k S=>(d.out.outer.lt k S).1);have A3:Hid (Xa (s ++ [.slice la n.length lc])):=HA.out.snoc fun j v hj=>(d.out.inner j v hj).2
      clear l g an;go_wp2;go_roundw
      case rel=>exact ⟨k + 1,_,by omega,by omega,by go_num,M,A3,B3⟩
      case measure=>simp [intOf];omega
   ·have E:Hid (jE f vars m=(f.take k).map (qZ vars)):=by
     have:k=m:=by omega
     rw [this];rfl
    go_wp2;go_ret
    exact ⟨_,_,rfl,by rw [E.out];exact d.out,HA.out,B.out⟩
  ·have E:Hid (jE f vars m=(f.take k).map (qZ vars)):=by
    unfold Hid jE;rw [List.take_of_length_le (by omega),List.take_of_length_le (by omega)]
   go_wp2;go_ret
   exact ⟨_,_,rfl,by rw [E.out];exact d.out,HA.out,B.out⟩
theorem GL (w:World) (f off k:Nat) (a:List Int) (vars b:Nat) (c:∀ i (hi:i < a.length),w.cell? ⟨f,off + i,none⟩=some (.int .i64 a[i])) (m:∀ x ∈ a,-9223372036854775808 <= x/\x <= 9223372036854775807) (g:Option Addr) (j:0 < a.length->g=some ⟨f,off,none⟩) (l:0 < vars) (h:vars <= 50) (n:b <= 1000):
  Calls Tryz.prog 23 #[.slice g a.length k,.int .i64 (vars:Nat),.int .i64 (b:Nat)] w fun e d=>∃ v,e=.returned v/\UO 43 3 w.heap.size d v (jE a vars b)/\Below w.heap.size w d:=
 (GM w f off k a vars b c m g j l h n).mono fun e d ⟨v,us,h1,h2,_,h3⟩=>⟨v,h1,⟨us,h2⟩,h3⟩
theorem GN (w:World) (f off k:Nat) (a:List Int) (vars b:Nat) (c:∀ i (hi:i < a.length),w.cell? ⟨f,off + i,none⟩=some (.int .i64 a[i])) (m:∀ x ∈ a,-9223372036854775808 <= x/\x <= 9223372036854775807) (g:Option Addr) (j:0 < a.length->g=some ⟨f,off,none⟩) (l:0 < vars) (h:vars <= 50) (n:b <= 1000):
  Calls Tryz.prog 23 #[.slice g a.length k,.int .i64 (vars:Nat),.int .i64 (b:Nat)] w fun e d=>∃ v,e=.returned v/\Rows d v (jE a vars b)/\Below w.heap.size w d:=
 (GL w f off k a vars b c m g j l h n).mono fun e d ⟨v,h1,h2,h3⟩=>⟨v,h1,Oo h2,h3⟩
end
section
open Go Go.RowKit Go.Deep Rd
theorem qW {i:Nat} (h:10 <= i):Lib.decDigits i=Lib.decDigits (i / 10) ++ [UInt8.ofNat (48 + i % 10)]:=by rw [Lib.decDigits,dif_neg (by omega)]
theorem CY {u:Nat} (h:u < 1000):Lib.nDigits u <= 3:=by
 rw [<- Lib.decDigits_length,Lib.decDigits];split
 ·simp
 ·rw [Lib.decDigits];split
  ·simp
  ·rw [Lib.decDigits,dif_pos (by omega)];simp
def Gy (d:Nat):ByteArray:=⟨#[UInt8.ofNat (48 + d % 10)]⟩
theorem BV (d:Nat):(Gy d).size=1:=rfl
def zT (u m:Nat) (s:ByteArray):Prop:=if m < 10 then s.data.toList=Lib.decDigits u else Lib.decDigits (m / 10) ++ s.data.toList=Lib.decDigits u
theorem Gx (u:Nat):zT u u (Gy u):=by
 unfold zT;split
 ·rw [Lib.decDigits_one (by omega)];unfold Gy;rw [Nat.mod_eq_of_lt (by omega)]
 ·rw [qW (i:=u) (by omega)];rfl
theorem Jp {u m:Nat} {s:ByteArray} (h:zT u m s) (a:10 <= m):zT u (m / 10) (Gy (m / 10) ++ s):=by
 unfold zT at h ⊢;rw [if_neg (by omega)] at h;have e:(Gy (m / 10) ++ s).data.toList=UInt8.ofNat (48 + m / 10 % 10) :: s.data.toList:=by unfold Gy;simp [ByteArray.data_append]
 split
 ·rw [e,<- h,Lib.decDigits_one (by omega),Nat.mod_eq_of_lt (by omega)];rfl
 ·rw [e,<- h,qW (i:=m / 10) (by omega)];simp
theorem J3 (w:World) (z:Int) (u:Nat) (a:z=((48 + u % 10:Nat):Int)):(convert 107 9 (.slice (some ⟨w.heap.size,0,none⟩) 1 1)).run Tryz.prog (w.alloc (.cells #[.int .u8 z] 5))=.ok (.string (Gy u)) (w.alloc (.cells #[.int .u8 z] 5)):=by
 refine run_convert_bytes_back _ 107 9 5 ⟨w.heap.size,0,none⟩ 1 [UInt8.ofNat (48 + u % 10)] Tryz.underlying107 Tryz.underlying5 Tryz.underlying9 ?_;intro j b;have d:j=0:=by simpa using b
 subst d
 have r:(w.alloc (.cells #[.int .u8 z] 5)).rowIs w.heap.size 5 1 (fun _=>.int .u8 z):=World.rowIs_alloc w _ _ _ fun i c=>match i,c with
  | 0,_=>rfl
 have:=r.cell (i:=0) (by omega);show (w.alloc (.cells #[.int .u8 z] 5)).cell? ⟨w.heap.size,0,none⟩=_
 rw [this,a];have:(UInt8.ofNat (48 + u % 10)).toNat=48 + u % 10:=by
  rw [UInt8.toNat_ofNat'];omega
 rw [List.getElem_cons_zero,this]
theorem zb (u:Nat) (w:World) (k:u < 1000):
  Calls Tryz.prog 44 #[.int .i64 (u:Nat)] w fun e j=>e=.returned (.string ⟨(Lib.decDigits u).toArray⟩)/\Below w.heap.size w j:=by
 have t:¬ ((u:Nat):Int) < 0:=by omega
 have h:=J3 w (48 + (u:Int) % 10) u (by omega);go_enter Tryz.func44,Tryz.ntmps44
 go_wp2;have g:Hid (Below w.heap.size w (w.alloc (.cells #[.int .u8 (48 + (u:Int) % 10)] 5))):=bR.alloc lr _
 clear h;generalize w.alloc (.cells #[.int .u8 (48 + (u:Int) % 10)] 5)=p at *
 go_loopw [0,3] (fun i s wr=>∃ (m:Nat) (b:ByteArray),m < 1000/\b.size + m <= 1001/\i=.int .i64 m/\s=.string b/\Hid (zT u m b)/\Hid (Below w.heap.size w wr)) (fun i _ _=>(intOf i).toNat)
 case atStart=>exact ⟨u,_,k,by rw [BV];omega,rfl,rfl,Gx u,g⟩
 case round=>
  obtain ⟨m,b,r,n,rfl,rfl,hd,c⟩:=hrel;by_cases d:m < 10
  ·have E:Hid (b=⟨(Lib.decDigits u).toArray⟩):=by
    have:=hd.out;unfold zT at this;rw [if_pos d] at this;have o:b.data=(Lib.decDigits u).toArray:=by rw [<- this]
    cases b;exact congrArg _ o
   have a:¬ (10:Int) <= (m:Int):=by omega
   go_wp2;go_ret
   exact ⟨by rw [<- E.out];rfl,c.out⟩
  ·have a:(10:Int) <= (m:Int):=by omega
   have l:(Gy (m / 10)).size=1:=BV _;have h:=J3 wr (48 + (m:Int) / 10 % 10) (m / 10) (by omega);have q:((m:Nat):Int).tdiv 10=((m / 10:Nat):Int):=by rw [Int.tdiv_eq_ediv_of_nonneg (by omega)];rfl
   have f:Hid (Below w.heap.size w (wr.alloc (.cells #[.int .u8 (48 + (m:Int) / 10 % 10)] 5))):=c.out.alloc c.out.size _;go_wp2;go_roundw
   case rel=>exact ⟨m / 10,_,by omega,by rw [ByteArray.size_append];omega,by go_num,rfl,Jp hd.out (by omega),f⟩
   case measure=>simp [intOf];omega
theorem Jo (x:Int) (w:World) (c:x.natAbs < 1000):
  Calls Tryz.prog 44 #[.int .i64 x] w fun e a=>e=.returned (.string ⟨(Lib.itoa x).toArray⟩)/\Below w.heap.size w a:=by
 by_cases m:x < 0
 ·have h:(Lib.decDigits x.natAbs).length <= 1000:=by
   rw [Lib.decDigits_length];exact Nat.le_trans (CY c) (by omega)
  have j:Hid (Calls Tryz.prog 44 #[.int .i64 (-x)] w fun e a=>∃ t:ByteArray,e=.returned (.string t)/\t.size <= 1000/\Hid (t.data.toList=Lib.decDigits x.natAbs)/\Below w.heap.size w a):=by
   have:(-x:Int)=((x.natAbs:Nat):Int):=by omega
   rw [this];refine (zb _ _ c).mono ?_;rintro e a ⟨rfl,b⟩;exact ⟨_,rfl,h,rfl,b⟩
  have l:IntKind.i64.wrap (-x)=-x:=by rw [IntKind.wrap_i64];omega
  have g:(x == -x)=false:=by simp;omega
  have E:Hid (Lib.itoa x=45 :: Lib.decDigits x.natAbs):=by
   have:=Lib.itoa_neg x.natAbs (by omega);have e:-((x.natAbs:Nat):Int)=x:=by omega
   rw [e] at this;exact this
  go_enter Tryz.func44,Tryz.ntmps44
  go_wp2_with (go_at_call 44;(with_reducible refine j.out.mono ?_);rintro e a ⟨t,rfl,d,f,b⟩;have k:=hide b;clear b;simp only [])
  go_ret
  refine ⟨?_,k.out⟩;show Ending.returned (Value.string _)=_
  congr 2
  apply ByteArray.ext
  apply Array.toList_inj.1
  rw [E.out,<- f.out];simp [ByteArray.data_append]
 ·have:=zb x.natAbs w c;have e:((x.natAbs:Nat):Int)=x:=by omega
  rw [e] at this;have i:Lib.itoa x=Lib.decDigits x.natAbs:=by rw [<- Lib.itoa_nonneg,e]
  rw [i];exact this
end
section
open Go Go.RowKit Go.Deep Rd Go.Proofs.YtceahffmenbibaaGreatDoor.So
theorem Rows.later {w w':World} {lv:Value} {L:List Cl} (h:Rows w lv L) (e:Below w.heap.size w w'):Rows w' lv L:=by
 obtain ⟨a,c,b,n,m,l⟩:=h;refine ⟨a,c,b,n,m,fun i k=>?_⟩;obtain ⟨o,ci,g,g1,g2,f⟩:=l i k;exact ⟨o,ci,g,by rw [e.cell (p:=⟨b,i,none⟩) (block_lt_of_cell g1)];exact g1,g2,fun j d=>by rw [e.cell (p:=⟨g,j,none⟩) (block_lt_of_cell (f j d))];exact f j d⟩
def PZ (n m:Nat):Bs:=[112,32,99,110,102,32] ++ Lib.decDigits n ++ [32] ++ Lib.decDigits m ++ [10]
def uB (x:Int):Bs:=Lib.itoa x ++ [32]
def nA (n:Nat) (L:List Cl) (k:Nat):Bs:=PZ n L.length ++ (L.take k).flatMap H8
theorem AA (n:Nat) (L:List Cl):nA n L L.length=fG n L:=by unfold nA fG PZ;rw [List.take_length]
theorem Im (n:Nat) (L:List Cl) (k:Nat) (h:k < L.length):nA n L (k + 1)=nA n L k ++ ((L[k]).flatMap uB ++ [48,10]):=by
 unfold nA;rw [List.take_succ_eq_append_getElem h,List.flatMap_append,List.flatMap_cons,List.flatMap_nil,List.append_nil];unfold H8 uB;rw [List.append_assoc]
theorem Az (n:Nat) (L:List Cl) (k:Nat) (h:k <= L.length):(nA n L k).length <= (fG n L).length:=by
 rw [<- AA];unfold nA;rw [List.length_append,List.length_append,List.take_length];have:L.flatMap H8=(L.take k).flatMap H8 ++ (L.drop k).flatMap H8:=by rw [<- List.flatMap_append,List.take_append_drop]
 rw [this,List.length_append];omega
theorem TY (c:Cl) (q:Nat):((c.take q).flatMap uB).length <= (c.flatMap uB).length:=by
 have:c.flatMap uB=(c.take q).flatMap uB ++ (c.drop q).flatMap uB:=by rw [<- List.flatMap_append,List.take_append_drop]
 rw [this,List.length_append];omega
theorem Jn (x:Int) (w:World) (a:x.natAbs < 1000):
  Calls Tryz.prog 44 #[.int .i64 x] w fun e b=>∃ t:ByteArray,e=.returned (.string t)/\t.size <= 10/\Hid (t.data.toList=Lib.itoa x)/\Hid (Below w.heap.size w b):=by
 refine (Jo x w a).mono ?_;rintro e b ⟨rfl,c⟩;refine ⟨_,rfl,?_,rfl,c⟩;show (Lib.itoa x).length <= 10
 by_cases h:x < 0
 ·have:=Lib.itoa_neg x.natAbs (by omega);have e:-((x.natAbs:Nat):Int)=x:=by omega
  rw [e] at this;rw [this,List.length_cons,Lib.decDigits_length];have:=CY a;omega
 ·have e:((x.natAbs:Nat):Int)=x:=by omega
  rw [<- e,Lib.itoa_nonneg,Lib.decDigits_length];have:=CY a;omega
theorem SS {t:ByteArray} {l:Bs} (h:t.data.toList=l):t=⟨l.toArray⟩:=by
 apply ByteArray.ext;apply Array.toList_inj.1;rw [h]
theorem uL (a b:ByteArray):(a ++ b).data.toList=a.data.toList ++ b.data.toList:=by simp [ByteArray.data_append]
theorem Ej (w:World) (lv:Value) (L:List Cl) (n:Nat) (hL:Rows w lv L) (C:∀ c ∈ L,∀ x ∈ c,lW n x) (I:∀ c ∈ L,c.length <= 20001) (hm:L.length < 1000) (hn:n <= 50) (G:(fG n L).length <= 20000):
  Calls Tryz.prog 25 #[.int .i64 (n:Nat),lv] w fun e U=>e=.returned (.string ⟨(fG n L).toArray⟩)/\Below w.heap.size w U:=by
 have HZ:=hide C;have HL:=hide I;have R:=hide G;have y:=hide Jn;obtain ⟨la,lc,b,rfl,r,J⟩:=hL;have j:=hide J;clear C I G J;go_enter Tryz.func25,Tryz.ntmps25
 go_upto_region 2 with (first
  |(go_at_call 44;(with_reducible refine (y.out (n:Nat) _ (by omega)).mono ?_);rintro h w1 ⟨t1,rfl,X,N,v⟩;simp only [])
  |(go_at_call 44;(with_reducible refine (y.out (L.length:Nat) _ (by omega)).mono ?_);rintro K w2 ⟨t2,rfl,V,M,P⟩;simp only []))
 go_wp2;go_loopw [5,6] (fun m i wr=>∃ (k:Nat) (t:ByteArray),k <= L.length/\i=.int .i64 k/\m=.string t/\Hid (t.data.toList=nA n L k)/\Hid (Below w.heap.size w wr)) (fun _ i _=>L.length - (intOf i).toNat)
 case atStart=>
  refine ⟨0,_,zl,rfl,rfl,?_,v.out.trans (P.out.mono v.out.size)⟩;unfold Hid;simp only [uL,N.out,M.out,Lib.itoa_nonneg];unfold nA PZ;simp
 case round=>
  obtain ⟨k,t,hk,rfl,rfl,hd,o⟩:=hrel;clear X V N M v P;have aa:t.size <= 20000:=by
   have l:t.size=(nA n L k).length:=by rw [<- hd.out];simp
   have:=Az n L k hk;have:=R.out;omega
  by_cases a:k < L.length
  ·have ea:=r (by omega);subst ea;obtain ⟨Q,ci,O,h,K,u⟩:=j.out k a;clear r;have ad:wr.cell? ⟨b,k,none⟩=some (.slice Q (L[k]).length ci):=by rw [o.out.cell (p:=⟨b,k,none⟩) (block_lt_of_cell h)];exact h
   have E3:=hide u;clear u;have ab:=HL.out _ (List.getElem_mem a);have z:Hid (∀ x ∈ L[k],lW n x):=HZ.out _ (List.getElem_mem a);have S:Hid (nA n L (k + 1)=nA n L k ++ ((L[k]).flatMap uB ++ [48,10])):=Im n L k a;have H:(nA n L k).length + ((L[k]).flatMap uB).length <= 20000:=by
    have l:=Az n L (k + 1) a;have r:=R.out;rw [S.out,List.length_append,List.length_append] at l;omega
   generalize L[k]=c at *
   go_wp2;go_loopw [5,7] (fun m i T=>∃ (q:Nat) (t:ByteArray),q <= c.length/\i=.int .i64 q/\m=.string t/\Hid (t.data.toList=nA n L k ++ (c.take q).flatMap uB)/\Hid (Below w.heap.size w T)) (fun _ i _=>c.length - (intOf i).toNat)
   case atStart=>exact ⟨0,t,zl,rfl,rfl,by unfold Hid;rw [hd.out];simp,o⟩
   case round=>
    obtain ⟨q,B,hq,rfl,rfl,f,d⟩:=hrel;have D:B.size <= 20000:=by
     have l:B.size=(nA n L k ++ (c.take q).flatMap uB).length:=by rw [<- f.out];simp
     have:=TY c q;rw [List.length_append] at l;omega
    have ae:wr.cell? ⟨b,k,none⟩=some (.slice Q c.length ci):=by rw [d.out.cell (p:=⟨b,k,none⟩) (block_lt_of_cell h)];exact h
    by_cases g:q < c.length
    ·have ei:=K (by omega);subst ei;have s:=E3.out q g;have ac:wr.cell? ⟨O,q,none⟩=some (.int .i64 c[q]):=by rw [d.out.cell (p:=⟨O,q,none⟩) (block_lt_of_cell s)];exact s
     obtain ⟨Z,Y⟩:=z.out _ (List.getElem_mem g);have HQ:Hid ((c.take (q + 1)).flatMap uB=(c.take q).flatMap uB ++ (Lib.itoa c[q] ++ [32])):=by
      unfold Hid;rw [List.take_succ_eq_append_getElem g,List.flatMap_append];simp [uB]
     clear s h;generalize c[q]=x at *
     have QX:=hide (fun W=>y.out x W (by omega));go_upto_region 7 with (go_at_call 44;(with_reducible refine (QX.out _).mono ?_);rintro u w3 ⟨t3,rfl,s3,d3,b3⟩;simp only [])
     go_wp2;go_roundw
     case rel=>exact ⟨q + 1,_,by omega,by go_num,rfl,by unfold Hid;rw [uL,uL,f.out,d3.out,HQ.out];simp,d.out.trans (b3.out.mono d.out.size)⟩
     case measure=>simp [intOf];omega
    ·have e:q=c.length:=by omega
     subst e;rw [List.take_length] at f;go_wp2;go_roundw
     case rel=>exact ⟨k + 1,_,by omega,by go_num,rfl,by unfold Hid;rw [S.out,uL,f.out];simp,d⟩
     case measure=>simp [intOf];omega
  ·have e:k=L.length:=by omega
   subst e;have E:Hid (t=⟨(fG n L).toArray⟩):=SS (by rw [hd.out,AA]);go_wp2;go_ret;exact ⟨by rw [<- E.out];rfl,o.out⟩
def iA (f:Nat->Bool) (c:Cl):Cl:=c.map fun x=>if f x.natAbs=true then -x else x
def J9 (mask:Int) (v:Nat):Bool:=bits BinOp.and IntKind.i64 (mask / 2 ^ (v % 50)) 1 == 1
theorem Ip (w:World) (lv:Value) (L:List Cl) (g:Int) (f:Nat->Bool) (hf:f=J9 g) (hL:Rows w lv L) (hz:∀ c ∈ L,∀ x ∈ c,lW 50 x) (h4:∀ c ∈ L,c.length <= 4) (hm:L.length <= 100):
  Calls Tryz.prog 26 #[lv,.int .i64 g] w fun e w'=>∃ v i,e=.returned v/\nU 43 3 w.heap.size w' v (.slice none 0 0) i (L.map (iA f)) []/\Below w.heap.size w w':=by
 obtain ⟨la,lc,lb,rfl,B,o⟩:=hL;have HR:=hide o;have HZ:=hide hz;have H4:=hide h4;have HF:=hide hf;clear o hz h4 hf;obtain ⟨i0,hi,N,M,K⟩:=info_parts Tryz.yT;obtain ⟨j0,hj,Q,P,O⟩:=info_parts Tryz.vF;go_enter Tryz.func26,Tryz.ntmps26
 go_wp2;go_loopw [5,6] (fun cv J wr=>∃ (k:Nat) (i:List Value),k <= L.length/\J=.int .i64 (k:Nat)/\Hid (nU 43 3 w.heap.size wr cv (.slice none 0 0) i ((L.take k).map (iA f)) [])/\Hid (Below w.heap.size w wr)) (fun _ J _=>L.length - (intOf J).toNat)
 case atStart=>exact ⟨0,[],zl,rfl,⟨World.ownsRow_nil _ _ _ _,World.ownsRow_nil _ _ _ _,rfl,fun j u h=>by simp at h⟩,bR⟩
 case round=>
  obtain ⟨k,i,E,rfl,d,l⟩:=hrel;obtain ⟨oa,oc,y⟩:=dH d.out.outer;subst y;by_cases n:k < L.length
  ·have ul:i.length <= 100:=by rw [d.out.len];simp;omega
   have ea:=B (by omega);subst ea;clear B;obtain ⟨ai,ci,bi,e1,e2,e3⟩:=HR.out k n;have ad:=H4.out _ (List.getElem_mem n);have X:Hid (∀ x ∈ L[k],lW 50 x):=HZ.out _ (List.getElem_mem n);have HT:Hid ((L.take (k + 1)).map (iA f)=(L.take k).map (iA f) ++ [iA f L[k]]):=by
    unfold Hid;rw [List.take_succ_eq_append_getElem n,List.map_append];rfl
   have E1:=hide e1;have E3:=hide e3;clear e1 e3;generalize L[k]=c at *
   have k0:(0:Int) <= (k:Int):=by omega
   have k1:(k:Int) < (L.length:Int):=by omega
   have I:lb < w.heap.size:=block_lt_of_cell E1.out;go_wp2;go_loopw [7,8] (fun lv H Y=>∃ (q:Nat),q <= c.length/\H=.int .i64 (q:Nat)/\Hid (nU 43 3 w.heap.size Y (.slice oa i.length oc) lv i ((L.take k).map (iA f)) (iA f (c.take q)))/\Hid (Below w.heap.size w Y)) (fun _ H _=>c.length - (intOf H).toNat)
   case atStart=>exact ⟨0,zl,rfl,by unfold Hid;simpa [iA] using d.out,l⟩
   case round=>
    obtain ⟨q,hq,rfl,d,l⟩:=hrel;obtain ⟨pa,pc,y⟩:=dH d.out.row;subst y;have sb:=l.out.size;have f1:=(l.out.cell (p:=⟨lb,k,none⟩) I).trans E1.out;have rl:(iA f (c.take q)).length <= 4:=by unfold iA;simp;omega
    by_cases s:q < c.length
    ·have eb:=e2 (by omega);subst eb;have V:=E3.out q s;have f3:=(l.out.cell (p:=⟨bi,q,none⟩) (block_lt_of_cell V)).trans V;obtain ⟨ac,ab⟩:=X.out _ (List.getElem_mem s);have G:Hid (iA f (c.take (q + 1))=iA f (c.take q) ++ [if f (c[q]).natAbs=true then -c[q] else c[q]]):=by
      unfold Hid iA;rw [List.take_succ_eq_append_getElem s,List.map_append];rfl
     clear V;generalize c[q]=x at *
     obtain ⟨v,hv⟩:∃ v:Nat,v=x.natAbs:=⟨_,rfl⟩;obtain ⟨m,t⟩:∃ m:Nat,m=v % 50:=⟨_,rfl⟩;have em:(v:Int).tmod 50=(m:Int):=by rw [t,Int.tmod_eq_emod_of_nonneg (by omega)];omega
     have aa:m < 50:=by omega
     have w1:IntKind.i64.wrap (-x)=-x:=by rw [IntKind.wrap_i64];omega
     have U:Hid (f v=(bits BinOp.and IntKind.i64 (g / 2 ^ m) 1 == 1)):=by unfold Hid;rw [HF.out,t];rfl
     rw [<- hv] at G;generalize R:f v=bb at G U;have BB:=U.out.symm;clear U R t;have D:(x < 0/\x=-(v:Int)/\0 < (v:Int))\/(¬ x < 0/\x=(v:Int)/\0 < (v:Int)):=by omega
     clear hv
     rcases D with ⟨z,v3,v1⟩ | ⟨z,v3,v1⟩ <;> subst v3 <;> cases bb <;> simp only [Bool.false_eq_true,if_false,if_true,Int.neg_neg] at G
     all_goals
      go_wp2_with (at_builtin;refine wpList_append_own_at _ rfl _ _ 43 rfl w.heap.size 3 i0 (.int .i64 0) 1 8 Tryz.underlying43 hi N M K rfl (by decide) _ _ _ rfl (d.out.row.alloc _) ⟨wr.heap.size,0,none⟩ 1 1 [_] rfl rfl (cell_one_new _ _ _) (by simp [Value.oneCell']) (by unfold maxLen;omega) (by omega) (by simp;omega) ?_)
      intro C Z b a _ r;have M6:Hid (nU 43 3 w.heap.size Z (.slice oa i.length oc) C i ((L.take k).map (iA f)) (iA f (c.take (q + 1)))):=by
       unfold Hid;rw [G.out];exact d.out.lit (by decide) b a (by simpa using r)
      have B6:Hid (Below w.heap.size w Z):=(l.out.alloc sb _).grown a (by simp;omega) (fun k E=>(d.out.row.lt k E).1);clear b a r d l;go_wp2;go_roundw
      case rel=>exact ⟨q + 1,by omega,by go_num,M6,B6⟩
      case measure=>simp [intOf];omega
    ·have e:q=c.length:=by omega
     subst e;rw [List.take_length] at d;go_wp2_with (at_builtin;refine wpList_append_own_at _ rfl _ _ 32 rfl w.heap.size 43 j0 (.slice none 0 0) 1 24 Tryz.underlying32 hj Q P O rfl (by decide) _ _ _ rfl (d.out.outer.alloc _) ⟨wr.heap.size,0,none⟩ 1 1 [.slice pa _ pc] rfl rfl (cell_one_new _ _ _) (by simp [Value.oneCell']) (by unfold maxLen;omega) (by omega) (by simp;omega) ?_)
     intro W w3 b a _ S;have M3:Hid (nU 43 3 w.heap.size w3 W (.slice none 0 0) (i ++ [.slice pa (iA f c).length pc]) ((L.take (k + 1)).map (iA f)) []):=by
      unfold Hid;rw [HT.out];exact d.out.zero (by decide) b a
     have B3:Hid (Below w.heap.size w w3):=(l.out.alloc sb _).grown a (by simp;omega) (fun k E=>(d.out.outer.lt k E).1);clear b a S d l;go_wp2;go_roundw
     case rel=>exact ⟨k + 1,_,by omega,by go_num,M3,B3⟩
     case measure=>simp [intOf];omega
  ·have e:k=L.length:=by omega
   subst e;rw [List.take_length] at d;go_wp2;go_ret;exact ⟨_,_,rfl,d.out,l.out⟩
def Nt (w:World) (v:Value) (c:Cl):Prop:=∃ (ai:Option Addr) (ci bi:Nat),v=.slice ai c.length ci/\(0 < c.length->ai=some ⟨bi,0,none⟩)/\∀ j (hj:j < c.length),w.cell? ⟨bi,j,none⟩=some (.int .i64 c[j])
theorem Nt.later {w w':World} {v:Value} {c:Cl} (h:Nt w v c) (e:Below w.heap.size w w'):Nt w' v c:=by
 obtain ⟨a,k,b,i,g,f⟩:=h;exact ⟨a,k,b,i,g,fun j d=>cell_later (f j d) e⟩
structure Ls (w:World) (lv:Value) (us:List Value) (L:List Cl):Prop where
 len:us.length=L.length
 shape:(lv=.slice none 0 0/\us=[])\/∃ b c,lv=.slice (some ⟨b,0,none⟩) us.length c/\∀ i (hi:i < us.length),w.cell? ⟨b,i,none⟩=some us[i]
 row:∀ i (hi:i < us.length),Nt w us[i] (L[i]'(by rw [<- len];exact hi))
theorem Ls.form {w:World} {lv:Value} {us:List Value} {L:List Cl} (h:Ls w lv us L):∃ (a:Option Addr) (c b:Nat),lv=.slice a L.length c/\(0 < L.length->a=some ⟨b,0,none⟩)/\∀ i (e:i < us.length),w.cell? ⟨b,i,none⟩=some us[i]:=by
 have d:=h.len
 rcases h.shape with ⟨rfl,rfl⟩ | ⟨b,c,rfl,f⟩
 ·have j:L.length=0:=by rw [<- d];rfl
  exact ⟨none,0,0,by rw [j],fun g=>by omega,fun i e=>by simp at e⟩
 ·exact ⟨_,c,b,by rw [d],fun _=>rfl,f⟩
theorem Ls.rows {w:World} {lv:Value} {us:List Value} {L:List Cl} (h:Ls w lv us L):Rows w lv L:=by
 obtain ⟨a,c,b,j,g,f⟩:=h.form;refine ⟨a,c,b,j,g,fun i e=>?_⟩;have d:i < us.length:=by rw [h.len];exact e
 obtain ⟨m,ci,l,g1,g2,k⟩:=h.row i d;exact ⟨m,ci,l,by rw [f i d,g1],g2,k⟩
theorem Ls.later {w w':World} {lv:Value} {us:List Value} {L:List Cl} (h:Ls w lv us L) (e:Below w.heap.size w w'):Ls w' lv us L where
 len:=h.len
 shape:=by
  rcases h.shape with d | ⟨b,c,d,f⟩
  ·exact .inl d
  ·exact .inr ⟨b,c,d,fun i a=>cell_later (f i a) e⟩
 row:=fun i a=>(h.row i a).later e
theorem IY {B te:Nat} {w:World} {v:Value} {us:List Value} {L:List Cl} (h:w.ownsRow B te 1 v us.length us) (c:us.length=L.length) (d:∀ i (a:i < us.length),Nt w us[i] (L[i]'(by rw [<- c];exact a))):Ls w v us L where
 len:=c
 shape:=by
  have e:=h
  rcases h.2 with ⟨rfl,f⟩ | ⟨g,b,j,rfl,_⟩
  ·exact .inl ⟨rfl,List.eq_nil_of_length_eq_zero f⟩
  ·refine .inr ⟨g,b,rfl,fun i a=>?_⟩;have:=e.cells (g:=g) rfl i us[i] (List.getElem?_eq_getElem a);simpa [Addr.add_lit] using this
 row:=d
theorem Qu {B d:Nat} {w:World} {u:Value} {c:Cl} (h:w.ownsRow B d 1 u c.length (wJ c)):Nt w u c:=by
 have e:=h
 rcases h.2 with ⟨rfl,f⟩ | ⟨g,a,i,rfl,_⟩
 ·exact ⟨none,0,0,by rw [f],fun k=>by omega,fun j b=>by omega⟩
 ·refine ⟨some ⟨g,0,none⟩,a,g,rfl,fun _=>rfl,fun j b=>?_⟩;have:=e.cells (g:=g) rfl j (.int .i64 c[j]) (by simp [wJ,b]);simpa [Addr.add_lit] using this
theorem VS {te d B:Nat} {w:World} {v c:Value} {us:List Value} {L:List Cl} {b:List Int} (h:nU te d B w v c us L b):Ls w v us L:=by
 refine IY h.outer h.len fun i a=>?_
 have:=(h.inner i us[i] (List.getElem?_eq_getElem a)).1;have e:L.getD i []=L[i]'(by rw [<- h.len];exact a):=by simp [List.getD,<- h.len,a]
 rw [e] at this;exact Qu this
theorem LJ {B t n:Nat} {w w':World} {v:Value} {b:List Value} (c:w.ownsRow B t 1 v n b) (a:Below w.heap.size w w'):w'.ownsRow B t 1 v n b:=by
 have e:w.grownBy w' none:=⟨a.os,a.tape,a.output,a.size,fun k d _=>a.block k d⟩;refine c.kept e ?_
 cases f:v.ownBlock with
 | none=>exact .inl rfl
 | some g=>exact .inr (by simp)
theorem Ow {us:List Value} {j:Nat} (h:j < us.length):us.reverse.take (j + 1)=us.reverse.take j ++ [us[us.length - 1 - j]'(by omega)]:=by
 rw [List.take_succ_eq_append_getElem (by simpa using h),List.getElem_reverse]
theorem Ls.rev {w:World} {lv b:Value} {us:List Value} {L:List Cl} {B te:Nat} (h:Ls w lv us L) (c:w.ownsRow B te 1 b us.length us.reverse):Ls w b us.reverse L.reverse:=
 IY (by simpa using c) (by simp [h.len]) fun i d=>by
  have a:us.length - 1 - i < us.length:=by simp at d;omega
  have:=h.row _ a;simp only [List.getElem_reverse];have e:L.length - 1 - i=us.length - 1 - i:=by rw [h.len]
  simp only [e];exact this
def Yk (w:World) (lb:Nat) (lv:Value) (us:List Value) (L:List Cl):Prop:=(∀ i (hi:i < us.length),w.cell? ⟨lb,i,none⟩=some us[i])/\Ls w lv us L
theorem Yk.later {w w':World} {a:Nat} {lv:Value} {us:List Value} {L:List Cl} (h:Yk w a lv us L) (b:Below w.heap.size w w'):Yk w' a lv us L:=
 ⟨fun i c=>cell_later (h.1 i c) b,h.2.later b⟩
def iX {A:Type} (T:List A) (p:Nat):List A:=T.reverse ++ (T[p]?).toList
theorem Bi {A:Type} (T:List A) (p:Nat):(iX T p).length <= T.length + 1:=by
 unfold iX;cases T[p]? <;> simp
theorem Ls.snoc {w:World} {lv av:Value} {us:List Value} {T:List Cl} {B te p:Nat} (h:Ls w lv us T) (g:p < us.length) (f:p < T.length) (a:w.ownsRow B te 1 av (us.length + 1) (us.reverse ++ [us[p]])):Ls w av (us.reverse ++ [us[p]]) (T.reverse ++ [T[p]]):=
 IY (by simpa using a) (by simp [h.len]) fun i j=>by
  by_cases c:i < us.length
  ·have b:i < T.length:=by rw [<- h.len];exact c
   rw [List.getElem_append_left (by simpa using c),List.getElem_append_left (by simpa using b)];have:=h.row (us.length - 1 - i) (by omega);simp only [List.getElem_reverse];have e:T.length - 1 - i=us.length - 1 - i:=by rw [h.len]
   simp only [e];exact this
  ·have d:=h.len;have e:i=us.length:=by simp at j;omega
   subst e;rw [List.getElem_append_right (by simp),List.getElem_append_right (by simp;omega)];simp only [List.length_reverse,d,Nat.sub_self,List.getElem_cons_zero];exact h.row p g
theorem Ec (Y:World->Prop) (S:∀ {a b:World},Y a->Below a.heap.size a b->Y b)
  (hW:∀ W,Y W->Calls Tryz.prog 16 #[] W fun e g=>e=.returned (.bool true)/\Below W.heap.size W g)
  (vars d:Int) (aG:-9223372036854775808 <= vars) (aF:vars <= 9223372036854775807) (aL:-9223372036854775808 <= d) (aK:d <= 9223372036854775807) (n:Nat) (hn:n=1 + jK vars 30)
  (L T:List Cl) (f:Nat->Bool) (hf:f=J9 d) (X:T=L.map (iA f)) (m:Nat) (M:m=jK d T.length) (m1:Bool)
  (aw:∀ W,Y W->Calls Tryz.prog 19 #[.string ⟨(fG n L).toArray⟩] W fun e g=>e=.returned (.tuple #[.bool true,.bool m1])/\Below W.heap.size W g)
  (au:∀ W,Y W->Calls Tryz.prog 19 #[.string ⟨(fG n (iX T m)).toArray⟩] W fun e g=>e=.returned (.tuple #[.bool true,.bool m1])/\Below W.heap.size W g)
  (w:World) (hw:Y w) (rb off rc:Nat) (r:List Int) (hL:L=jE r n 100) (y:∀ i (hi:i < r.length),w.cell? ⟨rb,off + i,none⟩=some (.int .i64 r[i])) (hr:∀ x ∈ r,-9223372036854775808 <= x/\x <= 9223372036854775807) (ra:Option Addr) (aj:0 < r.length->ra=some ⟨rb,off,none⟩)
  (hz:∀ c ∈ L,∀ x ∈ c,lW n x) (ab:∀ c ∈ iX T m,∀ x ∈ c,lW n x) (h4:∀ c ∈ L,c.length <= 4) (az:∀ c ∈ iX T m,c.length <= 4) (hm:L.length <= 100) (ah:(fG n L).length <= 20000) (ag:(fG n (iX T m)).length <= 20000):
  Calls Tryz.prog 11 #[.slice ra r.length rc,.int .i64 vars,.int .i64 d] w fun e g=>e=.returned (.bool true)/\Below w.heap.size w g:=by
 have aW:n <= 30:=by have:jK vars 30 < 30:=Nat.mod_lt _ (by omega);omega
 have QW:=hide (hW w hw);have QP:Hid (∀ W:World,Calls Tryz.prog 22 #[.int .i64 vars,.int .i64 30] W fun e g=>∃ p:Nat,Hid (p=jK vars 30)/\p < 30/\e=.returned (.int .i64 (p:Nat))/\Below W.heap.size W g):=fun W=>
  (yh vars 30 W aG aF (by omega) (by omega)).mono fun e g ⟨a,b⟩=>⟨_,rfl,Nat.mod_lt _ (by omega),a,b⟩
 have QC:Hid (∀ W,Below w.heap.size w W->Calls Tryz.prog 23 #[.slice ra r.length rc,.int .i64 (n:Nat),.int .i64 100] W fun e g=>∃ a c,e=.returned (.slice a L.length c)/\Rows g (.slice a L.length c) L/\Below w.heap.size w g):=fun W G=>by
  refine (GN W rb off rc r n 100 (fun i hi=>by rw [G.cell (p:=⟨rb,off + i,none⟩) (block_lt_of_cell (y i hi))];exact y i hi) hr ra aj (by omega) (by omega) (by omega)).mono ?_;rintro e g ⟨v,rfl,I,aM⟩;rw [<- hL] at I;obtain ⟨a,c,b,rfl,_⟩:=id I;exact ⟨a,c,rfl,I,G.trans (aM.mono G.size)⟩
 have QD:Hid (∀ W (a:Option Addr) (c:Nat),Rows W (.slice a L.length c) L->Calls Tryz.prog 26 #[.slice a L.length c,.int .i64 d] W fun e g=>∃ a' c' lb us,e=.returned (.slice a' T.length c')/\(0 < T.length->a'=some ⟨lb,0,none⟩)/\Yk g lb (.slice a' T.length c') us T/\Below W.heap.size W g):=fun W a c I=>by
  refine (Ip W _ L d f hf I (fun c hc x hx=>by have:=hz c hc x hx;unfold lW at this ⊢;omega) h4 hm).mono ?_;rintro e g ⟨v,us,rfl,hM,G⟩;rw [<- X] at hM;have D:=VS hM;obtain ⟨a',c',lb,rfl,g2,g3⟩:=D.form;exact ⟨a',c',lb,us,rfl,g2,⟨g3,D⟩,G⟩
 have aT:Hid (∀ W:World,0 < T.length->Calls Tryz.prog 22 #[.int .i64 d,.int .i64 (T.length:Nat)] W fun e g=>e=.returned (.int .i64 (m:Nat))/\Below W.heap.size W g):=fun W h=>by
  have:=yh d T.length W aL aK h (by rw [X,List.length_map];omega);rw [<- M] at this;exact this
 have aQ:Hid (∀ W (a:Option Addr) (c:Nat),Rows W (.slice a L.length c) L->Calls Tryz.prog 25 #[.int .i64 (n:Nat),.slice a L.length c] W fun e g=>e=.returned (.string ⟨(fG n L).toArray⟩)/\Below W.heap.size W g):=fun W a c I=>
  Ej W _ L n I hz (fun c hc=>by have:=h4 c hc;omega) (by omega) (by omega) ah
 have aP:Hid (∀ W v,Rows W v (iX T m)->Calls Tryz.prog 25 #[.int .i64 (n:Nat),v] W fun e g=>e=.returned (.string ⟨(fG n (iX T m)).toArray⟩)/\Below W.heap.size W g):=fun W v I=>
  Ej W _ (iX T m) n I ab (fun c hc=>by have:=az c hc;omega) (by have:=Bi T m;rw [X,List.length_map] at this;rw [X];omega) (by omega) ag
 have aS:Hid (∀ W,Below w.heap.size w W->_):=fun W G=>aw W (S hw G)
 have aR:Hid (∀ W,Below w.heap.size w W->_):=fun W G=>au W (S hw G)
 have HN:=hide hn;have aO:T.length=L.length:=by rw [X,List.length_map]
 have aI:Hid (0 < T.length->m < T.length):=fun h=>by rw [M];exact Nat.mod_lt _ h
 have TL:T.length <= 100:=by omega
 clear hW aw au hw S y hr aj hz ab h4 az hL ah ag hn M X hf aO;generalize (⟨(fG n L).toArray⟩:ByteArray)=Xh at *
 generalize ay:iX T m=O at *
 have aD:=hide ay;clear ay;generalize (⟨(fG n O).toArray⟩:ByteArray)=Su at *
 obtain ⟨j0,hj,ae,ad,ac⟩:=info_parts Tryz.vF;go_enter Tryz.func11,Tryz.ntmps11
 go_upto_region 3 with (first
  |(go_at_call 16;(with_reducible refine QW.out.mono ?_);rintro e1 w1 ⟨rfl,aq⟩;have B1:=hide aq;clear aq QW;simp only [])
  |(go_at_call 22;(with_reducible refine (QP.out _).mono ?_);rintro e2 w2 ⟨p,hp,al,rfl,ap⟩;have B2:=hide (B1.out.trans (ap.mono B1.out.size));have HP:=hp;clear ap B1 QP;simp only []))
 have aA:(1:Int) + (p:Int)=(n:Int):=by rw [HN.out,<- HP.out];omega
 rw [aA];clear aA HP HN al;go_upto_region 5 with (first
  |(go_at_call 23;(with_reducible refine (QC.out _ B2.out).mono ?_);rintro e3 w3 ⟨la,lc,rfl,ax,ao⟩;have R3:=hide ax;have B3:=hide ao;clear ax ao QC B2;simp only [])
  |(go_at_call 26;(with_reducible refine (QD.out _ la lc R3.out).mono ?_);rintro e4 u ⟨ta,tc,lb,us,rfl,af,D,R⟩;have R4:=hide (R3.out.later R);have B4:=hide (B3.out.trans (R.mono B3.out.size));have U:=hide D;have aC:=hide af;clear R R3 B3 QD D af;simp only []))
 have wB:=B4.out.size;have J:=U.out.2.len;go_wp2;go_loopw [11,12] (fun ov iv wq=>∃ (j:Nat),j <= T.length/\iv=.int .i64 ((T.length:Int) - 1 - j)/\Hid (wq.ownsRow u.heap.size 43 1 ov j (us.reverse.take j))/\Hid (Below u.heap.size u wq)) (fun _ iv _=>(intOf iv + 1).toNat)
 case atStart=>exact ⟨0,zl,by go_num,World.ownsRow_nil _ _ _ _,bR⟩
 case round=>
  obtain ⟨j,aZ,rfl,s,o⟩:=hrel;obtain ⟨oa,oc,aJ⟩:=dH s.out;subst aJ;have sb:=o.out.size;by_cases aY:j < T.length
  ·have ea:=aC.out (by omega);subst ea;obtain ⟨q,hq⟩:∃ q:Nat,q=T.length - 1 - j:=⟨_,rfl⟩;have aH:(T.length:Int) - 1 - j=(q:Int):=by omega
   rw [aH];have ak:q < us.length:=by omega
   clear hq;have ck:=cell_later (U.out.1 q ak) o.out;obtain ⟨ai,ci,bi,V,-⟩:=U.out.2.row q ak;have HT:Hid (us.reverse.take (j + 1)=us.reverse.take j ++ [us[q]]):=by
    have:=Ow (us:=us) (j:=j) (by omega);have e:us.length - 1 - j=q:=by omega
    simp only [e] at this;exact this
   rw [V] at ck HT;clear V;generalize (T[q]'(by omega)).length=cl at *
   have aU:q < 100:=by omega
   go_wp2_with (at_builtin;refine wpList_append_own_at _ rfl _ _ 32 rfl u.heap.size 43 j0 (.slice none 0 0) 1 24 Tryz.underlying32 hj ae ad ac rfl (by decide) _ _ _ rfl (s.out.alloc _) ⟨wr.heap.size,0,none⟩ 1 1 [.slice ai _ ci] rfl rfl (cell_one_new _ _ _) (by simp [Value.oneCell']) (by unfold maxLen;omega) (by omega) (by simp;omega) ?_)
   intro aE w9 C E _ aN;have O9:Hid (w9.ownsRow u.heap.size 43 1 aE (j + 1) (us.reverse.take (j + 1))):=by
    unfold Hid;rw [HT.out];exact C
   have B9:Hid (Below u.heap.size u w9):=(o.out.alloc sb _).grown E (by simp;omega) (fun k hk=>(s.out.lt k hk).1);clear C E aN;go_wp2;go_roundw
   case rel=>exact ⟨j + 1,by omega,by go_num,O9,B9⟩
   case measure=>simp [intOf]
  ·have ej:j=T.length:=by omega
   subst ej;have l:Hid (wr.ownsRow u.heap.size 43 1 (.slice oa T.length oc) us.length us.reverse):=by
    have:=s.out;have h9:us.reverse.length <= T.length:=by rw [List.length_reverse,J];exact lr
    rw [List.take_of_length_le h9] at this;rw [J];exact this
   have H:=hide (U.out.later o.out);have R5:=hide (R4.out.later o.out);have B5:=hide (B4.out.trans (o.out.mono wB));have LO:=hide (H.out.2.rev l.out);clear s;have aV:¬ (0:Int) <= (T.length:Int) - 1 - (T.length:Int):=by omega
   by_cases h0:0 < T.length
   case' pos=>
    have ea:=aC.out h0;subst ea;have hp:=aI.out h0;have K:m < us.length:=by omega
    have VI:(0:Int) <= (m:Int):=by omega
    have aX:(m:Int) < (T.length:Int):=by omega
    have t0:(0:Int) < (T.length:Int):=by omega
    have CK:=hide (fun W (G:Below wr.heap.size wr W)=>cell_later (H.out.1 m K) G);obtain ⟨ai,ci,bi,V,-⟩:=H.out.2.row m K;rw [V] at CK;generalize (T[m]'(by omega)).length=cl at *
    have aB:=hide (fun W=>aT.out W h0);go_upto_region 11 with fail
    go_wp2_with (first
     |(go_at_call 22;(with_reducible refine (aB.out _).mono ?_);rintro e6 w6 ⟨rfl,Q⟩;have ck:=CK.out _ Q;have Z:=hide Q;clear Q;simp only [])
     |(at_builtin;refine wpList_append_own_at _ rfl _ _ 32 rfl u.heap.size 43 j0 (.slice none 0 0) 1 24 Tryz.underlying32 hj ae ad ac rfl (by decide) (.slice oa T.length oc) us.length us.reverse rfl ((LJ l.out Z.out).alloc _) ⟨w6.heap.size,0,none⟩ 1 1 [.slice ai _ ci] rfl rfl (cell_one_new _ _ _) (by simp [Value.oneCell']) (by unfold maxLen;omega) (by omega) (by have:=Z.out.size;simp;omega) ?_))
    intro aa w7 z t _ ar;have B7:Hid (Below u.heap.size u w7):=((o.out.trans (Z.out.mono sb)).alloc (by have:=Z.out.size;omega) _).grown t (by have:=Z.out.size;simp;omega) (fun k hk=>(l.out.lt k hk).1);have RO:Hid (Rows w7 aa O):=by
     have L7:=(U.out.later B7.out).2;have h:=Ls.snoc (B:=u.heap.size) (te:=43) (av:=aa) L7 K hp (by rw [J,V];exact z);have e:O=T.reverse ++ [T[m]]:=by
      rw [<- aD.out];unfold iX;rw [List.getElem?_eq_getElem hp];rfl
     unfold Hid;rw [e];exact h.rows
    have R7:=hide (R4.out.later B7.out);have B8:=hide (B4.out.trans (B7.out.mono wB));clear z t ar ck Z CK B5 R5 LO l H U o V aB
   case' neg=>
    have T0:T=[]:=List.eq_nil_of_length_eq_zero (by omega);have t0:¬ (0:Int) < (T.length:Int):=by omega
    have R7:=R5;have B8:=B5;have RO:Hid (Rows wr (.slice oa T.length oc) O):=by
     have e:O=T.reverse:=by rw [<- aD.out,T0];rfl
     unfold Hid;rw [e];exact LO.out.rows
    clear R5 B5 LO l H U o T0
   all_goals
    cases m1
    all_goals
     go_wp2_with (first
      |(go_at_call 25;first
       |((with_reducible refine (aQ.out _ la lc R7.out).mono ?_);rintro e8 w8 ⟨rfl,P⟩;have RA:=hide (RO.out.later P);have BA:=hide (B8.out.trans (P.mono B8.out.size));clear P R7 RO B8;simp only [])
       |((with_reducible refine (aP.out _ _ RC.out).mono ?_);rintro eb wb ⟨rfl,an⟩;have BD:=hide (BC.out.trans (an.mono BC.out.size));clear an;simp only []))
      |(go_at_call 19;first
       |((with_reducible refine (aS.out _ BA.out).mono ?_);rintro e9 w9 ⟨rfl,N⟩;have RC:=hide (RA.out.later N);have BC:=hide (BA.out.trans (N.mono BA.out.size));clear N RA BA;simp only [])
       |((with_reducible refine (aR.out _ BD.out).mono ?_);rintro ec wc ⟨rfl,am⟩;have BE:=hide (BD.out.trans (am.mono BD.out.size));clear am;simp only [])))
     go_ret
     exact ⟨rfl,BE.out⟩
theorem NS (f:Nat->Bool) (c:Cl):(iA f c).length=c.length:=by unfold iA;simp
theorem Sy {n:Nat} {f:Nat->Bool} {c:Cl} (h:∀ x ∈ c,lW n x):∀ x ∈ iA f c,lW n x:=fun x a=>by
 unfold iA at a;obtain ⟨y,b,rfl⟩:=List.mem_map.1 a;have:=h y b;unfold lW at this ⊢;split <;> omega
theorem Ee {t:Nat->Bool} {f:Nat->Bool} {x:Int} (c:x ≠ 0):RY t (if f x.natAbs=true then -x else x)↔RY (fun v=>t v != f v) x:=by
 unfold RY;cases h:f x.natAbs
 ·simp [h]
 ·have e:decide (0 < -x)=!decide (0 < x):=by
   by_cases g:0 < x
   ·rw [decide_eq_true g,decide_eq_false (by omega)];rfl
   ·rw [decide_eq_false g,decide_eq_true (by omega)];rfl
  simp only [if_true,Int.natAbs_neg,e,h];constructor
  ·rintro ⟨a,b⟩;exact ⟨c,by rw [b];cases decide (0 < x) <;> rfl⟩
  ·rintro ⟨a,b⟩;refine ⟨by omega,?_⟩;revert b;generalize decide (0 < x)=d;cases t x.natAbs <;> cases d <;> simp
theorem Ed {n:Nat} {f:Nat->Bool} {L:List Cl} (g:∀ c ∈ L,∀ x ∈ c,lW n x) (t:Nat->Bool):Sat t (L.map (iA f))↔Sat (fun v=>t v != f v) L:=by
 constructor
 ·intro h c b;obtain ⟨l,i,e⟩:=h _ (List.mem_map_of_mem b);unfold iA at i;obtain ⟨y,a,rfl⟩:=List.mem_map.1 i;exact ⟨y,a,(Ee (g c b y a).1).1 e⟩
 ·intro h d hd;obtain ⟨c,b,rfl⟩:=List.mem_map.1 hd;obtain ⟨y,a,e⟩:=h c b;exact ⟨_,by unfold iA;exact List.mem_map_of_mem a,(Ee (g c b y a).1).2 e⟩
theorem u7 {T:List Cl} {p:Nat} {c:Cl}:c ∈ iX T p↔c ∈ T:=by
 unfold iX;rw [List.mem_append,List.mem_reverse];constructor
 ·rintro (h | h)
  ·exact h
  ·cases e:T[p]? with
   | none=>rw [e] at h;cases h
   | some d=>
    rw [e] at h;have:=List.mem_of_getElem? e;simp at h;rw [h];exact this
 ·exact .inl
theorem Io {n:Nat} {f:Nat->Bool} {L:List Cl} (b:∀ c ∈ L,∀ x ∈ c,lW n x) (p:Nat):(∃ t,Sat t (iX (L.map (iA f)) p))↔∃ t,Sat t L:=by
 constructor
 ·rintro ⟨t,h⟩;exact ⟨_,(Ed b t).1 fun c a=>h c (u7.2 a)⟩
 ·rintro ⟨t,h⟩;refine ⟨fun v=>t v != f v,fun c a=>?_⟩;have:Sat (fun v=>t v != f v) (L.map (iA f)):=(Ed b _).2 (by
   have e:(fun v=>(t v != f v) != f v)=t:=by
    funext v
    cases t v <;> cases f v <;> rfl
   rw [e];exact h)
  exact this c (u7.1 a)
theorem Eb (w:World) (hg:tL w) (C off R:Nat) (j:List Int) (u:∀ i (hi:i < j.length),w.cell? ⟨C,off + i,none⟩=some (.int .i64 j[i])) (Z:∀ x ∈ j,-9223372036854775808 <= x/\x <= 9223372036854775807) (D:Option Addr) (H:0 < j.length->D=some ⟨C,off,none⟩) (vars f:Int) (G:-9223372036854775808 <= vars) (E:vars <= 9223372036854775807) (K:-9223372036854775808 <= f) (J:f <= 9223372036854775807):
  Calls Tryz.prog 11 #[.slice D j.length R,.int .i64 vars,.int .i64 f] w fun e z=>e=.returned (.bool true)/\Below w.heap.size w z:=by
 have hp:jK vars 30 < 30:=Nat.mod_lt _ (by omega);obtain ⟨n,hn⟩:∃ n,n=1 + jK vars 30:=⟨_,rfl⟩;obtain ⟨L,hL⟩:∃ L,L=jE j n 100:=⟨_,rfl⟩;have mem:∀ c ∈ L,∃ r,c=qZ n r:=fun c g=>by
  rw [hL] at g;obtain ⟨r,_,rfl⟩:=List.mem_map.1 g;exact ⟨r,rfl⟩
 have s:∀ c ∈ L,∀ x ∈ c,lW n x:=fun c g x Y=>by
  obtain ⟨r,rfl⟩:=mem c g;exact Ke (by omega) _ _ x Y
 have B:∀ c ∈ L,c.length <= 4:=fun c g=>by
  obtain ⟨r,rfl⟩:=mem c g;unfold qZ;rw [jN];omega
 have hm:L.length <= 100:=by rw [hL];unfold jE;simp;omega
 obtain ⟨T,y⟩:∃ T,T=L.map (iA (J9 f)):=⟨_,rfl⟩;obtain ⟨k,I⟩:∃ k,k=jK f T.length:=⟨_,rfl⟩;have S:∀ c ∈ iX T k,∃ d ∈ L,c=iA (J9 f) d:=fun c g=>by
  have:=u7.1 g;rw [y] at this;obtain ⟨d,hd,rfl⟩:=List.mem_map.1 this;exact ⟨d,hd,rfl⟩
 have m:∀ c ∈ iX T k,∀ x ∈ c,lW n x:=fun c g=>by
  obtain ⟨d,hd,rfl⟩:=S c g;exact Sy (s d hd)
 have o:∀ c ∈ iX T k,c.length <= 4:=fun c g=>by
  obtain ⟨d,hd,rfl⟩:=S c g;rw [NS];exact B d hd
 have U:(iX T k).length <= 101:=by have:=Bi T k;rw [y,List.length_map] at this;rw [y];omega
 obtain ⟨p,V⟩:∃ b:Bool,b=true↔∃ t,Sat t L:=by
  by_cases h:∃ t,Sat t L
  ·exact ⟨true,fun _=>h,fun _=>rfl⟩
  ·exact ⟨false,fun e=>(by cases e),fun e=>absurd e h⟩
 have e2:p=true↔∃ t,Sat t (iX T k):=by rw [V,y,Io s]
 have Q:∀ {M:List Cl},(p=true↔∃ t,Sat t M)->(∀ c ∈ M,∀ x ∈ c,lW n x)->(∀ c ∈ M,c.length <= 4)->M.length <= 101->∀ W,tL W->Calls Tryz.prog 19 #[.string ⟨(fG n M).toArray⟩] W fun e z=>e=.returned (.tuple #[.bool true,.bool p])/\Below W.heap.size W z:=fun {M} O a b c W P=>by
  refine (Te (n:=n) (by omega) (by omega) a (fun c g=>by have:=b c g;omega) c W P).mono ?_;rintro e z ⟨X,rfl,N,v⟩;have:X=p:=by
   have:=N.trans O.symm;cases p <;> cases X <;> simp_all
  rw [this];exact ⟨rfl,v⟩
 have q:∀ {M:List Cl},(∀ c ∈ M,∀ x ∈ c,lW n x)->(∀ c ∈ M,c.length <= 4)->M.length <= 101->(fG n M).length <= 20000:=fun {M} a b c=>by
  have h1:=vw M (fun c g=>by have:=b c g;omega);have h2:=Ei (n:=n) (by omega) (l:=M) (by omega) a;omega
 exact Ec tL (fun h O=>h.later O) (fun W P=>Si W P) vars f G E K J n hn L T _ rfl y k I p (Q V s B (by omega)) (Q e2 m o U) w hg C off R j hL u Z D H s m B o hm (q s B (by omega)) (q m o U)
end
end Kp
end Go.Proofs.YtceahffmenbibaaGreatDoor
