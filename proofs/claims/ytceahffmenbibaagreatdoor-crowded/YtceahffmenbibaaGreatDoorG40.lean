/- Kles Kshv Kdig Ktxt. -/
import Derived.Test.YtceahffmenbibaaGreatDoorG39
import Derived.Test.YtceahffmenbibaaGreatDoorG33
import Derived.Test.YtceahffmenbibaaGreatDoorG20
import Derived.Laws.IdiomStrings
set_option linter.unusedVariables false
set_option linter.unusedSimpArgs false
set_option maxHeartbeats 4000000
set_option maxRecDepth 100000
namespace Go.Proofs.YtceahffmenbibaaGreatDoor
namespace Kp
section
open Go Go.RowKit Go.Deep Rd Go.Proofs.YtceahffmenbibaaGreatDoor.So
def wS (n:Nat):Nat:=xw n 524288 14
theorem FH {n:Nat} (a:n <= 20):wS n <= 12648448:=by
 unfold wS xw;rw [show (2:Nat) ^ 14=16384 from rfl,show (2:Nat) ^ (14 + 1)=32768 from rfl]
 omega
theorem IM {n:Nat} {L:List Cl} (b:n <= 20) (a:0 < n) (e:∀ c ∈ L,∀ x ∈ c,mQ n x) (g:∀ c ∈ L,c.length <= 20001) (f:L.length <= 20001) (m:Aq L <= 100000000):WE n L (wS n):=fun Z k w d j i=>by
 have h:=FH b;have l:2 ^ n <= 2 ^ 20:=Nat.pow_le_pow_right (by omega) b
 exact LC (by omega) a (by omega) (by omega) (by decide) w d L j e g f i (by unfold wS at h;omega) (by unfold wS at h;omega)
def rM (w:World):Prop:=o5 w/\nX w.heap.size w
theorem rM.later {w w':World} (h:rM w) (a:Below w.heap.size w w'):rM w':=
 ⟨o5.below h.1.2.2 a h.1,(h.2.later a).1,Nat.lt_of_lt_of_le h.2.2 a.size⟩
theorem sD:∀ (L:List Cl),(∀ c ∈ L,c.length <= 5)->y9 L <= 5 * L.length
 | [],_=>by simp [y9]
 | c :: L,h=>by
  have a:=sD L (fun d hd=>h d (by simp [hd]))
  have b:=h c (by simp)
  simp only [y9,List.map_cons,List.sum_cons,List.length_cons] at a ⊢;omega
theorem Fe:∀ (L:List Cl),(∀ c ∈ L,c.length <= 5)->Aq L <= 8 * L.length
 | [],_=>by simp [Aq]
 | c :: L,h=>by
  have a:=Fe L (fun d hd=>h d (by simp [hd]))
  have b:=h c (by simp)
  simp only [Aq,List.map_cons,List.sum_cons,List.length_cons] at a ⊢;omega
theorem Nz {s:ByteArray} {n mx:Nat} {L:List Cl} (i:s.size <= maxLen) (j:lT s.data.toList=((n:Int),L,0)) (l:n <= 50) (h:250 * mx + 2 <= 4294967280) {p:List UInt8} (k:xg n L mx p) (w:World) (f:rM w):
  Calls Tryz.prog 20 #[.string s,.string ⟨p.toArray⟩] w fun e d=>e=.returned (.tuple #[.int .i64 (Fh p:Nat),.int .i64 0])/\Below w.heap.size w d:=by
 obtain ⟨a,r,rfl,q,o,g,t⟩:=k;have u:(⟨(dS a ++ [48,10]).toArray⟩:ByteArray).size=(dS a ++ [48,10]).length:=rfl;refine (rG s _ w n a.length L r a i (by omega) (Nat.le_trans List.count_le_length (by show (dS a ++ [48,10]).length <= _;omega)) j ⟨rfl,q,g⟩ rfl f.1 f.2).mono ?_
 rintro e d ⟨b,rfl,m,c⟩;rw [m.2 o];refine ⟨?_,c⟩;rw [tZ,BH l a g];rfl
theorem J9 {n:Nat} {L:List Cl} (s:n <= 20) (m:0 < n) (g:∀ c ∈ L,∀ x ∈ c,mQ n x) (d:∀ c ∈ L,c.length <= 5) (C:L.length <= 80) (w:World) (z:rM w):
  Calls Tryz.prog 19 #[.string ⟨(eX n L).toArray⟩] w fun e q=>RQ L w e q:=by
 have D:=sD L d;have B:=yj (n:=n) (by omega) (l:=L) (by omega) g
 have i:=FH s;have j:(⟨(eX n L).toArray⟩:ByteArray).size <= maxLen:=by
  show (eX n L).length <= maxLen
  unfold maxLen;omega
 have k:lT (⟨(eX n L).toArray⟩:ByteArray).data.toList=((n:Int),L,0):=LW (by omega) (by omega) g (by omega) (by omega)
 have v:=IM s m g (fun c o=>by have:=d c o;omega) (by omega) (by have:=Fe L d;omega)
 refine OG rM (fun h i=>h.later i) (by omega) g (fun c o=>by have:=d c o;omega) (by omega) (fun W f=>vC (n:=n) (L:=L) (mx:=wS n) _ W f.1 j k v) (fun W f=>?_) (fun p y W f=>Nz j k (by omega) (by omega) y W f) (by omega) w z
 refine (yE _ W j f.1).mono ?_;rintro e q ⟨i,u,t,d⟩;rw [CY,k] at t d;have r:=OM (PR d);obtain ⟨a,c,b,rfl,_⟩:=id r;exact ⟨a,c,t,r,i⟩
theorem XW:jo [[1],[-1]] []:=by
 rcases VH with h | ⟨l,r,e,_⟩
 ·exact h
 ·cases e
theorem XV:¬ jo [[1]] []:=fun h=>by
 have b:Sat (fun _=>true) [[1]]:=fun c a=>by
  simp at a;subst a;exact ⟨1,by simp,by decide,by decide⟩
 obtain ⟨l,d,_⟩:=CU (c:=[]) b h;cases d
theorem J6 (w:World) (s:rM w):Calls Tryz.prog 16 #[] w fun e k=>e=.returned (.bool true)/\Below w.heap.size w k:=by
 refine La rM (fun h f=>h.later f) (fun W j=>?_) (fun W j=>?_) (fun W j=>?_) (fun W j=>?_) w s
 ·refine (vC (n:=2) (L:=[[1,-2],[2]]) (mx:=wS 2) Xp W j.1 (by decide) Zl (IM (by omega) (by omega) Zd (by intro c m;simp at m;rcases m with rfl | rfl <;> decide) (by decide) (by decide))).mono ?_
  rintro e k ⟨f,⟨p,rfl,r⟩ | ⟨g,l,p,rfl,o,a,q⟩⟩
  ·exact absurd YA (wQ Zd r)
  ·obtain ⟨u,t⟩:=Xn q;refine ⟨g,⟨p⟩,rfl,?_,?_,f⟩
   ·have:=a.cell (i:=0) (by omega)
    rw [u] at this;exact this
   ·have:=a.cell (i:=1) (by omega)
    rw [t] at this;exact this
 ·refine (vC (n:=1) (L:=[[1],[-1]]) (mx:=wS 1) SV W j.1 (by decide) Y9 (IM (by omega) (by omega) Zn (by intro c m;simp at m;rcases m with rfl | rfl <;> decide) (by decide) (by decide))).mono ?_
  rintro e k ⟨f,⟨p,rfl,r⟩ | ⟨g,l,p,rfl,o,a,q⟩⟩
  ·exact ⟨_,rfl,f⟩
  ·exact absurd (uM q) Vz
 ·refine (rG SV VN W 1 0 _ [[1],[-1]] [] (by decide) (by decide) (by decide +kernel) Y9 ⟨rfl,rfl,by simp⟩ rfl j.1 j.2).mono ?_
  rintro e k ⟨b,rfl,f,d⟩;rw [f.2 XW];exact ⟨rfl,d⟩
 ·refine (rG Xb VN W 1 0 _ [[1]] [] (by decide) (by decide) (by decide +kernel) Zk ⟨rfl,rfl,by simp⟩ rfl j.1 j.2).mono ?_
  rintro e k ⟨b,rfl,f,d⟩;cases b
  ·exact ⟨rfl,d⟩
  ·exact absurd (f.1 rfl) XV
end
section
open Go Go.RowKit Go.Deep Rd
theorem rA {i:Nat} (h:10 <= i):Lib.decDigits i=Lib.decDigits (i / 10) ++ [UInt8.ofNat (48 + i % 10)]:=by rw [Lib.decDigits,dif_neg (by omega)]
theorem Dn {u:Nat} (h:u < 1000):Lib.nDigits u <= 3:=by
 rw [<- Lib.decDigits_length,Lib.decDigits];split
 ·simp
 ·rw [Lib.decDigits];split
  ·simp
  ·rw [Lib.decDigits,dif_pos (by omega)];simp
def GN (d:Nat):ByteArray:=⟨#[UInt8.ofNat (48 + d % 10)]⟩
theorem Cj (d:Nat):(GN d).size=1:=rfl
def Af (u m:Nat) (s:ByteArray):Prop:=if m < 10 then s.data.toList=Lib.decDigits u else Lib.decDigits (m / 10) ++ s.data.toList=Lib.decDigits u
theorem GM (u:Nat):Af u u (GN u):=by
 unfold Af;split
 ·rw [Lib.decDigits_one (by omega)];unfold GN;rw [Nat.mod_eq_of_lt (by omega)]
 ·rw [rA (i:=u) (by omega)];rfl
theorem JC {u m:Nat} {s:ByteArray} (h:Af u m s) (a:10 <= m):Af u (m / 10) (GN (m / 10) ++ s):=by
 unfold Af at h ⊢;rw [if_neg (by omega)] at h
 have e:(GN (m / 10) ++ s).data.toList=UInt8.ofNat (48 + m / 10 % 10) :: s.data.toList:=by unfold GN;simp [ByteArray.data_append]
 split
 ·rw [e,<- h,Lib.decDigits_one (by omega),Nat.mod_eq_of_lt (by omega)];rfl
 ·rw [e,<- h,rA (i:=m / 10) (by omega)];simp
theorem Kk (w:World) (z:Int) (u:Nat) (a:z=((48 + u % 10:Nat):Int)):(convert 107 9 (.slice (some ⟨w.heap.size,0,none⟩) 1 1)).run Tryz.prog (w.alloc (.cells #[.int .u8 z] 5))=.ok (.string (GN u)) (w.alloc (.cells #[.int .u8 z] 5)):=by
 refine run_convert_bytes_back _ 107 9 5 ⟨w.heap.size,0,none⟩ 1 [UInt8.ofNat (48 + u % 10)] Tryz.underlying107 Tryz.underlying5 Tryz.underlying9 ?_;intro j b;have d:j=0:=by simpa using b
 subst d
 have r:(w.alloc (.cells #[.int .u8 z] 5)).rowIs w.heap.size 5 1 (fun _=>.int .u8 z):=World.rowIs_alloc w _ _ _ fun i c=>match i,c with
  | 0,_=>rfl
 have:=r.cell (i:=0) (by omega)
 show (w.alloc (.cells #[.int .u8 z] 5)).cell? ⟨w.heap.size,0,none⟩=_
 rw [this,a];have:(UInt8.ofNat (48 + u % 10)).toNat=48 + u % 10:=by
  rw [UInt8.toNat_ofNat'];omega
 rw [List.getElem_cons_zero,this]
theorem zA (u:Nat) (w:World) (k:u < 1000):
  Calls Tryz.prog 44 #[.int .i64 (u:Nat)] w fun e j=>e=.returned (.string ⟨(Lib.decDigits u).toArray⟩)/\Below w.heap.size w j:=by
 have t:¬ ((u:Nat):Int) < 0:=by omega
 have h:=Kk w (48 + (u:Int) % 10) u (by omega)
 go_enter Tryz.func44,Tryz.ntmps44
 go_wp2;have g:Hid (Below w.heap.size w (w.alloc (.cells #[.int .u8 (48 + (u:Int) % 10)] 5))):=bR.alloc lr _
 clear h;generalize w.alloc (.cells #[.int .u8 (48 + (u:Int) % 10)] 5)=p at *
 go_loopw [0,3] (fun i s wr=>∃ (m:Nat) (b:ByteArray),m < 1000/\b.size + m <= 1001/\i=.int .i64 m/\s=.string b/\Hid (Af u m b)/\Hid (Below w.heap.size w wr)) (fun i _ _=>(intOf i).toNat)
 case atStart=>exact ⟨u,_,k,by rw [Cj];omega,rfl,rfl,GM u,g⟩
 case round=>
  obtain ⟨m,b,r,n,rfl,rfl,hd,c⟩:=hrel;by_cases d:m < 10
  ·have E:Hid (b=⟨(Lib.decDigits u).toArray⟩):=by
    have:=hd.out;unfold Af at this;rw [if_pos d] at this;have o:b.data=(Lib.decDigits u).toArray:=by rw [<- this]
    cases b;exact congrArg _ o
   have a:¬ (10:Int) <= (m:Int):=by omega
   go_wp2;go_ret
   exact ⟨by rw [<- E.out];rfl,c.out⟩
  ·have a:(10:Int) <= (m:Int):=by omega
   have l:(GN (m / 10)).size=1:=Cj _;have h:=Kk wr (48 + (m:Int) / 10 % 10) (m / 10) (by omega)
   have q:((m:Nat):Int).tdiv 10=((m / 10:Nat):Int):=by rw [Int.tdiv_eq_ediv_of_nonneg (by omega)];rfl
   have f:Hid (Below w.heap.size w (wr.alloc (.cells #[.int .u8 (48 + (m:Int) / 10 % 10)] 5))):=c.out.alloc c.out.size _;go_wp2;go_roundw
   case rel=>exact ⟨m / 10,_,by omega,by rw [ByteArray.size_append];omega,by go_num,rfl,JC hd.out (by omega),f⟩
   case measure=>simp [intOf];omega
theorem JB (x:Int) (w:World) (c:x.natAbs < 1000):
  Calls Tryz.prog 44 #[.int .i64 x] w fun e a=>e=.returned (.string ⟨(Lib.itoa x).toArray⟩)/\Below w.heap.size w a:=by
 by_cases m:x < 0
 ·have h:(Lib.decDigits x.natAbs).length <= 1000:=by
   rw [Lib.decDigits_length];exact Nat.le_trans (Dn c) (by omega)
  have j:Hid (Calls Tryz.prog 44 #[.int .i64 (-x)] w fun e a=>∃ t:ByteArray,e=.returned (.string t)/\t.size <= 1000/\Hid (t.data.toList=Lib.decDigits x.natAbs)/\Below w.heap.size w a):=by
   have:(-x:Int)=((x.natAbs:Nat):Int):=by omega
   rw [this];refine (zA _ _ c).mono ?_;rintro e a ⟨rfl,b⟩;exact ⟨_,rfl,h,rfl,b⟩
  have l:IntKind.i64.wrap (-x)=-x:=by rw [IntKind.wrap_i64];omega
  have g:(x == -x)=false:=by simp;omega
  have E:Hid (Lib.itoa x=45 :: Lib.decDigits x.natAbs):=by
   have:=Lib.itoa_neg x.natAbs (by omega)
   have e:-((x.natAbs:Nat):Int)=x:=by omega
   rw [e] at this;exact this
  go_enter Tryz.func44,Tryz.ntmps44
  go_wp2_with (go_at_call 44;(with_reducible refine j.out.mono ?_);rintro e a ⟨t,rfl,d,f,b⟩;have k:=hide b;clear b;simp only [])
  go_ret
  refine ⟨?_,k.out⟩;show Ending.returned (Value.string _)=_
  congr 2
  apply ByteArray.ext
  apply Array.toList_inj.1
  rw [E.out,<- f.out];simp [ByteArray.data_append]
 ·have:=zA x.natAbs w c;have e:((x.natAbs:Nat):Int)=x:=by omega
  rw [e] at this;have i:Lib.itoa x=Lib.decDigits x.natAbs:=by rw [<- Lib.itoa_nonneg,e]
  rw [i];exact this
end
section
open Go Go.RowKit Go.Deep Rd Go.Proofs.YtceahffmenbibaaGreatDoor.So
theorem Rows.later {w w':World} {lv:Value} {L:List Cl} (h:Rows w lv L) (e:Below w.heap.size w w'):Rows w' lv L:=by
 obtain ⟨a,c,b,n,m,l⟩:=h;refine ⟨a,c,b,n,m,fun i k=>?_⟩
 obtain ⟨o,ci,g,g1,g2,f⟩:=l i k;exact ⟨o,ci,g,by rw [e.cell (p:=⟨b,i,none⟩) (block_lt_of_cell g1)];exact g1,g2,fun j d=>by rw [e.cell (p:=⟨g,j,none⟩) (block_lt_of_cell (f j d))];exact f j d⟩
def Ql (n m:Nat):Bs:=[112,32,99,110,102,32] ++ Lib.decDigits n ++ [32] ++ Lib.decDigits m ++ [10]
def uO (x:Int):Bs:=Lib.itoa x ++ [32]
def nE (n:Nat) (L:List Cl) (k:Nat):Bs:=Ql n L.length ++ (L.take k).flatMap Im
theorem Bb (n:Nat) (L:List Cl):nE n L L.length=eX n L:=by unfold nE eX Ql;rw [List.take_length]
theorem IG (n:Nat) (L:List Cl) (k:Nat) (h:k < L.length):nE n L (k + 1)=nE n L k ++ ((L[k]).flatMap uO ++ [48,10]):=by
 unfold nE;rw [List.take_succ_eq_append_getElem h,List.flatMap_append,List.flatMap_cons,List.flatMap_nil,List.append_nil];unfold Im uO;rw [List.append_assoc]
theorem Ba (n:Nat) (L:List Cl) (k:Nat) (h:k <= L.length):(nE n L k).length <= (eX n L).length:=by
 rw [<- Bb];unfold nE;rw [List.length_append,List.length_append,List.take_length];have:L.flatMap Im=(L.take k).flatMap Im ++ (L.drop k).flatMap Im:=by rw [<- List.flatMap_append,List.take_append_drop]
 rw [this,List.length_append];omega
theorem Ug (c:Cl) (q:Nat):((c.take q).flatMap uO).length <= (c.flatMap uO).length:=by
 have:c.flatMap uO=(c.take q).flatMap uO ++ (c.drop q).flatMap uO:=by rw [<- List.flatMap_append,List.take_append_drop]
 rw [this,List.length_append];omega
theorem JA (x:Int) (w:World) (a:x.natAbs < 1000):
  Calls Tryz.prog 44 #[.int .i64 x] w fun e b=>∃ t:ByteArray,e=.returned (.string t)/\t.size <= 10/\Hid (t.data.toList=Lib.itoa x)/\Hid (Below w.heap.size w b):=by
 refine (JB x w a).mono ?_;rintro e b ⟨rfl,c⟩;refine ⟨_,rfl,?_,rfl,c⟩;show (Lib.itoa x).length <= 10
 by_cases h:x < 0
 ·have:=Lib.itoa_neg x.natAbs (by omega)
  have e:-((x.natAbs:Nat):Int)=x:=by omega
  rw [e] at this;rw [this,List.length_cons,Lib.decDigits_length];have:=Dn a;omega
 ·have e:((x.natAbs:Nat):Int)=x:=by omega
  rw [<- e,Lib.itoa_nonneg,Lib.decDigits_length];have:=Dn a;omega
theorem Tk {t:ByteArray} {l:Bs} (h:t.data.toList=l):t=⟨l.toArray⟩:=by
 apply ByteArray.ext;apply Array.toList_inj.1;rw [h]
theorem uY (a b:ByteArray):(a ++ b).data.toList=a.data.toList ++ b.data.toList:=by simp [ByteArray.data_append]
theorem uw (w:World) (lv:Value) (L:List Cl) (n:Nat) (hL:Rows w lv L) (C:∀ c ∈ L,∀ x ∈ c,mQ n x) (I:∀ c ∈ L,c.length <= 20001) (hm:L.length < 1000) (hn:n <= 50) (G:(eX n L).length <= 20000):
  Calls Tryz.prog 25 #[.int .i64 (n:Nat),lv] w fun e U=>e=.returned (.string ⟨(eX n L).toArray⟩)/\Below w.heap.size w U:=by
 have HZ:=hide C;have HL:=hide I;have R:=hide G;have y:=hide JA;obtain ⟨la,lc,b,rfl,r,J⟩:=hL;have j:=hide J;clear C I G J;go_enter Tryz.func25,Tryz.ntmps25
 go_upto_region 2 with (first
  |(go_at_call 44;(with_reducible refine (y.out (n:Nat) _ (by omega)).mono ?_);rintro h w1 ⟨t1,rfl,X,N,v⟩;simp only [])
  |(go_at_call 44;(with_reducible refine (y.out (L.length:Nat) _ (by omega)).mono ?_);rintro K w2 ⟨t2,rfl,V,M,P⟩;simp only []))
 go_wp2;go_loopw [5,6] (fun m i wr=>∃ (k:Nat) (t:ByteArray),k <= L.length/\i=.int .i64 k/\m=.string t/\Hid (t.data.toList=nE n L k)/\Hid (Below w.heap.size w wr)) (fun _ i _=>L.length - (intOf i).toNat)
 case atStart=>
  refine ⟨0,_,zl,rfl,rfl,?_,v.out.trans (P.out.mono v.out.size)⟩;unfold Hid;simp only [uY,N.out,M.out,Lib.itoa_nonneg];unfold nE Ql;simp
 case round=>
  obtain ⟨k,t,hk,rfl,rfl,hd,o⟩:=hrel;clear X V N M v P;have aa:t.size <= 20000:=by
   have l:t.size=(nE n L k).length:=by rw [<- hd.out];simp
   have:=Ba n L k hk;have:=R.out;omega
  by_cases a:k < L.length
  ·have ea:=r (by omega)
   subst ea;obtain ⟨Q,ci,O,h,K,u⟩:=j.out k a;clear r;have ad:wr.cell? ⟨b,k,none⟩=some (.slice Q (L[k]).length ci):=by rw [o.out.cell (p:=⟨b,k,none⟩) (block_lt_of_cell h)];exact h
   have E3:=hide u;clear u;have ab:=HL.out _ (List.getElem_mem a);have z:Hid (∀ x ∈ L[k],mQ n x):=HZ.out _ (List.getElem_mem a);have S:Hid (nE n L (k + 1)=nE n L k ++ ((L[k]).flatMap uO ++ [48,10])):=IG n L k a;have H:(nE n L k).length + ((L[k]).flatMap uO).length <= 20000:=by
    have l:=Ba n L (k + 1) a;have r:=R.out;rw [S.out,List.length_append,List.length_append] at l;omega
   generalize L[k]=c at *
   go_wp2;go_loopw [5,7] (fun m i T=>∃ (q:Nat) (t:ByteArray),q <= c.length/\i=.int .i64 q/\m=.string t/\Hid (t.data.toList=nE n L k ++ (c.take q).flatMap uO)/\Hid (Below w.heap.size w T)) (fun _ i _=>c.length - (intOf i).toNat)
   case atStart=>exact ⟨0,t,zl,rfl,rfl,by unfold Hid;rw [hd.out];simp,o⟩
   case round=>
    obtain ⟨q,B,hq,rfl,rfl,f,d⟩:=hrel;have D:B.size <= 20000:=by
     have l:B.size=(nE n L k ++ (c.take q).flatMap uO).length:=by rw [<- f.out];simp
     have:=Ug c q;rw [List.length_append] at l;omega
    have ae:wr.cell? ⟨b,k,none⟩=some (.slice Q c.length ci):=by rw [d.out.cell (p:=⟨b,k,none⟩) (block_lt_of_cell h)];exact h
    by_cases g:q < c.length
    ·have ei:=K (by omega)
     subst ei;have s:=E3.out q g;have ac:wr.cell? ⟨O,q,none⟩=some (.int .i64 c[q]):=by rw [d.out.cell (p:=⟨O,q,none⟩) (block_lt_of_cell s)];exact s
     obtain ⟨Z,Y⟩:=z.out _ (List.getElem_mem g);have HQ:Hid ((c.take (q + 1)).flatMap uO=(c.take q).flatMap uO ++ (Lib.itoa c[q] ++ [32])):=by
      unfold Hid;rw [List.take_succ_eq_append_getElem g,List.flatMap_append];simp [uO]
     clear s h;generalize c[q]=x at *
     have QX:=hide (fun W=>y.out x W (by omega))
     go_upto_region 7 with (go_at_call 44;(with_reducible refine (QX.out _).mono ?_);rintro u w3 ⟨t3,rfl,s3,d3,b3⟩;simp only [])
     go_wp2;go_roundw
     case rel=>exact ⟨q + 1,_,by omega,by go_num,rfl,by unfold Hid;rw [uY,uY,f.out,d3.out,HQ.out];simp,d.out.trans (b3.out.mono d.out.size)⟩
     case measure=>simp [intOf];omega
    ·have e:q=c.length:=by omega
     subst e;rw [List.take_length] at f;go_wp2;go_roundw
     case rel=>exact ⟨k + 1,_,by omega,by go_num,rfl,by unfold Hid;rw [S.out,uY,f.out];simp,d⟩
     case measure=>simp [intOf];omega
  ·have e:k=L.length:=by omega
   subst e;have E:Hid (t=⟨(eX n L).toArray⟩):=Tk (by rw [hd.out,Bb])
   go_wp2;go_ret
   exact ⟨by rw [<- E.out];rfl,o.out⟩
end
end Kp
end Go.Proofs.YtceahffmenbibaaGreatDoor
