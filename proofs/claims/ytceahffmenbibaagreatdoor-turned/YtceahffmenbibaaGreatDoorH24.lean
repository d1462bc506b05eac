/- Tgiv Shelf2 Sgiv Sgia Sgiw. -/
import Derived.Test.YtceahffmenbibaaGreatDoorH03
import Derived.Test.YtceahffmenbibaaGreatDoorH23
import Derived.Lib.SlicesCompact
import Derived.Shelf.Sort.Plain
import Derived.Shelf.Slices.CompactI
import Derived.Sort.OwnSortedInts
import Derived.Lib.RowBridge
set_option linter.unusedVariables false
set_option linter.unusedSimpArgs false
set_option maxHeartbeats 4000000
set_option maxRecDepth 100000
open Go.Proofs.Tryz
namespace Go.Proofs.YtceahffmenbibaaGreatDoor
namespace So
section
open Rd
theorem zt (d:Array Int) (q:∀ i j,i <= j->j < d.size->d[i]! <= d[j]!):∀ m,m <= d.size->(∀ x,x ∈ Lib.compactUpTo d m↔∃ j,j < m/\d[j]! = x)/\(Lib.compactUpTo d m).Pairwise (· < ·)
 | 0,_=>by
  rw [show Lib.compactUpTo d 0=[] from rfl];exact ⟨fun x=>by simp,List.Pairwise.nil⟩
 | m + 1,h=>by
  obtain ⟨t,v⟩:=zt d q m (by omega);rw [Lib.compactUpTo_succ];by_cases k:Lib.keeps d m=true
  ·rw [if_pos k];have r:∀ x ∈ Lib.compactUpTo d m,x < d[m]! := fun x o=>by
    obtain ⟨j,l,e⟩:=(t x).1 o;have u:0 < m:=by omega
    have a:=q j (m - 1) (by omega) (by omega);have b:=q (m - 1) m (by omega) (by omega);have c:d[m]! ≠ d[m - 1]! := fun e=>by rw [Lib.keeps_neg u e] at k;cases k
    omega
   refine ⟨fun x=>?_,List.pairwise_append.2 ⟨v,by simp,fun a y b hb=>?_⟩⟩
   ·rw [List.mem_append,t];constructor
    ·rintro (⟨j,l,e⟩ | o)
     ·exact ⟨j,by omega,e⟩
     ·simp at o;exact ⟨m,by omega,o.symm⟩
    ·rintro ⟨j,l,e⟩
     rcases Nat.lt_succ_iff_lt_or_eq.1 l with g | g
     ·exact .inl ⟨j,g,e⟩
     ·subst g;exact .inr (by simp [e])
   ·simp at hb;subst hb;exact r a y
  ·rw [if_neg k,List.append_nil];refine ⟨fun x=>?_,v⟩;rw [t];have u:0 < m:=by
    rcases Nat.eq_zero_or_pos m with e | e
    ·subst e;exact absurd (Lib.keeps_lt_one d 0 (by omega)) k
    ·exact e
   have e:d[m]! = d[m - 1]! := by
    rcases Decidable.em (d[m]! = d[m - 1]!) with g | g
    ·exact g
    ·exact absurd (Lib.keeps_pos g) k
   constructor
   ·rintro ⟨j,l,p⟩;exact ⟨j,by omega,p⟩
   ·rintro ⟨j,l,p⟩
    rcases Nat.lt_succ_iff_lt_or_eq.1 l with g | g
    ·exact ⟨j,g,p⟩
    ·subst g;exact ⟨j - 1,by omega,by rw [<- e];exact p⟩
theorem Co (zs:List Int):(∀ x,x ∈ Lib.compact (zs.mergeSort fun x y=>decide (x <= y))↔x ∈ zs)/\(Lib.compact (zs.mergeSort fun x y=>decide (x <= y))).Pairwise (· < ·):=by
 have t:=List.mergeSort_perm zs (fun x y=>decide (x <= y));have r:(zs.mergeSort fun x y=>decide (x <= y)).Pairwise (fun x y=>decide (x <= y)=true):=by
  exact List.pairwise_mergeSort (fun a b c p o=>by simp at p o ⊢;omega) (fun a b=>by simp;omega) zs
 generalize zs.mergeSort (fun x y=>decide (x <= y))=l at *
 have h:∀ i j,i <= j->j < l.toArray.size->l.toArray[i]! <= l.toArray[j]! := fun i j m d=>by
  have k:j < l.length:=by simpa using d
  rw [getElem!_pos l.toArray i (by simp;omega),getElem!_pos l.toArray j d];simp only [List.getElem_toArray]
  rcases Nat.eq_or_lt_of_le m with e | e
  ·subst e;exact Int.le_refl _
  ·have:=List.pairwise_iff_getElem.1 r i j (by omega) k e;simpa using this
 obtain ⟨p,o⟩:=zt l.toArray h l.length (by simp);refine ⟨fun x=>?_,o⟩;rw [<- t.mem_iff];unfold Lib.compact;rw [p];constructor
 ·rintro ⟨j,d,rfl⟩;rw [getElem!_pos l.toArray j (by simpa using d)];simp
 ·intro q;obtain ⟨j,d,e⟩:=List.mem_iff_getElem.1 q;exact ⟨j,d,by rw [getElem!_pos l.toArray j (by simpa using d)];simpa using e⟩
theorem KZ (a:List Nat):∃ c:List Nat,Lib.compact ((a.map fun (x:Nat)=>(x:Int)).mergeSort fun x y=>decide (x <= y))=c.map (fun (x:Nat)=>(x:Int))/\(∀ x,x ∈ c↔x ∈ a)/\c.Pairwise (· < ·):=by
 obtain ⟨i,j⟩:=Co (a.map fun (x:Nat)=>(x:Int));generalize Lib.compact ((a.map fun (x:Nat)=>(x:Int)).mergeSort fun x y=>decide (x <= y))=l at *
 have e:l=(l.map Int.toNat).map (fun (x:Nat)=>(x:Int)):=by
  rw [List.map_map]
  conv=>lhs;rw [<- List.map_id l]
  apply List.map_congr_left
  intro z b;obtain ⟨x,_,rfl⟩:=List.mem_map.1 ((i z).1 b);simp
 refine ⟨l.map Int.toNat,e,fun x=>?_,?_⟩
 ·constructor
  ·intro d;obtain ⟨z,b,rfl⟩:=List.mem_map.1 d;obtain ⟨y,k,rfl⟩:=List.mem_map.1 ((i z).1 b);simpa using k
  ·intro d;have:=(i (x:Int)).2 (List.mem_map.2 ⟨x,d,rfl⟩);exact List.mem_map.2 ⟨_,this,by simp⟩
 ·rw [e] at j;have:=List.pairwise_map.1 j;exact this.imp fun h=>by omega
theorem G9 {c:List Nat} (b:c.Pairwise (· < ·)) {i j:Nat} (hi:i < c.length) (a:j < c.length) (e:c[j]=c[i] + 1):j=i + 1:=by
 have lt:=List.pairwise_iff_getElem.1 b
 rcases Nat.lt_trichotomy j i with h | h | h
 ·have:=lt j i a hi h;omega
 ·subst h;omega
 ·rcases Nat.lt_or_ge (i + 1) j with g | g
  ·have k:=lt i (i + 1) hi (by omega) (by omega);have d:=lt (i + 1) j (by omega) a g;omega
  ·omega
theorem El {c:List Nat} (o:c.Pairwise (· < ·)):(∃ j,∃ h:j + 1 < c.length,c[j + 1]=op c[j])↔∃ x ∈ c,op x ∈ c:=by
 constructor
 ·rintro ⟨j,h,e⟩;exact ⟨c[j],List.getElem_mem _,e ▸ List.getElem_mem _⟩
 ·rintro ⟨x,q,p⟩;obtain ⟨i,k,b⟩:=List.mem_iff_getElem.1 q;obtain ⟨j,d,a⟩:=List.mem_iff_getElem.1 p;by_cases m:x % 2=0
  ·have l:op x=x + 1:=by unfold op;rw [if_pos m]
   have:j=i + 1:=G9 o k d (by rw [a,l,b]);subst this;exact ⟨i,d,by rw [a,b]⟩
  ·have l:x=op x + 1:=by unfold op;rw [if_neg m];omega
   have:i=j + 1:=G9 o d k (by rw [b,a];exact l);subst this;exact ⟨j,k,by rw [b,a,ko]⟩
theorem Ij {c:List Nat} (h:c.Pairwise (· < ·)) (d:¬ ∃ x ∈ c,op x ∈ c):(c.map (· / 2)).Nodup:=by
 refine List.pairwise_map.2 (h.imp_of_mem fun {a b} ha hb hab e=>?_)
 rcases qH e with g | g
 ·omega
 ·exact d ⟨b,hb,g ▸ ha⟩
theorem Nb {L:List Cl} {a:List Int} (h:jk L a) (c:Cl):jk (L ++ [c]) a:=fun M i e b=>h M i e fun d hd=>b d (List.mem_append_left _ hd)
theorem kz {L:List Cl} (h:D5 L []) (c:Cl):D5 (L ++ [c]) []:=Nb h c
end
end So
end Go.Proofs.YtceahffmenbibaaGreatDoor
namespace Go.Proofs
open Go.Shelf
def Tryz.Fu:Go.Shelf.Ren:=⟨fun | 189=>129 | 125=>120 | 257=>174 | 128=>169 | 129=>170 | 294=>204 | 295=>205 | 296=>206 | 297=>207 | 298=>208 | 299=>209 | 216=>210 | 300=>211 | 301=>212 | 328=>231 | 329=>232 | 330=>233 | 331=>234 | 332=>235 | 215=>236 | 343=>245 | n=>n,fun | 28=>43 | 3=>3 | 46=>187 | 0=>0 | 51=>218 | 53=>82 | 4=>4 | 183=>246 | 182=>245 | 131=>177 | 5=>5 | 9=>9 | 218=>257 | 222=>261 | 228=>269 | 229=>96 | n=>n,fun | n=>n⟩
theorem Tryz.Ue:Go.Proofs.Lays.n189 Tryz.prog Tryz.Fu:={
 mixed:=by kernel_rfl
 f125:=tC func120 (by kernel_rfl)
 f128:=tC func169 (by kernel_rfl)
 f129:=tC func170 (by kernel_rfl)
 f189:=tC func129 (by kernel_rfl)
 f215:=tC func236 (by kernel_rfl)
 f216:=tC func210 (by kernel_rfl)
 f257:=tC func174 (by kernel_rfl)
 f294:=tC func204 (by kernel_rfl)
 f295:=tC func205 (by kernel_rfl)
 f296:=tC func206 (by kernel_rfl)
 f297:=tC func207 (by kernel_rfl)
 f298:=tC func208 (by kernel_rfl)
 f299:=tC func209 (by kernel_rfl)
 f300:=tC func211 (by kernel_rfl)
 f301:=tC func212 (by kernel_rfl)
 f328:=tC func231 (by kernel_rfl)
 f329:=tC func232 (by kernel_rfl)
 f330:=tC func233 (by kernel_rfl)
 f331:=tC func234 (by kernel_rfl)
 f332:=tC func235 (by kernel_rfl)
 f343:=tC func245 (by kernel_rfl)
 t0:=underlying0
 a0:=isAgg0
 z0:=sizeOf0
 v0:=zeroValue0
 t3:=underlying3
 a3:=isAgg3
 z3:=sizeOf3
 v3:=zeroValue3
 t4:=underlying4
 a4:=isAgg4
 z4:=sizeOf4
 v4:=zeroValue4
 t5:=underlying5
 a5:=isAgg5
 z5:=sizeOf5
 v5:=zeroValue5
 t9:=underlying9
 a9:=isAgg9
 z9:=sizeOf9
 v9:=zeroValue9
 t28:=underlying43
 a28:=isAgg43
 z28:=sizeOf43
 v28:=zeroValue43
 t46:=underlying187
 a46:=isAgg187
 z46:=sizeOf187
 v46:=zeroValue187
 t51:=underlying218
 a51:=isAgg218
 z51:=sizeOf218
 v51:=zeroValue218
 t53:=underlying82
 a53:=isAgg82
 z53:=sizeOf82
 v53:=zeroValue82
 t131:=underlying177
 a131:=isAgg177
 z131:=sizeOf177
 v131:=zeroValue177
 t182:=underlying245
 a182:=isAgg245
 z182:=sizeOf245
 v182:=zeroValue245
 t183:=underlying246
 a183:=isAgg246
 z183:=sizeOf246
 v183:=zeroValue246
 t218:=underlying257
 a218:=isAgg257
 z218:=sizeOf257
 v218:=zeroValue257
 t222:=underlying261
 a222:=isAgg261
 z222:=sizeOf261
 v222:=zeroValue261
 t228:=underlying269
 a228:=isAgg269
 z228:=sizeOf269
 v228:=zeroValue269
 t229:=underlying96
 a229:=isAgg96
 z229:=sizeOf96
 v229:=zeroValue96 }
open Go.Sort Go.RowKit in
theorem Tryz.slices_Sort_int (a off cap:Nat) (zs:List Int) (w:World) (i:Holds (Value.int .i64) w a off zs.toArray) (b:a < w.heap.size) (d:zs.length < 4611686018427387904):
  Calls Tryz.prog 129 #[.slice (some ⟨a,off,none⟩) zs.length cap] w fun e w'=>
   e=.returned (.tuple #[])/\∃ n h,w'=grow (putRow (Value.int .i64) (Sort.ahead w n) a off (zs.mergeSort fun x y=>decide (x <= y)).toArray) h:=Any.slices_Sort_int Tryz.Ue a off cap zs w i b d
def Tryz.Ag:Go.Shelf.Ren:=⟨fun | 20=>130 | n=>n,fun | 22=>43 | 3=>3 | 4=>4 | 0=>0 | n=>n,fun | n=>n⟩
theorem Tryz.Mv:Go.Proofs.Lays2.n20 Tryz.prog Tryz.Ag:={
 mixed:=by kernel_rfl
 f20:=tC func130 (by kernel_rfl)
 t0:=underlying0
 a0:=isAgg0
 z0:=sizeOf0
 v0:=zeroValue0
 t3:=underlying3
 a3:=isAgg3
 z3:=sizeOf3
 v3:=zeroValue3
 t4:=underlying4
 a4:=isAgg4
 z4:=sizeOf4
 v4:=zeroValue4
 t22:=underlying43
 a22:=isAgg43
 z22:=sizeOf43
 v22:=zeroValue43
 i3:=by kernel_rfl }
open Go.RowKit Go.Lib Go.Sort in
theorem Tryz.slices_Compact_int (a off cap:Nat) (zs:List Int) (w:World) (h:Holds (Value.int .i64) w a off zs.toArray) (d:zs.length <= 9223372036854775807) (b:zs.length <= cap):
  Calls Tryz.prog 130 #[.slice (some ⟨a,off,none⟩) zs.length cap] w fun e w'=>e=.returned (.slice (some ⟨a,off,none⟩) (Lib.compact zs).length cap)/\∃ q,w'=putRow (Value.int .i64) (Sort.ahead w q) a off (Lib.compact zs ++ List.replicate (zs.length - (Lib.compact zs).length) 0).toArray:=Any.slices_Compact_int Tryz.Mv a off cap zs w h d b
end Go.Proofs
namespace Go.Proofs.YtceahffmenbibaaGreatDoor
namespace So
section
open Go Go.RowKit Go.Deep Rd
section
variable {Z:Nat->Prop} {sb ob hb kb n:Nat} {L0:List Cl} {N0:Nat} {brk:Bool} {w w':World} {s:St}
def Num (w:World) (g:Nat) (zs:List Int):Prop:=∀ j (h:j < zs.length),w.cell? ⟨g,j,none⟩=some (.int .i64 zs[j])/\w.frozen? ⟨g,j,none⟩=false
theorem Num.holds {g:Nat} {zs:List Int} (h:Num w g zs):Sort.Holds (Value.int .i64) w g 0 zs.toArray:=fun j b=>by
 have a:j < zs.length:=by simpa using b
 rw [Nat.zero_add,getElem!_pos zs.toArray j b];simpa using h j a
theorem Oe (g cap:Nat) (zs:List Int) (w:World) (a:g < w.heap.size) (h:Num w g zs) (l:zs.length <= 1000000):
  Calls Tryz.prog 129 #[.slice (some ⟨g,0,none⟩) zs.length cap] w fun e w'=>e=.returned (.tuple #[])/\w.grownBy w' (some g)/\Num w' g (zs.mergeSort fun x y=>decide (x <= y)):=by
 refine (Tryz.slices_Sort_int g 0 cap zs w h.holds a (by omega)).mono ?_;rintro e w' ⟨rfl,q,k,rfl⟩;have i:(zs.mergeSort fun x y=>decide (x <= y)).length=zs.length:=List.length_mergeSort zs;refine ⟨rfl,grownBy_sortedI _,fun j b=>?_⟩;have d:=Sort.holds_putRow (Value.int .i64) (Sort.ahead w q) g 0 zs.toArray (zs.mergeSort fun x y=>decide (x <= y)).toArray h.holds (by simp [i]) j (by simpa using b);rw [Nat.zero_add,getElem!_pos _ j (by simpa using b)] at d;rw [Sort.cell?_grow _ _ _ (by simpa using a),Sort.frozen?_grow _ _ _ (by simpa using a)];simpa using d
theorem GH (g cap:Nat) (zs:List Int) (w:World) (l:g < w.heap.size) (h:Num w g zs) (k:zs.length <= 1000000) (i:zs.length <= cap):
  Calls Tryz.prog 130 #[.slice (some ⟨g,0,none⟩) zs.length cap] w fun e w'=>e=.returned (.slice (some ⟨g,0,none⟩) (Lib.compact zs).length cap)/\w.grownBy w' (some g)/\Num w' g (Lib.compact zs):=by
 refine (Tryz.slices_Compact_int g 0 cap zs w h.holds (by omega) i).mono ?_;rintro e w' ⟨rfl,q,rfl⟩;have b:(Lib.compact zs).length <= zs.length:=Lib.compact_length_le zs;refine ⟨rfl,?_,fun j d=>?_⟩
 ·have:=grownBy_sortedI (w:=w) (g:=g) (n:=q) (os:=#[]) (Lib.compact zs ++ List.replicate (zs.length - (Lib.compact zs).length) 0).toArray
  rwa [Sort.grow_empty] at this
 ·have a:=Sort.holds_putRow (Value.int .i64) (Sort.ahead w q) g 0 zs.toArray (Lib.compact zs ++ List.replicate (zs.length - (Lib.compact zs).length) 0).toArray h.holds (by simp;omega) j (by simp;omega);rw [Nat.zero_add,getElem!_pos _ j (by simp;omega)] at a;simp only [List.getElem_toArray] at a;rw [List.getElem_append_left d] at a;exact a
structure Pre (s:St):Prop where
 P:s.P=0
 sp:s.sp=0
 ch:s.ch=[]
 ls:s.ls=[]
 k:s.k=0
 m:s.m=0
 r:s.r=0
 lc:s.lc=0
 mo:s.mo=100
theorem Main.L (h:Main Z sb ob hb kb n L0 N0 brk w s) (p:Pre s):s.L=L0:=by
 have:=h.lines;rw [p.ls] at this;exact this
theorem Main.Yo (h:Main Z sb ob hb kb n L0 N0 brk w s) (p:Pre s) {zs:Cl} (d:∃ x ∈ zs,-x ∈ zs/\x ≠ 0):∃ b,Main Z sb ob hb kb n (L0 ++ [zs]) (N0 + 3 + zs.length) brk w b/\Pre b:=by
 have hL:=h.L p
 refine ⟨{ s with L:=L0 ++ [zs] },{ h with
  lines:=?_
  bad:=fun e=>kz (hL ▸ h.bad e) zs
  tN:=(hL ▸ h.tN).more zs
  DZ:=fun c a=>?_
  num:=by have:=h.num;show (enc s.cs).length <= _;simp only;omega },⟨p.P,p.sp,p.ch,p.ls,p.k,p.m,p.r,p.lc,p.mo⟩⟩
 ·show jF (L0 ++ [zs]) (s.ls.map _) (L0 ++ [zs])
  rw [p.ls];rfl
 ·rcases List.mem_append.1 a with a | a
  ·exact h.DZ c a
  ·rw [List.mem_singleton.1 a];exact .inl d
theorem Main.give (h:Main Z sb ob hb kb n L0 N0 brk w s) (p:Pre s) {zs:Cl} {c:List Nat} (i:∀ x:Int,x ∈ zs↔∃ y ∈ c,wr y=x) (K:c.length <= zs.length)
  {z D:Nat->Value} {X':Nat->List Value} {t u:Nat->Prop} {AB:List Nat} {vC:Nat->Nat} {uo:Nat->Int} {mr:Nat->List Nat} {a:Bool}
  (dI:rq Z sb ob hb kb n w' (16 + 2 * n) z D X' s.gone (dK s.ls) t s.Ro u s.Rk) (pi:PI n (kC (mapOf s.cs) (enc s.cs).length ⟨0,c⟩) AB [] vC uo mr 0) (x0:X' 0=ints (enc (s.cs ++ [⟨0,0,c⟩])))
  (gB:lU n X' AB [] vC uo) (gP:mH n D X' mr) (M:X' 6=s.X 6) (B:X' 10=s.X 10) (A:X' 11=s.X 11) (l:∀ j,j ≠ 2->j ≠ 6->j ≠ 14->z j=s.f j) (f14:z 14=.bool a) (mono:∀ x ∈ s.tr,x ∈ AB)
  (zU:a=false->vO (kC (mapOf s.cs) (enc s.cs).length ⟨0,c⟩) AB vC) (bad:a=true->D5 (L0 ++ [zs]) []):
  ∃ E,Main Z sb ob hb kb n (L0 ++ [zs]) (N0 + 3 + zs.length) a w' E/\Pre E:=by
 have hL:=h.L p;have b:mapOf (s.cs ++ [⟨0,0,c⟩])=kC (mapOf s.cs) (enc s.cs).length ⟨0,c⟩:=pU _ _;have o:mapOf s.cs (enc s.cs).length=none:=kZ _;refine ⟨{ s with cs:=s.cs ++ [⟨0,0,c⟩],tr:=AB,ch:=[],lev:=vC,rea:=uo,wl:=mr,P:=0,f:=z,V:=D,X:=X',L:=L0 ++ [zs],Rs:=t,Rd:=u },{
  dI:=dI
  pi:=by rw [b];exact pi
  x0:=x0
  gB:=gB
  gP:=gP
  lam:=h.lam.congr M
  n10:=(congrArg List.length B).trans h.n10
  oV:=by
   obtain ⟨C,J⟩:=h.oV;exact ⟨C,J.congr A⟩
  f0:=(l 0 (by decide) (by decide) (by decide)).trans h.f0
  f3:=(l 3 (by decide) (by decide) (by decide)).trans h.f3
  f4:=(l 4 (by decide) (by decide) (by decide)).trans h.f4
  f7:=(l 7 (by decide) (by decide) (by decide)).trans h.f7
  f14:=f14
  f18:=(l 18 (by decide) (by decide) (by decide)).trans h.f18
  f20:=(l 20 (by decide) (by decide) (by decide)).trans h.f20
  f21:=(l 21 (by decide) (by decide) (by decide)).trans h.f21
  AV:=by show s.sp <= _;rw [p.sp];exact zl
  late:=fun q H=>by cases H
  rY:=fun v G I=>by
   obtain ⟨x,F,e⟩:=h.rY v G I;exact ⟨x,mono x F,e⟩
  zU:=fun e=>by rw [b];exact zU e
  bad:=bad
  lines:=by show jF (L0 ++ [zs]) (s.ls.map _) (L0 ++ [zs]);rw [p.ls];rfl
  yJ:=h.yJ
  tN:=by
   rw [pV _ _ (show (0:Nat) ≠ 2 by decide)];exact (hL ▸ h.tN).add c i
  DZ:=by
   rw [b];intro d hd
   rcases List.mem_append.1 hd with hd | hd
   ·exact h.DZ.new o d hd
   ·rw [List.mem_singleton.1 hd];exact .inr ⟨_,_,dU ..,rfl,i⟩
  num:=by
   have:=h.num;show (enc (s.cs ++ [⟨0,0,c⟩])).length <= N0 + 3 + zs.length + 33 * s.m
   rw [gy,List.length_append];simp [enc,fV];omega
  wU:=by show (dK s.ls).length + 125 * iM (s.cs ++ [⟨0,0,c⟩]) <= _;rw [rQ];simpa using h.wU
  cnt:=by show s.lc=iM (s.cs ++ [⟨0,0,c⟩]);rw [rQ];simpa using h.cnt
  wR:=by show s.ws=jc (s.cs ++ [⟨0,0,c⟩]);rw [Ay];simpa using h.wR
  gM:=by show 2 * s.k <= _;rw [p.k];exact zl
  lcm:=h.lcm
  km:=h.km
  n30:=h.n30 },⟨rfl,p.sp,rfl,p.ls,p.k,p.m,p.r,p.lc,p.mo⟩⟩
end
section
variable {Z:Nat->Prop} {sb ob hb kb n:Nat} {L0:List Cl} {N0:Nat} {brk:Bool} {w w' W:World} {s:St} {zs:Cl} {c:List Nat} {g:Nat}
abbrev ci (c:List Nat):List Int:=c.map fun (x:Nat)=>(x:Int)
theorem Num.at {c:List Nat} (h:Num w g (ci c)) {j:Nat} (a:j < c.length):w.cell? ⟨g,j,none⟩=some (.int .i64 ((c[j]:Nat):Int)):=by
 have:=(h j (by simpa using a)).1;simpa using this
structure Vm (n:Nat) (zs:Cl) (c:List Nat):Prop where
 set:∀ x:Int,x ∈ zs↔∃ y ∈ c,wr y=x
 len:c.length <= zs.length
 nd:(c.map (· / 2)).Nodup
 lt:∀ y ∈ c,y < 2 * n
def Nr (Z:Nat->Prop) (sb ob hb kb n:Nat) (L0:List Cl) (N0:Nat) (w:World) (zs:Cl) (w':World):Prop:=dB Z w w'/\∃ brk s,Main Z sb ob hb kb n (L0 ++ [zs]) (N0 + 3 + zs.length) brk w' s/\Pre s
structure Zl (Z:Nat->Prop) (sb ob hb kb n:Nat) (w:World) (s:St) (c:List Nat) (g:Nat) (w':World) (f V:Nat->Value) (X:Nat->List Value) (Rs Rd:Nat->Prop):Prop where
 dI:rq Z sb ob hb kb n w' (16 + 2 * n) f V X s.gone (dK s.ls) Rs s.Ro Rd s.Rk
 x0:X 0=ints (enc (s.cs ++ [⟨0,0,c⟩]))
 only:∀ k,k ≠ 0->X k=s.X k
 vv:∀ k,k ≠ 0->V k=s.V k
 ff:∀ j,j ≠ 2->f j=s.f j
 num:Num w' g (ci c)
 gl:g < w'.heap.size
 eO:dB Z w w'
def Ar (Z:Nat->Prop) (sb ob hb kb n:Nat) (w:World) (s:St) (c:List Nat) (g:Nat) (w':World):Prop:=∃ f V X Rs Rd,Zl Z sb ob hb kb n w s c g w' f V X Rs Rd
theorem Ar.later (M:Ar Z sb ob hb kb n w s c g W) (b:Below W.heap.size W w'):Ar Z sb ob hb kb n w s c g w':=by
 obtain ⟨f,V,X,Rs,Rd,M⟩:=M
 exact ⟨f,V,X,Rs,Rd,{ M with
  dI:=M.dI.later b
  num:=fun j d=>by
   rw [World.cell?_of_block (w:=W) (a:=⟨g,j,none⟩) (b.block g M.gl),World.frozen?_of_block (w:=W) (a:=⟨g,j,none⟩) (b.block g M.gl)];exact M.num j d
  gl:=Nat.lt_of_lt_of_le M.gl b.size
  eO:=M.eO.trans (dB.of_below b) }⟩
theorem MU (cs:List Rec) (c:List Nat):ints (enc cs) ++ dw (c.length :: 0 :: 0 :: c)=ints (enc (cs ++ [⟨0,0,c⟩])):=by
 rw [gy,wI]
 congr 1
 simp [enc,enc1,ints,dw]
theorem Qb (h:Main Z sb ob hb kb n L0 N0 brk w s) (p:Pre s) (G:(enc s.cs).length <= 1000000000000) (B:c.length <= 1000) (o:Below w.heap.size w W) (E:w.heap.size <= g) (i:g < W.heap.size) (b:Num W g (ci c)) (cap:Nat):
  Calls Tryz.prog 132 #[.pointer (some ⟨sb,2,none⟩),.slice (some ⟨g,0,none⟩) c.length cap,.int .i64 0] W fun e w'=>e=.returned (.int .i64 (((enc s.cs).length:Nat):Int))/\Ar Z sb ob hb kb n w s c g w':=by
 have T:=h.dI.later o;have H:=T.duo.dF.hK;have v:=h.dI.duo.dF.row.lt;have z:Nq sb (s.V 0) W (.slice (some ⟨g,0,none⟩) c.length cap) c:=by
  refine ⟨_,cap,g,0,rfl,(fun e=>by cases e),fun D=>⟨rfl,i,by omega,fun e=>?_,fun j m=>?_⟩⟩
  ·have:=((h.dI.duo.dF.eH.own 0 (by omega)).lt g e).2;omega
  ·rw [Nat.zero_add];exact b.at m
 refine (Ha c 0 0 _ T.duo.dF z B (by decide) (by rw [h.x0,fU];omega) (by rw [h.f3,p.lc];rfl) (by decide) (by decide)).mono ?_;rintro e w' ⟨rfl,l,C,y⟩;obtain ⟨t,r⟩:=T.gK y l (by rw [cu _ _ (by decide),cu _ _ (by decide)]);refine ⟨by rw [h.x0,fU],_,_,_,_,_,{
  dI:=t
  x0:=by rw [cz,h.x0];exact MU _ _
  only:=fun k q=>cu _ _ q
  vv:=fun k q=>cu _ _ q
  ff:=fun j m=>by
   by_cases e:j=3
   ·subst e;rw [cz,h.f3,p.lc];rfl
   ·rw [cu _ _ e,cu _ _ m]
  num:=fun j m=>?_
  gl:=Nat.lt_of_lt_of_le i l.size
  eO:=(dB.of_below o).trans r }⟩
 have u:¬ zz s.Rs W g:=fun e=>by
  rcases e with e | e
  ·have:=h.dI.duo.ls g e;omega
  ·omega
 have d:=l.block g i u;rw [World.cell?_of_block (w:=W) (a:=⟨g,j,none⟩) d,World.frozen?_of_block (w:=W) (a:=⟨g,j,none⟩) d];exact b j m
variable {f V:Nat->Value} {X:Nat->List Value} {Rs Rd:Nat->Prop} {x:Nat}
theorem Main.NV (h:Main Z sb ob hb kb n L0 N0 brk w s) (p:Pre s):lU n s.X s.tr [] s.lev s.rea:=by have:=h.gB;rw [p.ch] at this;exact this
theorem Main.VI (h:Main Z sb ob hb kb n L0 N0 brk w s) (p:Pre s):PI n (mapOf s.cs) s.tr [] s.lev s.rea s.wl 0:=by have:=h.pi;rw [p.ch,p.P] at this;exact this
theorem Jb (h:Main Z sb ob hb kb n L0 N0 brk w s) (p:Pre s) (K:n <= 50) (P:(enc s.cs).length <= 1000000000000) {x q:Nat} {r:List Nat} (a:Vm n zs (x :: q :: r)) (M:Ar Z sb ob hb kb n w s (x :: q :: r) g W):
  Calls Tryz.prog 133 #[.pointer (some ⟨sb,0,none⟩),.int .i64 (((enc s.cs).length:Nat):Int)] W fun e w'=>e=.returned (.tuple #[])/\Nr Z sb ob hb kb n L0 N0 w zs w':=by
 obtain ⟨f,V,X,Rs,Rd,M⟩:=M;have Q:=M.dI.duo.dF.hK;have b:mapOf s.cs (enc s.cs).length=none:=kZ _;have l:(x :: q :: r).length <= n:=jN a.nd a.lt;have C:dn (s.cs ++ [⟨0,0,x :: q :: r⟩]) s.cs.length=(enc s.cs).length:=by
  rw [nP _ lr,iD lr]
 have d:x ≠ q:=fun e=>by have I:=a.nd;subst e;simp at I
 have m:(enc (s.cs ++ [⟨0,0,x :: q :: r⟩])).length <= 1099511627776:=by
  rw [gy,List.length_append];simp [enc,fV];simp at l;omega
 have u:∀ y,y < 2 * n->(s.wl y).length <= 1099511627776:=fun y G=>by have:=h.pi.oH.len G;omega
 have O:mH n V X s.wl:=h.gP.congr (M.only 9 (by decide)) (fun x _=>M.vv _ (by omega)) fun x _=>M.only _ (by omega)
 rw [<- C];refine (Aw (k:=s.cs.length) (p:=x) (q:=q) (r:=r) M.dI.duo.dF rfl M.x0 (by simp) (by simp) d (a.lt x (by simp)) (a.lt q (by simp)) K m O u).mono ?_;rintro e w' ⟨rfl,v,T,S,J,B,i⟩;obtain ⟨E,D⟩:=M.dI.gK J v rfl;rw [C] at B;refine ⟨rfl,M.eO.trans D,brk,?_⟩;have o:=h.VI p;refine h.give p a.set a.len E (AB:=s.tr) (vC:=s.lev) (uo:=s.rea) (mr:=wS s.wl (enc s.cs).length x q 2) ⟨o.dI,o.o7.new b,o.lZ.new a.nd a.lt,o.oH.Xv b (show (0:Nat) ≠ 2 by decide) (p:=x) (q:=q) (r:=r) rfl d ?_ ?_ ?_,qA.none _ _ _⟩ ((i 0 (by decide) (by decide)).trans M.x0)
  ((h.NV p).congr fun j t z=>(i j (by omega) (by omega)).trans (M.only j (by omega))) B ((i 6 (by decide) (by decide)).trans (M.only 6 (by decide))) ((i 10 (by decide) (by decide)).trans (M.only 10 (by decide))) ((i 11 (by decide) (by decide)).trans (M.only 11 (by decide)))
  (fun j t z R=>M.ff j t) ((M.ff 14 (by decide)).trans h.f14) (fun _ H=>H) (fun e=>(h.zU e).new fun _ N=>by simp at N;omega) (fun e=>kz (h.L p ▸ h.bad e) zs)
 ·unfold wS;simp
 ·unfold wS;simp
 ·intro y t z;unfold wS;simp [t,z]
theorem P9 (h:Main Z sb ob hb kb n L0 N0 brk w s) (p:Pre s) (j:Vm n zs c) (i:∀ y ∈ c,op y ∈ s.tr):D5 (L0 ++ [zs]) []:=by
 have a:mapOf s.cs (enc s.cs).length=none:=kZ _;have b:=h.VI p;have d:vP (L0 ++ [zs]) (nS (s.cs ++ [⟨0,0,c⟩])):=by
  rw [pV _ _ (show (0:Nat) ≠ 2 by decide)];exact (h.L p ▸ h.tN).add c j.set
 have e:oP (mapOf (s.cs ++ [⟨0,0,c⟩])) s.tr [] s.rea:=by rw [pU];exact b.o7.new a
 exact Bb (yA b.dI e d.hL (d.there (by rw [pV _ _ (show (0:Nat) ≠ 2 by decide)];simp)) i)
theorem wK (h:Main Z sb ob hb kb n L0 N0 brk w s) (p:Pre s) (b:Vm n zs c) (i:c.length < 2) (q:∀ y ∈ c,op y ∈ s.tr) (M:Ar Z sb ob hb kb n w s c g W):
  W.frozen? ⟨sb,14,none⟩=false/\(∃ u,W.cell? ⟨sb,14,none⟩=some u)/\Nr Z sb ob hb kb n L0 N0 w zs (W.setCell ⟨sb,14,none⟩ (.bool true)):=by
 obtain ⟨f,V,X,Rs,Rd,M⟩:=M;have a:mapOf s.cs (enc s.cs).length=none:=kZ _;have d:=h.VI p;have hd:=M.dI.duo.dF.head 14 (by omega);obtain ⟨m,l⟩:=M.dI.gK (M.dI.duo.dF.scalar 14 (.bool true) (by decide +kernel)) ((dB.refl _).setCell M.dI.duo.dF.jf _) (cu _ _ (by decide));refine ⟨hd.2,⟨_,hd.1⟩,M.eO.trans l,true,?_⟩;exact h.give p b.set b.len m (AB:=s.tr) (vC:=s.lev) (uo:=s.rea) (mr:=s.wl) ⟨d.dI,d.o7.new a,d.lZ.new b.nd b.lt,d.oH.TI a i,qA.none _ _ _⟩ M.x0
  ((h.NV p).congr fun j k t=>M.only j (by omega)) (h.gP.congr (M.only 9 (by decide)) (fun x _=>M.vv _ (by omega)) fun x _=>M.only _ (by omega)) (M.only 6 (by decide)) (M.only 10 (by decide)) (M.only 11 (by decide))
  (fun j k t r=>(cu _ _ r).trans (M.ff j k)) (cz ..) (fun _ o=>o) (fun e=>by cases e) (fun _=>P9 h p b q)
theorem vI (h:Main Z sb ob hb kb n L0 N0 brk w s) (p:Pre s) (q:Vm n zs [x]) (M:Ar Z sb ob hb kb n w s [x] g W):(∀ j,Calls Tryz.prog 134 #[.pointer (some ⟨sb,6,none⟩),.int .i64 ((x:Nat):Int)] (W.drewN j) fun e w'=>e=.returned (.bool (decide (tv s.tr x < 0)))/\w'=W.drewN j)/\(∀ j,Calls Tryz.prog 135 #[.pointer (some ⟨sb,6,none⟩),.int .i64 ((x:Nat):Int)] (W.drewN j) fun e w'=>e=.returned (.bool (tv s.tr x == 0))/\w'=W.drewN j)/\W.cell? ⟨g,0,none⟩=some (.int .i64 ((x:Nat):Int)):=by
 obtain ⟨f,V,X,Rs,Rd,M⟩:=M;have a:x < 2 * n:=q.lt x (by simp);have l:lU n X s.tr [] s.lev s.rea:=(h.NV p).congr fun j u t=>M.only j (by omega)
 obtain ⟨m,o,r,v,b,i,d,-⟩:=M.dI.duo.dF.elem (k:=3) (j:=x) (by omega) l.n3 a;rw [show cellOf 3=9 from rfl] at b;rw [l.t3 x a] at d;obtain rfl:=Option.some.inj d;exact ⟨fun j=>qP sb 6 m (2 * n) o x (tv s.tr x) (W.drewN j) b a i,fun j=>tF sb 6 m (2 * n) o x (tv s.tr x) (W.drewN j) b a i,M.num.at (j:=0) (by simp)⟩
theorem MM (h:Main Z sb ob hb kb n L0 N0 brk w s) (p:Pre s) (l:Vm n zs [x]) (k:x ∈ s.tr) (M:Ar Z sb ob hb kb n w s [x] g W) (d:Below W.heap.size W w'):Nr Z sb ob hb kb n L0 N0 w zs w':=by
 obtain ⟨f,V,X,Rs,Rd,M⟩:=M;have a:mapOf s.cs (enc s.cs).length=none:=kZ _;have b:=h.VI p;refine ⟨M.eO.trans (dB.of_below d),brk,?_⟩;refine h.give p l.set l.len (M.dI.later d) (AB:=s.tr) (vC:=s.lev) (uo:=s.rea) (mr:=s.wl) ⟨b.dI,b.o7.new a,b.lZ.new l.nd l.lt,b.oH.TI a (by simp),qA.none _ _ _⟩ M.x0
  ((h.NV p).congr fun j m q=>M.only j (by omega)) (h.gP.congr (M.only 9 (by decide)) (fun x _=>M.vv _ (by omega)) fun x _=>M.only _ (by omega)) (M.only 6 (by decide)) (M.only 10 (by decide)) (M.only 11 (by decide))
  (fun j m q t=>M.ff j m) ((M.ff 14 (by decide)).trans h.f14) (fun _ k=>k) (fun e=>(h.zU e).new fun _ _=>⟨x,rfl,k,?_⟩) (fun e=>kz (h.L p ▸ h.bad e) zs)
 obtain ⟨i,o,r⟩:=List.mem_iff_getElem.1 k;have:=b.dI.lev i o;rw [r] at this;rw [this];rfl
theorem F9 (h:Main Z sb ob hb kb n L0 N0 brk w s) (p:Pre s) (J:n <= 50) (o:Vm n zs [x]) (u:tv s.tr x=0) (M:Ar Z sb ob hb kb n w s [x] g W) (q:Below W.heap.size W w'):
  Calls Tryz.prog 136 #[.pointer (some ⟨sb,6,none⟩),.int .i64 ((x:Nat):Int),.int .i64 (((enc s.cs).length:Nat):Int)] w' fun e l=>e=.returned (.tuple #[])/\Nr Z sb ob hb kb n L0 N0 w zs l:=by
 obtain ⟨f,V,X,Rs,Rd,M⟩:=M;have d:mapOf s.cs (enc s.cs).length=none:=kZ _;have k:=h.VI p;have m:x < 2 * n:=o.lt x (by simp);have T:=M.dI.later q;have i:lU n X s.tr [] s.lev s.rea:=(h.NV p).congr fun j B z=>M.only j (by omega)
 have O:=k.dI.len;refine (qg x n 0 (((enc s.cs).length:Nat):Int) m J T.duo.dF (by rw [i.l1,cZ];omega) (by rw [i.l2,cZ];rfl) i.n3 i.n4 i.n5).mono ?_;rintro e l ⟨rfl,v,N,I⟩;obtain ⟨E,D⟩:=T.gK I v (cu _ _ (by decide));refine ⟨rfl,(M.eO.trans (dB.of_below q)).trans D,brk,?_⟩;have t:∀ j,j ≠ 0->j ≠ 1->j ≠ 3->j ≠ 4->j ≠ 5->fq X x (((enc s.cs).length:Nat):Int) 0 j=s.X j:=fun j K a b c e=>(iG _ _ _ _ a b c e).trans (M.only j K)
 have C:=k.dI.assign m u;have G:=(k.o7.new (c:=⟨0,[x]⟩) d).assign k.dI u (dU ..) (show (0:Nat) ≠ 2 by decide) rfl (r:=[]) (fun y H=>by cases H);refine h.give p o.set o.len E (AB:=s.tr ++ [x]) (vC:=eF s.lev (x / 2) 0) (uo:=eF s.rea (x / 2) (((enc s.cs).length:Nat):Int)) (mr:=s.wl) ⟨C,G,k.lZ.new o.nd o.lt,k.oH.TI d (by simp),qA.none _ _ _⟩ ((iG _ _ _ _ (by decide) (by decide) (by decide) (by decide)).trans M.x0)
  (i.assign m u (((enc s.cs).length:Nat):Int) (X':=X) (ch':=[]) i.l2 (fun _ _=>rfl)) (h.gP.congr (t 9 (by decide) (by decide) (by decide) (by decide) (by decide)) (fun x _=>(cu _ _ (by omega)).trans (M.vv _ (by omega))) fun x _=>t _ (by omega) (by omega) (by omega) (by omega) (by omega)) (t 6 (by decide) (by decide) (by decide) (by decide) (by decide)) (t 10 (by decide) (by decide) (by decide) (by decide) (by decide)) (t 11 (by decide) (by decide) (by decide) (by decide) (by decide))
  (fun j B z P=>(cu _ _ z).trans (M.ff j B)) ((cu _ _ (by decide)).trans ((M.ff 14 (by decide)).trans h.f14)) (fun _ m=>List.mem_append_left _ m) (fun e=>((h.zU e).assign u).new fun _ _=>⟨x,rfl,by simp,dE ..⟩) (fun e=>kz (h.L p ▸ h.bad e) zs)
end
section
variable {Z:Nat->Prop} {sb ob hb kb n:Nat} {L0:List Cl} {N0:Nat} {brk:Bool} {w w' W:World} {s:St} {zs:Cl}
def Hy (w:World) (zs:Cl) (i:Nat) (wr:World):Prop:=Below w.heap.size w wr/\wr.rowIs w.heap.size 3 zs.length (fun j=>.int .i64 (if j < i then ((lit (zs.getD j 0):Nat):Int) else 0))
def XV (w:World) (zs:Cl) (sv:Value) (wr:World):Prop:=∃ i:Nat,sv=.int .i64 ((i:Nat):Int)/\i <= zs.length/\Hid (Hy w zs i wr)
theorem Hy.step {i:Nat} {wr:World} (h:Hy w zs i wr) (hi:i < zs.length):Hy w zs (i + 1) (wr.setCell ⟨w.heap.size,i,none⟩ (.int .i64 ((lit zs[i]:Nat):Int))):=by
 refine ⟨h.1.setCell lr _,(h.2.set i _).congr fun j b=>?_⟩;by_cases e:j=i
 ·subst e;rw [if_pos rfl,if_pos (by omega),List.getD_eq_getElem?_getD,List.getElem?_eq_getElem hi];rfl
 ·rw [if_neg e];by_cases a:j < i
  ·rw [if_pos a,if_pos (by omega)]
  ·rw [if_neg a,if_neg (by omega)]
theorem Hy.num {wr:World} (h:Hy w zs zs.length wr):Num wr w.heap.size (ci (zs.map lit)):=fun j b=>by
 have a:j < zs.length:=by simpa using b
 refine ⟨?_,h.2.frozen j⟩;rw [h.2.cell a,if_pos a,List.getD_eq_getElem?_getD,List.getElem?_eq_getElem a];simp [ci]
theorem below_grown {g:Nat} {a b:World} (h:Below w.heap.size w a) (i:a.grownBy b (some g)) (d:w.heap.size <= g):Below w.heap.size w b:=h.grown i h.size (fun k e=>by cases e;exact d)
theorem pW {z:Int} (h:lW n z):lit z < 2 * n:=by
 obtain ⟨b,a⟩:=h;unfold lit;split <;> omega
theorem Wo (k:∀ z ∈ zs,lW n z):∃ c:List Nat,Lib.compact ((ci (zs.map lit)).mergeSort fun x y=>decide (x <= y))=ci c/\c.length <= zs.length/\(∀ y ∈ c,y < 2 * n)/\((∃ j,∃ h:j + 1 < c.length,c[j + 1]=op c[j])->∃ x ∈ zs,-x ∈ zs/\x ≠ 0)/\((¬ ∃ j,∃ h:j + 1 < c.length,c[j + 1]=op c[j])->Vm n zs c):=by
 obtain ⟨c,t,v,q⟩:=KZ (zs.map lit);have m:∀ y,y ∈ c↔∃ z ∈ zs,lit z=y:=fun y=>by rw [v,List.mem_map]
 have o:∀ y ∈ c,y < 2 * n:=fun y l=>by
  obtain ⟨z,d,rfl⟩:=(m y).1 l;exact pW (k z d)
 have i:c.length <= zs.length:=by
  have a:=Lib.compact_length_le ((ci (zs.map lit)).mergeSort fun x y=>decide (x <= y));rw [t,List.length_mergeSort] at a;simpa using a
 refine ⟨c,t,i,o,fun p=>?_,fun p=>?_⟩
 ·obtain ⟨x,a,b⟩:=(El q).1 p;obtain ⟨z,d,rfl⟩:=(m x).1 a;obtain ⟨y,l,e⟩:=(m _).1 b;refine ⟨z,d,?_,(k z d).1⟩;have:y=-z:=by
   have u:=congrArg wr e;rw [D6,Cf (k y l).1,Cf (k z d).1] at u;exact u
  rw [<- this];exact l
 ·refine ⟨fun x=>⟨fun r=>⟨lit x,(m _).2 ⟨x,r,rfl⟩,Cf (k x r).1⟩,?_⟩,i,Ij q (fun h=>p ((El q).2 h)),o⟩;rintro ⟨y,l,rfl⟩;obtain ⟨z,d,rfl⟩:=(m y).1 l;rw [Cf (k z d).1];exact d
theorem Qa (h:Main Z sb ob hb kb n L0 N0 brk w s) (p:Pre s) (hn:n <= 50) (hN:(enc s.cs).length <= 1000000000000) (al:Option Addr) (Q lo cp:Nat) (an:0 < zs.length->al=some ⟨Q,lo,none⟩) (aC:Q < w.heap.size) (D:∀ j (hj:j < zs.length),w.cell? ⟨Q,lo + j,none⟩=some (.int .i64 zs[j])) (hz:∀ z ∈ zs,lW n z) (aH:zs.length <= 20001):
  Calls Tryz.prog 96 #[.pointer (some ⟨sb,0,none⟩),.slice al zs.length cp] w fun e w'=>e=.returned (.tuple #[])/\Nr Z sb ob hb kb n L0 N0 w zs w':=by
 have aA:=run_make_row' (P:=Tryz.prog) 43 3 (.int .i64 0) 8 Tryz.underlying43 Tryz.fO rfl .i64 .i64 zs.length (by omega) (by omega);obtain ⟨c,ah,aM,aE,ag,af⟩:=Wo hz;have M0:Hid (Hy w zs 0 (w.alloc (.cells (madeCells #[.int .i64 0] zs.length) 3))):=
  ⟨bR.alloc lr _,(World.rowIs_made w (.int .i64 0) zs.length 3).congr fun i hi=>by simp⟩
 have QS:Hid (∀ wr,Hy w zs zs.length wr->Calls Tryz.prog 129 #[.slice (some ⟨w.heap.size,0,none⟩) zs.length zs.length] wr fun e w'=>e=.returned (.tuple #[])/\Below w.heap.size w w'/\w.heap.size < w'.heap.size/\Num w' w.heap.size ((ci (zs.map lit)).mergeSort fun x y=>decide (x <= y))):=fun wr I=>by
  have R:(ci (zs.map lit)).length=zs.length:=by simp
  have:=Oe w.heap.size zs.length (ci (zs.map lit)) wr I.2.lt I.num (by rw [R];omega);rw [R] at this;refine this.mono ?_;rintro e w' ⟨rfl,B,o⟩;exact ⟨rfl,below_grown I.1 B lr,Nat.lt_of_lt_of_le I.2.lt B.size,o⟩
 have QC:Hid (∀ wr,Below w.heap.size w wr->w.heap.size < wr.heap.size->Num wr w.heap.size ((ci (zs.map lit)).mergeSort fun x y=>decide (x <= y))->Calls Tryz.prog 130 #[.slice (some ⟨w.heap.size,0,none⟩) zs.length zs.length] wr fun e w'=>e=.returned (.slice (some ⟨w.heap.size,0,none⟩) c.length zs.length)/\Below w.heap.size w w'/\w.heap.size < w'.heap.size/\Num w' w.heap.size (ci c)):=fun wr E I o=>by
  have R:((ci (zs.map lit)).mergeSort fun x y=>decide (x <= y)).length=zs.length:=by rw [List.length_mergeSort];simp
  have:=GH w.heap.size zs.length _ wr I o (by rw [R];omega) (by rw [R];omega);rw [R,ah] at this;refine this.mono ?_;rintro e w' ⟨rfl,B,S⟩;exact ⟨by simp,below_grown E B lr,Nat.lt_of_lt_of_le I B.size,S⟩
 have QM:Hid (∀ wr,Num wr w.heap.size (ci c)->Calls Tryz.prog 131 #[.slice (some ⟨w.heap.size,0,none⟩) c.length zs.length] wr fun e w'=>KI wr c e w'):=fun wr o=>wX c _ w.heap.size 0 zs.length wr (fun _=>rfl) (fun j hj=>by rw [Nat.zero_add];exact o.at hj) (fun x hx=>by have:=aE x hx;omega) (by omega)
 have L:Hid (∀ wr j,Below w.heap.size w wr->(∃ j,∃ h:j + 1 < c.length,c[j + 1]=op c[j])->Nr Z sb ob hb kb n L0 N0 w zs (wr.drewN j)):=fun wr j E ht=>by
  have am:Below w.heap.size w (wr.drewN j):=E.trans ⟨rfl,rfl,rfl,lr,fun _ _=>rfl⟩;obtain ⟨s',m',p'⟩:=(h.later am).Yo p (ag ht);exact ⟨dB.of_below am,brk,s',m',p'⟩
 have QA:Hid (∀ wr j,Below w.heap.size w wr->w.heap.size < wr.heap.size->Num wr w.heap.size (ci c)->Vm n zs c->Calls Tryz.prog 132 #[.pointer (some ⟨sb,2,none⟩),.slice (some ⟨w.heap.size,0,none⟩) c.length zs.length,.int .i64 0] (wr.drewN j) fun e w'=>e=.returned (.int .i64 (((enc s.cs).length:Nat):Int))/\Ar Z sb ob hb kb n w s c w.heap.size w'):=fun wr j E I o ae=>Qb (W:=wr.drewN j) h p hN (by have:=jN ae.nd ae.lt;omega) (E.trans ⟨rfl,rfl,rfl,lr,fun _ _=>rfl⟩) lr I o _
 have H:=hide h;have HZ:=hide hz;have au:=hide D;have aG:=hide an;have av:=hide af;clear h hz D an ah ag af;go_enter Tryz.func96,Tryz.ntmps96
 go_wp2_with fail
 go_loopw [5,6,13] (fun _ _ M wr=>XV w zs M wr) (fun _ _ M _=>zs.length - (intOf M).toNat)
 case atStart=>exact ⟨0,rfl,zl,M0⟩
 case round=>
  clear M0;obtain ⟨i,rfl,aK,l⟩:=hrel;by_cases G:i < zs.length
  ·obtain rfl:=aG.out (by omega);have aL:wr.cell? ⟨Q,lo + i,none⟩=some (.int .i64 zs[i]):=by
    rw [World.cell?_of_block (w:=w) (a:=⟨Q,lo + i,none⟩) (l.out.1.block Q aC)];exact au.out i G
   have r0:=l.out.2.cell G;have z0:=l.out.2.frozen i;have J:=HZ.out zs[i] (List.getElem_mem _);have NX:=hide (l.out.step G);generalize zs[i]=z at *
   have aB:z ≠ 0:=J.1;have ax:-64 <= z:=by have:=J.2;omega
   have aw:z <= 64:=by have:=J.2;omega
   have QL:=hide (fun Y=>oL z Y aB ax aw);have i0:(0:Int) <= (i:Int):=by omega
   have i1:(i:Int) < (zs.length:Int):=by omega
   have i2:(i:Int) <= 20001:=by omega
   have aI:w.heap.size < wr.heap.size:=l.out.2.lt;clear l J;generalize w.heap.size=hs at *
   go_wp2_with (go_at_call 95;refine (QL.out _).mono ?_;rintro e7 w7 ⟨rfl,rfl⟩;simp only [])
   go_roundw
   case rel=>exact ⟨i + 1,by go_num,G,NX⟩
   case measure=>simp [intOf];omega
  ·have ei:i=zs.length:=by omega
   subst ei;have ao:=hide (QS.out wr l.out);clear l QS
   go_upto_region 8 with (first | (go_at_call 129;refine ao.out.mono ?_;rintro e7 w7 ⟨rfl,ak,ad,aa⟩;have aq:=hide (QC.out _ ak ad aa);clear ak ad aa;simp only []) | (go_at_call 130;refine aq.out.mono ?_;rintro e8 w8 ⟨rfl,aj,ac,U⟩;have B8:=hide aj;have G8:=hide ac;have N8:=hide U;clear aj ac U;simp only []))
   have ap:=hide (QM.out _ N8.out);clear ao aq QC QM;go_upto_region 9 with (go_at_call 131;refine ap.out.mono ?_;rintro e9 w9 ⟨⟨j9,rfl⟩,b,rfl,ai⟩;have N:=hide ai;clear ai;cases b <;> simp only [])
   ·have k:=av.out (fun hh=>by have:=N.out.2 hh;cases this);have ar:=hide (QA.out _ j9 B8.out G8.out N8.out k);clear ap QA L B8 G8 N8 N av au HZ;go_upto_region 10 with (go_at_call 132;refine ar.out.mono ?_;rintro eA O ⟨rfl,ab⟩;have u:=hide ab;clear ab;simp only [])
    clear ar aA;have aJ:n <= 50:=hn
    match c,k,u with
    | x :: q :: r,k,u=>
     have QW:=hide (Jb H.out p hn hN k u.out);have rl:(2:Int) <= ((r.length + 1 + 1:Nat):Int):=by omega
     clear u k H;go_wp2_with (go_at_call 133;refine QW.out.mono ?_;rintro eB wB ⟨rfl,C⟩;have GB:=hide C;clear C;simp only [])
     go_end0
     exact ⟨rfl,GB.out⟩
    | [],k,u=>
     have BR:=hide (fun j=>wK (W:=O.drewN j) H.out p k (by simp) (by simp) (u.out.later (qc O j)));clear u k H;have aO:((0:Int) == 0)=true:=rfl;go_upto_region 12 with fail
     go_quiet (fail)
     obtain ⟨ay,⟨Zc,az⟩,ge⟩:=BR.out nq;have GE:=hide ge;clear BR ge;go_wp2;go_end0;exact ⟨rfl,GE.out⟩
    | [x],k,u=>
     obtain ⟨qf,qo,q0⟩:=vI H.out p k u.out;have QF:=hide qf;clear qf qo;have aN:((1:Int) == 0)=false:=rfl;by_cases d:tv s.tr x < 0
     ·have BR:=hide (fun j=>wK (W:=O.drewN j) H.out p k (by simp) (fun y hy=>by
       simp at hy;subst hy;refine H.out.pi.dI.oZ.1 ?_;unfold tv at d ⊢;split at d
       ·omega
       ·split at d
        ·rename_i h1 h2;rw [if_neg h1,if_pos h2]
        ·omega) (u.out.later (qc O j)))
      rw [show decide (tv s.tr x < 0)=true by simpa using d] at QF;clear u k H;go_upto_region 12 with fail
      go_quiet ((go_at_call 134;exact Calls.quiet_of_same (QF.out _)))
      obtain ⟨ay,⟨Zc,az⟩,ge⟩:=BR.out nq;have GE:=hide ge;clear BR ge;go_wp2;go_end0;exact ⟨rfl,GE.out⟩
     ·rw [show decide (tv s.tr x < 0)=false by simpa using d] at QF;go_upto_region 12 with fail
      go_quiet ((go_at_call 134;exact Calls.quiet_of_same (QF.out _)))
      have t:=hide (u.out.later (qc O nq));generalize O.drewN nq=W1 at t ⊢;obtain ⟨-,qo,q1⟩:=vI H.out p k t.out;have QO:=hide qo;clear qo QF u q0;by_cases m:tv s.tr x=0
      ·rw [show (tv s.tr x == 0)=true by simpa using m] at QO;go_upto_region 14 with fail
       go_quiet ((go_at_call 135;exact Calls.quiet_of_same (QO.out _)))
       have K:=hide (t.out.later (qc W1 nq));generalize W1.drewN nq=W2 at K ⊢;have q2:=(vI H.out p k K.out).2.2;have aF:=hide (fun wx (hb:Below W2.heap.size W2 wx)=>F9 H.out p hn k m K.out hb);clear t K QO q1 H k;go_upto_region 15 with fail
       go_region_with (go_at_call 136;refine (aF.out _ (by first | exact bR | exact bR.drew)).mono ?_;rintro eB wB ⟨rfl,C⟩;have GB:=hide C;clear C;simp only [])
       all_goals
        go_wp2;go_end0
        exact ⟨rfl,GB.out⟩
      ·rw [show (tv s.tr x == 0)=false by simpa using m] at QO;have aD:x ∈ s.tr:=by
        unfold tv at m d;split at m
        ·assumption
        ·split at m
         ·rename_i h1 h2;rw [if_neg h1,if_pos h2] at d;omega
         ·exact absurd rfl m
       have FT:=hide (fun j=>MM H.out p k aD t.out (qc W1 j));clear t H k;go_upto_region 14 with fail
       go_quiet ((go_at_call 135;exact Calls.quiet_of_same (QO.out _)))
       have F:=hide (FT.out nq);go_wp2;go_end0;exact ⟨rfl,F.out⟩
   ·have F:=hide (L.out w8 j9 B8.out (N.out.1 (by first | trivial | rfl)));go_wp2
    first | go_end0 | refine bodyPost_ret (v:=.tuple #[]) (by simp [results,Tryz.results96,go_sem]) rfl ?_
    exact ⟨rfl,F.out⟩
end
end
end So
end Go.Proofs.YtceahffmenbibaaGreatDoor
