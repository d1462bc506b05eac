/- Kdig Ktxt Ktri Ktrl Laid. -/
import Derived.Test.YtceahffmenbibaaGreatDoorG40
import Derived.Laws.IdiomStrings
import Derived.Test.YtceahffmenbibaaGreatDoorG41
import Derived.Test.YtceahffmenbibaaGreatDoorRows
import Derived.Test.YtceahffmenbibaaGreatDoorChecked
import Derived.WalkKit
import Derived.ProofKit
import Derived.OpenShut
import Derived.Deep.Slices
import Derived.Deep.DeepHandedRow
import Derived.Deep.DeepWitnessRowRef
import Derived.LaidLaws
import Derived.ChangeOld
import Derived.Below
set_option linter.unusedVariables false
set_option linter.unusedSimpArgs false
namespace Go.Proofs.YtceahffmenbibaaGreatDoor
namespace Kp
open Go Go.RowKit Go.Deep Rd
theorem decDigits_more {i:Nat} (h:10 ≤ i):Lib.decDigits i=Lib.decDigits (i / 10) ++ [UInt8.ofNat (48 + i % 10)]:=by rw [Lib.decDigits,dif_neg (by omega)]
theorem nDig_le {u:Nat} (h:u < 1000):Lib.nDigits u ≤ 3:=by
 rw [← Lib.decDigits_length,Lib.decDigits]
 split
 ·simp
 ·rw [Lib.decDigits]
  split
  ·simp
  ·rw [Lib.decDigits,dif_pos (by omega)];simp
def dig1 (d:Nat):ByteArray:=⟨#[UInt8.ofNat (48 + d % 10)]⟩
theorem dig1_size (d:Nat):(dig1 d).size=1:=rfl
def DigAt (u m:Nat) (s:ByteArray):Prop:=if m < 10 then s.data.toList=Lib.decDigits u else Lib.decDigits (m / 10) ++ s.data.toList=Lib.decDigits u
theorem digAt_start (u:Nat):DigAt u u (dig1 u):=by
 unfold DigAt
 split
 ·rw [Lib.decDigits_one (by omega)];unfold dig1;rw [Nat.mod_eq_of_lt (by omega)]
 ·rw [decDigits_more (i:=u) (by omega)];rfl
theorem digAt_step {u m:Nat} {s:ByteArray} (h:DigAt u m s) (hm:10 ≤ m):DigAt u (m / 10) (dig1 (m / 10) ++ s):=by
 unfold DigAt at h ⊢
 rw [if_neg (by omega)] at h
 have e:(dig1 (m / 10) ++ s).data.toList=UInt8.ofNat (48 + m / 10 % 10) :: s.data.toList:=by unfold dig1;simp [ByteArray.data_append]
 split
 ·rw [e,← h,Lib.decDigits_one (by omega),Nat.mod_eq_of_lt (by omega)];rfl
 ·rw [e,← h,decDigits_more (i:=m / 10) (by omega)];simp
theorem one_str (w:World) (z:Int) (u:Nat) (hz:z=((48 + u % 10:Nat):Int)):(convert 107 9 (.slice (some ⟨w.heap.size,0,none⟩) 1 1)).run Tryz.prog (w.alloc (.cells #[.int .u8 z] 5))=.ok (.string (dig1 u)) (w.alloc (.cells #[.int .u8 z] 5)):=by
 refine run_convert_bytes_back _ 107 9 5 ⟨w.heap.size,0,none⟩ 1 [UInt8.ofNat (48 + u % 10)] Tryz.underlying107 Tryz.underlying5 Tryz.underlying9 ?_
 intro j hj
 have e0:j=0:=by simpa using hj
 subst e0
 have r:(w.alloc (.cells #[.int .u8 z] 5)).rowIs w.heap.size 5 1 (fun _=>.int .u8 z):=World.rowIs_alloc w _ _ _ fun i hi=>match i,hi with
  | 0,_=>rfl
 have:=r.cell (i:=0) (by omega)
 show (w.alloc (.cells #[.int .u8 z] 5)).cell? ⟨w.heap.size,0,none⟩=_
 rw [this,hz]
 have:(UInt8.ofNat (48 + u % 10)).toNat=48 + u % 10:=by
  rw [UInt8.toNat_ofNat'];omega
 rw [List.getElem_cons_zero,this]
set_option maxHeartbeats 2000000 in
set_option maxRecDepth 100000 in
theorem digits_nat (u:Nat) (w:World) (hu:u < 1000):
  Calls Tryz.prog 44 #[.int .i64 (u:Nat)] w fun e w'=>e=.returned (.string ⟨(Lib.decDigits u).toArray⟩)∧Below w.heap.size w w':=by
 have h0:¬ ((u:Nat):Int) < 0:=by omega
 have h1:=one_str w (48 + (u:Int) % 10) u (by omega)
 go_enter Tryz.func44,Tryz.ntmps44
 go_wp2
 have HB0:Hid (Below w.heap.size w (w.alloc (.cells #[.int .u8 (48 + (u:Int) % 10)] 5))):=(Below.refl _ _).alloc (Nat.le_refl _) _
 clear h1
 generalize w.alloc (.cells #[.int .u8 (48 + (u:Int) % 10)] 5)=w1 at *
 go_loopw [0,3] (fun i s wr=>∃ (m:Nat) (b:ByteArray),m < 1000∧b.size + m ≤ 1001∧i=.int .i64 m∧s=.string b∧Hid (DigAt u m b)∧Hid (Below w.heap.size w wr)) (fun i _ _=>(intOf i).toNat)
 case atStart=>exact ⟨u,_,hu,by rw [dig1_size];omega,rfl,rfl,digAt_start u,HB0⟩
 case round=>
  obtain ⟨m,b,hm,hbs,rfl,rfl,hd,hb⟩:=hrel
  by_cases h10:m < 10
  ·have E:Hid (b=⟨(Lib.decDigits u).toArray⟩):=by
    have:=unhide hd
    unfold DigAt at this
    rw [if_pos h10] at this
    have e2:b.data=(Lib.decDigits u).toArray:=by rw [← this]
    cases b;exact congrArg _ e2
   have h10i:¬ (10:Int) ≤ (m:Int):=by omega
   go_wp2
   go_ret
   exact ⟨by rw [← unhide E];rfl,unhide hb⟩
  ·have h10i:(10:Int) ≤ (m:Int):=by omega
   have hd1:(dig1 (m / 10)).size=1:=dig1_size _
   have h1:=one_str wr (48 + (m:Int) / 10 % 10) (m / 10) (by omega)
   have q1:((m:Nat):Int).tdiv 10=((m / 10:Nat):Int):=by rw [Int.tdiv_eq_ediv_of_nonneg (by omega)];rfl
   have HB1:Hid (Below w.heap.size w (wr.alloc (.cells #[.int .u8 (48 + (m:Int) / 10 % 10)] 5))):=(unhide hb).alloc (unhide hb).size _
   go_wp2
   go_roundw
   case rel=>exact ⟨m / 10,_,by omega,by rw [ByteArray.size_append];omega,by go_num,rfl,digAt_step (unhide hd) (by omega),HB1⟩
   case measure=>simp [intOf];omega
set_option maxHeartbeats 2000000 in
set_option maxRecDepth 100000 in
theorem digits_any (x:Int) (w:World) (hx:x.natAbs < 1000):
  Calls Tryz.prog 44 #[.int .i64 x] w fun e w'=>e=.returned (.string ⟨(Lib.itoa x).toArray⟩)∧Below w.heap.size w w':=by
 by_cases h0:x < 0
 ·have hl:(Lib.decDigits x.natAbs).length ≤ 1000:=by
   rw [Lib.decDigits_length]
   exact Nat.le_trans (nDig_le hx) (by omega)
  have QD:Hid (Calls Tryz.prog 44 #[.int .i64 (-x)] w fun e w'=>∃ t:ByteArray,e=.returned (.string t)∧t.size ≤ 1000∧Hid (t.data.toList=Lib.decDigits x.natAbs)∧Below w.heap.size w w'):=by
   have:(-x:Int)=((x.natAbs:Nat):Int):=by omega
   rw [this]
   refine (digits_nat _ _ hx).mono ?_
   rintro e w' ⟨rfl,hb⟩
   exact ⟨_,rfl,hl,rfl,hb⟩
  have w1:IntKind.i64.wrap (-x)=-x:=by rw [IntKind.wrap_i64];omega
  have hne:(x == -x)=false:=by simp;omega
  have E:Hid (Lib.itoa x=45 :: Lib.decDigits x.natAbs):=by
   have:=Lib.itoa_neg x.natAbs (by omega)
   have e:-((x.natAbs:Nat):Int)=x:=by omega
   rw [e] at this;exact this
  go_enter Tryz.func44,Tryz.ntmps44
  go_wp2_with (go_at_call 44;(with_reducible refine (unhide QD).mono ?_);rintro e w' ⟨t,rfl,hts,ht,hb⟩;have HB:=hide hb;clear hb;simp only [])
  go_ret
  refine ⟨?_,unhide HB⟩
  show Ending.returned (Value.string _)=_
  congr 2
  apply ByteArray.ext
  apply Array.toList_inj.1
  rw [unhide E,← unhide ht]
  simp [ByteArray.data_append]
 ·have:=digits_nat x.natAbs w hx
  have e:((x.natAbs:Nat):Int)=x:=by omega
  rw [e] at this
  have e2:Lib.itoa x=Lib.decDigits x.natAbs:=by rw [← Lib.itoa_nonneg,e]
  rw [e2];exact this
end Kp
end Go.Proofs.YtceahffmenbibaaGreatDoor
namespace Go.Proofs.YtceahffmenbibaaGreatDoor
namespace Kp
open Go Go.RowKit Go.Deep Rd Go.Proofs.YtceahffmenbibaaGreatDoor.So
theorem Rows.later {w w':World} {lv:Value} {L:List Cl} (h:Rows w lv L) (hb:Below w.heap.size w w'):Rows w' lv L:=by
 obtain ⟨a,c,b,h1,h2,h3⟩:=h
 refine ⟨a,c,b,h1,h2,fun i hi=>?_⟩
 obtain ⟨ai,ci,bi,g1,g2,g3⟩:=h3 i hi
 exact ⟨ai,ci,bi,by rw [hb.cell (p:=⟨b,i,none⟩) (block_lt_of_cell g1)];exact g1,g2,fun j hj=>by rw [hb.cell (p:=⟨bi,j,none⟩) (block_lt_of_cell (g3 j hj))];exact g3 j hj⟩
def headT (n m:Nat):Bs:=[112,32,99,110,102,32] ++ Lib.decDigits n ++ [32] ++ Lib.decDigits m ++ [10]
def litT (x:Int):Bs:=Lib.itoa x ++ [32]
def txtAt (n:Nat) (L:List Cl) (k:Nat):Bs:=headT n L.length ++ (L.take k).flatMap clT
theorem txtAt_all (n:Nat) (L:List Cl):txtAt n L L.length=textB n L:=by unfold txtAt textB headT;rw [List.take_length]
theorem txtAt_succ (n:Nat) (L:List Cl) (k:Nat) (h:k < L.length):txtAt n L (k + 1)=txtAt n L k ++ ((L[k]).flatMap litT ++ [48,10]):=by
 unfold txtAt
 rw [List.take_succ_eq_append_getElem h,List.flatMap_append,List.flatMap_cons,List.flatMap_nil,List.append_nil]
 unfold clT litT
 rw [List.append_assoc]
theorem txtAt_len (n:Nat) (L:List Cl) (k:Nat) (h:k ≤ L.length):(txtAt n L k).length ≤ (textB n L).length:=by
 rw [← txtAt_all]
 unfold txtAt
 rw [List.length_append,List.length_append,List.take_length]
 have:L.flatMap clT=(L.take k).flatMap clT ++ (L.drop k).flatMap clT:=by rw [← List.flatMap_append,List.take_append_drop]
 rw [this,List.length_append];omega
theorem lit_len (c:Cl) (q:Nat):((c.take q).flatMap litT).length ≤ (c.flatMap litT).length:=by
 have:c.flatMap litT=(c.take q).flatMap litT ++ (c.drop q).flatMap litT:=by rw [← List.flatMap_append,List.take_append_drop]
 rw [this,List.length_append];omega
theorem digits_str (x:Int) (w:World) (hx:x.natAbs < 1000):
  Calls Tryz.prog 44 #[.int .i64 x] w fun e w'=>∃ t:ByteArray,e=.returned (.string t)∧t.size ≤ 10∧Hid (t.data.toList=Lib.itoa x)∧Hid (Below w.heap.size w w'):=by
 refine (digits_any x w hx).mono ?_
 rintro e w' ⟨rfl,hb⟩
 refine ⟨_,rfl,?_,rfl,hb⟩
 show (Lib.itoa x).length ≤ 10
 by_cases h:x < 0
 ·have:=Lib.itoa_neg x.natAbs (by omega)
  have e:-((x.natAbs:Nat):Int)=x:=by omega
  rw [e] at this
  rw [this,List.length_cons,Lib.decDigits_length]
  have:=nDig_le hx;omega
 ·have e:((x.natAbs:Nat):Int)=x:=by omega
  rw [← e,Lib.itoa_nonneg,Lib.decDigits_length]
  have:=nDig_le hx;omega
theorem str_ext {t:ByteArray} {l:Bs} (h:t.data.toList=l):t=⟨l.toArray⟩:=by
 apply ByteArray.ext;apply Array.toList_inj.1;rw [h]
theorem app_list (a b:ByteArray):(a ++ b).data.toList=a.data.toList ++ b.data.toList:=by simp [ByteArray.data_append]
set_option maxHeartbeats 4000000 in
set_option maxRecDepth 100000 in
theorem text_any (w:World) (lv:Value) (L:List Cl) (n:Nat) (hL:Rows w lv L) (hz:∀ c ∈ L,∀ x ∈ c,InV n x) (hl:∀ c ∈ L,c.length ≤ 20001) (hm:L.length < 1000) (hn:n ≤ 50) (ht:(textB n L).length ≤ 20000):
  Calls Tryz.prog 25 #[.int .i64 (n:Nat),lv] w fun e w'=>e=.returned (.string ⟨(textB n L).toArray⟩)∧Below w.heap.size w w':=by
 have HZ:=hide hz
 have HL:=hide hl
 have HT:=hide ht
 have QD:=hide digits_str
 obtain ⟨la,lc,b,rfl,h2,h3⟩:=hL
 have HROW:=hide h3
 clear hz hl ht h3
 go_enter Tryz.func25,Tryz.ntmps25
 go_upto_region 2 with (first
  |(go_at_call 44;(with_reducible refine (unhide QD (n:Nat) _ (by omega)).mono ?_);rintro e1 w1 ⟨t1,rfl,s1,d1,b1⟩;simp only [])
  |(go_at_call 44;(with_reducible refine (unhide QD (L.length:Nat) _ (by omega)).mono ?_);rintro e2 w2 ⟨t2,rfl,s2,d2,b2⟩;simp only []))
 go_wp2
 go_loopw [5,6] (fun sv i wr=>∃ (k:Nat) (t:ByteArray),k ≤ L.length∧i=.int .i64 k∧sv=.string t∧Hid (t.data.toList=txtAt n L k)∧Hid (Below w.heap.size w wr)) (fun _ i _=>L.length - (intOf i).toNat)
 case atStart=>
  refine ⟨0,_,Nat.zero_le _,rfl,rfl,?_,(unhide b1).trans ((unhide b2).mono (unhide b1).size)⟩
  unfold Hid
  simp only [app_list,unhide d1,unhide d2,Lib.itoa_nonneg]
  unfold txtAt headT
  simp
 case round=>
  obtain ⟨k,t,hk,rfl,rfl,hd,hb⟩:=hrel
  clear s1 s2 d1 d2 b1 b2
  have htl:t.size ≤ 20000:=by
   have h1:t.size=(txtAt n L k).length:=by rw [← unhide hd];simp
   have:=txtAt_len n L k hk
   have:=unhide HT
   omega
  by_cases hlt:k < L.length
  ·have ea:=h2 (by omega)
   subst ea
   obtain ⟨ai,ci,bi,e1,e2,e3⟩:=unhide HROW k hlt
   clear h2
   have e1w:wr.cell? ⟨b,k,none⟩=some (.slice ai (L[k]).length ci):=by rw [(unhide hb).cell (p:=⟨b,k,none⟩) (block_lt_of_cell e1)];exact e1
   have E3:=hide e3
   clear e3
   have hcl:=unhide HL _ (List.getElem_mem hlt)
   have HCZ:Hid (∀ x ∈ L[k],InV n x):=unhide HZ _ (List.getElem_mem hlt)
   have HS:Hid (txtAt n L (k + 1)=txtAt n L k ++ ((L[k]).flatMap litT ++ [48,10])):=txtAt_succ n L k hlt
   have hlen:(txtAt n L k).length + ((L[k]).flatMap litT).length ≤ 20000:=by
    have h1:=txtAt_len n L (k + 1) hlt
    have h2:=unhide HT
    rw [unhide HS,List.length_append,List.length_append] at h1
    omega
   generalize L[k]=c at *
   go_wp2
   go_loopw [5,7] (fun sv i wx=>∃ (q:Nat) (t:ByteArray),q ≤ c.length∧i=.int .i64 q∧sv=.string t∧Hid (t.data.toList=txtAt n L k ++ (c.take q).flatMap litT)∧Hid (Below w.heap.size w wx)) (fun _ i _=>c.length - (intOf i).toNat)
   case atStart=>exact ⟨0,t,Nat.zero_le _,rfl,rfl,by unfold Hid;rw [unhide hd];simp,hb⟩
   case round=>
    obtain ⟨q,t',hq,rfl,rfl,hd',hb'⟩:=hrel
    have htl':t'.size ≤ 20000:=by
     have h1:t'.size=(txtAt n L k ++ (c.take q).flatMap litT).length:=by rw [← unhide hd'];simp
     have:=lit_len c q
     rw [List.length_append] at h1
     omega
    have e1':wr.cell? ⟨b,k,none⟩=some (.slice ai c.length ci):=by rw [(unhide hb').cell (p:=⟨b,k,none⟩) (block_lt_of_cell e1)];exact e1
    by_cases hqt:q < c.length
    ·have ei:=e2 (by omega)
     subst ei
     have e4:=unhide E3 q hqt
     have e4':wr.cell? ⟨bi,q,none⟩=some (.int .i64 c[q]):=by rw [(unhide hb').cell (p:=⟨bi,q,none⟩) (block_lt_of_cell e4)];exact e4
     obtain ⟨hx0,hx1⟩:=unhide HCZ _ (List.getElem_mem hqt)
     have HQ:Hid ((c.take (q + 1)).flatMap litT=(c.take q).flatMap litT ++ (Lib.itoa c[q] ++ [32])):=by
      unfold Hid
      rw [List.take_succ_eq_append_getElem hqt,List.flatMap_append];simp [litT]
     clear e4 e1
     generalize c[q]=x at *
     have QX:=hide (fun W=>unhide QD x W (by omega))
     go_upto_region 7 with (go_at_call 44;(with_reducible refine (unhide QX _).mono ?_);rintro e3 w3 ⟨t3,rfl,s3,d3,b3⟩;simp only [])
     go_wp2
     go_roundw
     case rel=>exact ⟨q + 1,_,by omega,by go_num,rfl,by unfold Hid;rw [app_list,app_list,unhide hd',unhide d3,unhide HQ];simp,(unhide hb').trans ((unhide b3).mono (unhide hb').size)⟩
     case measure=>simp [intOf];omega
    ·have e:q=c.length:=by omega
     subst e
     rw [List.take_length] at hd'
     go_wp2
     go_roundw
     case rel=>exact ⟨k + 1,_,by omega,by go_num,rfl,by unfold Hid;rw [unhide HS,app_list,unhide hd'];simp,hb'⟩
     case measure=>simp [intOf];omega
  ·have e:k=L.length:=by omega
   subst e
   have E:Hid (t=⟨(textB n L).toArray⟩):=str_ext (by rw [unhide hd,txtAt_all])
   go_wp2
   go_ret
   exact ⟨by rw [← unhide E];rfl,unhide hb⟩
end Kp
end Go.Proofs.YtceahffmenbibaaGreatDoor
namespace Go.Proofs.YtceahffmenbibaaGreatDoor
namespace Kp
open Go Go.RowKit Go.Deep Rd Go.Proofs.YtceahffmenbibaaGreatDoor.So
def bitv (k v:Nat):Bool:=decide (k / 2 ^ v % 2=1)
theorem bit_tab:∀ k:Nat,k < 64→(bits BinOp.and IntKind.i64 (k:Int) 1 == 1)=bitv k 0∧(bits BinOp.and IntKind.i64 (k:Int) 2 == 2)=bitv k 1∧(bits BinOp.and IntKind.i64 (k:Int) 4 == 4)=bitv k 2∧(bits BinOp.and IntKind.i64 (k:Int) 8 == 8)=bitv k 3∧(bits BinOp.and IntKind.i64 (k:Int) 16 == 16)=bitv k 4∧(bits BinOp.and IntKind.i64 (k:Int) 32 == 32)=bitv k 5:=by
 decide +kernel
theorem bit_row (w:World) (k:Nat) (hk:k < 64):∀ v,v < 6→(w.alloc (Obj.cells #[Value.bool (bits BinOp.and IntKind.i64 (↑k) 1 == 1),Value.bool (bits BinOp.and IntKind.i64 (↑k) 2 == 2),Value.bool (bits BinOp.and IntKind.i64 (↑k) 4 == 4),Value.bool (bits BinOp.and IntKind.i64 (↑k) 8 == 8),Value.bool (bits BinOp.and IntKind.i64 (↑k) 16 == 16),Value.bool (bits BinOp.and IntKind.i64 (↑k) 32 == 32)] 4)).cell? ⟨w.heap.size,v,none⟩=some (.bool (bitv k v)):=by
 obtain ⟨h0,h1,h2,h3,h4,h5⟩:=bit_tab k hk
 rw [h0,h1,h2,h3,h4,h5]
 have r:(w.alloc (Obj.cells #[Value.bool (bitv k 0),Value.bool (bitv k 1),Value.bool (bitv k 2),Value.bool (bitv k 3),Value.bool (bitv k 4),Value.bool (bitv k 5)] 4)).rowIs w.heap.size 4 6 (fun v=>.bool (bitv k v)):=World.rowIs_alloc w _ _ _ fun i hi=>match i,hi with
  | 0,_=>rfl
  | 1,_=>rfl
  | 2,_=>rfl
  | 3,_=>rfl
  | 4,_=>rfl
  | 5,_=>rfl
 exact fun v hv=>r.cell hv
set_option maxHeartbeats 4000000 in
set_option maxRecDepth 100000 in
theorem tried_any (Sr:World→Prop) (hSr:∀ {a b:World},Sr a→Below a.heap.size a b→Sr b)
  (hW:∀ W,Sr W→Calls Tryz.prog 16 #[] W fun e w'=>e=.returned (.bool true)∧Below W.heap.size W w')
  (L:List Cl) (st:Bool)
  (hS:∀ W,Sr W→Calls Tryz.prog 19 #[.string ⟨(textB 6 L).toArray⟩] W fun e w'=>e=.returned (.tuple #[.bool true,.bool st])∧Below W.heap.size W w')
  (hst:st=true↔∃ j,j < 64∧allMet L (bitv j)=true)
  (w:World) (hw:Sr w) (rb off rc:Nat) (raw:List Int) (hL:L=clausesOf raw 6 20) (hraw:∀ i (hi:i < raw.length),w.cell? ⟨rb,off + i,none⟩=some (.int .i64 raw[i])) (hr:∀ x ∈ raw,-9223372036854775808 ≤ x∧x ≤ 9223372036854775807) (ra:Option Addr) (hra:0 < raw.length→ra=some ⟨rb,off,none⟩)
  (hz:∀ c ∈ L,∀ x ∈ c,InV 6 x) (hl:∀ c ∈ L,c.length ≤ 20001) (hm:L.length ≤ 20) (ht:(textB 6 L).length ≤ 20000):
  Calls Tryz.prog 10 #[.slice ra raw.length rc] w fun e w'=>e=.returned (.bool true)∧Below w.heap.size w w':=by
 have QW:=hide (hW w hw)
 have QC:Hid (∀ W,Below w.heap.size w W→Calls Tryz.prog 23 #[.slice ra raw.length rc,.int .i64 6,.int .i64 20] W fun e w'=>∃ a c,e=.returned (.slice a L.length c)∧Rows w' (.slice a L.length c) L∧Below w.heap.size w w'):=fun W hb=>by
  refine (clauses_any W rb off rc raw 6 20 (fun i hi=>by rw [hb.cell (p:=⟨rb,off + i,none⟩) (block_lt_of_cell (hraw i hi))];exact hraw i hi) hr ra hra (by omega) (by omega) (by omega)).mono ?_
  rintro e w' ⟨v,rfl,hR,hb'⟩
  rw [← hL] at hR
  obtain ⟨a,c,b,rfl,_⟩:=id hR
  exact ⟨a,c,rfl,hR,hb.trans (hb'.mono hb.size)⟩
 have QM:Hid (∀ W (a:Option Addr) (c g k:Nat),Rows W (.slice a L.length c) L→(∀ v,v < 6→W.cell? ⟨g,v,none⟩=some (.bool (bitv k v)))→Calls Tryz.prog 24 #[.slice a L.length c,.slice (some ⟨g,0,none⟩) 6 6] W fun e w'=>e=.returned (.bool (allMet L (bitv k)))∧Below W.heap.size W w'):=fun W a c g k hR hv=>
  meets_any W _ L 6 g (bitv k) hR hz hl (by omega) (by omega) hv
 have QT:Hid (∀ W (a:Option Addr) (c:Nat),Below w.heap.size w W→Rows W (.slice a L.length c) L→Calls Tryz.prog 25 #[.int .i64 6,.slice a L.length c] W fun e w'=>e=.returned (.string ⟨(textB 6 L).toArray⟩)∧Below w.heap.size w w'):=fun W a c hb hR=>
  (text_any W _ L 6 hR hz hl (by omega) (by omega) ht).mono fun e w' ⟨h1,h2⟩=>⟨h1,hb.trans (h2.mono hb.size)⟩
 have QS:Hid (∀ W,Below w.heap.size w W→Calls Tryz.prog 19 #[.string ⟨(textB 6 L).toArray⟩] W fun e w'=>e=.returned (.tuple #[.bool true,.bool st])∧Below w.heap.size w w'):=fun W hb=>
  (hS W (hSr hw hb)).mono fun e w' ⟨h1,h2⟩=>⟨h1,hb.trans (h2.mono hb.size)⟩
 have HST:=hide hst
 clear hW hS hst hw hraw hr hra hz hl ht hL hSr
 generalize (⟨(textB 6 L).toArray⟩:ByteArray)=tx at *
 go_enter Tryz.func10,Tryz.ntmps10
 go_wp2_with (first
  |(go_at_call 16;(with_reducible refine (unhide QW).mono ?_);rintro e1 w1 ⟨rfl,hb1⟩;have B1:=hide hb1;clear hb1 QW;simp only [])
  |(go_at_call 23;(with_reducible refine (unhide QC _ (unhide B1)).mono ?_);rintro e2 w2 ⟨la,lc,rfl,hR,hb2⟩;have R2:=hide hR;have B2:=hide hb2;clear hR hb2 QC B1;simp only []))
 go_loopw [5,6] (fun sv bv wr=>∃ (k:Nat) (sm:Bool),k ≤ 64∧bv=.int .i64 (k:Nat)∧sv=.bool sm∧Hid (sm=true↔∃ j,j < k∧allMet L (bitv j)=true)∧Hid (Rows wr (.slice la L.length lc) L)∧Hid (Below w.heap.size w wr)) (fun _ bv _=>64 - (intOf bv).toNat)
 case atStart=>exact ⟨0,false,by omega,rfl,rfl,by unfold Hid;simp,R2,B2⟩
 case round=>
  obtain ⟨k,sm,hk,rfl,rfl,hsm,hR,hb⟩:=hrel
  clear R2 B2
  cases sm
  ·by_cases hlt:k < 64
   ·have hki:(k:Int) < 64:=by omega
    have QMK:Hid (Calls Tryz.prog 24 #[.slice la L.length lc,.slice (some ⟨wr.heap.size,0,none⟩) 6 6] _ fun e w'=>e=.returned (.bool (allMet L (bitv k)))∧Below w.heap.size w w'∧Rows w' (.slice la L.length lc) L):=
     (unhide QM _ la lc wr.heap.size k ((unhide hR).later ((Below.refl _ _).alloc (Nat.le_refl _) _)) (bit_row wr k hlt)).mono fun e w' ⟨h1,h2⟩=>⟨h1,((unhide hb).alloc (unhide hb).size _).trans (h2.mono (Nat.le_trans (unhide hb).size ((Below.refl 0 wr).alloc (Nat.zero_le _) _).size)),((unhide hR).later ((Below.refl _ _).alloc (Nat.le_refl _) _)).later h2⟩
    have HN:Hid ((allMet L (bitv k))=true↔∃ j,j < k + 1∧allMet L (bitv j)=true):=by
     refine ⟨fun h=>⟨k,by omega,h⟩,fun ⟨j,hj,h⟩=>?_⟩
     by_cases e:j=k
     ·rw [← e];exact h
     ·have:=(unhide hsm).2 ⟨j,by omega,h⟩
      cases this
    clear hsm hR hb
    go_wp2_with (go_at_call 24;(with_reducible refine (unhide QMK).mono ?_);rintro e4 w4 ⟨rfl,hb4,hR4⟩;have B4:=hide hb4;have R4:=hide hR4;clear hb4 hR4;simp only [])
    go_roundw
    case rel=>exact ⟨k + 1,_,by omega,by go_num,rfl,HN,R4,B4⟩
    case measure=>simp [intOf];omega
   ·have hki:¬ (k:Int) < 64:=by omega
    have hk64:k=64:=by omega
    have hf:st=false:=by
     cases h:st
     ·rfl
     ·obtain ⟨j,hj,h2⟩:=(unhide HST).1 h
      have:=(unhide hsm).2 ⟨j,by omega,h2⟩
      cases this
    subst hf
    clear hk64
    go_wp2_with (first
     |(go_at_call 25;(with_reducible refine (unhide QT _ la lc (unhide hb) (unhide hR)).mono ?_);rintro e5 w5 ⟨rfl,hb5⟩;have B5:=hide hb5;clear hb5 hR hb;simp only [])
     |(go_at_call 19;(with_reducible refine (unhide QS _ (unhide B5)).mono ?_);rintro e6 w6 ⟨rfl,hb6⟩;have B6:=hide hb6;clear hb6;simp only []))
    go_ret
    exact ⟨rfl,unhide B6⟩
  ·have hf:st=true:=by
    obtain ⟨j,hj,h2⟩:=(unhide hsm).1 rfl
    exact (unhide HST).2 ⟨j,by omega,h2⟩
   subst hf
   by_cases hlt:k < 64
   ·have hki:(k:Int) < 64:=by omega
    go_wp2_with (first
     |(go_at_call 25;(with_reducible refine (unhide QT _ la lc (unhide hb) (unhide hR)).mono ?_);rintro e5 w5 ⟨rfl,hb5⟩;have B5:=hide hb5;clear hb5 hR hb;simp only [])
     |(go_at_call 19;(with_reducible refine (unhide QS _ (unhide B5)).mono ?_);rintro e6 w6 ⟨rfl,hb6⟩;have B6:=hide hb6;clear hb6;simp only []))
    go_ret
    exact ⟨rfl,unhide B6⟩
   ·have hki:¬ (k:Int) < 64:=by omega
    go_wp2_with (first
     |(go_at_call 25;(with_reducible refine (unhide QT _ la lc (unhide hb) (unhide hR)).mono ?_);rintro e5 w5 ⟨rfl,hb5⟩;have B5:=hide hb5;clear hb5 hR hb;simp only [])
     |(go_at_call 19;(with_reducible refine (unhide QS _ (unhide B5)).mono ?_);rintro e6 w6 ⟨rfl,hb6⟩;have B6:=hide hb6;clear hb6;simp only []))
    go_ret
    exact ⟨rfl,unhide B6⟩
end Kp
end Go.Proofs.YtceahffmenbibaaGreatDoor
namespace Go.Proofs.YtceahffmenbibaaGreatDoor
namespace Kp
open Go Go.RowKit Go.Deep Rd Go.Proofs.YtceahffmenbibaaGreatDoor.So
theorem six:∀ b0 b1 b2 b3 b4 b5:Bool,∃ j,j < 64∧bitv j 0=b0∧bitv j 1=b1∧bitv j 2=b2∧bitv j 3=b3∧bitv j 4=b4∧bitv j 5=b5:=by
 intro b0 b1 b2 b3 b4 b5
 refine ⟨b0.toNat + 2 * b1.toNat + 4 * b2.toNat + 8 * b3.toNat + 16 * b4.toNat + 32 * b5.toNat,?_⟩
 revert b0 b1 b2 b3 b4 b5
 decide +kernel
theorem sat_six {L:List Cl} (hz:∀ c ∈ L,∀ x ∈ c,InV 6 x):(∃ t,Sat t L)↔∃ j,j < 64∧allMet L (bitv j)=true:=by
 refine ⟨fun ⟨t,h⟩=>?_,fun ⟨j,hj,h⟩=>⟨_,met_sat2 (fun c hc x hx=>(hz c hc x hx).1) h⟩⟩
 obtain ⟨j,hj,h0,h1,h2,h3,h4,h5⟩:=six (t 1) (t 2) (t 3) (t 4) (t 5) (t 6)
 refine ⟨j,hj,sat_met (n:=6) hz fun c hc=>?_⟩
 obtain ⟨l,hl,hl0,ht⟩:=h c hc
 refine ⟨l,hl,hl0,?_⟩
 have hle:=(hz c hc l hl).2
 have hv:∀ v,v < 6→bitv j v=t (v + 1):=fun v hv=>match v,hv with
  | 0,_=>h0
  | 1,_=>h1
  | 2,_=>h2
  | 3,_=>h3
  | 4,_=>h4
  | 5,_=>h5
 show bitv j (l.natAbs - 1)=_
 rw [hv _ (by omega),show l.natAbs - 1 + 1=l.natAbs by omega,ht]
theorem cl_len (vars:Nat) (r:Int):(clOf vars r).length ≤ 4:=by
 unfold clOf;rw [lits_len];omega
theorem cla_mem {raw:List Int} {vars most:Nat} {c:Cl} (h:c ∈ clausesOf raw vars most):∃ r,c=clOf vars r:=by
 obtain ⟨r,_,rfl⟩:=List.mem_map.1 h
 exact ⟨r,rfl⟩
theorem cla_in {raw:List Int} {vars most:Nat} (hv:0 < vars):∀ c ∈ clausesOf raw vars most,∀ x ∈ c,InV vars x:=fun c hc x hx=>by
 obtain ⟨r,rfl⟩:=cla_mem hc
 exact lits_in hv _ _ x hx
theorem cla_len {raw:List Int} {vars most:Nat}:(clausesOf raw vars most).length ≤ most:=by unfold clausesOf;simp;omega
theorem litN_le:∀ (L:List Cl),(∀ c ∈ L,c.length ≤ 4)→litN L ≤ 4 * L.length
 | [],_=>by simp [litN]
 | c :: L,h=>by
  have h1:=litN_le L (fun d hd=>h d (by simp [hd]))
  have h2:=h c (by simp)
  simp only [litN,List.map_cons,List.sum_cons,List.length_cons] at h1 ⊢
  omega
theorem nsN_le:∀ (L:List Cl),(∀ c ∈ L,c.length ≤ 4)→nsN L ≤ 7 * L.length
 | [],_=>by simp [nsN]
 | c :: L,h=>by
  have h1:=nsN_le L (fun d hd=>h d (by simp [hd]))
  have h2:=h c (by simp)
  simp only [nsN,List.map_cons,List.sum_cons,List.length_cons] at h1 ⊢
  omega
theorem txt_six {L:List Cl} (hz:∀ c ∈ L,∀ x ∈ c,InV 6 x) (h4:∀ c ∈ L,c.length ≤ 4) (hl:L.length ≤ 40):Txt ⟨(textB 6 L).toArray⟩ 6 L 31:=by
 have hn:=litN_le L h4
 have ht:=text_len (n:=6) (by omega) (l:=L) (by omega) hz
 refine ⟨?_,?_,by omega,hz,fun c hc=>by have:=h4 c hc;omega,by omega,fun Z kb w lv h1 h2=>run_small (by omega) w lv L h1 hz (fun c hc=>by have:=h4 c hc;omega) (by omega) h2 (by have:=nsN_le L h4;omega),by omega⟩
 ·exact read_text (by omega) (by omega) hz (by omega) (by omega)
 ·show (textB 6 L).length ≤ maxLen
  unfold maxLen;omega
theorem tried_sure (w:World) (hg:Sure w) (rb off rc:Nat) (raw:List Int) (hraw:∀ i (hi:i < raw.length),w.cell? ⟨rb,off + i,none⟩=some (.int .i64 raw[i])) (hr:∀ x ∈ raw,-9223372036854775808 ≤ x∧x ≤ 9223372036854775807) (ra:Option Addr) (hra:0 < raw.length→ra=some ⟨rb,off,none⟩):
  Calls Tryz.prog 10 #[.slice ra raw.length rc] w fun e w'=>e=.returned (.bool true)∧Below w.heap.size w w':=by
 have hz:=cla_in (raw:=raw) (most:=20) (vars:=6) (by omega)
 have h4:∀ c ∈ clausesOf raw 6 20,c.length ≤ 4:=fun c hc=>by
  obtain ⟨r,rfl⟩:=cla_mem hc
  exact cl_len _ _
 have hlen:=cla_len (raw:=raw) (vars:=6) (most:=20)
 have hn:=litN_le _ h4
 have ht:=text_len (n:=6) (by omega) (l:=clausesOf raw 6 20) (by omega) hz
 have T:=txt_six hz h4 (by omega)
 obtain ⟨st,hst⟩:∃ st:Bool,st=true↔∃ t,Sat t (clausesOf raw 6 20):=by
  by_cases h:∃ t,Sat t (clausesOf raw 6 20)
  ·exact ⟨true,fun _=>h,fun _=>rfl⟩
  ·exact ⟨false,fun e=>(by cases e),fun e=>absurd e h⟩
 refine tried_any Sure (fun h hb=>h.later hb) (fun W hW=>works_sure W hW) (clausesOf raw 6 20) st (fun W hW=>?_) (hst.trans (sat_six hz)) w hg rb off rc raw rfl hraw hr ra hra hz (fun c hc=>by have:=h4 c hc;omega) hlen (by omega)
 refine (shown_any T W hW).mono ?_
 rintro e w' ⟨b,rfl,hb,hbel⟩
 have:b=st:=by
  cases b <;> cases st <;> simp_all
 subst this
 exact ⟨rfl,hbel⟩
end Kp
end Go.Proofs.YtceahffmenbibaaGreatDoor
namespace Go.Proofs.YtceahffmenbibaaGreatDoor
open Go Go.ChangeShapes Go.WideShapes Go.ChangeAt Go.RowKit
theorem Tryz.own:ownKnob Tryz.prog.godebug=none:=by kernel_rfl
theorem Tryz.laidOut:laidOutB Tryz.prog=true:=by kernel_rfl
def synS:ByteArray:={ data:=#[105,110,118,97,108,105,100,32,115,121,110,116,97,120] }
def rngS:ByteArray:={ data:=#[118,97,108,117,101,32,111,117,116,32,111,102,32,114,97,110,103,101] }
def putCells (h:Array Obj) (g:Nat) (cs:Array Value):Array Obj:=h.modify g fun
 | .cells _ t frozen=>.cells cs t frozen
 | o=>o
def intCells (k:IntKind) (l:List Int):Array Value:=(l.map fun z=>Value.int k z).toArray
def tab_deBruijn32tab:List Int:=[0,1,28,2,29,14,24,3,30,22,20,15,25,17,4,8,31,27,13,23,21,19,16,7,26,12,18,6,11,5,10,9]
def tab_deBruijn64tab:List Int:=[0,1,56,2,57,49,28,3,61,58,42,50,38,29,17,4,62,47,59,36,45,43,51,22,53,39,33,30,24,18,12,5,63,55,48,27,60,41,37,16,46,35,44,21,52,32,23,11,54,26,40,15,34,20,31,10,25,14,19,9,13,8,7,6]
def tab_uint64pow10:List Int:=[1,10,100,1000,10000,100000,1000000,10000000,100000000,1000000000,10000000000,100000000000,1000000000000,10000000000000,100000000000000,1000000000000000,10000000000000000,100000000000000000,1000000000000000000,10000000000000000000]
end Go.Proofs.YtceahffmenbibaaGreatDoor
