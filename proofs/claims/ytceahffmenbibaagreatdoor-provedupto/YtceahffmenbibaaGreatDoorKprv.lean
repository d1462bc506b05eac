/- Kprv. -/
import Derived.Test.YtceahffmenbibaaGreatDoorG42
import Derived.Test.YtceahffmenbibaaGreatDoorG01
set_option linter.unusedVariables false
set_option linter.unusedSimpArgs false
namespace Go.Proofs.YtceahffmenbibaaGreatDoor
namespace Kp
open Go Go.RowKit Go.Deep Rd Go.Proofs.YtceahffmenbibaaGreatDoor.So
def CRow (w:World) (v:Value) (c:Cl):Prop:=∃ (ai:Option Addr) (ci bi:Nat),v=.slice ai c.length ci∧(0 < c.length→ai=some ⟨bi,0,none⟩)∧∀ j (hj:j < c.length),w.cell? ⟨bi,j,none⟩=some (.int .i64 c[j])
theorem CRow.later {w w':World} {v:Value} {c:Cl} (h:CRow w v c) (hb:Below w.heap.size w w'):CRow w' v c:=by
 obtain ⟨a,k,b,h1,h2,h3⟩:=h
 exact ⟨a,k,b,h1,h2,fun j hj=>cell_later (h3 j hj) hb⟩
structure Ls (w:World) (lv:Value) (us:List Value) (L:List Cl):Prop where
 len:us.length=L.length
 shape:(lv=.slice none 0 0∧us=[])∨∃ b c,lv=.slice (some ⟨b,0,none⟩) us.length c∧∀ i (hi:i < us.length),w.cell? ⟨b,i,none⟩=some us[i]
 row:∀ i (hi:i < us.length),CRow w us[i] (L[i]'(by rw [← len];exact hi))
theorem Ls.form {w:World} {lv:Value} {us:List Value} {L:List Cl} (h:Ls w lv us L):∃ (a:Option Addr) (c b:Nat),lv=.slice a L.length c∧(0 < L.length→a=some ⟨b,0,none⟩)∧∀ i (hi:i < us.length),w.cell? ⟨b,i,none⟩=some us[i]:=by
 have hl:=h.len
 rcases h.shape with ⟨rfl,rfl⟩ | ⟨b,c,rfl,hc⟩
 ·have h0:L.length=0:=by rw [← hl];rfl
  exact ⟨none,0,0,by rw [h0],fun g=>by omega,fun i hi=>by simp at hi⟩
 ·exact ⟨_,c,b,by rw [hl],fun _=>rfl,hc⟩
theorem Ls.rows {w:World} {lv:Value} {us:List Value} {L:List Cl} (h:Ls w lv us L):Rows w lv L:=by
 obtain ⟨a,c,b,h1,h2,h3⟩:=h.form
 refine ⟨a,c,b,h1,h2,fun i hi=>?_⟩
 have hi':i < us.length:=by rw [h.len];exact hi
 obtain ⟨ai,ci,bi,g1,g2,g3⟩:=h.row i hi'
 exact ⟨ai,ci,bi,by rw [h3 i hi',g1],g2,g3⟩
theorem Ls.src {w:World} {lv:Value} {us:List Value} {L:List Cl} (h:Ls w lv us L):Src w lv us.length us:=by
 rcases h.shape with ⟨rfl,rfl⟩ | ⟨b,c,rfl,hc⟩
 ·exact .inl ⟨rfl,rfl,rfl⟩
 ·refine .inr ⟨⟨b,0,none⟩,c,rfl,fun j u hj=>?_⟩
  obtain ⟨hj',e⟩:=List.getElem?_eq_some_iff.1 hj
  have:=hc j hj'
  rw [e] at this
  simpa [Addr.add_lit] using this
theorem Ls.one {w:World} {lv:Value} {us:List Value} {L:List Cl} (h:Ls w lv us L):∀ u ∈ us,u.oneCell'=true:=fun u hu=>by
 obtain ⟨i,hi,rfl⟩:=List.getElem_of_mem hu
 obtain ⟨ai,ci,bi,g1,_⟩:=h.row i hi
 rw [g1];rfl
theorem Ls.later {w w':World} {lv:Value} {us:List Value} {L:List Cl} (h:Ls w lv us L) (hb:Below w.heap.size w w'):Ls w' lv us L where
 len:=h.len
 shape:=by
  rcases h.shape with h1 | ⟨b,c,h1,h2⟩
  ·exact .inl h1
  ·exact .inr ⟨b,c,h1,fun i hi=>cell_later (h2 i hi) hb⟩
 row:=fun i hi=>(h.row i hi).later hb
theorem ls_own {B te:Nat} {w:World} {v:Value} {us:List Value} {L:List Cl} (h:w.ownsRow B te 1 v us.length us) (hl:us.length=L.length) (hr:∀ i (hi:i < us.length),CRow w us[i] (L[i]'(by rw [← hl];exact hi))):Ls w v us L where
 len:=hl
 shape:=by
  have hc:=h
  rcases h.2 with ⟨rfl,h0⟩ | ⟨g,cap,cur,rfl,_⟩
  ·exact .inl ⟨rfl,List.eq_nil_of_length_eq_zero h0⟩
  ·refine .inr ⟨g,cap,rfl,fun i hi=>?_⟩
   have:=hc.cells (g:=g) rfl i us[i] (List.getElem?_eq_getElem hi)
   simpa [Addr.add_lit] using this
 row:=hr
theorem crow_own {B ti:Nat} {w:World} {u:Value} {c:Cl} (h:w.ownsRow B ti 1 u c.length (intsV c)):CRow w u c:=by
 have hc:=h
 rcases h.2 with ⟨rfl,h0⟩ | ⟨g,cap,cur,rfl,_⟩
 ·exact ⟨none,0,0,by rw [h0],fun hh=>by omega,fun j hj=>by omega⟩
 ·refine ⟨some ⟨g,0,none⟩,cap,g,rfl,fun _=>rfl,fun j hj=>?_⟩
  have:=hc.cells (g:=g) rfl j (.int .i64 c[j]) (by simp [intsV,hj])
  simpa [Addr.add_lit] using this
theorem ls_mem {te ti B:Nat} {w:World} {v clv:Value} {us:List Value} {L:List Cl} {cur:List Int} (h:RMem te ti B w v clv us L cur):Ls w v us L:=by
 refine ls_own h.outer h.len fun i hi=>?_
 have:=(h.inner i us[i] (List.getElem?_eq_getElem hi)).1
 have e:L.getD i []=L[i]'(by rw [← h.len];exact hi):=by simp [List.getD,← h.len,hi]
 rw [e] at this
 exact crow_own this
theorem mem_grown {te ti B:Nat} {w w':World} {v clv:Value} {us:List Value} {L:List Cl} {cur:List Int} {row:Option Nat} (h:RMem te ti B w v clv us L cur) (hg:w.grownBy w' row) (hr:∀ k,row=some k→k < B):RMem te ti B w' v clv us L cur:=by
 have key:∀ {t n v xs},w.ownsRow B t 1 v n xs→w'.ownsRow B t 1 v n xs:=fun {t n v xs} ho=>by
  refine ho.kept hg ?_
  cases hv:v.ownBlock with
  | none=>exact .inl rfl
  | some g=>
   refine .inr fun e=>?_
   have h1:=(ho.lt g hv).1
   have h2:=hr g e.symm
   omega
 exact ⟨key h.outer,key h.row,h.len,fun j u hj=>⟨key (h.inner j u hj).1,(h.inner j u hj).2⟩⟩
theorem own_later {B t n:Nat} {w w':World} {v:Value} {xs:List Value} (ho:w.ownsRow B t 1 v n xs) (hb:Below w.heap.size w w'):w'.ownsRow B t 1 v n xs:=by
 have hg:w.grownBy w' none:=⟨hb.os,hb.tape,hb.output,hb.size,fun k hk _=>hb.block k hk⟩
 refine ho.kept hg ?_
 cases hv:v.ownBlock with
 | none=>exact .inl rfl
 | some g=>exact .inr (by simp)
theorem rev_take {us:List Value} {j:Nat} (h:j < us.length):us.reverse.take (j + 1)=us.reverse.take j ++ [us[us.length - 1 - j]'(by omega)]:=by
 rw [List.take_succ_eq_append_getElem (by simpa using h),List.getElem_reverse]
theorem Ls.rev {w:World} {lv ov:Value} {us:List Value} {L:List Cl} {B te:Nat} (h:Ls w lv us L) (ho:w.ownsRow B te 1 ov us.length us.reverse):Ls w ov us.reverse L.reverse:=
 ls_own (by simpa using ho) (by simp [h.len]) fun i hi=>by
  have hi':us.length - 1 - i < us.length:=by simp at hi;omega
  have:=h.row _ hi'
  simp only [List.getElem_reverse]
  have e:L.length - 1 - i=us.length - 1 - i:=by rw [h.len]
  simp only [e]
  exact this
theorem Ls.app {w:World} {lv mv av:Value} {us ms:List Value} {L M:List Cl} {B te:Nat} (h:Ls w lv us L) (h2:Ls w mv ms M) (ho:w.ownsRow B te 1 av (us.length + ms.length) (us ++ ms)):Ls w av (us ++ ms) (L ++ M):=
 ls_own (by simpa using ho) (by simp [h.len,h2.len]) fun i hi=>by
  by_cases hl:i < us.length
  ·have hl':i < L.length:=by rw [← h.len];exact hl
   rw [List.getElem_append_left hl,List.getElem_append_left hl']
   exact h.row i hl
  ·have hl':¬ i < L.length:=by rw [← h.len];exact hl
   have hi':i - us.length < ms.length:=by simp at hi;omega
   rw [List.getElem_append_right (by omega),List.getElem_append_right (by omega)]
   have:=h2.row _ hi'
   have e:i - L.length=i - us.length:=by rw [h.len]
   simp only [e]
   exact this
def LsB (w:World) (lb:Nat) (lv:Value) (us:List Value) (L:List Cl):Prop:=(∀ i (hi:i < us.length),w.cell? ⟨lb,i,none⟩=some us[i])∧Ls w lv us L
theorem LsB.later {w w':World} {lb:Nat} {lv:Value} {us:List Value} {L:List Cl} (h:LsB w lb lv us L) (hb:Below w.heap.size w w'):LsB w' lb lv us L:=
 ⟨fun i hi=>cell_later (h.1 i hi) hb,h.2.later hb⟩
set_option maxHeartbeats 4000000 in
set_option maxRecDepth 100000 in
theorem proved_any (Sr:World→Prop) (hSr:∀ {a b:World},Sr a→Below a.heap.size a b→Sr b)
  (rawV moreV:Value) (proof:ByteArray) (L M:List Cl) (tx:List Cl→ByteArray) (st mt:Bool) (P P2:Int→Int→Prop) (w:World) (hw:Sr w) (hlL:L.length ≤ 20) (hlM:M.length ≤ 20)
  (hW:∀ W,Sr W→Calls Tryz.prog 16 #[] W fun e w'=>e=.returned (.bool true)∧Below W.heap.size W w')
  (hC:∀ W,Below w.heap.size w W→Calls Tryz.prog 23 #[rawV,.int .i64 6,.int .i64 20] W fun e w'=>∃ v,e=.returned v∧OwnL 43 3 W.heap.size w' v L∧Below W.heap.size W w')
  (hC2:∀ W,Below w.heap.size w W→Calls Tryz.prog 23 #[moreV,.int .i64 6,.int .i64 20] W fun e w'=>∃ v,e=.returned v∧OwnL 43 3 W.heap.size w' v M∧Below W.heap.size W w')
  (hM:∀ W (v:Value) (g k:Nat),Rows W v L→(∀ x,x < 6→W.cell? ⟨g,x,none⟩=some (.bool (bitv k x)))→Calls Tryz.prog 24 #[v,.slice (some ⟨g,0,none⟩) 6 6] W fun e w'=>e=.returned (.bool (allMet L (bitv k)))∧Below W.heap.size W w')
  (hT:∀ W (v:Value) (L':List Cl),(L'=L∨L'=L.reverse∨L'=L ++ M)→Rows W v L'→Calls Tryz.prog 25 #[.int .i64 6,v] W fun e w'=>e=.returned (.string (tx L'))∧Below W.heap.size W w')
  (hK:∀ W,Sr W→Calls Tryz.prog 20 #[.string (tx L),.string proof] W fun e w'=>∃ n f,e=.returned (.tuple #[.int .i64 n,.int .i64 f])∧P n f∧Below W.heap.size W w')
  (hK2:∀ W,Sr W→Calls Tryz.prog 20 #[.string (tx L.reverse),.string proof] W fun e w'=>∃ n f,e=.returned (.tuple #[.int .i64 n,.int .i64 f])∧P2 n f∧Below W.heap.size W w')
  (hPP:∀ n f n' f',P n f→P2 n' f'→n'=n∧f'=f) (hP0:∀ n,P n 0→st=false)
  (hS:∀ W,Sr W→Calls Tryz.prog 17 #[.string (tx L),.int .i64 (-1)] W fun e w'=>∃ (a:Option Addr) (n c:Nat) (p:ByteArray),e=.returned (.tuple #[.agg #[.int .i64 (cond st 1 2),.slice a n c,.string p],.int .i64 0])∧Below W.heap.size W w')
  (hSh:∀ W,Sr W→Calls Tryz.prog 19 #[.string (tx (L ++ M))] W fun e w'=>e=.returned (.tuple #[.bool true,.bool mt])∧Below W.heap.size W w')
  (hmt:mt=true→st=true) (hst:st=true↔∃ j,j < 64∧allMet L (bitv j)=true):
  Calls Tryz.prog 14 #[rawV,.string proof,moreV] w fun e w'=>e=.returned (.bool true)∧Below w.heap.size w w':=by
 obtain ⟨j0,hj,hy0,hy1,hy2⟩:=info_parts Tryz.infoInts'
 have QW:=hide (hW w hw)
 have QC:Hid (∀ W,Below w.heap.size w W→Calls Tryz.prog 23 #[rawV,.int .i64 6,.int .i64 20] W fun e w'=>∃ (a:Option Addr) (c b:Nat) (us:List Value),e=.returned (.slice a L.length c)∧(0 < L.length→a=some ⟨b,0,none⟩)∧(∀ i (hi:i < us.length),w'.cell? ⟨b,i,none⟩=some us[i])∧Ls w' (.slice a L.length c) us L∧Below w.heap.size w w'):=fun W hb=>by
  refine (hC W hb).mono ?_
  rintro e w' ⟨v,rfl,hO,hb'⟩
  obtain ⟨us,hO⟩:=hO
  have hR:=ls_mem hO
  obtain ⟨a,c,b,rfl,h2,h3⟩:=hR.form
  exact ⟨a,c,b,us,rfl,h2,h3,hR,hb.trans (hb'.mono hb.size)⟩
 have QC2:Hid (∀ W,Below w.heap.size w W→Calls Tryz.prog 23 #[moreV,.int .i64 6,.int .i64 20] W fun e w'=>∃ v ms,e=.returned v∧RMem 43 3 W.heap.size w' v (.slice none 0 0) ms M []∧Below W.heap.size W w'):=fun W hb=>(hC2 W hb).mono fun e w' ⟨v,h1,⟨ms,h2⟩,h3⟩=>⟨v,ms,h1,h2,h3⟩
 have QM:=hide hM
 have QT:=hide hT
 have QK:Hid (∀ W,Below w.heap.size w W→Calls Tryz.prog 20 #[.string (tx L),.string proof] W fun e w'=>∃ n f,e=.returned (.tuple #[.int .i64 n,.int .i64 f])∧P n f∧Below W.heap.size W w'):=fun W hb=>hK W (hSr hw hb)
 have QK2:Hid (∀ W,Below w.heap.size w W→Calls Tryz.prog 20 #[.string (tx L.reverse),.string proof] W fun e w'=>∃ n f,e=.returned (.tuple #[.int .i64 n,.int .i64 f])∧P2 n f∧Below W.heap.size W w'):=fun W hb=>hK2 W (hSr hw hb)
 have QS:Hid (∀ W,Below w.heap.size w W→Calls Tryz.prog 17 #[.string (tx L),.int .i64 (-1)] W fun e w'=>∃ (a:Option Addr) (n c:Nat) (p:ByteArray),e=.returned (.tuple #[.agg #[.int .i64 (cond st 1 2),.slice a n c,.string p],.int .i64 0])∧Below W.heap.size W w'):=fun W hb=>hS W (hSr hw hb)
 have QH:Hid (∀ W,Below w.heap.size w W→Calls Tryz.prog 19 #[.string (tx (L ++ M))] W fun e w'=>e=.returned (.tuple #[.bool true,.bool mt])∧Below W.heap.size W w'):=fun W hb=>hSh W (hSr hw hb)
 have HST:=hide hst
 have HPP:=hide hPP
 have HP0:=hide hP0
 have HMT:=hide hmt
 clear hW hC hC2 hM hT hK hK2 hS hSh hst hPP hP0 hmt hw hSr
 go_enter Tryz.func14,Tryz.ntmps14
 go_wp2_with (first
  |(go_at_call 16;(with_reducible refine (unhide QW).mono ?_);rintro e1 w1 ⟨rfl,hb1⟩;have B1:=hide hb1;clear hb1 QW;simp only [])
  |(go_at_call 23;(with_reducible refine (unhide QC _ (unhide B1)).mono ?_);rintro e2 w2 ⟨la,lc,lb,us,rfl,hla,hcs,hR,hb2⟩;have HLA:=hide hla;have R2:=hide (And.intro hcs hR);have B2:=hide hb2;clear hla hcs hR hb2 QC B1;simp only []))
 go_loopw [9,10] (fun sv bv wr=>∃ (k:Nat) (sm:Bool),k ≤ 64∧bv=.int .i64 (k:Nat)∧sv=.bool sm∧Hid (sm=true↔∃ j,j < k∧allMet L (bitv j)=true)∧Hid (Below w2.heap.size w2 wr)) (fun _ bv _=>64 - (intOf bv).toNat)
 case atStart=>exact ⟨0,false,by omega,rfl,rfl,by unfold Hid;simp,Below.refl _ _⟩
 case round=>
  obtain ⟨k,sm,hk,rfl,rfl,hsm,hb⟩:=hrel
  by_cases hgo:sm=false∧k < 64
  ·obtain ⟨rfl,hlt⟩:=hgo
   have hki:(k:Int) < 64:=by omega
   have QMK:Hid (Calls Tryz.prog 24 #[.slice la L.length lc,.slice (some ⟨wr.heap.size,0,none⟩) 6 6] _ fun e w'=>e=.returned (.bool (allMet L (bitv k)))∧Below w2.heap.size w2 w'):=
    (unhide QM _ (.slice la L.length lc) wr.heap.size k (((unhide R2).2.rows.later (unhide hb)).later ((Below.refl _ _).alloc (Nat.le_refl _) _)) (bit_row wr k hlt)).mono fun e w' ⟨h1,h2⟩=>⟨h1,((unhide hb).alloc (unhide hb).size _).trans (h2.mono (Nat.le_trans (unhide hb).size ((Below.refl 0 wr).alloc (Nat.zero_le _) _).size))⟩
   have HN:Hid ((allMet L (bitv k))=true↔∃ j,j < k + 1∧allMet L (bitv j)=true):=by
    refine ⟨fun h=>⟨k,by omega,h⟩,fun ⟨j,hj,h⟩=>?_⟩
    by_cases e:j=k
    ·rw [← e];exact h
    ·have:=(unhide hsm).2 ⟨j,by omega,h⟩
     cases this
   clear hsm hb
   go_wp2_with (go_at_call 24;(with_reducible refine (unhide QMK).mono ?_);rintro e4 w4 ⟨rfl,hb4⟩;have B4:=hide hb4;clear hb4;simp only [])
   go_roundw
   case rel=>exact ⟨k + 1,_,by omega,by go_num,rfl,HN,B4⟩
   case measure=>simp [intOf];omega
  ·have hsf:sm=st:=by
    cases sm
    ·cases h:st
     ·rfl
     ·obtain ⟨j,hj,h2⟩:=(unhide HST).1 h
      have hk64:k=64:=by
       refine Classical.byContradiction fun hn=>hgo ⟨rfl,by omega⟩
      have:=(unhide hsm).2 ⟨j,by omega,h2⟩
      cases this
    ·obtain ⟨j,hj,h2⟩:=(unhide hsm).1 rfl
     exact ((unhide HST).2 ⟨j,by omega,h2⟩).symm
   subst hsf
   clear hsm HST
   have R3:Hid (LsB wr lb (.slice la L.length lc) us L):=(show LsB w2 lb (.slice la L.length lc) us L from unhide R2).later (unhide hb)
   have B3:Hid (Below w.heap.size w wr):=(unhide B2).trans ((unhide hb).mono (unhide B2).size)
   have RR3:=hide (unhide R3).2.rows
   clear hb R2 B2 QM
   cases sm
   ·have hlt:¬ k < 64:=fun h=>hgo ⟨rfl,h⟩
    have hki:¬ (k:Int) < 64:=by omega
    clear hgo
    go_upto_region 11 with (first
     |(go_at_call 25;(with_reducible refine (unhide QT _ _ L (.inl rfl) (unhide RR3)).mono ?_);rintro e5 w5 ⟨rfl,hb5⟩;have R5:=hide ((unhide R3).later hb5);have B5:=hide ((unhide B3).trans (hb5.mono (unhide B3).size));clear hb5 R3 B3;simp only [])
     |(go_at_call 20;(with_reducible refine (unhide QK _ (unhide B5)).mono ?_);rintro e6 w6 ⟨n,f,rfl,hP,hb6⟩;have HP:=hide hP;have R6:=hide ((unhide R5).later hb6);have B6:=hide ((unhide B5).trans (hb6.mono (unhide B5).size));clear hP hb6 R5 B5 QK;simp only []))
    by_cases hf:f=0
    ·subst hf
     clear QS QH QC2 HMT
     go_wp2
     go_loopw [15,16] (fun ov iv wq=>∃ (j:Nat),j ≤ L.length∧iv=.int .i64 ((L.length:Int) - 1 - j)∧Hid (wq.ownsRow w6.heap.size 43 1 ov j (us.reverse.take j))∧Hid (Below w6.heap.size w6 wq)) (fun _ iv _=>(intOf iv + 1).toNat)
     case atStart=>exact ⟨0,Nat.zero_le _,by go_num,World.ownsRow_nil _ _ _ _,Below.refl _ _⟩
     case round=>
      obtain ⟨j,hjl,rfl,hown,hbq⟩:=hrel
      have hul:=(unhide R6).2.len
      obtain ⟨oa,oc,hov⟩:=own_shape (unhide hown)
      subst hov
      have sb:=(unhide hbq).size
      by_cases hlt:j < L.length
      ·have ea:=unhide HLA (by omega)
       subst ea
       obtain ⟨q,hq⟩:∃ q:Nat,q=L.length - 1 - j:=⟨_,rfl⟩
       have hqi:(L.length:Int) - 1 - j=(q:Int):=by omega
       rw [hqi]
       have hqu:q < us.length:=by omega
       clear hq
       have ck:=cell_later ((unhide R6).1 q hqu) (unhide hbq)
       obtain ⟨ai,ci,bi,hu,-⟩:=(unhide R6).2.row q hqu
       have HT:Hid (us.reverse.take (j + 1)=us.reverse.take j ++ [us[q]]):=by
        have:=rev_take (us:=us) (j:=j) (by omega)
        have e:us.length - 1 - j=q:=by omega
        simp only [e] at this
        exact this
       rw [hu] at ck HT
       clear hu
       generalize (L[q]'(by omega)).length=cl at *
       have hq20:q < 20:=by omega
       go_wp2_with (at_builtin;refine wpList_append_own_at _ rfl _ _ 32 rfl w6.heap.size 43 j0 (.slice none 0 0) 1 24 Tryz.underlying32 hj hy0 hy1 hy2 rfl (by decide) _ _ _ rfl ((unhide hown).alloc _) ⟨wr.heap.size,0,none⟩ 1 1 [.slice ai _ ci] rfl rfl (cell_one_new _ _ _) (by simp [Value.oneCell']) (by unfold maxLen;omega) (by omega) (by simp;omega) ?_)
       intro ov' w9 hown' hgrow _ hat
       have O9:Hid (w9.ownsRow w6.heap.size 43 1 ov' (j + 1) (us.reverse.take (j + 1))):=by
        unfold Hid;rw [unhide HT];exact hown'
       have B9:Hid (Below w6.heap.size w6 w9):=((unhide hbq).alloc sb _).grown hgrow (by simp;omega) (fun k hk=>((unhide hown).lt k hk).1)
       clear hown' hgrow hat
       go_wp2
       go_roundw
       case rel=>exact ⟨j + 1,by omega,by go_num,O9,B9⟩
       case measure=>simp [intOf]
      ·obtain rfl:j=L.length:=by omega
       have hqi:(L.length:Int) - 1 - (L.length:Nat)=-1:=by omega
       rw [hqi]
       have RR:Hid (Ls wr (.slice oa L.length oc) us.reverse L.reverse):=by
        have h1:=unhide hown
        rw [List.take_of_length_le (by simp;omega)] at h1
        have e:L.length=us.length:=by omega
        refine ((unhide R6).2.later (unhide hbq)).rev (B:=w6.heap.size) (te:=43) ?_
        rw [← e];exact h1
       have BQ:Hid (Below w.heap.size w wr):=(unhide B6).trans ((unhide hbq).mono (unhide B6).size)
       clear hown hbq R6 B6
       go_upto_region 18 with (first
        |(go_at_call 25;(with_reducible refine (unhide QT _ _ L.reverse (.inr (.inl rfl)) (unhide RR).rows).mono ?_);rintro e12 w12 ⟨rfl,hb12⟩;have B12:=hide ((unhide BQ).trans (hb12.mono (unhide BQ).size));clear hb12 BQ;simp only [])
        |(go_at_call 20;(with_reducible refine (unhide QK2 _ (unhide B12)).mono ?_);rintro e13 w13 ⟨n',f',rfl,hP',hb13⟩;have HP':=hide hP';have B13:=hide ((unhide B12).trans (hb13.mono (unhide B12).size));clear hP' hb13 B12;simp only []))
       obtain ⟨rfl,rfl⟩:=unhide HPP _ _ _ _ (unhide HP) (unhide HP')
       go_wp2
       go_ret
       exact ⟨rfl,unhide B13⟩
    ·have hmf:mt=false:=by
      cases h:mt
      ·rfl
      ·cases (unhide HMT h)
     subst hmf
     clear HMT HPP HP0 HP QK2
     go_upto_region 20 with (go_at_call 17;(with_reducible refine (unhide QS _ (unhide B6)).mono ?_);rintro e7 w7 ⟨xa,xn,xc,p,rfl,hb7⟩;have A7:=hide (And.intro ((unhide B6).trans (hb7.mono (unhide B6).size)) ((unhide R6).later hb7));clear hb7 QS B6 R6;simp only [cond_true,cond_false])
     obtain ⟨c0,_,h8⟩:=three (w:=w7) (x:=.int .i64 2) (y:=.slice xa xn xc) (z:=.string p) (t:=28)
     have A8:=hide (And.intro ((unhide A7).1.trans (h8.mono (unhide A7).1.size)) ((unhide A7).2.later h8))
     clear h8 A7
     generalize w7.alloc (.cells #[.int .i64 2,.slice xa xn xc,.string p] 28)=w8 at *
     generalize w7.heap.size=a8 at *
     go_upto_region 23 with (at_builtin;refine wpList_append_any _ rfl _ _ 32 rfl w8.heap.size 43 j0 (.slice none 0 0) 1 24 Tryz.underlying32 hj hy0 hy1 hy2 rfl (by decide) _ 0 [] rfl (World.ownsRow_lit _ _ _ (Nat.le_refl _) (Nat.zero_le _) rfl) _ us.length us rfl (((unhide A8).2.later ((Below.refl _ _).alloc (Nat.le_refl _) _)).2.src) (by simp) (unhide A8).2.2.one (by have:=(unhide A8).2.2.len;unfold maxLen;omega) (by have:=(unhide A8).2.2.len;omega) (by simp) ?_;intro v9 w9 hA)
     have O9:Hid (w9.ownsRow w8.heap.size 43 1 v9 us.length us):=by
      have:=hA.own
      unfold Hid;simpa using this
     have B9:Hid (Below w8.heap.size w8 w9):=((Below.refl _ _).alloc (Nat.le_refl _) _).grown hA.grew (by simp) (fun k hk=>by cases hk;exact Nat.le_refl _)
     clear hA c0
     obtain ⟨aa,ac,hv9⟩:=own_shape (unhide O9)
     subst hv9
     have W9:Hid (Below w.heap.size w w9):=(unhide A8).1.trans ((unhide B9).mono (unhide A8).1.size)
     have QC3:=hide (unhide QC2 w9 (unhide W9))
     clear QC2
     go_upto_region 24 with (first
      |(go_at_call 23;(with_reducible refine (unhide QC3).mono ?_);rintro e10 w10 ⟨mv,ms,rfl,hO,hb10⟩;have RM:=hide hO;have B10:=hide hb10;have O10:=hide (own_later (unhide O9) hb10);clear hO hb10 QC3;simp only [])
      |(at_builtin;refine wpList_append_any _ rfl _ _ 32 rfl w8.heap.size 43 j0 (.slice none 0 0) 1 24 Tryz.underlying32 hj hy0 hy1 hy2 rfl (by decide) _ us.length us rfl (unhide O10) _ ms.length ms rfl (ls_mem (unhide RM)).src (by simp) (ls_mem (unhide RM)).one (by have:=(unhide A8).2.2.len;have:=(unhide RM).len;unfold maxLen;omega) (by have:=(unhide A8).2.2.len;have:=(unhide RM).len;omega) (by have:=(unhide B9).size;have:=(unhide B10).size;omega) ?_;intro v11 w11 hA))
     have W10:Hid (Below w8.heap.size w8 w10):=(unhide B9).trans ((unhide B10).mono (unhide B9).size)
     have W11:Hid (Below w8.heap.size w8 w11):=(unhide W10).grown hA.grew (unhide W10).size (fun k hk=>((unhide O10).lt k hk).1)
     have RM2:=hide (mem_grown (unhide RM) hA.grew fun k hk=>((unhide O9).lt k hk).2)
     have R11:Hid (Ls w11 v11 (us ++ ms) (L ++ M)):=Ls.app ((unhide A8).2.later (unhide W11)).2 (ls_mem (unhide RM2)) hA.own
     have B11:Hid (Below w.heap.size w w11):=(unhide A8).1.trans ((unhide W11).mono (unhide A8).1.size)
     clear hA RM RM2 O9 O10 B9 B10 W9 W10 W11 A8
     go_wp2_with (first
      |(go_at_call 25;(with_reducible refine (unhide QT _ _ (L ++ M) (.inr (.inr rfl)) (unhide R11).rows).mono ?_);rintro e12 w12 ⟨rfl,hb12⟩;have B12:=hide ((unhide B11).trans (hb12.mono (unhide B11).size));clear hb12 B11;simp only [])
      |(go_at_call 19;(with_reducible refine (unhide QH _ (unhide B12)).mono ?_);rintro e13 w13 ⟨rfl,hb13⟩;have B13:=hide ((unhide B12).trans (hb13.mono (unhide B12).size));clear hb13 B12;simp only []))
     go_ret
     exact ⟨rfl,unhide B13⟩
   ·clear hgo
    by_cases hlt:k < 64
    ·have hki:(k:Int) < 64:=by omega
     go_upto_region 11 with (first
      |(go_at_call 25;(with_reducible refine (unhide QT _ _ L (.inl rfl) (unhide RR3)).mono ?_);rintro e5 w5 ⟨rfl,hb5⟩;have R5:=hide ((unhide R3).later hb5);have B5:=hide ((unhide B3).trans (hb5.mono (unhide B3).size));clear hb5 R3 B3;simp only [])
      |(go_at_call 20;(with_reducible refine (unhide QK _ (unhide B5)).mono ?_);rintro e6 w6 ⟨n,f,rfl,hP,hb6⟩;have HP:=hide hP;have R6:=hide ((unhide R5).later hb6);have B6:=hide ((unhide B5).trans (hb6.mono (unhide B5).size));clear hP hb6 R5 B5 QK;simp only []))
     have hf:¬ f=0:=fun e=>by
      subst e
      cases (unhide HP0 _ (unhide HP))
     clear HMT HPP HP0 HP QK2
     go_upto_region 20 with (go_at_call 17;(with_reducible refine (unhide QS _ (unhide B6)).mono ?_);rintro e7 w7 ⟨xa,xn,xc,p,rfl,hb7⟩;have A7:=hide (And.intro ((unhide B6).trans (hb7.mono (unhide B6).size)) ((unhide R6).later hb7));clear hb7 QS B6 R6;simp only [cond_true,cond_false])
     obtain ⟨c0,_,h8⟩:=three (w:=w7) (x:=.int .i64 1) (y:=.slice xa xn xc) (z:=.string p) (t:=28)
     have A8:=hide (And.intro ((unhide A7).1.trans (h8.mono (unhide A7).1.size)) ((unhide A7).2.later h8))
     clear h8 A7
     generalize w7.alloc (.cells #[.int .i64 1,.slice xa xn xc,.string p] 28)=w8 at *
     generalize w7.heap.size=a8 at *
     go_upto_region 23 with (at_builtin;refine wpList_append_any _ rfl _ _ 32 rfl w8.heap.size 43 j0 (.slice none 0 0) 1 24 Tryz.underlying32 hj hy0 hy1 hy2 rfl (by decide) _ 0 [] rfl (World.ownsRow_lit _ _ _ (Nat.le_refl _) (Nat.zero_le _) rfl) _ us.length us rfl (((unhide A8).2.later ((Below.refl _ _).alloc (Nat.le_refl _) _)).2.src) (by simp) (unhide A8).2.2.one (by have:=(unhide A8).2.2.len;unfold maxLen;omega) (by have:=(unhide A8).2.2.len;omega) (by simp) ?_;intro v9 w9 hA)
     have O9:Hid (w9.ownsRow w8.heap.size 43 1 v9 us.length us):=by
      have:=hA.own
      unfold Hid;simpa using this
     have B9:Hid (Below w8.heap.size w8 w9):=((Below.refl _ _).alloc (Nat.le_refl _) _).grown hA.grew (by simp) (fun k hk=>by cases hk;exact Nat.le_refl _)
     clear hA c0
     obtain ⟨aa,ac,hv9⟩:=own_shape (unhide O9)
     subst hv9
     have W9:Hid (Below w.heap.size w w9):=(unhide A8).1.trans ((unhide B9).mono (unhide A8).1.size)
     have QC3:=hide (unhide QC2 w9 (unhide W9))
     clear QC2
     go_upto_region 24 with (first
      |(go_at_call 23;(with_reducible refine (unhide QC3).mono ?_);rintro e10 w10 ⟨mv,ms,rfl,hO,hb10⟩;have RM:=hide hO;have B10:=hide hb10;have O10:=hide (own_later (unhide O9) hb10);clear hO hb10 QC3;simp only [])
      |(at_builtin;refine wpList_append_any _ rfl _ _ 32 rfl w8.heap.size 43 j0 (.slice none 0 0) 1 24 Tryz.underlying32 hj hy0 hy1 hy2 rfl (by decide) _ us.length us rfl (unhide O10) _ ms.length ms rfl (ls_mem (unhide RM)).src (by simp) (ls_mem (unhide RM)).one (by have:=(unhide A8).2.2.len;have:=(unhide RM).len;unfold maxLen;omega) (by have:=(unhide A8).2.2.len;have:=(unhide RM).len;omega) (by have:=(unhide B9).size;have:=(unhide B10).size;omega) ?_;intro v11 w11 hA))
     have W10:Hid (Below w8.heap.size w8 w10):=(unhide B9).trans ((unhide B10).mono (unhide B9).size)
     have W11:Hid (Below w8.heap.size w8 w11):=(unhide W10).grown hA.grew (unhide W10).size (fun k hk=>((unhide O10).lt k hk).1)
     have RM2:=hide (mem_grown (unhide RM) hA.grew fun k hk=>((unhide O9).lt k hk).2)
     have R11:Hid (Ls w11 v11 (us ++ ms) (L ++ M)):=Ls.app ((unhide A8).2.later (unhide W11)).2 (ls_mem (unhide RM2)) hA.own
     have B11:Hid (Below w.heap.size w w11):=(unhide A8).1.trans ((unhide W11).mono (unhide A8).1.size)
     clear hA RM RM2 O9 O10 B9 B10 W9 W10 W11 A8
     go_wp2_with (first
      |(go_at_call 25;(with_reducible refine (unhide QT _ _ (L ++ M) (.inr (.inr rfl)) (unhide R11).rows).mono ?_);rintro e12 w12 ⟨rfl,hb12⟩;have B12:=hide ((unhide B11).trans (hb12.mono (unhide B11).size));clear hb12 B11;simp only [])
      |(go_at_call 19;(with_reducible refine (unhide QH _ (unhide B12)).mono ?_);rintro e13 w13 ⟨rfl,hb13⟩;have B13:=hide ((unhide B12).trans (hb13.mono (unhide B12).size));clear hb13 B12;simp only []))
     go_ret
     exact ⟨rfl,unhide B13⟩
    ·have hki:¬ (k:Int) < 64:=by omega
     go_upto_region 11 with (first
      |(go_at_call 25;(with_reducible refine (unhide QT _ _ L (.inl rfl) (unhide RR3)).mono ?_);rintro e5 w5 ⟨rfl,hb5⟩;have R5:=hide ((unhide R3).later hb5);have B5:=hide ((unhide B3).trans (hb5.mono (unhide B3).size));clear hb5 R3 B3;simp only [])
      |(go_at_call 20;(with_reducible refine (unhide QK _ (unhide B5)).mono ?_);rintro e6 w6 ⟨n,f,rfl,hP,hb6⟩;have HP:=hide hP;have R6:=hide ((unhide R5).later hb6);have B6:=hide ((unhide B5).trans (hb6.mono (unhide B5).size));clear hP hb6 R5 B5 QK;simp only []))
     have hf:¬ f=0:=fun e=>by
      subst e
      cases (unhide HP0 _ (unhide HP))
     clear HMT HPP HP0 HP QK2
     go_upto_region 20 with (go_at_call 17;(with_reducible refine (unhide QS _ (unhide B6)).mono ?_);rintro e7 w7 ⟨xa,xn,xc,p,rfl,hb7⟩;have A7:=hide (And.intro ((unhide B6).trans (hb7.mono (unhide B6).size)) ((unhide R6).later hb7));clear hb7 QS B6 R6;simp only [cond_true,cond_false])
     obtain ⟨c0,_,h8⟩:=three (w:=w7) (x:=.int .i64 1) (y:=.slice xa xn xc) (z:=.string p) (t:=28)
     have A8:=hide (And.intro ((unhide A7).1.trans (h8.mono (unhide A7).1.size)) ((unhide A7).2.later h8))
     clear h8 A7
     generalize w7.alloc (.cells #[.int .i64 1,.slice xa xn xc,.string p] 28)=w8 at *
     generalize w7.heap.size=a8 at *
     go_upto_region 23 with (at_builtin;refine wpList_append_any _ rfl _ _ 32 rfl w8.heap.size 43 j0 (.slice none 0 0) 1 24 Tryz.underlying32 hj hy0 hy1 hy2 rfl (by decide) _ 0 [] rfl (World.ownsRow_lit _ _ _ (Nat.le_refl _) (Nat.zero_le _) rfl) _ us.length us rfl (((unhide A8).2.later ((Below.refl _ _).alloc (Nat.le_refl _) _)).2.src) (by simp) (unhide A8).2.2.one (by have:=(unhide A8).2.2.len;unfold maxLen;omega) (by have:=(unhide A8).2.2.len;omega) (by simp) ?_;intro v9 w9 hA)
     have O9:Hid (w9.ownsRow w8.heap.size 43 1 v9 us.length us):=by
      have:=hA.own
      unfold Hid;simpa using this
     have B9:Hid (Below w8.heap.size w8 w9):=((Below.refl _ _).alloc (Nat.le_refl _) _).grown hA.grew (by simp) (fun k hk=>by cases hk;exact Nat.le_refl _)
     clear hA c0
     obtain ⟨aa,ac,hv9⟩:=own_shape (unhide O9)
     subst hv9
     have W9:Hid (Below w.heap.size w w9):=(unhide A8).1.trans ((unhide B9).mono (unhide A8).1.size)
     have QC3:=hide (unhide QC2 w9 (unhide W9))
     clear QC2
     go_upto_region 24 with (first
      |(go_at_call 23;(with_reducible refine (unhide QC3).mono ?_);rintro e10 w10 ⟨mv,ms,rfl,hO,hb10⟩;have RM:=hide hO;have B10:=hide hb10;have O10:=hide (own_later (unhide O9) hb10);clear hO hb10 QC3;simp only [])
      |(at_builtin;refine wpList_append_any _ rfl _ _ 32 rfl w8.heap.size 43 j0 (.slice none 0 0) 1 24 Tryz.underlying32 hj hy0 hy1 hy2 rfl (by decide) _ us.length us rfl (unhide O10) _ ms.length ms rfl (ls_mem (unhide RM)).src (by simp) (ls_mem (unhide RM)).one (by have:=(unhide A8).2.2.len;have:=(unhide RM).len;unfold maxLen;omega) (by have:=(unhide A8).2.2.len;have:=(unhide RM).len;omega) (by have:=(unhide B9).size;have:=(unhide B10).size;omega) ?_;intro v11 w11 hA))
     have W10:Hid (Below w8.heap.size w8 w10):=(unhide B9).trans ((unhide B10).mono (unhide B9).size)
     have W11:Hid (Below w8.heap.size w8 w11):=(unhide W10).grown hA.grew (unhide W10).size (fun k hk=>((unhide O10).lt k hk).1)
     have RM2:=hide (mem_grown (unhide RM) hA.grew fun k hk=>((unhide O9).lt k hk).2)
     have R11:Hid (Ls w11 v11 (us ++ ms) (L ++ M)):=Ls.app ((unhide A8).2.later (unhide W11)).2 (ls_mem (unhide RM2)) hA.own
     have B11:Hid (Below w.heap.size w w11):=(unhide A8).1.trans ((unhide W11).mono (unhide A8).1.size)
     clear hA RM RM2 O9 O10 B9 B10 W9 W10 W11 A8
     go_wp2_with (first
      |(go_at_call 25;(with_reducible refine (unhide QT _ _ (L ++ M) (.inr (.inr rfl)) (unhide R11).rows).mono ?_);rintro e12 w12 ⟨rfl,hb12⟩;have B12:=hide ((unhide B11).trans (hb12.mono (unhide B11).size));clear hb12 B11;simp only [])
      |(go_at_call 19;(with_reducible refine (unhide QH _ (unhide B12)).mono ?_);rintro e13 w13 ⟨rfl,hb13⟩;have B13:=hide ((unhide B12).trans (hb13.mono (unhide B12).size));clear hb13 B12;simp only []))
     go_ret
     exact ⟨rfl,unhide B13⟩
end Kp
end Go.Proofs.YtceahffmenbibaaGreatDoor
