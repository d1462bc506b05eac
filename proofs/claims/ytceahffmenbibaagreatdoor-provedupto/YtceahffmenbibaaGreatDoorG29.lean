/- Slin Ssnk Stri Tprf. -/
import Derived.Test.YtceahffmenbibaaGreatDoorG28
import Derived.Lib.UnsafeStr
import Derived.Lib.Builder
import Derived.Laws.Externs
import Derived.Test.YtceahffmenbibaaGreatDoorG09
import Derived.Test.YtceahffmenbibaaGreatDoorG06
import Derived.Test.YtceahffmenbibaaGreatDoorG13
set_option linter.unusedVariables false
set_option linter.unusedSimpArgs false
namespace Go.Proofs.YtceahffmenbibaaGreatDoor
namespace So
open Go Go.RowKit Go.Deep Rd Go.Lib
variable {Z:Nat→Prop} {sb K:Nat} {w w':World} {f V:Nat→Value} {X:Nat→List Value}
theorem Fam.longer {B:Nat} (h:Fam 0 w K famT V X) (hk:12 < K) {v':Value} {w6:World} {news:List Value} (A:Longer w (V 12) (X 12).length (X 12) news v' w6):Fam 0 w6 K famT (upd V 12 v') (upd X 12 (X 12 ++ news)) where
 own:=fun i hi=>by
  by_cases e:i=12
  ·subst e
   rw [upd_self,upd_self,List.length_append]
   exact A.own
  ·rw [upd_other _ _ e,upd_other _ _ e]
   exact (h.own i hi).kept A.grew (h.apart i 12 hi hk e)
 apart:=fun i j hi hj hij=>by
  by_cases e:i=12
  ·subst e
   rw [upd_self,upd_other _ _ (fun e=>hij e.symm)]
   rcases A.at' with h1 | ⟨g,hg,h1⟩
   ·rw [h1];exact h.apart 12 j hi hj hij
   ·rw [h1]
    refine .inr fun h2=>?_
    have:=((h.own j hj).lt _ h2.symm).2
    omega
  ·rw [upd_other _ _ e]
   by_cases e2:j=12
   ·subst e2
    rw [upd_self]
    rcases A.at' with h1 | ⟨g,hg,h1⟩
    ·rw [h1];exact h.apart i 12 hi hj hij
    ·rw [h1]
     cases hb:(V i).ownBlock with
     | none=>exact .inl rfl
     | some g2=>
      refine .inr fun h2=>?_
      have:=((h.own i hi).lt _ hb).2
      have:=Option.some.inj h2
      omega
   ·rw [upd_other _ _ e2];exact h.apart i j hi hj hij
end So
end Go.Proofs.YtceahffmenbibaaGreatDoor
namespace Go.Proofs.YtceahffmenbibaaGreatDoor
namespace So
open Go Go.RowKit Go.Deep Rd
structure Snk (Z:Nat→Prop) (kb:Nat) (w:World) (l:List UInt8):Prop where
 ex:∃ f:Nat→Value,w.rowIs kb 111 2 f∧(f 0=.pointer none∨f 0=.pointer (some ⟨kb,0,none⟩))∧w.ownsRow 0 5 1 (f 1) l.length (bytesV l)∧∀ g,(f 1).ownBlock=some g→Z g
 zk:Z kb
 az:∀ g,w.heap.size ≤ g→Z g
variable {Z:Nat→Prop} {kb:Nat} {w w':World} {l:List UInt8}
theorem bytesV_len (l:List UInt8):(bytesV l).length=l.length:=by simp [bytesV]
theorem bytesV_append (a b:List UInt8):bytesV (a ++ b)=bytesV a ++ bytesV b:=by simp [bytesV]
theorem Snk.far {f:Nat→Value} (hr:w.rowIs kb 111 2 f) {v:Value} {xs:List Value} {n:Nat} (ho:w.ownsRow 0 5 1 v n xs):∀ g,v.ownBlock=some g→g ≠ kb:=fun g hg e=>by
 obtain ⟨c,h1,_⟩:=hr
 subst e
 exact Lib.ownBlock_ne ho h1 (by decide) hg
theorem Snk.rez {Z':Nat→Prop} (h:Snk Z kb w l) (h1:∀ g,g < w.heap.size→Z g→Z' g) (h2:∀ g,w.heap.size ≤ g→Z' g):Snk Z' kb w l:=by
 obtain ⟨f,a,b,c,d⟩:=h.ex
 exact ⟨⟨f,a,b,c,fun g hg=>h1 g (c.lt g hg).2 (d g hg)⟩,h1 kb a.lt h.zk,h2⟩
theorem Snk.kept (h:Snk Z kb w l) {Z':Nat→Prop} (hc:Chg Z' w w') (hd:∀ g,g < w.heap.size→Z g→¬ Z' g):Snk Z kb w' l:=by
 obtain ⟨f,a,b,c,d⟩:=h.ex
 exact ⟨⟨f,a.of_block (hc.block _ a.lt (hd kb a.lt h.zk)),b,ownB c fun g hg=>hc.block g (c.lt g hg).2 (hd g (c.lt g hg).2 (d g hg)),d⟩,h.zk,fun g hg=>h.az g (Nat.le_trans hc.size hg)⟩
theorem Snk.later (h:Snk Z kb w l) (hb:Below w.heap.size w w'):Snk Z kb w' l:=
 h.kept (Z':=fun _=>False) (Chg.of_below hb) fun _ _ _ h=>h
theorem Snk.lt (h:Snk Z kb w l):kb < w.heap.size:=by obtain ⟨f,a,_⟩:=h.ex;exact a.lt
theorem row_shape {T:TypeId} {n b:Nat} {f:Nat→Value} (h:w.rowIs b T n f):w.shape? b=some (T,n):=by
 obtain ⟨c,h1,h2,_⟩:=h
 unfold World.shape?;rw [h1];simp [h2]
theorem sizeBuilder:(Tryz.prog.info? 109).map (·.size)=some 2:=by kernel_rfl
theorem liesBuilder:liesAt Tryz.prog Tryz.prog.depth 111 (2 / Tryz.prog.cellsOf 111) 0 109 1=true:=by kernel_rfl
set_option maxHeartbeats 2000000 in
set_option maxRecDepth 100000 in
theorem copyCheck_used (h0:w.cell? ⟨kb,0,none⟩=some (.pointer (some ⟨kb,0,none⟩))):
  Calls Tryz.prog 275 #[.pointer (some ⟨kb,0,none⟩)] w fun e w'=>e=.returned (.tuple #[])∧w'=w:=by
 obtain ⟨j,hj,_⟩:=Option.map_eq_some_iff.1 sizeBuilder
 go_enter Tryz.func275,Tryz.ntmps275
 go_wp2
 rw [Lib.run_neq_ptr_same w _ Tryz.underlying106 hj]
 go_wp2
 go_end0
 exact ⟨rfl,rfl⟩
set_option maxHeartbeats 2000000 in
set_option maxRecDepth 100000 in
theorem copyCheck_fresh (h0:w.cell? ⟨kb,0,none⟩=some (.pointer none)) (hsh:w.shape? kb=some (111,2)) (hfz:w.frozen? ⟨kb,0,none⟩=false):
  Calls Tryz.prog 275 #[.pointer (some ⟨kb,0,none⟩)] w fun e w'=>e=.returned (.tuple #[])∧w'=w.setCell ⟨kb,0,none⟩ (.pointer (some ⟨kb,0,none⟩)):=by
 obtain ⟨j,hj,hjs⟩:=Option.map_eq_some_iff.1 sizeBuilder
 go_enter Tryz.func275,Tryz.ntmps275
 go_wp2
 rw [Lib.run_to_unsafe w ⟨kb,0,none⟩ Tryz.underlying106 Tryz.underlying291 hj (by rw [hjs];decide) hsh (Nat.zero_lt_succ 1)]
 simp only [Result.andThen]
 rw [Oper.upon_value]
 go_wp2
 rw [run_callFunc_extern Tryz.func276 (by kernel_rfl) (by kernel_rfl) (by kernel_rfl) (e:=Extern.AbiNoEscape.same) (by kernel_rfl)]
 rw [Lib.run_noEscape]
 simp only [Result.andThen]
 rw [Oper.upon_value]
 go_wp2
 rw [Lib.run_from_unsafe w ⟨kb,0,none⟩ Tryz.underlying291 Tryz.underlying106 hj hsh liesBuilder]
 simp only [Result.andThen]
 rw [Oper.upon_value]
 go_wp2
 go_end0
 exact ⟨rfl,rfl⟩
theorem copyCheck_any (h:Snk Z kb w l):Calls Tryz.prog 275 #[.pointer (some ⟨kb,0,none⟩)] w fun e w'=>e=.returned (.tuple #[])∧Chg Z w w'∧Snk Z kb w' l∧w'.heap.size=w.heap.size∧∀ g,g ≠ kb→w'.heap[g]? = w.heap[g]? := by
 obtain ⟨f,hr,hp,ho,ha⟩:=h.ex
 rcases hp with hp | hp
 ·have c0:=hr.cell (i:=0) (by omega)
  rw [hp] at c0
  refine (copyCheck_fresh c0 (row_shape hr) (hr.frozen 0)).mono ?_
  rintro e w' ⟨rfl,rfl⟩
  refine ⟨rfl,(Chg.refl w).setCell h.zk _,⟨⟨upd f 0 (.pointer (some ⟨kb,0,none⟩)),(hr.set 0 _).congr fun i hi=>by unfold upd;rfl,.inr (upd_self ..),?_,?_⟩,h.zk,fun g hg=>h.az g (by simpa [World.setCell] using hg)⟩,by simp [World.setCell],fun g hg=>Below.heap_setCell _ _ _ _ (by simpa using hg)⟩
  ·rw [upd_other _ _ (by decide)]
   exact ownB ho fun g hg=>Below.heap_setCell _ _ _ _ (by simpa using Snk.far hr ho g hg)
  ·rw [upd_other _ _ (by decide)];exact ha
 ·have c0:=hr.cell (i:=0) (by omega)
  rw [hp] at c0
  refine (copyCheck_used c0).mono ?_
  rintro e w' ⟨rfl,rfl⟩
  exact ⟨rfl,Chg.refl _,h,rfl,fun _ _=>rfl⟩
theorem Snk.push (h:Snk Z kb w l) {f:Nat→Value} (hr:w.rowIs kb 111 2 f) (hp:f 0=.pointer none∨f 0=.pointer (some ⟨kb,0,none⟩)) (ho:w.ownsRow 0 5 1 (f 1) l.length (bytesV l)) (ha:∀ g,(f 1).ownBlock=some g→Z g) {bs:List UInt8} {v':Value} {w6:World} (A:Appended w 0 5 1 (f 1) l.length (bytesV l) bs.length (bytesV bs) v' w6):
  Snk Z kb (w6.setCell ⟨kb,1,none⟩ v') (l ++ bs)∧Chg Z w (w6.setCell ⟨kb,1,none⟩ v')∧(∀ j,j < 2→w6.cell? ⟨kb,j,none⟩=some (f j))∧w6.frozen? ⟨kb,1,none⟩=false:=by
 have hr6:=hr.of_block (A.grew.block kb hr.lt fun e=>Snk.far hr ho kb e.symm rfl)
 have hf6:=Snk.far hr6 A.own
 refine ⟨⟨⟨upd f 1 v',(hr6.set 1 _).congr fun i hi=>by unfold upd;rfl,by rw [upd_other _ _ (by decide)];exact hp,?_,?_⟩,h.zk,fun g hg=>h.az g (by have:=A.grew.size;simp [World.setCell] at hg;omega)⟩,((Chg.refl w).grown A.grew fun g hg=>ha g hg).setCell h.zk _,fun j hj=>hr6.cell hj,hr6.frozen 1⟩
 ·rw [upd_self,List.length_append,bytesV_append]
  exact ownB A.own fun g hg=>Below.heap_setCell _ _ _ _ (by simpa using hf6 g hg)
 ·rw [upd_self]
  intro g hg
  rcases A.at' with h1 | h1
  ·rw [h1] at hg;exact ha g hg
  ·rw [h1] at hg
   have:=Option.some.inj hg
   exact h.az g (by omega)
set_option maxHeartbeats 2000000 in
set_option maxRecDepth 100000 in
theorem builderWrite_any (h:Snk Z kb w l) (lb c:Nat) (bs:List UInt8) (hlb:lb ≠ kb) (hsrc:∀ j (hj:j < bs.length),w.cell? ⟨lb,j,none⟩=some (.int .u8 (bs[j]).toNat)) (hlen:l.length + bs.length ≤ 140737488355328):
  Calls Tryz.prog 274 #[.pointer (some ⟨kb,0,none⟩),.slice (some ⟨lb,0,none⟩) bs.length c] w fun e w'=>e=.returned (.tuple #[.int .i64 (bs.length:Nat),.nilIface])∧Chg Z w w'∧Snk Z kb w' (l ++ bs):=by
 obtain ⟨i0,hi,hz0,hz1,hz2⟩:=info_parts Tryz.infoByte9
 have QC:=hide (copyCheck_any h)
 have AFT:Hid (∀ w1,Snk Z kb w1 l→(∀ g,g ≠ kb→w1.heap[g]? = w.heap[g]?)→∃ v:Value,w1.cell? ⟨kb,1,none⟩=some v∧w1.ownsRow 0 5 1 v l.length (bytesV l)∧Src w1 (.slice (some ⟨lb,0,none⟩) bs.length c) bs.length (bytesV bs)∧∀ v' w6,Appended w1 0 5 1 v l.length (bytesV l) bs.length (bytesV bs) v' w6→Snk Z kb (w6.setCell ⟨kb,1,none⟩ v') (l ++ bs)∧Chg Z w1 (w6.setCell ⟨kb,1,none⟩ v')∧(∃ u,w6.cell? ⟨kb,1,none⟩=some u)∧w6.frozen? ⟨kb,1,none⟩=false):=fun w1 h1 hh=>by
  obtain ⟨f,hr,hp,ho,ha⟩:=h1.ex
  refine ⟨f 1,hr.cell (by omega),ho,.inr ⟨⟨lb,0,none⟩,c,rfl,fun j u hu=>?_⟩,fun v' w6 A=>?_⟩
  ·have hj:j < bs.length:=by
    rcases Nat.lt_or_ge j bs.length with g | g
    ·exact g
    ·rw [List.getElem?_eq_none (by rw [bytesV_len];exact g)] at hu;cases hu
   have:(bytesV bs)[j]? = some (.int .u8 (bs[j]).toNat):=by simp [bytesV,hj]
   rw [this] at hu
   obtain rfl:=Option.some.inj hu
   rw [show (Addr.add ⟨lb,0,none⟩ j:Addr)=⟨lb,j,none⟩ by by_cases hj0:j=0 <;> simp [Addr.add,hj0],World.cell?_of_block (w:=w) (a:=⟨lb,j,none⟩) (hh lb hlb)]
   exact hsrc j hj
  ·obtain ⟨a,b,c',d⟩:=h1.push hr hp ho ha A
   exact ⟨a,b,⟨_,c' 1 (by omega)⟩,d⟩
 have bl:(bytesV bs).length=bs.length * 1:=by rw [bytesV_len];omega
 have one:∀ u ∈ bytesV bs,u.oneCell'=true:=fun u hu=>by
  unfold bytesV at hu
  obtain ⟨y,_,rfl⟩:=List.mem_map.1 hu
  rfl
 clear h hsrc
 go_enter Tryz.func274,Tryz.ntmps274
 go_wp2_with (first | (go_at_call 275;refine (unhide QC).mono ?_;rintro e1 w1 ⟨rfl,hc1,hs1,-,hh1⟩;obtain ⟨v1,q1,o1,sr1,af1⟩:=unhide AFT w1 hs1 hh1;have C1:=hide hc1;have O1:=hide o1;have SR:=hide sr1;have AF:=hide af1;clear hc1 hs1 hh1 o1 sr1 af1;obtain ⟨va1,vc1,hv1⟩:=own_shape (unhide O1);subst hv1;simp only []) | (at_builtin;refine wpList_append_any _ rfl _ _ 107 rfl 0 5 i0 (.int .u8 0) 1 1 Tryz.underlying107 hi hz0 hz1 hz2 rfl (by decide) _ _ _ rfl (unhide O1) (.slice (some ⟨lb,0,none⟩) bs.length c) bs.length (bytesV bs) rfl (unhide SR) bl one (by unfold maxLen;omega) (by omega) (Nat.zero_le _) ?_))
 intro v6 w6 A6
 obtain ⟨s6,c6,⟨u6,q6⟩,z6⟩:=unhide AF v6 w6 A6
 have F:Hid (Chg Z w (w6.setCell ⟨kb,1,none⟩ v6)∧Snk Z kb (w6.setCell ⟨kb,1,none⟩ v6) (l ++ bs)):=⟨(unhide C1).trans c6,s6⟩
 obtain ⟨va6,vc6,hv6⟩:=own_shape A6.own
 subst hv6
 clear A6 s6 c6 q1 O1 SR AF
 go_wp2
 go_ret2
 exact ⟨rfl,(unhide F).1,(unhide F).2⟩
set_option maxHeartbeats 2000000 in
theorem wholeWrite_any (h:Snk Z kb w l) (lb c:Nat) (bs:List UInt8) (hlb:lb ≠ kb) (hsrc:∀ j (hj:j < bs.length),w.cell? ⟨lb,j,none⟩=some (.int .u8 (bs[j]).toNat)) (hlen:l.length + bs.length ≤ 140737488355328):
  Calls Tryz.prog 273 #[.pointer (some ⟨kb,0,none⟩),.slice (some ⟨lb,0,none⟩) bs.length c] w fun e w'=>e=.returned (.tuple #[.int .i64 (bs.length:Nat),.nilIface])∧Chg Z w w'∧Snk Z kb w' (l ++ bs):=by
 have QW:=hide (builderWrite_any h lb c bs hlb hsrc hlen)
 clear h hsrc
 go_enter Tryz.func273,Tryz.ntmps273
 go_wp2_with (go_at_call 274;refine (unhide QW).mono ?_;rintro e1 w1 ⟨rfl,hc1,hs1⟩;have C1:=hide hc1;have S1:=hide hs1;clear hc1 hs1;simp only [])
 go_ret2
 exact ⟨rfl,unhide C1,unhide S1⟩
end So
end Go.Proofs.YtceahffmenbibaaGreatDoor
namespace Go.Proofs.YtceahffmenbibaaGreatDoor
namespace So
open Go Go.RowKit Go.Deep Rd
variable {Z:Nat→Prop} {sb ob hb kb K n:Nat} {w w':World} {f f' V V':Nat→Value} {X X':Nat→List Value} {gone gone':Nat→Prop} {Rs Ro Rs' Ro' Rd Rk:Nat→Prop} {l l':List UInt8}
theorem Duo.rez {Z':Nat→Prop} (h:Duo Z sb ob hb n w K f V X gone Rs Ro) (h1:∀ g,g < w.heap.size→Z g→Z' g) (h2:∀ g,w.heap.size ≤ g→Z' g):Duo Z' sb ob hb n w K f V X gone Rs Ro:=
 { h with zs:=fun g hg=>h1 g (h.ls g hg) (h.zs g hg),zo:=fun g hg=>h1 g (h.lo g hg) (h.zo g hg),az:=h2 }
theorem Duo.kept2 {R:Nat→Prop} (h:Duo (zz R w) sb ob hb n w K f V X gone Rs Ro) {Z':Nat→Prop} (hc:Chg Z' w w') (hd:∀ g,g < w.heap.size→R g→¬ Z' g):Duo (zz R w') sb ob hb n w' K f V X gone Rs Ro where
 sol:=h.sol.kept2 hc fun g hg h1=>hd g hg (zz_lt hg (h.zs g h1))
 ord:=h.ord.kept2 hc fun g hg h1=>hd g hg (zz_lt hg (h.zo g h1))
 f12:=h.f12
 dis:=h.dis
 ls:=fun g h1=>Nat.lt_of_lt_of_le (h.ls g h1) hc.size
 lo:=fun g h1=>Nat.lt_of_lt_of_le (h.lo g h1) hc.size
 zs:=fun g h1=>.inl (zz_lt (h.ls g h1) (h.zs g h1))
 zo:=fun g h1=>.inl (zz_lt (h.lo g h1) (h.zo g h1))
 az:=fun g hg=>.inr hg
theorem Snk.kept2 {R:Nat→Prop} (h:Snk (zz R w) kb w l) {Z':Nat→Prop} (hc:Chg Z' w w') (hd:∀ g,g < w.heap.size→R g→¬ Z' g):Snk (zz R w') kb w' l:=by
 obtain ⟨f,a,b,c,d⟩:=h.ex
 exact ⟨⟨f,a.of_block (hc.block _ a.lt (hd kb a.lt (zz_lt a.lt h.zk))),b,ownB c fun g hg=>hc.block g (c.lt g hg).2 (hd g (c.lt g hg).2 (zz_lt (c.lt g hg).2 (d g hg))),fun g hg=>.inl (zz_lt (c.lt g hg).2 (d g hg))⟩,.inl (zz_lt h.lt h.zk),fun g hg=>.inr hg⟩
structure Tri (Z:Nat→Prop) (sb ob hb kb n:Nat) (w:World) (K:Nat) (f V:Nat→Value) (X:Nat→List Value) (gone:Nat→Prop) (l:List UInt8) (Rs Ro Rd Rk:Nat→Prop):Prop where
 duo:Duo (zz Rd w) sb ob hb n w K f V X gone Rs Ro
 snk:Snk (zz Rk w) kb w l
 dis:∀ g,Rd g→¬ Rk g
 ld:∀ g,Rd g→g < w.heap.size
 lk:∀ g,Rk g→g < w.heap.size
 zd:∀ g,Rd g→Z g
 zk:∀ g,Rk g→Z g
 az:∀ g,w.heap.size ≤ g→Z g
theorem Tri.zall (h:Tri Z sb ob hb kb n w K f V X gone l Rs Ro Rd Rk) {R:Nat→Prop} (hR:∀ g,R g→Z g):∀ g,zz R w g→Z g:=fun g hg=>by
 rcases hg with h1 | h1
 ·exact hR g h1
 ·exact h.az g h1
theorem Tri.stepD (h:Tri Z sb ob hb kb n w K f V X gone l Rs Ro Rd Rk) (hd:Duo (zz Rd w) sb ob hb n w' K f' V' X' gone' Rs' Ro') (hc:Chg (zz Rd w) w w'):
  Tri Z sb ob hb kb n w' K f' V' X' gone' l Rs' Ro' (fun g=>zz Rd w g∧g < w'.heap.size) Rk∧Chg Z w w':=by
 refine ⟨{
  duo:=hd.rez (fun g h1 h2=>.inl ⟨h2,h1⟩) (fun g hg=>.inr hg)
  snk:=h.snk.kept2 hc fun g hg h1 h2=>h.dis g (zz_lt hg h2) h1
  dis:=fun g h1 h2=>h.dis g (zz_lt (h.lk g h2) h1.1) h2
  ld:=fun g h1=>h1.2
  lk:=fun g h1=>Nat.lt_of_lt_of_le (h.lk g h1) hc.size
  zd:=fun g h1=>h.zall h.zd g h1.1
  zk:=h.zk
  az:=fun g hg=>h.az g (Nat.le_trans hc.size hg) },hc.mono fun g _ h1=>h.zall h.zd g h1⟩
theorem Tri.stepS (h:Tri Z sb ob hb kb n w K f V X gone l Rs Ro Rd Rk) (hs:Sol (zz Rs w) sb w' K f' V' X') (hc:Chg (zz Rs w) w w') (hf:f' 12=f 12):
  Tri Z sb ob hb kb n w' K f' V' X' gone l (fun g=>zz Rs w g∧g < w'.heap.size) Ro (fun g=>zz Rd w g∧g < w'.heap.size) Rk∧Chg Z w w':=by
 obtain ⟨d1,d2⟩:=h.duo.stepS hs hc hf
 exact h.stepD d1 d2
theorem Tri.stepO (h:Tri Z sb ob hb kb n w K f V X gone l Rs Ro Rd Rk) (ho:OrdI (zz Ro w) ob hb n w' gone') (hc:Chg (zz Ro w) w w'):
  Tri Z sb ob hb kb n w' K f V X gone' l Rs (fun g=>zz Ro w g∧g < w'.heap.size) (fun g=>zz Rd w g∧g < w'.heap.size) Rk∧Chg Z w w':=by
 obtain ⟨d1,d2⟩:=h.duo.stepO ho hc
 exact h.stepD d1 d2
theorem Tri.stepK (h:Tri Z sb ob hb kb n w K f V X gone l Rs Ro Rd Rk) (hs:Snk (zz Rk w) kb w' l') (hc:Chg (zz Rk w) w w'):
  Tri Z sb ob hb kb n w' K f V X gone l' Rs Ro Rd (fun g=>zz Rk w g∧g < w'.heap.size)∧Chg Z w w':=by
 refine ⟨{
  duo:=h.duo.kept2 hc fun g hg h1 h2=>h.dis g h1 (zz_lt hg h2)
  snk:=hs.rez (fun g h1 h2=>.inl ⟨h2,h1⟩) (fun g hg=>.inr hg)
  dis:=fun g h1 h2=>h.dis g h1 (zz_lt (h.ld g h1) h2.1)
  ld:=fun g h1=>Nat.lt_of_lt_of_le (h.ld g h1) hc.size
  lk:=fun g h1=>h1.2
  zd:=h.zd
  zk:=fun g h1=>h.zall h.zk g h1.1
  az:=fun g hg=>h.az g (Nat.le_trans hc.size hg) },hc.mono fun g _ h1=>h.zall h.zk g h1⟩
theorem Tri.later (h:Tri Z sb ob hb kb n w K f V X gone l Rs Ro Rd Rk) (hb':Below w.heap.size w w'):Tri Z sb ob hb kb n w' K f V X gone l Rs Ro Rd Rk where
 duo:=h.duo.kept2 (Z':=fun _=>False) (Chg.of_below hb') fun _ _ _ h=>h
 snk:=h.snk.kept2 (Z':=fun _=>False) (Chg.of_below hb') fun _ _ _ h=>h
 dis:=h.dis
 ld:=fun g h1=>Nat.lt_of_lt_of_le (h.ld g h1) hb'.size
 lk:=fun g h1=>Nat.lt_of_lt_of_le (h.lk g h1) hb'.size
 zd:=h.zd
 zk:=h.zk
 az:=fun g hg=>h.az g (Nat.le_trans hb'.size hg)
end So
end Go.Proofs.YtceahffmenbibaaGreatDoor
namespace Go.Proofs.YtceahffmenbibaaGreatDoor
namespace So
open Rd
theorem prof_even:∀ (n:Nat) (l:List Bool),l.length < n→prof n l % 2=0
 | 0,l,h=>by omega
 | n + 1,[],_=>rfl
 | n + 1,b :: r,h=>by
  have hr:r.length < n:=by simpa using h
  have ih:=prof_even n r hr
  obtain ⟨m,rfl⟩:∃ m,n=m + 1:=⟨n - 1,by omega⟩
  simp only [prof]
  cases b
  ·simp;omega
  ·simp only [if_true];rw [Nat.pow_succ];omega
theorem prof_learn2 {n len k:Nat} {ch:List Nat} (h:Incr ch len) {d:Nat} (hd:d < ch.length) (hl:len ≤ n) (h2:ch[d] + 1 < n) (hk:2 * k ≤ prof n (bits len ch)):2 * (k + 1) ≤ prof n (bits (ch[d] + 1) (ch.take d)):=by
 have h1:=prof_learn (n:=n) h hd hl
 have h3:=prof_even n (bits (ch[d] + 1) (ch.take d)) (by rw [bits_len];exact h2)
 omega
theorem prof_assign {n len k:Nat} {ch:List Nat} (h:∀ p ∈ ch,p < len) (hl:len < n) (hk:k ≤ prof n (bits len ch)):k ≤ prof n (bits (len + 1) ch):=by
 rw [bits_assign h]
 have:=prof_true n (bits len ch) (by rw [bits_len];exact hl)
 omega
theorem prof_choose {n len k:Nat} {ch:List Nat} (h:∀ p ∈ ch,p < len) (hk:k ≤ prof n (bits len ch)):k ≤ prof n (bits (len + 1) (ch ++ [len])):=by
 rw [bits_choose h,prof_false];exact hk
variable {n:Nat} {tr ch:List Nat} {lev:Nat→Nat} {C:Cmap} {P:Nat}
theorem conf_len (hs:SpI C tr lev P) (hu:UnI C tr lev) (ht:TrI n tr ch lev) (hc:ClI n C) {a:Nat} {c:Cls} (hC:C a=some c) (hk:c.kind ≠ 2) (hf:∀ y ∈ c.lits,op y ∈ tr):P + 2 ≤ tr.length:=by
 match e:c.lits with
 | []=>
  obtain ⟨x,h1,_⟩:=hu a c hC hk (by rw [e];simp)
  rw [e] at h1;cases h1
 | [y]=>
  obtain ⟨x,h1,h2,_⟩:=hu a c hC hk (by rw [e];simp)
  rw [e] at h1;cases h1
  exact (ht.not_both h2 (hf y (by rw [e];simp))).elim
 | p :: q :: r=>
  obtain ⟨h1,h2⟩:=hs a c p q r hC hk e
  have fp:=hf p (by rw [e];simp)
  have fq:=hf q (by rw [e];simp)
  obtain ⟨i,hi,ei⟩:=List.mem_iff_getElem.1 fp
  obtain ⟨j,hj,ej⟩:=List.mem_iff_getElem.1 fq
  have ip:P ≤ i:=by
   rcases Nat.lt_or_ge i P with g | g
   ·exact (ht.not_both (h1 i hi g ei).1 fq).elim
   ·exact g
  have jp:P ≤ j:=by
   rcases Nat.lt_or_ge j P with g | g
   ·exact (ht.not_both (h2 j hj g ej).1 fp).elim
   ·exact g
  have hv:=hc.vars a c hC
  rw [e] at hv
  have nij:i ≠ j:=fun g=>by
   subst g
   rw [ei] at ej
   have:=op_inj ej
   subst this
   simp at hv
  omega
theorem prof_more {m:Nat} {tr':List Nat} {lev':Nat→Nat} (ht:TrI n tr ch lev) (ht':TrI n tr' ch lev') (hl:tr.length ≤ tr'.length) (hk:m ≤ prof n (bits tr.length ch)):m ≤ prof n (bits tr'.length ch):=by
 have key:∀ j,tr.length + j ≤ n→m ≤ prof n (bits (tr.length + j) ch):=by
  intro j
  induction j with
  | zero=>intro _;exact hk
  | succ j ih=>
   intro hj
   have h1:∀ p ∈ ch,p < tr.length + j:=fun p hp=>by have:=ht.incr.2 p hp;omega
   have h2:tr.length + j < n:=by omega
   exact prof_assign h1 h2 (ih (by omega))
 have h1:=ht'.len
 have:=key (tr'.length - tr.length) (by omega)
 rwa [show tr.length + (tr'.length - tr.length)=tr'.length by omega] at this
def lineT (g:Bool) (c:List Nat):Bs:=(if g then [100,32] else []) ++ c.flatMap (fun x=>Lib.itoa (wr x) ++ [32]) ++ [48]
def Free (c:UInt8) (l:Bs):Prop:=∀ x ∈ l,(x == c)=false
theorem splitR_free {c:UInt8}:∀ {a:Bs},Free c a→splitR c a=[a]
 | [],_=>rfl
 | x :: a,h=>by
  unfold splitR
  rw [h x (by simp),splitR_free (a:=a) (fun y hy=>h y (by simp [hy]))];rfl
theorem splitR_at {c:UInt8}:∀ {a:Bs} (r:Bs),Free c a→splitR c (a ++ c :: r)=a :: splitR c r
 | [],r,_=>by
  show splitR c (c :: r)=_
  rw [show splitR c (c :: r)=if c == c then [] :: splitR c r else match splitR c r with | h :: t=>(c :: h) :: t | []=>[[c]] from rfl,if_pos (by simp)]
 | x :: a,r,h=>by
  show splitR c (x :: (a ++ c :: r))=_
  rw [show splitR c (x :: (a ++ c :: r))=if x == c then [] :: splitR c (a ++ c :: r) else match splitR c (a ++ c :: r) with | h :: t=>(x :: h) :: t | []=>[[x]] from rfl,h x (by simp),splitR_at (a:=a) r (fun y hy=>h y (by simp [hy]))];rfl
theorem itoa_tab:∀ V,V < 51→∀ k,k < V→litB (Lib.decDigits V) (Lib.decDigits (k + 1))=true∧litB (Lib.decDigits V) (45 :: Lib.decDigits (k + 1))=true:=by
 decide +kernel
theorem itoa_val:∀ k,k < 50→litVal (Lib.decDigits (k + 1))=(k:Int) + 1∧litVal (45 :: Lib.decDigits (k + 1))=-((k:Int) + 1)∧(Lib.decDigits (k + 1)).all (fun b=>!(b == 32) && !(b == 10) && !(b == 45) && !(b == 100) && !(b == 9))=true∧(Lib.decDigits (k + 1)).length ≤ 2∧zero (Lib.decDigits (k + 1))=false:=by
 decide +kernel
theorem itoa_wr (x:Nat):Lib.itoa (wr x)=if x % 2=0 then Lib.decDigits (x / 2 + 1) else 45 :: Lib.decDigits (x / 2 + 1):=by
 unfold wr Lib.itoa
 by_cases h:x % 2=0
 ·rw [if_pos h,if_pos h,if_neg (by omega)]
  congr 1
 ·rw [if_neg h,if_neg h,if_pos (by omega)]
  congr 2
theorem lit_of {V x:Nat} (hV:V ≤ 50) (hx:x < 2 * V):litB (Lib.decDigits V) (Lib.itoa (wr x))=true∧litVal (Lib.itoa (wr x))=wr x∧Free 32 (Lib.itoa (wr x))∧Free 10 (Lib.itoa (wr x))∧Free 100 (Lib.itoa (wr x))∧Free 9 (Lib.itoa (wr x))∧(Lib.itoa (wr x)).length ≤ 3∧zero (Lib.itoa (wr x))=false∧Lib.itoa (wr x) ≠ []:=by
 have hk:x / 2 < V:=by omega
 obtain ⟨t1,t2⟩:=itoa_tab V (by omega) (x / 2) hk
 obtain ⟨v1,v2,v3,v4,v5⟩:=itoa_val (x / 2) (by omega)
 have v3':=List.all_eq_true.1 v3
 rw [itoa_wr]
 by_cases h:x % 2=0
 ·rw [if_pos h]
  refine ⟨t1,by rw [v1];unfold wr;rw [if_pos h],fun b hb=>?_,fun b hb=>?_,fun b hb=>?_,fun b hb=>?_,by omega,v5,fun e=>by rw [e] at t1;simp [litB,strip,numB] at t1⟩
  all_goals
   have:=v3' b hb
   simp at this ⊢
   simp [this]
 ·rw [if_neg h]
  refine ⟨t2,by rw [v2];unfold wr;rw [if_neg h],fun b hb=>?_,fun b hb=>?_,fun b hb=>?_,fun b hb=>?_,by simp;omega,by simp [zero],by simp⟩
  all_goals
   rcases List.mem_cons.1 hb with rfl | hb
   ·decide
   ·have:=v3' b hb
    simp at this ⊢
    simp [this]
theorem split_lits {V:Nat} (hV:V ≤ 50):∀ {c:List Nat},(∀ x ∈ c,x < 2 * V)→splitR 32 (c.flatMap (fun x=>Lib.itoa (wr x) ++ [32]) ++ [48])=c.map (fun x=>Lib.itoa (wr x)) ++ [[48]]
 | [],_=>by decide
 | x :: c,h=>by
  rw [List.flatMap_cons,List.append_assoc,List.append_assoc,List.singleton_append,splitR_at _ (lit_of hV (h x (by simp))).2.2.1,split_lits hV (fun y hy=>h y (by simp [hy]))]
  rfl
theorem lits_line {V:Nat} (hV:V ≤ 50) {c:List Nat} (h:∀ x ∈ c,x < 2 * V):litsF (Lib.decDigits V) (c.map (fun x=>Lib.itoa (wr x)) ++ [[48]])=some (c.map wr):=by
 rw [litsF_last,if_pos]
 ·rw [List.map_map]
  congr 1
  exact List.map_congr_left fun x hx=>(lit_of hV (h x hx)).2.1
 ·rw [show zero [48]=true from rfl,Bool.true_and,List.all_map,List.all_eq_true]
  exact fun x hx=>(lit_of hV (h x hx)).1
theorem line_of {V:Nat} (hV:V ≤ 50) (g:Bool) {c:List Nat} (h:∀ x ∈ c,x < 2 * V):lineB (Lib.decDigits V) (lineT g c)=some (g,c.map wr):=by
 unfold lineB lineT
 rw [splitB_eq]
 cases g with
 | true=>
  rw [if_pos rfl,List.append_assoc,show ([100,32]:Bs) ++ (c.flatMap (fun x=>Lib.itoa (wr x) ++ [32]) ++ [48])=[100] ++ 32 :: (c.flatMap (fun x=>Lib.itoa (wr x) ++ [32]) ++ [48]) from rfl,splitR_at _ (by intro x hx;simp at hx;subst hx;decide),split_lits hV h]
  rw [if_pos (by rw [List.head?_cons]),List.tail_cons,lits_line hV h];rfl
 | false=>
  have e0:((if false=true then [100,32] else []) ++ c.flatMap (fun x=>Lib.itoa (wr x) ++ [32]) ++ [48]:Bs)=c.flatMap (fun x=>Lib.itoa (wr x) ++ [32]) ++ [48]:=rfl
  rw [e0,split_lits hV h,if_neg,lits_line hV h]
  ·rfl
  cases c with
  | nil=>decide
  | cons x c=>
   rw [List.map_cons,List.cons_append,List.head?_cons]
   intro e
   have:=(lit_of hV (h x (by simp))).2.2.2.2.1
   rw [Option.some.inj e] at this
   have:=this 100 (by simp)
   simp at this
theorem line_free {V:Nat} (hV:V ≤ 50) (g:Bool) {c:List Nat} (h:∀ x ∈ c,x < 2 * V):Free 10 (lineT g c):=by
 unfold lineT
 intro b hb
 rcases List.mem_append.1 hb with hb | hb
 ·rcases List.mem_append.1 hb with hb | hb
  ·cases g
   ·simp at hb
   ·simp at hb;rcases hb with rfl | rfl <;> decide
  ·obtain ⟨x,hx,hb⟩:=List.mem_flatMap.1 hb
   rcases List.mem_append.1 hb with hb | hb
   ·exact (lit_of hV (h x hx)).2.2.2.1 b hb
   ·simp at hb;subst hb;decide
 ·simp at hb;subst hb;decide
def linesT (ls:List (Bool × List Nat)):Bs:=ls.flatMap fun l=>lineT l.1 l.2 ++ [10]
theorem linesT_snoc (ls:List (Bool × List Nat)) (g:Bool) (c:List Nat):linesT (ls ++ [(g,c)])=linesT ls ++ (lineT g c ++ [10]):=by
 unfold linesT;rw [List.flatMap_append];simp
theorem chk_lines {V:Nat} (hV:V ≤ 50) (L':List Cl) (hend:RightP L' []):∀ (ls:List (Bool × List Nat)) (L:List Cl) (k:Nat),(∀ l ∈ ls,∀ x ∈ l.2,x < 2 * V)→Lines L (ls.map fun l=>(l.1,l.2.map wr)) L'→
  chk (Lib.decDigits V) L (splitR 10 (linesT ls ++ [48,10])) k (k + ls.length + 1,0)
 | [],L,k,hl,h=>by
  have h:L'=L:=h
  subst h
  have e:splitR 10 (linesT [] ++ [48,10])=[[48],[]]:=by decide
  rw [e]
  unfold chk
  rw [if_neg (by simp)]
  have e2:lineB (Lib.decDigits V) [48]=some (false,[]):=line_of hV false (c:=[]) (by simp)
  rw [e2]
  exact ⟨fun h=>absurd hend h,fun _=>by simp⟩
 |(g,c) :: ls,L,k,hl,h=>by
  have hc:=hl (g,c) (by simp)
  have e:linesT ((g,c) :: ls) ++ [48,10]=lineT g c ++ 10 :: (linesT ls ++ [48,10]):=by
   unfold linesT;rw [List.flatMap_cons];simp
  rw [e,splitR_at _ (line_free hV g hc)]
  obtain ⟨h1,t1,e1⟩:=splitR_ne 10 (linesT ls ++ [48,10])
  unfold chk
  rw [if_neg (by rw [e1];simp),line_of hV g hc]
  have hl':∀ l ∈ ls,∀ x ∈ l.2,x < 2 * V:=fun l hm=>hl l (by simp [hm])
  rw [List.map_cons] at h
  have ek:k + ((g,c) :: ls).length + 1=(k + 1) + ls.length + 1:=by simp;omega
  rw [ek]
  cases g with
  | true=>
   obtain ⟨M,g1,g2⟩:=h
   simp only
   rw [g1]
   exact chk_lines hV L' hend ls M (k + 1) hl' g2
  | false=>
   obtain ⟨g0,g1,g2⟩:=h
   refine ⟨fun h=>absurd g1 h,fun _=>?_⟩
   rw [if_neg (by simpa using g0)]
   exact chk_lines hV L' hend ls _ (k + 1) hl' g2
end So
end Go.Proofs.YtceahffmenbibaaGreatDoor
