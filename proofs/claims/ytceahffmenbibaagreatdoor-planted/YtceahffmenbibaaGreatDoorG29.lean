/- Ssnk Stri Tprf. -/
import Derived.Test.YtceahffmenbibaaGreatDoorG28
import Derived.Lib.UnsafeStr
import Derived.Lib.Builder
import Derived.Laws.Externs
import Derived.Test.YtceahffmenbibaaGreatDoorG09
import Derived.Test.YtceahffmenbibaaGreatDoorG06
import Derived.Test.YtceahffmenbibaaGreatDoorG13
set_option linter.unusedVariables false
set_option linter.unusedSimpArgs false
set_option maxHeartbeats 2000000
set_option maxRecDepth 100000
namespace Go.Proofs.YtceahffmenbibaaGreatDoor
namespace So
section
open Go Go.RowKit Go.Deep Rd
structure ky (Z:Nat->Prop) (kb:Nat) (w:World) (l:List UInt8):Prop where
 ex:∃ f:Nat->Value,w.rowIs kb 111 2 f/\(f 0=.pointer none\/f 0=.pointer (some ⟨kb,0,none⟩))/\w.ownsRow 0 5 1 (f 1) l.length (aM l)/\∀ g,(f 1).ownBlock=some g->Z g
 zk:Z kb
 az:∀ g,w.heap.size <= g->Z g
variable {Z:Nat->Prop} {kb:Nat} {w w':World} {l:List UInt8}
theorem jW (l:List UInt8):(aM l).length=l.length:=by simp [aM]
theorem p9 (a b:List UInt8):aM (a ++ b)=aM a ++ aM b:=by simp [aM]
theorem ky.far {f:Nat->Value} (hr:w.rowIs kb 111 2 f) {v:Value} {xs:List Value} {n:Nat} (ho:w.ownsRow 0 5 1 v n xs):∀ g,v.ownBlock=some g->g ≠ kb:=fun g hg e=>by
 obtain ⟨c,h1,_⟩:=hr;subst e;exact Lib.ownBlock_ne ho h1 (by decide) hg
theorem ky.JU {Z':Nat->Prop} (h:ky Z kb w l) (h1:∀ g,g < w.heap.size->Z g->Z' g) (h2:∀ g,w.heap.size <= g->Z' g):ky Z' kb w l:=by
 obtain ⟨f,a,b,c,d⟩:=h.ex;exact ⟨⟨f,a,b,c,fun g hg=>h1 g (c.lt g hg).2 (d g hg)⟩,h1 kb a.lt h.zk,h2⟩
theorem ky.kept (h:ky Z kb w l) {Z':Nat->Prop} (hc:aC Z' w w') (hd:∀ g,g < w.heap.size->Z g->¬ Z' g):ky Z kb w' l:=by
 obtain ⟨f,a,b,c,d⟩:=h.ex;exact ⟨⟨f,a.of_block (hc.block _ a.lt (hd kb a.lt h.zk)),b,ownB c fun g hg=>hc.block g (c.lt g hg).2 (hd g (c.lt g hg).2 (d g hg)),d⟩,h.zk,fun g hg=>h.az g (Nat.le_trans hc.size hg)⟩
theorem ky.later (h:ky Z kb w l) (hb:Below w.heap.size w w'):ky Z kb w' l:=
 h.kept (Z':=fun _=>False) (aC.of_below hb) fun _ _ _ h=>h
theorem ky.lt (h:ky Z kb w l):kb < w.heap.size:=by obtain ⟨f,a,_⟩:=h.ex;exact a.lt
theorem JQ {T:TypeId} {n b:Nat} {f:Nat->Value} (h:w.rowIs b T n f):w.shape? b=some (T,n):=by
 obtain ⟨c,h1,h2,_⟩:=h;unfold World.shape?;rw [h1];simp [h2]
theorem sizeBuilder:(Tryz.prog.info? 109).map (·.size)=some 2:=by kernel_rfl
theorem liesBuilder:liesAt Tryz.prog Tryz.prog.depth 111 (2 / Tryz.prog.cellsOf 111) 0 109 1=true:=by kernel_rfl
theorem xB (h0:w.cell? ⟨kb,0,none⟩=some (.pointer (some ⟨kb,0,none⟩))):
  Calls Tryz.prog 275 #[.pointer (some ⟨kb,0,none⟩)] w fun e w'=>e=.returned (.tuple #[])/\w'=w:=by
 obtain ⟨j,hj,_⟩:=Option.map_eq_some_iff.1 sizeBuilder;go_enter Tryz.func275,Tryz.ntmps275
 go_wp2;rw [Lib.run_neq_ptr_same w _ Tryz.underlying106 hj]
 go_wp2;go_end0
 exact ⟨rfl,rfl⟩
theorem uT (h0:w.cell? ⟨kb,0,none⟩=some (.pointer none)) (hsh:w.shape? kb=some (111,2)) (hfz:w.frozen? ⟨kb,0,none⟩=false):
  Calls Tryz.prog 275 #[.pointer (some ⟨kb,0,none⟩)] w fun e w'=>e=.returned (.tuple #[])/\w'=w.setCell ⟨kb,0,none⟩ (.pointer (some ⟨kb,0,none⟩)):=by
 obtain ⟨j,hj,hjs⟩:=Option.map_eq_some_iff.1 sizeBuilder;go_enter Tryz.func275,Tryz.ntmps275
 go_wp2;rw [Lib.run_to_unsafe w ⟨kb,0,none⟩ Tryz.underlying106 Tryz.underlying291 hj (by rw [hjs];decide) hsh (Nat.zero_lt_succ 1)]
 simp only [Result.andThen];rw [Oper.upon_value];go_wp2;rw [run_callFunc_extern Tryz.func276 (by kernel_rfl) (by kernel_rfl) (by kernel_rfl) (e:=Extern.AbiNoEscape.same) (by kernel_rfl)]
 rw [Lib.run_noEscape];simp only [Result.andThen];rw [Oper.upon_value];go_wp2;rw [Lib.run_from_unsafe w ⟨kb,0,none⟩ Tryz.underlying291 Tryz.underlying106 hj hsh liesBuilder];simp only [Result.andThen];rw [Oper.upon_value];go_wp2;go_end0;exact ⟨rfl,rfl⟩
theorem yJ (h:ky Z kb w l):Calls Tryz.prog 275 #[.pointer (some ⟨kb,0,none⟩)] w fun e w'=>e=.returned (.tuple #[])/\aC Z w w'/\ky Z kb w' l/\w'.heap.size=w.heap.size/\∀ g,g ≠ kb->w'.heap[g]? = w.heap[g]? := by
 obtain ⟨f,hr,hp,ho,ha⟩:=h.ex
 rcases hp with hp | hp
 ·have c0:=hr.cell (i:=0) (by omega)
  rw [hp] at c0;refine (uT c0 (JQ hr) (hr.frozen 0)).mono ?_;rintro e w' ⟨rfl,rfl⟩;refine ⟨rfl,(aC.refl w).setCell h.zk _,⟨⟨upd f 0 (.pointer (some ⟨kb,0,none⟩)),(hr.set 0 _).congr fun i hi=>by unfold upd;rfl,.inr (ae ..),?_,?_⟩,h.zk,fun g hg=>h.az g (by simpa [World.setCell] using hg)⟩,by simp [World.setCell],fun g hg=>Below.heap_setCell _ _ _ _ (by simpa using hg)⟩
  ·rw [aa _ _ (by decide)]
   exact ownB ho fun g hg=>Below.heap_setCell _ _ _ _ (by simpa using ky.far hr ho g hg)
  ·rw [aa _ _ (by decide)];exact ha
 ·have c0:=hr.cell (i:=0) (by omega)
  rw [hp] at c0;refine (xB c0).mono ?_;rintro e w' ⟨rfl,rfl⟩;exact ⟨rfl,aC.refl _,h,rfl,fun _ _=>rfl⟩
theorem ky.push (h:ky Z kb w l) {f:Nat->Value} (hr:w.rowIs kb 111 2 f) (hp:f 0=.pointer none\/f 0=.pointer (some ⟨kb,0,none⟩)) (ho:w.ownsRow 0 5 1 (f 1) l.length (aM l)) (ha:∀ g,(f 1).ownBlock=some g->Z g) {bs:List UInt8} {v':Value} {w6:World} (A:aB w 0 5 1 (f 1) l.length (aM l) bs.length (aM bs) v' w6):
  ky Z kb (w6.setCell ⟨kb,1,none⟩ v') (l ++ bs)/\aC Z w (w6.setCell ⟨kb,1,none⟩ v')/\(∀ j,j < 2->w6.cell? ⟨kb,j,none⟩=some (f j))/\w6.frozen? ⟨kb,1,none⟩=false:=by
 have hr6:=hr.of_block (A.grew.block kb hr.lt fun e=>ky.far hr ho kb e.symm rfl)
 have hf6:=ky.far hr6 A.own;refine ⟨⟨⟨upd f 1 v',(hr6.set 1 _).congr fun i hi=>by unfold upd;rfl,by rw [aa _ _ (by decide)];exact hp,?_,?_⟩,h.zk,fun g hg=>h.az g (by have:=A.grew.size;simp [World.setCell] at hg;omega)⟩,((aC.refl w).grown A.grew fun g hg=>ha g hg).setCell h.zk _,fun j hj=>hr6.cell hj,hr6.frozen 1⟩
 ·rw [ae,List.length_append,p9];exact ownB A.own fun g hg=>Below.heap_setCell _ _ _ _ (by simpa using hf6 g hg)
 ·rw [ae];intro g hg
  rcases A.at' with h1 | h1
  ·rw [h1] at hg;exact ha g hg
  ·rw [h1] at hg;have:=Option.some.inj hg;exact h.az g (by omega)
theorem tF (h:ky Z kb w l) (lb c:Nat) (bs:List UInt8) (hlb:lb ≠ kb) (hsrc:∀ j (hj:j < bs.length),w.cell? ⟨lb,j,none⟩=some (.int .u8 (bs[j]).toNat)) (hlen:l.length + bs.length <= 140737488355328):
  Calls Tryz.prog 274 #[.pointer (some ⟨kb,0,none⟩),.slice (some ⟨lb,0,none⟩) bs.length c] w fun e w'=>e=.returned (.tuple #[.int .i64 (bs.length:Nat),.nilIface])/\aC Z w w'/\ky Z kb w' (l ++ bs):=by
 obtain ⟨i0,hi,hz0,hz1,hz2⟩:=info_parts Tryz.pE;have QC:=hide (yJ h);have BQ:Hid (∀ w1,ky Z kb w1 l->(∀ g,g ≠ kb->w1.heap[g]? = w.heap[g]?)->∃ v:Value,w1.cell? ⟨kb,1,none⟩=some v/\w1.ownsRow 0 5 1 v l.length (aM l)/\Src w1 (.slice (some ⟨lb,0,none⟩) bs.length c) bs.length (aM bs)/\∀ v' w6,aB w1 0 5 1 v l.length (aM l) bs.length (aM bs) v' w6->ky Z kb (w6.setCell ⟨kb,1,none⟩ v') (l ++ bs)/\aC Z w1 (w6.setCell ⟨kb,1,none⟩ v')/\(∃ u,w6.cell? ⟨kb,1,none⟩=some u)/\w6.frozen? ⟨kb,1,none⟩=false):=fun w1 h1 hh=>by
  obtain ⟨f,hr,hp,ho,ha⟩:=h1.ex;refine ⟨f 1,hr.cell (by omega),ho,.inr ⟨⟨lb,0,none⟩,c,rfl,fun j u hu=>?_⟩,fun v' w6 A=>?_⟩
  ·have hj:j < bs.length:=by
    rcases Nat.lt_or_ge j bs.length with g | g
    ·exact g
    ·rw [List.getElem?_eq_none (by rw [jW];exact g)] at hu;cases hu
   have:(aM bs)[j]? = some (.int .u8 (bs[j]).toNat):=by simp [aM,hj]
   rw [this] at hu;obtain rfl:=Option.some.inj hu;rw [show (Addr.add ⟨lb,0,none⟩ j:Addr)=⟨lb,j,none⟩ by by_cases hj0:j=0 <;> simp [Addr.add,hj0],World.cell?_of_block (w:=w) (a:=⟨lb,j,none⟩) (hh lb hlb)]
   exact hsrc j hj
  ·obtain ⟨a,b,c',d⟩:=h1.push hr hp ho ha A;exact ⟨a,b,⟨_,c' 1 (by omega)⟩,d⟩
 have bl:(aM bs).length=bs.length * 1:=by rw [jW];omega
 have one:∀ u ∈ aM bs,u.oneCell'=true:=fun u hu=>by
  unfold aM at hu;obtain ⟨y,_,rfl⟩:=List.mem_map.1 hu;rfl
 clear h hsrc;go_enter Tryz.func274,Tryz.ntmps274
 go_wp2_with (first | (go_at_call 275;refine QC.out.mono ?_;rintro e1 w1 ⟨rfl,hc1,hs1,-,yG⟩;obtain ⟨v1,q1,o1,sr1,af1⟩:=BQ.out w1 hs1 yG;have C1:=hide hc1;have O1:=hide o1;have SR:=hide sr1;have AF:=hide af1;clear hc1 hs1 yG o1 sr1 af1;obtain ⟨va1,vc1,hv1⟩:=aH O1.out;subst hv1;simp only []) | (at_builtin;refine aU _ rfl _ _ 107 rfl 0 5 i0 (.int .u8 0) 1 1 Tryz.underlying107 hi hz0 hz1 hz2 rfl (by decide) _ _ _ rfl O1.out (.slice (some ⟨lb,0,none⟩) bs.length c) bs.length (aM bs) rfl SR.out bl one (by unfold maxLen;omega) (by omega) (Nat.zero_le _) ?_))
 intro v6 w6 A6;obtain ⟨s6,c6,⟨u6,q6⟩,z6⟩:=AF.out v6 w6 A6;have F:Hid (aC Z w (w6.setCell ⟨kb,1,none⟩ v6)/\ky Z kb (w6.setCell ⟨kb,1,none⟩ v6) (l ++ bs)):=⟨C1.out.trans c6,s6⟩;obtain ⟨qL,qK,hv6⟩:=aH A6.own;subst hv6;clear A6 s6 c6 q1 O1 SR AF;go_wp2;go_ret2;exact ⟨rfl,F.out.1,F.out.2⟩
theorem vK (h:ky Z kb w l) (lb c:Nat) (bs:List UInt8) (hlb:lb ≠ kb) (hsrc:∀ j (hj:j < bs.length),w.cell? ⟨lb,j,none⟩=some (.int .u8 (bs[j]).toNat)) (hlen:l.length + bs.length <= 140737488355328):
  Calls Tryz.prog 273 #[.pointer (some ⟨kb,0,none⟩),.slice (some ⟨lb,0,none⟩) bs.length c] w fun e w'=>e=.returned (.tuple #[.int .i64 (bs.length:Nat),.nilIface])/\aC Z w w'/\ky Z kb w' (l ++ bs):=by
 have QW:=hide (tF h lb c bs hlb hsrc hlen);clear h hsrc;go_enter Tryz.func273,Tryz.ntmps273
 go_wp2_with (go_at_call 274;refine QW.out.mono ?_;rintro e1 w1 ⟨rfl,hc1,hs1⟩;have C1:=hide hc1;have S1:=hide hs1;clear hc1 hs1;simp only [])
 go_ret2
 exact ⟨rfl,C1.out,S1.out⟩
end
section
open Go Go.RowKit Go.Deep Rd
variable {Z:Nat->Prop} {sb ob hb kb K n:Nat} {w w':World} {f f' V V':Nat->Value} {X X':Nat->List Value} {gone gB:Nat->Prop} {Rs Ro ko vB Rd Rk:Nat->Prop} {l l':List UInt8}
theorem Duo.JU {Z':Nat->Prop} (h:Duo Z sb ob hb n w K f V X gone Rs Ro) (h1:∀ g,g < w.heap.size->Z g->Z' g) (h2:∀ g,w.heap.size <= g->Z' g):Duo Z' sb ob hb n w K f V X gone Rs Ro:=
 { h with zs:=fun g hg=>h1 g (h.ls g hg) (h.zs g hg),zo:=fun g hg=>h1 g (h.lo g hg) (h.zo g hg),az:=h2 }
theorem Duo.jT {R:Nat->Prop} (h:Duo (zz R w) sb ob hb n w K f V X gone Rs Ro) {Z':Nat->Prop} (hc:aC Z' w w') (hd:∀ g,g < w.heap.size->R g->¬ Z' g):Duo (zz R w') sb ob hb n w' K f V X gone Rs Ro where
 aG:=h.aG.jT hc fun g hg h1=>hd g hg (eY hg (h.zs g h1))
 ord:=h.ord.jT hc fun g hg h1=>hd g hg (eY hg (h.zo g h1))
 f12:=h.f12
 xu:=h.xu
 ls:=fun g h1=>Nat.lt_of_lt_of_le (h.ls g h1) hc.size
 lo:=fun g h1=>Nat.lt_of_lt_of_le (h.lo g h1) hc.size
 zs:=fun g h1=>.inl (eY (h.ls g h1) (h.zs g h1))
 zo:=fun g h1=>.inl (eY (h.lo g h1) (h.zo g h1))
 az:=fun g hg=>.inr hg
theorem ky.jT {R:Nat->Prop} (h:ky (zz R w) kb w l) {Z':Nat->Prop} (hc:aC Z' w w') (hd:∀ g,g < w.heap.size->R g->¬ Z' g):ky (zz R w') kb w' l:=by
 obtain ⟨f,a,b,c,d⟩:=h.ex;exact ⟨⟨f,a.of_block (hc.block _ a.lt (hd kb a.lt (eY a.lt h.zk))),b,ownB c fun g hg=>hc.block g (c.lt g hg).2 (hd g (c.lt g hg).2 (eY (c.lt g hg).2 (d g hg))),fun g hg=>.inl (eY (c.lt g hg).2 (d g hg))⟩,.inl (eY h.lt h.zk),fun g hg=>.inr hg⟩
structure oJ (Z:Nat->Prop) (sb ob hb kb n:Nat) (w:World) (K:Nat) (f V:Nat->Value) (X:Nat->List Value) (gone:Nat->Prop) (l:List UInt8) (Rs Ro Rd Rk:Nat->Prop):Prop where
 duo:Duo (zz Rd w) sb ob hb n w K f V X gone Rs Ro
 MU:ky (zz Rk w) kb w l
 xu:∀ g,Rd g->¬ Rk g
 ld:∀ g,Rd g->g < w.heap.size
 lk:∀ g,Rk g->g < w.heap.size
 zd:∀ g,Rd g->Z g
 zk:∀ g,Rk g->Z g
 az:∀ g,w.heap.size <= g->Z g
theorem oJ.vH (h:oJ Z sb ob hb kb n w K f V X gone l Rs Ro Rd Rk) {R:Nat->Prop} (hR:∀ g,R g->Z g):∀ g,zz R w g->Z g:=fun g hg=>by
 rcases hg with h1 | h1
 ·exact hR g h1
 ·exact h.az g h1
theorem oJ.vQ (h:oJ Z sb ob hb kb n w K f V X gone l Rs Ro Rd Rk) (hd:Duo (zz Rd w) sb ob hb n w' K f' V' X' gB ko vB) (hc:aC (zz Rd w) w w'):
  oJ Z sb ob hb kb n w' K f' V' X' gB l ko vB (fun g=>zz Rd w g/\g < w'.heap.size) Rk/\aC Z w w':=by
 refine ⟨{
  duo:=hd.JU (fun g h1 h2=>.inl ⟨h2,h1⟩) (fun g hg=>.inr hg)
  MU:=h.MU.jT hc fun g hg h1 h2=>h.xu g (eY hg h2) h1
  xu:=fun g h1 h2=>h.xu g (eY (h.lk g h2) h1.1) h2
  ld:=fun g h1=>h1.2
  lk:=fun g h1=>Nat.lt_of_lt_of_le (h.lk g h1) hc.size
  zd:=fun g h1=>h.vH h.zd g h1.1
  zk:=h.zk
  az:=fun g hg=>h.az g (Nat.le_trans hc.size hg) },hc.mono fun g _ h1=>h.vH h.zd g h1⟩
theorem oJ.dH (h:oJ Z sb ob hb kb n w K f V X gone l Rs Ro Rd Rk) (hs:aQ (zz Rs w) sb w' K f' V' X') (hc:aC (zz Rs w) w w') (hf:f' 12=f 12):
  oJ Z sb ob hb kb n w' K f' V' X' gone l (fun g=>zz Rs w g/\g < w'.heap.size) Ro (fun g=>zz Rd w g/\g < w'.heap.size) Rk/\aC Z w w':=by
 obtain ⟨d1,d2⟩:=h.duo.dH hs hc hf;exact h.vQ d1 d2
theorem oJ.vP (h:oJ Z sb ob hb kb n w K f V X gone l Rs Ro Rd Rk) (ho:eU (zz Ro w) ob hb n w' gB) (hc:aC (zz Ro w) w w'):
  oJ Z sb ob hb kb n w' K f V X gB l Rs (fun g=>zz Ro w g/\g < w'.heap.size) (fun g=>zz Rd w g/\g < w'.heap.size) Rk/\aC Z w w':=by
 obtain ⟨d1,d2⟩:=h.duo.vP ho hc;exact h.vQ d1 d2
theorem oJ.Yx (h:oJ Z sb ob hb kb n w K f V X gone l Rs Ro Rd Rk) (hs:ky (zz Rk w) kb w' l') (hc:aC (zz Rk w) w w'):
  oJ Z sb ob hb kb n w' K f V X gone l' Rs Ro Rd (fun g=>zz Rk w g/\g < w'.heap.size)/\aC Z w w':=by
 refine ⟨{
  duo:=h.duo.jT hc fun g hg h1 h2=>h.xu g h1 (eY hg h2)
  MU:=hs.JU (fun g h1 h2=>.inl ⟨h2,h1⟩) (fun g hg=>.inr hg)
  xu:=fun g h1 h2=>h.xu g h1 (eY (h.ld g h1) h2.1)
  ld:=fun g h1=>Nat.lt_of_lt_of_le (h.ld g h1) hc.size
  lk:=fun g h1=>h1.2
  zd:=h.zd
  zk:=fun g h1=>h.vH h.zk g h1.1
  az:=fun g hg=>h.az g (Nat.le_trans hc.size hg) },hc.mono fun g _ h1=>h.vH h.zk g h1⟩
theorem oJ.later (h:oJ Z sb ob hb kb n w K f V X gone l Rs Ro Rd Rk) (hb':Below w.heap.size w w'):oJ Z sb ob hb kb n w' K f V X gone l Rs Ro Rd Rk where
 duo:=h.duo.jT (Z':=fun _=>False) (aC.of_below hb') fun _ _ _ h=>h
 MU:=h.MU.jT (Z':=fun _=>False) (aC.of_below hb') fun _ _ _ h=>h
 xu:=h.xu
 ld:=fun g h1=>Nat.lt_of_lt_of_le (h.ld g h1) hb'.size
 lk:=fun g h1=>Nat.lt_of_lt_of_le (h.lk g h1) hb'.size
 zd:=h.zd
 zk:=h.zk
 az:=fun g hg=>h.az g (Nat.le_trans hb'.size hg)
end
section
open Rd
theorem zu:∀ (n:Nat) (l:List Bool),l.length < n->dI n l % 2=0
 | 0,l,h=>by omega
 | n + 1,[],_=>rfl
 | n + 1,b :: r,h=>by
  have hr:r.length < n:=by simpa using h
  have ih:=zu n r hr;obtain ⟨m,rfl⟩:∃ m,n=m + 1:=⟨n - 1,by omega⟩
  simp only [dI];cases b
  ·simp;omega
  ·simp only [if_true];rw [Nat.pow_succ];omega
theorem CZ {n len k:Nat} {ch:List Nat} (h:Fz ch len) {d:Nat} (hd:d < ch.length) (hl:len <= n) (h2:ch[d] + 1 < n) (hk:2 * k <= dI n (bits len ch)):2 * (k + 1) <= dI n (bits (ch[d] + 1) (ch.take d)):=by
 have h1:=Gn (n:=n) h hd hl;have h3:=zu n (bits (ch[d] + 1) (ch.take d)) (by rw [xI];exact h2)
 omega
theorem Db {n len k:Nat} {ch:List Nat} (h:∀ p ∈ ch,p < len) (hl:len < n) (hk:k <= dI n (bits len ch)):k <= dI n (bits (len + 1) ch):=by
 rw [uF h];have:=JZ n (bits len ch) (by rw [xI];exact hl)
 omega
theorem Da {n len k:Nat} {ch:List Nat} (h:∀ p ∈ ch,p < len) (hk:k <= dI n (bits len ch)):k <= dI n (bits (len + 1) (ch ++ [len])):=by
 rw [EU h,qy];exact hk
variable {n:Nat} {tr ch:List Nat} {lev:Nat->Nat} {C:eX} {P:Nat}
theorem PL (hs:nI C tr lev P) (hu:tL C tr lev) (ht:fM n tr ch lev) (hc:uI n C) {a:Nat} {c:uY} (hC:C a=some c) (hk:c.kind ≠ 2) (hf:∀ y ∈ c.lits,op y ∈ tr):P + 2 <= tr.length:=by
 match e:c.lits with
 | []=>
  obtain ⟨x,h1,_⟩:=hu a c hC hk (by rw [e];simp)
  rw [e] at h1;cases h1
 | [y]=>
  obtain ⟨x,h1,h2,_⟩:=hu a c hC hk (by rw [e];simp)
  rw [e] at h1;cases h1
  exact (ht.jP h2 (hf y (by rw [e];simp))).elim
 | p :: q :: r=>
  obtain ⟨h1,h2⟩:=hs a c p q r hC hk e;have fp:=hf p (by rw [e];simp)
  have fq:=hf q (by rw [e];simp)
  obtain ⟨i,hi,ei⟩:=List.mem_iff_getElem.1 fp;obtain ⟨j,hj,ej⟩:=List.mem_iff_getElem.1 fq;have ip:P <= i:=by
   rcases Nat.lt_or_ge i P with g | g
   ·exact (ht.jP (h1 i hi g ei).1 fq).elim
   ·exact g
  have jp:P <= j:=by
   rcases Nat.lt_or_ge j P with g | g
   ·exact (ht.jP (h2 j hj g ej).1 fp).elim
   ·exact g
  have hv:=hc.vars a c hC;rw [e] at hv;have nij:i ≠ j:=fun g=>by
   subst g;rw [ei] at ej;have:=NF ej;subst this;simp at hv
  omega
theorem J2 {m:Nat} {lq:List Nat} {nE:Nat->Nat} (ht:fM n tr ch lev) (ht':fM n lq ch nE) (hl:tr.length <= lq.length) (hk:m <= dI n (bits tr.length ch)):m <= dI n (bits lq.length ch):=by
 have key:∀ j,tr.length + j <= n->m <= dI n (bits (tr.length + j) ch):=by
  intro j
  induction j with
  | zero=>intro _;exact hk
  | succ j ih=>
   intro hj;have h1:∀ p ∈ ch,p < tr.length + j:=fun p hp=>by have:=ht.dX.2 p hp;omega
   have h2:tr.length + j < n:=by omega
   exact Db h1 h2 (ih (by omega))
 have h1:=ht'.len;have:=key (lq.length - tr.length) (by omega)
 rwa [show tr.length + (lq.length - tr.length)=lq.length by omega] at this
def jS (g:Bool) (c:List Nat):Bs:=(if g then [100,32] else []) ++ c.flatMap (fun x=>Lib.itoa (wr x) ++ [32]) ++ [48]
def tT (c:UInt8) (l:Bs):Prop:=∀ x ∈ l,(x == c)=false
theorem uk {c:UInt8}:∀ {a:Bs},tT c a->bI c a=[a]
 | [],_=>rfl
 | x :: a,h=>by
  unfold bI;rw [h x (by simp),uk (a:=a) (fun y hy=>h y (by simp [hy]))];rfl
theorem oV {c:UInt8}:∀ {a:Bs} (r:Bs),tT c a->bI c (a ++ c :: r)=a :: bI c r
 | [],r,_=>by
  show bI c (c :: r)=_
  rw [show bI c (c :: r)=if c == c then [] :: bI c r else match bI c r with | h :: t=>(c :: h) :: t | []=>[[c]] from rfl,if_pos (by simp)]
 | x :: a,r,h=>by
  show bI c (x :: (a ++ c :: r))=_
  rw [show bI c (x :: (a ++ c :: r))=if x == c then [] :: bI c (a ++ c :: r) else match bI c (a ++ c :: r) with | h :: t=>(x :: h) :: t | []=>[[x]] from rfl,h x (by simp),oV (a:=a) r (fun y hy=>h y (by simp [hy]))];rfl
theorem Ox:∀ V,V < 51->∀ k,k < V->jf (Lib.decDigits V) (Lib.decDigits (k + 1))=true/\jf (Lib.decDigits V) (45 :: Lib.decDigits (k + 1))=true:=by
 decide +kernel
theorem Ow:∀ k,k < 50->dJ (Lib.decDigits (k + 1))=(k:Int) + 1/\dJ (45 :: Lib.decDigits (k + 1))=-((k:Int) + 1)/\(Lib.decDigits (k + 1)).all (fun b=>!(b == 32) && !(b == 10) && !(b == 45) && !(b == 100) && !(b == 9))=true/\(Lib.decDigits (k + 1)).length <= 2/\zero (Lib.decDigits (k + 1))=false:=by
 decide +kernel
theorem TM (x:Nat):Lib.itoa (wr x)=if x % 2=0 then Lib.decDigits (x / 2 + 1) else 45 :: Lib.decDigits (x / 2 + 1):=by
 unfold wr Lib.itoa;by_cases h:x % 2=0
 ·rw [if_pos h,if_pos h,if_neg (by omega)]
  congr 1
 ·rw [if_neg h,if_neg h,if_pos (by omega)]
  congr 2
theorem sN {V x:Nat} (hV:V <= 50) (hx:x < 2 * V):jf (Lib.decDigits V) (Lib.itoa (wr x))=true/\dJ (Lib.itoa (wr x))=wr x/\tT 32 (Lib.itoa (wr x))/\tT 10 (Lib.itoa (wr x))/\tT 100 (Lib.itoa (wr x))/\tT 9 (Lib.itoa (wr x))/\(Lib.itoa (wr x)).length <= 3/\zero (Lib.itoa (wr x))=false/\Lib.itoa (wr x) ≠ []:=by
 have hk:x / 2 < V:=by omega
 obtain ⟨t1,t2⟩:=Ox V (by omega) (x / 2) hk
 obtain ⟨v1,v2,v3,v4,v5⟩:=Ow (x / 2) (by omega)
 have v3':=List.all_eq_true.1 v3;rw [TM];by_cases h:x % 2=0
 ·rw [if_pos h];refine ⟨t1,by rw [v1];unfold wr;rw [if_pos h],fun b hb=>?_,fun b hb=>?_,fun b hb=>?_,fun b hb=>?_,by omega,v5,fun e=>by rw [e] at t1;simp [jf,strip,dN] at t1⟩
  all_goals
   have:=v3' b hb;simp at this ⊢;simp [this]
 ·rw [if_neg h];refine ⟨t2,by rw [v2];unfold wr;rw [if_neg h],fun b hb=>?_,fun b hb=>?_,fun b hb=>?_,fun b hb=>?_,by simp;omega,by simp [zero],by simp⟩
  all_goals
   rcases List.mem_cons.1 hb with rfl | hb
   ·decide
   ·have:=v3' b hb;simp at this ⊢;simp [this]
def bJ (ls:List (Bool × List Nat)):Bs:=ls.flatMap fun l=>jS l.1 l.2 ++ [10]
theorem kN (ls:List (Bool × List Nat)) (g:Bool) (c:List Nat):bJ (ls ++ [(g,c)])=bJ ls ++ (jS g c ++ [10]):=by
 unfold bJ;rw [List.flatMap_append];simp
end
end So
end Go.Proofs.YtceahffmenbibaaGreatDoor
