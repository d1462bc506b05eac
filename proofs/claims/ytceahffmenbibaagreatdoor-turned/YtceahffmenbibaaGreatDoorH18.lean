/- Sntr Snor Snow Smet Ssml Sstr Sapi Slin Ssnk Stri. -/
import Derived.Test.YtceahffmenbibaaGreatDoorH05
set_option linter.unusedVariables false
set_option linter.unusedSimpArgs false
set_option maxHeartbeats 4000000
set_option maxRecDepth 100000
namespace Go.Proofs.YtceahffmenbibaaGreatDoor
namespace So
section
open Go Go.RowKit Go.Deep Rd
def Made (w:World) (g t m:Nat) (w':World):Prop:=w.heap.size <= g/\w'.rowIs g t m (fun _=>.int .i64 0)
def WC (w:World) (n:Nat) (e:Ending) (w':World):Prop:=∃ g1 g2 g3,e=.returned (.agg #[.slice none 0 0,.int .i64 0,.slice none 0 0,.slice (some ⟨g1,0,none⟩) (2 * n) (2 * n),.slice (some ⟨g2,0,none⟩) n n,.slice (some ⟨g3,0,none⟩) n n])/\Made w g1 3 (2 * n) w'/\Made w g2 3 n w'/\Made w g3 3 n w'/\g1 ≠ g2/\g1 ≠ g3/\g2 ≠ g3/\Below w.heap.size w w'
theorem Br (w:World) (ob:Obj) (z:Value) (t:TypeId) (a b c:Nat):((((w.alloc ob).alloc (.cells (madeCells #[z] a) t)).alloc (.cells (madeCells #[z] b) t)).alloc (.cells (madeCells #[z] c) t)).drew.rowIs (w.heap.size + 1) t a (fun _=>z)/\((((w.alloc ob).alloc (.cells (madeCells #[z] a) t)).alloc (.cells (madeCells #[z] b) t)).alloc (.cells (madeCells #[z] c) t)).drew.rowIs (w.heap.size + 1 + 1) t b (fun _=>z)/\((((w.alloc ob).alloc (.cells (madeCells #[z] a) t)).alloc (.cells (madeCells #[z] b) t)).alloc (.cells (madeCells #[z] c) t)).drew.rowIs (w.heap.size + 1 + 1 + 1) t c (fun _=>z)/\Below w.heap.size w ((((w.alloc ob).alloc (.cells (madeCells #[z] a) t)).alloc (.cells (madeCells #[z] b) t)).alloc (.cells (madeCells #[z] c) t)).drew:=by
 have h:=World.rowIs_made (w.alloc ob) z a t;have e:=World.rowIs_made ((w.alloc ob).alloc (.cells (madeCells #[z] a) t)) z b t;have d:=World.rowIs_made (((w.alloc ob).alloc (.cells (madeCells #[z] a) t)).alloc (.cells (madeCells #[z] b) t)) z c t;simp only [World.size_alloc] at h e d;exact ⟨((h.alloc _).alloc _).drew,(e.alloc _).drew,d.drew,(((((Below.refl _ w).alloc lr _).alloc (by simp) _).alloc (by simp;omega) _).alloc (by simp;omega) _).drew⟩
theorem CU (n:Nat) (m:n <= 50) (w:World):Calls Tryz.prog 92 #[.int .i64 (n:Nat)] w fun e w'=>WC w n e w':=by
 have i:=run_make_row' (P:=Tryz.prog) 43 3 (.int .i64 0) 8 Tryz.underlying43 Tryz.fO rfl .i64 .i64 n (by omega) (by omega);have h:=run_make_row' (P:=Tryz.prog) 43 3 (.int .i64 0) 8 Tryz.underlying43 Tryz.fO rfl .i64 .i64 (2 * n) (by omega) (by omega);have k:((2 * n:Nat):Int)=2 * (n:Int):=by omega
 rw [k] at h;have j:IntKind.i64.wrap (2 * (n:Int))=2 * (n:Int):=vR _ (by omega) (by omega);go_enter Tryz.func92,Tryz.ntmps92
 go_upto_region 1 with fail
 go_region_with (fail)
 ·go_wp2;refine bodyPost_ret (v:=.agg #[.slice none 0 0,.int .i64 0,.slice none 0 0,.slice (some ⟨w.heap.size + 1,0,none⟩) (2 * n) (2 * n),.slice (some ⟨w.heap.size + 1 + 1,0,none⟩) n n,.slice (some ⟨w.heap.size + 1 + 1 + 1,0,none⟩) n n]) (by simp [results,Tryz.results92,go_sem]) rfl ?_
  obtain ⟨d,c,b,a⟩:=Br w (.cells #[.slice none 0 0,.int .i64 0,.slice none 0 0,.slice (some ⟨w.heap.size + 1,0,none⟩) (2 * n) (2 * n),.slice (some ⟨w.heap.size + 1 + 1,0,none⟩) n n,.slice (some ⟨w.heap.size + 1 + 1 + 1,0,none⟩) n n] 157 (0,0)) (.int .i64 0) 3 (2 * n) (n) (n);exact ⟨w.heap.size + 1,w.heap.size + 1 + 1,w.heap.size + 1 + 1 + 1,rfl,⟨by omega,d⟩,⟨by omega,c⟩,⟨by omega,b⟩,by omega,by omega,by omega,a⟩
 ·go_wp2;refine bodyPost_ret (v:=.agg #[.slice none 0 0,.int .i64 0,.slice none 0 0,.slice (some ⟨w.heap.size + 1,0,none⟩) (2 * n) (2 * n),.slice (some ⟨w.heap.size + 1 + 1 + 1,0,none⟩) n n,.slice (some ⟨w.heap.size + 1 + 1,0,none⟩) n n]) (by simp [results,Tryz.results92,go_sem]) rfl ?_
  obtain ⟨d,c,b,a⟩:=Br w (.cells #[.slice none 0 0,.int .i64 0,.slice none 0 0,.slice (some ⟨w.heap.size + 1,0,none⟩) (2 * n) (2 * n),.slice (some ⟨w.heap.size + 1 + 1 + 1,0,none⟩) n n,.slice (some ⟨w.heap.size + 1 + 1,0,none⟩) n n] 157 (0,0)) (.int .i64 0) 3 (2 * n) (n) (n);exact ⟨w.heap.size + 1,w.heap.size + 1 + 1 + 1,w.heap.size + 1 + 1,rfl,⟨by omega,d⟩,⟨by omega,b⟩,⟨by omega,c⟩,by omega,by omega,by omega,a⟩
 ·go_wp2;refine bodyPost_ret (v:=.agg #[.slice none 0 0,.int .i64 0,.slice none 0 0,.slice (some ⟨w.heap.size + 1 + 1,0,none⟩) (2 * n) (2 * n),.slice (some ⟨w.heap.size + 1,0,none⟩) n n,.slice (some ⟨w.heap.size + 1 + 1 + 1,0,none⟩) n n]) (by simp [results,Tryz.results92,go_sem]) rfl ?_
  obtain ⟨d,c,b,a⟩:=Br w (.cells #[.slice none 0 0,.int .i64 0,.slice none 0 0,.slice (some ⟨w.heap.size + 1 + 1,0,none⟩) (2 * n) (2 * n),.slice (some ⟨w.heap.size + 1,0,none⟩) n n,.slice (some ⟨w.heap.size + 1 + 1 + 1,0,none⟩) n n] 157 (0,0)) (.int .i64 0) 3 (n) (2 * n) (n);exact ⟨w.heap.size + 1 + 1,w.heap.size + 1,w.heap.size + 1 + 1 + 1,rfl,⟨by omega,c⟩,⟨by omega,d⟩,⟨by omega,b⟩,by omega,by omega,by omega,a⟩
 ·go_wp2;refine bodyPost_ret (v:=.agg #[.slice none 0 0,.int .i64 0,.slice none 0 0,.slice (some ⟨w.heap.size + 1 + 1 + 1,0,none⟩) (2 * n) (2 * n),.slice (some ⟨w.heap.size + 1,0,none⟩) n n,.slice (some ⟨w.heap.size + 1 + 1,0,none⟩) n n]) (by simp [results,Tryz.results92,go_sem]) rfl ?_
  obtain ⟨d,c,b,a⟩:=Br w (.cells #[.slice none 0 0,.int .i64 0,.slice none 0 0,.slice (some ⟨w.heap.size + 1 + 1 + 1,0,none⟩) (2 * n) (2 * n),.slice (some ⟨w.heap.size + 1,0,none⟩) n n,.slice (some ⟨w.heap.size + 1 + 1,0,none⟩) n n] 157 (0,0)) (.int .i64 0) 3 (n) (n) (2 * n);exact ⟨w.heap.size + 1 + 1 + 1,w.heap.size + 1,w.heap.size + 1 + 1,rfl,⟨by omega,b⟩,⟨by omega,d⟩,⟨by omega,c⟩,by omega,by omega,by omega,a⟩
 ·go_wp2;refine bodyPost_ret (v:=.agg #[.slice none 0 0,.int .i64 0,.slice none 0 0,.slice (some ⟨w.heap.size + 1 + 1,0,none⟩) (2 * n) (2 * n),.slice (some ⟨w.heap.size + 1 + 1 + 1,0,none⟩) n n,.slice (some ⟨w.heap.size + 1,0,none⟩) n n]) (by simp [results,Tryz.results92,go_sem]) rfl ?_
  obtain ⟨d,c,b,a⟩:=Br w (.cells #[.slice none 0 0,.int .i64 0,.slice none 0 0,.slice (some ⟨w.heap.size + 1 + 1,0,none⟩) (2 * n) (2 * n),.slice (some ⟨w.heap.size + 1 + 1 + 1,0,none⟩) n n,.slice (some ⟨w.heap.size + 1,0,none⟩) n n] 157 (0,0)) (.int .i64 0) 3 (n) (2 * n) (n);exact ⟨w.heap.size + 1 + 1,w.heap.size + 1 + 1 + 1,w.heap.size + 1,rfl,⟨by omega,c⟩,⟨by omega,b⟩,⟨by omega,d⟩,by omega,by omega,by omega,a⟩
 ·go_wp2;refine bodyPost_ret (v:=.agg #[.slice none 0 0,.int .i64 0,.slice none 0 0,.slice (some ⟨w.heap.size + 1 + 1 + 1,0,none⟩) (2 * n) (2 * n),.slice (some ⟨w.heap.size + 1 + 1,0,none⟩) n n,.slice (some ⟨w.heap.size + 1,0,none⟩) n n]) (by simp [results,Tryz.results92,go_sem]) rfl ?_
  obtain ⟨d,c,b,a⟩:=Br w (.cells #[.slice none 0 0,.int .i64 0,.slice none 0 0,.slice (some ⟨w.heap.size + 1 + 1 + 1,0,none⟩) (2 * n) (2 * n),.slice (some ⟨w.heap.size + 1 + 1,0,none⟩) n n,.slice (some ⟨w.heap.size + 1,0,none⟩) n n] 157 (0,0)) (.int .i64 0) 3 (n) (n) (2 * n);exact ⟨w.heap.size + 1 + 1 + 1,w.heap.size + 1 + 1,w.heap.size + 1,rfl,⟨by omega,b⟩,⟨by omega,c⟩,⟨by omega,d⟩,by omega,by omega,by omega,a⟩
section
variable {Z:Nat->Prop} {ob hb:Nat} {w w':World} {wt:Int} {V:Nat->Value} {X:Nat->List Value} {n g:Nat} {items:List Nat} {pl bz:Nat->Int}
theorem mJ {t:TypeId} {f:Nat->Value} (h:w.rowIs g t n f) (b:n <= maxLen):w.ownsRow 0 t 1 (.slice (some ⟨g,0,none⟩) n n) n ((List.range n).map f):=by
 obtain ⟨c,e,i,d⟩:=h;refine ⟨by simp,.inr ⟨g,n,c,rfl,zl,e,lr,b,by omega,?_⟩⟩;apply List.ext_getElem?;intro j;by_cases a:j < n
 ·rw [List.getElem?_take_of_lt (by omega),Array.getElem?_toList,d j a];simp [a]
 ·rw [List.getElem?_take_eq_none (by omega),List.getElem?_eq_none (by simp;omega)]
theorem Lh (h:Ord Z ob hb w wt V X) (s:oF n n X items pl bz) (i:∀ v ∈ items,v < n) (y:∀ a b,decide (bz b < bz a)=false) {item hole:Nat} (hi:items[hole]? = some item) (S:items.length <= 1000):
  Calls Tryz.prog 173 #[.pointer (some ⟨hb,0,none⟩),.int .i64 (hole:Nat)] w fun e w'=>e=.returned (.tuple #[])/\dB Z w w'/\∃ X',Ord Z ob hb w' wt V X'/\oF n n X' items (eF pl item (hole:Nat)) bz:=by
 obtain ⟨C,D⟩:=List.getElem?_eq_some_iff.1 hi;have o:item < n:=by rw [<- D];exact i _ (List.getElem_mem C)
 obtain ⟨g2,T,q0,R⟩:=h.item s C;rw [D] at R;have E:Hid (∀ G,Below w.heap.size w G->Calls Tryz.prog 203 #[.pointer (some ⟨hb,0,none⟩),.int .i64 (hole:Nat),.int .i64 (item:Nat)] G fun e w'=>e=.returned (.tuple #[])/\dB Z w w'/\∃ X',Ord Z ob hb w' wt V X'/\oF n n X' items (eF pl item (hole:Nat)) bz):=fun G u=>by
  refine (rM (h.later u) s (v:=item) (p:=hole) o C).mono ?_;rintro e w' ⟨rfl,ho,hc⟩;refine ⟨rfl,(dB.of_below u).trans hc,_,ho,?_⟩;have:=s.put (v:=item) (p:=hole) o (by omega)
  rwa [show items.set hole item=items by rw [<- D];exact List.set_getElem_self C] at this
 have r:Hid (∀ m (B:m < items.length),∃ g2 T,w.cell? ⟨hb,0,none⟩=some (.slice (some ⟨g2,0,none⟩) items.length T)/\w.cell? ⟨g2,m,none⟩=some (.int .i64 (items[m]:Nat))):=fun m B=>h.item s B
 have L:Hid (∀ j x,x < n->Calls Tryz.prog 126 #[.pointer (some ⟨ob,0,none⟩),.int .i64 (item:Nat),.int .i64 (x:Nat)] (w.drewN j) fun e w'=>e=.returned (.bool false)/\∃ k,w'=(w.drewN j).drewN k):=fun j x t=>by
  have:=mK (w:=w.drewN j) (h.later ⟨rfl,rfl,rfl,lr,fun _ _=>rfl⟩) s o t;rw [y item x] at this;exact this
 have Y:=h.cells.2.2.2.2.2.1;have N:=hide i;have h0:(0:Int) <= (hole:Int):=by omega
 have h1:(hole:Int) < (items.length:Int):=by omega
 unfold ahead at Y;clear h s i hi D y;go_enter Tryz.func173,Tryz.ntmps173
 go_wp2_with fail
 go_loopw [1,5] (fun Q _ wr=>Q=.int .i64 ((hole:Nat):Int)/\Hid (w=wr)) (fun Q _ _=>0)
 case atStart=>exact ⟨rfl,rfl⟩
 case round=>
  obtain ⟨rfl,hw⟩:=hrel;obtain rfl:=hw.out;by_cases J:hole=0
  ·subst J;have q:=hide (E.out w bR);clear E L r;go_wp2_with (go_at_call 203;refine q.out.mono ?_;rintro e7 U ⟨rfl,d,c⟩;have O:=hide d;have M:=hide c;clear d c;simp only [])
   go_end0
   exact ⟨rfl,O.out,M.out⟩
  ·obtain ⟨m,B⟩:∃ m,m=(hole - 1) / 2:=⟨_,rfl⟩;have I:m < items.length:=by omega
   have hd:((hole:Int) - 1) / 2=(m:Int):=by omega
   have aa:Int.tdiv ((hole:Int) - 1) 2=(m:Int):=by rw [Int.tdiv_eq_ediv_of_nonneg (by omega)];exact hd
   obtain ⟨g3,c3,q3,W⟩:=r.out m I;obtain ⟨x,t⟩:∃ x,x=items[m]:=⟨_,rfl⟩;have H:x < n:=by rw [t];exact N.out _ (List.getElem_mem _)
   rw [<- t] at W;have z:=hide (fun j=>L.out j x H);have m0:(0:Int) <= (m:Int):=by omega
   have m1:(m:Int) < (items.length:Int):=by omega
   have k1:(0:Int) < (hole:Int):=by omega
   have k2:(0:Int) <= (hole:Int) - 1:=by omega
   have k3:(hole:Int) < 1000:=by omega
   clear t B hd q0 R L r;go_upto_region 3 with fail
   go_quiet ((go_at_call 126;exact Calls.quiet_of (z.out _)))
   have q:=hide (E.out (w.drewN nq) ⟨rfl,rfl,rfl,lr,fun _ _=>rfl⟩);clear E z;go_wp2_with (go_at_call 203;refine q.out.mono ?_;rintro e7 U ⟨rfl,d,c⟩;have O:=hide d;have M:=hide c;clear d c;simp only [])
   go_end0
   exact ⟨rfl,O.out,M.out⟩
theorem Lp (h:Ord Z ob hb w wt V X) (r:oF n n X items pl bz) (p:∀ v ∈ items,v < n) (H:∀ a b,decide (bz b < bz a)=false) {v:Nat} (hv:v < n) (U:items.length < 1000):
  Calls Tryz.prog 128 #[.pointer (some ⟨hb,0,none⟩),.int .i64 (v:Nat)] w fun e w'=>e=.returned (.tuple #[])/\dB Z w w'/\∃ V' X',Ord Z ob hb w' wt V' X'/\oF n n X' (items ++ [v]) (eF pl v (items.length:Nat)) bz:=by
 obtain ⟨i0,hi,E,D,C⟩:=info_parts Tryz.fO;have HS:=hide h;obtain ⟨a2,Y,z⟩:=h.eH.shape (k:=2) (by omega);have B:(X 2).length=items.length:=by rw [r.t2,cZ]
 have y:=h.cells.2.2.2.2.1;rw [z,B] at y;have O2:Hid (w.ownsRow 0 3 1 (.slice a2 items.length Y) items.length (dw items)):=by
  have:=h.eH.own 2 (by omega);rw [z,r.t2,cZ] at this;exact this
 have E2:Hid (V 2=.slice a2 items.length Y):=by unfold Hid;rw [z,B]
 have s:Hid (X 2=dw items):=r.t2;have S:=h.hrow.lt;have ns:¬ (hb=w.heap.size):=by omega
 have u:=hide r;have L:Hid (∀ x ∈ items ++ [v],x < n):=fun x i=>by
  rcases List.mem_append.1 i with i | i
  ·exact p x i
  ·simp at i;omega
 clear h r z B p;go_enter Tryz.func128,Tryz.ntmps128
 go_wp2_with (at_builtin;refine dR _ rfl _ _ 43 rfl 0 3 i0 (.int .i64 0) 1 8 Tryz.underlying43 hi E D C rfl (by decide) _ _ _ rfl (O2.out.alloc (.cells #[.int .i64 (v:Int)] 3)) (.slice (some ⟨w.heap.size,0,none⟩) 1 1) 1 [.int .i64 (v:Int)] rfl (.inr ⟨⟨w.heap.size,0,none⟩,1,rfl,World.news_of_block (cs:=#[.int .i64 (v:Int)]) (t:=3) (fr:=(0,0)) (heap_alloc_new w _)⟩) rfl (by simp [Value.oneCell']) (by unfold maxLen;omega) (by omega) zl ?_)
 intro v6 O M;have A7:dz (w.alloc (.cells #[.int .i64 (v:Int)] 3)) 0 3 1 (V 2) (X 2).length (X 2) 1 [.int .i64 (v:Int)] v6 O:=by rw [E2.out,s.out,cZ];exact M
 obtain ⟨Q,W,R,z6⟩:=HS.out.push (m:=1) (news:=[.int .i64 (v:Int)]) rfl A7;rw [E2.out] at R;obtain ⟨d,c,G⟩:=dH M.own;subst G;have J:=hide Q;have C6:=hide W;clear M A7 Q W y O2;go_upto_region 1 with fail
 generalize I:O.setCell ⟨hb,0,none⟩ (.slice d (items.length + 1) c)=W1 at J C6 ⊢;clear I R z6;have XE:Hid (upd X 2 (X 2 ++ [.int .i64 (v:Int)]) 2=dw (items ++ [v])):=by unfold Hid;rw [cz,s.out,jr];rfl
 have M6:oF n n (upd X 2 (X 2 ++ [.int .i64 (v:Int)])) (items ++ [v]) pl bz:=⟨by rw [cu _ _ (by decide)];exact u.out.n0,by rw [cu _ _ (by decide)];exact u.out.t0,by rw [cu _ _ (by decide)];exact u.out.i0,by rw [cu _ _ (by decide)];exact u.out.n1,by rw [cu _ _ (by decide)];exact u.out.t1,XE.out⟩;have y:=J.out.cells.2.2.2.2.1;rw [cz] at y;have QR:=hide (Lh J.out M6 L.out H (item:=v) (hole:=items.length) (by simp) (by simp;omega));clear M6 XE;generalize upd X 2 (X 2 ++ [.int .i64 (v:Int)])=X6 at *
 generalize upd V 2 (.slice d (items.length + 1) c)=V6 at *
 go_wp2_with (go_at_call 173;refine QR.out.mono ?_;rintro e7 N ⟨rfl,q,X7,j,o⟩;have F7:Hid (dB Z w N/\∃ V' X',Ord Z ob hb N wt V' X'/\oF n n X' (items ++ [v]) (eF pl v (items.length:Nat)) bz):=⟨C6.out.trans q,_,X7,j,o⟩;clear q j o;simp only [])
 go_end0
 exact ⟨rfl,F7.out.1,F7.out.2⟩
end
section
variable {ob hb gp gb n:Nat} {w w':World}
theorem Tryz.PU:(Tryz.prog.info? 2).map (fun i=>(i.zero,i.size,i.bytes))=some (some (.int .i64 0),1,8):=by kernel_rfl
theorem FW (ob:Nat) (w:World):Calls Tryz.prog 125 #[ahead ob,placed ob] w fun e w'=>e=.returned (.pointer (some ⟨w.heap.size,0,none⟩))/\w'=w.alloc (.cells #[.slice none 0 0,ahead ob,placed ob] 224):=by
 go_enter Tryz.func125,Tryz.ntmps125
 go_wp2;go_ret
 exact ⟨rfl,rfl⟩
structure Raw (w:World) (n ob gp gb:Nat) (p0:Value) (w':World):Prop where
 mO:Below w.heap.size w w'
 lo:w.heap.size <= ob
 lp:w.heap.size <= gp
 lb:w.heap.size <= gb
 jM:w'.rowIs ob 193 4 (fun j=>if j=0 then p0 else if j=1 then .slice (some ⟨gp,0,none⟩) n n else if j=2 then .slice (some ⟨gb,0,none⟩) n n else .int .i64 65536)
 kV:w'.rowIs gp 3 n (fun _=>.int .i64 0)
 Ni:w'.rowIs gb 2 n (fun _=>.int .i64 0)
def uz (gp gb n:Nat) (k:Nat):Value:=if k=0 then .slice (some ⟨gp,0,none⟩) n n else if k=1 then .slice (some ⟨gb,0,none⟩) n n else .slice none 0 0
def yu (n:Nat) (k:Nat):List Value:=if k=2 then [] else List.replicate n (.int .i64 0)
theorem Cy (n:Nat) (z:Value):(List.range n).map (fun _=>z)=List.replicate n z:=by rw [List.map_const',List.length_range]
theorem four (w:World) (a b c d:Value) (t:TypeId):(w.alloc (.cells #[a,b,c,d] t)).rowIs w.heap.size t 4 (fun j=>if j=0 then a else if j=1 then b else if j=2 then c else d):=
 World.rowIs_alloc w #[a,b,c,d] t _ fun i e=>by
  have e:i < 4:=e
  rcases (show i=0\/i=1\/i=2\/i=3 by omega) with rfl | rfl | rfl | rfl <;> rfl
theorem Yx (w:World) (n:Nat):Raw w n (w.heap.size + 1 + 1) w.heap.size (w.heap.size + 1) (.pointer none) (((w.alloc (.cells (madeCells #[.int .i64 0] n) 3)).alloc (.cells (madeCells #[.int .i64 0] n) 2)).alloc (.cells #[.pointer none,.slice (some ⟨w.heap.size,0,none⟩) n n,.slice (some ⟨w.heap.size + 1,0,none⟩) n n,.int .i64 65536] 193)).drew:=by
 have c:=World.rowIs_made w (.int .i64 0) n 3;have b:=World.rowIs_made (w.alloc (.cells (madeCells #[.int .i64 0] n) 3)) (.int .i64 0) n 2;have a:=four ((w.alloc (.cells (madeCells #[.int .i64 0] n) 3)).alloc (.cells (madeCells #[.int .i64 0] n) 2)) (.pointer none) (.slice (some ⟨w.heap.size,0,none⟩) n n) (.slice (some ⟨w.heap.size + 1,0,none⟩) n n) (.int .i64 65536) 193;simp only [World.size_alloc] at b a;exact ⟨((((Below.refl _ w).alloc lr _).alloc (by simp) _).alloc (by simp;omega) _).drew,by omega,lr,by omega,a.drew,((c.alloc _).alloc _).drew,(b.alloc _).drew⟩
theorem Yw (w:World) (n:Nat):Raw w n (w.heap.size + 1 + 1) (w.heap.size + 1) w.heap.size (.pointer none) (((w.alloc (.cells (madeCells #[.int .i64 0] n) 2)).alloc (.cells (madeCells #[.int .i64 0] n) 3)).alloc (.cells #[.pointer none,.slice (some ⟨w.heap.size + 1,0,none⟩) n n,.slice (some ⟨w.heap.size,0,none⟩) n n,.int .i64 65536] 193)).drew:=by
 have c:=World.rowIs_made w (.int .i64 0) n 2;have b:=World.rowIs_made (w.alloc (.cells (madeCells #[.int .i64 0] n) 2)) (.int .i64 0) n 3;have a:=four ((w.alloc (.cells (madeCells #[.int .i64 0] n) 2)).alloc (.cells (madeCells #[.int .i64 0] n) 3)) (.pointer none) (.slice (some ⟨w.heap.size + 1,0,none⟩) n n) (.slice (some ⟨w.heap.size,0,none⟩) n n) (.int .i64 65536) 193;simp only [World.size_alloc] at b a;exact ⟨((((Below.refl _ w).alloc lr _).alloc (by simp) _).alloc (by simp;omega) _).drew,by omega,by omega,lr,a.drew,(b.alloc _).drew,((c.alloc _).alloc _).drew⟩
theorem Raw.ord (h:Raw w n ob gp gb (.pointer (some ⟨hb,0,none⟩)) w') (u:n <= 50) (o:w.heap.size <= hb) (hrow:w'.rowIs hb 224 3 (fun j=>if j=0 then .slice none 0 0 else if j=1 then ahead ob else placed ob)):
  Ord (fun g=>w.heap.size <= g) ob hb w' 65536 (uz gp gb n) (yu n) where
 jM:=h.jM.congr fun i s=>by
  unfold OU uz
  rcases (show i=0\/i=1\/i=2\/i=3 by omega) with rfl | rfl | rfl | rfl <;> simp
 hrow:=hrow.congr fun i s=>by
  unfold Uw uz
  rcases (show i=0\/i=1\/i=2 by omega) with rfl | rfl | rfl <;> simp
 eH:={
  own:=fun k p=>by
   rcases (show k=0\/k=1\/k=2 by omega) with rfl | rfl | rfl
   ·have:=mJ h.kV (by unfold maxLen;omega);rw [Cy] at this;simpa [uz,yu,EM] using this
   ·have:=mJ h.Ni (by unfold maxLen;omega);rw [Cy] at this;simpa [uz,yu,EM] using this
   ·exact ⟨by simp [yu],.inl ⟨rfl,rfl⟩⟩
  apart:=fun k m p r a=>by
   have b:gp ≠ gb:=fun e=>by
    obtain ⟨c,q,_⟩:=h.kV;obtain ⟨v,t,_⟩:=h.Ni;rw [e,t] at q;exact absurd (Obj.cells.inj (Option.some.inj q)).2.1 (by decide)
   rcases (show k=0\/k=1\/k=2 by omega) with rfl | rfl | rfl <;> rcases (show m=0\/m=1\/m=2 by omega) with rfl | rfl | rfl
   ·exact absurd rfl a
   ·exact .inr (by simpa [uz,Value.ownBlock] using b)
   ·exact .inr (by simp [uz,Value.ownBlock])
   ·exact .inr (by simpa [uz,Value.ownBlock] using fun e=>b e.symm)
   ·exact absurd rfl a
   ·exact .inr (by simp [uz,Value.ownBlock])
   ·exact .inl (by simp [uz,Value.ownBlock])
   ·exact .inl (by simp [uz,Value.ownBlock])
   ·exact absurd rfl a }
 zo:=h.lo
 zh:=o
 al:=fun k p g d=>by
  rcases (show k=0\/k=1\/k=2 by omega) with rfl | rfl | rfl
  ·simp [uz,Value.ownBlock] at d;have:=h.lp;omega
  ·simp [uz,Value.ownBlock] at d;have:=h.lb;omega
  ·simp [uz,Value.ownBlock] at d
 az:=fun g d=>Nat.le_trans h.mO.size d
theorem TF (n:Nat):oF n n (yu n) [] (fun _=>0) (fun _=>0) where
 n0:=by simp [yu]
 t0:=fun v a _=>by simp [yu,a]
 i0:=fun v a=>⟨0,by simp [yu,a]⟩
 n1:=by simp [yu]
 t1:=fun v a=>by simp [yu,a]
 t2:=by simp [yu,dw]
def RD (w:World) (n:Nat) (e:Ending) (w':World):Prop:=∃ ob hb,e=.returned (.pointer (some ⟨ob,0,none⟩))/\iP (fun g=>w.heap.size <= g) ob hb n w' (fun v=>n <= v)/\Below w.heap.size w w'
structure Hg (w:World) (n ob hb:Nat) (k:Nat) (wr:World):Prop where
 ex:∃ V X pl,Ord (fun g=>w.heap.size <= g) ob hb wr 65536 V X/\oF n n X (List.range k) pl (fun _=>0)/\∀ v,v < k->pl v=(v:Nat)
 mO:Below w.heap.size w wr
theorem Hg.fin (h:Hg w n ob hb n w'):RD w n (.returned (.pointer (some ⟨ob,0,none⟩))) w':=by
 obtain ⟨V,X,pl,j,b,e⟩:=h.ex;refine ⟨ob,hb,rfl,⟨⟨65536,V,X,List.range n,fun v=>if v < n then (v:Nat) else -1,fun _=>0,j,⟨b.n0,fun v a d=>by rw [b.t0 v a d,e v a,if_pos a],b.i0,b.n1,b.t1,b.t2⟩,⟨fun v a=>by simpa using a,fun v a=>.inr ⟨v,by simp [a],by simp [a]⟩,fun i c=>by simp at c;simp [c]⟩,fun v=>?_⟩,lr⟩,h.mO⟩;by_cases a:v < n
 ·simp [a]
 ·simp [a];omega
theorem CX (n:Nat) (O:n <= 50) (w:World):Calls Tryz.prog 93 #[.int .i64 (n:Nat)] w fun e w'=>RD w n e w':=by
 have y:=run_make_row' (P:=Tryz.prog) 43 3 (.int .i64 0) 8 Tryz.underlying43 Tryz.fO rfl .i64 .i64 n (by omega) (by omega);have x:=run_make_row' (P:=Tryz.prog) 190 2 (.int .i64 0) 8 Tryz.underlying190 Tryz.PU rfl .i64 .i64 n (by omega) (by omega);go_enter Tryz.func93,Tryz.ntmps93
 go_upto_region 1 with fail
 go_cut [3] from 20 (fun L I=>∃ ob gp gb,L=.pointer (some ⟨ob,0,none⟩)/\Hid (Raw w n ob gp gb (.pointer none) I))
 case first=>
  go_region_with (fail)
  ·go_wp2_with fail
   go_meet;exact ⟨_,_,_,rfl,Yx w n⟩
  ·go_wp2_with fail
   go_meet;exact ⟨_,_,_,rfl,Yw w n⟩
 case rest=>
  obtain ⟨ob,gp,gb,rfl,a⟩:=hcut;have E:=a.out.jM.cell (i:=0) (by omega);have H:=a.out.jM.frozen 0;have M:=a.out.jM.lt;simp only [if_true] at E;have D:=hide (FW ob wc);have s:Hid (Hg w n ob wc.heap.size 0 ((wc.setCell ⟨ob,0,none⟩ (.pointer (some ⟨wc.heap.size,0,none⟩))).alloc (.cells #[.slice none 0 0,ahead ob,placed ob] 224))):=by
   have a:=a.out;have o:=a.mO.size;have nh:ob ≠ wc.heap.size:=by omega
   have R:=a.kV.lt;have S:=a.Ni.lt;have t:gp ≠ ob:=fun e=>by
    obtain ⟨c,d,_⟩:=a.kV;obtain ⟨c',m,_⟩:=a.jM;rw [e,m] at d;exact absurd (Obj.cells.inj (Option.some.inj d)).2.1 (by decide)
   have u:gb ≠ ob:=fun e=>by
    obtain ⟨c,d,_⟩:=a.Ni;obtain ⟨c',m,_⟩:=a.jM;rw [e,m] at d;exact absurd (Obj.cells.inj (Option.some.inj d)).2.1 (by decide)
   have r:Raw w n ob gp gb (.pointer (some ⟨wc.heap.size,0,none⟩)) ((wc.setCell ⟨ob,0,none⟩ (.pointer (some ⟨wc.heap.size,0,none⟩))).alloc (.cells #[.slice none 0 0,ahead ob,placed ob] 224)):={
    mO:=(a.mO.setCell a.lo _).alloc (by simpa [World.setCell] using o) _
    lo:=a.lo
    lp:=a.lp
    lb:=a.lb
    jM:=((a.jM.set 0 _).alloc _).congr fun i B=>by
     by_cases e:i=0
     ·subst e;simp
     ·simp [e]
    kV:=(a.kV.setOther (by simpa using t) _).alloc _
    Ni:=(a.Ni.setOther (by simpa using u) _).alloc _ }
   refine ⟨⟨_,_,_,r.ord O o ?_,TF n,fun v z=>by omega⟩,r.mO⟩;have:=World.rowIs_alloc (wc.setCell ⟨ob,0,none⟩ (.pointer (some ⟨wc.heap.size,0,none⟩))) #[.slice none 0 0,ahead ob,placed ob] 224 (fun j=>if j=0 then .slice none 0 0 else if j=1 then ahead ob else placed ob) fun i B=>by
    have B:i < 3:=B
    rcases (show i=0\/i=1\/i=2 by omega) with rfl | rfl | rfl <;> rfl
   rw [show (wc.setCell ⟨ob,0,none⟩ (.pointer (some ⟨wc.heap.size,0,none⟩))).heap.size=wc.heap.size by simp [World.setCell]] at this;exact this
  clear a y x;have nn:¬ (ob=wc.heap.size):=by omega
  unfold ahead placed at D s;go_upto_region 3 with (go_at_call 125;refine D.out.mono ?_;rintro Y J ⟨rfl,rfl⟩;simp only [])
  generalize C:(wc.setCell ⟨ob,0,none⟩ (.pointer (some ⟨wc.heap.size,0,none⟩))).alloc (.cells #[.slice none 0 0,Value.func (.func 126) #[.pointer (some ⟨ob,0,none⟩)] #[],Value.func (.func 127) #[.pointer (some ⟨ob,0,none⟩)] #[]] 224)=W1 at s ⊢;generalize wc.heap.size=hb at s;clear C E H D;go_wp2_with fail
  go_loopw [4,20] (fun _ h wr=>∃ k:Nat,h=.int .i64 ((k:Nat):Int)/\k <= n/\Hid (Hg w n ob hb k wr)) (fun _ h _=>n - (intOf h).toNat)
  case atStart=>exact ⟨0,rfl,zl,s⟩
  case round=>
   clear s;obtain ⟨k,rfl,U,b⟩:=hrel;by_cases q:k < n
   ·have QP:Hid (Calls Tryz.prog 128 #[.pointer (some ⟨hb,0,none⟩),.int .i64 (k:Nat)] wr fun e w'=>e=.returned (.tuple #[])/\Hg w n ob hb (k + 1) w'):=by
     obtain ⟨V,X,pl,d,m,G⟩:=b.out.ex;refine (Lp d m (fun v z=>by have:=List.mem_range.1 z;omega) (fun _ _=>by simp) q (by simp;omega)).mono ?_;rintro e w' ⟨rfl,W,V',X',N,Q⟩;refine ⟨rfl,⟨V',X',_,N,by rw [List.range_succ];exact Q,fun v z=>?_⟩,b.out.mO.trans (W.below b.out.mO.size (fun g hg=>by omega))⟩;by_cases e:v=k
     ·subst e;rw [dE];simp
     ·rw [df _ _ e];exact G v (by omega)
    have q0:wr.cell? ⟨ob,0,none⟩=some (.pointer (some ⟨hb,0,none⟩)):=by
     obtain ⟨V,X,pl,d,m,G⟩:=b.out.ex;exact d.cells.1
    have k0:(0:Int) <= (k:Int):=by omega
    have k1:(k:Int) < (n:Int):=by omega
    have k2:(k:Int) <= 50:=by omega
    clear b;go_wp2_with (go_at_call 128;refine QP.out.mono ?_;rintro Y J ⟨rfl,p⟩;have S7:=hide p;clear p;simp only [])
    go_roundw
    case rel=>exact ⟨k + 1,by go_num,q,S7⟩
    case measure=>simp [intOf];omega
   ·have e:k=n:=by omega
    subst e;have F:=hide b.out.fin;clear b;go_wp2;go_ret;exact F.out
end
def Vn (w:World) (c:List Nat) (s:Value) (wr:World):Prop:=∃ i:Nat,s=.int .i64 ((i:Nat):Int)/\1 <= i/\(i <= c.length\/i=1)/\Hid ((∀ j (h:j + 1 < c.length),j + 1 < i->c[j + 1] ≠ op c[j])/\∃ d,wr=w.drewN d)
def KI (w:World) (c:List Nat) (e:Ending) (w':World):Prop:=(∃ d,w'=w.drewN d)/\∃ b:Bool,e=.returned (.bool b)/\(b=true↔∃ j,∃ h:j + 1 < c.length,c[j + 1]=op c[j])
theorem wX (c:List Nat) (al:Option Addr) (g o cap:Nat) (w:World) (O:0 < c.length->al=some ⟨g,o,none⟩) (G:∀ j (h:j < c.length),w.cell? ⟨g,o + j,none⟩=some (.int .i64 (c[j]:Nat))) (E:∀ x ∈ c,x < 128) (hn:c.length <= 1099511627776):
  Calls Tryz.prog 131 #[.slice al c.length cap] w fun e w'=>KI w c e w':=by
 have J:=hide G;have Q:=hide E;clear G E;go_enter Tryz.func131,Tryz.ntmps131
 go_wp2_with fail
 go_loopw [3] (fun s wr=>Vn w c s wr) (fun s _=>c.length - (intOf s).toNat)
 case atStart=>exact ⟨1,rfl,by omega,.inr rfl,fun j _ h=>by omega,0,rfl⟩
 case round=>
  obtain ⟨i,rfl,hi,M,q⟩:=hrel;obtain ⟨d,hd⟩:=q.out.2;have b:=hide q.out.1;clear q;by_cases u:i < c.length
  ·obtain rfl:=O (by omega);have z:=J.out i u;have B:=J.out (i - 1) (by omega);have D:=Q.out _ (List.getElem_mem (show i - 1 < c.length by omega));obtain ⟨v,t⟩:∃ x,x=c[i]:=⟨_,rfl⟩;obtain ⟨y,r⟩:∃ x,x=c[i - 1]:=⟨_,rfl⟩;rw [<- t] at z;rw [<- r] at B D;have H:=hide (fun Y=>kE y Y D);have W:(0:Int) <= (i:Int):=by omega
   have L:(i:Int) < (c.length:Int):=by omega
   have U:(0:Int) <= (i:Int) - 1:=by omega
   have T:(i:Int) - 1 < (c.length:Int):=by omega
   have S:((i:Int) - 1).toNat=i - 1:=by omega
   have R:(i:Int) <= 1099511627776:=by omega
   have k:∀ a,wr.cell? a=w.cell? a:=fun a=>by rw [hd];rfl
   rw [<- k] at z B;have I:Hid (∀ m,∃ d,wr.drewN m=w.drewN d):=fun m=>⟨d + m,by rw [hd,World.drewN_drewN]⟩
   clear k hd;generalize p:op y=C at *
   by_cases hb:v=C
   ·have F:Hid (∀ m,KI w c (.returned (.bool true)) (wr.drewN m)):=fun m=>⟨I.out m,true,rfl,fun _=>⟨i - 1,by omega,by
     have e:i - 1 + 1=i:=by omega
     simp only [e];rw [<- t,<- r,p,hb]⟩,fun _=>rfl⟩
    subst hb;clear r t p b;go_upto_region 4 with fail
    go_quiet ((go_at_call 139;exact Calls.quiet_of_same (H.out _)))
    go_wp2;go_ret
    exact F.out _
   ·have F:Hid (∀ m,Vn w c (.int .i64 ((i + 1:Nat):Int)) (wr.drewN m)):=fun m=>⟨i + 1,rfl,by omega,.inl (by omega),fun j h hj=>by
     by_cases e:j + 1=i
     ·subst e;simp only [Nat.add_sub_cancel] at r;rw [<- t,<- r,p];exact hb
     ·exact b.out j h (by omega),I.out m⟩
    have N:((v:Int) == (C:Int))=false:=by
     rw [beq_eq_false_iff_ne];omega
    clear r t p b;go_upto_region 4 with fail
    go_quiet ((go_at_call 139;exact Calls.quiet_of_same (H.out _)))
    go_wp2;go_roundw
    case rel=>exact F.out _
    case measure=>simp [intOf];omega
  ·have F:Hid (KI w c (.returned (.bool false)) wr):=⟨⟨d,hd⟩,false,rfl,⟨fun h=>(by cases h),fun ⟨j,h,e⟩=>absurd e (b.out j h (by omega))⟩⟩;have L:¬ ((i:Int) < (c.length:Int)):=by omega
   clear b hd;go_wp2;go_ret;exact F.out
theorem Wl {i:Nat} (h:i < 10):Lib.decDigits i=[UInt8.ofNat (48 + i)]:=by rw [Lib.decDigits,dif_pos h]
theorem XF {i:Nat} (h:¬ i < 10) (a:i < 100):Lib.decDigits i=[UInt8.ofNat (48 + i / 10),UInt8.ofNat (48 + i % 10)]:=by rw [Lib.decDigits,dif_neg h,Wl (by omega)];rfl
theorem K3 (i:Nat) (hi:i < 100) (w:World):Calls Tryz.prog 149 #[.int .i64 (i:Nat)] w fun e w'=>(∃ x:ByteArray,e=.returned (.string x)/\Hid (x.data.toList=Lib.decDigits i))/\w'=w:=by
 by_cases h:i < 10
 ·have k:(0:Int) <= (i:Int):=by omega
  have j:(i:Int) < 10:=by omega
  have d:(i:Int) <= 36:=by omega
  have c:(i:Int) + 1 <= 36:=by omega
  have b:((i:Int) + 1).toNat=i + 1:=by omega
  have a:(i:Int) <= (i:Int) + 1:=by omega
  go_enter Tryz.func149,Tryz.ntmps149
  go_wp2;go_ret
  refine ⟨⟨_,rfl,?_⟩,rfl⟩;clear k j d c b a hi;unfold Hid;rw [Wl h];rename_i m o q;clear q o m;revert i
  decide +kernel
 ·have k:(0:Int) <= (i:Int) * 2:=by omega
  have j:¬ (i:Int) < 10:=by omega
  have d:(i:Int) * 2 <= 200:=by omega
  have c:(i:Int) * 2 + 2 <= 200:=by omega
  have b:((i:Int) * 2 + 2).toNat=i * 2 + 2:=by omega
  have p:((i:Int) * 2).toNat=i * 2:=by omega
  have a:(i:Int) * 2 <= (i:Int) * 2 + 2:=by omega
  go_enter Tryz.func149,Tryz.ntmps149
  go_wp2;go_ret
  refine ⟨⟨_,rfl,?_⟩,rfl⟩;clear k j d c b a p;unfold Hid;rw [XF h hi];revert i
  decide +kernel
end
section
open Go Go.RowKit Go.Deep Rd Go.Lib
section
section
variable {P:Program}
theorem xZ (w:World) (base:Nat) (t u q e:TypeId) (i:TypeInfo) (z:P.underlying t=some (.slice e)) (y:P.underlying u=some .string) (hi:P.info? e=some i) (C:i.zero=some (.int .u8 0))
  (b:i.size=1) (k:i.bytes=1) (v:Value) (n:Nat) (p:List Value) (c:w.ownsRow base e 1 v n p) (s:ByteArray)
  (r:n + s.size <= maxLen) (d:n + s.size <= 140737488355328) (m:base <= w.heap.size):
  ∃ x w',(Builtin.append_ #[t,u] q #[v,.string s]).run P w=.ok x w'/\dz w base e 1 v n p s.size (strCells s) x w':=by
 obtain ⟨x,w',B,Q,O,N⟩:=run_append_own_string (P:=P) w base t u q e i z y hi C b k v n p c s r d m;refine ⟨x,w',B,Q,O,?_⟩;have A:n + s.size <= 9223372036854775807:=by simp only [maxLen] at r;omega
 have D:p.length=n:=by simpa using c.1
 rcases c.2 with ⟨rfl,rfl⟩ | ⟨g,o,F,rfl,M,I,G,L,J,E⟩
 ·by_cases H:s.size=0
  ·left;rw [N.2 ⟨rfl,H⟩]
  ·right
   have a:=run_append_nil_string (P:=P) w t u q e i (.int .u8 0) z y hi C s (by omega) (by omega) (by rw [k];omega);rw [B] at a
   injection a with e1 e2
   rw [e1];rfl
 ·by_cases h:n + s.size <= o
  ·left
   have a:=run_append_room_string (P:=P) w t u q e i z y hi b g n o F I s h (by omega);rw [B] at a
   injection a with e1 e2
   rw [e1];rfl
  ·right
   have holds:∀ j u,p[j]? = some u->w.cell? ((⟨g,0,none⟩:Addr).add j)=some u:=c.cells (g:=g) rfl;have a:=run_append_grow_string (P:=P) w t u q e i (.int .u8 0) z y hi C ⟨g,0,none⟩ n o p (by rw [b];simpa using D) holds s (by omega) (by omega) (by rw [k];exact growslice_fits (by omega) (by omega));rw [B] at a
   injection a with e1 e2
   rw [e1];rfl
theorem kr (w:World) {j:Array Oper} {rest:List Oper} {o:Oper} {a:Act} {Q:Exit->Act->World->Prop} (q:o.guard=none) (z x:Operand) (t u:TypeId)
  (G:o.op=.call { callee:=.builtin .append,args:=#[z,x],argTypes:=#[t,u] })
  (base:Nat) (e:TypeId) (i:TypeInfo) (D:P.underlying t=some (.slice e)) (C:P.underlying u=some .string) (hi:P.info? e=some i) (A:i.zero=some (.int .u8 0))
  (c:i.size=1) (r:i.bytes=1)
  (v:Value) (n:Nat) (p:List Value) (E:a.eval z=v) (k:w.ownsRow base e 1 v n p) (s:ByteArray) (B:a.eval x=.string s)
  (y:n + s.size <= maxLen) (b:n + s.size <= 140737488355328) (d:base <= w.heap.size)
  (h:∀ m w',dz w base e 1 v n p s.size (strCells s) m w'->wpList P j Q rest (a.put o.dst m) w'):wpList P j Q (o :: rest) a w:=by
 refine wpList_plain q fun K H=>?_
 obtain ⟨m,w',F,I⟩:=xZ (P:=P) w base t u o.type e i D C hi A c r v n p k s y b d;unfold Oper.wp execOp;simp only [G,resolve,invoke,builtin,Sem.run_bind,Sem.run_pure,Result.andThen_ok,List.map_toArray,List.map_cons,List.map_nil,E,B,F];exact H _ _ (h m w' I)
end
theorem Tryz.rT:(Tryz.prog.info? 5).map (fun i=>(i.zero,i.size,i.bytes))=some (some (.int .u8 0),1,1):=by kernel_rfl
theorem Uz {i:Nat} (hi:i < 100) {s:ByteArray} (h:s.data.toList=Lib.decDigits i):s.size <= 2:=by
 have e:s.size=s.data.toList.length:=(Array.length_toList).symm;rw [e,h];by_cases h:i < 10
 ·rw [Wl h];exact Nat.le_succ _
 ·rw [XF h hi];exact lr
theorem zF (i:Nat) (hi:i < 100) (v:Value) (n:Nat) (m:List Value) (w:World) (a:w.ownsRow 0 5 1 v n m) (y:n <= 1000000):
  Calls Tryz.prog 237 #[v,.int .u64 (i:Nat),.int .i64 10] w fun e w'=>∃ b s,e=.returned b/\s.data.toList=Lib.decDigits i/\dz w 0 5 1 v n m s.size (strCells s) b w':=by
 have q:=hide (K3 i hi);obtain ⟨c,k,j,h,d⟩:=info_parts Tryz.rT;have r:=hide a;clear a;have u:(i:Int) < 100:=by omega
 have x:(0:Int) <= (i:Int):=by omega
 go_enter Tryz.func237,Tryz.ntmps237
 go_wp2_with (first | (go_at_call 149;refine (q.out _).mono ?_;rintro z t ⟨⟨s,rfl,o⟩,rfl⟩;have p:s.size <= 2:=Uz hi o.out;simp only []) | (at_builtin;refine kr _ rfl _ _ 107 9 rfl 0 5 c Tryz.underlying107 Tryz.underlying9 k j h d _ _ _ rfl r.out s rfl (by unfold maxLen;omega) (by omega) zl ?_;intro b w' A))
 go_wp2;go_ret
 exact ⟨b,s,rfl,o.out,A⟩
end
structure fQ (w:World) (v:Value) (n:Nat) (xs news:List Value) (v':Value) (w':World):Prop where
 own:w'.ownsRow 0 5 1 v' (n + news.length) (xs ++ news)
 grew:w.grownBy w' v.ownBlock
 at':v'.ownBlock=v.ownBlock\/∃ g,w.heap.size <= g/\v'.ownBlock=some g
theorem fQ.trans {w q p:World} {v t r:Value} {n:Nat} {o a b:List Value} (h:fQ w v n o a t q) (k:fQ q t (n + a.length) (o ++ a) b r p):fQ w v n o (a ++ b) r p where
 own:=by rw [List.length_append,<- Nat.add_assoc,<- List.append_assoc];exact k.own
 grew:=⟨k.grew.os.trans h.grew.os,k.grew.tape.trans h.grew.tape,k.grew.output.trans h.grew.output,Nat.le_trans h.grew.size k.grew.size,fun i u d=>by
  have s:=h.grew.size;rw [k.grew.block i (by omega) (fun e=>by
   rcases h.at' with c | ⟨g,j,c⟩
   ·exact d (e.trans c)
   ·rw [c] at e;have:=Option.some.inj e;omega),h.grew.block i u d]⟩
 at':=by
  rcases k.at' with m | ⟨g,j,m⟩
  ·rcases h.at' with c | ⟨g,j,c⟩
   ·exact .inl (m.trans c)
   ·exact .inr ⟨g,j,m.trans c⟩
  ·exact .inr ⟨g,Nat.le_trans h.grew.size j,m⟩
theorem fQ.of {w w':World} {v v':Value} {n m:Nat} {a news:List Value} (b:news.length=m) (A:dz w 0 5 1 v n a m news v' w'):fQ w v n a news v' w' where
 own:=by rw [b];exact A.own
 grew:=A.grew
 at':=A.at'.elim .inl fun h=>.inr ⟨_,lr,h⟩
theorem fQ.J5 {w w':World} {v v':Value} {n m:Nat} {b news:List Value} {ob:Obj} (c:news.length=m) (A:dz (w.alloc ob) 0 5 1 v n b m news v' w'):fQ w v n b news v' w' where
 own:=by rw [c];exact A.own
 grew:=⟨A.grew.os,A.grew.tape,A.grew.output,by have:=A.grew.size;simp at this;omega,fun k d a=>by
  rw [A.grew.block k (by simp;omega) a];exact Below.heap_alloc w _ k d⟩
 at':=A.at'.elim .inl fun h=>.inr ⟨_,by simp,h⟩
def dM (l:List UInt8):List Value:=l.map fun b=>Value.int .u8 b.toNat
theorem zA (s:ByteArray):strCells s=dM s.data.toList:=by simp [strCells,dM]
theorem oC (i:Nat) (hi:i < 100) (v:Value) (n:Nat) (c:List Value) (w:World) (a:w.ownsRow 0 5 1 v n c) (d:n <= 1000000):
  Calls Tryz.prog 237 #[v,.int .u64 (i:Nat),.int .i64 10] w fun e w'=>∃ b,e=.returned b/\fQ w v n c (dM (Lib.decDigits i)) b w':=
 (zF i hi v n c w a d).mono fun e w' ⟨b,s,h1,h2,A⟩=>⟨b,h1,by
  rw [<- h2,<- zA];exact fQ.of (by rw [strCells_length]) A⟩
theorem DD (x:Int) (J:-100 < x) (I:x < 100) (v:Value) (n:Nat) (b:List Value) (w:World) (a:w.ownsRow 0 5 1 v n b) (H:n <= 100000):
  Calls Tryz.prog 214 #[v,.int .i64 x,.int .i64 10] w fun e w'=>∃ r,e=.returned r/\fQ w v n b (dM (Lib.itoa x)) r w':=by
 have t:=hide a;clear a;by_cases s:x < 0
 ·obtain ⟨i,rfl⟩:∃ i:Nat,x=-(i:Int):=⟨x.natAbs,by omega⟩;obtain ⟨z,p,o,m,k⟩:=info_parts Tryz.rT;have q:=hide (fun j c (h:c.ownsRow 0 5 1 j (n + 1) (b ++ [.int .u8 45]))=>oC i (by omega) j (n + 1) (b ++ [.int .u8 45]) c h (by omega));rw [show Lib.itoa (-(i:Int))=[45] ++ Lib.decDigits i by unfold Lib.itoa;rw [if_pos s,show (-(i:Int)).natAbs=i by omega];rfl];rw [show dM ([45] ++ Lib.decDigits i)=[.int .u8 45] ++ dM (Lib.decDigits i) by unfold dM;rw [List.map_append];rfl];have D:IntKind.u64.wrap (-(i:Int))=18446744073709551616 - i:=by simp [IntKind.wrap,IntKind.bits,IntKind.signed];omega
  have C:IntKind.u64.wrap (-(18446744073709551616 - (i:Int)))=i:=by simp [IntKind.wrap,IntKind.bits,IntKind.signed];omega
  have B:IntKind.u64.wrap (0 - (18446744073709551616 - (i:Int)))=i:=by simp [IntKind.wrap,IntKind.bits,IntKind.signed];omega
  go_enter Tryz.func214,Tryz.ntmps214
  go_wp2_with (first | (go_at_call 237;refine (q.out _ _ u.own).mono ?_;rintro E y ⟨d,rfl,A⟩;simp only []) | (at_builtin;refine dR _ rfl _ _ 107 rfl 0 5 z (.int .u8 0) 1 1 Tryz.underlying107 p o m k rfl (by decide) _ _ _ rfl (t.out.alloc (.cells #[.int .u8 45] 5)) (.slice (some ⟨w.heap.size,0,none⟩) 1 1) 1 [.int .u8 45] rfl (.inr ⟨⟨w.heap.size,0,none⟩,1,rfl,(cell_one_new w _ _)⟩) rfl (by simp [Value.oneCell']) (by unfold maxLen;omega) (by omega) zl ?_;intro j c G;have u:=fQ.J5 (by rfl) G))
  go_ret
  exact ⟨d,rfl,u.trans A⟩
 ·obtain ⟨i,rfl⟩:=Int.eq_ofNat_of_zero_le (show 0 <= x by omega);have q:=hide (oC i (by omega) v n b w t.out (by omega));rw [show Lib.itoa (i:Int)=Lib.decDigits i by unfold Lib.itoa;rw [if_neg s];rfl];have D:IntKind.u64.wrap (i:Int)=i:=by simp [IntKind.wrap,IntKind.bits,IntKind.signed];omega
  go_enter Tryz.func214,Tryz.ntmps214
  go_wp2_with (go_at_call 237;refine q.out.mono ?_;rintro E y ⟨d,rfl,A⟩;simp only [])
  go_ret
  exact ⟨d,rfl,A⟩
theorem Ao (x:Int) (j:-100 < x) (i:x < 100) (v:Value) (n:Nat) (b:List Value) (w:World) (a:w.ownsRow 0 5 1 v n b) (h:n <= 100000):
  Calls Tryz.prog 180 #[v,.int .i64 x,.int .i64 10] w fun e w'=>∃ c,e=.returned c/\fQ w v n b (dM (Lib.itoa x)) c w':=by
 have k:=hide (DD x j i v n b w a h);clear a;go_enter Tryz.func180,Tryz.ntmps180
 go_wp2_with (go_at_call 214;refine k.out.mono ?_;rintro o m ⟨d,rfl,A⟩;simp only [])
 go_ret
 exact ⟨d,rfl,A⟩
section
variable {Z:Nat->Prop} {sb K:Nat} {w w':World} {f V:Nat->Value} {X:Nat->List Value}
theorem rD.longer {B:Nat} (h:rD 0 w K kM V X) (o:12 < K) {v':Value} {w6:World} {news:List Value} (A:fQ w (V 12) (X 12).length (X 12) news v' w6):rD 0 w6 K kM (upd V 12 v') (upd X 12 (X 12 ++ news)) where
 own:=fun i b=>by
  by_cases e:i=12
  ·subst e;rw [cz,cz,List.length_append];exact A.own
  ·rw [cu _ _ e,cu _ _ e];exact (h.own i b).kept A.grew (h.apart i 12 b o e)
 apart:=fun i j b d a=>by
  by_cases e:i=12
  ·subst e;rw [cz,cu _ _ (fun e=>a e.symm)]
   rcases A.at' with c | ⟨g,p,c⟩
   ·rw [c];exact h.apart 12 j b d a
   ·rw [c];refine .inr fun k=>?_
    have:=((h.own j d).lt _ k.symm).2;omega
  ·rw [cu _ _ e];by_cases m:j=12
   ·subst m;rw [cz]
    rcases A.at' with c | ⟨g,p,c⟩
    ·rw [c];exact h.apart i 12 b d a
    ·rw [c]
     cases hb:(V i).ownBlock with
     | none=>exact .inl rfl
     | some g2=>
      refine .inr fun k=>?_
      have:=((h.own i b).lt _ hb).2;have:=Option.some.inj k;omega
   ·rw [cu _ _ m];exact h.apart i j b d a
end
end
section
open Go Go.RowKit Go.Deep Rd
section
structure nR (Z:Nat->Prop) (kb:Nat) (w:World) (l:List UInt8):Prop where
 ex:∃ f:Nat->Value,w.rowIs kb 111 2 f/\(f 0=.pointer none\/f 0=.pointer (some ⟨kb,0,none⟩))/\w.ownsRow 0 5 1 (f 1) l.length (dM l)/\∀ g,(f 1).ownBlock=some g->Z g
 zk:Z kb
 az:∀ g,w.heap.size <= g->Z g
variable {Z:Nat->Prop} {kb:Nat} {w w':World} {l:List UInt8}
theorem nN (l:List UInt8):(dM l).length=l.length:=by simp [dM]
theorem sI (a b:List UInt8):dM (a ++ b)=dM a ++ dM b:=by simp [dM]
theorem nR.far {f:Nat->Value} (b:w.rowIs kb 111 2 f) {v:Value} {a:List Value} {n:Nat} (d:w.ownsRow 0 5 1 v n a):∀ g,v.ownBlock=some g->g ≠ kb:=fun g h e=>by
 obtain ⟨c,i,_⟩:=b;subst e;exact Lib.ownBlock_ne d i (by decide) h
theorem nR.Lj {Z':Nat->Prop} (h:nR Z kb w l) (i:∀ g,g < w.heap.size->Z g->Z' g) (j:∀ g,w.heap.size <= g->Z' g):nR Z' kb w l:=by
 obtain ⟨f,a,b,c,d⟩:=h.ex;exact ⟨⟨f,a,b,c,fun g e=>i g (c.lt g e).2 (d g e)⟩,i kb a.lt h.zk,j⟩
theorem nR.kept (h:nR Z kb w l) {Z':Nat->Prop} (i:dB Z' w w') (hd:∀ g,g < w.heap.size->Z g->¬ Z' g):nR Z kb w' l:=by
 obtain ⟨f,a,b,c,d⟩:=h.ex;exact ⟨⟨f,a.of_block (i.block _ a.lt (hd kb a.lt h.zk)),b,ownB c fun g e=>i.block g (c.lt g e).2 (hd g (c.lt g e).2 (d g e)),d⟩,h.zk,fun g e=>h.az g (Nat.le_trans i.size e)⟩
theorem nR.later (h:nR Z kb w l) (hb:Below w.heap.size w w'):nR Z kb w' l:=
 h.kept (Z':=fun _=>False) (dB.of_below hb) fun _ _ _ h=>h
theorem nR.lt (h:nR Z kb w l):kb < w.heap.size:=by obtain ⟨f,a,_⟩:=h.ex;exact a.lt
theorem Lg {T:TypeId} {n b:Nat} {f:Nat->Value} (h:w.rowIs b T n f):w.shape? b=some (T,n):=by
 obtain ⟨c,d,a,_⟩:=h;unfold World.shape?;rw [d];simp [a]
theorem sizeBuilder:(Tryz.prog.info? 109).map (·.size)=some 2:=by kernel_rfl
theorem liesBuilder:liesAt Tryz.prog Tryz.prog.depth 111 (2 / Tryz.prog.cellsOf 111) 0 109 1=true:=by kernel_rfl
theorem zn (b:w.cell? ⟨kb,0,none⟩=some (.pointer (some ⟨kb,0,none⟩))):
  Calls Tryz.prog 275 #[.pointer (some ⟨kb,0,none⟩)] w fun e w'=>e=.returned (.tuple #[])/\w'=w:=by
 obtain ⟨j,a,_⟩:=Option.map_eq_some_iff.1 sizeBuilder;go_enter Tryz.func275,Tryz.ntmps275
 go_wp2;rw [Lib.run_neq_ptr_same w _ Tryz.underlying106 a]
 go_wp2;go_end0
 exact ⟨rfl,rfl⟩
theorem xg (h:w.cell? ⟨kb,0,none⟩=some (.pointer none)) (a:w.shape? kb=some (111,2)) (d:w.frozen? ⟨kb,0,none⟩=false):
  Calls Tryz.prog 275 #[.pointer (some ⟨kb,0,none⟩)] w fun e w'=>e=.returned (.tuple #[])/\w'=w.setCell ⟨kb,0,none⟩ (.pointer (some ⟨kb,0,none⟩)):=by
 obtain ⟨j,c,b⟩:=Option.map_eq_some_iff.1 sizeBuilder;go_enter Tryz.func275,Tryz.ntmps275
 go_wp2;rw [Lib.run_to_unsafe w ⟨kb,0,none⟩ Tryz.underlying106 Tryz.underlying291 c (by rw [b];decide) a (Nat.zero_lt_succ 1)]
 simp only [Result.andThen];rw [Oper.upon_value];go_wp2;rw [run_callFunc_extern Tryz.func276 (by kernel_rfl) (by kernel_rfl) (by kernel_rfl) (e:=Extern.AbiNoEscape.same) (by kernel_rfl)];rw [Lib.run_noEscape];simp only [Result.andThen];rw [Oper.upon_value];go_wp2;rw [Lib.run_from_unsafe w ⟨kb,0,none⟩ Tryz.underlying291 Tryz.underlying106 c a liesBuilder];simp only [Result.andThen];rw [Oper.upon_value];go_wp2;go_end0;exact ⟨rfl,rfl⟩
theorem Al (h:nR Z kb w l):Calls Tryz.prog 275 #[.pointer (some ⟨kb,0,none⟩)] w fun e w'=>e=.returned (.tuple #[])/\dB Z w w'/\nR Z kb w' l/\w'.heap.size=w.heap.size/\∀ g,g ≠ kb->w'.heap[g]? = w.heap[g]? := by
 obtain ⟨f,a,b,j,k⟩:=h.ex
 rcases b with b | b
 ·have d:=a.cell (i:=0) (by omega);rw [b] at d;refine (xg d (Lg a) (a.frozen 0)).mono ?_;rintro e w' ⟨rfl,rfl⟩;refine ⟨rfl,(dB.refl w).setCell h.zk _,⟨⟨upd f 0 (.pointer (some ⟨kb,0,none⟩)),(a.set 0 _).congr fun i m=>by unfold upd;rfl,.inr (cz ..),?_,?_⟩,h.zk,fun g c=>h.az g (by simpa [World.setCell] using c)⟩,by simp [World.setCell],fun g c=>Below.heap_setCell _ _ _ _ (by simpa using c)⟩
  ·rw [cu _ _ (by decide)];exact ownB j fun g c=>Below.heap_setCell _ _ _ _ (by simpa using nR.far a j g c)
  ·rw [cu _ _ (by decide)];exact k
 ·have d:=a.cell (i:=0) (by omega);rw [b] at d;refine (zn d).mono ?_;rintro e w' ⟨rfl,rfl⟩;exact ⟨rfl,dB.refl _,h,rfl,fun _ _=>rfl⟩
theorem nR.push (h:nR Z kb w l) {f:Nat->Value} (c:w.rowIs kb 111 2 f) (p:f 0=.pointer none\/f 0=.pointer (some ⟨kb,0,none⟩)) (q:w.ownsRow 0 5 1 (f 1) l.length (dM l)) (o:∀ g,(f 1).ownBlock=some g->Z g) {m:List UInt8} {v':Value} {w6:World} (A:dz w 0 5 1 (f 1) l.length (dM l) m.length (dM m) v' w6):
  nR Z kb (w6.setCell ⟨kb,1,none⟩ v') (l ++ m)/\dB Z w (w6.setCell ⟨kb,1,none⟩ v')/\(∀ j,j < 2->w6.cell? ⟨kb,j,none⟩=some (f j))/\w6.frozen? ⟨kb,1,none⟩=false:=by
 have b:=c.of_block (A.grew.block kb c.lt fun e=>nR.far c q kb e.symm rfl);have d:=nR.far b A.own;refine ⟨⟨⟨upd f 1 v',(b.set 1 _).congr fun i s=>by unfold upd;rfl,by rw [cu _ _ (by decide)];exact p,?_,?_⟩,h.zk,fun g a=>h.az g (by have:=A.grew.size;simp [World.setCell] at a;omega)⟩,((dB.refl w).grown A.grew fun g a=>o g a).setCell h.zk _,fun j r=>b.cell r,b.frozen 1⟩
 ·rw [cz,List.length_append,sI];exact ownB A.own fun g a=>Below.heap_setCell _ _ _ _ (by simpa using d g a)
 ·rw [cz];intro g a
  rcases A.at' with k | k
  ·rw [k] at a;exact o g a
  ·rw [k] at a;have:=Option.some.inj a;exact h.az g (by omega)
theorem vL (h:nR Z kb w l) (o c:Nat) (i:List UInt8) (J:o ≠ kb) (p:∀ j (M:j < i.length),w.cell? ⟨o,j,none⟩=some (.int .u8 (i[j]).toNat)) (Y:l.length + i.length <= 140737488355328):
  Calls Tryz.prog 274 #[.pointer (some ⟨kb,0,none⟩),.slice (some ⟨o,0,none⟩) i.length c] w fun e w'=>e=.returned (.tuple #[.int .i64 (i.length:Nat),.nilIface])/\dB Z w w'/\nR Z kb w' (l ++ i):=by
 obtain ⟨i0,hi,G,E,D⟩:=info_parts Tryz.rT;have QC:=hide (Al h);have O:Hid (∀ m,nR Z kb m l->(∀ g,g ≠ kb->m.heap[g]? = w.heap[g]?)->∃ v:Value,m.cell? ⟨kb,1,none⟩=some v/\m.ownsRow 0 5 1 v l.length (dM l)/\Src m (.slice (some ⟨o,0,none⟩) i.length c) i.length (dM i)/\∀ B k,dz m 0 5 1 v l.length (dM l) i.length (dM i) B k->nR Z kb (k.setCell ⟨kb,1,none⟩ B) (l ++ i)/\dB Z m (k.setCell ⟨kb,1,none⟩ B)/\(∃ u,k.cell? ⟨kb,1,none⟩=some u)/\k.frozen? ⟨kb,1,none⟩=false):=fun m h1 hh=>by
  obtain ⟨f,U,hp,W,ha⟩:=h1.ex;refine ⟨f 1,U.cell (by omega),W,.inr ⟨⟨o,0,none⟩,c,rfl,fun j u q=>?_⟩,fun B k A=>?_⟩
  ·have M:j < i.length:=by
    rcases Nat.lt_or_ge j i.length with g | g
    ·exact g
    ·rw [List.getElem?_eq_none (by rw [nN];exact g)] at q;cases q
   have:(dM i)[j]? = some (.int .u8 (i[j]).toNat):=by simp [dM,M]
   rw [this] at q;obtain rfl:=Option.some.inj q;rw [show (Addr.add ⟨o,0,none⟩ j:Addr)=⟨o,j,none⟩ by by_cases L:j=0 <;> simp [Addr.add,L],World.cell?_of_block (w:=w) (a:=⟨o,j,none⟩) (hh o J)];exact p j M
  ·obtain ⟨a,b,c',d⟩:=h1.push U hp W ha A;exact ⟨a,b,⟨_,c' 1 (by omega)⟩,d⟩
 have bl:(dM i).length=i.length * 1:=by rw [nN];omega
 have one:∀ u ∈ dM i,u.oneCell'=true:=fun u q=>by
  unfold dM at q;obtain ⟨y,_,rfl⟩:=List.mem_map.1 q;rfl
 clear h p;go_enter Tryz.func274,Tryz.ntmps274
 go_wp2_with (first | (go_at_call 275;refine QC.out.mono ?_;rintro e1 m ⟨rfl,x,s,-,t⟩;obtain ⟨v1,q1,S,r,z⟩:=O.out m s t;have C1:=hide x;have N:=hide S;have SR:=hide r;have AF:=hide z;clear x s t S r z;obtain ⟨ad,ab,I⟩:=dH N.out;subst I;simp only []) | (at_builtin;refine dR _ rfl _ _ 107 rfl 0 5 i0 (.int .u8 0) 1 1 Tryz.underlying107 hi G E D rfl (by decide) _ _ _ rfl N.out (.slice (some ⟨o,0,none⟩) i.length c) i.length (dM i) rfl SR.out bl one (by unfold maxLen;omega) (by omega) zl ?_))
 intro C k Q;obtain ⟨R,c6,⟨u6,q6⟩,z6⟩:=AF.out C k Q;have F:Hid (dB Z w (k.setCell ⟨kb,1,none⟩ C)/\nR Z kb (k.setCell ⟨kb,1,none⟩ C) (l ++ i)):=⟨C1.out.trans c6,R⟩;obtain ⟨ac,aa,H⟩:=dH Q.own;subst H;clear Q R c6 q1 N SR AF;go_wp2;go_ret2;exact ⟨rfl,F.out.1,F.out.2⟩
theorem xN (h:nR Z kb w l) (m c:Nat) (b:List UInt8) (o:m ≠ kb) (a:∀ j (hj:j < b.length),w.cell? ⟨m,j,none⟩=some (.int .u8 (b[j]).toNat)) (i:l.length + b.length <= 140737488355328):
  Calls Tryz.prog 273 #[.pointer (some ⟨kb,0,none⟩),.slice (some ⟨m,0,none⟩) b.length c] w fun e w'=>e=.returned (.tuple #[.int .i64 (b.length:Nat),.nilIface])/\dB Z w w'/\nR Z kb w' (l ++ b):=by
 have q:=hide (vL h m c b o a i);clear h a;go_enter Tryz.func273,Tryz.ntmps273
 go_wp2_with (go_at_call 274;refine q.out.mono ?_;rintro t s ⟨rfl,k,d⟩;have r:=hide k;have p:=hide d;clear k d;simp only [])
 go_ret2
 exact ⟨rfl,r.out,p.out⟩
end
section
variable {Z:Nat->Prop} {sb ob hb kb K n:Nat} {w w':World} {f f' V V':Nat->Value} {X X':Nat->List Value} {gone fB:Nat->Prop} {Rs Ro H9 Vg Rd Rk:Nat->Prop} {l l':List UInt8}
theorem Duo.Lj {Z':Nat->Prop} (h:Duo Z sb ob hb n w K f V X gone Rs Ro) (b:∀ g,g < w.heap.size->Z g->Z' g) (c:∀ g,w.heap.size <= g->Z' g):Duo Z' sb ob hb n w K f V X gone Rs Ro:=
 { h with zs:=fun g a=>b g (h.ls g a) (h.zs g a),zo:=fun g a=>b g (h.lo g a) (h.zo g a),az:=c }
theorem Duo.nJ {R:Nat->Prop} (h:Duo (zz R w) sb ob hb n w K f V X gone Rs Ro) {Z':Nat->Prop} (c:dB Z' w w') (hd:∀ g,g < w.heap.size->R g->¬ Z' g):Duo (zz R w') sb ob hb n w' K f V X gone Rs Ro where
 dF:=h.dF.nJ c fun g b a=>hd g b (iR b (h.zs g a))
 ord:=h.ord.nJ c fun g b a=>hd g b (iR b (h.zo g a))
 f12:=h.f12
 za:=h.za
 ls:=fun g a=>Nat.lt_of_lt_of_le (h.ls g a) c.size
 lo:=fun g a=>Nat.lt_of_lt_of_le (h.lo g a) c.size
 zs:=fun g a=>.inl (iR (h.ls g a) (h.zs g a))
 zo:=fun g a=>.inl (iR (h.lo g a) (h.zo g a))
 az:=fun g b=>.inr b
theorem nR.nJ {R:Nat->Prop} (h:nR (zz R w) kb w l) {Z':Nat->Prop} (i:dB Z' w w') (hd:∀ g,g < w.heap.size->R g->¬ Z' g):nR (zz R w') kb w' l:=by
 obtain ⟨f,a,b,c,d⟩:=h.ex;exact ⟨⟨f,a.of_block (i.block _ a.lt (hd kb a.lt (iR a.lt h.zk))),b,ownB c fun g e=>i.block g (c.lt g e).2 (hd g (c.lt g e).2 (iR (c.lt g e).2 (d g e))),fun g e=>.inl (iR (c.lt g e).2 (d g e))⟩,.inl (iR h.lt h.zk),fun g e=>.inr e⟩
structure rq (Z:Nat->Prop) (sb ob hb kb n:Nat) (w:World) (K:Nat) (f V:Nat->Value) (X:Nat->List Value) (gone:Nat->Prop) (l:List UInt8) (Rs Ro Rd Rk:Nat->Prop):Prop where
 duo:Duo (zz Rd w) sb ob hb n w K f V X gone Rs Ro
 Og:nR (zz Rk w) kb w l
 za:∀ g,Rd g->¬ Rk g
 ld:∀ g,Rd g->g < w.heap.size
 lk:∀ g,Rk g->g < w.heap.size
 zd:∀ g,Rd g->Z g
 zk:∀ g,Rk g->Z g
 az:∀ g,w.heap.size <= g->Z g
theorem rq.xJ (h:rq Z sb ob hb kb n w K f V X gone l Rs Ro Rd Rk) {R:Nat->Prop} (c:∀ g,R g->Z g):∀ g,zz R w g->Z g:=fun g b=>by
 rcases b with a | a
 ·exact c g a
 ·exact h.az g a
theorem rq.xU (h:rq Z sb ob hb kb n w K f V X gone l Rs Ro Rd Rk) (hd:Duo (zz Rd w) sb ob hb n w' K f' V' X' fB H9 Vg) (d:dB (zz Rd w) w w'):
  rq Z sb ob hb kb n w' K f' V' X' fB l H9 Vg (fun g=>zz Rd w g/\g < w'.heap.size) Rk/\dB Z w w':=by
 refine ⟨{
  duo:=hd.Lj (fun g a b=>.inl ⟨b,a⟩) (fun g c=>.inr c)
  Og:=h.Og.nJ d fun g c a b=>h.za g (iR c b) a
  za:=fun g a b=>h.za g (iR (h.lk g b) a.1) b
  ld:=fun g a=>a.2
  lk:=fun g a=>Nat.lt_of_lt_of_le (h.lk g a) d.size
  zd:=fun g a=>h.xJ h.zd g a.1
  zk:=h.zk
  az:=fun g c=>h.az g (Nat.le_trans d.size c) },d.mono fun g _ a=>h.xJ h.zd g a⟩
theorem rq.gK (h:rq Z sb ob hb kb n w K f V X gone l Rs Ro Rd Rk) (a:dQ (zz Rs w) sb w' K f' V' X') (c:dB (zz Rs w) w w') (b:f' 12=f 12):
  rq Z sb ob hb kb n w' K f' V' X' gone l (fun g=>zz Rs w g/\g < w'.heap.size) Ro (fun g=>zz Rd w g/\g < w'.heap.size) Rk/\dB Z w w':=by
 obtain ⟨e,d⟩:=h.duo.gK a c b;exact h.xU e d
theorem rq.xS (h:rq Z sb ob hb kb n w K f V X gone l Rs Ro Rd Rk) (a:iP (zz Ro w) ob hb n w' fB) (b:dB (zz Ro w) w w'):
  rq Z sb ob hb kb n w' K f V X fB l Rs (fun g=>zz Ro w g/\g < w'.heap.size) (fun g=>zz Rd w g/\g < w'.heap.size) Rk/\dB Z w w':=by
 obtain ⟨d,c⟩:=h.duo.xS a b;exact h.xU d c
theorem rq.Xk (h:rq Z sb ob hb kb n w K f V X gone l Rs Ro Rd Rk) (e:nR (zz Rk w) kb w' l') (d:dB (zz Rk w) w w'):
  rq Z sb ob hb kb n w' K f V X gone l' Rs Ro Rd (fun g=>zz Rk w g/\g < w'.heap.size)/\dB Z w w':=by
 refine ⟨{
  duo:=h.duo.nJ d fun g b a c=>h.za g a (iR b c)
  Og:=e.Lj (fun g a c=>.inl ⟨c,a⟩) (fun g b=>.inr b)
  za:=fun g a c=>h.za g a (iR (h.ld g a) c.1)
  ld:=fun g a=>Nat.lt_of_lt_of_le (h.ld g a) d.size
  lk:=fun g a=>a.2
  zd:=h.zd
  zk:=fun g a=>h.xJ h.zk g a.1
  az:=fun g b=>h.az g (Nat.le_trans d.size b) },d.mono fun g _ a=>h.xJ h.zk g a⟩
theorem rq.later (h:rq Z sb ob hb kb n w K f V X gone l Rs Ro Rd Rk) (a:Below w.heap.size w w'):rq Z sb ob hb kb n w' K f V X gone l Rs Ro Rd Rk where
 duo:=h.duo.nJ (Z':=fun _=>False) (dB.of_below a) fun _ _ _ h=>h
 Og:=h.Og.nJ (Z':=fun _=>False) (dB.of_below a) fun _ _ _ h=>h
 za:=h.za
 ld:=fun g b=>Nat.lt_of_lt_of_le (h.ld g b) a.size
 lk:=fun g b=>Nat.lt_of_lt_of_le (h.lk g b) a.size
 zd:=h.zd
 zk:=h.zk
 az:=fun g c=>h.az g (Nat.le_trans a.size c)
end
end
end So
end Go.Proofs.YtceahffmenbibaaGreatDoor
