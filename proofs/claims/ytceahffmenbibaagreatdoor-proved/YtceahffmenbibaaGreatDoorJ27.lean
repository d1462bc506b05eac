/- Sntr Snor Snow Smet Ssml Sstr Sapi Slin. -/
import Derived.Test.YtceahffmenbibaaGreatDoorJ10
import Derived.Test.YtceahffmenbibaaGreatDoorJ08
import Derived.Lib.AppendStr
set_option linter.unusedVariables false
set_option linter.unusedSimpArgs false
set_option maxHeartbeats 4000000
set_option maxRecDepth 100000
namespace Go.Proofs.YtceahffmenbibaaGreatDoor
namespace So
section
open Go Go.RowKit Go.Deep Rd
def Made (w:World) (g t m:Nat) (w':World):Prop:=w.heap.size <= g/\w'.rowIs g t m (fun _=>.int .i64 0)
def Ua (w:World) (n:Nat) (e:Ending) (w':World):Prop:=∃ g1 g2 g3,e=.returned (.agg #[.slice none 0 0,.int .i64 0,.slice none 0 0,.slice (some ⟨g1,0,none⟩) (2 * n) (2 * n),.slice (some ⟨g2,0,none⟩) n n,.slice (some ⟨g3,0,none⟩) n n])/\Made w g1 3 (2 * n) w'/\Made w g2 3 n w'/\Made w g3 3 n w'/\g1 ≠ g2/\g1 ≠ g3/\g2 ≠ g3/\Below w.heap.size w w'
theorem AA (w:World) (ob:Obj) (z:Value) (t:TypeId) (a b c:Nat):((((w.alloc ob).alloc (.cells (madeCells #[z] a) t)).alloc (.cells (madeCells #[z] b) t)).alloc (.cells (madeCells #[z] c) t)).drew.rowIs (w.heap.size + 1) t a (fun _=>z)/\((((w.alloc ob).alloc (.cells (madeCells #[z] a) t)).alloc (.cells (madeCells #[z] b) t)).alloc (.cells (madeCells #[z] c) t)).drew.rowIs (w.heap.size + 1 + 1) t b (fun _=>z)/\((((w.alloc ob).alloc (.cells (madeCells #[z] a) t)).alloc (.cells (madeCells #[z] b) t)).alloc (.cells (madeCells #[z] c) t)).drew.rowIs (w.heap.size + 1 + 1 + 1) t c (fun _=>z)/\Below w.heap.size w ((((w.alloc ob).alloc (.cells (madeCells #[z] a) t)).alloc (.cells (madeCells #[z] b) t)).alloc (.cells (madeCells #[z] c) t)).drew:=by
 have h:=World.rowIs_made (w.alloc ob) z a t;have e:=World.rowIs_made ((w.alloc ob).alloc (.cells (madeCells #[z] a) t)) z b t;have d:=World.rowIs_made (((w.alloc ob).alloc (.cells (madeCells #[z] a) t)).alloc (.cells (madeCells #[z] b) t)) z c t;simp only [World.size_alloc] at h e d;exact ⟨((h.alloc _).alloc _).drew,(e.alloc _).drew,d.drew,(((((Below.refl _ w).alloc lr _).alloc (by simp) _).alloc (by simp;omega) _).alloc (by simp;omega) _).drew⟩
theorem Cg (n:Nat) (l:n <= 50) (w:World):Calls Tryz.prog 92 #[.int .i64 (n:Nat)] w fun e w'=>Ua w n e w':=by
 have i:=run_make_row' (P:=Tryz.prog) 43 3 (.int .i64 0) 8 Tryz.underlying43 Tryz.gB rfl .i64 .i64 n (by omega) (by omega);have h:=run_make_row' (P:=Tryz.prog) 43 3 (.int .i64 0) 8 Tryz.underlying43 Tryz.gB rfl .i64 .i64 (2 * n) (by omega) (by omega);have k:((2 * n:Nat):Int)=2 * (n:Int):=by omega
 rw [k] at h;have j:IntKind.i64.wrap (2 * (n:Int))=2 * (n:Int):=zR _ (by omega) (by omega);go_enter Tryz.func92,Tryz.ntmps92
 go_upto_region 1 with fail
 go_region_with (fail)
 ·go_wp2;refine bodyPost_ret (v:=.agg #[.slice none 0 0,.int .i64 0,.slice none 0 0,.slice (some ⟨w.heap.size + 1,0,none⟩) (2 * n) (2 * n),.slice (some ⟨w.heap.size + 1 + 1,0,none⟩) n n,.slice (some ⟨w.heap.size + 1 + 1 + 1,0,none⟩) n n]) (by simp [results,Tryz.results92,go_sem]) rfl ?_
  obtain ⟨d,c,b,a⟩:=AA w (.cells #[.slice none 0 0,.int .i64 0,.slice none 0 0,.slice (some ⟨w.heap.size + 1,0,none⟩) (2 * n) (2 * n),.slice (some ⟨w.heap.size + 1 + 1,0,none⟩) n n,.slice (some ⟨w.heap.size + 1 + 1 + 1,0,none⟩) n n] 157 (0,0)) (.int .i64 0) 3 (2 * n) (n) (n);exact ⟨w.heap.size + 1,w.heap.size + 1 + 1,w.heap.size + 1 + 1 + 1,rfl,⟨by omega,d⟩,⟨by omega,c⟩,⟨by omega,b⟩,by omega,by omega,by omega,a⟩
 ·go_wp2;refine bodyPost_ret (v:=.agg #[.slice none 0 0,.int .i64 0,.slice none 0 0,.slice (some ⟨w.heap.size + 1,0,none⟩) (2 * n) (2 * n),.slice (some ⟨w.heap.size + 1 + 1 + 1,0,none⟩) n n,.slice (some ⟨w.heap.size + 1 + 1,0,none⟩) n n]) (by simp [results,Tryz.results92,go_sem]) rfl ?_
  obtain ⟨d,c,b,a⟩:=AA w (.cells #[.slice none 0 0,.int .i64 0,.slice none 0 0,.slice (some ⟨w.heap.size + 1,0,none⟩) (2 * n) (2 * n),.slice (some ⟨w.heap.size + 1 + 1 + 1,0,none⟩) n n,.slice (some ⟨w.heap.size + 1 + 1,0,none⟩) n n] 157 (0,0)) (.int .i64 0) 3 (2 * n) (n) (n);exact ⟨w.heap.size + 1,w.heap.size + 1 + 1 + 1,w.heap.size + 1 + 1,rfl,⟨by omega,d⟩,⟨by omega,b⟩,⟨by omega,c⟩,by omega,by omega,by omega,a⟩
 ·go_wp2;refine bodyPost_ret (v:=.agg #[.slice none 0 0,.int .i64 0,.slice none 0 0,.slice (some ⟨w.heap.size + 1 + 1,0,none⟩) (2 * n) (2 * n),.slice (some ⟨w.heap.size + 1,0,none⟩) n n,.slice (some ⟨w.heap.size + 1 + 1 + 1,0,none⟩) n n]) (by simp [results,Tryz.results92,go_sem]) rfl ?_
  obtain ⟨d,c,b,a⟩:=AA w (.cells #[.slice none 0 0,.int .i64 0,.slice none 0 0,.slice (some ⟨w.heap.size + 1 + 1,0,none⟩) (2 * n) (2 * n),.slice (some ⟨w.heap.size + 1,0,none⟩) n n,.slice (some ⟨w.heap.size + 1 + 1 + 1,0,none⟩) n n] 157 (0,0)) (.int .i64 0) 3 (n) (2 * n) (n);exact ⟨w.heap.size + 1 + 1,w.heap.size + 1,w.heap.size + 1 + 1 + 1,rfl,⟨by omega,c⟩,⟨by omega,d⟩,⟨by omega,b⟩,by omega,by omega,by omega,a⟩
 ·go_wp2;refine bodyPost_ret (v:=.agg #[.slice none 0 0,.int .i64 0,.slice none 0 0,.slice (some ⟨w.heap.size + 1 + 1 + 1,0,none⟩) (2 * n) (2 * n),.slice (some ⟨w.heap.size + 1,0,none⟩) n n,.slice (some ⟨w.heap.size + 1 + 1,0,none⟩) n n]) (by simp [results,Tryz.results92,go_sem]) rfl ?_
  obtain ⟨d,c,b,a⟩:=AA w (.cells #[.slice none 0 0,.int .i64 0,.slice none 0 0,.slice (some ⟨w.heap.size + 1 + 1 + 1,0,none⟩) (2 * n) (2 * n),.slice (some ⟨w.heap.size + 1,0,none⟩) n n,.slice (some ⟨w.heap.size + 1 + 1,0,none⟩) n n] 157 (0,0)) (.int .i64 0) 3 (n) (n) (2 * n);exact ⟨w.heap.size + 1 + 1 + 1,w.heap.size + 1,w.heap.size + 1 + 1,rfl,⟨by omega,b⟩,⟨by omega,d⟩,⟨by omega,c⟩,by omega,by omega,by omega,a⟩
 ·go_wp2;refine bodyPost_ret (v:=.agg #[.slice none 0 0,.int .i64 0,.slice none 0 0,.slice (some ⟨w.heap.size + 1 + 1,0,none⟩) (2 * n) (2 * n),.slice (some ⟨w.heap.size + 1 + 1 + 1,0,none⟩) n n,.slice (some ⟨w.heap.size + 1,0,none⟩) n n]) (by simp [results,Tryz.results92,go_sem]) rfl ?_
  obtain ⟨d,c,b,a⟩:=AA w (.cells #[.slice none 0 0,.int .i64 0,.slice none 0 0,.slice (some ⟨w.heap.size + 1 + 1,0,none⟩) (2 * n) (2 * n),.slice (some ⟨w.heap.size + 1 + 1 + 1,0,none⟩) n n,.slice (some ⟨w.heap.size + 1,0,none⟩) n n] 157 (0,0)) (.int .i64 0) 3 (n) (2 * n) (n);exact ⟨w.heap.size + 1 + 1,w.heap.size + 1 + 1 + 1,w.heap.size + 1,rfl,⟨by omega,c⟩,⟨by omega,b⟩,⟨by omega,d⟩,by omega,by omega,by omega,a⟩
 ·go_wp2;refine bodyPost_ret (v:=.agg #[.slice none 0 0,.int .i64 0,.slice none 0 0,.slice (some ⟨w.heap.size + 1 + 1 + 1,0,none⟩) (2 * n) (2 * n),.slice (some ⟨w.heap.size + 1 + 1,0,none⟩) n n,.slice (some ⟨w.heap.size + 1,0,none⟩) n n]) (by simp [results,Tryz.results92,go_sem]) rfl ?_
  obtain ⟨d,c,b,a⟩:=AA w (.cells #[.slice none 0 0,.int .i64 0,.slice none 0 0,.slice (some ⟨w.heap.size + 1 + 1 + 1,0,none⟩) (2 * n) (2 * n),.slice (some ⟨w.heap.size + 1 + 1,0,none⟩) n n,.slice (some ⟨w.heap.size + 1,0,none⟩) n n] 157 (0,0)) (.int .i64 0) 3 (n) (n) (2 * n);exact ⟨w.heap.size + 1 + 1 + 1,w.heap.size + 1 + 1,w.heap.size + 1,rfl,⟨by omega,b⟩,⟨by omega,c⟩,⟨by omega,d⟩,by omega,by omega,by omega,a⟩
section
variable {Z:Nat->Prop} {ob hb:Nat} {w w':World} {wt:Int} {V:Nat->Value} {X:Nat->List Value} {n g:Nat} {items:List Nat} {pl bz:Nat->Int}
theorem lY {t:TypeId} {f:Nat->Value} (h:w.rowIs g t n f) (b:n <= maxLen):w.ownsRow 0 t 1 (.slice (some ⟨g,0,none⟩) n n) n ((List.range n).map f):=by
 obtain ⟨c,e,i,d⟩:=h;refine ⟨by simp,.inr ⟨g,n,c,rfl,zl,e,lr,b,by omega,?_⟩⟩;apply List.ext_getElem?;intro j;by_cases a:j < n
 ·rw [List.getElem?_take_of_lt (by omega),Array.getElem?_toList,d j a];simp [a]
 ·rw [List.getElem?_take_eq_none (by omega),List.getElem?_eq_none (by simp;omega)]
theorem JP (h:Ord Z ob hb w wt V X) (r:nU n n X items pl bz) (i:∀ v ∈ items,v < n) (u:∀ a b,decide (bz b < bz a)=false) {item hole:Nat} (T:items[hole]? = some item) (S:items.length <= 1000):
  Calls Tryz.prog 173 #[.pointer (some ⟨hb,0,none⟩),.int .i64 (hole:Nat)] w fun e w'=>e=.returned (.tuple #[])/\dD Z w w'/\∃ y,Ord Z ob hb w' wt V y/\nU n n y items (eu pl item (hole:Nat)) bz:=by
 obtain ⟨C,D⟩:=List.getElem?_eq_some_iff.1 T;have l:item < n:=by rw [<- D];exact i _ (List.getElem_mem C)
 obtain ⟨g2,U,q0,R⟩:=h.item r C;rw [D] at R;have E:Hid (∀ G,Below w.heap.size w G->Calls Tryz.prog 203 #[.pointer (some ⟨hb,0,none⟩),.int .i64 (hole:Nat),.int .i64 (item:Nat)] G fun e w'=>e=.returned (.tuple #[])/\dD Z w w'/\∃ y,Ord Z ob hb w' wt V y/\nU n n y items (eu pl item (hole:Nat)) bz):=fun G t=>by
  refine (ru (h.later t) r (v:=item) (p:=hole) l C).mono ?_;rintro e w' ⟨rfl,ho,hc⟩;refine ⟨rfl,(dD.of_below t).trans hc,_,ho,?_⟩;have:=r.put (v:=item) (p:=hole) l (by omega)
  rwa [show items.set hole item=items by rw [<- D];exact List.set_getElem_self C] at this
 have q:Hid (∀ m (B:m < items.length),∃ g2 U,w.cell? ⟨hb,0,none⟩=some (.slice (some ⟨g2,0,none⟩) items.length U)/\w.cell? ⟨g2,m,none⟩=some (.int .i64 (items[m]:Nat))):=fun m B=>h.item r B
 have L:Hid (∀ j x,x < n->Calls Tryz.prog 126 #[.pointer (some ⟨ob,0,none⟩),.int .i64 (item:Nat),.int .i64 (x:Nat)] (w.drewN j) fun e w'=>e=.returned (.bool false)/\∃ k,w'=(w.drewN j).drewN k):=fun j x s=>by
  have:=lZ (w:=w.drewN j) (h.later ⟨rfl,rfl,rfl,lr,fun _ _=>rfl⟩) r l s;rw [u item x] at this;exact this
 have qa:=h.cells.2.2.2.2.2.1;have N:=hide i;have h0:(0:Int) <= (hole:Int):=by omega
 have h1:(hole:Int) < (items.length:Int):=by omega
 unfold ahead at qa;clear h r i T D u;go_enter Tryz.func173,Tryz.ntmps173
 go_wp2_with fail
 go_loopw [1,5] (fun Q _ wr=>Q=.int .i64 ((hole:Nat):Int)/\Hid (w=wr)) (fun Q _ _=>0)
 case atStart=>exact ⟨rfl,rfl⟩
 case round=>
  obtain ⟨rfl,hw⟩:=hrel;obtain rfl:=hw.out;by_cases J:hole=0
  ·subst J;have o:=hide (E.out w bR);clear E L q;go_wp2_with (go_at_call 203;refine o.out.mono ?_;rintro e7 W ⟨rfl,d,c⟩;have O:=hide d;have M:=hide c;clear d c;simp only [])
   go_end0
   exact ⟨rfl,O.out,M.out⟩
  ·obtain ⟨m,B⟩:∃ m,m=(hole - 1) / 2:=⟨_,rfl⟩;have I:m < items.length:=by omega
   have hd:((hole:Int) - 1) / 2=(m:Int):=by omega
   have aa:Int.tdiv ((hole:Int) - 1) 2=(m:Int):=by rw [Int.tdiv_eq_ediv_of_nonneg (by omega)];exact hd
   obtain ⟨g3,c3,q3,Y⟩:=q.out m I;obtain ⟨x,s⟩:∃ x,x=items[m]:=⟨_,rfl⟩;have H:x < n:=by rw [s];exact N.out _ (List.getElem_mem _)
   rw [<- s] at Y;have z:=hide (fun j=>L.out j x H);have m0:(0:Int) <= (m:Int):=by omega
   have m1:(m:Int) < (items.length:Int):=by omega
   have k1:(0:Int) < (hole:Int):=by omega
   have k2:(0:Int) <= (hole:Int) - 1:=by omega
   have k3:(hole:Int) < 1000:=by omega
   clear s B hd q0 R L q;go_upto_region 3 with fail
   go_quiet ((go_at_call 126;exact Calls.quiet_of (z.out _)))
   have o:=hide (E.out (w.drewN nq) ⟨rfl,rfl,rfl,lr,fun _ _=>rfl⟩);clear E z;go_wp2_with (go_at_call 203;refine o.out.mono ?_;rintro e7 W ⟨rfl,d,c⟩;have O:=hide d;have M:=hide c;clear d c;simp only [])
   go_end0
   exact ⟨rfl,O.out,M.out⟩
theorem JW (h:Ord Z ob hb w wt V X) (q:nU n n X items pl bz) (o:∀ v ∈ items,v < n) (H:∀ a b,decide (bz b < bz a)=false) {v:Nat} (hv:v < n) (W:items.length < 1000):
  Calls Tryz.prog 128 #[.pointer (some ⟨hb,0,none⟩),.int .i64 (v:Nat)] w fun e w'=>e=.returned (.tuple #[])/\dD Z w w'/\∃ J r,Ord Z ob hb w' wt J r/\nU n n r (items ++ [v]) (eu pl v (items.length:Nat)) bz:=by
 obtain ⟨i0,hi,E,D,C⟩:=info_parts Tryz.gB;have HS:=hide h;obtain ⟨a2,c2,z⟩:=h.fG.shape (k:=2) (by omega);have B:(X 2).length=items.length:=by rw [q.t2,dh]
 have y:=h.cells.2.2.2.2.1;rw [z,B] at y;have O2:Hid (w.ownsRow 0 3 1 (.slice a2 items.length c2) items.length (dC items)):=by
  have:=h.fG.own 2 (by omega);rw [z,q.t2,dh] at this;exact this
 have E2:Hid (V 2=.slice a2 items.length c2):=by unfold Hid;rw [z,B]
 have s:Hid (X 2=dC items):=q.t2;have U:=h.hrow.lt;have ns:¬ (hb=w.heap.size):=by omega
 have u:=hide q;have M:Hid (∀ x ∈ items ++ [v],x < n):=fun x i=>by
  rcases List.mem_append.1 i with i | i
  ·exact o x i
  ·simp at i;omega
 clear h q z B o;go_enter Tryz.func128,Tryz.ntmps128
 go_wp2_with (at_builtin;refine dF _ rfl _ _ 43 rfl 0 3 i0 (.int .i64 0) 1 8 Tryz.underlying43 hi E D C rfl (by decide) _ _ _ rfl (O2.out.alloc (.cells #[.int .i64 (v:Int)] 3)) (.slice (some ⟨w.heap.size,0,none⟩) 1 1) 1 [.int .i64 (v:Int)] rfl (.inr ⟨⟨w.heap.size,0,none⟩,1,rfl,World.news_of_block (cs:=#[.int .i64 (v:Int)]) (t:=3) (fr:=(0,0)) (heap_alloc_new w _)⟩) rfl (by simp [Value.oneCell']) (by unfold maxLen;omega) (by omega) zl ?_)
 intro v6 Q N;have A7:dz (w.alloc (.cells #[.int .i64 (v:Int)] 3)) 0 3 1 (V 2) (X 2).length (X 2) 1 [.int .i64 (v:Int)] v6 Q:=by rw [E2.out,s.out,dh];exact N
 obtain ⟨R,Y,S,z6⟩:=HS.out.push (m:=1) (news:=[.int .i64 (v:Int)]) rfl A7;rw [E2.out] at S;obtain ⟨d,c,G⟩:=dI N.own;subst G;have L:=hide R;have C6:=hide Y;clear N A7 R Y y O2;go_upto_region 1 with fail
 generalize I:Q.setCell ⟨hb,0,none⟩ (.slice d (items.length + 1) c)=W1 at L C6 ⊢;clear I S z6;have XE:Hid (upd X 2 (X 2 ++ [.int .i64 (v:Int)]) 2=dC (items ++ [v])):=by unfold Hid;rw [cK,s.out,je];rfl
 have M6:nU n n (upd X 2 (X 2 ++ [.int .i64 (v:Int)])) (items ++ [v]) pl bz:=⟨by rw [cu _ _ (by decide)];exact u.out.n0,by rw [cu _ _ (by decide)];exact u.out.t0,by rw [cu _ _ (by decide)];exact u.out.i0,by rw [cu _ _ (by decide)];exact u.out.n1,by rw [cu _ _ (by decide)];exact u.out.t1,XE.out⟩;have y:=L.out.cells.2.2.2.2.1;rw [cK] at y;have QR:=hide (JP L.out M6 M.out H (item:=v) (hole:=items.length) (by simp) (by simp;omega));clear M6 XE;generalize upd X 2 (X 2 ++ [.int .i64 (v:Int)])=X6 at *
 generalize upd V 2 (.slice d (items.length + 1) c)=V6 at *
 go_wp2_with (go_at_call 173;refine QR.out.mono ?_;rintro e7 O ⟨rfl,p,X7,j,l⟩;have F7:Hid (dD Z w O/\∃ J r,Ord Z ob hb O wt J r/\nU n n r (items ++ [v]) (eu pl v (items.length:Nat)) bz):=⟨C6.out.trans p,_,X7,j,l⟩;clear p j l;simp only [])
 go_end0
 exact ⟨rfl,F7.out.1,F7.out.2⟩
end
section
variable {ob hb gp gb n:Nat} {w w':World}
theorem Tryz.Ny:(Tryz.prog.info? 2).map (fun i=>(i.zero,i.size,i.bytes))=some (some (.int .i64 0),1,8):=by kernel_rfl
theorem Ez (ob:Nat) (w:World):Calls Tryz.prog 125 #[ahead ob,placed ob] w fun e w'=>e=.returned (.pointer (some ⟨w.heap.size,0,none⟩))/\w'=w.alloc (.cells #[.slice none 0 0,ahead ob,placed ob] 224):=by
 go_enter Tryz.func125,Tryz.ntmps125
 go_wp2;go_ret
 exact ⟨rfl,rfl⟩
structure Raw (w:World) (n ob gp gb:Nat) (p0:Value) (w':World):Prop where
 ny:Below w.heap.size w w'
 lo:w.heap.size <= ob
 lp:w.heap.size <= gp
 lb:w.heap.size <= gb
 jD:w'.rowIs ob 193 4 (fun j=>if j=0 then p0 else if j=1 then .slice (some ⟨gp,0,none⟩) n n else if j=2 then .slice (some ⟨gb,0,none⟩) n n else .int .i64 65536)
 kQ:w'.rowIs gp 3 n (fun _=>.int .i64 0)
 KU:w'.rowIs gb 2 n (fun _=>.int .i64 0)
def tV (gp gb n:Nat) (k:Nat):Value:=if k=0 then .slice (some ⟨gp,0,none⟩) n n else if k=1 then .slice (some ⟨gb,0,none⟩) n n else .slice none 0 0
def xO (n:Nat) (k:Nat):List Value:=if k=2 then [] else List.replicate n (.int .i64 0)
theorem BO (n:Nat) (z:Value):(List.range n).map (fun _=>z)=List.replicate n z:=by rw [List.map_const',List.length_range]
theorem four (w:World) (a b c d:Value) (t:TypeId):(w.alloc (.cells #[a,b,c,d] t)).rowIs w.heap.size t 4 (fun j=>if j=0 then a else if j=1 then b else if j=2 then c else d):=
 World.rowIs_alloc w #[a,b,c,d] t _ fun i e=>by
  have e:i < 4:=e
  rcases (show i=0\/i=1\/i=2\/i=3 by omega) with rfl | rfl | rfl | rfl <;> rfl
theorem VC (w:World) (n:Nat):Raw w n (w.heap.size + 1 + 1) w.heap.size (w.heap.size + 1) (.pointer none) (((w.alloc (.cells (madeCells #[.int .i64 0] n) 3)).alloc (.cells (madeCells #[.int .i64 0] n) 2)).alloc (.cells #[.pointer none,.slice (some ⟨w.heap.size,0,none⟩) n n,.slice (some ⟨w.heap.size + 1,0,none⟩) n n,.int .i64 65536] 193)).drew:=by
 have c:=World.rowIs_made w (.int .i64 0) n 3;have b:=World.rowIs_made (w.alloc (.cells (madeCells #[.int .i64 0] n) 3)) (.int .i64 0) n 2;have a:=four ((w.alloc (.cells (madeCells #[.int .i64 0] n) 3)).alloc (.cells (madeCells #[.int .i64 0] n) 2)) (.pointer none) (.slice (some ⟨w.heap.size,0,none⟩) n n) (.slice (some ⟨w.heap.size + 1,0,none⟩) n n) (.int .i64 65536) 193;simp only [World.size_alloc] at b a;exact ⟨((((Below.refl _ w).alloc lr _).alloc (by simp) _).alloc (by simp;omega) _).drew,by omega,lr,by omega,a.drew,((c.alloc _).alloc _).drew,(b.alloc _).drew⟩
theorem VB (w:World) (n:Nat):Raw w n (w.heap.size + 1 + 1) (w.heap.size + 1) w.heap.size (.pointer none) (((w.alloc (.cells (madeCells #[.int .i64 0] n) 2)).alloc (.cells (madeCells #[.int .i64 0] n) 3)).alloc (.cells #[.pointer none,.slice (some ⟨w.heap.size + 1,0,none⟩) n n,.slice (some ⟨w.heap.size,0,none⟩) n n,.int .i64 65536] 193)).drew:=by
 have c:=World.rowIs_made w (.int .i64 0) n 2;have b:=World.rowIs_made (w.alloc (.cells (madeCells #[.int .i64 0] n) 2)) (.int .i64 0) n 3;have a:=four ((w.alloc (.cells (madeCells #[.int .i64 0] n) 2)).alloc (.cells (madeCells #[.int .i64 0] n) 3)) (.pointer none) (.slice (some ⟨w.heap.size + 1,0,none⟩) n n) (.slice (some ⟨w.heap.size,0,none⟩) n n) (.int .i64 65536) 193;simp only [World.size_alloc] at b a;exact ⟨((((Below.refl _ w).alloc lr _).alloc (by simp) _).alloc (by simp;omega) _).drew,by omega,by omega,lr,a.drew,(b.alloc _).drew,((c.alloc _).alloc _).drew⟩
theorem Raw.ord (h:Raw w n ob gp gb (.pointer (some ⟨hb,0,none⟩)) w') (t:n <= 50) (m:w.heap.size <= hb) (hrow:w'.rowIs hb 224 3 (fun j=>if j=0 then .slice none 0 0 else if j=1 then ahead ob else placed ob)):
  Ord (fun g=>w.heap.size <= g) ob hb w' 65536 (tV gp gb n) (xO n) where
 jD:=h.jD.congr fun i r=>by
  unfold MG tV
  rcases (show i=0\/i=1\/i=2\/i=3 by omega) with rfl | rfl | rfl | rfl <;> simp
 hrow:=hrow.congr fun i r=>by
  unfold Re tV
  rcases (show i=0\/i=1\/i=2 by omega) with rfl | rfl | rfl <;> simp
 fG:={
  own:=fun k o=>by
   rcases (show k=0\/k=1\/k=2 by omega) with rfl | rfl | rfl
   ·have:=lY h.kQ (by unfold maxLen;omega);rw [BO] at this;simpa [tV,xO,Ee] using this
   ·have:=lY h.KU (by unfold maxLen;omega);rw [BO] at this;simpa [tV,xO,Ee] using this
   ·exact ⟨by simp [xO],.inl ⟨rfl,rfl⟩⟩
  apart:=fun k l o q a=>by
   have b:gp ≠ gb:=fun e=>by
    obtain ⟨c,p,_⟩:=h.kQ;obtain ⟨u,s,_⟩:=h.KU;rw [e,s] at p;exact absurd (Obj.cells.inj (Option.some.inj p)).2.1 (by decide)
   rcases (show k=0\/k=1\/k=2 by omega) with rfl | rfl | rfl <;> rcases (show l=0\/l=1\/l=2 by omega) with rfl | rfl | rfl
   ·exact absurd rfl a
   ·exact .inr (by simpa [tV,Value.ownBlock] using b)
   ·exact .inr (by simp [tV,Value.ownBlock])
   ·exact .inr (by simpa [tV,Value.ownBlock] using fun e=>b e.symm)
   ·exact absurd rfl a
   ·exact .inr (by simp [tV,Value.ownBlock])
   ·exact .inl (by simp [tV,Value.ownBlock])
   ·exact .inl (by simp [tV,Value.ownBlock])
   ·exact absurd rfl a }
 zo:=h.lo
 zh:=m
 al:=fun k o g d=>by
  rcases (show k=0\/k=1\/k=2 by omega) with rfl | rfl | rfl
  ·simp [tV,Value.ownBlock] at d;have:=h.lp;omega
  ·simp [tV,Value.ownBlock] at d;have:=h.lb;omega
  ·simp [tV,Value.ownBlock] at d
 az:=fun g d=>Nat.le_trans h.ny.size d
theorem Qf (n:Nat):nU n n (xO n) [] (fun _=>0) (fun _=>0) where
 n0:=by simp [xO]
 t0:=fun v a _=>by simp [xO,a]
 i0:=fun v a=>⟨0,by simp [xO,a]⟩
 n1:=by simp [xO]
 t1:=fun v a=>by simp [xO,a]
 t2:=by simp [xO,dC]
def OL (w:World) (n:Nat) (e:Ending) (w':World):Prop:=∃ ob hb,e=.returned (.pointer (some ⟨ob,0,none⟩))/\iI (fun g=>w.heap.size <= g) ob hb n w' (fun v=>n <= v)/\Below w.heap.size w w'
structure F3 (w:World) (n ob hb:Nat) (k:Nat) (wr:World):Prop where
 ex:∃ V X pl,Ord (fun g=>w.heap.size <= g) ob hb wr 65536 V X/\nU n n X (List.range k) pl (fun _=>0)/\∀ v,v < k->pl v=(v:Nat)
 ny:Below w.heap.size w wr
theorem F3.fin (h:F3 w n ob hb n w'):OL w n (.returned (.pointer (some ⟨ob,0,none⟩))) w':=by
 obtain ⟨V,X,pl,j,b,e⟩:=h.ex;refine ⟨ob,hb,rfl,⟨⟨65536,V,X,List.range n,fun v=>if v < n then (v:Nat) else -1,fun _=>0,j,⟨b.n0,fun v a d=>by rw [b.t0 v a d,e v a,if_pos a],b.i0,b.n1,b.t1,b.t2⟩,⟨fun v a=>by simpa using a,fun v a=>.inr ⟨v,by simp [a],by simp [a]⟩,fun i c=>by simp at c;simp [c]⟩,fun v=>?_⟩,lr⟩,h.ny⟩;by_cases a:v < n
 ·simp [a]
 ·simp [a];omega
theorem Ci (n:Nat) (N:n <= 50) (w:World):Calls Tryz.prog 93 #[.int .i64 (n:Nat)] w fun e w'=>OL w n e w':=by
 have x:=run_make_row' (P:=Tryz.prog) 43 3 (.int .i64 0) 8 Tryz.underlying43 Tryz.gB rfl .i64 .i64 n (by omega) (by omega);have u:=run_make_row' (P:=Tryz.prog) 190 2 (.int .i64 0) 8 Tryz.underlying190 Tryz.Ny rfl .i64 .i64 n (by omega) (by omega);go_enter Tryz.func93,Tryz.ntmps93
 go_upto_region 1 with fail
 go_cut [3] from 20 (fun J H=>∃ ob gp gb,J=.pointer (some ⟨ob,0,none⟩)/\Hid (Raw w n ob gp gb (.pointer none) H))
 case first=>
  go_region_with (fail)
  ·go_wp2_with fail
   go_meet;exact ⟨_,_,_,rfl,VC w n⟩
  ·go_wp2_with fail
   go_meet;exact ⟨_,_,_,rfl,VB w n⟩
 case rest=>
  obtain ⟨ob,gp,gb,rfl,a⟩:=hcut;have D:=a.out.jD.cell (i:=0) (by omega);have G:=a.out.jD.frozen 0;have L:=a.out.jD.lt;simp only [if_true] at D;have C:=hide (Ez ob wc);have r:Hid (F3 w n ob wc.heap.size 0 ((wc.setCell ⟨ob,0,none⟩ (.pointer (some ⟨wc.heap.size,0,none⟩))).alloc (.cells #[.slice none 0 0,ahead ob,placed ob] 224))):=by
   have a:=a.out;have m:=a.ny.size;have nh:ob ≠ wc.heap.size:=by omega
   have Q:=a.kQ.lt;have R:=a.KU.lt;have s:gp ≠ ob:=fun e=>by
    obtain ⟨c,d,_⟩:=a.kQ;obtain ⟨Y,l,_⟩:=a.jD;rw [e,l] at d;exact absurd (Obj.cells.inj (Option.some.inj d)).2.1 (by decide)
   have t:gb ≠ ob:=fun e=>by
    obtain ⟨c,d,_⟩:=a.KU;obtain ⟨Y,l,_⟩:=a.jD;rw [e,l] at d;exact absurd (Obj.cells.inj (Option.some.inj d)).2.1 (by decide)
   have q:Raw w n ob gp gb (.pointer (some ⟨wc.heap.size,0,none⟩)) ((wc.setCell ⟨ob,0,none⟩ (.pointer (some ⟨wc.heap.size,0,none⟩))).alloc (.cells #[.slice none 0 0,ahead ob,placed ob] 224)):={
    ny:=(a.ny.setCell a.lo _).alloc (by simpa [World.setCell] using m) _
    lo:=a.lo
    lp:=a.lp
    lb:=a.lb
    jD:=((a.jD.set 0 _).alloc _).congr fun i z=>by
     by_cases e:i=0
     ·subst e;simp
     ·simp [e]
    kQ:=(a.kQ.setOther (by simpa using s) _).alloc _
    KU:=(a.KU.setOther (by simpa using t) _).alloc _ }
   refine ⟨⟨_,_,_,q.ord N m ?_,Qf n,fun v y=>by omega⟩,q.ny⟩;have:=World.rowIs_alloc (wc.setCell ⟨ob,0,none⟩ (.pointer (some ⟨wc.heap.size,0,none⟩))) #[.slice none 0 0,ahead ob,placed ob] 224 (fun j=>if j=0 then .slice none 0 0 else if j=1 then ahead ob else placed ob) fun i z=>by
    have z:i < 3:=z
    rcases (show i=0\/i=1\/i=2 by omega) with rfl | rfl | rfl <;> rfl
   rw [show (wc.setCell ⟨ob,0,none⟩ (.pointer (some ⟨wc.heap.size,0,none⟩))).heap.size=wc.heap.size by simp [World.setCell]] at this;exact this
  clear a x u;have nn:¬ (ob=wc.heap.size):=by omega
  unfold ahead placed at C r;go_upto_region 3 with (go_at_call 125;refine C.out.mono ?_;rintro W I ⟨rfl,rfl⟩;simp only [])
  generalize B:(wc.setCell ⟨ob,0,none⟩ (.pointer (some ⟨wc.heap.size,0,none⟩))).alloc (.cells #[.slice none 0 0,Value.func (.func 126) #[.pointer (some ⟨ob,0,none⟩)] #[],Value.func (.func 127) #[.pointer (some ⟨ob,0,none⟩)] #[]] 224)=W1 at r ⊢;generalize wc.heap.size=hb at r;clear B D G C;go_wp2_with fail
  go_loopw [4,20] (fun _ h wr=>∃ k:Nat,h=.int .i64 ((k:Nat):Int)/\k <= n/\Hid (F3 w n ob hb k wr)) (fun _ h _=>n - (intOf h).toNat)
  case atStart=>exact ⟨0,rfl,zl,r⟩
  case round=>
   clear r;obtain ⟨k,rfl,S,b⟩:=hrel;by_cases p:k < n
   ·have QP:Hid (Calls Tryz.prog 128 #[.pointer (some ⟨hb,0,none⟩),.int .i64 (k:Nat)] wr fun e w'=>e=.returned (.tuple #[])/\F3 w n ob hb (k + 1) w'):=by
     obtain ⟨V,X,pl,d,l,E⟩:=b.out.ex;refine (JW d l (fun v y=>by have:=List.mem_range.1 y;omega) (fun _ _=>by simp) p (by simp;omega)).mono ?_;rintro e w' ⟨rfl,U,V',X',M,O⟩;refine ⟨rfl,⟨V',X',_,M,by rw [List.range_succ];exact O,fun v y=>?_⟩,b.out.ny.trans (U.below b.out.ny.size (fun g hg=>by omega))⟩;by_cases e:v=k
     ·subst e;rw [dx];simp
     ·rw [dm _ _ e];exact E v (by omega)
    have q0:wr.cell? ⟨ob,0,none⟩=some (.pointer (some ⟨hb,0,none⟩)):=by
     obtain ⟨V,X,pl,d,l,E⟩:=b.out.ex;exact d.cells.1
    have k0:(0:Int) <= (k:Int):=by omega
    have k1:(k:Int) < (n:Int):=by omega
    have k2:(k:Int) <= 50:=by omega
    clear b;go_wp2_with (go_at_call 128;refine QP.out.mono ?_;rintro W I ⟨rfl,o⟩;have S7:=hide o;clear o;simp only [])
    go_roundw
    case rel=>exact ⟨k + 1,by go_num,p,S7⟩
    case measure=>simp [intOf];omega
   ·have e:k=n:=by omega
    subst e;have F:=hide b.out.fin;clear b;go_wp2;go_ret;exact F.out
end
def SH (w:World) (c:List Nat) (s:Value) (wr:World):Prop:=∃ i:Nat,s=.int .i64 ((i:Nat):Int)/\1 <= i/\(i <= c.length\/i=1)/\Hid ((∀ j (h:j + 1 < c.length),j + 1 < i->c[j + 1] ≠ op c[j])/\∃ d,wr=w.drewN d)
def Jw (w:World) (c:List Nat) (e:Ending) (w':World):Prop:=(∃ d,w'=w.drewN d)/\∃ b:Bool,e=.returned (.bool b)/\(b=true↔∃ j,∃ h:j + 1 < c.length,c[j + 1]=op c[j])
theorem wF (c:List Nat) (al:Option Addr) (g o cap:Nat) (w:World) (N:0 < c.length->al=some ⟨g,o,none⟩) (E:∀ j (h:j < c.length),w.cell? ⟨g,o + j,none⟩=some (.int .i64 (c[j]:Nat))) (D:∀ x ∈ c,x < 128) (W:c.length <= 1099511627776):
  Calls Tryz.prog 131 #[.slice al c.length cap] w fun e w'=>Jw w c e w':=by
 have I:=hide E;have O:=hide D;clear E D;go_enter Tryz.func131,Tryz.ntmps131
 go_wp2_with fail
 go_loopw [3] (fun s wr=>SH w c s wr) (fun s _=>c.length - (intOf s).toNat)
 case atStart=>exact ⟨1,rfl,by omega,.inr rfl,fun j _ h=>by omega,0,rfl⟩
 case round=>
  obtain ⟨i,rfl,hi,L,p⟩:=hrel;obtain ⟨d,hd⟩:=p.out.2;have b:=hide p.out.1;clear p;by_cases t:i < c.length
  ·obtain rfl:=N (by omega);have y:=I.out i t;have z:=I.out (i - 1) (by omega);have C:=O.out _ (List.getElem_mem (show i - 1 < c.length by omega));obtain ⟨u,r⟩:∃ x,x=c[i]:=⟨_,rfl⟩;obtain ⟨v,q⟩:∃ x,x=c[i - 1]:=⟨_,rfl⟩;rw [<- r] at y;rw [<- q] at z C;have G:=hide (fun Y=>ko v Y C);have U:(0:Int) <= (i:Int):=by omega
   have J:(i:Int) < (c.length:Int):=by omega
   have T:(0:Int) <= (i:Int) - 1:=by omega
   have S:(i:Int) - 1 < (c.length:Int):=by omega
   have R:((i:Int) - 1).toNat=i - 1:=by omega
   have Q:(i:Int) <= 1099511627776:=by omega
   have k:∀ a,wr.cell? a=w.cell? a:=fun a=>by rw [hd];rfl
   rw [<- k] at y z;have H:Hid (∀ l,∃ d,wr.drewN l=w.drewN d):=fun l=>⟨d + l,by rw [hd,World.drewN_drewN]⟩
   clear k hd;generalize m:op v=B at *
   by_cases hb:u=B
   ·have F:Hid (∀ l,Jw w c (.returned (.bool true)) (wr.drewN l)):=fun l=>⟨H.out l,true,rfl,fun _=>⟨i - 1,by omega,by
     have e:i - 1 + 1=i:=by omega
     simp only [e];rw [<- r,<- q,m,hb]⟩,fun _=>rfl⟩
    subst hb;clear q r m b;go_upto_region 4 with fail
    go_quiet ((go_at_call 139;exact Calls.quiet_of_same (G.out _)))
    go_wp2;go_ret
    exact F.out _
   ·have F:Hid (∀ l,SH w c (.int .i64 ((i + 1:Nat):Int)) (wr.drewN l)):=fun l=>⟨i + 1,rfl,by omega,.inl (by omega),fun j h hj=>by
     by_cases e:j + 1=i
     ·subst e;simp only [Nat.add_sub_cancel] at q;rw [<- r,<- q,m];exact hb
     ·exact b.out j h (by omega),H.out l⟩
    have M:((u:Int) == (B:Int))=false:=by
     rw [beq_eq_false_iff_ne];omega
    clear q r m b;go_upto_region 4 with fail
    go_quiet ((go_at_call 139;exact Calls.quiet_of_same (G.out _)))
    go_wp2;go_roundw
    case rel=>exact F.out _
    case measure=>simp [intOf];omega
  ·have F:Hid (Jw w c (.returned (.bool false)) wr):=⟨⟨d,hd⟩,false,rfl,⟨fun h=>(by cases h),fun ⟨j,h,e⟩=>absurd e (b.out j h (by omega))⟩⟩;have J:¬ ((i:Int) < (c.length:Int)):=by omega
   clear b hd;go_wp2;go_ret;exact F.out
theorem TI {i:Nat} (h:i < 10):Lib.decDigits i=[UInt8.ofNat (48 + i)]:=by rw [Lib.decDigits,dif_pos h]
theorem UZ {i:Nat} (h:¬ i < 10) (a:i < 100):Lib.decDigits i=[UInt8.ofNat (48 + i / 10),UInt8.ofNat (48 + i % 10)]:=by rw [Lib.decDigits,dif_neg h,TI (by omega)];rfl
theorem JJ (i:Nat) (l:i < 100) (w:World):Calls Tryz.prog 149 #[.int .i64 (i:Nat)] w fun e w'=>(∃ x:ByteArray,e=.returned (.string x)/\Hid (x.data.toList=Lib.decDigits i))/\w'=w:=by
 by_cases h:i < 10
 ·have k:(0:Int) <= (i:Int):=by omega
  have j:(i:Int) < 10:=by omega
  have d:(i:Int) <= 36:=by omega
  have c:(i:Int) + 1 <= 36:=by omega
  have b:((i:Int) + 1).toNat=i + 1:=by omega
  have a:(i:Int) <= (i:Int) + 1:=by omega
  go_enter Tryz.func149,Tryz.ntmps149
  go_wp2;go_ret
  refine ⟨⟨_,rfl,?_⟩,rfl⟩;clear k j d c b a l;unfold Hid;rw [TI h];rename_i m o q;clear q o m;revert i
  decide +kernel
 ·have k:(0:Int) <= (i:Int) * 2:=by omega
  have j:¬ (i:Int) < 10:=by omega
  have d:(i:Int) * 2 <= 200:=by omega
  have c:(i:Int) * 2 + 2 <= 200:=by omega
  have b:((i:Int) * 2 + 2).toNat=i * 2 + 2:=by omega
  have p:((i:Int) * 2).toNat=i * 2:=by omega
  have a:(i:Int) * 2 <= (i:Int) * 2 + 2:=by omega
  go_enter Tryz.func149,Tryz.ntmps149
  go_wp2;go_ret
  refine ⟨⟨_,rfl,?_⟩,rfl⟩;clear k j d c b a p;unfold Hid;rw [UZ h l];revert i
  decide +kernel
end
section
open Go Go.RowKit Go.Deep Rd Go.Lib
section
section
variable {P:Program}
theorem xD (w:World) (d:Nat) (t u q e:TypeId) (i:TypeInfo) (z:P.underlying t=some (.slice e)) (y:P.underlying u=some .string) (C:P.info? e=some i) (D:i.zero=some (.int .u8 0))
  (b:i.size=1) (l:i.bytes=1) (v:Value) (n:Nat) (p:List Value) (c:w.ownsRow d e 1 v n p) (s:ByteArray)
  (r:n + s.size <= maxLen) (h:n + s.size <= 140737488355328) (m:d <= w.heap.size):
  ∃ x w',(Builtin.append_ #[t,u] q #[v,.string s]).run P w=.ok x w'/\dz w d e 1 v n p s.size (strCells s) x w':=by
 obtain ⟨x,w',B,R,Q,O⟩:=run_append_own_string (P:=P) w d t u q e i z y C D b l v n p c s r h m;refine ⟨x,w',B,R,Q,?_⟩;have A:n + s.size <= 9223372036854775807:=by simp only [maxLen] at r;omega
 have E:p.length=n:=by simpa using c.1
 rcases c.2 with ⟨rfl,rfl⟩ | ⟨g,o,G,rfl,N,J,H,M,L,F⟩
 ·by_cases I:s.size=0
  ·left;rw [O.2 ⟨rfl,I⟩]
  ·right
   have a:=run_append_nil_string (P:=P) w t u q e i (.int .u8 0) z y C D s (by omega) (by omega) (by rw [l];omega);rw [B] at a
   injection a with e1 e2
   rw [e1];rfl
 ·by_cases k:n + s.size <= o
  ·left
   have a:=run_append_room_string (P:=P) w t u q e i z y C b g n o G J s k (by omega);rw [B] at a
   injection a with e1 e2
   rw [e1];rfl
  ·right
   have holds:∀ j u,p[j]? = some u->w.cell? ((⟨g,0,none⟩:Addr).add j)=some u:=c.cells (g:=g) rfl;have a:=run_append_grow_string (P:=P) w t u q e i (.int .u8 0) z y C D ⟨g,0,none⟩ n o p (by rw [b];simpa using E) holds s (by omega) (by omega) (by rw [l];exact growslice_fits (by omega) (by omega));rw [B] at a
   injection a with e1 e2
   rw [e1];rfl
theorem jV (w:World) {k:Array Oper} {rest:List Oper} {o:Oper} {a:Act} {Q:Exit->Act->World->Prop} (q:o.guard=none) (z x:Operand) (t u:TypeId)
  (G:o.op=.call { callee:=.builtin .append,args:=#[z,x],argTypes:=#[t,u] })
  (b:Nat) (e:TypeId) (i:TypeInfo) (D:P.underlying t=some (.slice e)) (C:P.underlying u=some .string) (H:P.info? e=some i) (A:i.zero=some (.int .u8 0))
  (d:i.size=1) (r:i.bytes=1)
  (v:Value) (n:Nat) (p:List Value) (E:a.eval z=v) (l:w.ownsRow b e 1 v n p) (s:ByteArray) (B:a.eval x=.string s)
  (y:n + s.size <= maxLen) (c:n + s.size <= 140737488355328) (j:b <= w.heap.size)
  (h:∀ m w',dz w b e 1 v n p s.size (strCells s) m w'->wpList P k Q rest (a.put o.dst m) w'):wpList P k Q (o :: rest) a w:=by
 refine wpList_plain q fun K I=>?_
 obtain ⟨m,w',F,J⟩:=xD (P:=P) w b t u o.type e i D C H A d r v n p l s y c j;unfold Oper.wp execOp;simp only [G,resolve,invoke,builtin,Sem.run_bind,Sem.run_pure,Result.andThen_ok,List.map_toArray,List.map_cons,List.map_nil,E,B,F];exact I _ _ (h m w' J)
end
theorem Tryz.rG:(Tryz.prog.info? 5).map (fun i=>(i.zero,i.size,i.bytes))=some (some (.int .u8 0),1,1):=by kernel_rfl
theorem Ri {i:Nat} (a:i < 100) {s:ByteArray} (h:s.data.toList=Lib.decDigits i):s.size <= 2:=by
 have e:s.size=s.data.toList.length:=(Array.length_toList).symm;rw [e,h];by_cases h:i < 10
 ·rw [TI h];exact Nat.le_succ _
 ·rw [UZ h a];exact lr
theorem yU (i:Nat) (o:i < 100) (v:Value) (n:Nat) (l:List Value) (w:World) (a:w.ownsRow 0 5 1 v n l) (y:n <= 1000000):
  Calls Tryz.prog 237 #[v,.int .u64 (i:Nat),.int .i64 10] w fun e w'=>∃ b s,e=.returned b/\s.data.toList=Lib.decDigits i/\dz w 0 5 1 v n l s.size (strCells s) b w':=by
 have q:=hide (JJ i o);obtain ⟨c,k,j,h,d⟩:=info_parts Tryz.rG;have r:=hide a;clear a;have u:(i:Int) < 100:=by omega
 have x:(0:Int) <= (i:Int):=by omega
 go_enter Tryz.func237,Tryz.ntmps237
 go_wp2_with (first | (go_at_call 149;refine (q.out _).mono ?_;rintro z t ⟨⟨s,rfl,m⟩,rfl⟩;have p:s.size <= 2:=Ri o m.out;simp only []) | (at_builtin;refine jV _ rfl _ _ 107 9 rfl 0 5 c Tryz.underlying107 Tryz.underlying9 k j h d _ _ _ rfl r.out s rfl (by unfold maxLen;omega) (by omega) zl ?_;intro b w' A))
 go_wp2;go_ret
 exact ⟨b,s,rfl,m.out,A⟩
end
structure fM (w:World) (v:Value) (n:Nat) (xs news:List Value) (v':Value) (w':World):Prop where
 own:w'.ownsRow 0 5 1 v' (n + news.length) (xs ++ news)
 grew:w.grownBy w' v.ownBlock
 at':v'.ownBlock=v.ownBlock\/∃ g,w.heap.size <= g/\v'.ownBlock=some g
theorem fM.trans {w p o:World} {v r q:Value} {n:Nat} {m a b:List Value} (h:fM w v n m a r p) (k:fM p r (n + a.length) (m ++ a) b q o):fM w v n m (a ++ b) q o where
 own:=by rw [List.length_append,<- Nat.add_assoc,<- List.append_assoc];exact k.own
 grew:=⟨k.grew.os.trans h.grew.os,k.grew.tape.trans h.grew.tape,k.grew.output.trans h.grew.output,Nat.le_trans h.grew.size k.grew.size,fun i t d=>by
  have s:=h.grew.size;rw [k.grew.block i (by omega) (fun e=>by
   rcases h.at' with c | ⟨g,j,c⟩
   ·exact d (e.trans c)
   ·rw [c] at e;have:=Option.some.inj e;omega),h.grew.block i t d]⟩
 at':=by
  rcases k.at' with l | ⟨g,j,l⟩
  ·rcases h.at' with c | ⟨g,j,c⟩
   ·exact .inl (l.trans c)
   ·exact .inr ⟨g,j,l.trans c⟩
  ·exact .inr ⟨g,Nat.le_trans h.grew.size j,l⟩
theorem fM.of {w w':World} {v v':Value} {n m:Nat} {a news:List Value} (b:news.length=m) (A:dz w 0 5 1 v n a m news v' w'):fM w v n a news v' w' where
 own:=by rw [b];exact A.own
 grew:=A.grew
 at':=A.at'.elim .inl fun h=>.inr ⟨_,lr,h⟩
theorem fM.IU {w w':World} {v v':Value} {n m:Nat} {b news:List Value} {ob:Obj} (c:news.length=m) (A:dz (w.alloc ob) 0 5 1 v n b m news v' w'):fM w v n b news v' w' where
 own:=by rw [c];exact A.own
 grew:=⟨A.grew.os,A.grew.tape,A.grew.output,by have:=A.grew.size;simp at this;omega,fun k d a=>by
  rw [A.grew.block k (by simp;omega) a];exact Below.heap_alloc w _ k d⟩
 at':=A.at'.elim .inl fun h=>.inr ⟨_,by simp,h⟩
def dL (l:List UInt8):List Value:=l.map fun b=>Value.int .u8 b.toNat
theorem yQ (s:ByteArray):strCells s=dL s.data.toList:=by simp [strCells,dL]
theorem nS (i:Nat) (h:i < 100) (v:Value) (n:Nat) (c:List Value) (w:World) (a:w.ownsRow 0 5 1 v n c) (d:n <= 1000000):
  Calls Tryz.prog 237 #[v,.int .u64 (i:Nat),.int .i64 10] w fun e w'=>∃ b,e=.returned b/\fM w v n c (dL (Lib.decDigits i)) b w':=
 (yU i h v n c w a d).mono fun e w' ⟨b,s,h1,h2,A⟩=>⟨b,h1,by
  rw [<- h2,<- yQ];exact fM.of (by rw [strCells_length]) A⟩
theorem CZ (x:Int) (I:-100 < x) (H:x < 100) (v:Value) (n:Nat) (b:List Value) (w:World) (a:w.ownsRow 0 5 1 v n b) (G:n <= 100000):
  Calls Tryz.prog 214 #[v,.int .i64 x,.int .i64 10] w fun e w'=>∃ q,e=.returned q/\fM w v n b (dL (Lib.itoa x)) q w':=by
 have s:=hide a;clear a;by_cases r:x < 0
 ·obtain ⟨i,rfl⟩:∃ i:Nat,x=-(i:Int):=⟨x.natAbs,by omega⟩;obtain ⟨y,o,m,l,k⟩:=info_parts Tryz.rG;have p:=hide (fun j c (h:c.ownsRow 0 5 1 j (n + 1) (b ++ [.int .u8 45]))=>nS i (by omega) j (n + 1) (b ++ [.int .u8 45]) c h (by omega));rw [show Lib.itoa (-(i:Int))=[45] ++ Lib.decDigits i by unfold Lib.itoa;rw [if_pos r,show (-(i:Int)).natAbs=i by omega];rfl];rw [show dL ([45] ++ Lib.decDigits i)=[.int .u8 45] ++ dL (Lib.decDigits i) by unfold dL;rw [List.map_append];rfl];have C:IntKind.u64.wrap (-(i:Int))=18446744073709551616 - i:=by simp [IntKind.wrap,IntKind.bits,IntKind.signed];omega
  have B:IntKind.u64.wrap (-(18446744073709551616 - (i:Int)))=i:=by simp [IntKind.wrap,IntKind.bits,IntKind.signed];omega
  have z:IntKind.u64.wrap (0 - (18446744073709551616 - (i:Int)))=i:=by simp [IntKind.wrap,IntKind.bits,IntKind.signed];omega
  go_enter Tryz.func214,Tryz.ntmps214
  go_wp2_with (first | (go_at_call 237;refine (p.out _ _ t.own).mono ?_;rintro D u ⟨d,rfl,A⟩;simp only []) | (at_builtin;refine dF _ rfl _ _ 107 rfl 0 5 y (.int .u8 0) 1 1 Tryz.underlying107 o m l k rfl (by decide) _ _ _ rfl (s.out.alloc (.cells #[.int .u8 45] 5)) (.slice (some ⟨w.heap.size,0,none⟩) 1 1) 1 [.int .u8 45] rfl (.inr ⟨⟨w.heap.size,0,none⟩,1,rfl,(cell_one_new w _ _)⟩) rfl (by simp [Value.oneCell']) (by unfold maxLen;omega) (by omega) zl ?_;intro j c E;have t:=fM.IU (by rfl) E))
  go_ret
  exact ⟨d,rfl,t.trans A⟩
 ·obtain ⟨i,rfl⟩:=Int.eq_ofNat_of_zero_le (show 0 <= x by omega);have p:=hide (nS i (by omega) v n b w s.out (by omega));rw [show Lib.itoa (i:Int)=Lib.decDigits i by unfold Lib.itoa;rw [if_neg r];rfl];have C:IntKind.u64.wrap (i:Int)=i:=by simp [IntKind.wrap,IntKind.bits,IntKind.signed];omega
  go_enter Tryz.func214,Tryz.ntmps214
  go_wp2_with (go_at_call 237;refine p.out.mono ?_;rintro D u ⟨d,rfl,A⟩;simp only [])
  go_ret
  exact ⟨d,rfl,A⟩
theorem zM (x:Int) (j:-100 < x) (i:x < 100) (v:Value) (n:Nat) (b:List Value) (w:World) (a:w.ownsRow 0 5 1 v n b) (h:n <= 100000):
  Calls Tryz.prog 180 #[v,.int .i64 x,.int .i64 10] w fun e w'=>∃ c,e=.returned c/\fM w v n b (dL (Lib.itoa x)) c w':=by
 have k:=hide (CZ x j i v n b w a h);clear a;go_enter Tryz.func180,Tryz.ntmps180
 go_wp2_with (go_at_call 214;refine k.out.mono ?_;rintro m l ⟨d,rfl,A⟩;simp only [])
 go_ret
 exact ⟨d,rfl,A⟩
section
variable {Z:Nat->Prop} {sb K:Nat} {w w':World} {f V:Nat->Value} {X:Nat->List Value}
theorem rQ.longer {B:Nat} (h:rQ 0 w K ni V X) (m:12 < K) {v':Value} {w6:World} {news:List Value} (A:fM w (V 12) (X 12).length (X 12) news v' w6):rQ 0 w6 K ni (upd V 12 v') (upd X 12 (X 12 ++ news)) where
 own:=fun i b=>by
  by_cases e:i=12
  ·subst e;rw [cK,cK,List.length_append];exact A.own
  ·rw [cu _ _ e,cu _ _ e];exact (h.own i b).kept A.grew (h.apart i 12 b m e)
 apart:=fun i j b d a=>by
  by_cases e:i=12
  ·subst e;rw [cK,cu _ _ (fun e=>a e.symm)]
   rcases A.at' with c | ⟨g,o,c⟩
   ·rw [c];exact h.apart 12 j b d a
   ·rw [c];refine .inr fun k=>?_
    have:=((h.own j d).lt _ k.symm).2;omega
  ·rw [cu _ _ e];by_cases l:j=12
   ·subst l;rw [cK]
    rcases A.at' with c | ⟨g,o,c⟩
    ·rw [c];exact h.apart i 12 b d a
    ·rw [c]
     cases hb:(V i).ownBlock with
     | none=>exact .inl rfl
     | some g2=>
      refine .inr fun k=>?_
      have:=((h.own i b).lt _ hb).2;have:=Option.some.inj k;omega
   ·rw [cu _ _ l];exact h.apart i j b d a
end
end
end So
end Go.Proofs.YtceahffmenbibaaGreatDoor
