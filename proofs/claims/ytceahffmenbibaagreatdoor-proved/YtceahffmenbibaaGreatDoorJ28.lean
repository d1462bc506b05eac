/- Ssnk Stri Tprf. -/
import Derived.Test.YtceahffmenbibaaGreatDoorJ27
import Derived.Lib.UnsafeStr
import Derived.Lib.Builder
import Derived.Laws.Externs
import Derived.Test.YtceahffmenbibaaGreatDoorJ08
import Derived.Test.YtceahffmenbibaaGreatDoorJ06
import Derived.Test.YtceahffmenbibaaGreatDoorJ12
set_option linter.unusedVariables false
set_option linter.unusedSimpArgs false
set_option maxHeartbeats 2000000
set_option maxRecDepth 100000
namespace Go.Proofs.YtceahffmenbibaaGreatDoor
namespace So
section
open Go Go.RowKit Go.Deep Rd
section
structure nE (Z:Nat->Prop) (kb:Nat) (w:World) (l:List UInt8):Prop where
 ex:∃ f:Nat->Value,w.rowIs kb 111 2 f/\(f 0=.pointer none\/f 0=.pointer (some ⟨kb,0,none⟩))/\w.ownsRow 0 5 1 (f 1) l.length (dL l)/\∀ g,(f 1).ownBlock=some g->Z g
 zk:Z kb
 az:∀ g,w.heap.size <= g->Z g
variable {Z:Nat->Prop} {kb:Nat} {w w':World} {l:List UInt8}
theorem nu (l:List UInt8):(dL l).length=l.length:=by simp [dL]
theorem rY (a b:List UInt8):dL (a ++ b)=dL a ++ dL b:=by simp [dL]
theorem nE.far {f:Nat->Value} (b:w.rowIs kb 111 2 f) {v:Value} {a:List Value} {n:Nat} (d:w.ownsRow 0 5 1 v n a):∀ g,v.ownBlock=some g->g ≠ kb:=fun g h e=>by
 obtain ⟨c,i,_⟩:=b;subst e;exact Lib.ownBlock_ne d i (by decide) h
theorem nE.JS {Z':Nat->Prop} (h:nE Z kb w l) (i:∀ g,g < w.heap.size->Z g->Z' g) (j:∀ g,w.heap.size <= g->Z' g):nE Z' kb w l:=by
 obtain ⟨f,a,b,c,d⟩:=h.ex;exact ⟨⟨f,a,b,c,fun g e=>i g (c.lt g e).2 (d g e)⟩,i kb a.lt h.zk,j⟩
theorem nE.kept (h:nE Z kb w l) {Z':Nat->Prop} (i:dD Z' w w') (hd:∀ g,g < w.heap.size->Z g->¬ Z' g):nE Z kb w' l:=by
 obtain ⟨f,a,b,c,d⟩:=h.ex;exact ⟨⟨f,a.of_block (i.block _ a.lt (hd kb a.lt h.zk)),b,ownB c fun g e=>i.block g (c.lt g e).2 (hd g (c.lt g e).2 (d g e)),d⟩,h.zk,fun g e=>h.az g (Nat.le_trans i.size e)⟩
theorem nE.later (h:nE Z kb w l) (hb:Below w.heap.size w w'):nE Z kb w' l:=
 h.kept (Z':=fun _=>False) (dD.of_below hb) fun _ _ _ h=>h
theorem nE.lt (h:nE Z kb w l):kb < w.heap.size:=by obtain ⟨f,a,_⟩:=h.ex;exact a.lt
theorem JO {T:TypeId} {n b:Nat} {f:Nat->Value} (h:w.rowIs b T n f):w.shape? b=some (T,n):=by
 obtain ⟨c,d,a,_⟩:=h;unfold World.shape?;rw [d];simp [a]
theorem sizeBuilder:(Tryz.prog.info? 109).map (·.size)=some 2:=by kernel_rfl
theorem liesBuilder:liesAt Tryz.prog Tryz.prog.depth 111 (2 / Tryz.prog.cellsOf 111) 0 109 1=true:=by kernel_rfl
theorem yJ (b:w.cell? ⟨kb,0,none⟩=some (.pointer (some ⟨kb,0,none⟩))):
  Calls Tryz.prog 275 #[.pointer (some ⟨kb,0,none⟩)] w fun e w'=>e=.returned (.tuple #[])/\w'=w:=by
 obtain ⟨j,a,_⟩:=Option.map_eq_some_iff.1 sizeBuilder;go_enter Tryz.func275,Tryz.ntmps275
 go_wp2;rw [Lib.run_neq_ptr_same w _ Tryz.underlying106 a]
 go_wp2;go_end0
 exact ⟨rfl,rfl⟩
theorem wH (g:w.cell? ⟨kb,0,none⟩=some (.pointer none)) (a:w.shape? kb=some (111,2)) (d:w.frozen? ⟨kb,0,none⟩=false):
  Calls Tryz.prog 275 #[.pointer (some ⟨kb,0,none⟩)] w fun e w'=>e=.returned (.tuple #[])/\w'=w.setCell ⟨kb,0,none⟩ (.pointer (some ⟨kb,0,none⟩)):=by
 obtain ⟨j,c,b⟩:=Option.map_eq_some_iff.1 sizeBuilder;go_enter Tryz.func275,Tryz.ntmps275
 go_wp2;rw [Lib.run_to_unsafe w ⟨kb,0,none⟩ Tryz.underlying106 Tryz.underlying291 c (by rw [b];decide) a (Nat.zero_lt_succ 1)]
 simp only [Result.andThen];rw [Oper.upon_value];go_wp2;rw [run_callFunc_extern Tryz.func276 (by kernel_rfl) (by kernel_rfl) (by kernel_rfl) (e:=Extern.AbiNoEscape.same) (by kernel_rfl)];rw [Lib.run_noEscape];simp only [Result.andThen];rw [Oper.upon_value];go_wp2;rw [Lib.run_from_unsafe w ⟨kb,0,none⟩ Tryz.underlying291 Tryz.underlying106 c a liesBuilder];simp only [Result.andThen];rw [Oper.upon_value];go_wp2;go_end0;exact ⟨rfl,rfl⟩
theorem zJ (h:nE Z kb w l):Calls Tryz.prog 275 #[.pointer (some ⟨kb,0,none⟩)] w fun e w'=>e=.returned (.tuple #[])/\dD Z w w'/\nE Z kb w' l/\w'.heap.size=w.heap.size/\∀ g,g ≠ kb->w'.heap[g]? = w.heap[g]? := by
 obtain ⟨f,a,b,j,k⟩:=h.ex
 rcases b with b | b
 ·have d:=a.cell (i:=0) (by omega);rw [b] at d;refine (wH d (JO a) (a.frozen 0)).mono ?_;rintro e w' ⟨rfl,rfl⟩;refine ⟨rfl,(dD.refl w).setCell h.zk _,⟨⟨upd f 0 (.pointer (some ⟨kb,0,none⟩)),(a.set 0 _).congr fun i m=>by unfold upd;rfl,.inr (cK ..),?_,?_⟩,h.zk,fun g c=>h.az g (by simpa [World.setCell] using c)⟩,by simp [World.setCell],fun g c=>Below.heap_setCell _ _ _ _ (by simpa using c)⟩
  ·rw [cu _ _ (by decide)];exact ownB j fun g c=>Below.heap_setCell _ _ _ _ (by simpa using nE.far a j g c)
  ·rw [cu _ _ (by decide)];exact k
 ·have d:=a.cell (i:=0) (by omega);rw [b] at d;refine (yJ d).mono ?_;rintro e w' ⟨rfl,rfl⟩;exact ⟨rfl,dD.refl _,h,rfl,fun _ _=>rfl⟩
theorem nE.push (h:nE Z kb w l) {f:Nat->Value} (c:w.rowIs kb 111 2 f) (p:f 0=.pointer none\/f 0=.pointer (some ⟨kb,0,none⟩)) (q:w.ownsRow 0 5 1 (f 1) l.length (dL l)) (o:∀ g,(f 1).ownBlock=some g->Z g) {m:List UInt8} {v':Value} {w6:World} (A:dz w 0 5 1 (f 1) l.length (dL l) m.length (dL m) v' w6):
  nE Z kb (w6.setCell ⟨kb,1,none⟩ v') (l ++ m)/\dD Z w (w6.setCell ⟨kb,1,none⟩ v')/\(∀ j,j < 2->w6.cell? ⟨kb,j,none⟩=some (f j))/\w6.frozen? ⟨kb,1,none⟩=false:=by
 have b:=c.of_block (A.grew.block kb c.lt fun e=>nE.far c q kb e.symm rfl);have d:=nE.far b A.own;refine ⟨⟨⟨upd f 1 v',(b.set 1 _).congr fun i s=>by unfold upd;rfl,by rw [cu _ _ (by decide)];exact p,?_,?_⟩,h.zk,fun g a=>h.az g (by have:=A.grew.size;simp [World.setCell] at a;omega)⟩,((dD.refl w).grown A.grew fun g a=>o g a).setCell h.zk _,fun j r=>b.cell r,b.frozen 1⟩
 ·rw [cK,List.length_append,rY];exact ownB A.own fun g a=>Below.heap_setCell _ _ _ _ (by simpa using d g a)
 ·rw [cK];intro g a
  rcases A.at' with k | k
  ·rw [k] at a;exact o g a
  ·rw [k] at a;have:=Option.some.inj a;exact h.az g (by omega)
theorem vB (h:nE Z kb w l) (o c:Nat) (i:List UInt8) (L:o ≠ kb) (p:∀ j (N:j < i.length),w.cell? ⟨o,j,none⟩=some (.int .u8 (i[j]).toNat)) (aa:l.length + i.length <= 140737488355328):
  Calls Tryz.prog 274 #[.pointer (some ⟨kb,0,none⟩),.slice (some ⟨o,0,none⟩) i.length c] w fun e w'=>e=.returned (.tuple #[.int .i64 (i.length:Nat),.nilIface])/\dD Z w w'/\nE Z kb w' (l ++ i):=by
 obtain ⟨i0,hi,H,G,E⟩:=info_parts Tryz.rG;have QC:=hide (zJ h);have Q:Hid (∀ m,nE Z kb m l->(∀ g,g ≠ kb->m.heap[g]? = w.heap[g]?)->∃ v:Value,m.cell? ⟨kb,1,none⟩=some v/\m.ownsRow 0 5 1 v l.length (dL l)/\Src m (.slice (some ⟨o,0,none⟩) i.length c) i.length (dL i)/\∀ B k,dz m 0 5 1 v l.length (dL l) i.length (dL i) B k->nE Z kb (k.setCell ⟨kb,1,none⟩ B) (l ++ i)/\dD Z m (k.setCell ⟨kb,1,none⟩ B)/\(∃ u,k.cell? ⟨kb,1,none⟩=some u)/\k.frozen? ⟨kb,1,none⟩=false):=fun m h1 hh=>by
  obtain ⟨f,W,hp,Y,ha⟩:=h1.ex;refine ⟨f 1,W.cell (by omega),Y,.inr ⟨⟨o,0,none⟩,c,rfl,fun j u q=>?_⟩,fun B k A=>?_⟩
  ·have N:j < i.length:=by
    rcases Nat.lt_or_ge j i.length with g | g
    ·exact g
    ·rw [List.getElem?_eq_none (by rw [nu];exact g)] at q;cases q
   have:(dL i)[j]? = some (.int .u8 (i[j]).toNat):=by simp [dL,N]
   rw [this] at q;obtain rfl:=Option.some.inj q;rw [show (Addr.add ⟨o,0,none⟩ j:Addr)=⟨o,j,none⟩ by by_cases M:j=0 <;> simp [Addr.add,M],World.cell?_of_block (w:=w) (a:=⟨o,j,none⟩) (hh o L)];exact p j N
  ·obtain ⟨a,b,c',d⟩:=h1.push W hp Y ha A;exact ⟨a,b,⟨_,c' 1 (by omega)⟩,d⟩
 have bl:(dL i).length=i.length * 1:=by rw [nu];omega
 have one:∀ u ∈ dL i,u.oneCell'=true:=fun u q=>by
  unfold dL at q;obtain ⟨y,_,rfl⟩:=List.mem_map.1 q;rfl
 clear h p;go_enter Tryz.func274,Tryz.ntmps274
 go_wp2_with (first | (go_at_call 275;refine QC.out.mono ?_;rintro e1 m ⟨rfl,x,s,-,t⟩;obtain ⟨v1,q1,U,r,z⟩:=Q.out m s t;have C1:=hide x;have O:=hide U;have SR:=hide r;have AF:=hide z;clear x s t U r z;obtain ⟨ae,ac,J⟩:=dI O.out;subst J;simp only []) | (at_builtin;refine dF _ rfl _ _ 107 rfl 0 5 i0 (.int .u8 0) 1 1 Tryz.underlying107 hi H G E rfl (by decide) _ _ _ rfl O.out (.slice (some ⟨o,0,none⟩) i.length c) i.length (dL i) rfl SR.out bl one (by unfold maxLen;omega) (by omega) zl ?_))
 intro D k R;obtain ⟨S,c6,⟨u6,q6⟩,z6⟩:=AF.out D k R;have F:Hid (dD Z w (k.setCell ⟨kb,1,none⟩ D)/\nE Z kb (k.setCell ⟨kb,1,none⟩ D) (l ++ i)):=⟨C1.out.trans c6,S⟩;obtain ⟨ad,ab,I⟩:=dI R.own;subst I;clear R S c6 q1 O SR AF;go_wp2;go_ret2;exact ⟨rfl,F.out.1,F.out.2⟩
theorem xg (h:nE Z kb w l) (k c:Nat) (b:List UInt8) (m:k ≠ kb) (a:∀ j (hj:j < b.length),w.cell? ⟨k,j,none⟩=some (.int .u8 (b[j]).toNat)) (g:l.length + b.length <= 140737488355328):
  Calls Tryz.prog 273 #[.pointer (some ⟨kb,0,none⟩),.slice (some ⟨k,0,none⟩) b.length c] w fun e w'=>e=.returned (.tuple #[.int .i64 (b.length:Nat),.nilIface])/\dD Z w w'/\nE Z kb w' (l ++ b):=by
 have p:=hide (vB h k c b m a g);clear h a;go_enter Tryz.func273,Tryz.ntmps273
 go_wp2_with (go_at_call 274;refine p.out.mono ?_;rintro s r ⟨rfl,i,d⟩;have q:=hide i;have o:=hide d;clear i d;simp only [])
 go_ret2
 exact ⟨rfl,q.out,o.out⟩
end
section
variable {Z:Nat->Prop} {sb ob hb kb K n:Nat} {w w':World} {f f' V V':Nat->Value} {X X':Nat->List Value} {gone fu:Nat->Prop} {Rs Ro Jr Sq Rd Rk:Nat->Prop} {l l':List UInt8}
theorem Duo.JS {Z':Nat->Prop} (h:Duo Z sb ob hb n w K f V X gone Rs Ro) (b:∀ g,g < w.heap.size->Z g->Z' g) (c:∀ g,w.heap.size <= g->Z' g):Duo Z' sb ob hb n w K f V X gone Rs Ro:=
 { h with zs:=fun g a=>b g (h.ls g a) (h.zs g a),zo:=fun g a=>b g (h.lo g a) (h.zo g a),az:=c }
theorem Duo.mX {R:Nat->Prop} (h:Duo (zz R w) sb ob hb n w K f V X gone Rs Ro) {Z':Nat->Prop} (c:dD Z' w w') (hd:∀ g,g < w.heap.size->R g->¬ Z' g):Duo (zz R w') sb ob hb n w' K f V X gone Rs Ro where
 dM:=h.dM.mX c fun g b a=>hd g b (iJ b (h.zs g a))
 ord:=h.ord.mX c fun g b a=>hd g b (iJ b (h.zo g a))
 f12:=h.f12
 yB:=h.yB
 ls:=fun g a=>Nat.lt_of_lt_of_le (h.ls g a) c.size
 lo:=fun g a=>Nat.lt_of_lt_of_le (h.lo g a) c.size
 zs:=fun g a=>.inl (iJ (h.ls g a) (h.zs g a))
 zo:=fun g a=>.inl (iJ (h.lo g a) (h.zo g a))
 az:=fun g b=>.inr b
theorem nE.mX {R:Nat->Prop} (h:nE (zz R w) kb w l) {Z':Nat->Prop} (i:dD Z' w w') (hd:∀ g,g < w.heap.size->R g->¬ Z' g):nE (zz R w') kb w' l:=by
 obtain ⟨f,a,b,c,d⟩:=h.ex;exact ⟨⟨f,a.of_block (i.block _ a.lt (hd kb a.lt (iJ a.lt h.zk))),b,ownB c fun g e=>i.block g (c.lt g e).2 (hd g (c.lt g e).2 (iJ (c.lt g e).2 (d g e))),fun g e=>.inl (iJ (c.lt g e).2 (d g e))⟩,.inl (iJ h.lt h.zk),fun g e=>.inr e⟩
structure sN (Z:Nat->Prop) (sb ob hb kb n:Nat) (w:World) (K:Nat) (f V:Nat->Value) (X:Nat->List Value) (gone:Nat->Prop) (l:List UInt8) (Rs Ro Rd Rk:Nat->Prop):Prop where
 duo:Duo (zz Rd w) sb ob hb n w K f V X gone Rs Ro
 L6:nE (zz Rk w) kb w l
 yB:∀ g,Rd g->¬ Rk g
 ld:∀ g,Rd g->g < w.heap.size
 lk:∀ g,Rk g->g < w.heap.size
 zd:∀ g,Rd g->Z g
 zk:∀ g,Rk g->Z g
 az:∀ g,w.heap.size <= g->Z g
theorem sN.wW (h:sN Z sb ob hb kb n w K f V X gone l Rs Ro Rd Rk) {R:Nat->Prop} (c:∀ g,R g->Z g):∀ g,zz R w g->Z g:=fun g b=>by
 rcases b with a | a
 ·exact c g a
 ·exact h.az g a
theorem sN.xx (h:sN Z sb ob hb kb n w K f V X gone l Rs Ro Rd Rk) (hd:Duo (zz Rd w) sb ob hb n w' K f' V' X' fu Jr Sq) (d:dD (zz Rd w) w w'):
  sN Z sb ob hb kb n w' K f' V' X' fu l Jr Sq (fun g=>zz Rd w g/\g < w'.heap.size) Rk/\dD Z w w':=by
 refine ⟨{
  duo:=hd.JS (fun g a b=>.inl ⟨b,a⟩) (fun g c=>.inr c)
  L6:=h.L6.mX d fun g c a b=>h.yB g (iJ c b) a
  yB:=fun g a b=>h.yB g (iJ (h.lk g b) a.1) b
  ld:=fun g a=>a.2
  lk:=fun g a=>Nat.lt_of_lt_of_le (h.lk g a) d.size
  zd:=fun g a=>h.wW h.zd g a.1
  zk:=h.zk
  az:=fun g c=>h.az g (Nat.le_trans d.size c) },d.mono fun g _ a=>h.wW h.zd g a⟩
theorem sN.iL (h:sN Z sb ob hb kb n w K f V X gone l Rs Ro Rd Rk) (a:dX (zz Rs w) sb w' K f' V' X') (c:dD (zz Rs w) w w') (b:f' 12=f 12):
  sN Z sb ob hb kb n w' K f' V' X' gone l (fun g=>zz Rs w g/\g < w'.heap.size) Ro (fun g=>zz Rd w g/\g < w'.heap.size) Rk/\dD Z w w':=by
 obtain ⟨e,d⟩:=h.duo.iL a c b;exact h.xx e d
theorem sN.xw (h:sN Z sb ob hb kb n w K f V X gone l Rs Ro Rd Rk) (a:iI (zz Ro w) ob hb n w' fu) (b:dD (zz Ro w) w w'):
  sN Z sb ob hb kb n w' K f V X fu l Rs (fun g=>zz Ro w g/\g < w'.heap.size) (fun g=>zz Rd w g/\g < w'.heap.size) Rk/\dD Z w w':=by
 obtain ⟨d,c⟩:=h.duo.xw a b;exact h.xx d c
theorem sN.UA (h:sN Z sb ob hb kb n w K f V X gone l Rs Ro Rd Rk) (e:nE (zz Rk w) kb w' l') (d:dD (zz Rk w) w w'):
  sN Z sb ob hb kb n w' K f V X gone l' Rs Ro Rd (fun g=>zz Rk w g/\g < w'.heap.size)/\dD Z w w':=by
 refine ⟨{
  duo:=h.duo.mX d fun g b a c=>h.yB g a (iJ b c)
  L6:=e.JS (fun g a c=>.inl ⟨c,a⟩) (fun g b=>.inr b)
  yB:=fun g a c=>h.yB g a (iJ (h.ld g a) c.1)
  ld:=fun g a=>Nat.lt_of_lt_of_le (h.ld g a) d.size
  lk:=fun g a=>a.2
  zd:=h.zd
  zk:=fun g a=>h.wW h.zk g a.1
  az:=fun g b=>h.az g (Nat.le_trans d.size b) },d.mono fun g _ a=>h.wW h.zk g a⟩
theorem sN.later (h:sN Z sb ob hb kb n w K f V X gone l Rs Ro Rd Rk) (a:Below w.heap.size w w'):sN Z sb ob hb kb n w' K f V X gone l Rs Ro Rd Rk where
 duo:=h.duo.mX (Z':=fun _=>False) (dD.of_below a) fun _ _ _ h=>h
 L6:=h.L6.mX (Z':=fun _=>False) (dD.of_below a) fun _ _ _ h=>h
 yB:=h.yB
 ld:=fun g b=>Nat.lt_of_lt_of_le (h.ld g b) a.size
 lk:=fun g b=>Nat.lt_of_lt_of_le (h.lk g b) a.size
 zd:=h.zd
 zk:=h.zk
 az:=fun g c=>h.az g (Nat.le_trans a.size c)
end
end
section
open Rd
section
theorem Ao:∀ (n:Nat) (l:List Bool),l.length < n->ic n l % 2=0
 | 0,l,h=>by omega
 | n + 1,[],_=>rfl
 | n + 1,b :: r,h=>by
  have a:r.length < n:=by simpa using h
  have c:=Ao n r a;obtain ⟨m,rfl⟩:∃ m,n=m + 1:=⟨n - 1,by omega⟩;simp only [ic];cases b
  ·simp;omega
  ·simp only [if_true];rw [Nat.pow_succ];omega
theorem D9 {n len k:Nat} {ch:List Nat} (h:Gb ch len) {d:Nat} (hd:d < ch.length) (a:len <= n) (b:ch[d] + 1 < n) (c:2 * k <= ic n (bits len ch)):2 * (k + 1) <= ic n (bits (ch[d] + 1) (ch.take d)):=by
 have g:=GG (n:=n) h hd a;have e:=Ao n (bits (ch[d] + 1) (ch.take d)) (by rw [yS];exact b);omega
theorem Eb {n len k:Nat} {ch:List Nat} (h:∀ p ∈ ch,p < len) (a:len < n) (b:k <= ic n (bits len ch)):k <= ic n (bits (len + 1) ch):=by
 rw [wh h];have:=JX n (bits len ch) (by rw [yS];exact a);omega
theorem Ea {n len k:Nat} {ch:List Nat} (h:∀ p ∈ ch,p < len) (a:k <= ic n (bits len ch)):k <= ic n (bits (len + 1) (ch ++ [len])):=by
 rw [FL h,sG];exact a
variable {n:Nat} {tr ch:List Nat} {lev:Nat->Nat} {C:jy} {P:Nat}
theorem Oc (D:sO C tr lev P) (u:wR C tr lev) (h:jm n tr ch lev) (G:Dr n C) {a:Nat} {c:zi} (d:C a=some c) (k:c.kind ≠ 2) (m:∀ y ∈ c.lits,op y ∈ tr):P + 2 <= tr.length:=by
 match e:c.lits with
 | []=>
  obtain ⟨x,b,_⟩:=u a c d k (by rw [e];simp);rw [e] at b;cases b
 | [y]=>
  obtain ⟨x,b,o,_⟩:=u a c d k (by rw [e];simp);rw [e] at b;cases b
  exact (h.mR o (m y (by rw [e];simp))).elim
 | p :: q :: r=>
  obtain ⟨b,o⟩:=D a c p q r d k e;have z:=m p (by rw [e];simp);have v:=m q (by rw [e];simp);obtain ⟨i,F,A⟩:=List.mem_iff_getElem.1 z;obtain ⟨j,E,s⟩:=List.mem_iff_getElem.1 v;have I:P <= i:=by
   rcases Nat.lt_or_ge i P with g | g
   ·exact (h.mR (b i F g A).1 v).elim
   ·exact g
  have H:P <= j:=by
   rcases Nat.lt_or_ge j P with g | g
   ·exact (h.mR (o j E g s).1 z).elim
   ·exact g
  have t:=G.vars a c d;rw [e] at t;have B:i ≠ j:=fun g=>by
   subst g;rw [A] at s;have:=MI s;subst this;simp at t
  omega
theorem JY {m:Nat} {zW:List Nat} {uQ:Nat->Nat} (d:jm n tr ch lev) (b:jm n zW ch uQ) (i:tr.length <= zW.length) (g:m <= ic n (bits tr.length ch)):m <= ic n (bits zW.length ch):=by
 have a:∀ j,tr.length + j <= n->m <= ic n (bits (tr.length + j) ch):=by
  intro j
  induction j with
  | zero=>intro _;exact g
  | succ j ih=>
   intro k;have c:∀ p ∈ ch,p < tr.length + j:=fun p e=>by have:=d.gY.2 p e;omega
   have h:tr.length + j < n:=by omega
   exact Eb c h (ih (by omega))
 have c:=b.len;have:=a (zW.length - tr.length) (by omega)
 rwa [show tr.length + (zW.length - tr.length)=zW.length by omega] at this
def nP (g:Bool) (c:List Nat):Bs:=(if g then [100,32] else []) ++ c.flatMap (fun x=>Lib.itoa (wr x) ++ [32]) ++ [48]
def sP (c:UInt8) (l:Bs):Prop:=∀ x ∈ l,(x == c)=false
theorem vK {c:UInt8}:∀ {a:Bs},sP c a->dK c a=[a]
 | [],_=>rfl
 | x :: a,h=>by
  unfold dK;rw [h x (by simp),vK (a:=a) (fun y b=>h y (by simp [b]))];rfl
theorem kM {c:UInt8}:∀ {a:Bs} (r:Bs),sP c a->dK c (a ++ c :: r)=a :: dK c r
 | [],r,_=>by
  show dK c (c :: r)=_
  rw [show dK c (c :: r)=if c == c then [] :: dK c r else match dK c r with | h :: t=>(c :: h) :: t | []=>[[c]] from rfl,if_pos (by simp)]
 | x :: a,r,h=>by
  show dK c (x :: (a ++ c :: r))=_
  rw [show dK c (x :: (a ++ c :: r))=if x == c then [] :: dK c (a ++ c :: r) else match dK c (a ++ c :: r) with | h :: t=>(x :: h) :: t | []=>[[x]] from rfl,h x (by simp),kM (a:=a) r (fun y b=>h y (by simp [b]))];rfl
theorem Nv:∀ V,V < 51->∀ k,k < V->iV (Lib.decDigits V) (Lib.decDigits (k + 1))=true/\iV (Lib.decDigits V) (45 :: Lib.decDigits (k + 1))=true:=by
 decide +kernel
theorem Nu:∀ k,k < 50->eQ (Lib.decDigits (k + 1))=(k:Int) + 1/\eQ (45 :: Lib.decDigits (k + 1))=-((k:Int) + 1)/\(Lib.decDigits (k + 1)).all (fun b=>!(b == 32) && !(b == 10) && !(b == 45) && !(b == 100) && !(b == 9))=true/\(Lib.decDigits (k + 1)).length <= 2/\zero (Lib.decDigits (k + 1))=false:=by
 decide +kernel
theorem QY (x:Nat):Lib.itoa (wr x)=if x % 2=0 then Lib.decDigits (x / 2 + 1) else 45 :: Lib.decDigits (x / 2 + 1):=by
 unfold wr Lib.itoa;by_cases h:x % 2=0
 ·rw [if_pos h,if_pos h,if_neg (by omega)]
  congr 1
 ·rw [if_neg h,if_neg h,if_pos (by omega)]
  congr 2
theorem mV {V x:Nat} (q:V <= 50) (p:x < 2 * V):iV (Lib.decDigits V) (Lib.itoa (wr x))=true/\eQ (Lib.itoa (wr x))=wr x/\sP 32 (Lib.itoa (wr x))/\sP 10 (Lib.itoa (wr x))/\sP 100 (Lib.itoa (wr x))/\sP 9 (Lib.itoa (wr x))/\(Lib.itoa (wr x)).length <= 3/\zero (Lib.itoa (wr x))=false/\Lib.itoa (wr x) ≠ []:=by
 have m:x / 2 < V:=by omega
 obtain ⟨c,k⟩:=Nv V (by omega) (x / 2) m;obtain ⟨j,i,g,o,d⟩:=Nu (x / 2) (by omega);have a:=List.all_eq_true.1 g;rw [QY];by_cases h:x % 2=0
 ·rw [if_pos h];refine ⟨c,by rw [j];unfold wr;rw [if_pos h],fun b hb=>?_,fun b hb=>?_,fun b hb=>?_,fun b hb=>?_,by omega,d,fun e=>by rw [e] at c;simp [iV,strip,gJ] at c⟩
  all_goals
   have:=a b hb;simp at this ⊢;simp [this]
 ·rw [if_neg h];refine ⟨k,by rw [i];unfold wr;rw [if_neg h],fun b hb=>?_,fun b hb=>?_,fun b hb=>?_,fun b hb=>?_,by simp;omega,by simp [zero],by simp⟩
  all_goals
   rcases List.mem_cons.1 hb with rfl | hb
   ·decide
   ·have:=a b hb;simp at this ⊢;simp [this]
theorem sD {V:Nat} (a:V <= 50):∀ {c:List Nat},(∀ x ∈ c,x < 2 * V)->dK 32 (c.flatMap (fun x=>Lib.itoa (wr x) ++ [32]) ++ [48])=c.map (fun x=>Lib.itoa (wr x)) ++ [[48]]
 | [],_=>by decide
 | x :: c,h=>by
  rw [List.flatMap_cons,List.append_assoc,List.append_assoc,List.singleton_append,kM _ (mV a (h x (by simp))).2.2.1,sD a (fun y b=>h y (by simp [b]))];rfl
theorem AO {V:Nat} (b:V <= 50) {c:List Nat} (h:∀ x ∈ c,x < 2 * V):jG (Lib.decDigits V) (c.map (fun x=>Lib.itoa (wr x)) ++ [[48]])=some (c.map wr):=by
 rw [xZ,if_pos]
 ·rw [List.map_map]
  congr 1
  exact List.map_congr_left fun x a=>(mV b (h x a)).2.1
 ·rw [show zero [48]=true from rfl,Bool.true_and,List.all_map,List.all_eq_true];exact fun x a=>(mV b (h x a)).1
theorem Cv {V:Nat} (a:V <= 50) (g:Bool) {c:List Nat} (h:∀ x ∈ c,x < 2 * V):iy (Lib.decDigits V) (nP g c)=some (g,c.map wr):=by
 unfold iy nP;rw [kN]
 cases g with
 | true=>
  rw [if_pos rfl,List.append_assoc,show ([100,32]:Bs) ++ (c.flatMap (fun x=>Lib.itoa (wr x) ++ [32]) ++ [48])=[100] ++ 32 :: (c.flatMap (fun x=>Lib.itoa (wr x) ++ [32]) ++ [48]) from rfl,kM _ (by intro x b;simp at b;subst b;decide),sD a h];rw [if_pos (by rw [List.head?_cons]),List.tail_cons,AO a h];rfl
 | false=>
  have d:((if false=true then [100,32] else []) ++ c.flatMap (fun x=>Lib.itoa (wr x) ++ [32]) ++ [48]:Bs)=c.flatMap (fun x=>Lib.itoa (wr x) ++ [32]) ++ [48]:=rfl;rw [d,sD a h,if_neg,AO a h]
  ·rfl
  cases c with
  | nil=>decide
  | cons x c=>
   rw [List.map_cons,List.cons_append,List.head?_cons];intro e;have:=(mV a (h x (by simp))).2.2.2.2.1;rw [Option.some.inj e] at this;have:=this 100 (by simp);simp at this
theorem AP {V:Nat} (d:V <= 50) (g:Bool) {c:List Nat} (h:∀ x ∈ c,x < 2 * V):sP 10 (nP g c):=by
 unfold nP;intro b hb
 rcases List.mem_append.1 hb with hb | hb
 ·rcases List.mem_append.1 hb with hb | hb
  ·cases g
   ·simp at hb
   ·simp at hb;rcases hb with rfl | rfl <;> decide
  ·obtain ⟨x,a,hb⟩:=List.mem_flatMap.1 hb
   rcases List.mem_append.1 hb with hb | hb
   ·exact (mV d (h x a)).2.2.2.1 b hb
   ·simp at hb;subst hb;decide
 ·simp at hb;subst hb;decide
def dW (ls:List (Bool × List Nat)):Bs:=ls.flatMap fun l=>nP l.1 l.2 ++ [10]
theorem vR (a:List (Bool × List Nat)) (g:Bool) (c:List Nat):dW (a ++ [(g,c)])=dW a ++ (nP g c ++ [10]):=by
 unfold dW;rw [List.flatMap_append];simp
theorem vk {V:Nat} (d:V <= 50) (i:List Cl) (a:eH i []):∀ (ls:List (Bool × List Nat)) (L:List Cl) (k:Nat),(∀ l ∈ ls,∀ x ∈ l.2,x < 2 * V)->nW L (ls.map fun l=>(l.1,l.2.map wr)) i->
  mg (Lib.decDigits V) L (dK 10 (dW ls ++ [48,10])) k (k + ls.length + 1,0)
 | [],L,k,hl,h=>by
  have h:i=L:=h;subst h;have e:dK 10 (dW [] ++ [48,10])=[[48],[]]:=by decide
  rw [e];unfold mg;rw [if_neg (by simp)];have q:iy (Lib.decDigits V) [48]=some (false,[]):=Cv d false (c:=[]) (by simp);rw [q];exact ⟨fun h=>absurd a h,fun _=>by simp⟩
 |(g,c) :: ls,L,k,hl,h=>by
  have j:=hl (g,c) (by simp);have e:dW ((g,c) :: ls) ++ [48,10]=nP g c ++ 10 :: (dW ls ++ [48,10]):=by
   unfold dW;rw [List.flatMap_cons];simp
  rw [e,kM _ (AP d g j)];obtain ⟨t,s,r⟩:=jo 10 (dW ls ++ [48,10]);unfold mg;rw [if_neg (by rw [r];simp),Cv d g j];have b:∀ l ∈ ls,∀ x ∈ l.2,x < 2 * V:=fun l m=>hl l (by simp [m])
  rw [List.map_cons] at h;have p:k + ((g,c) :: ls).length + 1=(k + 1) + ls.length + 1:=by simp;omega
  rw [p]
  cases g with
  | true=>
   obtain ⟨M,g1,g2⟩:=h;simp only;rw [g1];exact vk d i a ls M (k + 1) b g2
  | false=>
   obtain ⟨o,g1,g2⟩:=h;refine ⟨fun h=>absurd (.inl g1) h,fun _=>?_⟩;rw [if_neg (by simpa using o)];exact vk d i a ls _ (k + 1) b g2
end
end
end So
end Go.Proofs.YtceahffmenbibaaGreatDoor
