/- Sfor Sval Snle Shelf Rprog2. -/
import Derived.Test.YtceahffmenbibaaGreatDoorJ09
import Derived.Shelf.Small.Bits
import Derived.Shelf.Small.Wraps
import Derived.Shelf.Strconv.Atoi
import Derived.Shelf.Strconv.Itoa0
import Derived.Shelf.Strconv.Itoa1
import Derived.Shelf.LaysM
import Derived.Shelf.Strconv.Itoa2
import Derived.Shelf.Strconv.Itoa3
import Derived.Shelf.Strconv.AtoiErrFast
import Derived.Shelf.Strconv.ParseIntEmpty
import Derived.Shelf.Strconv.AtoiFail
import Derived.Shelf.Strconv.Clone
import Derived.Shelf.Strconv.SyntaxError
import Derived.Shelf.LaysC
import Derived.Shelf.Strconv.ToError
import Derived.Shelf.Strconv.Lower
import Derived.Shelf.Strconv.ParseUint10
import Derived.Shelf.Strconv.ParseUint10Empty
import Derived.Shelf.Strconv.ParseUint10Any
import Derived.Shelf.Strconv.ParseInt10
import Derived.Shelf.Strconv.AtoiLong
import Derived.Shelf.Strconv.AtoiInnerAll
import Derived.Shelf.Strconv.RangeError
import Derived.Shelf.Strconv.ToErrorRange
import Derived.Shelf.Strconv.AtoiAll
import Derived.Shelf.Strconv.ErrVarAll
import Derived.Shelf.Strings.Search1
import Derived.Shelf.Strings.Search2
import Derived.Shelf.Strings.Cut
import Derived.Shelf.Strings.Shaped
import Derived.Shelf.Strings.Prefix
import Derived.Shelf.Strings.FieldsFuncAny
import Derived.Shelf.Strings.FieldsFuncGrows
import Derived.Shelf.Slices.Turned
import Derived.Test.YtceahffmenbibaaGreatDoorProg
import Derived.Test.YtceahffmenbibaaGreatDoorJ00
set_option linter.unusedVariables false
set_option linter.unusedSimpArgs false
set_option maxHeartbeats 4000000
set_option maxRecDepth 100000
open Go.Proofs.Tryz
namespace Go.Proofs.YtceahffmenbibaaGreatDoor
namespace So
section
open Go Go.RowKit Go.Deep Rd
section
variable {Z:Nat->Prop} {sb K n:Nat} {w:World} {f V:Nat->Value} {X:Nat->List Value} {tr ch:List Nat} {lev:Nat->Nat} {dB:Nat->Int} {cs:List Rec}
structure Iq (n:Nat) (X:Nat->List Value) (fol:Nat->Bool):Prop where
 n11:(X 11).length=n
 t11:∀ v,v < n->(X 11)[v]? = some (.bool (fol v))
def Ip (Z:Nat->Prop) (sb:Nat) (w:World) (K:Nat) (f V:Nat->Value) (X:Nat->List Value) (fol:Nat->Bool) (tl:List Nat) (s:Value) (wr:World):Prop:=
 ∃ i:Nat,s=.int .i64 ((i:Nat):Int)/\i <= tl.length/\Hid ((∀ j (hj:j < tl.length),j < i->fol (tl[j] / 2)=true)/\dX Z sb wr K f V X/\∃ d,wr=w.drewN d)
def o8 (w:World) (b:Bool) (e:Ending) (w':World):Prop:=e=.returned (.bool b)/\∃ d,w'=w.drewN d
theorem EK {C:jy} {fol:Nat->Bool} {v:Nat} (h:dB v=-1):dS (iU C dB) fol v=false:=by
 unfold dS iU;rw [if_pos h]
theorem EJ {fol:Nat->Bool} {v k:Nat} (a:k < cs.length) (h:dB v=(dU cs k:Nat)):dS (iU (mapOf cs) dB) fol v=(cs[k]).lits.tail.all fun y=>fol (y / 2):=by
 unfold dS iU;rw [if_neg (by omega),h,Int.toNat_natCast,eP a];rfl
theorem uf {fol:Nat->Bool} {y:Nat} (h:dX Z sb w K f V X) (hn:n <= 50) (h0:X 0=ints (enc cs)) (hN:(enc cs).length <= 1099511627776) (hT:ou n X tr ch lev dB) (hF:Iq n X fol) (hy:y < 2 * n)
  (o:dB (y / 2)=-1\/∃ k,∃ D:k < cs.length,dB (y / 2)=(dU cs k:Nat)/\(cs[k]).lits ≠ []/\∀ x ∈ (cs[k]).lits,x < 2 * n):
  Calls Tryz.prog 183 #[.pointer (some ⟨sb,0,none⟩),.int .i64 (y:Nat)] w fun e r=>o8 w (dS (iU (mapOf cs) dB) fol (y / 2)) e r:=by
 have hK:=h.hK;have QV:Hid (∀ Y,Calls Tryz.prog 176 #[.int .i64 (y:Nat)] Y fun e r=>e=.returned (.int .i64 ((y / 2:Nat):Int))/\r=Y):=fun Y=>fB y Y (by omega)
 have hv:y / 2 < n:=by omega
 obtain ⟨g5,c5,t5,e5,q5,r5,s5,-⟩:=h.elem (k:=5) (j:=y / 2) (by omega) hT.n5 hv;rw [show cellOf 5=11 from rfl] at q5;rw [hT.t5 _ hv] at s5;obtain rfl:=Option.some.inj s5;have v0:(0:Int) <= ((y / 2:Nat):Int):=by omega
 have v1:((y / 2:Nat):Int) < (n:Int):=by omega
 rcases o with o | ⟨k,D,o,M,q⟩
 ·rw [EK o];rw [o] at r5;clear h h0 hT hF e5;generalize y / 2=v at *
  go_enter Tryz.func183,Tryz.ntmps183
  go_upto_region 1 with fail
  go_quiet ((go_at_call 176;exact Calls.quiet_of_same (QV.out _)))
  go_wp2;go_ret
  exact ⟨rfl,_,rfl⟩
 ·rw [EJ D o];rw [o] at r5;obtain ⟨g,c,e0,q0,R,lg,ng,zg,r0,-,-,-,-⟩:=mU h h0 D;have O:=kH D;obtain ⟨x0,m,N⟩:∃ x0 m,(cs[k]).lits=x0 :: m:=by
   match e:(cs[k]).lits,M with
   | x0 :: m,_=>exact ⟨x0,m,rfl⟩
  have hm:(cs[k]).lits.length=m.length + 1:=by rw [N];simp
  have QL:Hid (∀ j,Calls Tryz.prog 175 #[.pointer (some ⟨sb,2,none⟩),.int .i64 (dU cs k:Nat)] (w.drewN j) fun e r=>e=.returned (jM g (dU cs k) (cs[k]).lits.length c)/\∃ d,r=(w.drewN j).drewN d):=fun j=>ky sb 2 g (enc cs).length c (dU cs k) (cs[k]).lits.length (w.drewN j) q0 (by omega) (by unfold maxLen;omega) R r0
  have nc:¬ (c=dU cs k + 3):=by omega
  unfold jM at QL;rw [if_neg nc,hm] at QL;have ag:Hid (∀ wr,dX Z sb wr K f V X->∀ i (hi:i < m.length),wr.cell? ⟨g,dU cs k + 3 + 1 + i,none⟩=some (.int .i64 (m[i]:Nat))):=fun wr hs i hi=>by
   have:=mD hs h0 e0 D (i:=i + 1) (by omega);rw [show dU cs k + 3 + 1 + i=dU cs k + 3 + (i + 1) by omega,this];simp [N]
  have af:Hid (∀ x ∈ m,x < 2 * n):=fun x L=>q x (by rw [N];simp [L])
  rw [N,List.tail_cons];have HS:=hide h;have HF:=hide hF;have ah:m.length + 1 <= 1099511627776:=by omega
  have S:m.length + 1 <= c - (dU cs k + 3):=by omega
  clear h h0 hT hF e5 N hm o M q q0 r0 e0 O lg ng zg D;generalize dU cs k=a at *
  generalize aa:y / 2=v at *
  obtain ⟨cc,Q⟩:∃ cc,cc=c - (a + 3):=⟨_,rfl⟩;rw [<- Q] at QL S;have c1:(1:Int) <= (cc:Int):=by omega
  have c2:(1:Int) <= ((m.length + 1:Nat):Int):=by omega
  clear Q nc R;obtain ⟨B,hB⟩:∃ B,B=m.all fun y=>fol (y / 2):=⟨_,rfl⟩
  rw [<- hB];have HB:=hide hB;clear hB aa;go_enter Tryz.func183,Tryz.ntmps183
  go_upto_region 1 with fail
  go_quiet ((go_at_call 176;exact Calls.quiet_of_same (QV.out _)))
  go_upto_region 4 with fail
  go_wp2_with (go_at_call 175;refine (QL.out _).mono ?_;rintro e7 w7 ⟨rfl,d7,rfl⟩;simp only [])
  ·obtain ⟨W,C⟩:∃ W,W=w.drewN (nq + d7):=⟨_,rfl⟩;have T:Hid (dX Z sb W K f V X/\∃ d,W=w.drewN d):=by rw [C];exact ⟨HS.out.later (Go.below_drewN bR _),_,rfl⟩
   rw [<- C];clear C q5 r5;go_loopw [7,26] (fun _ p wr=>Ip Z sb w K f V X fol m p wr) (fun _ p _=>m.length - (intOf p).toNat)
   case atStart=>exact ⟨0,rfl,zl,fun j s h=>absurd h (Nat.not_lt_zero _),T.out⟩
   case round=>
    clear T;obtain ⟨i,rfl,ad,l⟩:=hrel;by_cases q:i < m.length
    ·exact absurd q (by omega)
    ·have FB:Hid (o8 w B (.returned (.bool true)) wr):=by
      refine ⟨?_,l.out.2.2⟩;have:B=true:=by
       rw [HB.out,List.all_eq_true];intro x L;obtain ⟨j,s,rfl⟩:=List.mem_iff_getElem.1 L;exact l.out.1 j s (by omega)
      rw [this]
     have i1:¬ ((i:Int) < (m.length:Int)):=by omega
     clear l;go_wp2;go_ret;exact FB.out
  ·obtain ⟨W,C⟩:∃ W,W=w.drewN (nq + d7):=⟨_,rfl⟩;have T:Hid (dX Z sb W K f V X/\∃ d,W=w.drewN d):=by rw [C];exact ⟨HS.out.later (Go.below_drewN bR _),_,rfl⟩
   rw [<- C];clear C q5 r5;go_loopw [7,26] (fun _ p wr=>Ip Z sb w K f V X fol m p wr) (fun _ p _=>m.length - (intOf p).toNat)
   case atStart=>exact ⟨0,rfl,zl,fun j s h=>absurd h (Nat.not_lt_zero _),T.out⟩
   case round=>
    clear T;obtain ⟨i,rfl,ad,l⟩:=hrel;by_cases q:i < m.length
    ·have P:=ag.out wr l.out.2.1 i q;obtain ⟨z,hz⟩:∃ z,z=m[i]:=⟨_,rfl⟩;rw [<- hz] at P;have aj:z < 2 * n:=by rw [hz];exact af.out _ (List.getElem_mem _)
     have QZ:Hid (∀ Y,Calls Tryz.prog 176 #[.int .i64 (z:Nat)] Y fun e r=>e=.returned (.int .i64 ((z / 2:Nat):Int))/\r=Y):=fun Y=>fB z Y (by omega)
     have J:z / 2 < n:=by omega
     obtain ⟨ak,al,ai,ae,I,H,G,-⟩:=l.out.2.1.elem (k:=11) (j:=z / 2) (by omega) HF.out.n11 J;rw [show cellOf 11=17 from rfl] at I;rw [HF.out.t11 _ J] at G;obtain rfl:=Option.some.inj G;have z0:(0:Int) <= ((z / 2:Nat):Int):=by omega
     have z1:((z / 2:Nat):Int) < (n:Int):=by omega
     have i0:(0:Int) <= (i:Int):=by omega
     have i1:(i:Int) < (m.length:Int):=by omega
     have i2:(i:Int) <= 1099511627776:=by omega
     obtain ⟨bz,t⟩:∃ b,b=fol (z / 2):=⟨_,rfl⟩;rw [<- t] at H;have U:Hid (fol (m[i] / 2)=bz):=by unfold Hid;rw [t,hz]
     clear ae hz t;generalize z / 2=zv at *
     go_upto_region 7 with fail
     go_quiet ((go_at_call 176;exact Calls.quiet_of_same (QZ.out _)))
     obtain ⟨E,u⟩:∃ E,E=wr.drewN nq:=⟨_,rfl⟩;have S2:Hid (dX Z sb E K f V X/\∃ d,E=w.drewN d):=by
      obtain ⟨d,hd⟩:=l.out.2.2;rw [u];exact ⟨l.out.2.1.later (Go.below_drewN bR _),_,by rw [hd,World.drewN_drewN]⟩
     rw [<- u];clear u I H P
     cases bz with
     | true=>
      have NX:Hid (∀ sv,sv=.int .i64 ((i + 1:Nat):Int)->Ip Z sb w K f V X fol m sv E):=fun sv ab=>⟨i + 1,ab,q,fun j s ac=>by
       rcases Nat.lt_succ_iff_lt_or_eq.1 ac with h1 | h1
       ·exact l.out.1 j s h1
       ·subst h1;exact U.out,S2.out⟩
      clear l;go_wp2;go_roundw
      case rel=>exact NX.out _ (by go_num)
      case measure=>simp [intOf];omega
     | false=>
      have FB:Hid (o8 w B (.returned (.bool false)) E):=by
       refine ⟨?_,S2.out.2⟩;have:B=false:=by
        rw [HB.out,List.all_eq_false];exact ⟨m[i],List.getElem_mem _,by rw [U.out];simp⟩
       rw [this]
      clear l;go_wp2;go_ret;exact FB.out
    ·have FB:Hid (o8 w B (.returned (.bool true)) wr):=by
      refine ⟨?_,l.out.2.2⟩;have:B=true:=by
       rw [HB.out,List.all_eq_true];intro x L;obtain ⟨j,s,rfl⟩:=List.mem_iff_getElem.1 L;exact l.out.1 j s (by omega)
      rw [this]
     have i1:¬ ((i:Int) < (m.length:Int)):=by omega
     clear l;go_wp2;go_ret;exact FB.out
end
section
variable {Z:Nat->Prop} {sb K n:Nat} {w:World} {f V:Nat->Value} {X:Nat->List Value} {tr ch:List Nat} {lev:Nat->Nat} {dB:Nat->Int}
theorem Tryz.AX:(Tryz.prog.info? 4).map (fun i=>(i.zero,i.size,i.bytes))=some (some (.bool false),1,1):=by kernel_rfl
def Ow (w:World) (n:Nat) (tr:List Nat) (s:Value) (wr:World):Prop:=
 ∃ i:Nat,s=.int .i64 ((i:Nat):Int)/\i <= n/\Hid (Below w.heap.size w wr/\wr.rowIs w.heap.size 4 n (fun v=>.bool (decide (v < i) && decide (0 < tv tr (2 * v)))))
theorem Gs (h:dX Z sb w K f V X) (q:ou n X tr ch lev dB) (B:(X 6).length=n) (hn:n <= 50):
  Calls Tryz.prog 58 #[.pointer (some ⟨sb,0,none⟩)] w fun e d=>e=.returned (.slice (some ⟨w.heap.size,0,none⟩) n n)/\Below w.heap.size w d/\d.rowIs w.heap.size 4 n (fun v=>.bool (decide (0 < tv tr (2 * v)))):=by
 have hK:=h.hK;have m:=run_make_row' (P:=Tryz.prog) 26 4 (.bool false) 1 Tryz.underlying26 Tryz.AX rfl .i64 .i64 n (by omega) (by omega);obtain ⟨a6,c6,C⟩:=h.fG.shape (k:=6) (by omega);have x:=(h.hd (k:=6) (by omega)).1;rw [show cellOf 6=13 from rfl,C,B] at x;go_enter Tryz.func58,Tryz.ntmps58
 go_wp2_with fail
 have r:Hid (∀ (wr Y:World) (v:Nat),Below w.heap.size w wr->Y.heap=wr.heap->v < n->Calls Tryz.prog 103 #[.pointer (some ⟨sb,6,none⟩),.int .i64 ((2 * v:Nat):Int)] Y fun e d=>e=.returned (.bool (decide (0 < tv tr (2 * v))))/\d=Y):=fun wr Y v g l p=>by
  have z:=h.later g;obtain ⟨M,Q,W,e3,y,H,u,-⟩:=z.elem (k:=3) (j:=2 * v) (by omega) q.n3 (by omega);rw [show cellOf 3=9 from rfl] at y;rw [q.t3 _ (by omega)] at u;obtain rfl:=Option.some.inj u;exact yh sb 6 M (2 * n) Q (2 * v) (tv tr (2 * v)) Y (by rw [gy l];exact y) (by omega) (by rw [gy l];exact H)
 have E:Hid (Below w.heap.size w (w.alloc (.cells (madeCells #[.bool false] n) 4))/\(w.alloc (.cells (madeCells #[.bool false] n) 4)).rowIs w.heap.size 4 n (fun v=>.bool (decide (v < 0) && decide (0 < tv tr (2 * v))))):=by
  refine ⟨bR.alloc lr _,?_⟩;exact (World.rowIs_made w (.bool false) n 4).congr fun i hi=>by simp
 clear h q B m C x;go_loopw [4,13] (fun _ s wr=>Ow w n tr s wr) (fun _ s _=>n - (intOf s).toNat)
 case atStart=>exact ⟨0,rfl,zl,E⟩
 case round=>
  clear E;obtain ⟨i,rfl,L,a⟩:=hrel;by_cases c:i < n
  ·have r0:=a.out.2.cell c;have U:=a.out.2.frozen i;have D:=hide (fun Y=>og ((i:Int) + 1) Y (by omega) (by omega) (by omega));rw [show lit ((i:Int) + 1)=2 * i by unfold lit;rw [if_neg (by omega)];omega] at D;have R:=hide (fun Y l=>r.out wr Y i a.out.1 l c);generalize g:decide (0 < tv tr (2 * i))=b at *
   have S:Hid (Ow w n tr (.int .i64 ((i + 1:Nat):Int)) (wr.setCell ⟨w.heap.size,i,none⟩ (.bool b)).drew):=by
    refine ⟨i + 1,rfl,c,(a.out.1.setCell lr _).drew,World.rowIs.drew ((a.out.2.set i (.bool b)).congr fun v p=>?_)⟩;by_cases e:v=i
    ·subst e;rw [if_pos rfl,<- g];simp
    ·rw [if_neg e,show decide (v < i + 1)=decide (v < i) by rw [decide_eq_decide];omega]
   have i0:(0:Int) <= (i:Int):=by omega
   have I:(i:Int) < (n:Int):=by omega
   have i2:(i:Int) <= 50:=by omega
   have J:w.heap.size < wr.heap.size:=a.out.2.lt;have o:IntKind.i64.wrap ((i:Int) + 1)=(i:Int) + 1:=zR _ (by omega) (by omega);clear a g r;generalize hk:(2 * i:Nat)=k at *
   generalize w.heap.size=z at *
   go_upto_region 5 with fail
   go_region_with (first | (go_at_call 95;(try rw [o]);refine (D.out _).mono ?_;rintro O G ⟨rfl,rfl⟩;simp only []) | (go_at_call 103;refine (R.out _ (by rfl)).mono ?_;rintro O G ⟨rfl,rfl⟩;simp only []))
   all_goals
    go_wp2;go_roundw
    case rel=>exact S.out
    case measure=>simp [intOf];omega
  ·have N:i=n:=by omega
   subst N;have t:Hid (Below w.heap.size w wr/\wr.rowIs w.heap.size 4 i (fun v=>.bool (decide (0 < tv tr (2 * v))))):=⟨a.out.1,a.out.2.congr fun v p=>by simp [p]⟩;have I:¬ ((i:Int) < (i:Int)):=by omega
   clear a r;go_wp2;go_ret;exact ⟨rfl,t.out⟩
end
def Uc (w:World) (n:Nat) (e:Ending) (w':World):Prop:=∃ g1 g2,e=.returned (.agg #[.slice none 0 0,.slice (some ⟨g1,0,none⟩) n n,.slice (some ⟨g2,0,none⟩) n n])/\w.heap.size <= g1/\w.heap.size <= g2/\g1 ≠ g2/\Below w.heap.size w w'/\w'.rowIs g1 4 n (fun _=>.bool false)/\w'.rowIs g2 4 n (fun _=>.bool false)
theorem Sb (w:World) (ob:Obj) (z:Value) (t:TypeId) (a b:Nat):(((w.alloc ob).alloc (.cells (madeCells #[z] a) t)).alloc (.cells (madeCells #[z] b) t)).drew.rowIs (w.heap.size + 1) t a (fun _=>z)/\(((w.alloc ob).alloc (.cells (madeCells #[z] a) t)).alloc (.cells (madeCells #[z] b) t)).drew.rowIs (w.heap.size + 1 + 1) t b (fun _=>z)/\Below w.heap.size w (((w.alloc ob).alloc (.cells (madeCells #[z] a) t)).alloc (.cells (madeCells #[z] b) t)).drew:=by
 have d:=World.rowIs_made (w.alloc ob) z a t;have c:=World.rowIs_made ((w.alloc ob).alloc (.cells (madeCells #[z] a) t)) z b t;simp only [World.size_alloc] at d c;exact ⟨(d.alloc _).drew,c.drew,((((Below.refl _ w).alloc lr _).alloc (by simp) _).alloc (by simp;omega) _).drew⟩
theorem zD (n:Nat) (h:n <= 50) (w:World):Calls Tryz.prog 94 #[.int .i64 (n:Nat)] w fun e d=>Uc w n e d:=by
 have g:=run_make_row' (P:=Tryz.prog) 26 4 (.bool false) 1 Tryz.underlying26 Tryz.AX rfl .i64 .i64 n (by omega) (by omega);go_enter Tryz.func94,Tryz.ntmps94
 go_upto_region 1 with fail
 go_region_with (fail)
 ·go_wp2;refine bodyPost_ret (v:=.agg #[.slice none 0 0,.slice (some ⟨w.heap.size + 1,0,none⟩) n n,.slice (some ⟨w.heap.size + 1 + 1,0,none⟩) n n]) (by simp [results,Tryz.results94,go_sem]) rfl ?_
  obtain ⟨c,b,a⟩:=Sb w (.cells #[.slice none 0 0,.slice (some ⟨w.heap.size + 1,0,none⟩) n n,.slice (some ⟨w.heap.size + 1 + 1,0,none⟩) n n] 162 (0,0)) (.bool false) 4 n n;exact ⟨w.heap.size + 1,w.heap.size + 1 + 1,rfl,by omega,by omega,by omega,a,c,b⟩
 ·go_wp2;refine bodyPost_ret (v:=.agg #[.slice none 0 0,.slice (some ⟨w.heap.size + 1 + 1,0,none⟩) n n,.slice (some ⟨w.heap.size + 1,0,none⟩) n n]) (by simp [results,Tryz.results94,go_sem]) rfl ?_
  obtain ⟨c,b,a⟩:=Sb w (.cells #[.slice none 0 0,.slice (some ⟨w.heap.size + 1 + 1,0,none⟩) n n,.slice (some ⟨w.heap.size + 1,0,none⟩) n n] 162 (0,0)) (.bool false) 4 n n;exact ⟨w.heap.size + 1 + 1,w.heap.size + 1,rfl,by omega,by omega,by omega,a,b,c⟩
end
end So
end Go.Proofs.YtceahffmenbibaaGreatDoor
namespace Go.Proofs
open Go.Shelf
def Tryz.Es:Go.Shelf.Ren:=⟨fun | 103=>71 | 210=>112 | 206=>148 | n=>n,fun | 9=>9 | 4=>4 | 24=>121 | 3=>3 | n=>n,fun | n=>n⟩
theorem Tryz.Qy:Go.Proofs.Lays.n103 Tryz.prog Tryz.Es:={
 mixed:=by kernel_rfl
 f103:=tC func71 (by kernel_rfl)
 f206:=tC func148 (by kernel_rfl)
 f210:=tC func112 (by kernel_rfl)
 t3:=underlying3
 a3:=isAgg3
 z3:=sizeOf3
 v3:=zeroValue3
 t4:=underlying4
 a4:=isAgg4
 z4:=sizeOf4
 v4:=zeroValue4
 t9:=underlying9
 a9:=isAgg9
 z9:=sizeOf9
 v9:=zeroValue9
 t24:=underlying121
 a24:=isAgg121
 z24:=sizeOf121
 v24:=zeroValue121 }
open Go.RowKit in
theorem Tryz.strings_CutPrefix (s p:ByteArray) (w:World):
  Calls Tryz.prog 71 #[.string s,.string p] w fun e a=>e=.returned (.tuple #[.string ⟨(Lib.trimPrefix s.data.toList p.data.toList).toArray⟩,.bool (Lib.hasPrefix s.data.toList p.data.toList)])/\a=w:=Any.strings_CutPrefix Tryz.Qy s p w
def Tryz.Eo:Go.Shelf.Ren:=⟨fun | 172=>66 | 244=>107 | 245=>108 | 247=>153 | 279=>154 | 280=>155 | 281=>156 | 282=>157 | 287=>196 | 316=>197 | 171=>36 | 205=>198 | 321=>229 | 322=>230 | 243=>65 | 246=>106 | 283=>149 | 284=>150 | 285=>151 | 286=>152 | 129=>170 | 317=>192 | 318=>193 | 319=>194 | 320=>195 | 337=>227 | 338=>228 | n=>n,fun | 9=>9 | 3=>3 | 75=>65 | 76=>117 | 4=>4 | 5=>5 | 167=>209 | 37=>107 | 0=>0 | 85=>210 | 2=>2 | 168=>212 | 53=>82 | 175=>234 | 46=>187 | 210=>238 | 127=>171 | 145=>256 | 143=>254 | 21=>21 | 171=>204 | 173=>207 | 212=>232 | 51=>218 | 20=>20 | 213=>233 | 232=>267 | 233=>268 | 80=>120 | n=>n,fun | 15=>2 | 16=>3 | 17=>1 | 18=>4 | 19=>5 | n=>n⟩
theorem Tryz.Qv:Go.Proofs.Lays.n172 Tryz.prog Tryz.Eo:={
 mixed:=by kernel_rfl
 f129:=tC func170 (by kernel_rfl)
 f171:=tC func36 (by kernel_rfl)
 f172:=tC func66 (by kernel_rfl)
 f205:=tC func198 (by kernel_rfl)
 f243:=tC func65 (by kernel_rfl)
 f244:=tC func107 (by kernel_rfl)
 f245:=tC func108 (by kernel_rfl)
 f246:=tC func106 (by kernel_rfl)
 f247:=tC func153 (by kernel_rfl)
 f279:=tC func154 (by kernel_rfl)
 f280:=tC func155 (by kernel_rfl)
 f281:=tC func156 (by kernel_rfl)
 f282:=tC func157 (by kernel_rfl)
 f283:=tC func149 (by kernel_rfl)
 f284:=tC func150 (by kernel_rfl)
 f285:=tC func151 (by kernel_rfl)
 f286:=tC func152 (by kernel_rfl)
 f287:=tC func196 (by kernel_rfl)
 f316:=tC func197 (by kernel_rfl)
 f317:=tC func192 (by kernel_rfl)
 f318:=tC func193 (by kernel_rfl)
 f319:=tC func194 (by kernel_rfl)
 f320:=tC func195 (by kernel_rfl)
 f321:=tC func229 (by kernel_rfl)
 f322:=tC func230 (by kernel_rfl)
 f337:=tC func227 (by kernel_rfl)
 f338:=tC func228 (by kernel_rfl)
 t0:=underlying0
 a0:=isAgg0
 z0:=sizeOf0
 v0:=zeroValue0
 t2:=underlying2
 a2:=isAgg2
 z2:=sizeOf2
 v2:=zeroValue2
 t3:=underlying3
 a3:=isAgg3
 z3:=sizeOf3
 v3:=zeroValue3
 t4:=underlying4
 a4:=isAgg4
 z4:=sizeOf4
 v4:=zeroValue4
 t5:=underlying5
 a5:=isAgg5
 z5:=sizeOf5
 v5:=zeroValue5
 t9:=underlying9
 a9:=isAgg9
 z9:=sizeOf9
 v9:=zeroValue9
 t20:=underlying20
 a20:=isAgg20
 z20:=sizeOf20
 v20:=zeroValue20
 t21:=underlying21
 a21:=isAgg21
 z21:=sizeOf21
 v21:=zeroValue21
 t37:=underlying107
 a37:=isAgg107
 z37:=sizeOf107
 v37:=zeroValue107
 t46:=underlying187
 a46:=isAgg187
 z46:=sizeOf187
 v46:=zeroValue187
 t51:=underlying218
 a51:=isAgg218
 z51:=sizeOf218
 v51:=zeroValue218
 t53:=underlying82
 a53:=isAgg82
 z53:=sizeOf82
 v53:=zeroValue82
 t75:=underlying65
 a75:=isAgg65
 z75:=sizeOf65
 v75:=zeroValue65
 t76:=underlying117
 a76:=isAgg117
 z76:=sizeOf117
 v76:=zeroValue117
 t85:=underlying210
 a85:=isAgg210
 z85:=sizeOf210
 v85:=zeroValue210
 t127:=underlying171
 a127:=isAgg171
 z127:=sizeOf171
 v127:=zeroValue171
 t143:=underlying254
 a143:=isAgg254
 z143:=sizeOf254
 v143:=zeroValue254
 t145:=underlying256
 a145:=isAgg256
 z145:=sizeOf256
 v145:=zeroValue256
 t167:=underlying209
 a167:=isAgg209
 z167:=sizeOf209
 v167:=zeroValue209
 t168:=underlying212
 a168:=isAgg212
 z168:=sizeOf212
 v168:=zeroValue212
 t171:=underlying204
 a171:=isAgg204
 z171:=sizeOf204
 v171:=zeroValue204
 t173:=underlying207
 a173:=isAgg207
 z173:=sizeOf207
 v173:=zeroValue207
 t175:=underlying234
 a175:=isAgg234
 z175:=sizeOf234
 v175:=zeroValue234
 t210:=underlying238
 a210:=isAgg238
 z210:=sizeOf238
 v210:=zeroValue238
 t212:=underlying232
 a212:=isAgg232
 z212:=sizeOf232
 v212:=zeroValue232
 t213:=underlying233
 a213:=isAgg233
 z213:=sizeOf233
 t232:=underlying267
 a232:=isAgg267
 z232:=sizeOf267
 v232:=zeroValue267
 t233:=underlying268
 a233:=isAgg268
 z233:=sizeOf268
 v233:=zeroValue268
 g15:=by kernel_rfl
 g16:=by kernel_rfl
 g17:=by kernel_rfl
 g18:=by kernel_rfl
 g19:=by kernel_rfl }
open Go.RowKit in
theorem Tryz.strconv_Atoi (s:ByteArray) (n:Int) (b:s.size <= 18) (h:Lib.atoi s.data.toList=some n) (w:World):
  Calls Tryz.prog 66 #[.string s] w fun e a=>e=.returned (.tuple #[.int .i64 n,.nilIface])/\∃ t,a=Lib.bytesWorld w 5 t:=Any.strconv_Atoi Tryz.Qv s n b h w
def Tryz.Cy:Go.Shelf.Ren:=⟨fun | 171=>36 | 243=>65 | 246=>106 | 283=>149 | 284=>150 | 285=>151 | 286=>152 | 129=>170 | 317=>192 | 318=>193 | 319=>194 | 320=>195 | 337=>227 | 338=>228 | n=>n,fun | 3=>3 | 9=>9 | 2=>2 | 4=>4 | 171=>204 | 0=>0 | 53=>82 | 37=>107 | 5=>5 | 173=>207 | 212=>232 | 51=>218 | 20=>20 | 213=>233 | 46=>187 | 232=>267 | 233=>268 | n=>n,fun | 17=>1 | 18=>4 | 19=>5 | n=>n⟩
theorem Tryz.Nq:Go.Proofs.LaysM.n171 Tryz.prog Tryz.Cy:={
 mixed:=by kernel_rfl
 f129:=tC func170 (by kernel_rfl)
 f171:=tC func36 (by kernel_rfl)
 f243:=tC func65 (by kernel_rfl)
 f246:=tC func106 (by kernel_rfl)
 f283:=tC func149 (by kernel_rfl)
 f284:=tC func150 (by kernel_rfl)
 f285:=tC func151 (by kernel_rfl)
 f286:=tC func152 (by kernel_rfl)
 f317:=tC func192 (by kernel_rfl)
 f318:=tC func193 (by kernel_rfl)
 f319:=tC func194 (by kernel_rfl)
 f320:=tC func195 (by kernel_rfl)
 f337:=tC func227 (by kernel_rfl)
 f338:=tC func228 (by kernel_rfl)
 t0:=underlying0
 a0:=isAgg0
 z0:=sizeOf0
 v0:=zeroValue0
 t2:=underlying2
 a2:=isAgg2
 z2:=sizeOf2
 v2:=zeroValue2
 t3:=underlying3
 a3:=isAgg3
 z3:=sizeOf3
 v3:=zeroValue3
 t4:=underlying4
 a4:=isAgg4
 z4:=sizeOf4
 v4:=zeroValue4
 t5:=underlying5
 a5:=isAgg5
 z5:=sizeOf5
 v5:=zeroValue5
 t9:=underlying9
 a9:=isAgg9
 z9:=sizeOf9
 v9:=zeroValue9
 t20:=underlying20
 a20:=isAgg20
 z20:=sizeOf20
 v20:=zeroValue20
 t37:=underlying107
 a37:=isAgg107
 z37:=sizeOf107
 v37:=zeroValue107
 t46:=underlying187
 a46:=isAgg187
 z46:=sizeOf187
 v46:=zeroValue187
 t51:=underlying218
 a51:=isAgg218
 z51:=sizeOf218
 v51:=zeroValue218
 t53:=underlying82
 a53:=isAgg82
 z53:=sizeOf82
 v53:=zeroValue82
 t171:=underlying204
 a171:=isAgg204
 z171:=sizeOf204
 v171:=zeroValue204
 t173:=underlying207
 a173:=isAgg207
 z173:=sizeOf207
 v173:=zeroValue207
 t212:=underlying232
 a212:=isAgg232
 z212:=sizeOf232
 v212:=zeroValue232
 t213:=underlying233
 a213:=isAgg233
 z213:=sizeOf233
 t232:=underlying267
 a232:=isAgg267
 z232:=sizeOf267
 v232:=zeroValue267
 t233:=underlying268
 a233:=isAgg268
 z233:=sizeOf268
 v233:=zeroValue268
 g17:=by kernel_rfl
 g18:=by kernel_rfl
 g19:=by kernel_rfl
 i0:=by kernel_rfl
 i2:=by kernel_rfl
 i3:=by kernel_rfl
 i4:=by kernel_rfl
 i5:=by kernel_rfl
 i9:=by kernel_rfl
 i20:=by kernel_rfl
 i37:=by kernel_rfl
 i46:=by kernel_rfl
 i51:=by kernel_rfl
 i53:=by kernel_rfl
 i171:=by kernel_rfl
 i173:=by kernel_rfl
 i212:=by kernel_rfl
 i232:=by kernel_rfl
 i233:=by kernel_rfl
 m17:=by kernel_rfl
 m18:=by kernel_rfl
 m19:=by kernel_rfl }
def Tryz.Ep:Go.Shelf.Ren:=⟨fun | 171=>36 | 243=>65 | 246=>106 | 283=>149 | 284=>150 | 285=>151 | 286=>152 | 129=>170 | 317=>192 | 318=>193 | 319=>194 | 320=>195 | 337=>227 | 338=>228 | n=>n,fun | 3=>3 | 9=>9 | 2=>2 | 4=>4 | 171=>204 | 0=>0 | 53=>82 | 37=>107 | 5=>5 | 173=>207 | 212=>232 | 51=>218 | 20=>20 | 213=>233 | 46=>187 | 232=>267 | 233=>268 | n=>n,fun | 17=>1 | 18=>4 | 19=>5 | n=>n⟩
theorem Tryz.Qw:Go.Proofs.Lays.n171 Tryz.prog Tryz.Ep:={
 mixed:=by kernel_rfl
 f129:=tC func170 (by kernel_rfl)
 f171:=tC func36 (by kernel_rfl)
 f243:=tC func65 (by kernel_rfl)
 f246:=tC func106 (by kernel_rfl)
 f283:=tC func149 (by kernel_rfl)
 f284:=tC func150 (by kernel_rfl)
 f285:=tC func151 (by kernel_rfl)
 f286:=tC func152 (by kernel_rfl)
 f317:=tC func192 (by kernel_rfl)
 f318:=tC func193 (by kernel_rfl)
 f319:=tC func194 (by kernel_rfl)
 f320:=tC func195 (by kernel_rfl)
 f337:=tC func227 (by kernel_rfl)
 f338:=tC func228 (by kernel_rfl)
 t0:=underlying0
 a0:=isAgg0
 z0:=sizeOf0
 v0:=zeroValue0
 t2:=underlying2
 a2:=isAgg2
 z2:=sizeOf2
 v2:=zeroValue2
 t3:=underlying3
 a3:=isAgg3
 z3:=sizeOf3
 v3:=zeroValue3
 t4:=underlying4
 a4:=isAgg4
 z4:=sizeOf4
 v4:=zeroValue4
 t5:=underlying5
 a5:=isAgg5
 z5:=sizeOf5
 v5:=zeroValue5
 t9:=underlying9
 a9:=isAgg9
 z9:=sizeOf9
 v9:=zeroValue9
 t20:=underlying20
 a20:=isAgg20
 z20:=sizeOf20
 v20:=zeroValue20
 t37:=underlying107
 a37:=isAgg107
 z37:=sizeOf107
 v37:=zeroValue107
 t46:=underlying187
 a46:=isAgg187
 z46:=sizeOf187
 v46:=zeroValue187
 t51:=underlying218
 a51:=isAgg218
 z51:=sizeOf218
 v51:=zeroValue218
 t53:=underlying82
 a53:=isAgg82
 z53:=sizeOf82
 v53:=zeroValue82
 t171:=underlying204
 a171:=isAgg204
 z171:=sizeOf204
 v171:=zeroValue204
 t173:=underlying207
 a173:=isAgg207
 z173:=sizeOf207
 v173:=zeroValue207
 t212:=underlying232
 a212:=isAgg232
 z212:=sizeOf232
 v212:=zeroValue232
 t213:=underlying233
 a213:=isAgg233
 z213:=sizeOf233
 t232:=underlying267
 a232:=isAgg267
 z232:=sizeOf267
 v232:=zeroValue267
 t233:=underlying268
 a233:=isAgg268
 z233:=sizeOf268
 v233:=zeroValue268
 g17:=by kernel_rfl
 g18:=by kernel_rfl
 g19:=by kernel_rfl }
open Go.RowKit Go.Sort Go.Lib in
theorem Tryz.strconv_Itoa_small (i:Nat) (b:i < 100) (w:World):
  Calls Tryz.prog 36 #[.int .i64 i] w fun e a=>e=.returned (.string ⟨(Lib.decDigits i).toArray⟩)/\a=w:=Any.strconv_Itoa_small Tryz.Qw i b w
def Tryz.vT:Go.Shelf.Ren:=⟨fun | 145=>40 | 220=>70 | 219=>111 | 217=>161 | 225=>162 | 224=>163 | 267=>164 | 266=>200 | 314=>201 | n=>n,fun | 9=>9 | 4=>4 | 59=>80 | 3=>3 | 5=>5 | 46=>187 | 146=>240 | 51=>218 | n=>n,fun | 1=>0 | n=>n⟩
theorem Tryz.I8:Go.Proofs.Lays.n145 Tryz.prog Tryz.vT:={
 mixed:=by kernel_rfl
 f145:=tC func40 (by kernel_rfl)
 f217:=tC func161 (by kernel_rfl)
 f219:=tC func111 (by kernel_rfl)
 f220:=tC func70 (by kernel_rfl)
 f224:=tC func163 (by kernel_rfl)
 f225:=tC func162 (by kernel_rfl)
 f266:=tC func200 (by kernel_rfl)
 f267:=tC func164 (by kernel_rfl)
 f314:=tC func201 (by kernel_rfl)
 t3:=underlying3
 a3:=isAgg3
 z3:=sizeOf3
 v3:=zeroValue3
 t4:=underlying4
 a4:=isAgg4
 z4:=sizeOf4
 v4:=zeroValue4
 t5:=underlying5
 a5:=isAgg5
 z5:=sizeOf5
 v5:=zeroValue5
 t9:=underlying9
 a9:=isAgg9
 z9:=sizeOf9
 v9:=zeroValue9
 t46:=underlying187
 a46:=isAgg187
 z46:=sizeOf187
 v46:=zeroValue187
 t51:=underlying218
 a51:=isAgg218
 z51:=sizeOf218
 v51:=zeroValue218
 t59:=underlying80
 a59:=isAgg80
 z59:=sizeOf80
 v59:=zeroValue80
 t146:=underlying240
 a146:=isAgg240
 z146:=sizeOf240
 v146:=zeroValue240
 g1:=by kernel_rfl }
open Go.RowKit Go.Lib in
theorem Tryz.strings_Cut (s a:ByteArray) (m:Int) (w:World) (c:s.size < 4294967281) (d:w.cell? ⟨0,0,none⟩=some (.int .i64 m)):
  Calls Tryz.prog 40 #[.string s,.string a] w fun e b=>e=.returned (.tuple #[.string ⟨(Lib.cut s.data.toList a.data.toList).1.toArray⟩,.string ⟨(Lib.cut s.data.toList a.data.toList).2.1.toArray⟩,.bool (Lib.cut s.data.toList a.data.toList).2.2])/\∃ n,b=w.drewN n:=Any.strings_Cut Tryz.I8 s a m w c d
def Tryz.Cx:Go.Shelf.Ren:=⟨fun | 219=>111 | 217=>161 | 225=>162 | 224=>163 | 267=>164 | 266=>200 | 314=>201 | n=>n,fun | 9=>9 | 3=>3 | 4=>4 | 5=>5 | 46=>187 | 146=>240 | 51=>218 | n=>n,fun | 1=>0 | n=>n⟩
theorem Tryz.Np:Go.Proofs.LaysM.n219 Tryz.prog Tryz.Cx:={
 mixed:=by kernel_rfl
 f217:=tC func161 (by kernel_rfl)
 f219:=tC func111 (by kernel_rfl)
 f224:=tC func163 (by kernel_rfl)
 f225:=tC func162 (by kernel_rfl)
 f266:=tC func200 (by kernel_rfl)
 f267:=tC func164 (by kernel_rfl)
 f314:=tC func201 (by kernel_rfl)
 t3:=underlying3
 a3:=isAgg3
 z3:=sizeOf3
 v3:=zeroValue3
 t4:=underlying4
 a4:=isAgg4
 z4:=sizeOf4
 v4:=zeroValue4
 t5:=underlying5
 a5:=isAgg5
 z5:=sizeOf5
 v5:=zeroValue5
 t9:=underlying9
 a9:=isAgg9
 z9:=sizeOf9
 v9:=zeroValue9
 t46:=underlying187
 a46:=isAgg187
 z46:=sizeOf187
 v46:=zeroValue187
 t51:=underlying218
 a51:=isAgg218
 z51:=sizeOf218
 v51:=zeroValue218
 t146:=underlying240
 a146:=isAgg240
 z146:=sizeOf240
 v146:=zeroValue240
 g1:=by kernel_rfl
 i3:=by kernel_rfl
 i4:=by kernel_rfl
 i5:=by kernel_rfl
 i9:=by kernel_rfl
 i46:=by kernel_rfl
 i51:=by kernel_rfl
 i146:=by kernel_rfl
 m1:=by kernel_rfl
 s1_3:=fun w h=>Go.Proofs.cell_of_shapedOpen_int (zero:=#[.int .i64 0]) (t:=3) h (of_decide_eq_true (by kernel_rfl)) (by kernel_rfl) rfl (by kernel_rfl) (by kernel_rfl) Tryz.underlying3 }
def Tryz.G9:Go.Shelf.Ren:=⟨fun | 99=>104 | 206=>148 | n=>n,fun | 9=>9 | 4=>4 | 3=>3 | n=>n,fun | n=>n⟩
theorem Tryz.TB:Go.Proofs.Lays.n99 Tryz.prog Tryz.G9:={
 mixed:=by kernel_rfl
 f99:=tC func104 (by kernel_rfl)
 f206:=tC func148 (by kernel_rfl)
 t3:=underlying3
 a3:=isAgg3
 z3:=sizeOf3
 v3:=zeroValue3
 t4:=underlying4
 a4:=isAgg4
 z4:=sizeOf4
 v4:=zeroValue4
 t9:=underlying9
 a9:=isAgg9
 z9:=sizeOf9
 v9:=zeroValue9 }
open Go.RowKit Go.Lib in
theorem Tryz.strings_HasPrefix (s p:ByteArray) (w:World):
  Calls Tryz.prog 104 #[.string s,.string p] w fun e a=>e=.returned (.bool (Lib.hasPrefix s.data.toList p.data.toList))/\a=w:=Any.strings_HasPrefix Tryz.TB s p w
def Tryz.Et:Go.Shelf.Ren:=⟨fun | 101=>113 | 208=>165 | 206=>148 | n=>n,fun | 9=>9 | 4=>4 | 3=>3 | n=>n,fun | n=>n⟩
theorem Tryz.Qz:Go.Proofs.Lays.n101 Tryz.prog Tryz.Et:={
 mixed:=by kernel_rfl
 f101:=tC func113 (by kernel_rfl)
 f206:=tC func148 (by kernel_rfl)
 f208:=tC func165 (by kernel_rfl)
 t3:=underlying3
 a3:=isAgg3
 z3:=sizeOf3
 v3:=zeroValue3
 t4:=underlying4
 a4:=isAgg4
 z4:=sizeOf4
 v4:=zeroValue4
 t9:=underlying9
 a9:=isAgg9
 z9:=sizeOf9
 v9:=zeroValue9 }
open Go.RowKit Go.Lib in
theorem Tryz.strings_TrimPrefix (s p:ByteArray) (w:World):
  Calls Tryz.prog 113 #[.string s,.string p] w fun e a=>e=.returned (.string ⟨(Lib.trimPrefix s.data.toList p.data.toList).toArray⟩)/\a=w:=Any.strings_TrimPrefix Tryz.Qz s p w
def Tryz.Em:Go.Shelf.Ren:=⟨fun | 229=>63 | n=>n,fun | 9=>9 | 40=>127 | 31=>70 | 152=>172 | 3=>3 | 0=>0 | 4=>4 | 21=>21 | 154=>174 | n=>n,fun | n=>n⟩
theorem Tryz.Qt:Go.Proofs.Lays.n229 Tryz.prog Tryz.Em:={
 mixed:=by kernel_rfl
 f229:=tC func63 (by kernel_rfl)
 t0:=underlying0
 a0:=isAgg0
 z0:=sizeOf0
 v0:=zeroValue0
 t3:=underlying3
 a3:=isAgg3
 z3:=sizeOf3
 v3:=zeroValue3
 t4:=underlying4
 a4:=isAgg4
 z4:=sizeOf4
 v4:=zeroValue4
 t9:=underlying9
 a9:=isAgg9
 z9:=sizeOf9
 v9:=zeroValue9
 t21:=underlying21
 a21:=isAgg21
 z21:=sizeOf21
 v21:=zeroValue21
 t31:=underlying70
 a31:=isAgg70
 z31:=sizeOf70
 v31:=zeroValue70
 t40:=underlying127
 a40:=isAgg127
 z40:=sizeOf127
 v40:=zeroValue127
 t152:=underlying172
 a152:=isAgg172
 z152:=sizeOf172
 v152:=zeroValue172
 t154:=underlying174
 a154:=isAgg174
 z154:=sizeOf174
 v154:=zeroValue174 }
open Go.RowKit Go.Lib in
theorem Tryz.strings_FieldsFunc (g:Nat) (b:Array Value) (i:∀ a w,(callFunc g a).run Tryz.prog w=.ok (.enter g a) w) (p:Nat->Bool) (s:ByteArray) (w:World) (d:s.size <= 4294967296) (h:PredAt Tryz.prog g b encR p w):
  Calls Tryz.prog 63 #[.string s,.func (.func g) #[] b] w fun e c=>∃ A,e=.returned (.slice (some ⟨A,0,none⟩) (Lib.goFieldsP p s).length (Lib.goFieldsP p s).length)/\w.heap.size <= A/\
   c.ownsRow w.heap.size 9 1 (.slice (some ⟨A,0,none⟩) (Lib.goFieldsP p s).length (Lib.goFieldsP p s).length) (Lib.goFieldsP p s).length ((Lib.goFieldsP p s).map Value.string)/\Below w.heap.size w c:=Any.strings_FieldsFunc Tryz.Qt g b i p s w d h (by kernel_rfl) (by kernel_rfl)
def Tryz.Er:Go.Shelf.Ren:=⟨fun | 109=>67 | n=>n,fun | 31=>70 | 9=>9 | 3=>3 | 0=>0 | 4=>4 | n=>n,fun | n=>n⟩
theorem Tryz.Qx:Go.Proofs.Lays.n109 Tryz.prog Tryz.Er:={
 mixed:=by kernel_rfl
 f109:=tC func67 (by kernel_rfl)
 t0:=underlying0
 a0:=isAgg0
 z0:=sizeOf0
 v0:=zeroValue0
 t3:=underlying3
 a3:=isAgg3
 z3:=sizeOf3
 v3:=zeroValue3
 t4:=underlying4
 a4:=isAgg4
 z4:=sizeOf4
 v4:=zeroValue4
 t9:=underlying9
 a9:=isAgg9
 z9:=sizeOf9
 v9:=zeroValue9
 t31:=underlying70
 a31:=isAgg70
 z31:=sizeOf70
 v31:=zeroValue70 }
open Go.Lib in
theorem Tryz.slices_Index_string (b off n c:Nat) (zs:List ByteArray) (x:ByteArray) (w:World) (g:n <= zs.length) (a:n <= 9223372036854775807) (h:∀ j,j < zs.length->w.cell? ⟨b,off + j,none⟩=some (.string (zs.getD j ByteArray.empty))):
  Calls Tryz.prog 67 #[.slice (some ⟨b,off,none⟩) n c,.string x] w fun e d=>e=.returned (.int .i64 (Lib.idxOfS (zs.take n) x))/\d=w:=Any.slices_Index_string Tryz.Qx b off n c zs x w g a h
end Go.Proofs
namespace Go.Proofs.YtceahffmenbibaaGreatDoor
namespace Rd
section
open Go Go.RowKit Go.Proofs
theorem LV (t:Bs):Lib.trimPrefix t [45]=strip t:=by
 unfold Lib.trimPrefix Lib.hasPrefix strip
 cases t with
 | nil=>simp
 | cons c r=>
  by_cases h:c=45
  ·subst h;simp [List.isPrefixOf]
  ·have a:¬ (45:UInt8)=c:=fun e=>h e.symm
   simp [List.isPrefixOf,h,a]
theorem JG (t:Bs):(strip t).length <= t.length:=by
 unfold strip;split <;> simp
theorem JD (t:ByteArray) (w:World):
  Calls Tryz.prog 113 #[.string t,.string ⟨#[45]⟩] w fun e a=>∃ x:ByteArray,e=.returned (.string x)/\Hid (x.data.toList=strip t.data.toList)/\a=w:=by
 refine (Tryz.strings_TrimPrefix t _ _).mono ?_;rintro e a ⟨rfl,rfl⟩;exact ⟨_,rfl,LV _,rfl⟩
theorem oh {x:ByteArray} {l:Bs} (h:x.data.toList=l):x.size=l.length:=by rw [<- h];simp
theorem oo (t v:ByteArray) (w:World) (p:t.size <= maxLen) (m:v.size <= maxLen):
  Calls Tryz.prog 72 #[.string t,.string v] w fun e l=>e=.returned (.bool (iV v.data.toList t.data.toList))/\l=w:=by
 go_enter Tryz.func72,Tryz.ntmps72
 go_wp2_with fail
 refine (JD t _).mono ?_;rintro e l ⟨x,rfl,j,rfl⟩;have h:x.size <= maxLen:=by rw [oh j.out];have:=JG t.data.toList;simp at this;omega
 have c:Hid (iV v.data.toList t.data.toList=(gJ x.data.toList && !(x.data.toList == [48]) && !above x.data.toList v.data.toList)):=by
  unfold Hid iV;rw [j.out]
 clear j;by_cases a:gJ x.data.toList=true
 ·by_cases i:(!x.toList == [48])=true
  ·have E:Hid (iV v.data.toList t.data.toList=!above x.data.toList v.data.toList):=by
    unfold Hid;rw [c.out,a];rw [ByteArray.toList_eq] at i;rw [i];simp
   clear c;have g:=hide a;clear a;go_wp2_with fail
   refine (kC x _ h).mono ?_;rintro e k ⟨rfl,rfl⟩;rw [g.out];go_wp2_with fail
   refine (vW x v _ h m).mono ?_;rintro e o ⟨rfl,rfl⟩;go_wp2;go_ret;exact ⟨fH (by rw [E.out]),rfl⟩
  ·have d:(!x.toList == [48])=false:=by simpa using i
   clear i;have E:Hid (iV v.data.toList t.data.toList=false):=by
    unfold Hid;rw [c.out,a];rw [ByteArray.toList_eq] at d;rw [d];simp
   clear c;have g:=hide a;clear a;go_wp2_with fail
   refine (kC x _ h).mono ?_;rintro e k ⟨rfl,rfl⟩;rw [g.out];go_wp2;go_ret;exact ⟨fH (by rw [E.out]),rfl⟩
 ·have b:gJ x.data.toList=false:=by simpa using a
  clear a;have E:Hid (iV v.data.toList t.data.toList=false):=by
   unfold Hid;rw [c.out,b];simp
  clear c;have g:=hide b;clear b;go_wp2_with fail
  refine (kC x _ h).mono ?_;rintro e k ⟨rfl,rfl⟩;rw [g.out];go_wp2;go_ret;exact ⟨fH (by rw [E.out]),rfl⟩
def UX (r:Nat):Bool:=r == 32 || r == 9 || r == 10
theorem Kw (r:Nat) (w:World):
  Calls Tryz.prog 64 #[.int .i32 r] w fun e d=>e=.returned (.bool (UX r))/\d=w:=by
 have i:((r:Int) == 32)=(r == 32):=by rw [Bool.eq_iff_iff];simp;omega
 have h:((r:Int) == 9)=(r == 9):=by rw [Bool.eq_iff_iff];simp;omega
 have g:((r:Int) == 10)=(r == 10):=by rw [Bool.eq_iff_iff];simp;omega
 cases c:(r == 32) <;> cases b:(r == 9) <;> cases a:(r == 10)
 all_goals
  rw [c] at i;rw [b] at h;rw [a] at g
  have E:Hid (UX r=((r == 32) || (r == 9) || (r == 10))):=rfl;rw [c,b,a] at E;clear c b a;go_enter Tryz.func64,Tryz.ntmps64
  go_wp2;go_ret
  exact ⟨fH (by rw [E.out];rfl),rfl⟩
theorem AY:∀ (l:Bs),Lib.index l [10]=if ended l then ((line l).length:Int) else -1
 | []=>by simp [Lib.index,ended,line]
 | c :: r=>by
  have b:=AY r;by_cases h:c=10
  ·subst h;simp [Lib.index,ended,line,List.isPrefixOf]
  ·have d:¬ (10:UInt8)=c:=fun e=>h e.symm
   unfold Lib.index;rw [show List.isPrefixOf [10] (c :: r)=false from by simp [List.isPrefixOf,d],b];have a:line (c :: r)=c :: line r:=by simp [line,h]
   have g:ended (c :: r)=ended r:=by simp [ended,a]
   rw [g,a];cases ended r <;> simp
theorem Rj (l:Bs):Lib.cut l [10]=if ended l then (line l,rest l,true) else (l,[],false):=by
 unfold Lib.cut;rw [AY]
 cases h:ended l with
 | true=>
  have a:l.take (line l).length=line l:=by
   unfold line;have:=List.takeWhile_prefix (l:=l) (p:=fun c=>!(c == 10));exact (List.prefix_iff_eq_take.1 this).symm
  simp [a,rest]
 | false=>simp
theorem NY (s:ByteArray) (m:Int) (w:World) (d:s.size <= 20000) (c:w.cell? ⟨0,0,none⟩=some (.int .i64 m)):
  Calls Tryz.prog 40 #[.string s,.string ⟨#[10]⟩] w fun e a=>∃ x y:ByteArray,e=.returned (.tuple #[.string x,.string y,.bool (ended s.data.toList)])/\
   Hid (x.data.toList=if ended s.data.toList then line s.data.toList else s.data.toList)/\Hid (y.data.toList=if ended s.data.toList then rest s.data.toList else [])/\∃ n,a=w.drewN n:=by
 refine (Tryz.strings_Cut s _ m _ (by omega) c).mono ?_;rintro e a ⟨rfl,b⟩;rw [show Lib.cut s.data.toList (⟨#[10]⟩:ByteArray).data.toList=_ from Rj _];cases ended s.data.toList
 ·exact ⟨_,_,rfl,rfl,rfl,b⟩
 ·exact ⟨_,_,rfl,rfl,rfl,b⟩
theorem Nh (l:Bs):(line l).length <= l.length:=by unfold line;exact (List.takeWhile_prefix _).length_le
theorem D5 {l:Bs} (h:ended l=true):(rest l).length < l.length:=by
 simp [ended] at h;simp [rest];omega
theorem ED (l:Bs):Lib.hasPrefix l [99]=(l.head? == some 99):=by
 unfold Lib.hasPrefix
 cases l with
 | nil=>rfl
 | cons c r=>
  by_cases h:c=99
  ·subst h;simp [List.isPrefixOf]
  ·have b:((99:UInt8) == c)=false:=by simpa using fun e=>h e.symm
   have a:(c == (99:UInt8))=false:=by simpa using h
   simp [List.isPrefixOf,b,a]
def iY:Nat->Bs->Option Bs
 | 0,_=>none
 | f + 1,l=>if Lib.hasPrefix l [99] then (if ended l && comment (line l) then iY f (rest l) else none) else some l
def iT:Value->Nat
 | .string x=>x.size
 | _=>0
theorem uH (s:ByteArray) (m:Int) (w:World) (I:s.size <= 20000) (J:w.cell? ⟨0,0,none⟩=some (.int .i64 m)):
  Calls Tryz.prog 60 #[.string s] w fun e v=>(∃ n,v=w.drewN n)/\∃ x:ByteArray,
   ((iY (s.size + 1) s.data.toList=none/\e=.returned (.tuple #[.string x,.bool false])) \/
    (iY (s.size + 1) s.data.toList=some x.data.toList/\x.size <= 20000/\e=.returned (.tuple #[.string x,.bool true]))):=by
 go_enter Tryz.func60,Tryz.ntmps60
 go_wp2;go_loopw [0,4,5,6] (fun t _ _ _ wr=>∃ (x:ByteArray) (f n:Nat),t=.string x/\x.size < f/\x.size <= 20000/\wr=w.drewN n/\Hid (iY f x.data.toList=iY (s.size + 1) s.data.toList)) (fun t _ _ _ _=>iT t)
 case atStart=>exact ⟨s,s.size + 1,0,rfl,by omega,I,rfl,rfl⟩
 case round=>
  obtain ⟨x,f,n,rfl,M,C,rfl,j⟩:=hrel;obtain ⟨g,rfl⟩:∃ g,f=g + 1:=⟨f - 1,by omega⟩;have q:(w.drewN n).cell? ⟨0,0,none⟩=some (.int .i64 m):=J;go_wp2_with fail
  refine (Tryz.strings_HasPrefix x _ _).mono ?_;rintro e v ⟨rfl,rfl⟩
  cases l:Lib.hasPrefix x.data.toList (⟨#[99]⟩:ByteArray).data.toList with
  | false=>
   have E:Hid (iY (g + 1) x.data.toList=some x.data.toList):=by unfold Hid iY;rw [show Lib.hasPrefix x.data.toList [99]=false from l];rfl
   clear l;go_wp2;go_ret2;exact ⟨⟨n,rfl⟩,x,.inr ⟨j.out.symm.trans E.out,C,rfl⟩⟩
  | true=>
   have D:=hide l;clear l;go_wp2_with fail
   refine (NY x m _ C q).mono ?_;rintro e L ⟨y,z,rfl,p,o,B,rfl⟩
   cases b:ended x.data.toList with
   | false=>
    have E:Hid (iY (g + 1) x.data.toList=none):=by unfold Hid iY;rw [show Lib.hasPrefix x.data.toList [99]=true from D.out,b];rfl
    clear b p o;go_wp2;go_ret2;exact ⟨⟨_,rfl⟩,_,.inl ⟨j.out.symm.trans E.out,rfl⟩⟩
   | true=>
    have h:Hid (y.data.toList=line x.data.toList):=by unfold Hid;rw [p.out,b];rfl
    have a:Hid (z.data.toList=rest x.data.toList):=by unfold Hid;rw [o.out,b];rfl
    have d:z.size < x.size:=by rw [oh a.out];have:=D5 b;simp at this;exact this
    have r:Hid (iY (g + 1) x.data.toList=if comment y.data.toList then iY g z.data.toList else none):=by
     unfold Hid;rw [h.out,a.out,iY];rw [show Lib.hasPrefix x.data.toList [99]=true from D.out,b];simp
    clear p o b h a;by_cases k:(!y.toList == [99])=true
    ·cases c:Lib.hasPrefix y.data.toList (⟨#[99,32]⟩:ByteArray).data.toList with
     | false=>
      have E:Hid (iY (g + 1) x.data.toList=none):=by
       unfold Hid;rw [r.out];unfold comment;rw [show Lib.hasPrefix y.data.toList [99,32]=false from c,<- ByteArray.toList_eq];simp at k;simp [k]
      have u:=hide c;clear c;go_wp2_with fail
      refine (Tryz.strings_HasPrefix y _ _).mono ?_;rintro e H ⟨rfl,rfl⟩;rw [u.out];go_wp2;go_ret2;exact ⟨⟨_,rfl⟩,_,.inl ⟨j.out.symm.trans E.out,rfl⟩⟩
     | true=>
      have E:Hid (iY (g + 1) x.data.toList=iY g z.data.toList):=by
       unfold Hid;rw [r.out];unfold comment;rw [show Lib.hasPrefix y.data.toList [99,32]=true from c];simp
      have u:=hide c;clear c;go_wp2_with fail
      refine (Tryz.strings_HasPrefix y _ _).mono ?_;rintro e H ⟨rfl,rfl⟩;rw [u.out];go_wp2;go_roundw
      case rel=>exact ⟨z,g,n + B,rfl,by omega,by omega,rfl,E.out.symm.trans j.out⟩
      case measure=>simpa [iT] using d
    ·have i:(!y.toList == [99])=false:=by simpa using k
     clear k;have E:Hid (iY (g + 1) x.data.toList=iY g z.data.toList):=by
      unfold Hid;rw [r.out];unfold comment;rw [<- ByteArray.toList_eq];simp at i;simp [i]
     go_wp2;go_roundw
     case rel=>exact ⟨z,g,n + B,rfl,by omega,by omega,rfl,E.out.symm.trans j.out⟩
     case measure=>simpa [iT] using d
end
end Rd
end Go.Proofs.YtceahffmenbibaaGreatDoor
