/- Pchk Xhld Xnew Xchk. -/
import Derived.Test.YtceahffmenbibaaGreatDoorJ25
import Derived.Test.YtceahffmenbibaaGreatDoorJ11
import Derived.Test.YtceahffmenbibaaGreatDoorJ12
import Derived.Test.YtceahffmenbibaaGreatDoorJ17
set_option linter.unusedVariables false
set_option linter.unusedSimpArgs false
set_option maxHeartbeats 4000000
set_option maxRecDepth 100000
namespace Go.Proofs.YtceahffmenbibaaGreatDoor
namespace Rd
section
open Go Go.RowKit Go.Deep Go.Proofs
section
attribute [local go_sem ↓] Go.wp_at_zero Go.wp_at_succ
theorem Jf (s:ByteArray) (m:Int) (w:World) (d:s.size <= 9223372036854775807) (f:w.cell? ⟨0,0,none⟩=some (.int .i64 m)):
  Calls Tryz.prog 40 #[.string s,.string ⟨#[10]⟩] w fun e w'=>∃ x y:ByteArray,e=.returned (.tuple #[.string x,.string y,.bool (hasB 10 s.data.toList)])/\
   Hid (hasB 10 s.data.toList=true->x.data.toList=upto 10 s.data.toList/\y.data.toList=s.data.toList.drop ((upto 10 s.data.toList).length + 1))/\x.size <= s.size/\∃ n,w'=w.drewN n:=by
 refine (DK 10 s (by omega) w).mono ?_;rintro e w' ⟨rfl,a⟩;rw [show Lib.cut s.data.toList (⟨#[10]⟩:ByteArray).data.toList=_ from CQ 10 _];cases h:hasB 10 s.data.toList
 ·exact ⟨_,_,rfl,(fun h=>by cases h),by show s.data.toList.toArray.size <= s.size;simp,a⟩
 ·refine ⟨_,_,rfl,fun _=>⟨rfl,rfl⟩,?_,a⟩;show (upto 10 s.data.toList).toArray.size <= s.size
  have b:(upto 10 s.data.toList).length <= s.data.toList.length:=by unfold upto;exact (List.takeWhile_sublist _).length_le
  simp at b ⊢;exact b
theorem yA {c:Cl} (b:∀ l ∈ c,gH l):jg (setOf c)=c.isEmpty:=by
 unfold jg
 cases c with
 | nil=>rfl
 | cons l r=>
  have h:(setOf (l :: r)).has l=true:=by rw [has_setOf (fun x a=>lq (b x a))];simp
  have:setOf (l :: r) ≠ (0,0):=(jq _).2 ⟨l,h⟩;rw [decide_eq_false this];rfl
theorem yH:∀ l:Bs,(upto 10 l).length < l.length->l.count 10=1 + (l.drop ((upto 10 l).length + 1)).count 10
 | [],h=>by simp at h
 | a :: r,h=>by
  by_cases e:a=10
  ·subst e;have u:upto 10 (10 :: r)=[]:=by simp [upto,List.takeWhile_cons]
   rw [u,List.count_cons];simp;omega
  ·have u:upto 10 (a :: r)=a :: upto 10 r:=by simp [upto,List.takeWhile_cons,e]
   rw [u] at h ⊢;have b:=yH r (by simpa using h);rw [List.count_cons,if_neg (by simpa using e),Nat.add_zero,b];simp
theorem AQ (v:Bs):iy v []=none:=rfl
def Ui (B sb n0:Nat) (v:Bs) (proof:ByteArray) (L0:List Cl) (w2:World) (k10 VD:Value) (wr:World):Prop:=
 ∃ (k:Nat) (x:ByteArray) (L:List Cl),k10=.int .i64 k/\VD=.string x/\x.size + 2 * k <= proof.size/\k + x.data.toList.count 10 <= proof.data.toList.count 10/\Hid (Below B w2 wr/\Has B sb L (n0 + k) wr/\jJ B wr)/\Hid (∀ res,mg v L (dK 10 x.data.toList) k res->mg v L0 (splitB 10 proof.data.toList) 0 res)
theorem yP (s d:ByteArray) (w:World) (hs:s.size <= maxLen) (hp:d.size <= 17592186044416) (hq:d.data.toList.count 10 <= 1400000000000) (hg:kJ w) (hT:jJ w.heap.size w):
  Calls Tryz.prog 20 #[.string s,.string d] w fun e w'=>Below w.heap.size w w'/\zm s d e:=by
 have HG:=hide hg;have HT:=hide hT;have QR:=hide (tN s w hs hg);rw [wJ] at QR;have CK:Hid (∀ a b:Nat,(fJ s.data.toList).2.2=0->mg (Lib.decDigits (fJ s.data.toList).1.toNat) (fJ s.data.toList).2.1 (splitB 10 d.data.toList) 0 (a,b)->Checked s.data.toList d.data.toList ((a:Int),(b:Int))):=fun a b h0 h=>by
  unfold Checked;rw [if_pos h0];exact ⟨a,b,rfl,h⟩
 have CN:Hid (¬ (fJ s.data.toList).2.2=0->Checked s.data.toList d.data.toList (0,(fJ s.data.toList).2.2)):=fun h=>by
  unfold Checked;rw [if_neg h]
 have RO:=hide (D6 (s:=s.data.toList));clear hg hT;generalize fJ s.data.toList=r at QR CK CN RO;obtain ⟨v1,v,er⟩:=r;simp only at QR CK CN RO;go_enter Tryz.func20,Tryz.ntmps20
 go_wp2_with fail
 with_reducible refine QR.out.mono ?_
 rintro e1 n ⟨al,u1,rfl,S⟩;simp only [] at S;have B1:=hide al;have RL:Hid (rO n u1 v):=by
  rcases S with ⟨e1,e2⟩ | h
  ·subst e1 e2;exact vM n
  ·exact h.read
 clear al S QR;simp only [];by_cases h0:er=0
 ·obtain ⟨V,hV,aA,aq,aD,ae⟩:=RO.out h0;subst h0;subst aA;have m:Hid (∀ a b:Nat,mg (Lib.decDigits V) v (splitB 10 d.data.toList) 0 (a,b)->Checked s.data.toList d.data.toList ((a:Int),(b:Int))):=fun a b h=>CK.out a b rfl (by simpa using h)
  have T1:Hid (jJ n.heap.size n):=by
   have t:=HT.out.later B1.out;exact ⟨t.1,by have:=t.2;have:=B1.out.size;omega⟩
  have G1:=hide (kJ.later B1.out HG.out);have QN:=hide (Ch v u1 n RL.out aq aD ae T1.out);have E:=B1.out.size;have H4:Hid (4 <= n.heap.size):=G1.out.2.2;clear RO CK CN aq ae RL HT;go_wp2_with fail
  with_reducible refine QN.out.mono ?_
  rintro e2 O ⟨rfl,W,ag,ab⟩;simp only [];have G2:=hide (kJ.later W G1.out);have B2:Hid (Below w.heap.size w O):=B1.out.trans (W.mono E);have S0:Hid (Below n.heap.size O O/\Has n.heap.size (n.heap.size + 1) v (v.length + 0) O/\jJ n.heap.size O):=⟨bR,ag,ab⟩;generalize n.heap.size=B at S0 H4 E ⊢;clear QN W ag ab G1 B1 T1 HG;go_wp2;go_loopw [10,11] (fun k t wr=>Ui B (B + 1) v.length (Lib.decDigits V) d v O k t wr) (fun _ t _=>iT t)
  case atStart=>exact ⟨0,d,v,rfl,rfl,by omega,by omega,S0,fun p h=>by rw [kN];exact h⟩
  case round=>
   clear S0;obtain ⟨k,x,L,rfl,rfl,aH,aJ,M,f⟩:=hrel;by_cases x0:x.size=0
   ·have xl:x.data.toList=[]:=List.eq_nil_of_length_eq_zero (by simpa using x0);have R:Hid (Checked s.data.toList d.data.toList ((k:Int),5)):=m.out k 5 (f.out _ (by rw [xl];exact vZ));have pe:x.toList.isEmpty=true:=sK x0;have BE:Hid (Below w.heap.size w wr):=B2.out.trans (M.out.1.mono E);clear M f xl;go_wp2;go_ret2;exact ⟨BE.out,_,_,rfl,R.out⟩
   ·have xl:x.data.toList ≠ []:=fun e=>x0 (by have:=congrArg List.length e;simpa using this)
    have pe:x.toList.isEmpty=false:=qG x0;have GR:=hide (kJ.below H4.out M.out.1 G2.out);obtain ⟨⟨mx,ad⟩,_,_⟩:=GR.out;have QC:=hide (Jf x mx wr (by omega) ad);clear ad;have ao:Hid (∀ g c,iy (Lib.decDigits V) (upto 10 x.data.toList)=some (g,c)->∀ l ∈ c,gH l):=fun g c h=>Cw hV h
    have QI:Hid (∀ X,Below wr.heap.size wr X->Calls Tryz.prog 36 #[.int .i64 V] X fun e w'=>∃ z:ByteArray,e=.returned (.string z)/\Hid (z.data.toList=Lib.decDigits V)/\Below X.heap.size X w'):=fun X hX=>yg V (by omega) X (kJ.later hX GR.out)
    have QP:Hid (∀ X (l z:ByteArray),Below wr.heap.size wr X->l.size <= 9223372036854775807->z.data.toList=Lib.decDigits V->Calls Tryz.prog 41 #[.string l,.string z] X fun e w'=>Below X.heap.size X w'/\jv V l e):=fun X l z hX i hz=>by
     obtain ⟨⟨m',aC⟩,_,_⟩:=kJ.later hX GR.out;exact rX l z V m' X i hV hz aC
    go_wp2_with fail
    with_reducible refine QC.out.mono ?_
    rintro e3 w3 ⟨l,y,rfl,C,aG,n3,rfl⟩;simp only [];have B3:Hid (Below wr.heap.size wr (wr.drewN n3)):=dO bR _;generalize wr.drewN n3=w3 at B3 ⊢;obtain ⟨hb,U⟩:∃ hb,hasB 10 x.data.toList=hb:=⟨_,rfl⟩;rw [U];have D:=hide U;clear U QC;go_wp2_with fail
    with_reducible refine (QI.out _ B3.out).mono ?_
    rintro e4 w4 ⟨z,rfl,hz,ak⟩;simp only [];have B4:Hid (Below wr.heap.size wr w4):=B3.out.trans (ak.mono B3.out.size);clear ak;go_wp2_with fail
    with_reducible refine (QP.out _ l z B4.out (by omega) hz.out).mono ?_
    rintro e5 w5 ⟨aj,aB⟩;have B5:Hid (Below wr.heap.size wr w5):=B4.out.trans (aj.mono B4.out.size);have MB:=M.out.2.1.bsize;have BE:Hid (Below w.heap.size w wr):=B2.out.trans (M.out.1.mono E);have sE:=BE.out.size;clear aj QI QP
    rcases aB with ⟨i,rfl⟩ | ⟨g,c,i,rfl⟩
    ·have R:Hid (Checked s.data.toList d.data.toList (((k + 1:Nat):Int),3)):=m.out (k + 1) 3 (f.out _ (by
      cases hb with
      | true=>exact FH D.out (by rw [<- (C.out D.out).1];exact i)
      | false=>exact uj xl D.out))
     have BF:Hid (Below w.heap.size w (w5.alloc (.cells #[.bool false,.int .u64 0,.int .u64 0,.int .u64 0,.int .u64 0] 86))):=(BE.out.trans (B5.out.mono sE)).alloc (by have:=B5.out.size;omega) _;unfold iX;clear i M f C
     cases hb with
     | true=>
      simp only [];go_wp2;go_ret2;exact ⟨BF.out,_,_,rfl,R.out⟩
     | false=>
      simp only [];go_wp2;go_ret2;exact ⟨BF.out,_,_,rfl,R.out⟩
    ·cases hb with
     | false=>
      have R:Hid (Checked s.data.toList d.data.toList (((k + 1:Nat):Int),3)):=m.out (k + 1) 3 (f.out _ (uj xl D.out));have BF:Hid (∀ o,Below w.heap.size w (w5.alloc o)):=fun o=>(BE.out.trans (B5.out.mono sE)).alloc (by have:=B5.out.size;omega) _
      unfold iX;clear i M f C;simp only [];go_wp2;go_ret2;exact ⟨BF.out _,_,_,rfl,R.out⟩
     | true=>
      have J:=D.out;obtain ⟨aa,q⟩:=C.out J;rw [aa] at i;have G:=ao.out g c i;have ay:(upto 10 x.data.toList).length ≠ 0:=fun e=>by
       rw [List.eq_nil_of_length_eq_zero e,AQ] at i;cases i
      have Q:(upto 10 x.data.toList).length < x.data.toList.length:=of_decide_eq_true J;have yz:y.size + 2 <= x.size:=by
       have h1:=congrArg List.length q;have h2:x.data.toList.length=x.size:=by simp
       have h3:y.data.toList.length=y.size:=by simp
       rw [List.length_drop,h2,h3] at h1;rw [h2] at Q;omega
      have az:k + 1 + y.data.toList.count 10 <= d.data.toList.count 10:=by
       have:=yH x.data.toList Q;rw [<- q] at this;omega
      have QE:Hid (∀ X,Calls Tryz.prog 43 #[iX g (setOf c) (dQ c)] X fun e w'=>e=.returned (.bool (!g && c.isEmpty))/\Below X.heap.size X w'):=fun X=>by
       have:=EU g (setOf c) (dQ c) (jR G) X;rw [yA G] at this;exact this
      have QT:Hid (∀ X,Below wr.heap.size wr X->Calls Tryz.prog 42 #[.pointer (some ⟨B + 1,0,none⟩),iX g (setOf c) (dQ c)] X fun e w'=>∃ b,e=.returned (.bool b)/\Hid (Below B X w'/\di X w'/\jJ B w')/\Hid (b=false->Checked s.data.toList d.data.toList (((k + 1:Nat):Int),4))/\Hid (b=true->∃ Y,Has B (B + 1) Y (v.length + (k + 1)) w'/\((!g && c.isEmpty)=true->Checked s.data.toList d.data.toList (((k + 1:Nat):Int),0))/\((!g && c.isEmpty)=false->∀ p,mg (Lib.decDigits V) Y (dK 10 y.data.toList) (k + 1) p->mg (Lib.decDigits V) v (splitB 10 d.data.toList) 0 p))):=fun X hX=>by
       have TX:=M.out.2.2.later (hX.mono MB);refine (LQ (c:=c) g (M.out.2.1.later hX) TX G (by omega)).mono ?_;rintro e w' ⟨I,q2,q3⟩
       rcases q3 with ⟨rfl,H,P⟩ | ⟨Y,rfl,H,P,r3⟩ | ⟨rfl,H,P⟩ | ⟨rfl,H,P,r3⟩
       ·exact ⟨false,P,⟨I,q2,TX.later I⟩,fun _=>m.out (k + 1) 4 (f.out _ (Fz J i H)),fun h=>by cases h⟩
       ·refine ⟨true,P,⟨I,q2,TX.later I⟩,(fun h=>by cases h),fun _=>⟨Y,r3,fun h=>by simp at h,fun _ p h=>f.out _ ((Jl J i H).2 (by rw [<- q];exact h))⟩⟩
       ·exact ⟨false,P,⟨I,q2,TX.later I⟩,fun _=>m.out (k + 1) 4 (f.out _ (Bo J i H)),fun h=>by cases h⟩
       ·refine ⟨true,P,⟨I,q2,TX.later I⟩,(fun h=>by cases h),fun _=>⟨L ++ [c],r3,fun h=>?_,fun h p h2=>?_⟩⟩
        ·have:c=[]:=by cases c with
          | nil=>rfl
          | cons a b=>simp at h
         subst this;exact m.out (k + 1) 0 (f.out _ (Jk J i H))
        ·have:c ≠ []:=fun e=>by rw [e] at h;simp at h
         exact f.out _ ((Jm J i H this).2 (by rw [<- q];exact h2))
      obtain ⟨en,ai⟩:∃ en,(!g && c.isEmpty)=en:=⟨_,rfl⟩;rw [ai] at QE QT;obtain ⟨sc,ac⟩:∃ a,setOf c=a:=⟨_,rfl⟩;obtain ⟨fc,ah⟩:∃ a,dQ c=a:=⟨_,rfl⟩;rw [ac,ah] at QE QT ⊢;have BX:Hid (Below wr.heap.size wr (w5.alloc (.cells #[.bool g,.int .u64 (sc.1:Int),.int .u64 (sc.2:Int),.int .u64 (fc.1:Int),.int .u64 (fc.2:Int)] 86))):=B5.out.alloc B5.out.size _;have FX:=hide (lQ w5 #[.bool g,.int .u64 (sc.1:Int),.int .u64 (sc.2:Int),.int .u64 (fc.1:Int),.int .u64 (fc.2:Int)] 86 (by decide));have M1:=hide M.out.1;unfold iX at QE QT ⊢;clear ai ac ah i G aa q ay Q J C ao M f m;simp only [];go_wp2_with fail
      with_reducible refine (QT.out _ BX.out).mono ?_
      rintro e6 w6 ⟨b,rfl,K,HF,ap⟩;simp only [];have B6:Hid (Below w.heap.size w w6):=BE.out.trans ((BX.out.mono sE).trans (K.out.1.mono E))
      cases b with
      | false=>
       have R:=hide (HF.out rfl);go_wp2;go_ret2;exact ⟨B6.out,_,_,rfl,R.out⟩
      | true=>
       obtain ⟨Y,af,an,am⟩:=ap.out rfl;have Z:=hide af;have aF:=hide an;have aE:=hide am;have ax:=(K.out.2.1.cell (j:=0) FX.out).trans (by simp:_=some (.bool g));have aw:=(K.out.2.1.cell (j:=1) FX.out).trans (by simp:_=some (.int .u64 (sc.1:Int)));have av:=(K.out.2.1.cell (j:=2) FX.out).trans (by simp:_=some (.int .u64 (sc.2:Int)));have au:=(K.out.2.1.cell (j:=3) FX.out).trans (by simp:_=some (.int .u64 (fc.1:Int)));have ar:=(K.out.2.1.cell (j:=4) FX.out).trans (by simp:_=some (.int .u64 (fc.2:Int)));clear af an am ap HF;go_wp2_with fail
       with_reducible refine (QE.out _).mono ?_
       rintro e7 w7 ⟨rfl,u⟩;simp only [];have B7:Hid (Below w.heap.size w w7):=B6.out.trans (u.mono B6.out.size);have M7:Hid (Below B O w7/\Has B (B + 1) Y (v.length + (k + 1)) w7/\jJ B w7):=
        ⟨(M1.out.trans ((BX.out.mono MB).trans K.out.1)).trans (u.mono Z.out.bsize),Z.out.later u,K.out.2.2.later (u.mono Z.out.bsize)⟩
       clear u ax aw av au ar
       cases en with
       | true=>
        have R:=hide (aF.out rfl);go_wp2;go_ret2;exact ⟨B7.out,_,_,rfl,R.out⟩
       | false=>
        have RR:=hide (aE.out rfl);go_wp2;go_roundw
        case rel=>exact ⟨k + 1,y,Y,iE (by omega),rfl,by omega,az,M7,RR.out⟩
        case measure=>simp [iT];omega
 ·have R:Hid (Checked s.data.toList d.data.toList (0,er)):=CN.out h0;have aI:(er != 0)=true:=by simpa using h0
  go_wp2;go_ret2
  exact ⟨B1.out,_,_,rfl,R.out⟩
theorem Bp (s b:ByteArray) (w:World) (d:s.size <= maxLen) (h:b.size <= 1048576) (f:kJ w) (g:jJ w.heap.size w):
  Calls Tryz.prog 20 #[.string s,.string b] w fun e w'=>Below w.heap.size w w'/\zm s b e:=
 yP s b w d (by omega) (by
  have i:b.data.toList.length=b.size:=by simp
  have:=List.count_le_length (a:=10) (l:=b.data.toList);omega) f g
end
end
section
open Go Go.RowKit Go.Deep
section
attribute [local go_sem ↓] Go.wp_at_zero Go.wp_at_succ
def RH (c:Cl):Prop:=∀ l ∈ c,l.natAbs <= 6
def SA (es:List dH):Prop:=∀ e ∈ es,∀ l,e.set.has l=true->l.natAbs <= 6
theorem SA.sub {b a:List dH} (h:SA b) (f:uz a b):SA a:=fun e i l g=>by
 obtain ⟨d,hd,j⟩:=f e i;exact h d hd l (by rw [j];exact g)
theorem SA.add {d:List dH} {c:Cl} (h:SA d) (k:∀ l ∈ c,gH l) (m:RH c):SA (uy d (setOf c)):=by
 intro e b l a;unfold uy at b;split at b
 ·rcases List.mem_append.1 b with b | b
  ·exact h e b l a
  ·rw [List.mem_singleton.1 b] at a;have a:(setOf c).has l=true:=by simpa [yw] using a
   rw [has_setOf (fun x g=>lq (k x g))] at a;exact m l (of_decide_eq_true a)
 ·obtain ⟨j,i,rfl⟩:=List.mem_iff_getElem.1 b;have f:j < d.length:=by simpa using i
  refine h d[j] (List.getElem_mem f) l ?_;rw [List.getElem_modify] at a;split at a <;> exact a
theorem uR {s:Key} (h:∀ l,s.has l=true->l.natAbs <= 6):s.1 < 64/\s.2 < 64:=by
 constructor
 ·refine Nat.lt_pow_two_of_testBit (n:=6) s.1 fun i a=>?_
  cases e:s.1.testBit i
  ·rfl
  ·have:=h ((i:Int) + 1) (by rw [fP];exact e);omega
 ·refine Nat.lt_pow_two_of_testBit (n:=6) s.2 fun i a=>?_
  cases e:s.2.testBit i
  ·rfl
  ·have:=h (-((i:Int) + 1)) (by rw [fQ];exact e);omega
theorem Hq {d:List dH} {wl:Nat->List Nat} {u:Key} {L:List Cl} (o:jw d wl u L) (h:SA d):d.length <= 4096:=by
 have nd:((d.map dH.set).map fun s=>s.1 * 64 + s.2).Nodup:=by
  rw [List.Nodup,List.pairwise_map];refine List.Pairwise.imp_of_mem ?_ o.oU;intro a b m l g e;obtain ⟨x,f,rfl⟩:=List.mem_map.1 m;obtain ⟨y,i,rfl⟩:=List.mem_map.1 l;obtain ⟨q,p⟩:=uR (h x f);obtain ⟨t,r⟩:=uR (h y i);exact g (Prod.ext (by omega) (by omega))
 have:=xN 4096 _ nd (fun n k=>by
  obtain ⟨s,j,rfl⟩:=List.mem_map.1 k;obtain ⟨x,f,rfl⟩:=List.mem_map.1 j;obtain ⟨q,p⟩:=uR (h x f);omega)
 simpa using this
def kZ (B sb:Nat) (L:List Cl) (N:Nat) (w:World):Prop:=
 ∃ (cv:Value) (mb:Nat) (gone:Int) (u:Key) (wv:Nat->Value) (es:List dH) (wl:Nat->List Nat),eG B sb w cv mb gone u wv es wl/\jw es wl u L/\SA es/\-(N:Int) <= gone/\gone <= (N:Int)/\L.length <= N
variable {B sb N:Nat} {L:List Cl} {c:Cl} {w w':World}
theorem kZ.later (h:kZ B sb L N w) (f:Below w.heap.size w w'):kZ B sb L N w':=by
 obtain ⟨j,e,a,u,b,i,d,g,r⟩:=h;exact ⟨j,e,a,u,b,i,d,g.later f,r⟩
theorem kZ.bsize (h:kZ B sb L N w):B <= w.heap.size:=by
 obtain ⟨i,f,a,u,d,g,e,b,r⟩:=h;exact b.bsize
theorem Sk (h:kZ B sb L N w) (x:jJ B w) (f:∀ l ∈ c,gH l) (d:RH c) (E:N <= 5999999999999999998):
  Calls Tryz.prog 68 #[.pointer (some ⟨sb,0,none⟩),dn (setOf c)] w fun e w'=>e=.returned (.tuple #[])/\Below B w w'/\di w w'/\kZ B sb (L ++ [c]) (N + 1) w':=by
 obtain ⟨K,r,m,u,C,J,D,y,a,j,I,H,G⟩:=h;have t:=Hq a j;refine (uu (setOf c) w (jR f) a.iW.ok (by omega) (fun k s=>Nat.le_trans (a.gG.len s) (by omega)) ⟨by omega,by omega⟩ (fun e v=>by rw [a.cnt e v];exact Nat.le_trans List.countP_le_length (by omega)) y x).mono ?_;rintro e w' ⟨q,p,o,g,b,z,i,n⟩;refine ⟨q,p,o,g,r,z,_,b,_,_,n,a.add f,j.add f d,?_,?_,by simp;omega⟩
 ·rcases i with e | e <;> rw [e] <;> omega
 ·rcases i with e | e <;> rw [e] <;> omega
theorem UE (h:kZ B sb L N w) (H:jJ B w) (G:∀ l ∈ c,gH l) (E:RH c) (P:N <= 5999999999999999998):
  Calls Tryz.prog 76 #[.pointer (some ⟨sb,0,none⟩),dn (setOf c)] w fun e w'=>Below B w w'/\di w w'/\((rem L c=none/\e=.returned (.bool false)/\kZ B sb L N w')\/∃ j,rem L c=some j/\e=.returned (.bool true)/\kZ B sb j (N + 1) w'):=by
 obtain ⟨T,O,t,u,K,S,M,J,s,q,R,Q,I⟩:=h;have D:=Hq s q;refine (xH c w G (by omega) ⟨by omega,by omega⟩ J H s (by omega)).mono ?_;rintro e w' ⟨C,z,y⟩;refine ⟨C,z,?_⟩
 rcases y with ⟨i,p,g,d,r,k,a,f,b,o,n,x,m,v⟩ | ⟨j,i,p,g,d,r,k,a,f,b,o,n,x,m,v⟩
 ·exact .inl ⟨i,p,g,d,r,k,a,f,b,o,n,q.sub m,by omega,by omega,I⟩
 ·exact .inr ⟨j,i,p,g,d,r,k,a,f,b,o,n,q.sub m,by omega,by omega,by have:=(BP i).2;omega⟩
theorem PK (h:kZ B sb L N w) (C:jJ B w) (z:∀ l ∈ c,gH l) (y:RH c) (M:N <= 5999999999999999998):
  Calls Tryz.prog 77 #[.pointer (some ⟨sb,0,none⟩),dn (setOf c),dn (dQ c)] w fun e w'=>∃ b,e=.returned (.bool b)/\Below B w w'/\di w w'/\kZ B sb L N w'/\(b=true↔eH L c):=by
 obtain ⟨I,v,a,u,J,O,K,H,g,m,G,E,D⟩:=h;have x:=Hq g m;refine (vV c w z (by omega) H C g).mono ?_;rintro e w' ⟨b,d,i,f,t,s,r,q,j,o,n⟩;exact ⟨b,t,s,r,⟨I,v,a,u,d,i,f,q,g.same j o,m.sub (xq (fun p k=>by rw [j] at k;exact k)),G,E,D⟩,n⟩
def Oy (B sb:Nat) (L:List Cl) (N:Nat) (g:Bool) (c:Cl) (w:World) (e:Ending) (w':World):Prop:=Below B w w'/\di w w'/\
 ((g=true/\rem L c=none/\e=.returned (.bool false))\/(∃ L',g=true/\rem L c=some L'/\e=.returned (.bool true)/\kZ B sb L' (N + 1) w') \/
  (g=false/\¬ eH L c/\e=.returned (.bool false))\/(g=false/\eH L c/\e=.returned (.bool true)/\kZ B sb (L ++ [c]) (N + 1) w'))
theorem Tc (g:Bool) (h:kZ B sb L N w) (O:jJ B w) (M:∀ l ∈ c,gH l) (q:RH c) (x:N <= 5999999999999999998):
  Calls Tryz.prog 42 #[.pointer (some ⟨sb,0,none⟩),iX g (setOf c) (dQ c)] w fun e w'=>Oy B sb L N g c w e w':=by
 have U:=hide h;have S:=hide O;have C:=hide M;have p:=hide q;have t:=h.bsize;have y:Hid (∀ V,Below w.heap.size w V->Calls Tryz.prog 76 #[.pointer (some ⟨sb,0,none⟩),dn (setOf c)] V fun e w'=>Below B w w'/\di w w'/\((rem L c=none/\e=.returned (.bool false))\/∃ v,rem L c=some v/\e=.returned (.bool true)/\kZ B sb v (N + 1) w')):=fun V n=>by
  refine (UE (U.out.later n) (S.out.later (n.mono t)) C.out p.out x).mono ?_;rintro e w' ⟨i,d,m⟩;refine ⟨(n.mono t).trans i,(di.of_below n).trans d,?_⟩
  rcases m with ⟨o,r2,_⟩ | r
  ·exact .inl ⟨o,r2⟩
  ·exact .inr r
 have u:Hid (∀ V,Below w.heap.size w V->Calls Tryz.prog 77 #[.pointer (some ⟨sb,0,none⟩),dn (setOf c),dn (dQ c)] V fun e w'=>∃ b,e=.returned (.bool b)/\Hid (Below B w w'/\di V w'/\kZ B sb L N w'/\jJ B w'/\(b=true↔eH L c))):=fun V n=>by
  have T:=S.out.later (n.mono t);refine (PK (U.out.later n) T C.out p.out x).mono ?_;rintro e w' ⟨b,i,d,m,q4,q5⟩;exact ⟨b,i,(n.mono t).trans d,m,q4,T.later d,q5⟩
 have z:Hid (∀ V,kZ B sb L N V->jJ B V->Calls Tryz.prog 68 #[.pointer (some ⟨sb,0,none⟩),dn (setOf c)] V fun e w'=>e=.returned (.tuple #[])/\Below B V w'/\di V w'/\kZ B sb (L ++ [c]) (N + 1) w'):=fun V h1 h2=>Sk h1 h2 C.out p.out x
 obtain ⟨s,J⟩:∃ s,setOf c=s:=⟨_,rfl⟩;obtain ⟨f,K⟩:∃ f,dQ c=f:=⟨_,rfl⟩;rw [J] at y u z ⊢;rw [K] at u ⊢;unfold dn at y u z;unfold iX;clear h O M q J K;go_enter Tryz.func42,Tryz.ntmps42
 go_upto_region 1 with fail
 obtain ⟨W,a⟩:∃ W,W=w.alloc (.cells #[.bool g,.int .u64 (s.1:Int),.int .u64 (s.2:Int),.int .u64 (f.1:Int),.int .u64 (f.2:Int)] 86):=⟨_,rfl⟩;have D:Hid (Below w.heap.size w W):=by rw [a];exact bR.alloc lr _
 have X:Hid (jK W w.heap.size):=by rw [a];exact lQ _ _ _ (by decide)
 have x0:W.cell? ⟨w.heap.size,0,none⟩=some (.bool g):=by rw [a];simp
 have G:W.cell? ⟨w.heap.size,1,none⟩=some (.int .u64 (s.1:Int)):=by rw [a];simp
 have E:W.cell? ⟨w.heap.size,2,none⟩=some (.int .u64 (s.2:Int)):=by rw [a];simp
 have x3:W.cell? ⟨w.heap.size,3,none⟩=some (.int .u64 (f.1:Int)):=by rw [a];simp
 have Z:W.cell? ⟨w.heap.size,4,none⟩=some (.int .u64 (f.2:Int)):=by rw [a];simp
 rw [<- a];clear a
 cases g with
 | true=>
  go_wp2_with fail
  with_reducible refine (y.out _ D.out).mono ?_
  rintro e6 H ⟨i,d,m⟩;have Y:=hide i;have Q:=hide d;clear i d
  rcases m with ⟨o,rfl⟩ | ⟨v,o,rfl,I⟩
  ·have R:=hide o;clear o;simp only [];go_wp2;go_ret;exact ⟨Y.out,Q.out,.inl ⟨rfl,R.out,rfl⟩⟩
  ·have R:=hide o;have R3:=hide I;clear o I;simp only [];go_wp2;go_ret;exact ⟨Y.out,Q.out,.inr (.inl ⟨v,rfl,R.out,rfl,R3.out⟩)⟩
 | false=>
  go_wp2_with fail
  with_reducible refine (u.out _ D.out).mono ?_
  rintro e6 H ⟨b,rfl,k⟩;simp only [];have z1:=(k.out.2.1.cell (j:=1) X.out).trans G;have z2:=(k.out.2.1.cell (j:=2) X.out).trans E;have P:Hid (di w H):=(di.of_below D.out).trans k.out.2.1;clear x0 G E x3 Z
  cases b with
  | false=>
   have R:Hid (¬ eH L c):=fun h=>by have:=k.out.2.2.2.2.2 h;cases this
   go_wp2;go_ret
   exact ⟨k.out.1,P.out,.inr (.inr (.inl ⟨rfl,R.out,rfl⟩))⟩
  | true=>
   have R:Hid (eH L c):=k.out.2.2.2.2.1 rfl;go_wp2_with fail
   with_reducible refine (z.out _ k.out.2.2.1 k.out.2.2.2.1).mono ?_
   rintro e7 w7 ⟨rfl,i,d,m⟩;simp only [];have BE:=hide (k.out.1.trans i);have KE:=hide (P.out.trans d);have HE:=hide m;clear i d m;go_wp2;go_ret;exact ⟨BE.out,KE.out,.inr (.inr (.inr ⟨rfl,R.out,rfl,HE.out⟩))⟩
end
section
attribute [local go_sem ↓] Go.wp_at_zero Go.wp_at_succ
def RG (H:Nat) (w:World) (cl:List Cl) (i11:Value) (wr:World):Prop:=
 ∃ i:Nat,i11=.int .i64 i/\i <= cl.length/\Hid (Below H w wr/\kZ H (H + 1) (cl.take i) i wr/\jJ H wr)
theorem GM (d:List Cl) (v:Value) (w:World) (hv:rO w v d) (r:∀ c ∈ d,∀ l ∈ c,gH l) (O:d.length <= 20001) (m:∀ c ∈ d,c.length <= 20001) (hT:jJ w.heap.size w) (Q:∀ c ∈ d,RH c):
  Calls Tryz.prog 39 #[v] w fun e w'=>e=.returned (.pointer (some ⟨w.heap.size + 1,0,none⟩))/\Below w.heap.size w w'/\kZ w.heap.size (w.heap.size + 1) d d.length w'/\jJ w.heap.size w':=by
 obtain ⟨a,cp,b,rfl,ha,n⟩:=hv;have H:=hide n;have HL:=hide r;have G:=hide m;have H6:=hide Q;have s:=@run_makeMap Tryz.prog;clear n r m Q;go_enter Tryz.func39,Tryz.ntmps39
 go_upto_region 2 with fail
 obtain ⟨Y,q⟩:∃ Y,Y=(w.alloc (.map #[] 0)).alloc (.cells (Tryz.zeroCells134.setIfInBounds 1 (.map (some w.heap.size))) 134):=⟨_,rfl⟩;have I:Hid (Below w.heap.size w Y):=by unfold Hid;rw [q];exact (bR.alloc lr _).alloc (by simp) _
 have W:Hid (eG w.heap.size (w.heap.size + 1) Y (.slice none 0 0) w.heap.size 0 (0,0) (fun _=>.slice none 0 0) [] (fun _=>[])):=by
  unfold Hid;refine eG.fresh ?_ ?_ (by omega) lr
  ·rw [q,vQ];have:=heap_alloc_new (w.alloc (.map #[] 0)) (.cells (newRow w.heap.size (0,0)).toArray 134);simpa using this
  ·rw [q];refine (sI w).kept ?_;rw [Below.heap_alloc _ _ _ (by simp)]
 rw [<- q];clear q s;have U:Hid (Below w.heap.size w Y/\kZ w.heap.size (w.heap.size + 1) (d.take 0) 0 Y/\jJ w.heap.size Y):=
  ⟨I.out,⟨_,_,_,_,_,_,_,W.out,by rw [List.take_zero];exact jw.empty,(fun e he=>by cases he),by omega,by omega,by simp⟩,hT.later I.out⟩
 clear W I;go_wp2;go_loopw [11] (fun i wr=>RG w.heap.size w d i wr) (fun i _=>d.length - (intOf i).toNat)
 case atStart=>exact ⟨0,rfl,zl,U⟩
 case round=>
  clear U;obtain ⟨i,rfl,ad,T⟩:=hrel;by_cases h:i < d.length
  ·have t:=ha (by omega);subst t;obtain ⟨u,g,f⟩:=H.out i h;have y:b < w.heap.size:=block_lt_of_cell g;have ac:=(T.out.1.cell (p:=⟨b,i,none⟩) y).trans g;have J:d.getD i []=d[i]:=by rw [List.getD_eq_getElem?_getD,List.getElem?_eq_getElem h];rfl
   rw [J] at f;have X:Hid (Jt wr u d[i]):=by
    obtain ⟨ra,Z,K,e1,e2,e3⟩:=f;refine ⟨ra,Z,K,e1,e2,fun j hj=>?_⟩;have:=e3 j hj;rw [T.out.1.cell (p:=⟨K,j,none⟩) (block_lt_of_cell this)];exact this
   have k:Hid (∀ l ∈ d[i],gH l):=HL.out _ (List.getElem_mem _);have D:=hide (Ah d[i] u wr X.out (fun l r=>kE (k.out l r)) (Nat.le_trans (G.out _ (List.getElem_mem _)) (by omega)));have S:Hid (d.take (i + 1)=d.take i ++ [d[i]]):=by
    unfold Hid;rw [List.take_add_one,List.getElem?_eq_getElem h];rfl
   have E:Hid (∀ V,Below wr.heap.size wr V->Calls Tryz.prog 68 #[.pointer (some ⟨w.heap.size + 1,0,none⟩),dn (setOf d[i])] V fun e w'=>e=.returned (.tuple #[])/\Hid (Below w.heap.size w w'/\kZ w.heap.size (w.heap.size + 1) (d.take (i + 1)) (i + 1) w'/\jJ w.heap.size w')):=fun V x=>by
    have P:=T.out.2.1.bsize;have R:=T.out.2.2.later (x.mono P);refine (Sk (T.out.2.1.later x) R k.out (H6.out _ (List.getElem_mem _)) (by omega)).mono ?_;rintro e w' ⟨q1,M,q3,q4⟩;exact ⟨q1,(T.out.1.trans (x.mono P)).trans M,by rw [S.out];exact q4,R.later M⟩
   unfold dn at D E;generalize setOf d[i]=sk at D E;have ab:(0:Int) <= (i:Int):=by omega
   have aa:(i:Int) < (d.length:Int):=by omega
   clear g f X k S J;go_wp2_with fail
   with_reducible refine D.out.mono ?_
   rintro e6 w6 ⟨rfl,o⟩;simp only [];have B6:=hide o;clear o;go_wp2_with fail
   with_reducible refine (E.out _ B6.out).mono ?_
   rintro e7 w7 ⟨rfl,H7⟩;simp only [];go_wp2;go_roundw
   case rel=>exact ⟨i + 1,iE (by omega),by omega,H7⟩
   case measure=>simp [intOf];omega
  ·have ei:i=d.length:=by omega
   subst ei;have z:=T.out;rw [List.take_length] at z;have C:=hide z;clear z;go_wp2;go_ret;exact ⟨rfl,C.out.1,C.out.2.1,C.out.2.2⟩
end
end
section
open Go Go.RowKit Go.Deep Go.Proofs
section
attribute [local go_sem ↓] Go.wp_at_zero Go.wp_at_succ
theorem PY:∀ V,V < 7->∀ d,d < 10->above [UInt8.ofNat (48 + d)] (Lib.decDigits V)=false->fZ [UInt8.ofNat (48 + d)] <= 6:=by decide +kernel
theorem TJ:∀ V,V < 7->(Lib.decDigits V).length <= 1:=by decide +kernel
theorem Qo {V:Nat} (k:V <= 6) {t:Bs} (h:iV (Lib.decDigits V) t=true):fZ (strip t) <= 6:=by
 unfold iV at h;simp only [Bool.and_eq_true,Bool.not_eq_true'] at h;obtain ⟨⟨j,l⟩,i⟩:=h;have f:=Nat.le_trans (jF i) (TJ V (by omega));obtain ⟨hd,e⟩:=kS j;generalize strip t=x at *
 match x,f with
 | [],_=>exact absurd rfl e
 | [a],_=>
  obtain ⟨d,g,rfl⟩:=kW (by simpa using hd);exact PY V (by omega) d g i
 | a :: b :: r,f=>simp at f
theorem G6 {V:Nat} (f:V <= 6):∀ {T:List Bs} {c:Cl},jG (Lib.decDigits V) T=some c->∀ l ∈ c,l.natAbs <= 6
 | [],c,h=>by simp [jG] at h
 | [t],c,h=>by
  unfold jG at h;split at h
  ·cases h;intro l a;simp at a
  ·cases h
 | t :: b :: r,c,h=>by
  have:jG (Lib.decDigits V) (t :: b :: r)=if iV (Lib.decDigits V) t then (jG (Lib.decDigits V) (b :: r)).map (eQ t :: ·) else none:=rfl
  rw [this] at h;split at h
  ·rename_i a;obtain ⟨d,hd,rfl⟩:=Option.map_eq_some_iff.1 h;intro l e
   rcases List.mem_cons.1 e with rfl | e
   ·have g:=Qo f a;obtain ⟨i,_,_⟩:=uP (by omega) a;unfold eQ;split <;> omega
   ·exact G6 f hd l e
  ·cases h
theorem Tz {V:Nat} (a:V <= 6) {l:Bs} {g:Bool} {c:Cl} (h:iy (Lib.decDigits V) l=some (g,c)):∀ l ∈ c,l.natAbs <= 6:=by
 unfold iy at h;split at h
 ·obtain ⟨d,hd,e⟩:=Option.map_eq_some_iff.1 h;cases e;exact G6 a hd
 ·obtain ⟨d,hd,e⟩:=Option.map_eq_some_iff.1 h;cases e;exact G6 a hd
def RS (B sb n0:Nat) (v:Bs) (proof:ByteArray) (L0:List Cl) (w2:World) (k10 VD:Value) (wr:World):Prop:=
 ∃ (k:Nat) (x:ByteArray) (L:List Cl),k10=.int .i64 k/\VD=.string x/\x.size + 2 * k <= proof.size/\Hid (Below B w2 wr/\kZ B sb L (n0 + k) wr/\jJ B wr)/\Hid (∀ res,mg v L (dK 10 x.data.toList) k res->mg v L0 (splitB 10 proof.data.toList) 0 res)
theorem Jn (s d:ByteArray) (w:World) (hs:s.size <= maxLen) (hp:d.size <= maxLen) (h6:(fJ s.data.toList).1 <= 6/\∀ c ∈ (fJ s.data.toList).2.1,RH c) (hg:kJ w) (hT:jJ w.heap.size w):
  Calls Tryz.prog 20 #[.string s,.string d] w fun e w'=>Below w.heap.size w w'/\zm s d e:=by
 have HG:=hide hg;unfold maxLen at hp;have HT:=hide hT;have QR:=hide (tN s w hs hg);rw [wJ] at QR;have CK:Hid (∀ a b:Nat,(fJ s.data.toList).2.2=0->mg (Lib.decDigits (fJ s.data.toList).1.toNat) (fJ s.data.toList).2.1 (splitB 10 d.data.toList) 0 (a,b)->Checked s.data.toList d.data.toList ((a:Int),(b:Int))):=fun a b h0 h=>by
  unfold Checked;rw [if_pos h0];exact ⟨a,b,rfl,h⟩
 have CN:Hid (¬ (fJ s.data.toList).2.2=0->Checked s.data.toList d.data.toList (0,(fJ s.data.toList).2.2)):=fun h=>by
  unfold Checked;rw [if_neg h]
 have RO:=hide (D6 (s:=s.data.toList));clear hg hT;have n:=hide h6;clear h6;generalize fJ s.data.toList=r at QR CK CN RO n;obtain ⟨v1,v,er⟩:=r;simp only at QR CK CN RO n;go_enter Tryz.func20,Tryz.ntmps20
 go_wp2_with fail
 with_reducible refine QR.out.mono ?_
 rintro e1 p ⟨am,u1,rfl,Q⟩;simp only [] at Q;have Z:=hide am;have RL:Hid (rO p u1 v):=by
  rcases Q with ⟨e1,e2⟩ | h
  ·subst e1 e2;exact vM p
  ·exact h.read
 clear am Q QR;simp only [];by_cases h0:er=0
 ·obtain ⟨V,hV,aA,ar,aD,af⟩:=RO.out h0;subst h0;subst aA;have m:Hid (∀ a b:Nat,mg (Lib.decDigits V) v (splitB 10 d.data.toList) 0 (a,b)->Checked s.data.toList d.data.toList ((a:Int),(b:Int))):=fun a b h=>CK.out a b rfl (by simpa using h)
  have T1:Hid (jJ p.heap.size p):=by
   have t:=HT.out.later Z.out;exact ⟨t.1,by have:=t.2;have:=Z.out.size;omega⟩
  have G1:=hide (kJ.later Z.out HG.out);have QN:=hide (GM v u1 p RL.out ar aD af T1.out n.out.2);have V6:V <= 6:=by have:=n.out.1;omega
  have E:=Z.out.size;have H4:Hid (4 <= p.heap.size):=G1.out.2.2;clear RO CK CN ar af RL HT;go_wp2_with fail
  with_reducible refine QN.out.mono ?_
  rintro e2 O ⟨rfl,U,ah,ac⟩;simp only [];have G2:=hide (kJ.later U G1.out);have B2:Hid (Below w.heap.size w O):=Z.out.trans (U.mono E);have S0:Hid (Below p.heap.size O O/\kZ p.heap.size (p.heap.size + 1) v (v.length + 0) O/\jJ p.heap.size O):=⟨bR,ah,ac⟩;generalize p.heap.size=B at S0 H4 E ⊢;clear QN U ah ac G1 Z T1 HG;go_wp2;go_loopw [10,11] (fun k t wr=>RS B (B + 1) v.length (Lib.decDigits V) d v O k t wr) (fun _ t _=>iT t)
  case atStart=>exact ⟨0,d,v,rfl,rfl,by omega,S0,fun q h=>by rw [kN];exact h⟩
  case round=>
   clear S0;obtain ⟨k,x,L,rfl,rfl,aH,M,f⟩:=hrel;by_cases x0:x.size=0
   ·have xl:x.data.toList=[]:=List.eq_nil_of_length_eq_zero (by simpa using x0);have R:Hid (Checked s.data.toList d.data.toList ((k:Int),5)):=m.out k 5 (f.out _ (by rw [xl];exact vZ));have pe:x.toList.isEmpty=true:=sK x0;have BE:Hid (Below w.heap.size w wr):=B2.out.trans (M.out.1.mono E);clear M f xl;go_wp2;go_ret2;exact ⟨BE.out,_,_,rfl,R.out⟩
   ·have xl:x.data.toList ≠ []:=fun e=>x0 (by have:=congrArg List.length e;simpa using this)
    have pe:x.toList.isEmpty=false:=qG x0;have GR:=hide (kJ.below H4.out M.out.1 G2.out);obtain ⟨⟨mx,ae⟩,_,_⟩:=GR.out;have QC:=hide (Jf x mx wr (by omega) ae);clear ae;have ap:Hid (∀ g c,iy (Lib.decDigits V) (upto 10 x.data.toList)=some (g,c)->∀ l ∈ c,gH l):=fun g c h=>Cw hV h
    have QI:Hid (∀ X,Below wr.heap.size wr X->Calls Tryz.prog 36 #[.int .i64 V] X fun e w'=>∃ z:ByteArray,e=.returned (.string z)/\Hid (z.data.toList=Lib.decDigits V)/\Below X.heap.size X w'):=fun X hX=>yg V (by omega) X (kJ.later hX GR.out)
    have QP:Hid (∀ X (l z:ByteArray),Below wr.heap.size wr X->l.size <= 9223372036854775807->z.data.toList=Lib.decDigits V->Calls Tryz.prog 41 #[.string l,.string z] X fun e w'=>Below X.heap.size X w'/\jv V l e):=fun X l z hX i hz=>by
     obtain ⟨⟨m',aC⟩,_,_⟩:=kJ.later hX GR.out;exact rX l z V m' X i hV hz aC
    go_wp2_with fail
    with_reducible refine QC.out.mono ?_
    rintro e3 w3 ⟨l,y,rfl,C,aG,n3,rfl⟩;simp only [];have B3:Hid (Below wr.heap.size wr (wr.drewN n3)):=dO bR _;generalize wr.drewN n3=w3 at B3 ⊢;obtain ⟨hb,S⟩:∃ hb,hasB 10 x.data.toList=hb:=⟨_,rfl⟩;rw [S];have D:=hide S;clear S QC;go_wp2_with fail
    with_reducible refine (QI.out _ B3.out).mono ?_
    rintro e4 w4 ⟨z,rfl,hz,al⟩;simp only [];have B4:Hid (Below wr.heap.size wr w4):=B3.out.trans (al.mono B3.out.size);clear al;go_wp2_with fail
    with_reducible refine (QP.out _ l z B4.out (by omega) hz.out).mono ?_
    rintro e5 w5 ⟨ak,aB⟩;have B5:Hid (Below wr.heap.size wr w5):=B4.out.trans (ak.mono B4.out.size);have MB:=M.out.2.1.bsize;have BE:Hid (Below w.heap.size w wr):=B2.out.trans (M.out.1.mono E);have sE:=BE.out.size;clear ak QI QP
    rcases aB with ⟨i,rfl⟩ | ⟨g,c,i,rfl⟩
    ·have R:Hid (Checked s.data.toList d.data.toList (((k + 1:Nat):Int),3)):=m.out (k + 1) 3 (f.out _ (by
      cases hb with
      | true=>exact FH D.out (by rw [<- (C.out D.out).1];exact i)
      | false=>exact uj xl D.out))
     have BF:Hid (Below w.heap.size w (w5.alloc (.cells #[.bool false,.int .u64 0,.int .u64 0,.int .u64 0,.int .u64 0] 86))):=(BE.out.trans (B5.out.mono sE)).alloc (by have:=B5.out.size;omega) _;unfold iX;clear i M f C
     cases hb with
     | true=>
      simp only [];go_wp2;go_ret2;exact ⟨BF.out,_,_,rfl,R.out⟩
     | false=>
      simp only [];go_wp2;go_ret2;exact ⟨BF.out,_,_,rfl,R.out⟩
    ·cases hb with
     | false=>
      have R:Hid (Checked s.data.toList d.data.toList (((k + 1:Nat):Int),3)):=m.out (k + 1) 3 (f.out _ (uj xl D.out));have BF:Hid (∀ o,Below w.heap.size w (w5.alloc o)):=fun o=>(BE.out.trans (B5.out.mono sE)).alloc (by have:=B5.out.size;omega) _
      unfold iX;clear i M f C;simp only [];go_wp2;go_ret2;exact ⟨BF.out _,_,_,rfl,R.out⟩
     | true=>
      have K:=D.out;obtain ⟨aa,G⟩:=C.out K;rw [aa] at i;have H:=ap.out g c i;have c6:RH c:=Tz V6 i;have az:(upto 10 x.data.toList).length ≠ 0:=fun e=>by
       rw [List.eq_nil_of_length_eq_zero e,AQ] at i;cases i
      have ab:(upto 10 x.data.toList).length < x.data.toList.length:=of_decide_eq_true K;have yz:y.size + 2 <= x.size:=by
       have h1:=congrArg List.length G;have h2:x.data.toList.length=x.size:=by simp
       have h3:y.data.toList.length=y.size:=by simp
       rw [List.length_drop,h2,h3] at h1;rw [h2] at ab;omega
      have QE:Hid (∀ X,Calls Tryz.prog 43 #[iX g (setOf c) (dQ c)] X fun e w'=>e=.returned (.bool (!g && c.isEmpty))/\Below X.heap.size X w'):=fun X=>by
       have:=EU g (setOf c) (dQ c) (jR H) X;rw [yA H] at this;exact this
      have QT:Hid (∀ X,Below wr.heap.size wr X->Calls Tryz.prog 42 #[.pointer (some ⟨B + 1,0,none⟩),iX g (setOf c) (dQ c)] X fun e w'=>∃ b,e=.returned (.bool b)/\Hid (Below B X w'/\di X w'/\jJ B w')/\Hid (b=false->Checked s.data.toList d.data.toList (((k + 1:Nat):Int),4))/\Hid (b=true->∃ W,kZ B (B + 1) W (v.length + (k + 1)) w'/\((!g && c.isEmpty)=true->Checked s.data.toList d.data.toList (((k + 1:Nat):Int),0))/\((!g && c.isEmpty)=false->∀ q,mg (Lib.decDigits V) W (dK 10 y.data.toList) (k + 1) q->mg (Lib.decDigits V) v (splitB 10 d.data.toList) 0 q))):=fun X hX=>by
       have TX:=M.out.2.2.later (hX.mono MB);refine (Tc (c:=c) g (M.out.2.1.later hX) TX H c6 (by omega)).mono ?_;rintro e w' ⟨J,q2,q3⟩
       rcases q3 with ⟨rfl,I,P⟩ | ⟨W,rfl,I,P,r3⟩ | ⟨rfl,I,P⟩ | ⟨rfl,I,P,r3⟩
       ·exact ⟨false,P,⟨J,q2,TX.later J⟩,fun _=>m.out (k + 1) 4 (f.out _ (Fz K i I)),fun h=>by cases h⟩
       ·refine ⟨true,P,⟨J,q2,TX.later J⟩,(fun h=>by cases h),fun _=>⟨W,r3,fun h=>by simp at h,fun _ q h=>f.out _ ((Jl K i I).2 (by rw [<- G];exact h))⟩⟩
       ·exact ⟨false,P,⟨J,q2,TX.later J⟩,fun _=>m.out (k + 1) 4 (f.out _ (Bo K i I)),fun h=>by cases h⟩
       ·refine ⟨true,P,⟨J,q2,TX.later J⟩,(fun h=>by cases h),fun _=>⟨L ++ [c],r3,fun h=>?_,fun h q h2=>?_⟩⟩
        ·have:c=[]:=by cases c with
          | nil=>rfl
          | cons a b=>simp at h
         subst this;exact m.out (k + 1) 0 (f.out _ (Jk K i I))
        ·have:c ≠ []:=fun e=>by rw [e] at h;simp at h
         exact f.out _ ((Jm K i I this).2 (by rw [<- G];exact h2))
      obtain ⟨en,aj⟩:∃ en,(!g && c.isEmpty)=en:=⟨_,rfl⟩;rw [aj] at QE QT;obtain ⟨sc,ad⟩:∃ a,setOf c=a:=⟨_,rfl⟩;obtain ⟨fc,ai⟩:∃ a,dQ c=a:=⟨_,rfl⟩;rw [ad,ai] at QE QT ⊢;have BX:Hid (Below wr.heap.size wr (w5.alloc (.cells #[.bool g,.int .u64 (sc.1:Int),.int .u64 (sc.2:Int),.int .u64 (fc.1:Int),.int .u64 (fc.2:Int)] 86))):=B5.out.alloc B5.out.size _;have FX:=hide (lQ w5 #[.bool g,.int .u64 (sc.1:Int),.int .u64 (sc.2:Int),.int .u64 (fc.1:Int),.int .u64 (fc.2:Int)] 86 (by decide));have M1:=hide M.out.1;unfold iX at QE QT ⊢;clear aj ad ai i H c6 aa G az ab K C ap M f m;simp only [];go_wp2_with fail
      with_reducible refine (QT.out _ BX.out).mono ?_
      rintro e6 w6 ⟨b,rfl,n,HF,aq⟩;simp only [];have B6:Hid (Below w.heap.size w w6):=BE.out.trans ((BX.out.mono sE).trans (n.out.1.mono E))
      cases b with
      | false=>
       have R:=hide (HF.out rfl);go_wp2;go_ret2;exact ⟨B6.out,_,_,rfl,R.out⟩
      | true=>
       obtain ⟨W,ag,ao,an⟩:=aq.out rfl;have Y:=hide ag;have aF:=hide ao;have aE:=hide an;have ay:=(n.out.2.1.cell (j:=0) FX.out).trans (by simp:_=some (.bool g));have ax:=(n.out.2.1.cell (j:=1) FX.out).trans (by simp:_=some (.int .u64 (sc.1:Int)));have aw:=(n.out.2.1.cell (j:=2) FX.out).trans (by simp:_=some (.int .u64 (sc.2:Int)));have av:=(n.out.2.1.cell (j:=3) FX.out).trans (by simp:_=some (.int .u64 (fc.1:Int)));have au:=(n.out.2.1.cell (j:=4) FX.out).trans (by simp:_=some (.int .u64 (fc.2:Int)));clear ag ao an aq HF;go_wp2_with fail
       with_reducible refine (QE.out _).mono ?_
       rintro e7 w7 ⟨rfl,u⟩;simp only [];have B7:Hid (Below w.heap.size w w7):=B6.out.trans (u.mono B6.out.size);have M7:Hid (Below B O w7/\kZ B (B + 1) W (v.length + (k + 1)) w7/\jJ B w7):=
        ⟨(M1.out.trans ((BX.out.mono MB).trans n.out.1)).trans (u.mono Y.out.bsize),Y.out.later u,n.out.2.2.later (u.mono Y.out.bsize)⟩
       clear u ay ax aw av au
       cases en with
       | true=>
        have R:=hide (aF.out rfl);go_wp2;go_ret2;exact ⟨B7.out,_,_,rfl,R.out⟩
       | false=>
        have RR:=hide (aE.out rfl);go_wp2;go_roundw
        case rel=>exact ⟨k + 1,y,W,iE (by omega),rfl,by omega,M7,RR.out⟩
        case measure=>simp [iT];omega
 ·have R:Hid (Checked s.data.toList d.data.toList (0,er)):=CN.out h0;have aI:(er != 0)=true:=by simpa using h0
  go_wp2;go_ret2
  exact ⟨Z.out,_,_,rfl,R.out⟩
end
end
end Rd
end Go.Proofs.YtceahffmenbibaaGreatDoor
