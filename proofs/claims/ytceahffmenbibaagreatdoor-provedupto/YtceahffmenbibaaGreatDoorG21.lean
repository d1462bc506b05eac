/- Pspw. -/
import Derived.Test.YtceahffmenbibaaGreatDoorG20
import Derived.Deep.CutRange
set_option linter.unusedVariables false
set_option linter.unusedSimpArgs false
namespace Go.Proofs.YtceahffmenbibaaGreatDoor
namespace Rd
open Go Go.RowKit Go.Deep
attribute [local go_sem ↓] Go.wp_at_zero Go.wp_at_succ
theorem kept_new {X w7:World} (k:Keeps (X.alloc (.cells #[.int .u64 0,.int .u64 0] 84)) w7):Hid (w7.rowIs X.heap.size 84 2 (keyF (0,0))):=by
 have r:=rowIs_two X (.int .u64 0) (.int .u64 0) 84
 exact r.of_block (k _ (row_foreign r))
theorem kept_new' {X w7:World} (k:Keeps (X.alloc (.cells #[.int .u64 0,.int .u64 0] 84)).drew w7):Hid (w7.rowIs X.heap.size 84 2 (keyF (0,0))):=by
 have r:=(rowIs_two X (.int .u64 0) (.int .u64 0) 84).drew
 exact r.of_block (k _ (row_foreign r))
theorem kept_old {X w7:World} {c:Nat} (k:Keeps X w7) (h:Hid (X.rowIs c 84 2 (keyF (0,0)))):Hid (w7.rowIs c 84 2 (keyF (0,0))):=(unhide h).of_block (k _ (row_foreign (unhide h)))
theorem kept_old' {X w7:World} {c:Nat} (k:Keeps X.drew w7) (h:Hid (X.rowIs c 84 2 (keyF (0,0)))):Hid (w7.rowIs c 84 2 (keyF (0,0))):=(unhide h).of_block (k _ (row_foreign (unhide h).drew))
set_option maxHeartbeats 4000000 in
set_option maxRecDepth 100000 in
theorem spread_any {B sb mb:Nat} {cv:Value} {gone:Int} {u:Key} {wv:Nat→Value} {es:List Ent} {wl:Nat→List Nat} (down0 laid:Key) (w:World) (hd:down0.ok) (hl:laid.ok) (hlen:es.length ≤ 2097152)
  (hS:Sto B sb w cv mb gone u wv es wl) (hT:Tab B w) (hW:WInv es wl) (hr:Rest es down0):
  Calls Tryz.prog 117 #[.pointer (some ⟨sb,0,none⟩),keyV down0,keyV laid] w fun e w'=>SprRet B sb w down0 laid cv mb gone u es e w':=by
 have M0:=hide (FalMem.start down0 laid hS hT)
 have HW:=hide hW
 have HR:=hide hr
 have HLEN:=hide hlen
 have HD:=hide hd
 have HL:=hide hl
 have Q1:Hid (∀ W,Calls Tryz.prog 114 #[keyV laid,keyV down0] W fun e w'=>e=.returned (keyV (laid.wo down0))∧Below W.heap.size W w'):=fun W=>without_any laid down0 W hl hd
 have Q2:Hid (∀ W,Calls Tryz.prog 75 #[keyV down0,keyV laid] W fun e w'=>e=.returned (keyV (down0.un laid))∧Below W.heap.size W w'):=fun W=>union_any down0 laid W hd hl
 have Q3:Hid (∀ W,Calls Tryz.prog 166 #[keyV (down0.un laid)] W fun e w'=>e=.returned (.bool (clashB (down0.un laid)))∧Below W.heap.size W w'):=fun W=>clashes_any _ W (un_ok hd hl)
 unfold keyV at Q1 Q2 Q3 ⊢
 clear hS hT hW hr hlen
 go_enter Tryz.func117,Tryz.ntmps117
 go_upto_region 1 with fail
 obtain ⟨W,hWd⟩:∃ W,W=((w.alloc (Obj.cells #[Value.int IntKind.u64 (down0.1:Int),Value.int IntKind.u64 (down0.2:Int)] 84)).alloc (Obj.cells #[Value.int IntKind.u64 (laid.1:Int),Value.int IntKind.u64 (laid.2:Int)] 84)).alloc (Obj.cells #[Value.int IntKind.u64 0,Value.int IntKind.u64 0] 84):=⟨_,rfl⟩
 rw [← hWd] at M0 ⊢
 clear hWd
 obtain ⟨a0,a1,_,_⟩:=row_facts (hide (unhide M0).lrow)
 obtain ⟨b0,b1,_,_⟩:=row_facts (hide (unhide M0).drow)
 generalize hP0:laid.wo down0=P0 at Q1
 go_wp2_with fail
 with_reducible refine (unhide Q1 _).mono ?_
 rintro e1 w1 ⟨rfl,hb1⟩
 simp only []
 have M1:=hide ((unhide M0).later hb1)
 have H1:=(unhide M1).hs
 clear hb1 a0 a1 b0 b1 M0
 go_upto_region 2 with fail
 have HMP:Hid (SprMem B sb w1.heap.size w down0 laid (0,0) P0 cv mb gone u wv es wl (w1.alloc (.cells #[.int .u64 (P0.1:Int),.int .u64 (P0.2:Int)] 84))):=
  ⟨(unhide M1).later ((Below.refl _ _).alloc (Nat.le_refl _) _),rowIs_two _ _ _ _,H1⟩
 generalize hpb:w1.heap.size=pb at HMP ⊢
 obtain ⟨W2,hW2⟩:∃ W2,W2=w1.alloc (.cells #[.int .u64 (P0.1:Int),.int .u64 (P0.2:Int)] 84):=⟨_,rfl⟩
 rw [← hW2] at HMP ⊢
 clear hW2 hpb M1 H1
 obtain ⟨a0,a1,a2,a3⟩:=row_facts (hide (unhide HMP).mem.lrow)
 obtain ⟨b0,b1,_,_⟩:=row_facts (hide (unhide HMP).mem.drow)
 generalize hD0:down0.un laid=D0 at Q2 Q3
 have HD0:=hide hD0
 have HP0:=hide hP0
 go_wp2_with fail
 with_reducible refine (unhide Q2 _).mono ?_
 rintro e3 w3 ⟨rfl,hb3⟩
 simp only []
 have M3:=hide ((unhide HMP).later hb3)
 have M4:=hide ((unhide M3).putD D0)
 obtain ⟨c0,c1,c2,c3⟩:=row_facts (hide (unhide M3).mem.lrow)
 clear hb3 a0 a1 a2 a3 b0 b1 HMP
 go_upto_region 3 with fail
 generalize hw4:(w3.setCell ⟨w.heap.size,0,none⟩ (.int .u64 (D0.1:Int))).setCell ⟨w.heap.size,1,none⟩ (.int .u64 (D0.2:Int))=w4 at M4 ⊢
 clear hw4 c0 c1 c2 c3 M3
 obtain ⟨a0,a1,a2,a3⟩:=row_facts (hide (unhide M4).mem.lrow)
 generalize hcl:clashB D0=cl at Q3
 have HCL:=hide hcl
 go_wp2_with fail
 with_reducible refine (unhide Q3 _).mono ?_
 rintro e5 w5 ⟨rfl,hb5⟩
 simp only []
 have M5:=hide ((unhide M4).later hb5)
 clear hb5 a0 a1 a2 a3 M4 Q1 Q2 Q3
 cases cl with
 | true=>
  obtain ⟨a0,a1,a2,a3⟩:=row_facts (hide (unhide M5).mem.lrow)
  obtain ⟨b0,b1,b2,b3⟩:=row_facts (hide (unhide M5).mem.frow)
  have M6:=hide ((unhide M5).putR D0)
  obtain ⟨d0,d1,_,_⟩:=row_facts (hide (unhide M6).mem.frow)
  go_wp2
  refine @bodyPost_ret _ _ _ _ _ (.tuple #[.agg #[.int .u64 (D0.1:Int),.int .u64 (D0.2:Int)],.bool true]) ?_ ?_ ?_
  ·simp [results,Tryz.results117,go_sem,d0,d1]
  ·rfl
  ·exact ⟨D0,true,_,es,_,rfl,(unhide M6).mem.below,(unhide M6).mem.keeps,(unhide M6).mem.sto,SprPost.clash (by rw [unhide HD0];exact unhide HCL),unhide HW,by rw [← unhide HD0];exact un_ok (unhide HD) (unhide HL)⟩
 | false=>
  have S0:Hid (SprAt es es wl down0 laid D0 P0):=by
   have:=SprAt.start (unhide HR) (unhide HW) (unhide HD) (unhide HL) (by rw [unhide HD0];exact unhide HCL)
   rw [unhide HD0,unhide HP0] at this
   exact this
  have pbH:=(unhide M5).hpb
  clear HW HR HCL
  go_upto_region 5 with fail
  go_loopw [] (fun wr=>SprRel B sb pb w down0 laid cv mb gone u es wr) (fun wr=>sprM (keyAt wr w.heap.size) (keyAt wr pb))
  case atStart=>exact ⟨D0,P0,_,_,_,M5,S0⟩
  case round=>
   clear M5 S0
   obtain ⟨D,P,wv',es',wl',M,S⟩:=hrel
   have dok:=(unhide S).spr.dok
   have pok:=(unhide S).spr.pok
   have QE:Hid (∀ W,Calls Tryz.prog 74 #[keyV P] W fun e w'=>e=.returned (.bool (emptyB P))∧Below W.heap.size W w'):=fun W=>isEmpty_any P W pok
   unfold keyV at QE
   obtain ⟨p0,p1,_,_⟩:=row_facts (hide (unhide M).prow)
   generalize hE:emptyB P=em at QE
   have HE:=hide hE
   go_wp2_with fail
   with_reducible refine (unhide QE _).mono ?_
   rintro e6 w6 ⟨rfl,hb6⟩
   simp only []
   have M6:=hide ((unhide M).later hb6)
   have KR:Hid (keyAt wr w.heap.size=D∧keyAt wr pb=P):=⟨keyAt_row (unhide M).mem.lrow,keyAt_row (unhide M).prow⟩
   clear hb6 p0 p1 QE M hE
   cases em with
   | true=>
    have P00:P=(0,0):=of_decide_eq_true (unhide HE)
    subst P00
    obtain ⟨a0,a1,a2,a3⟩:=row_facts (hide (unhide M6).mem.lrow)
    obtain ⟨b0,b1,b2,b3⟩:=row_facts (hide (unhide M6).mem.frow)
    have M7:=hide ((unhide M6).putR D)
    obtain ⟨d0,d1,_,_⟩:=row_facts (hide (unhide M7).mem.frow)
    go_wp2
    refine @bodyPost_ret _ _ _ _ _ (.tuple #[.agg #[.int .u64 (D.1:Int),.int .u64 (D.2:Int)],.bool false]) ?_ ?_ ?_
    ·simp [results,Tryz.results117,go_sem,d0,d1]
    ·rfl
    ·exact ⟨D,false,_,es',_,rfl,(unhide M7).mem.below,(unhide M7).mem.keeps,(unhide M7).mem.sto,(unhide S).done,(unhide S).winv,dok⟩
   | false=>
    have pne:P ≠ (0,0):=of_decide_eq_false (unhide HE)
    obtain ⟨o1,o2,ip⟩:=oneL_spec pok pne
    have Q1:Hid (∀ W,Calls Tryz.prog 158 #[keyV P] W fun e w'=>e=.returned (keyV P.one)∧Below W.heap.size W w'):=fun W=>one_any P W pok pne
    rw [o1] at Q1
    obtain ⟨p,hp⟩:∃ p,P.oneL=p:=⟨_,rfl⟩
    rw [hp] at Q1 o2 ip
    clear o1 hp
    have ip0:=isLit_ne ip
    have hpd:=(unhide S).spr.sub p o2
    have Q2:Hid (∀ W,Calls Tryz.prog 114 #[keyV P,keyV (single p)] W fun e w'=>e=.returned (keyV (P.wo (single p)))∧Below W.heap.size W w'):=fun W=>without_any P (single p) W pok (single_ok ip)
    have Q3:Hid (∀ W,Calls Tryz.prog 118 #[keyV (single p)] W fun e w'=>e=.returned (keyV (single p).op)∧Below W.heap.size W w'):=fun W=>opposites_any (single p) W
    rw [single_op ip0] at Q3
    have elen:es'.length ≤ 2097152:=by rw [sigs_len (unhide S).spr.same];exact unhide HLEN
    have Q4:Hid (∀ W,SprMem B sb pb w D laid (0,0) (P.wo (single p)) cv mb gone u wv' es' wl' W→Calls Tryz.prog 167 #[.pointer (some ⟨sb,0,none⟩),keyV (single (-p)),keyV D] W fun e w'=>∃ (F:Key) (cf:Bool) (wv2:Nat→Value) (es2:List Ent) (wl2:Nat→List Nat),e=.returned (.tuple #[keyV F,.bool cf])∧Hid (SprMem B sb pb w D laid (0,0) (P.wo (single p)) cv mb gone u wv2 es2 wl2 w'∧Keeps W w'∧FalsPost es' es2 (-p) D F cf∧WInv es2 wl2)):=fun W hM=>by
     with_reducible refine (falsify_any (-p) D W (isLit_neg ip) dok (by rw [Int.neg_neg];exact hpd) elen hM.mem.sto hM.mem.tab (unhide S).winv).mono ?_
     rintro e w' ⟨F,cf,wv2,es2,wl2,h1,h2,h3,h4,h5,h6⟩
     exact ⟨F,cf,wv2,es2,wl2,h1,hM.step h4 h3 h2,h3,h5,h6⟩
    unfold keyV at Q1 Q2 Q3 Q4
    have P1ok:(P.wo (single p)).ok:=wo_ok pok _
    generalize hP1:P.wo (single p)=P1 at Q2 Q4 P1ok
    have HPW:Hid (P.wo (single p)=P1):=hP1
    obtain ⟨p0,p1,_,_⟩:=row_facts (hide (unhide M6).prow)
    obtain ⟨sp,hsp⟩:∃ s,single p=s:=⟨_,rfl⟩
    obtain ⟨sq,hsq⟩:∃ s,single (-p)=s:=⟨_,rfl⟩
    rw [hsp] at Q1 Q2 Q3
    rw [hsq] at Q3 Q4
    clear hsp hsq hP1
    go_upto_region 6 with fail
    go_wp2_with fail
    with_reducible refine (unhide Q1 _).mono ?_
    rintro e7 w7 ⟨rfl,hb7⟩
    simp only []
    have M7:=hide ((unhide M6).later hb7)
    clear hb7 p0 p1 M6
    have M8:=hide ((unhide M7).later ((Below.refl _ w7).alloc (Nat.le_refl _) (.cells #[.int .u64 (sp.1:Int),.int .u64 (sp.2:Int)] 84)))
    have L8:=hide (rowIs_two w7 (.int .u64 (sp.1:Int)) (.int .u64 (sp.2:Int)) 84)
    have lb1:w.heap.size + 3 ≤ w7.heap.size:=(unhide M7).mem.hs
    have lb2:w7.heap.size ≠ pb:=fun e=>by have:=(unhide M7).prow.lt;omega
    go_upto_region 7 with fail
    generalize hlb:w7.heap.size=lb at L8 lb1 lb2 ⊢
    generalize hw8:w7.alloc (.cells #[.int .u64 (sp.1:Int),.int .u64 (sp.2:Int)] 84)=w8 at M8 L8 ⊢
    clear hw8 hlb M7
    obtain ⟨p0,p1,_,_⟩:=row_facts (hide (unhide M8).prow)
    have l0:=(unhide L8).cell (i:=0) (by omega)
    have l1:=(unhide L8).cell (i:=1) (by omega)
    unfold pairF at l0 l1
    simp only [if_true,show ¬ (1=0) by decide,if_false] at l0 l1
    go_wp2_with fail
    with_reducible refine (unhide Q2 _).mono ?_
    rintro e9 w9 ⟨rfl,hb9⟩
    simp only []
    have M9:=hide ((unhide M8).later hb9)
    have L9:Hid (w9.rowIs lb 84 2 (keyF sp)):=(unhide L8).of_block (hb9.block _ (unhide L8).lt)
    obtain ⟨p2,p3,p4,p5⟩:=row_facts (hide (unhide M9).prow)
    have MA:=hide ((unhide M9).putP P1)
    have LA:Hid (((w9.setCell ⟨pb,0,none⟩ (.int .u64 (P1.1:Int))).setCell ⟨pb,1,none⟩ (.int .u64 (P1.2:Int))).rowIs lb 84 2 (keyF sp)):=(unhide L9).of_block (two_other _ lb2)
    clear hb9 p0 p1 l0 l1 M8 L8 Q1 Q2
    go_upto_region 8 with fail
    generalize hwA:(w9.setCell ⟨pb,0,none⟩ (.int .u64 (P1.1:Int))).setCell ⟨pb,1,none⟩ (.int .u64 (P1.2:Int))=wA at MA LA ⊢
    clear hwA M9 L9 p2 p3 p4 p5
    obtain ⟨d0,d1,_,_⟩:=row_facts (hide (unhide MA).mem.lrow)
    obtain ⟨l0,l1,_,_⟩:=row_facts LA
    have A1:=(unhide MA).mem.hs
    have A2:=(unhide MA).prow.lt
    have A3:=(unhide LA).lt
    have KS:Hid (∀ W,Below wA.heap.size wA W→W.cell? ⟨w.heap.size,0,none⟩=some (.int .u64 (D.1:Int))∧W.cell? ⟨w.heap.size,1,none⟩=some (.int .u64 (D.2:Int))):=fun W h=>
     ⟨(h.cell (p:=⟨w.heap.size,0,none⟩) (by simp;omega)).trans d0,(h.cell (p:=⟨w.heap.size,1,none⟩) (by simp;omega)).trans d1⟩
    go_cut [10,11] from 21 to 44 (fun q c wx=>ForcedAt B sb pb w (-p) D laid P1 cv mb gone u es' q c wx)
    case first=>
     have lt1:w.heap.size < wA.heap.size:=by omega
     have ne1:¬ (w.heap.size=wA.heap.size):=by omega
     have ne2:¬ (wA.heap.size=w.heap.size):=by omega
     have ne3:¬ (lb=wA.heap.size):=by omega
     have ne4:¬ (wA.heap.size=lb):=by omega
     go_region_with (first
      |(go_at_call 118;refine (unhide Q3 _).mono ?_;rintro e6 w6 ⟨rfl,hb6⟩;have B6:Hid (Below wA.heap.size wA w6):=(by first | exact hb6 | exact (Below.refl _ _).drew.trans hb6 | exact ((Below.refl _ _).drew.alloc (Nat.le_refl _) _).drew.trans (hb6.mono (by simp)) | exact ((Below.refl _ _).alloc (Nat.le_refl _) _).drew.trans (hb6.mono (by simp)) | exact ((Below.refl _ _).alloc (Nat.le_refl _) _).trans (hb6.mono (by simp)) | exact ((Below.refl _ _).drew.alloc (Nat.le_refl _) _).trans (hb6.mono (by simp)));obtain ⟨k0,k1⟩:=unhide KS w6 (unhide B6);have s6:wA.heap.size ≤ w6.heap.size:=(unhide B6).size;have l6:w.heap.size < w6.heap.size:=(by omega);have n6:¬ (w.heap.size=w6.heap.size):=(by omega);(first | (have N6:=(by with_reducible exact new_two hb6)) | (have N6:=(by with_reducible exact new_two' hb6)) | (have N6:True:=trivial));clear hb6;simp only [])
      |(go_at_call 167;refine (unhide Q4 _ ((unhide MA).later (by first | exact unhide B6 | exact (unhide B6).drew | exact (unhide B6).alloc s6 _ | exact ((unhide B6).alloc s6 _).drew | exact ((unhide B6).drew.alloc s6 _) | exact ((unhide B6).drew.alloc s6 _).drew))).mono ?_;rintro e7 w7 ⟨F,cf,wv2,es2,wl2,rfl,H7⟩;(first | (have R7:=(by with_reducible exact kept_new (unhide H7).2.1);obtain ⟨m0,m1,m2,m3⟩:=row_facts R7) | (have R7:=(by with_reducible exact kept_new' (unhide H7).2.1);obtain ⟨m0,m1,m2,m3⟩:=row_facts R7) | (have R7:=(by with_reducible exact kept_old (unhide H7).2.1 N6);obtain ⟨m0,m1,m2,m3⟩:=row_facts R7) | (have R7:=(by with_reducible exact kept_old' (unhide H7).2.1 N6);obtain ⟨m0,m1,m2,m3⟩:=row_facts R7) | skip);simp only []))
     all_goals
      go_wp2_with fail
      go_meet
      first
       | exact forced_new (unhide H7).1 (unhide H7).2.2.1 (unhide H7).2.2.2
       | exact forced_set (unhide H7).1 (unhide R7) (by omega) (by omega) (unhide H7).2.2.1 (unhide H7).2.2.2
    case rest=>
     obtain ⟨fb,F,cf,wv2,es2,wl2,rfl,rfl,HF⟩:=hcut
     have FP:=hide (unhide HF).2.2.2.2.1
     have WI:=hide (unhide HF).2.2.2.2.2
     have MC:=hide (unhide HF).1
     have FR:=hide (unhide HF).2.1
     have fb1:=(unhide HF).2.2.1
     have fb2:=(unhide HF).2.2.2.1
     clear HF MA LA KS d0 d1 l0 l1 A1 A2 A3 Q3 Q4
     obtain ⟨d0,d1,d2,d3⟩:=row_facts (hide (unhide MC).mem.lrow)
     cases cf with
     | true=>
      obtain ⟨b0,b1,b2,b3⟩:=row_facts (hide (unhide MC).mem.frow)
      have M7:=hide ((unhide MC).putR D)
      obtain ⟨x0,x1,_,_⟩:=row_facts (hide (unhide M7).mem.frow)
      have SP:=hide ((unhide S).confl (d:=D) (unhide FP))
      go_wp2
      refine @bodyPost_ret _ _ _ _ _ (.tuple #[.agg #[.int .u64 (D.1:Int),.int .u64 (D.2:Int)],.bool true]) ?_ ?_ ?_
      ·simp [results,Tryz.results117,go_sem,x0,x1]
      ·rfl
      ·exact ⟨D,true,_,es2,_,rfl,(unhide M7).mem.below,(unhide M7).mem.keeps,(unhide M7).mem.sto,unhide SP,unhide WI,dok⟩
     | false=>
      have fok:=(unhide FP).fok
      have MS:Hid (sprM (D.un F) (P1.un F) < sprM D P):=by
       rw [← unhide HPW]
       exact sprM_lt ip o2 hpd (unhide FP).fresh
      have SN:Hid (SprAt es es2 wl2 down0 laid (D.un F) (P1.un F)):=by
       have:=(unhide S).step o2 ip0 (unhide FP) (unhide WI)
       rw [unhide HPW] at this;exact this
      have Q5:Hid (∀ W,Calls Tryz.prog 75 #[keyV P1,keyV F] W fun e w'=>e=.returned (keyV (P1.un F))∧Below W.heap.size W w'):=fun W=>union_any P1 F W P1ok fok
      have Q6:Hid (∀ W,Calls Tryz.prog 75 #[keyV D,keyV F] W fun e w'=>e=.returned (keyV (D.un F))∧Below W.heap.size W w'):=fun W=>union_any D F W dok fok
      unfold keyV at Q5 Q6
      generalize P1.un F=P2 at Q5 MS SN
      generalize D.un F=D2 at Q6 MS SN
      obtain ⟨p0,p1,p2,p3⟩:=row_facts (hide (unhide MC).prow)
      obtain ⟨f0,f1,_,_⟩:=row_facts FR
      go_upto_region 11 with fail
      go_wp2_with fail
      with_reducible refine (unhide Q5 _).mono ?_
      rintro ea wa ⟨rfl,hba⟩
      simp only []
      have Ma:=hide ((unhide MC).later hba)
      have Fa:Hid (wa.rowIs fb 84 2 (keyF F)):=(unhide FR).of_block (hba.block _ (unhide FR).lt)
      have Mb:=hide ((unhide Ma).putP P2)
      have Fb:Hid (((wa.setCell ⟨pb,0,none⟩ (.int .u64 (P2.1:Int))).setCell ⟨pb,1,none⟩ (.int .u64 (P2.2:Int))).rowIs fb 84 2 (keyF F)):=(unhide Fa).of_block (two_other _ fb2)
      clear p0 p1 p2 p3 f0 f1 d0 d1 d2 d3
      obtain ⟨p0,p1,p2,p3⟩:=row_facts (hide (unhide Ma).prow)
      clear hba
      go_upto_region 12 with fail
      generalize hwb:(wa.setCell ⟨pb,0,none⟩ (.int .u64 (P2.1:Int))).setCell ⟨pb,1,none⟩ (.int .u64 (P2.2:Int))=wb at Mb Fb ⊢
      clear hwb p0 p1 p2 p3 Ma Fa MC FR
      obtain ⟨d0,d1,d2,d3⟩:=row_facts (hide (unhide Mb).mem.lrow)
      obtain ⟨f0,f1,_,_⟩:=row_facts Fb
      go_wp2_with fail
      with_reducible refine (unhide Q6 _).mono ?_
      rintro ed wd ⟨rfl,hbd⟩
      simp only []
      have Md:=hide ((unhide Mb).later hbd)
      have Me:=hide ((unhide Md).putD D2)
      clear d0 d1 d2 d3 f0 f1 hbd
      obtain ⟨d0,d1,d2,d3⟩:=row_facts (hide (unhide Md).mem.lrow)
      go_wp2
      have KE:keyAt ((wd.setCell ⟨w.heap.size,0,none⟩ (.int .u64 (D2.1:Int))).setCell ⟨w.heap.size,1,none⟩ (.int .u64 (D2.2:Int))) w.heap.size=D2∧keyAt ((wd.setCell ⟨w.heap.size,0,none⟩ (.int .u64 (D2.1:Int))).setCell ⟨w.heap.size,1,none⟩ (.int .u64 (D2.2:Int))) pb=P2:=⟨keyAt_row (unhide Me).mem.lrow,keyAt_row (unhide Me).prow⟩
      go_roundw
      case rel=>exact ⟨D2,P2,_,_,_,Me,SN⟩
      case measure=>rw [KE.1,KE.2,(unhide KR).1,(unhide KR).2];exact unhide MS
end Rd
end Go.Proofs.YtceahffmenbibaaGreatDoor
