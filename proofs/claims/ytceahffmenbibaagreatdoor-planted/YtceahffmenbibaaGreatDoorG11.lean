/- Sval Snle Shelf Rprog2 Rprog3. -/
import Derived.Test.YtceahffmenbibaaGreatDoorG10
import Derived.Shelf.Small.Bits
import Derived.Shelf.Small.Wraps
import Derived.Shelf.Strconv.Atoi
import Derived.Shelf.Strconv.Itoa0
import Derived.Shelf.Strconv.Itoa1
import Derived.Shelf.LaysM
import Derived.Shelf.Strconv.Itoa2
import Derived.Shelf.Strconv.Itoa3
import Derived.Shelf.Strconv.AtoiErrFast
import Derived.Shelf.Strconv.ParseIntEmpty
import Derived.Shelf.Strconv.AtoiFail
import Derived.Shelf.Strconv.Clone
import Derived.Shelf.Strconv.SyntaxError
import Derived.Shelf.LaysC
import Derived.Shelf.Strconv.ToError
import Derived.Shelf.Strconv.Lower
import Derived.Shelf.Strconv.ParseUint10
import Derived.Shelf.Strconv.ParseUint10Empty
import Derived.Shelf.Strconv.ParseUint10Any
import Derived.Shelf.Strconv.ParseInt10
import Derived.Shelf.Strconv.AtoiLong
import Derived.Shelf.Strconv.AtoiInnerAll
import Derived.Shelf.Strconv.RangeError
import Derived.Shelf.Strconv.ToErrorRange
import Derived.Shelf.Strconv.AtoiAll
import Derived.Shelf.Strconv.ErrVarAll
import Derived.Shelf.Strings.Search1
import Derived.Shelf.Strings.Search2
import Derived.Shelf.Strings.Cut
import Derived.Shelf.Strings.Shaped
import Derived.Shelf.Strings.Prefix
import Derived.Shelf.Strings.FieldsFuncAny
import Derived.Shelf.Strings.FieldsFuncGrows
import Derived.Shelf.Slices.Turned
import Derived.Test.YtceahffmenbibaaGreatDoorProg
import Derived.Test.YtceahffmenbibaaGreatDoorG00
set_option linter.unusedVariables false
set_option linter.unusedSimpArgs false
set_option maxHeartbeats 2000000
set_option maxRecDepth 100000
namespace Go.Proofs.YtceahffmenbibaaGreatDoor
namespace So
section
open Go Go.RowKit Go.Deep Rd
variable {Z:Nat->Prop} {sb K n:Nat} {w:World} {f V:Nat->Value} {X:Nat->List Value} {tr ch:List Nat} {lev:Nat->Nat} {rea:Nat->Int}
theorem Tryz.zM:(Tryz.prog.info? 4).map (fun i=>(i.zero,i.size,i.bytes))=some (some (.bool false),1,1):=by kernel_rfl
def Qg (w:World) (n:Nat) (tr:List Nat) (s:Value) (wr:World):Prop:=
 ∃ i:Nat,s=.int .i64 ((i:Nat):Int)/\i <= n/\Hid (Below w.heap.size w wr/\wr.rowIs w.heap.size 4 n (fun v=>.bool (decide (v < i) && decide (0 < tv tr (2 * v)))))
theorem F6 (h:aQ Z sb w K f V X) (hT:iW n X tr ch lev rea) (h6:(X 6).length=n) (hn:n <= 50):
  Calls Tryz.prog 58 #[.pointer (some ⟨sb,0,none⟩)] w fun e w'=>e=.returned (.slice (some ⟨w.heap.size,0,none⟩) n n)/\Below w.heap.size w w'/\w'.rowIs w.heap.size 4 n (fun v=>.bool (decide (0 < tv tr (2 * v)))):=by
 have hK:=h.hK;have NY:=run_make_row' (P:=Tryz.prog) 26 4 (.bool false) 1 Tryz.underlying26 Tryz.zM rfl .i64 .i64 n (by omega) (by omega)
 obtain ⟨a6,c6,e6⟩:=h.bC.shape (k:=6) (by omega)
 have q6:=(h.hd (k:=6) (by omega)).1
 rw [show cellOf 6=13 from rfl,e6,h6] at q6
 go_enter Tryz.func58,Tryz.ntmps58
 go_wp2_with fail
 have QT:Hid (∀ (wr Y:World) (v:Nat),Below w.heap.size w wr->Y.heap=wr.heap->v < n->Calls Tryz.prog 103 #[.pointer (some ⟨sb,6,none⟩),.int .i64 ((2 * v:Nat):Int)] Y fun e w'=>e=.returned (.bool (decide (0 < tv tr (2 * v))))/\w'=Y):=fun wr Y v hb hY hv=>by
  have hs:=h.later hb;obtain ⟨g3,c3,t3,e3,q3,r3,s3,-⟩:=hs.elem (k:=3) (j:=2 * v) (by omega) hT.n3 (by omega)
  rw [show cellOf 3=9 from rfl] at q3
  rw [hT.t3 _ (by omega)] at s3
  obtain rfl:=Option.some.inj s3;exact qD sb 6 g3 (2 * n) c3 (2 * v) (tv tr (2 * v)) Y (by rw [bG hY];exact q3) (by omega) (by rw [bG hY];exact r3)
 have M0:Hid (Below w.heap.size w (w.alloc (.cells (madeCells #[.bool false] n) 4))/\(w.alloc (.cells (madeCells #[.bool false] n) 4)).rowIs w.heap.size 4 n (fun v=>.bool (decide (v < 0) && decide (0 < tv tr (2 * v))))):=by
  refine ⟨(Below.refl _ _).alloc (Nat.le_refl _) _,?_⟩;exact (World.rowIs_made w (.bool false) n 4).congr fun i hi=>by simp
 clear h hT h6 NY e6 q6;go_loopw [4,13] (fun _ s wr=>Qg w n tr s wr) (fun _ s _=>n - (intOf s).toNat)
 case atStart=>exact ⟨0,rfl,Nat.zero_le _,M0⟩
 case round=>
  clear M0;obtain ⟨i,rfl,hil,hst⟩:=hrel;by_cases hlt:i < n
  ·have r0:=hst.out.2.cell hlt;have z0:=hst.out.2.frozen i;have QL:=hide (fun Y=>kY ((i:Int) + 1) Y (by omega) (by omega) (by omega))
   rw [show lit ((i:Int) + 1)=2 * i by unfold lit;rw [if_neg (by omega)];omega] at QL
   have QI:=hide (fun Y hY=>QT.out wr Y i hst.out.1 hY hlt)
   generalize hb:decide (0 < tv tr (2 * i))=b at *
   have NX:Hid (Qg w n tr (.int .i64 ((i + 1:Nat):Int)) (wr.setCell ⟨w.heap.size,i,none⟩ (.bool b)).drew):=by
    refine ⟨i + 1,rfl,hlt,(hst.out.1.setCell (Nat.le_refl _) _).drew,World.rowIs.drew ((hst.out.2.set i (.bool b)).congr fun v hv=>?_)⟩
    by_cases e:v=i
    ·subst e;rw [if_pos rfl,<- hb];simp
    ·rw [if_neg e,show decide (v < i + 1)=decide (v < i) by rw [decide_eq_decide];omega]
   have i0:(0:Int) <= (i:Int):=by omega
   have i1:(i:Int) < (n:Int):=by omega
   have i2:(i:Int) <= 50:=by omega
   have hsz:w.heap.size < wr.heap.size:=hst.out.2.lt;have hwr:IntKind.i64.wrap ((i:Int) + 1)=(i:Int) + 1:=tY _ (by omega) (by omega)
   clear hst hb QT;generalize hk:(2 * i:Nat)=k at *
   generalize w.heap.size=hs at *
   go_upto_region 5 with fail
   go_region_with (first | (go_at_call 95;(try rw [hwr]);refine (QL.out _).mono ?_;rintro e7 w7 ⟨rfl,rfl⟩;simp only []) | (go_at_call 103;refine (QI.out _ (by rfl)).mono ?_;rintro e7 w7 ⟨rfl,rfl⟩;simp only []))
   all_goals
    go_wp2;go_roundw
    case rel=>exact NX.out
    case measure=>simp [intOf];omega
  ·have ei:i=n:=by omega
   subst ei;have FIN:Hid (Below w.heap.size w wr/\wr.rowIs w.heap.size 4 i (fun v=>.bool (decide (0 < tv tr (2 * v))))):=⟨hst.out.1,hst.out.2.congr fun v hv=>by simp [hv]⟩
   have i1:¬ ((i:Int) < (i:Int)):=by omega
   clear hst QT;go_wp2;go_ret;exact ⟨rfl,FIN.out⟩
end
section
open Go Go.RowKit Go.Deep Rd
def Xz (w:World) (n:Nat) (e:Ending) (w':World):Prop:=∃ g1 g2,e=.returned (.agg #[.slice none 0 0,.slice (some ⟨g1,0,none⟩) n n,.slice (some ⟨g2,0,none⟩) n n])/\w.heap.size <= g1/\w.heap.size <= g2/\g1 ≠ g2/\Below w.heap.size w w'/\w'.rowIs g1 4 n (fun _=>.bool false)/\w'.rowIs g2 4 n (fun _=>.bool false)
theorem UU (w:World) (ob:Obj) (z:Value) (t:TypeId) (a b:Nat):(((w.alloc ob).alloc (.cells (madeCells #[z] a) t)).alloc (.cells (madeCells #[z] b) t)).drew.rowIs (w.heap.size + 1) t a (fun _=>z)/\(((w.alloc ob).alloc (.cells (madeCells #[z] a) t)).alloc (.cells (madeCells #[z] b) t)).drew.rowIs (w.heap.size + 1 + 1) t b (fun _=>z)/\Below w.heap.size w (((w.alloc ob).alloc (.cells (madeCells #[z] a) t)).alloc (.cells (madeCells #[z] b) t)).drew:=by
 have r1:=World.rowIs_made (w.alloc ob) z a t;have r2:=World.rowIs_made ((w.alloc ob).alloc (.cells (madeCells #[z] a) t)) z b t;simp only [World.size_alloc] at r1 r2;exact ⟨(r1.alloc _).drew,r2.drew,((((Below.refl _ w).alloc (Nat.le_refl _) _).alloc (by simp) _).alloc (by simp;omega) _).drew⟩
theorem yz (n:Nat) (hn:n <= 50) (w:World):Calls Tryz.prog 94 #[.int .i64 (n:Nat)] w fun e w'=>Xz w n e w':=by
 have NY:=run_make_row' (P:=Tryz.prog) 26 4 (.bool false) 1 Tryz.underlying26 Tryz.zM rfl .i64 .i64 n (by omega) (by omega)
 go_enter Tryz.func94,Tryz.ntmps94
 go_upto_region 1 with fail
 go_region_with (fail)
 ·go_wp2;refine bodyPost_ret (v:=.agg #[.slice none 0 0,.slice (some ⟨w.heap.size + 1,0,none⟩) n n,.slice (some ⟨w.heap.size + 1 + 1,0,none⟩) n n]) (by simp [results,Tryz.results94,go_sem]) rfl ?_
  obtain ⟨a1,a2,a3⟩:=UU w (.cells #[.slice none 0 0,.slice (some ⟨w.heap.size + 1,0,none⟩) n n,.slice (some ⟨w.heap.size + 1 + 1,0,none⟩) n n] 162 (0,0)) (.bool false) 4 n n;exact ⟨w.heap.size + 1,w.heap.size + 1 + 1,rfl,by omega,by omega,by omega,a3,a1,a2⟩
 ·go_wp2;refine bodyPost_ret (v:=.agg #[.slice none 0 0,.slice (some ⟨w.heap.size + 1 + 1,0,none⟩) n n,.slice (some ⟨w.heap.size + 1,0,none⟩) n n]) (by simp [results,Tryz.results94,go_sem]) rfl ?_
  obtain ⟨a1,a2,a3⟩:=UU w (.cells #[.slice none 0 0,.slice (some ⟨w.heap.size + 1 + 1,0,none⟩) n n,.slice (some ⟨w.heap.size + 1,0,none⟩) n n] 162 (0,0)) (.bool false) 4 n n;exact ⟨w.heap.size + 1 + 1,w.heap.size + 1,rfl,by omega,by omega,by omega,a3,a2,a1⟩
end
end So
end Go.Proofs.YtceahffmenbibaaGreatDoor
namespace Go.Proofs
open Go.Shelf
def Tryz.DT:Go.Shelf.Ren:=⟨fun | 103=>71 | 210=>112 | 206=>148 | n=>n,fun | 9=>9 | 4=>4 | 24=>121 | 3=>3 | n=>n,fun | n=>n⟩
theorem Tryz.TG:Go.Proofs.Lays.n103 Tryz.prog Tryz.DT:={
 mixed:=by kernel_rfl
 f103:=Tryz.func71.trans (congrArg some (by kernel_rfl))
 f206:=Tryz.func148.trans (congrArg some (by kernel_rfl))
 f210:=Tryz.func112.trans (congrArg some (by kernel_rfl))
 t3:=Tryz.underlying3
 a3:=Tryz.isAgg3
 z3:=Tryz.sizeOf3
 v3:=Tryz.zeroValue3
 t4:=Tryz.underlying4
 a4:=Tryz.isAgg4
 z4:=Tryz.sizeOf4
 v4:=Tryz.zeroValue4
 t9:=Tryz.underlying9
 a9:=Tryz.isAgg9
 z9:=Tryz.sizeOf9
 v9:=Tryz.zeroValue9
 t24:=Tryz.underlying121
 a24:=Tryz.isAgg121
 z24:=Tryz.sizeOf121
 v24:=Tryz.zeroValue121 }
open Go.RowKit in
theorem Tryz.strings_CutPrefix (s p:ByteArray) (w:World):
  Calls Tryz.prog 71 #[.string s,.string p] w fun e w'=>e=.returned (.tuple #[.string ⟨(Lib.trimPrefix s.data.toList p.data.toList).toArray⟩,.bool (Lib.hasPrefix s.data.toList p.data.toList)])/\w'=w:=Any.strings_CutPrefix Tryz.TG s p w
def Tryz.DJ:Go.Shelf.Ren:=⟨fun | 172=>66 | 244=>107 | 245=>108 | 247=>153 | 279=>154 | 280=>155 | 281=>156 | 282=>157 | 287=>196 | 316=>197 | 171=>36 | 205=>198 | 321=>229 | 322=>230 | 243=>65 | 246=>106 | 283=>149 | 284=>150 | 285=>151 | 286=>152 | 129=>170 | 317=>192 | 318=>193 | 319=>194 | 320=>195 | 337=>227 | 338=>228 | n=>n,fun | 9=>9 | 3=>3 | 75=>65 | 76=>117 | 4=>4 | 5=>5 | 167=>209 | 37=>107 | 0=>0 | 85=>210 | 2=>2 | 168=>212 | 53=>82 | 175=>234 | 46=>187 | 210=>238 | 127=>171 | 145=>256 | 143=>254 | 21=>21 | 171=>204 | 173=>207 | 212=>232 | 51=>218 | 20=>20 | 213=>233 | 232=>267 | 233=>268 | 80=>120 | n=>n,fun | 15=>2 | 16=>3 | 17=>1 | 18=>4 | 19=>5 | n=>n⟩
theorem Tryz.TB:Go.Proofs.Lays.n172 Tryz.prog Tryz.DJ:={
 mixed:=by kernel_rfl
 f129:=Tryz.func170.trans (congrArg some (by kernel_rfl))
 f171:=Tryz.func36.trans (congrArg some (by kernel_rfl))
 f172:=Tryz.func66.trans (congrArg some (by kernel_rfl))
 f205:=Tryz.func198.trans (congrArg some (by kernel_rfl))
 f243:=Tryz.func65.trans (congrArg some (by kernel_rfl))
 f244:=Tryz.func107.trans (congrArg some (by kernel_rfl))
 f245:=Tryz.func108.trans (congrArg some (by kernel_rfl))
 f246:=Tryz.func106.trans (congrArg some (by kernel_rfl))
 f247:=Tryz.func153.trans (congrArg some (by kernel_rfl))
 f279:=Tryz.func154.trans (congrArg some (by kernel_rfl))
 f280:=Tryz.func155.trans (congrArg some (by kernel_rfl))
 f281:=Tryz.func156.trans (congrArg some (by kernel_rfl))
 f282:=Tryz.func157.trans (congrArg some (by kernel_rfl))
 f283:=Tryz.func149.trans (congrArg some (by kernel_rfl))
 f284:=Tryz.func150.trans (congrArg some (by kernel_rfl))
 f285:=Tryz.func151.trans (congrArg some (by kernel_rfl))
 f286:=Tryz.func152.trans (congrArg some (by kernel_rfl))
 f287:=Tryz.func196.trans (congrArg some (by kernel_rfl))
 f316:=Tryz.func197.trans (congrArg some (by kernel_rfl))
 f317:=Tryz.func192.trans (congrArg some (by kernel_rfl))
 f318:=Tryz.func193.trans (congrArg some (by kernel_rfl))
 f319:=Tryz.func194.trans (congrArg some (by kernel_rfl))
 f320:=Tryz.func195.trans (congrArg some (by kernel_rfl))
 f321:=Tryz.func229.trans (congrArg some (by kernel_rfl))
 f322:=Tryz.func230.trans (congrArg some (by kernel_rfl))
 f337:=Tryz.func227.trans (congrArg some (by kernel_rfl))
 f338:=Tryz.func228.trans (congrArg some (by kernel_rfl))
 t0:=Tryz.underlying0
 a0:=Tryz.isAgg0
 z0:=Tryz.sizeOf0
 v0:=Tryz.zeroValue0
 t2:=Tryz.underlying2
 a2:=Tryz.isAgg2
 z2:=Tryz.sizeOf2
 v2:=Tryz.zeroValue2
 t3:=Tryz.underlying3
 a3:=Tryz.isAgg3
 z3:=Tryz.sizeOf3
 v3:=Tryz.zeroValue3
 t4:=Tryz.underlying4
 a4:=Tryz.isAgg4
 z4:=Tryz.sizeOf4
 v4:=Tryz.zeroValue4
 t5:=Tryz.underlying5
 a5:=Tryz.isAgg5
 z5:=Tryz.sizeOf5
 v5:=Tryz.zeroValue5
 t9:=Tryz.underlying9
 a9:=Tryz.isAgg9
 z9:=Tryz.sizeOf9
 v9:=Tryz.zeroValue9
 t20:=Tryz.underlying20
 a20:=Tryz.isAgg20
 z20:=Tryz.sizeOf20
 v20:=Tryz.zeroValue20
 t21:=Tryz.underlying21
 a21:=Tryz.isAgg21
 z21:=Tryz.sizeOf21
 v21:=Tryz.zeroValue21
 t37:=Tryz.underlying107
 a37:=Tryz.isAgg107
 z37:=Tryz.sizeOf107
 v37:=Tryz.zeroValue107
 t46:=Tryz.underlying187
 a46:=Tryz.isAgg187
 z46:=Tryz.sizeOf187
 v46:=Tryz.zeroValue187
 t51:=Tryz.underlying218
 a51:=Tryz.isAgg218
 z51:=Tryz.sizeOf218
 v51:=Tryz.zeroValue218
 t53:=Tryz.underlying82
 a53:=Tryz.isAgg82
 z53:=Tryz.sizeOf82
 v53:=Tryz.zeroValue82
 t75:=Tryz.underlying65
 a75:=Tryz.isAgg65
 z75:=Tryz.sizeOf65
 v75:=Tryz.zeroValue65
 t76:=Tryz.underlying117
 a76:=Tryz.isAgg117
 z76:=Tryz.sizeOf117
 v76:=Tryz.zeroValue117
 t85:=Tryz.underlying210
 a85:=Tryz.isAgg210
 z85:=Tryz.sizeOf210
 v85:=Tryz.zeroValue210
 t127:=Tryz.underlying171
 a127:=Tryz.isAgg171
 z127:=Tryz.sizeOf171
 v127:=Tryz.zeroValue171
 t143:=Tryz.underlying254
 a143:=Tryz.isAgg254
 z143:=Tryz.sizeOf254
 v143:=Tryz.zeroValue254
 t145:=Tryz.underlying256
 a145:=Tryz.isAgg256
 z145:=Tryz.sizeOf256
 v145:=Tryz.zeroValue256
 t167:=Tryz.underlying209
 a167:=Tryz.isAgg209
 z167:=Tryz.sizeOf209
 v167:=Tryz.zeroValue209
 t168:=Tryz.underlying212
 a168:=Tryz.isAgg212
 z168:=Tryz.sizeOf212
 v168:=Tryz.zeroValue212
 t171:=Tryz.underlying204
 a171:=Tryz.isAgg204
 z171:=Tryz.sizeOf204
 v171:=Tryz.zeroValue204
 t173:=Tryz.underlying207
 a173:=Tryz.isAgg207
 z173:=Tryz.sizeOf207
 v173:=Tryz.zeroValue207
 t175:=Tryz.underlying234
 a175:=Tryz.isAgg234
 z175:=Tryz.sizeOf234
 v175:=Tryz.zeroValue234
 t210:=Tryz.underlying238
 a210:=Tryz.isAgg238
 z210:=Tryz.sizeOf238
 v210:=Tryz.zeroValue238
 t212:=Tryz.underlying232
 a212:=Tryz.isAgg232
 z212:=Tryz.sizeOf232
 v212:=Tryz.zeroValue232
 t213:=Tryz.underlying233
 a213:=Tryz.isAgg233
 z213:=Tryz.sizeOf233
 t232:=Tryz.underlying267
 a232:=Tryz.isAgg267
 z232:=Tryz.sizeOf267
 v232:=Tryz.zeroValue267
 t233:=Tryz.underlying268
 a233:=Tryz.isAgg268
 z233:=Tryz.sizeOf268
 v233:=Tryz.zeroValue268
 g15:=by kernel_rfl
 g16:=by kernel_rfl
 g17:=by kernel_rfl
 g18:=by kernel_rfl
 g19:=by kernel_rfl }
open Go.RowKit in
theorem Tryz.strconv_Atoi (s:ByteArray) (n:Int) (hl:s.size <= 18) (h:Lib.atoi s.data.toList=some n) (w:World):
  Calls Tryz.prog 66 #[.string s] w fun e w'=>e=.returned (.tuple #[.int .i64 n,.nilIface])/\∃ t,w'=Lib.bytesWorld w 5 t:=Any.strconv_Atoi Tryz.TB s n hl h w
def Tryz.Bf:Go.Shelf.Ren:=⟨fun | 171=>36 | 243=>65 | 246=>106 | 283=>149 | 284=>150 | 285=>151 | 286=>152 | 129=>170 | 317=>192 | 318=>193 | 319=>194 | 320=>195 | 337=>227 | 338=>228 | n=>n,fun | 3=>3 | 9=>9 | 2=>2 | 4=>4 | 171=>204 | 0=>0 | 53=>82 | 37=>107 | 5=>5 | 173=>207 | 212=>232 | 51=>218 | 20=>20 | 213=>233 | 46=>187 | 232=>267 | 233=>268 | n=>n,fun | 17=>1 | 18=>4 | 19=>5 | n=>n⟩
theorem Tryz.Oq:Go.Proofs.LaysM.n171 Tryz.prog Tryz.Bf:={
 mixed:=by kernel_rfl
 f129:=Tryz.func170.trans (congrArg some (by kernel_rfl))
 f171:=Tryz.func36.trans (congrArg some (by kernel_rfl))
 f243:=Tryz.func65.trans (congrArg some (by kernel_rfl))
 f246:=Tryz.func106.trans (congrArg some (by kernel_rfl))
 f283:=Tryz.func149.trans (congrArg some (by kernel_rfl))
 f284:=Tryz.func150.trans (congrArg some (by kernel_rfl))
 f285:=Tryz.func151.trans (congrArg some (by kernel_rfl))
 f286:=Tryz.func152.trans (congrArg some (by kernel_rfl))
 f317:=Tryz.func192.trans (congrArg some (by kernel_rfl))
 f318:=Tryz.func193.trans (congrArg some (by kernel_rfl))
 f319:=Tryz.func194.trans (congrArg some (by kernel_rfl))
 f320:=Tryz.func195.trans (congrArg some (by kernel_rfl))
 f337:=Tryz.func227.trans (congrArg some (by kernel_rfl))
 f338:=Tryz.func228.trans (congrArg some (by kernel_rfl))
 t0:=Tryz.underlying0
 a0:=Tryz.isAgg0
 z0:=Tryz.sizeOf0
 v0:=Tryz.zeroValue0
 t2:=Tryz.underlying2
 a2:=Tryz.isAgg2
 z2:=Tryz.sizeOf2
 v2:=Tryz.zeroValue2
 t3:=Tryz.underlying3
 a3:=Tryz.isAgg3
 z3:=Tryz.sizeOf3
 v3:=Tryz.zeroValue3
 t4:=Tryz.underlying4
 a4:=Tryz.isAgg4
 z4:=Tryz.sizeOf4
 v4:=Tryz.zeroValue4
 t5:=Tryz.underlying5
 a5:=Tryz.isAgg5
 z5:=Tryz.sizeOf5
 v5:=Tryz.zeroValue5
 t9:=Tryz.underlying9
 a9:=Tryz.isAgg9
 z9:=Tryz.sizeOf9
 v9:=Tryz.zeroValue9
 t20:=Tryz.underlying20
 a20:=Tryz.isAgg20
 z20:=Tryz.sizeOf20
 v20:=Tryz.zeroValue20
 t37:=Tryz.underlying107
 a37:=Tryz.isAgg107
 z37:=Tryz.sizeOf107
 v37:=Tryz.zeroValue107
 t46:=Tryz.underlying187
 a46:=Tryz.isAgg187
 z46:=Tryz.sizeOf187
 v46:=Tryz.zeroValue187
 t51:=Tryz.underlying218
 a51:=Tryz.isAgg218
 z51:=Tryz.sizeOf218
 v51:=Tryz.zeroValue218
 t53:=Tryz.underlying82
 a53:=Tryz.isAgg82
 z53:=Tryz.sizeOf82
 v53:=Tryz.zeroValue82
 t171:=Tryz.underlying204
 a171:=Tryz.isAgg204
 z171:=Tryz.sizeOf204
 v171:=Tryz.zeroValue204
 t173:=Tryz.underlying207
 a173:=Tryz.isAgg207
 z173:=Tryz.sizeOf207
 v173:=Tryz.zeroValue207
 t212:=Tryz.underlying232
 a212:=Tryz.isAgg232
 z212:=Tryz.sizeOf232
 v212:=Tryz.zeroValue232
 t213:=Tryz.underlying233
 a213:=Tryz.isAgg233
 z213:=Tryz.sizeOf233
 t232:=Tryz.underlying267
 a232:=Tryz.isAgg267
 z232:=Tryz.sizeOf267
 v232:=Tryz.zeroValue267
 t233:=Tryz.underlying268
 a233:=Tryz.isAgg268
 z233:=Tryz.sizeOf268
 v233:=Tryz.zeroValue268
 g17:=by kernel_rfl
 g18:=by kernel_rfl
 g19:=by kernel_rfl
 i0:=by kernel_rfl
 i2:=by kernel_rfl
 i3:=by kernel_rfl
 i4:=by kernel_rfl
 i5:=by kernel_rfl
 i9:=by kernel_rfl
 i20:=by kernel_rfl
 i37:=by kernel_rfl
 i46:=by kernel_rfl
 i51:=by kernel_rfl
 i53:=by kernel_rfl
 i171:=by kernel_rfl
 i173:=by kernel_rfl
 i212:=by kernel_rfl
 i232:=by kernel_rfl
 i233:=by kernel_rfl
 m17:=by kernel_rfl
 m18:=by kernel_rfl
 m19:=by kernel_rfl }
def Tryz.DK:Go.Shelf.Ren:=⟨fun | 171=>36 | 243=>65 | 246=>106 | 283=>149 | 284=>150 | 285=>151 | 286=>152 | 129=>170 | 317=>192 | 318=>193 | 319=>194 | 320=>195 | 337=>227 | 338=>228 | n=>n,fun | 3=>3 | 9=>9 | 2=>2 | 4=>4 | 171=>204 | 0=>0 | 53=>82 | 37=>107 | 5=>5 | 173=>207 | 212=>232 | 51=>218 | 20=>20 | 213=>233 | 46=>187 | 232=>267 | 233=>268 | n=>n,fun | 17=>1 | 18=>4 | 19=>5 | n=>n⟩
theorem Tryz.TC:Go.Proofs.Lays.n171 Tryz.prog Tryz.DK:={
 mixed:=by kernel_rfl
 f129:=Tryz.func170.trans (congrArg some (by kernel_rfl))
 f171:=Tryz.func36.trans (congrArg some (by kernel_rfl))
 f243:=Tryz.func65.trans (congrArg some (by kernel_rfl))
 f246:=Tryz.func106.trans (congrArg some (by kernel_rfl))
 f283:=Tryz.func149.trans (congrArg some (by kernel_rfl))
 f284:=Tryz.func150.trans (congrArg some (by kernel_rfl))
 f285:=Tryz.func151.trans (congrArg some (by kernel_rfl))
 f286:=Tryz.func152.trans (congrArg some (by kernel_rfl))
 f317:=Tryz.func192.trans (congrArg some (by kernel_rfl))
 f318:=Tryz.func193.trans (congrArg some (by kernel_rfl))
 f319:=Tryz.func194.trans (congrArg some (by kernel_rfl))
 f320:=Tryz.func195.trans (congrArg some (by kernel_rfl))
 f337:=Tryz.func227.trans (congrArg some (by kernel_rfl))
 f338:=Tryz.func228.trans (congrArg some (by kernel_rfl))
 t0:=Tryz.underlying0
 a0:=Tryz.isAgg0
 z0:=Tryz.sizeOf0
 v0:=Tryz.zeroValue0
 t2:=Tryz.underlying2
 a2:=Tryz.isAgg2
 z2:=Tryz.sizeOf2
 v2:=Tryz.zeroValue2
 t3:=Tryz.underlying3
 a3:=Tryz.isAgg3
 z3:=Tryz.sizeOf3
 v3:=Tryz.zeroValue3
 t4:=Tryz.underlying4
 a4:=Tryz.isAgg4
 z4:=Tryz.sizeOf4
 v4:=Tryz.zeroValue4
 t5:=Tryz.underlying5
 a5:=Tryz.isAgg5
 z5:=Tryz.sizeOf5
 v5:=Tryz.zeroValue5
 t9:=Tryz.underlying9
 a9:=Tryz.isAgg9
 z9:=Tryz.sizeOf9
 v9:=Tryz.zeroValue9
 t20:=Tryz.underlying20
 a20:=Tryz.isAgg20
 z20:=Tryz.sizeOf20
 v20:=Tryz.zeroValue20
 t37:=Tryz.underlying107
 a37:=Tryz.isAgg107
 z37:=Tryz.sizeOf107
 v37:=Tryz.zeroValue107
 t46:=Tryz.underlying187
 a46:=Tryz.isAgg187
 z46:=Tryz.sizeOf187
 v46:=Tryz.zeroValue187
 t51:=Tryz.underlying218
 a51:=Tryz.isAgg218
 z51:=Tryz.sizeOf218
 v51:=Tryz.zeroValue218
 t53:=Tryz.underlying82
 a53:=Tryz.isAgg82
 z53:=Tryz.sizeOf82
 v53:=Tryz.zeroValue82
 t171:=Tryz.underlying204
 a171:=Tryz.isAgg204
 z171:=Tryz.sizeOf204
 v171:=Tryz.zeroValue204
 t173:=Tryz.underlying207
 a173:=Tryz.isAgg207
 z173:=Tryz.sizeOf207
 v173:=Tryz.zeroValue207
 t212:=Tryz.underlying232
 a212:=Tryz.isAgg232
 z212:=Tryz.sizeOf232
 v212:=Tryz.zeroValue232
 t213:=Tryz.underlying233
 a213:=Tryz.isAgg233
 z213:=Tryz.sizeOf233
 t232:=Tryz.underlying267
 a232:=Tryz.isAgg267
 z232:=Tryz.sizeOf267
 v232:=Tryz.zeroValue267
 t233:=Tryz.underlying268
 a233:=Tryz.isAgg268
 z233:=Tryz.sizeOf268
 v233:=Tryz.zeroValue268
 g17:=by kernel_rfl
 g18:=by kernel_rfl
 g19:=by kernel_rfl }
open Go.RowKit Go.Sort Go.Lib in
theorem Tryz.strconv_Itoa_small (i:Nat) (hi:i < 100) (w:World):
  Calls Tryz.prog 36 #[.int .i64 i] w fun e w'=>e=.returned (.string ⟨(Lib.decDigits i).toArray⟩)/\w'=w:=Any.strconv_Itoa_small Tryz.TC i hi w
def Tryz.DL:Go.Shelf.Ren:=⟨fun | 145=>40 | 220=>70 | 219=>111 | 217=>161 | 225=>162 | 224=>163 | 267=>164 | 266=>200 | 314=>201 | n=>n,fun | 9=>9 | 4=>4 | 59=>80 | 3=>3 | 5=>5 | 46=>187 | 146=>240 | 51=>218 | n=>n,fun | 1=>0 | n=>n⟩
theorem Tryz.TD:Go.Proofs.Lays.n145 Tryz.prog Tryz.DL:={
 mixed:=by kernel_rfl
 f145:=Tryz.func40.trans (congrArg some (by kernel_rfl))
 f217:=Tryz.func161.trans (congrArg some (by kernel_rfl))
 f219:=Tryz.func111.trans (congrArg some (by kernel_rfl))
 f220:=Tryz.func70.trans (congrArg some (by kernel_rfl))
 f224:=Tryz.func163.trans (congrArg some (by kernel_rfl))
 f225:=Tryz.func162.trans (congrArg some (by kernel_rfl))
 f266:=Tryz.func200.trans (congrArg some (by kernel_rfl))
 f267:=Tryz.func164.trans (congrArg some (by kernel_rfl))
 f314:=Tryz.func201.trans (congrArg some (by kernel_rfl))
 t3:=Tryz.underlying3
 a3:=Tryz.isAgg3
 z3:=Tryz.sizeOf3
 v3:=Tryz.zeroValue3
 t4:=Tryz.underlying4
 a4:=Tryz.isAgg4
 z4:=Tryz.sizeOf4
 v4:=Tryz.zeroValue4
 t5:=Tryz.underlying5
 a5:=Tryz.isAgg5
 z5:=Tryz.sizeOf5
 v5:=Tryz.zeroValue5
 t9:=Tryz.underlying9
 a9:=Tryz.isAgg9
 z9:=Tryz.sizeOf9
 v9:=Tryz.zeroValue9
 t46:=Tryz.underlying187
 a46:=Tryz.isAgg187
 z46:=Tryz.sizeOf187
 v46:=Tryz.zeroValue187
 t51:=Tryz.underlying218
 a51:=Tryz.isAgg218
 z51:=Tryz.sizeOf218
 v51:=Tryz.zeroValue218
 t59:=Tryz.underlying80
 a59:=Tryz.isAgg80
 z59:=Tryz.sizeOf80
 v59:=Tryz.zeroValue80
 t146:=Tryz.underlying240
 a146:=Tryz.isAgg240
 z146:=Tryz.sizeOf240
 v146:=Tryz.zeroValue240
 g1:=by kernel_rfl }
open Go.RowKit Go.Lib in
theorem Tryz.strings_Cut (s sep:ByteArray) (m:Int) (w:World) (hs:s.size < 4294967281) (hm:w.cell? ⟨0,0,none⟩=some (.int .i64 m)):
  Calls Tryz.prog 40 #[.string s,.string sep] w fun e w'=>e=.returned (.tuple #[.string ⟨(Lib.cut s.data.toList sep.data.toList).1.toArray⟩,.string ⟨(Lib.cut s.data.toList sep.data.toList).2.1.toArray⟩,.bool (Lib.cut s.data.toList sep.data.toList).2.2])/\∃ n,w'=w.drewN n:=Any.strings_Cut Tryz.TD s sep m w hs hm
def Tryz.Be:Go.Shelf.Ren:=⟨fun | 219=>111 | 217=>161 | 225=>162 | 224=>163 | 267=>164 | 266=>200 | 314=>201 | n=>n,fun | 9=>9 | 3=>3 | 4=>4 | 5=>5 | 46=>187 | 146=>240 | 51=>218 | n=>n,fun | 1=>0 | n=>n⟩
theorem Tryz.Oo:Go.Proofs.LaysM.n219 Tryz.prog Tryz.Be:={
 mixed:=by kernel_rfl
 f217:=Tryz.func161.trans (congrArg some (by kernel_rfl))
 f219:=Tryz.func111.trans (congrArg some (by kernel_rfl))
 f224:=Tryz.func163.trans (congrArg some (by kernel_rfl))
 f225:=Tryz.func162.trans (congrArg some (by kernel_rfl))
 f266:=Tryz.func200.trans (congrArg some (by kernel_rfl))
 f267:=Tryz.func164.trans (congrArg some (by kernel_rfl))
 f314:=Tryz.func201.trans (congrArg some (by kernel_rfl))
 t3:=Tryz.underlying3
 a3:=Tryz.isAgg3
 z3:=Tryz.sizeOf3
 v3:=Tryz.zeroValue3
 t4:=Tryz.underlying4
 a4:=Tryz.isAgg4
 z4:=Tryz.sizeOf4
 v4:=Tryz.zeroValue4
 t5:=Tryz.underlying5
 a5:=Tryz.isAgg5
 z5:=Tryz.sizeOf5
 v5:=Tryz.zeroValue5
 t9:=Tryz.underlying9
 a9:=Tryz.isAgg9
 z9:=Tryz.sizeOf9
 v9:=Tryz.zeroValue9
 t46:=Tryz.underlying187
 a46:=Tryz.isAgg187
 z46:=Tryz.sizeOf187
 v46:=Tryz.zeroValue187
 t51:=Tryz.underlying218
 a51:=Tryz.isAgg218
 z51:=Tryz.sizeOf218
 v51:=Tryz.zeroValue218
 t146:=Tryz.underlying240
 a146:=Tryz.isAgg240
 z146:=Tryz.sizeOf240
 v146:=Tryz.zeroValue240
 g1:=by kernel_rfl
 i3:=by kernel_rfl
 i4:=by kernel_rfl
 i5:=by kernel_rfl
 i9:=by kernel_rfl
 i46:=by kernel_rfl
 i51:=by kernel_rfl
 i146:=by kernel_rfl
 m1:=by kernel_rfl
 s1_3:=fun w h=>Go.Proofs.cell_of_shapedOpen_int (zero:=#[.int .i64 0]) (t:=3) h (of_decide_eq_true (by kernel_rfl)) (by kernel_rfl) rfl (by kernel_rfl) (by kernel_rfl) Tryz.underlying3 }
def Tryz.GK:Go.Shelf.Ren:=⟨fun | 99=>104 | 206=>148 | n=>n,fun | 9=>9 | 4=>4 | 3=>3 | n=>n,fun | n=>n⟩
theorem Tryz.Wu:Go.Proofs.Lays.n99 Tryz.prog Tryz.GK:={
 mixed:=by kernel_rfl
 f99:=Tryz.func104.trans (congrArg some (by kernel_rfl))
 f206:=Tryz.func148.trans (congrArg some (by kernel_rfl))
 t3:=Tryz.underlying3
 a3:=Tryz.isAgg3
 z3:=Tryz.sizeOf3
 v3:=Tryz.zeroValue3
 t4:=Tryz.underlying4
 a4:=Tryz.isAgg4
 z4:=Tryz.sizeOf4
 v4:=Tryz.zeroValue4
 t9:=Tryz.underlying9
 a9:=Tryz.isAgg9
 z9:=Tryz.sizeOf9
 v9:=Tryz.zeroValue9 }
open Go.RowKit Go.Lib in
theorem Tryz.strings_HasPrefix (s p:ByteArray) (w:World):
  Calls Tryz.prog 104 #[.string s,.string p] w fun e w'=>e=.returned (.bool (Lib.hasPrefix s.data.toList p.data.toList))/\w'=w:=Any.strings_HasPrefix Tryz.Wu s p w
def Tryz.DU:Go.Shelf.Ren:=⟨fun | 101=>113 | 208=>165 | 206=>148 | n=>n,fun | 9=>9 | 4=>4 | 3=>3 | n=>n,fun | n=>n⟩
theorem Tryz.TI:Go.Proofs.Lays.n101 Tryz.prog Tryz.DU:={
 mixed:=by kernel_rfl
 f101:=Tryz.func113.trans (congrArg some (by kernel_rfl))
 f206:=Tryz.func148.trans (congrArg some (by kernel_rfl))
 f208:=Tryz.func165.trans (congrArg some (by kernel_rfl))
 t3:=Tryz.underlying3
 a3:=Tryz.isAgg3
 z3:=Tryz.sizeOf3
 v3:=Tryz.zeroValue3
 t4:=Tryz.underlying4
 a4:=Tryz.isAgg4
 z4:=Tryz.sizeOf4
 v4:=Tryz.zeroValue4
 t9:=Tryz.underlying9
 a9:=Tryz.isAgg9
 z9:=Tryz.sizeOf9
 v9:=Tryz.zeroValue9 }
open Go.RowKit Go.Lib in
theorem Tryz.strings_TrimPrefix (s p:ByteArray) (w:World):
  Calls Tryz.prog 113 #[.string s,.string p] w fun e w'=>e=.returned (.string ⟨(Lib.trimPrefix s.data.toList p.data.toList).toArray⟩)/\w'=w:=Any.strings_TrimPrefix Tryz.TI s p w
def Tryz.DF:Go.Shelf.Ren:=⟨fun | 229=>63 | n=>n,fun | 9=>9 | 40=>127 | 31=>70 | 152=>172 | 3=>3 | 0=>0 | 4=>4 | 21=>21 | 154=>174 | n=>n,fun | n=>n⟩
theorem Tryz.Ty:Go.Proofs.Lays.n229 Tryz.prog Tryz.DF:={
 mixed:=by kernel_rfl
 f229:=Tryz.func63.trans (congrArg some (by kernel_rfl))
 t0:=Tryz.underlying0
 a0:=Tryz.isAgg0
 z0:=Tryz.sizeOf0
 v0:=Tryz.zeroValue0
 t3:=Tryz.underlying3
 a3:=Tryz.isAgg3
 z3:=Tryz.sizeOf3
 v3:=Tryz.zeroValue3
 t4:=Tryz.underlying4
 a4:=Tryz.isAgg4
 z4:=Tryz.sizeOf4
 v4:=Tryz.zeroValue4
 t9:=Tryz.underlying9
 a9:=Tryz.isAgg9
 z9:=Tryz.sizeOf9
 v9:=Tryz.zeroValue9
 t21:=Tryz.underlying21
 a21:=Tryz.isAgg21
 z21:=Tryz.sizeOf21
 v21:=Tryz.zeroValue21
 t31:=Tryz.underlying70
 a31:=Tryz.isAgg70
 z31:=Tryz.sizeOf70
 v31:=Tryz.zeroValue70
 t40:=Tryz.underlying127
 a40:=Tryz.isAgg127
 z40:=Tryz.sizeOf127
 v40:=Tryz.zeroValue127
 t152:=Tryz.underlying172
 a152:=Tryz.isAgg172
 z152:=Tryz.sizeOf172
 v152:=Tryz.zeroValue172
 t154:=Tryz.underlying174
 a154:=Tryz.isAgg174
 z154:=Tryz.sizeOf174
 v154:=Tryz.zeroValue174 }
open Go.RowKit Go.Lib in
theorem Tryz.strings_FieldsFunc (g:Nat) (lb:Array Value) (eg:∀ args w,(callFunc g args).run Tryz.prog w=.ok (.enter g args) w) (p:Nat->Bool) (s:ByteArray) (w:World) (hs:s.size <= 4294967296) (hp:PredAt Tryz.prog g lb encR p w):
  Calls Tryz.prog 63 #[.string s,.func (.func g) #[] lb] w fun e w'=>∃ A,e=.returned (.slice (some ⟨A,0,none⟩) (Lib.goFieldsP p s).length (Lib.goFieldsP p s).length)/\w.heap.size <= A/\
   w'.ownsRow w.heap.size 9 1 (.slice (some ⟨A,0,none⟩) (Lib.goFieldsP p s).length (Lib.goFieldsP p s).length) (Lib.goFieldsP p s).length ((Lib.goFieldsP p s).map Value.string)/\Below w.heap.size w w':=Any.strings_FieldsFunc Tryz.Ty g lb eg p s w hs hp (by kernel_rfl) (by kernel_rfl)
def Tryz.DR:Go.Shelf.Ren:=⟨fun | 109=>67 | n=>n,fun | 31=>70 | 9=>9 | 3=>3 | 0=>0 | 4=>4 | n=>n,fun | n=>n⟩
theorem Tryz.TF:Go.Proofs.Lays.n109 Tryz.prog Tryz.DR:={
 mixed:=by kernel_rfl
 f109:=Tryz.func67.trans (congrArg some (by kernel_rfl))
 t0:=Tryz.underlying0
 a0:=Tryz.isAgg0
 z0:=Tryz.sizeOf0
 v0:=Tryz.zeroValue0
 t3:=Tryz.underlying3
 a3:=Tryz.isAgg3
 z3:=Tryz.sizeOf3
 v3:=Tryz.zeroValue3
 t4:=Tryz.underlying4
 a4:=Tryz.isAgg4
 z4:=Tryz.sizeOf4
 v4:=Tryz.zeroValue4
 t9:=Tryz.underlying9
 a9:=Tryz.isAgg9
 z9:=Tryz.sizeOf9
 v9:=Tryz.zeroValue9
 t31:=Tryz.underlying70
 a31:=Tryz.isAgg70
 z31:=Tryz.sizeOf70
 v31:=Tryz.zeroValue70 }
open Go.Lib in
theorem Tryz.slices_Index_string (b off n c:Nat) (zs:List ByteArray) (x:ByteArray) (w:World) (hz:n <= zs.length) (hbig:n <= 9223372036854775807) (hc:∀ j,j < zs.length->w.cell? ⟨b,off + j,none⟩=some (.string (zs.getD j ByteArray.empty))):
  Calls Tryz.prog 67 #[.slice (some ⟨b,off,none⟩) n c,.string x] w fun e w'=>e=.returned (.int .i64 (Lib.idxOfS (zs.take n) x))/\w'=w:=Any.slices_Index_string Tryz.TF b off n c zs x w hz hbig hc
end Go.Proofs
namespace Go.Proofs.YtceahffmenbibaaGreatDoor
namespace Rd
section
open Go Go.RowKit Go.Proofs
theorem MN (t:Bs):Lib.trimPrefix t [45]=strip t:=by
 unfold Lib.trimPrefix Lib.hasPrefix strip
 cases t with
 | nil=>simp
 | cons c r=>
  by_cases h:c=45
  ·subst h;simp [List.isPrefixOf]
  ·have h':¬ (45:UInt8)=c:=fun e=>h e.symm
   simp [List.isPrefixOf,h,h']
theorem JE (t:Bs):(strip t).length <= t.length:=by
 unfold strip;split <;> simp
theorem Jz (t:ByteArray) (w:World):
  Calls Tryz.prog 113 #[.string t,.string ⟨#[45]⟩] w fun e w'=>∃ x:ByteArray,e=.returned (.string x)/\Hid (x.data.toList=strip t.data.toList)/\w'=w:=by
 refine (Tryz.strings_TrimPrefix t _ _).mono ?_;rintro e w' ⟨rfl,rfl⟩;exact ⟨_,rfl,MN _,rfl⟩
theorem qC {x:ByteArray} {l:Bs} (h:x.data.toList=l):x.size=l.length:=by rw [<- h];simp
theorem pY (t v:ByteArray) (w:World) (ht:t.size <= maxLen) (hv:v.size <= maxLen):
  Calls Tryz.prog 72 #[.string t,.string v] w fun e w'=>e=.returned (.bool (jf v.data.toList t.data.toList))/\w'=w:=by
 go_enter Tryz.func72,Tryz.ntmps72
 go_wp2_with fail
 refine (Jz t _).mono ?_;rintro e w' ⟨x,rfl,hx,rfl⟩;have hz:x.size <= maxLen:=by rw [qC hx.out];have:=JE t.data.toList;simp at this;omega
 have E0:Hid (jf v.data.toList t.data.toList=(dN x.data.toList && !(x.data.toList == [48]) && !above x.data.toList v.data.toList)):=by
  unfold Hid jf;rw [hx.out]
 clear hx;by_cases c1:dN x.data.toList=true
 ·by_cases c2:(!x.toList == [48])=true
  ·have E:Hid (jf v.data.toList t.data.toList=!above x.data.toList v.data.toList):=by
    unfold Hid;rw [E0.out,c1];rw [ByteArray.toList_eq] at c2;rw [c2];simp
   clear E0;have HC:=hide c1;clear c1;go_wp2_with fail
   refine (iy x _ hz).mono ?_;rintro e w1 ⟨rfl,rfl⟩;rw [HC.out];go_wp2_with fail
   refine (uC x v _ hz hv).mono ?_;rintro e w2 ⟨rfl,rfl⟩;go_wp2;go_ret;exact ⟨bZ (by rw [E.out]),rfl⟩
  ·have c2':(!x.toList == [48])=false:=by simpa using c2
   clear c2;have E:Hid (jf v.data.toList t.data.toList=false):=by
    unfold Hid;rw [E0.out,c1];rw [ByteArray.toList_eq] at c2';rw [c2'];simp
   clear E0;have HC:=hide c1;clear c1;go_wp2_with fail
   refine (iy x _ hz).mono ?_;rintro e w1 ⟨rfl,rfl⟩;rw [HC.out];go_wp2;go_ret;exact ⟨bZ (by rw [E.out]),rfl⟩
 ·have c1':dN x.data.toList=false:=by simpa using c1
  clear c1;have E:Hid (jf v.data.toList t.data.toList=false):=by
   unfold Hid;rw [E0.out,c1'];simp
  clear E0;have HC:=hide c1';clear c1';go_wp2_with fail
  refine (iy x _ hz).mono ?_;rintro e w1 ⟨rfl,rfl⟩;rw [HC.out];go_wp2;go_ret;exact ⟨bZ (by rw [E.out]),rfl⟩
def ZI (r:Nat):Bool:=r == 32 || r == 9 || r == 10
theorem KO (r:Nat) (w:World):
  Calls Tryz.prog 64 #[.int .i32 r] w fun e w'=>e=.returned (.bool (ZI r))/\w'=w:=by
 have e1:((r:Int) == 32)=(r == 32):=by rw [Bool.eq_iff_iff];simp;omega
 have e2:((r:Int) == 9)=(r == 9):=by rw [Bool.eq_iff_iff];simp;omega
 have e3:((r:Int) == 10)=(r == 10):=by rw [Bool.eq_iff_iff];simp;omega
 cases c1:(r == 32) <;> cases c2:(r == 9) <;> cases c3:(r == 10)
 all_goals
  rw [c1] at e1;rw [c2] at e2;rw [c3] at e3
  have E:Hid (ZI r=((r == 32) || (r == 9) || (r == 10))):=rfl;rw [c1,c2,c3] at E;clear c1 c2 c3;go_enter Tryz.func64,Tryz.ntmps64
  go_wp2;go_ret
  exact ⟨bZ (by rw [E.out];rfl),rfl⟩
theorem zN:∀ (l:Bs),Lib.index l [10]=if ended l then ((line l).length:Int) else -1
 | []=>by simp [Lib.index,ended,line]
 | c :: r=>by
  have ih:=zN r;by_cases h:c=10
  ·subst h;simp [Lib.index,ended,line,List.isPrefixOf]
  ·have h':¬ (10:UInt8)=c:=fun e=>h e.symm
   unfold Lib.index;rw [show List.isPrefixOf [10] (c :: r)=false from by simp [List.isPrefixOf,h'],ih]
   have e1:line (c :: r)=c :: line r:=by simp [line,h]
   have e2:ended (c :: r)=ended r:=by simp [ended,e1]
   rw [e2,e1];cases ended r <;> simp
theorem Uk (l:Bs):Lib.cut l [10]=if ended l then (line l,rest l,true) else (l,[],false):=by
 unfold Lib.cut;rw [zN]
 cases h:ended l with
 | true=>
  have ht:l.take (line l).length=line l:=by
   unfold line;have:=List.takeWhile_prefix (l:=l) (p:=fun c=>!(c == 10))
   exact (List.prefix_iff_eq_take.1 this).symm
  simp [ht,rest]
 | false=>simp
theorem PD (s:ByteArray) (m:Int) (w:World) (hs:s.size <= 20000) (hm:w.cell? ⟨0,0,none⟩=some (.int .i64 m)):
  Calls Tryz.prog 40 #[.string s,.string ⟨#[10]⟩] w fun e w'=>∃ x y:ByteArray,e=.returned (.tuple #[.string x,.string y,.bool (ended s.data.toList)])/\
   Hid (x.data.toList=if ended s.data.toList then line s.data.toList else s.data.toList)/\Hid (y.data.toList=if ended s.data.toList then rest s.data.toList else [])/\∃ n,w'=w.drewN n:=by
 refine (Tryz.strings_Cut s _ m _ (by omega) hm).mono ?_
 rintro e w' ⟨rfl,hn⟩;rw [show Lib.cut s.data.toList (⟨#[10]⟩:ByteArray).data.toList=_ from Uk _]
 cases ended s.data.toList
 ·exact ⟨_,_,rfl,rfl,rfl,hn⟩
 ·exact ⟨_,_,rfl,rfl,rfl,hn⟩
theorem Oi (l:Bs):(line l).length <= l.length:=by unfold line;exact (List.takeWhile_prefix _).length_le
theorem CQ {l:Bs} (h:ended l=true):(rest l).length < l.length:=by
 simp [ended] at h;simp [rest];omega
theorem Eg (l:Bs):Lib.hasPrefix l [99]=(l.head? == some 99):=by
 unfold Lib.hasPrefix
 cases l with
 | nil=>rfl
 | cons c r=>
  by_cases h:c=99
  ·subst h;simp [List.isPrefixOf]
  ·have h1:((99:UInt8) == c)=false:=by simpa using fun e=>h e.symm
   have h2:(c == (99:UInt8))=false:=by simpa using h
   simp [List.isPrefixOf,h1,h2]
def fJ:Nat->Bs->Option Bs
 | 0,_=>none
 | f + 1,l=>if Lib.hasPrefix l [99] then (if ended l && comment (line l) then fJ f (rest l) else none) else some l
def oZ:Value->Nat
 | .string x=>x.size
 | _=>0
theorem sF (s:ByteArray) (m:Int) (w:World) (hs:s.size <= 20000) (hm:w.cell? ⟨0,0,none⟩=some (.int .i64 m)):
  Calls Tryz.prog 60 #[.string s] w fun e w'=>(∃ n,w'=w.drewN n)/\∃ x:ByteArray,
   ((fJ (s.size + 1) s.data.toList=none/\e=.returned (.tuple #[.string x,.bool false])) \/
    (fJ (s.size + 1) s.data.toList=some x.data.toList/\x.size <= 20000/\e=.returned (.tuple #[.string x,.bool true]))):=by
 go_enter Tryz.func60,Tryz.ntmps60
 go_wp2;go_loopw [0,4,5,6] (fun t _ _ _ wr=>∃ (x:ByteArray) (f n:Nat),t=.string x/\x.size < f/\x.size <= 20000/\wr=w.drewN n/\Hid (fJ f x.data.toList=fJ (s.size + 1) s.data.toList)) (fun t _ _ _ _=>oZ t)
 case atStart=>exact ⟨s,s.size + 1,0,rfl,by omega,hs,rfl,rfl⟩
 case round=>
  obtain ⟨x,f,n,rfl,hf,hx,rfl,HF⟩:=hrel;obtain ⟨g,rfl⟩:∃ g,f=g + 1:=⟨f - 1,by omega⟩
  have hmn:(w.drewN n).cell? ⟨0,0,none⟩=some (.int .i64 m):=hm;go_wp2_with fail
  refine (Tryz.strings_HasPrefix x _ _).mono ?_;rintro e w' ⟨rfl,rfl⟩
  cases c0:Lib.hasPrefix x.data.toList (⟨#[99]⟩:ByteArray).data.toList with
  | false=>
   have E:Hid (fJ (g + 1) x.data.toList=some x.data.toList):=by unfold Hid fJ;rw [show Lib.hasPrefix x.data.toList [99]=false from c0];rfl
   clear c0;go_wp2;go_ret2;exact ⟨⟨n,rfl⟩,x,.inr ⟨HF.out.symm.trans E.out,hx,rfl⟩⟩
  | true=>
   have C0:=hide c0;clear c0;go_wp2_with fail
   refine (PD x m _ hx hmn).mono ?_;rintro e w1 ⟨y,z,rfl,hy,hz,n1,rfl⟩
   cases c1:ended x.data.toList with
   | false=>
    have E:Hid (fJ (g + 1) x.data.toList=none):=by unfold Hid fJ;rw [show Lib.hasPrefix x.data.toList [99]=true from C0.out,c1];rfl
    clear c1 hy hz;go_wp2;go_ret2;exact ⟨⟨_,rfl⟩,_,.inl ⟨HF.out.symm.trans E.out,rfl⟩⟩
   | true=>
    have hy':Hid (y.data.toList=line x.data.toList):=by unfold Hid;rw [hy.out,c1];rfl
    have hz':Hid (z.data.toList=rest x.data.toList):=by unfold Hid;rw [hz.out,c1];rfl
    have hzs:z.size < x.size:=by rw [qC hz'.out];have:=CQ c1;simp at this;exact this
    have E0:Hid (fJ (g + 1) x.data.toList=if comment y.data.toList then fJ g z.data.toList else none):=by
     unfold Hid;rw [hy'.out,hz'.out,fJ];rw [show Lib.hasPrefix x.data.toList [99]=true from C0.out,c1];simp
    clear hy hz c1 hy' hz';by_cases c2:(!y.toList == [99])=true
    ·cases c3:Lib.hasPrefix y.data.toList (⟨#[99,32]⟩:ByteArray).data.toList with
     | false=>
      have E:Hid (fJ (g + 1) x.data.toList=none):=by
       unfold Hid;rw [E0.out];unfold comment;rw [show Lib.hasPrefix y.data.toList [99,32]=false from c3,<- ByteArray.toList_eq]
       simp at c2;simp [c2]
      have C3:=hide c3;clear c3;go_wp2_with fail
      refine (Tryz.strings_HasPrefix y _ _).mono ?_;rintro e w2 ⟨rfl,rfl⟩;rw [C3.out];go_wp2;go_ret2;exact ⟨⟨_,rfl⟩,_,.inl ⟨HF.out.symm.trans E.out,rfl⟩⟩
     | true=>
      have E:Hid (fJ (g + 1) x.data.toList=fJ g z.data.toList):=by
       unfold Hid;rw [E0.out];unfold comment;rw [show Lib.hasPrefix y.data.toList [99,32]=true from c3];simp
      have C3:=hide c3;clear c3;go_wp2_with fail
      refine (Tryz.strings_HasPrefix y _ _).mono ?_;rintro e w2 ⟨rfl,rfl⟩;rw [C3.out];go_wp2;go_roundw
      case rel=>exact ⟨z,g,n + n1,rfl,by omega,by omega,rfl,E.out.symm.trans HF.out⟩
      case measure=>simpa [oZ] using hzs
    ·have c2':(!y.toList == [99])=false:=by simpa using c2
     clear c2;have E:Hid (fJ (g + 1) x.data.toList=fJ g z.data.toList):=by
      unfold Hid;rw [E0.out];unfold comment;rw [<- ByteArray.toList_eq];simp at c2';simp [c2']
     go_wp2;go_roundw
     case rel=>exact ⟨z,g,n + n1,rfl,by omega,by omega,rfl,E.out.symm.trans HF.out⟩
     case measure=>simpa [oZ] using hzs
end
section
open Go Go.RowKit Go.Proofs
abbrev iq:Bs:=[112,32,99,110,102,32]
def oH (l:Bs):Option (Bs × Bs × Bs):=
 if ended l && Lib.hasPrefix (line l) iq && (Lib.cut (Lib.trimPrefix (line l) iq) [32]).2.2 && dN (Lib.cut (Lib.trimPrefix (line l) iq) [32]).1 && dN (Lib.cut (Lib.trimPrefix (line l) iq) [32]).2.1
 then some ((Lib.cut (Lib.trimPrefix (line l) iq) [32]).1,(Lib.cut (Lib.trimPrefix (line l) iq) [32]).2.1,rest l) else none
theorem PG (l sep:Bs):(Lib.cut l sep).1.length <= l.length:=by unfold Lib.cut;split <;> simp;omega
theorem PE (l sep:Bs):(Lib.cut l sep).2.1.length <= l.length:=by unfold Lib.cut;split <;> simp
theorem MI (l p:Bs):(Lib.trimPrefix l p).length <= l.length:=by unfold Lib.trimPrefix;split <;> simp
theorem EJ {l y t a b:Bs} (hy:y=if ended l then line l else l) (ht:t=Lib.trimPrefix y iq) (ha:a=(Lib.cut t [32]).1) (hb:b=(Lib.cut t [32]).2.1):
  (oH l).isSome=(ended l && Lib.hasPrefix y iq && (Lib.cut t [32]).2.2 && dN a && dN b):=by
 unfold oH
 cases e1:ended l with
 | false=>rfl
 | true=>
  rw [e1,if_pos rfl] at hy;subst hy ht ha hb;cases (true && Lib.hasPrefix (line l) iq && (Lib.cut (Lib.trimPrefix (line l) iq) [32]).2.2 && dN (Lib.cut (Lib.trimPrefix (line l) iq) [32]).1 && dN (Lib.cut (Lib.trimPrefix (line l) iq) [32]).2.1) <;> rfl
theorem Hr {l y z t a b:Bs} (hy:y=if ended l then line l else l) (hz:z=if ended l then rest l else []) (ht:t=Lib.trimPrefix y iq) (ha:a=(Lib.cut t [32]).1) (hb:b=(Lib.cut t [32]).2.1):
  ∀ o,oH l=some o->o=(a,b,z):=by
 intro o ho;unfold oH at ho
 cases e1:ended l with
 | false=>rw [e1] at ho;simp at ho
 | true=>
  rw [e1,if_pos rfl] at hy hz;subst hy hz ht ha hb;split at ho
  ·exact (Option.some.inj ho).symm
  ·cases ho
theorem xA (s:ByteArray) (m:Int) (w:World) (hs:s.size <= 20000) (hm:w.cell? ⟨0,0,none⟩=some (.int .i64 m)):
  Calls Tryz.prog 61 #[.string s] w fun e w'=>(∃ n,w'=w.drewN n)/\∃ a b z:ByteArray,e=.returned (.tuple #[.string a,.string b,.string z,.bool (oH s.data.toList).isSome])/\
   (∀ o,oH s.data.toList=some o->o=(a.data.toList,b.data.toList,z.data.toList))/\a.size <= 20000/\b.size <= 20000/\z.size <= 20000:=by
 go_enter Tryz.func61,Tryz.ntmps61
 go_wp2_with fail
 refine (PD s m _ hs hm).mono ?_;rintro e w1 ⟨y,z,rfl,hy,hz,n1,rfl⟩;have hys:y.size <= 20000:=by
  rw [qC hy.out];split
  ·have:=Oi s.data.toList;simp at this;omega
  ·simpa using hs
 have hzs:z.size <= 20000:=by
  rw [qC hz.out];split
  ·simp [rest];omega
  ·simp
 go_wp2_with fail
 refine (Tryz.strings_CutPrefix y _ _).mono ?_;rintro e w2 ⟨rfl,rfl⟩;obtain ⟨t,ht⟩:∃ t:ByteArray,t=⟨(Lib.trimPrefix y.data.toList (⟨#[112,32,99,110,102,32]⟩:ByteArray).data.toList).toArray⟩:=⟨_,rfl⟩;rw [<- ht];have HT:Hid (t.data.toList=Lib.trimPrefix y.data.toList iq):=by unfold Hid;rw [ht]
 clear ht;have hts:t.size <= 20000:=by rw [qC HT.out];have:=MI y.data.toList iq;simp at this;omega
 cases c2:Lib.hasPrefix y.data.toList (⟨#[112,32,99,110,102,32]⟩:ByteArray).data.toList
 all_goals
  have C2:=hide c2;clear c2;go_wp2_with fail
  refine (Tryz.strings_Cut t _ m _ (by omega) (by exact hm)).mono ?_
  rintro e w3 ⟨rfl,n3,rfl⟩;obtain ⟨a,ha⟩:∃ a:ByteArray,a=⟨(Lib.cut t.data.toList (⟨#[32]⟩:ByteArray).data.toList).1.toArray⟩:=⟨_,rfl⟩;obtain ⟨b,hb⟩:∃ b:ByteArray,b=⟨(Lib.cut t.data.toList (⟨#[32]⟩:ByteArray).data.toList).2.1.toArray⟩:=⟨_,rfl⟩;rw [<- ha,<- hb];have HA:Hid (a.data.toList=(Lib.cut t.data.toList [32]).1):=by unfold Hid;rw [ha]
  have HB:Hid (b.data.toList=(Lib.cut t.data.toList [32]).2.1):=by unfold Hid;rw [hb]
  clear ha hb;have has:a.size <= 20000:=by rw [qC HA.out];have:=PG t.data.toList [32];simp at this;omega
  have hbs:b.size <= 20000:=by rw [qC HB.out];have:=PE t.data.toList [32];simp at this;omega
  cases c3:(Lib.cut t.data.toList (⟨#[32]⟩:ByteArray).data.toList).2.2
  all_goals
   have C3:=hide c3;clear c3;cases c1:ended s.data.toList
   all_goals
    have C1:=hide c1;clear c1;cases c4:dN a.data.toList
    all_goals
     have C4:=hide c4;clear c4;cases c5:dN b.data.toList
     all_goals
      have C5:=hide c5;clear c5
      go_wp2_with (first | (go_at_call_of 105 (Value.string a);refine (iy a _ (by unfold maxLen;omega)).mono ?_;rintro e w4 ⟨rfl,rfl⟩;rw [C4.out]) | (go_at_call_of 105 (Value.string b);refine (iy b _ (by unfold maxLen;omega)).mono ?_;rintro e w5 ⟨rfl,rfl⟩;rw [C5.out]))
      have EQ:=EJ hy.out HT.out HA.out HB.out;rw [C1.out,show Lib.hasPrefix y.data.toList iq=_ from C2.out,show (Lib.cut t.data.toList [32]).2.2=_ from C3.out,C4.out,C5.out] at EQ
      refine bodyPost_ret (v:=.tuple #[.string a,.string b,.string z,.bool (oH s.data.toList).isSome]) (by rw [EQ];simp [results,Tryz.results61,go_sem]) rfl ⟨⟨_,rfl⟩,a,b,z,rfl,Hr hy.out hz.out HT.out HA.out HB.out,has,hbs,hzs⟩
end
end Rd
end Go.Proofs.YtceahffmenbibaaGreatDoor
